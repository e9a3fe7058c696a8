/- Cards put in order by the library's stable sort, of any number (up to 1000). -/
import Derived.Test.YtkhmaaalmlnblaaBs
import Derived.Test.YtkhmaaalmlnblaaSymS
import Derived.Test.YtkhmaaalmlnblaaBe
namespace Go.Proofs.Ytkhmaaalmlnblaa
open Go.RowKit
set_option linter.unusedVariables false
set_option linter.unusedSimpArgs false
set_option linter.unusedSectionVars false

def cdSy_ren : Go.Shelf.Ren := ⟨fun | 20 => 62 | 81 => 70 | 80 => 67 | 79 => 63 | 77 => 55 | n => n, fun | 0 => 0 | 3 => 3 | 4 => 4 | 22 => 27 | 25 => 87 | 24 => 33 | 39 => 109 | n => n, fun n => n⟩
theorem cdSy20 : SlLaysF0.n20 Try.prog cdSy_ren := { mixed := by kernel_rfl, f20 := ⟨Try.f62.name, by decide, Try.func62.trans (congrArg some (by kernel_rfl))⟩, t0 := Try.underlying0, a0 := Try.isAgg0, z0 := Try.sizeOf0, v0 := Try.zeroValue0, t3 := Try.underlying3, a3 := Try.isAgg3, z3 := Try.sizeOf3, v3 := Try.zeroValue3, t4 := Try.underlying4, a4 := Try.isAgg4, z4 := Try.sizeOf4, v4 := Try.zeroValue4, t22 := Try.underlying27, a22 := Try.isAgg27, z22 := Try.sizeOf27, v22 := Try.zeroValue27, t25 := Try.underlying87, a25 := Try.isAgg87, z25 := Try.sizeOf87, v25 := Try.zeroValue87 }
theorem cdSy : SyL Try.prog cdSy_ren := { l20 := cdSy20, f81 := ⟨Try.f70.name, by decide, Try.func70.trans (congrArg some (by kernel_rfl))⟩, f80 := ⟨Try.f67.name, by decide, Try.func67.trans (congrArg some (by kernel_rfl))⟩, f79 := ⟨Try.f63.name, by decide, Try.func63.trans (congrArg some (by kernel_rfl))⟩, f77 := ⟨Try.f55.name, by decide, Try.func55.trans (congrArg some (by kernel_rfl))⟩, t39 := Try.underlying109, a39 := Try.isAgg109, z39 := Try.sizeOf109, v39 := Try.zeroValue109 }

set_option maxRecDepth 100000 in
set_option maxHeartbeats 1000000 in
theorem stbAny (base g n c : Nat) (ls : List Cd) (w : World) (h : OwnC base w (.slice (some ⟨g, 0, none⟩) n c) ls) (hn : ls.length = n) (h20 : n ≤ 1000) :
    Calls Try.prog 55 #[.slice (some ⟨g, 0, none⟩) n c, .int .i64 n, .func (.func 37) #[] #[]] w fun e w' => e = .returned (.tuple #[]) ∧ OwnC base w' (.slice (some ⟨g, 0, none⟩) n c) (srt klt ls) ∧ Rim g w w' := by
  obtain ⟨hH, hlt⟩ := own_holds h
  have hcon := syStb cdSy 9 Try.isAgg33 Try.sizeOf33 cc 37 #[] g 0 c kcmp n ls.toArray w ⟨cc_len, cc_one, hH, hlt⟩ (by simpa using hn) (enters_of Try.func37 (by kernel_rfl) rfl) (fun m os dk hs x y => sortClosure x y _) klt_weak (by omega) ls.toArray w (by simpa using hn) (SWK.start hH)
  refine Calls.mono hcon ?_
  rintro e w' ⟨rfl, d', hz, hl, q, os, rfl⟩
  exact ⟨rfl, sort_own h hn (by rw [srt_len, hn]) q os d' hl⟩

set_option maxRecDepth 100000 in
set_option maxHeartbeats 1000000 in
theorem ssfAny (base g n c : Nat) (ls : List Cd) (w : World) (h : OwnC base w (.slice (some ⟨g, 0, none⟩) n c) ls) (hn : ls.length = n) (h20 : n ≤ 1000) :
    Calls Try.prog 36 #[.slice (some ⟨g, 0, none⟩) n c, .func (.func 37) #[] #[]] w fun e w' => e = .returned (.tuple #[]) ∧ OwnC base w' (.slice (some ⟨g, 0, none⟩) n c) (srt klt ls) ∧ Rim g w w' := by
  go_enter Try.func36, Try.ntmps36
  go_wp2_with fail
  refine (stbAny base g n c ls _ h hn h20).mono ?_
  rintro e w2 ⟨rfl, ho2, hr2⟩
  go_wp2
  go_end0
  exact ⟨rfl, ho2, hr2⟩

set_option maxRecDepth 100000 in
set_option maxHeartbeats 1000000 in
theorem cardSortAny (a : Option Addr) (n c : Nat) (ls : List Cd) (w : World) (h : CAt w a ls) (hl : ls.length = n) (hn : n ≤ 1000) (hf : (a = none ∧ c = 0) ∨ ∃ b o, a = some ⟨b, o, none⟩) :
    Calls Try.prog 20 #[.slice a n c] w fun e w' => ∃ v', e = .returned v' ∧ OwnC w.heap.size w' v' (srt klt ls) ∧ Below w.heap.size w w' := by
  go_enter Try.func20, Try.ntmps20
  go_wp2_with fail
  refine (cloneC a n c ls _ h hl (by omega) hf).mono ?_
  rintro e w1 ⟨v', rfl, ho, hb⟩
  obtain ⟨a1, c1, rfl, h1, h2, h3, hge, hf1⟩ := ho.read
  rw [hl] at ho h1 ⊢
  rcases hf1 with ⟨rfl, rfl, hnil⟩ | ⟨g, rfl⟩
  · have h0 : n = 0 := by rw [← hl, hnil]; rfl
    subst h0
    go_wp2_with fail
    refine (ssfNil _).mono ?_
    rintro e w2 ⟨rfl, hb2⟩
    go_wp2
    go_ret
    exact ⟨_, rfl, by rw [hnil]; exact OwnR.nil _ _, ext_trans hb hb2⟩
  · have hgw : w.heap.size ≤ g := (hge g 0 rfl).1
    have HB := hb
    go_wp2_with fail
    refine (ssfAny w.heap.size g n c1 ls _ ho hl hn).mono ?_
    rintro e w2 ⟨rfl, ho2, hr2⟩
    go_wp2
    go_ret
    exact ⟨_, rfl, ho2, HB.trans (hr2.below hgw HB.size)⟩

end Go.Proofs.Ytkhmaaalmlnblaa
