/- Package sweep: tardies put in order; rows of entries, of keys. -/
import Derived.Test.YtohiimfojlcomaaSweepW
import Derived.Test.YtohiimfojlcomaaSymS
namespace Go.Proofs.Ytohiimfojlcomaa
open Go.RowKit
set_option linter.unusedVariables false
set_option linter.unusedSimpArgs false
set_option linter.unusedSectionVars false

def tdLays_ren : Go.Shelf.Ren := ⟨fun | 20 => 40 | n => n, fun | 0 => 0 | 3 => 3 | 4 => 4 | 22 => 56 | 25 => 61 | 24 => 59 | n => n, fun n => n⟩
theorem tdLays : SlLaysF0.n20 Try.prog tdLays_ren := { mixed := by kernel_rfl, f20 := ⟨Try.f40.name, by decide, Try.func40.trans (congrArg some (by kernel_rfl))⟩, t0 := Try.underlying0, a0 := Try.isAgg0, z0 := Try.sizeOf0, v0 := Try.zeroValue0, t3 := Try.underlying3, a3 := Try.isAgg3, z3 := Try.sizeOf3, v3 := Try.zeroValue3, t4 := Try.underlying4, a4 := Try.isAgg4, z4 := Try.sizeOf4, v4 := Try.zeroValue4, t22 := Try.underlying56, a22 := Try.isAgg56, z22 := Try.sizeOf56, v22 := Try.zeroValue56, t25 := Try.underlying61, a25 := Try.isAgg61, z25 := Try.sizeOf61, v25 := Try.zeroValue61 }
def tdSy_ren : Go.Shelf.Ren := ⟨fun | 20 => 40 | 81 => 45 | 80 => 43 | 79 => 41 | 77 => 35 | n => n, fun | 0 => 0 | 3 => 3 | 4 => 4 | 22 => 56 | 25 => 61 | 24 => 59 | 39 => 77 | n => n, fun n => n⟩
theorem tdSy20 : SlLaysF0.n20 Try.prog tdSy_ren := { mixed := by kernel_rfl, f20 := ⟨Try.f40.name, by decide, Try.func40.trans (congrArg some (by kernel_rfl))⟩, t0 := Try.underlying0, a0 := Try.isAgg0, z0 := Try.sizeOf0, v0 := Try.zeroValue0, t3 := Try.underlying3, a3 := Try.isAgg3, z3 := Try.sizeOf3, v3 := Try.zeroValue3, t4 := Try.underlying4, a4 := Try.isAgg4, z4 := Try.sizeOf4, v4 := Try.zeroValue4, t22 := Try.underlying56, a22 := Try.isAgg56, z22 := Try.sizeOf56, v22 := Try.zeroValue56, t25 := Try.underlying61, a25 := Try.isAgg61, z25 := Try.sizeOf61, v25 := Try.zeroValue61 }
theorem tdSy : SyL Try.prog tdSy_ren := { l20 := tdSy20, f81 := ⟨Try.f45.name, by decide, Try.func45.trans (congrArg some (by kernel_rfl))⟩, f80 := ⟨Try.f43.name, by decide, Try.func43.trans (congrArg some (by kernel_rfl))⟩, f79 := ⟨Try.f41.name, by decide, Try.func41.trans (congrArg some (by kernel_rfl))⟩, f77 := ⟨Try.f35.name, by decide, Try.func35.trans (congrArg some (by kernel_rfl))⟩, t39 := Try.underlying77, a39 := Try.isAgg77, z39 := Try.sizeOf77, v39 := Try.zeroValue77 }


abbrev OwnT (base : Nat) (w : World) (v : Value) (ls : List Td) : Prop := OwnR tc 3 59 base w v ls
/-- keys -/
abbrev Ky := ByteArray × ByteArray
def ky (k : Ky) : List Value := [.string k.1, .string k.2]
theorem ky_len (k : Ky) : (ky k).length = 2 := rfl
theorem ky_one (k : Ky) : ∀ u ∈ ky k, u.oneCell' = true := by
  intro u hu
  simp only [ky, List.mem_cons, List.not_mem_nil, or_false] at hu
  rcases hu with rfl | rfl <;> rfl
abbrev OwnK (base : Nat) (w : World) (v : Value) (ls : List Ky) : Prop := OwnR ky 2 30 base w v ls
abbrev KyAt (w : World) (a : Option Addr) (ls : List Ky) : Prop := SAt ky 2 30 w a ls
/-- entries -/
def ec (e : En) : List Value := [.string e.c.a, .string e.c.i, .int .i64 e.c.s, .int .i64 e.c.o, .int .i64 e.c.l, .int .i64 e.c.t, .int .i64 e.c.k, .int .i64 e.c.n, .bool e.c.g, .int .i64 e.seen]
theorem ec_len (e : En) : (ec e).length = 10 := rfl
theorem ec_one (e : En) : ∀ u ∈ ec e, u.oneCell' = true := by
  intro u hu
  simp only [ec, List.mem_cons, List.not_mem_nil, or_false] at hu
  rcases hu with rfl | rfl | rfl | rfl | rfl | rfl | rfl | rfl | rfl | rfl <;> rfl
abbrev OwnE (base : Nat) (w : World) (v : Value) (ls : List En) : Prop := OwnR ec 10 36 base w v ls
abbrev EAt (w : World) (a : Option Addr) (ls : List En) : Prop := SAt ec 10 36 w a ls
theorem EAt.at {w : World} {b o i : Nat} {ls : List En} {x : En} (h : EAt w (some ⟨b, o, none⟩) ls) (hi : ls[i]? = some x) :
    w.cell? ⟨b, o + i * 10, none⟩ = some (.string x.c.a) ∧ w.cell? ⟨b, o + i * 10 + 1, none⟩ = some (.string x.c.i) ∧ w.cell? ⟨b, o + i * 10 + 2, none⟩ = some (.int .i64 x.c.s) ∧ w.cell? ⟨b, o + i * 10 + 3, none⟩ = some (.int .i64 x.c.o) ∧ w.cell? ⟨b, o + i * 10 + 4, none⟩ = some (.int .i64 x.c.l) ∧ w.cell? ⟨b, o + i * 10 + 5, none⟩ = some (.int .i64 x.c.t) ∧ w.cell? ⟨b, o + i * 10 + 6, none⟩ = some (.int .i64 x.c.k) ∧ w.cell? ⟨b, o + i * 10 + 7, none⟩ = some (.int .i64 x.c.n) ∧ w.cell? ⟨b, o + i * 10 + 8, none⟩ = some (.bool x.c.g) ∧ w.cell? ⟨b, o + i * 10 + 9, none⟩ = some (.int .i64 x.seen) :=
  ⟨h.get ec_len hi 0 _ rfl, h.get ec_len hi 1 _ rfl, h.get ec_len hi 2 _ rfl, h.get ec_len hi 3 _ rfl, h.get ec_len hi 4 _ rfl, h.get ec_len hi 5 _ rfl, h.get ec_len hi 6 _ rfl, h.get ec_len hi 7 _ rfl, h.get ec_len hi 8 _ rfl, h.get ec_len hi 9 _ rfl⟩
theorem KyAt.at {w : World} {b o i : Nat} {ls : List Ky} {x : Ky} (h : KyAt w (some ⟨b, o, none⟩) ls) (hi : ls[i]? = some x) :
    w.cell? ⟨b, o + i * 2, none⟩ = some (.string x.1) ∧ w.cell? ⟨b, o + i * 2 + 1, none⟩ = some (.string x.2) :=
  ⟨h.get ky_len hi 0 _ rfl, h.get ky_len hi 1 _ rfl⟩
theorem TAt.at {w : World} {b o i : Nat} {ls : List Td} {x : Td} (h : SAt tc 3 59 w (some ⟨b, o, none⟩) ls) (hi : ls[i]? = some x) :
    w.cell? ⟨b, o + i * 3, none⟩ = some (.string x.a) ∧ w.cell? ⟨b, o + i * 3 + 1, none⟩ = some (.string x.i) ∧ w.cell? ⟨b, o + i * 3 + 2, none⟩ = some (.int .i64 x.by_) :=
  ⟨h.get tc_len hi 0 _ rfl, h.get tc_len hi 1 _ rfl, h.get tc_len hi 2 _ rfl⟩
theorem info_td : (Try.prog.info? 59).map (fun i => (i.zero, i.size, i.bytes)) = some (some (.agg #[.string ⟨#[]⟩, .string ⟨#[]⟩, .int .i64 0]), 3, 40) := by kernel_rfl
theorem info_ky : (Try.prog.info? 30).map (fun i => (i.zero, i.size, i.bytes)) = some (some (.agg #[.string ⟨#[]⟩, .string ⟨#[]⟩]), 2, 32) := by kernel_rfl
theorem info_en : (Try.prog.info? 36).map (fun i => (i.zero, i.size, i.bytes)) = some (some En.zero.v, 10, 96) := by kernel_rfl

set_option maxRecDepth 100000 in
set_option maxHeartbeats 1000000 in
theorem insSort (base g n c : Nat) (ls : List Td) (w : World) (h : OwnT base w (.slice (some ⟨g, 0, none⟩) n c) ls) (hn : ls.length = n) (h20 : n ≤ 1000) :
    Calls Try.prog 40 #[.slice (some ⟨g, 0, none⟩) n c, .int .i64 0, .int .i64 n, .func (.func 25) #[] #[]] w fun e w' => e = .returned (.tuple #[]) ∧ OwnT base w' (.slice (some ⟨g, 0, none⟩) n c) (srt tlt ls) ∧ Rim g w w' := by
  obtain ⟨hH, hlt⟩ := ownG_holds tc_len (by decide) h
  have hcon := AnyQ.insertionSortCmpFunc (a := 0) (b := n) tdLays 3 Try.isAgg59 Try.sizeOf59 tc tc_len tc_one tcmp 25 #[] g 0 c ls.toArray w (enters_of Try.func25 (by kernel_rfl) rfl) (fun m os dk hs x y => sweepCompare x y _) hH hlt (Nat.zero_le _) (by simp; omega) (by simp; omega)
  rw [show ls.toArray.size = n from by simpa using hn] at hcon
  refine Calls.mono hcon ?_
  rintro e w' ⟨rfl, q, os, rfl⟩
  exact ⟨rfl, sortG_own tc_len (by decide) h hn (by rw [srt_len, hn]) q os _ (by
    have := sort_list tlt ls
    rw [hn] at this
    exact this)⟩

set_option maxRecDepth 100000 in
set_option maxHeartbeats 1000000 in
theorem insNil (w : World) :
    Calls Try.prog 40 #[.slice none 0 0, .int .i64 0, .int .i64 0, .func (.func 25) #[] #[]] w fun e w' => e = .returned (.tuple #[]) ∧ Below w.heap.size w w' := by
  go_enter Try.func40, Try.ntmps40
  go_wp2_with fail
  go_loopw [8] (fun i wr => i = .int .i64 1 ∧ Below w.heap.size w wr) (fun _ _ => 0)
  case atStart => exact ⟨rfl, Below.refl _ _⟩
  case round =>
    obtain ⟨rfl, hb⟩ := hrel
    go_wp2
    go_end0
    exact ⟨rfl, hb⟩

set_option maxRecDepth 100000 in
set_option maxHeartbeats 1000000 in
theorem stbNil (w : World) :
    Calls Try.prog 35 #[.slice none 0 0, .int .i64 0, .func (.func 25) #[] #[]] w fun e w' => e = .returned (.tuple #[]) ∧ Below w.heap.size w w' := by
  go_enter Try.func35, Try.ntmps35
  go_wp2_with fail
  go_loopw [7, 8] (fun a b wr => a = .int .i64 0 ∧ b = .int .i64 20 ∧ Below w.heap.size w wr) (fun _ _ _ => 0)
  case atStart => exact ⟨rfl, rfl, Below.refl _ _⟩
  case round =>
    obtain ⟨rfl, rfl, hb⟩ := hrel
    go_wp2_with fail
    refine (insNil _).mono ?_
    rintro e w2 ⟨rfl, hb2⟩
    go_wp2_with fail
    go_loopw [6] (fun s wr => s = .int .i64 20 ∧ Below w2.heap.size w2 wr) (fun _ _ => 0)
    case atStart => exact ⟨rfl, Below.refl _ _⟩
    case round =>
      obtain ⟨rfl, hb3⟩ := hrel
      go_wp2
      go_end0
      exact ⟨rfl, ext_trans hb (ext_trans hb2 hb3)⟩

set_option maxRecDepth 100000 in
set_option maxHeartbeats 1000000 in
theorem stbSome (base g n c : Nat) (ls : List Td) (w : World) (h : OwnT base w (.slice (some ⟨g, 0, none⟩) n c) ls) (hn : ls.length = n) (h20 : n ≤ 1000) :
    Calls Try.prog 35 #[.slice (some ⟨g, 0, none⟩) n c, .int .i64 n, .func (.func 25) #[] #[]] w fun e w' => e = .returned (.tuple #[]) ∧ OwnT base w' (.slice (some ⟨g, 0, none⟩) n c) (srt tlt ls) ∧ Rim g w w' := by
  obtain ⟨hH, hlt⟩ := ownG_holds tc_len (by decide) h
  have hcon := syStb tdSy 3 Try.isAgg59 Try.sizeOf59 tc 25 #[] g 0 c tcmp n ls.toArray w ⟨tc_len, tc_one, hH, hlt⟩ (by simpa using hn) (enters_of Try.func25 (by kernel_rfl) rfl) (fun m os dk hs x y => sweepCompare x y _) tlt_weak (by omega) ls.toArray w (by simpa using hn) (SWK.start hH)
  refine Calls.mono hcon ?_
  rintro e w' ⟨rfl, d', hz, hl, q, os, rfl⟩
  exact ⟨rfl, sortG_own tc_len (by decide) h hn (by rw [srt_len, hn]) q os d' hl⟩

set_option maxRecDepth 100000 in
set_option maxHeartbeats 1000000 in
theorem ssfNil (w : World) :
    Calls Try.prog 24 #[.slice none 0 0, .func (.func 25) #[] #[]] w fun e w' => e = .returned (.tuple #[]) ∧ Below w.heap.size w w' := by
  go_enter Try.func24, Try.ntmps24
  go_wp2_with fail
  refine (stbNil _).mono ?_
  rintro e w2 ⟨rfl, hb2⟩
  go_wp2
  go_end0
  exact ⟨rfl, hb2⟩

set_option maxRecDepth 100000 in
set_option maxHeartbeats 1000000 in
theorem ssfSome (base g n c : Nat) (ls : List Td) (w : World) (h : OwnT base w (.slice (some ⟨g, 0, none⟩) n c) ls) (hn : ls.length = n) (h20 : n ≤ 1000) :
    Calls Try.prog 24 #[.slice (some ⟨g, 0, none⟩) n c, .func (.func 25) #[] #[]] w fun e w' => e = .returned (.tuple #[]) ∧ OwnT base w' (.slice (some ⟨g, 0, none⟩) n c) (srt tlt ls) ∧ Rim g w w' := by
  go_enter Try.func24, Try.ntmps24
  go_wp2_with fail
  refine (stbSome base g n c ls _ h hn h20).mono ?_
  rintro e w2 ⟨rfl, ho2, hr2⟩
  go_wp2
  go_end0
  exact ⟨rfl, ho2, hr2⟩

end Go.Proofs.Ytohiimfojlcomaa
