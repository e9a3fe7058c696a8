/- Messages that lie in a row; what an Apply comes to, of any message of a tape. -/
import Derived.Test.YtkhcgopehmndgaaCnD
import Derived.Test.YtkhcgopehmndgaaCnE
namespace Go.Proofs.Ytkhcgopehmndgaa
open Go.RowKit
set_option linter.unusedVariables false
set_option linter.unusedSimpArgs false


/-- what an Apply answers, and what the cache has then -/
def apM (q : Int) (cs : List Cd) (m : Mg) : Int × Int × List Cd :=
  if m.kd = 2 ∧ m.op = 5 ∧ m.cod = 0 then
    (if m.fu = false ∧ q = -1 then (25, q, cs) else
      (if sm (sealB (m.cs.foldl putC (if m.fu = true then [] else cs))) = m.su then (0, m.sq, m.cs.foldl putC (if m.fu = true then [] else cs)) else (25, -1, m.cs.foldl putC (if m.fu = true then [] else cs))))
  else (1, q, cs)
/-- if it is a feed, it is a right one -/
def FdOk (m : Mg) : Prop := (m.kd = 2 ∧ m.op = 5 ∧ m.cod = 0) → m.st = 0 ∧ m.n = 0 ∧ m.k = (⟨#[]⟩, ⟨#[]⟩) ∧ -1 ≤ m.sq ∧ m.cs.length ≤ 64 ∧ ∀ x ∈ m.cs, CdF x
/-- a message, and where its rows lie -/
structure Mv where
  m : Mg
  ca : Option Addr
  cn : Nat
  cc : Nat
  ka : Option Addr
  kn : Nat
  kc : Nat
def mvc (v : Mv) : List Value := [.int .i64 v.m.kd, .int .i64 v.m.op, .int .i64 v.m.st, .int .i64 v.m.cod, .int .i64 v.m.tag, .int .i64 v.m.n, .int .i64 v.m.sq, .string v.m.k.1, .string v.m.k.2, .bool v.m.fu, .int .u32 v.m.su, .slice v.ca v.cn v.cc, .slice v.ka v.kn v.kc]
theorem mv_len (v : Mv) : (mvc v).length = 13 := rfl
theorem mv_one (v : Mv) : ∀ u ∈ mvc v, u.oneCell' = true := by
  intro u hu
  simp only [mvc, List.mem_cons, List.not_mem_nil, or_false] at hu
  rcases hu with rfl | rfl | rfl | rfl | rfl | rfl | rfl | rfl | rfl | rfl | rfl | rfl | rfl <;> rfl
def Mv.zero : Value := .agg #[.int .i64 0, .int .i64 0, .int .i64 0, .int .i64 0, .int .i64 0, .int .i64 0, .int .i64 0, .string ⟨#[]⟩, .string ⟨#[]⟩, .bool false, .int .u32 0, .slice none 0 0, .slice none 0 0]
theorem info_mv : (Try.prog.info? 36).map (fun i => (i.zero, i.size, i.bytes)) = some (some Mv.zero, 13, 144) := by kernel_rfl
/-- its rows -/
def MvM (w : World) (v : Mv) : Prop := CAt w v.ca v.m.cs ∧ v.m.cs.length = v.cn ∧ (v.m.kd = 2 → v.ka = none ∧ v.kn = 0 ∧ v.kc = 0) ∧ FdOk v.m
theorem MvM.ext {w w' : World} {v : Mv} (h : MvM w v) (hb : Below w.heap.size w w') : MvM w' v := ⟨h.1.ext hb, h.2.1, h.2.2.1, h.2.2.2⟩
theorem MvM.of {w : World} {m : Mg} {ca : Option Addr} {cn cc : Nat} {ka : Option Addr} {kn kc : Nat} (h : MgMem w m ca cn cc ka kn kc) (ho : MgOk m) : MvM w ⟨m, ca, cn, cc, ka, kn, kc⟩ := by
  obtain ⟨h1, h2, h3, h4, h5, h6, h7, h8, h9, h10⟩ := h
  have hks : m.kd ≠ 5 → m.ks = [] := fun h => by
    rcases ho.2 with h9 | h9 | h9 | h9
    · exact h9.2.2.2.2.2.1
    · exact h9.2.2.2.1
    · exact h9.2.2.1
    · exact absurd h9.1 h
  refine ⟨h1, h2, fun hk => ?_, fun hk => ?_⟩ <;> (try dsimp only at hk)
  · have hk5 : m.kd ≠ 5 := by omega
    have hn : kn = 0 := by rw [← h6, hks hk5]; rfl
    exact ⟨(h10 hk5).1, hn, (h10 hk5).2⟩
  · rcases ho.2 with h9 | h9 | h9 | h9
    · exact absurd hk.1 (by rw [h9.1]; decide)
    · obtain ⟨i1, i2, i3, i4, i5, i6, i7, i8, i9⟩ := h9
      refine ⟨i3, i2, ?_, i6, i8, i9⟩
      rcases i7 with i7 | i7
      · have := hk.2.1; omega
      · exact i7.2
    · have := hk.1; omega
    · exact absurd hk.1 (by rw [h9.1]; decide)
abbrev MsAt (w : World) (a : Option Addr) (vs : List Mv) : Prop := SAt mvc 13 36 w a vs
abbrev OwnM (base : Nat) (w : World) (v : Value) (vs : List Mv) : Prop := OwnR mvc 13 36 base w v vs
theorem MsAt.at {w : World} {b o i : Nat} {vs : List Mv} {x : Mv} (h : MsAt w (some ⟨b, o, none⟩) vs) (hi : vs[i]? = some x) :
    w.cell? ⟨b, o + i * 13, none⟩ = some (.int .i64 x.m.kd) ∧ w.cell? ⟨b, o + i * 13 + 1, none⟩ = some (.int .i64 x.m.op) ∧ w.cell? ⟨b, o + i * 13 + 2, none⟩ = some (.int .i64 x.m.st) ∧ w.cell? ⟨b, o + i * 13 + 3, none⟩ = some (.int .i64 x.m.cod) ∧ w.cell? ⟨b, o + i * 13 + 4, none⟩ = some (.int .i64 x.m.tag) ∧ w.cell? ⟨b, o + i * 13 + 5, none⟩ = some (.int .i64 x.m.n) ∧ w.cell? ⟨b, o + i * 13 + 6, none⟩ = some (.int .i64 x.m.sq) ∧ w.cell? ⟨b, o + i * 13 + 7, none⟩ = some (.string x.m.k.1) ∧ w.cell? ⟨b, o + i * 13 + 8, none⟩ = some (.string x.m.k.2) ∧ w.cell? ⟨b, o + i * 13 + 9, none⟩ = some (.bool x.m.fu) ∧ w.cell? ⟨b, o + i * 13 + 10, none⟩ = some (.int .u32 x.m.su) ∧ w.cell? ⟨b, o + i * 13 + 11, none⟩ = some (.slice x.ca x.cn x.cc) ∧ w.cell? ⟨b, o + i * 13 + 12, none⟩ = some (.slice x.ka x.kn x.kc) :=
  ⟨h.get mv_len hi 0 _ rfl, h.get mv_len hi 1 _ rfl, h.get mv_len hi 2 _ rfl, h.get mv_len hi 3 _ rfl, h.get mv_len hi 4 _ rfl, h.get mv_len hi 5 _ rfl, h.get mv_len hi 6 _ rfl, h.get mv_len hi 7 _ rfl, h.get mv_len hi 8 _ rfl, h.get mv_len hi 9 _ rfl, h.get mv_len hi 10 _ rfl, h.get mv_len hi 11 _ rfl, h.get mv_len hi 12 _ rfl⟩
theorem apM_wf {q : Int} {cs : List Cd} {m : Mg} (h : WfC cs) (hf : FdOk m) : WfC (apM q cs m).2.2 := by
  unfold apM
  split
  · rename_i hk
    obtain ⟨-, -, -, -, -, h6⟩ := hf hk
    have hr : ∀ x ∈ m.cs, CdR x ∧ KA x.a ∧ KI x.i := fun x hx => ⟨(h6 x hx).r, (h6 x hx).2.1, (h6 x hx).2.2⟩
    have hw : WfC (m.cs.foldl putC (if m.fu = true then [] else cs)) := by
      split
      · exact WfC.nil.fold hr
      · exact h.fold hr
    generalize m.cs.foldl putC (if m.fu = true then [] else cs) = C at hw ⊢
    split
    · exact h
    · split
      · exact hw
      · exact hw
  · exact h
set_option maxRecDepth 100000 in
set_option maxHeartbeats 1000000 in
theorem rcApply (cb : Nat) (q : Int) (cs : List Cd) (v : Mv) (w : World) (h : RcP w cb q cs) (hwf : WfC cs) (hm : MvM w v) :
    Calls Try.prog 32 #[.pointer (some ⟨cb, 0, none⟩), .agg #[.int .i64 v.m.kd, .int .i64 v.m.op, .int .i64 v.m.st, .int .i64 v.m.cod, .int .i64 v.m.tag, .int .i64 v.m.n, .int .i64 v.m.sq, .string v.m.k.1, .string v.m.k.2, .bool v.m.fu, .int .u32 v.m.su, .slice v.ca v.cn v.cc, .slice v.ka v.kn v.kc]] w fun r w' => r = .returned (.int .i64 (apM q cs v.m).1) ∧ RcP w' cb (apM q cs v.m).2.1 (apM q cs v.m).2.2 ∧ Rim cb w w' := by
  obtain ⟨⟨kd, op, st, cod, tag, n, sq, ⟨k1, k2⟩, fu, su, ls, ks⟩, ca, cn, cc, ka, kn, kc⟩ := v
  obtain ⟨h1, h2, h3, h4⟩ := hm
  simp only [] at h1 h2 h3 h4 ⊢
  by_cases e1 : kd = 2
  · subst e1
    by_cases e2 : op = 5
    · subst e2
      by_cases e3 : cod = 0
      · subst e3
        obtain ⟨rfl, rfl, hk, hq, hl, hc⟩ := h4 ⟨rfl, rfl, rfl⟩
        obtain ⟨rfl, rfl, rfl⟩ := h3 rfl
        simp only [Prod.mk.injEq] at hk
        obtain ⟨rfl, rfl⟩ := hk
        have hr : ∀ x ∈ ls, CdR x ∧ KA x.a ∧ KI x.i := fun x hx => ⟨(hc x hx).r, (hc x hx).2.1, (hc x hx).2.2⟩
        simp only [] at hl hq
        cases fu
        · by_cases e4 : q = -1
          · subst e4
            refine (rcNever cb cn cc ca sq su tag cs ls w h h1 h2 (by omega) hr hq).mono ?_
            rintro r w' ⟨rfl, hb⟩
            have e : apM (-1) cs (⟨2, 5, 0, 0, tag, 0, sq, (⟨#[]⟩, ⟨#[]⟩), false, su, ls, ks⟩ : Mg) = (25, -1, cs) := by simp [apM]
            rw [e]
            exact ⟨rfl, h.ext hb, Rim.of hb⟩
          · refine (rcDelta cb cn cc ca q sq su tag cs ls (ls.foldl putC cs) rfl e4 hwf w h h1 h2 (by omega) hr hq).mono ?_
            rintro r w' ⟨hr1, ⟨hs, rfl, hp⟩ | ⟨hs, rfl, hp⟩⟩
            · have e : apM q cs (⟨2, 5, 0, 0, tag, 0, sq, (⟨#[]⟩, ⟨#[]⟩), false, su, ls, ks⟩ : Mg) = (0, sq, ls.foldl putC cs) := by simp [apM, e4, hs]
              rw [e]
              exact ⟨rfl, hp, hr1⟩
            · have e : apM q cs (⟨2, 5, 0, 0, tag, 0, sq, (⟨#[]⟩, ⟨#[]⟩), false, su, ls, ks⟩ : Mg) = (25, -1, ls.foldl putC cs) := by simp [apM, e4, hs]
              rw [e]
              exact ⟨rfl, hp, hr1⟩
        · refine (rcFull cb cn cc ca q sq su tag cs ls (ls.foldl putC []) rfl w h h1 h2 (by omega) hr hq).mono ?_
          rintro r w' ⟨hr1, ⟨hs, rfl, hp⟩ | ⟨hs, rfl, hp⟩⟩
          · have e : apM q cs (⟨2, 5, 0, 0, tag, 0, sq, (⟨#[]⟩, ⟨#[]⟩), true, su, ls, ks⟩ : Mg) = (0, sq, ls.foldl putC []) := by simp [apM, hs]
            rw [e]
            exact ⟨rfl, hp, hr1⟩
          · have e : apM q cs (⟨2, 5, 0, 0, tag, 0, sq, (⟨#[]⟩, ⟨#[]⟩), true, su, ls, ks⟩ : Mg) = (25, -1, ls.foldl putC []) := by simp [apM, hs]
            rw [e]
            exact ⟨rfl, hp, hr1⟩
      · refine (rcArg3 cb 0 0 cod _ _ _ _ _ _ _ _ _ _ w e3).mono ?_
        rintro r w' ⟨rfl, hb⟩
        have e : apM q cs (⟨2, 5, st, cod, tag, n, sq, (k1, k2), fu, su, ls, ks⟩ : Mg) = (1, q, cs) := by simp [apM, e3]
        rw [e]
        exact ⟨rfl, h.ext hb, Rim.of hb⟩
    · refine (rcArg2 cb 0 op cod _ _ _ _ _ _ _ _ _ _ w e2).mono ?_
      rintro r w' ⟨rfl, hb⟩
      have e : apM q cs (⟨2, op, st, cod, tag, n, sq, (k1, k2), fu, su, ls, ks⟩ : Mg) = (1, q, cs) := by simp [apM, e2]
      rw [e]
      exact ⟨rfl, h.ext hb, Rim.of hb⟩
  · refine (rcArg1 cb kd op cod _ _ _ _ _ _ _ _ _ _ w e1).mono ?_
    rintro r w' ⟨rfl, hb⟩
    have e : apM q cs (⟨kd, op, st, cod, tag, n, sq, (k1, k2), fu, su, ls, ks⟩ : Mg) = (1, q, cs) := by simp [apM, e1]
    rw [e]
    exact ⟨rfl, h.ext hb, Rim.of hb⟩

set_option maxRecDepth 100000 in
set_option maxHeartbeats 1000000 in
theorem caApply (cb : Nat) (q : Int) (cs : List Cd) (v : Mv) (w : World) (h : CacP w cb q cs) (hwf : WfC cs) (hm : MvM w v) :
    Calls Try.prog 18 #[.pointer (some ⟨cb, 0, none⟩), .agg #[.int .i64 v.m.kd, .int .i64 v.m.op, .int .i64 v.m.st, .int .i64 v.m.cod, .int .i64 v.m.tag, .int .i64 v.m.n, .int .i64 v.m.sq, .string v.m.k.1, .string v.m.k.2, .bool v.m.fu, .int .u32 v.m.su, .slice v.ca v.cn v.cc, .slice v.ka v.kn v.kc]] w fun r w' => r = .returned (.int .i64 (apM q cs v.m).1) ∧ CacP w' cb (apM q cs v.m).2.1 (apM q cs v.m).2.2 ∧ Rim cb w w' := by
  obtain ⟨⟨kd, op, st, cod, tag, n, sq, ⟨k1, k2⟩, fu, su, ls, ks⟩, ca, cn, cc, ka, kn, kc⟩ := v
  obtain ⟨h1, h2, h3, h4⟩ := hm
  simp only [] at h1 h2 h3 h4 ⊢
  by_cases e1 : kd = 2
  · subst e1
    by_cases e2 : op = 5
    · subst e2
      by_cases e3 : cod = 0
      · subst e3
        obtain ⟨rfl, rfl, hk, hq, hl, hc⟩ := h4 ⟨rfl, rfl, rfl⟩
        obtain ⟨rfl, rfl, rfl⟩ := h3 rfl
        simp only [Prod.mk.injEq] at hk
        obtain ⟨rfl, rfl⟩ := hk
        have hr : ∀ x ∈ ls, CdR x ∧ KA x.a ∧ KI x.i := fun x hx => ⟨(hc x hx).r, (hc x hx).2.1, (hc x hx).2.2⟩
        simp only [] at hl hq
        cases fu
        · by_cases e4 : q = -1
          · subst e4
            refine (applyNeverT cb cn cc ca sq su tag cs ls w h h1 h2 (by omega) (fun x hx => (hr x hx).1) hq).mono ?_
            rintro r w' ⟨rfl, hb⟩
            have e : apM (-1) cs (⟨2, 5, 0, 0, tag, 0, sq, (⟨#[]⟩, ⟨#[]⟩), false, su, ls, ks⟩ : Mg) = (25, -1, cs) := by simp [apM]
            rw [e]
            exact ⟨rfl, h.ext hb, Rim.of hb⟩
          · refine (applyDeltaT cb cn cc ca q sq su tag cs ls (ls.foldl putC cs) rfl w h e4 hwf h1 h2 (by omega) hr hq).mono ?_
            rintro r w' ⟨hr1, ⟨hs, rfl, hp⟩ | ⟨hs, rfl, hp⟩⟩
            · have e : apM q cs (⟨2, 5, 0, 0, tag, 0, sq, (⟨#[]⟩, ⟨#[]⟩), false, su, ls, ks⟩ : Mg) = (0, sq, ls.foldl putC cs) := by simp [apM, e4, hs]
              rw [e]
              exact ⟨rfl, hp, hr1⟩
            · have e : apM q cs (⟨2, 5, 0, 0, tag, 0, sq, (⟨#[]⟩, ⟨#[]⟩), false, su, ls, ks⟩ : Mg) = (25, -1, ls.foldl putC cs) := by simp [apM, e4, hs]
              rw [e]
              exact ⟨rfl, hp, hr1⟩
        · refine (applyFullT cb cn cc ca q sq su tag cs ls (ls.foldl putC []) rfl w h h1 h2 (by omega) hr hq).mono ?_
          rintro r w' ⟨hr1, ⟨hs, rfl, hp⟩ | ⟨hs, rfl, hp⟩⟩
          · have e : apM q cs (⟨2, 5, 0, 0, tag, 0, sq, (⟨#[]⟩, ⟨#[]⟩), true, su, ls, ks⟩ : Mg) = (0, sq, ls.foldl putC []) := by simp [apM, hs]
            rw [e]
            exact ⟨rfl, hp, hr1⟩
          · have e : apM q cs (⟨2, 5, 0, 0, tag, 0, sq, (⟨#[]⟩, ⟨#[]⟩), true, su, ls, ks⟩ : Mg) = (25, -1, ls.foldl putC []) := by simp [apM, hs]
            rw [e]
            exact ⟨rfl, hp, hr1⟩
      · refine (caArg3 cb 0 0 cod _ _ _ _ _ _ _ _ _ _ w e3).mono ?_
        rintro r w' ⟨rfl, hb⟩
        have e : apM q cs (⟨2, 5, st, cod, tag, n, sq, (k1, k2), fu, su, ls, ks⟩ : Mg) = (1, q, cs) := by simp [apM, e3]
        rw [e]
        exact ⟨rfl, h.ext hb, Rim.of hb⟩
    · refine (caArg2 cb 0 op cod _ _ _ _ _ _ _ _ _ _ w e2).mono ?_
      rintro r w' ⟨rfl, hb⟩
      have e : apM q cs (⟨2, op, st, cod, tag, n, sq, (k1, k2), fu, su, ls, ks⟩ : Mg) = (1, q, cs) := by simp [apM, e2]
      rw [e]
      exact ⟨rfl, h.ext hb, Rim.of hb⟩
  · refine (caArg1 cb kd op cod _ _ _ _ _ _ _ _ _ _ w e1).mono ?_
    rintro r w' ⟨rfl, hb⟩
    have e : apM q cs (⟨kd, op, st, cod, tag, n, sq, (k1, k2), fu, su, ls, ks⟩ : Mg) = (1, q, cs) := by simp [apM, e1]
    rw [e]
    exact ⟨rfl, h.ext hb, Rim.of hb⟩

end Go.Proofs.Ytkhcgopehmndgaa
