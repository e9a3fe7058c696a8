/- A desk: Handle of any ask that is right; what becomes of the register. -/
import Derived.Test.YtcjpemphdgndkaaGreatDkRfZ
import Derived.Test.YtcjpemphdgndkaaGreatDkHfZ
namespace Go.Proofs.YtcjpemphdgndkaaGreat
open Go.RowKit
set_option linter.unusedVariables false
set_option linter.unusedSimpArgs false

theorem mem_put {es : List En} {e x : En} (hs : Asc es) : x ∈ putE es e ↔ x = e ∨ (x ∈ es ∧ enK x ≠ enK e) := by
  unfold putE
  by_cases hi : isIn (enK e) es = true
  · rw [if_pos hi]; exact mem_set hs hi
  · rw [if_neg hi]; exact mem_ins hs (by simpa using hi) _
theorem asc_putE {es : List En} {e : En} (hs : Asc es) : Asc (putE es e) := by
  unfold putE
  by_cases hi : isIn (enK e) es = true
  · rw [if_pos hi]; exact asc_put hs hi
  · rw [if_neg hi]; exact asc_ins hs (by simpa using hi)
theorem cur_put {es : List En} {e : En} (hs : Asc es) : cur (putE es e) (enK e) = e.c := by
  have h1 := isIn_of (asc_putE (e := e) hs) ((mem_put hs).2 (.inl rfl))
  exact cur_yes h1.1 h1.2
theorem ge_mem {es : List En} {k : Ky} (hi : isIn k es = true) : ge es k ∈ es := List.mem_of_getElem? (ge_yes hi).1
/-- the entry of a change at a desk -/
def Neu (nd t0 k0 n0 : Int) (es : List En) (k : Ky) (now : Int) (e : En) : Prop := enK e = k ∧ (e.c.t, e.c.k, e.c.n) = nxt t0 k0 n0 es k nd now
theorem neu_can {nd t0 k0 n0 : Int} {es : List En} {k : Ky} {now : Int} (hi : isIn k es = true) (hg : (ge es k).c.g = false) : Neu nd t0 k0 n0 es k now (canE (ge es k) (nxt t0 k0 n0 es k nd now) now) := by
  refine ⟨(enK_can hg).trans (ge_yes hi).2, ?_⟩
  unfold canE
  rw [if_neg (by rw [hg]; simp)]
theorem neu_ovr {nd t0 k0 n0 : Int} {es : List En} {k : Ky} {now st : Int} (hi : isIn k es = true) (hg : (ge es k).c.g = false) : Neu nd t0 k0 n0 es k now (ovrE (ge es k) st (nxt t0 k0 n0 es k nd now)) := by
  refine ⟨(enK_ovr hg).trans (ge_yes hi).2, ?_⟩
  unfold ovrE
  rw [if_neg (by rw [hg]; simp)]
def HQ (db : Nat) (nd t0 k0 n0 : Int) (es : List En) (g l tt : Int) (ks : List Ky) (k : Ky) (now : Int) (a : Value) (c : Int) (W : World) : Prop :=
  (∃ (e : En) (b : Nat), Neu nd t0 k0 n0 es k now e ∧ c = 0 ∧ a = .slice (some ⟨b, 0, none⟩) 1 1 ∧ W.heap[b]? = some (.cells #[.string e.c.a, .string e.c.i, .int .i64 e.c.s, .int .i64 e.c.o, .int .i64 e.c.l, .int .i64 e.c.t, .int .i64 e.c.k, .int .i64 e.c.n, .bool e.c.g] 37 (0, 0)) ∧ DkP W db nd e.c.t e.c.k e.c.n (putE es e) g l tt (ks ++ [k])) ∨
  (∃ (fs : List En) (tt' : Int), a = .slice none 0 0 ∧ DkP W db nd t0 k0 n0 fs g l tt' ks ∧ 0 ≤ tt' ∧ tt' ≤ 1048576 ∧ (fs = es ∨ (isIn k es = true ∧ (ge es k).c.g = false ∧ fs = putE es (renE (ge es k) now))))
theorem HQ.msg {db b0 : Nat} {nd t0 k0 n0 : Int} {es : List En} {g l tt : Int} {ks : List Ky} {k : Ky} {now : Int} {a : Value} {c : Int} {u v : World} {cs0 : Array Value} (h : HQ db nd t0 k0 n0 es g l tt ks k now a c u) (hne : b0 ≠ db) (h0 : u.heap[b0]? = some (.cells cs0 33 (0, 0))) (hr : Rim b0 u v) : HQ db nd t0 k0 n0 es g l tt ks k now a c v := by
  rcases h with ⟨e, b, h1, h2, h3, h4, h5⟩ | ⟨fs, tt', h1, h2, h3⟩
  · refine .inl ⟨e, b, h1, h2, h3, (hr.block b ?_ (blk_lt h4)).trans h4, h5.msg hr hne h0⟩
    rintro rfl
    rw [h4] at h0
    simp at h0
  · exact .inr ⟨fs, tt', h1, h2.msg hr hne h0, h3⟩
set_option maxRecDepth 100000 in
set_option maxHeartbeats 2000000 in
theorem deskWrite4 (db : Nat) (kd st cod tag N sq : Int) (k : Ky) (fu : Bool) (su : Int) (cs kys : Value) (now : Int) (w : World) (Q : Value → Value → World → Prop) (hI : ∀ w', Below w.heap.size w w' → Calls Tryz.prog 90 #[.pointer (some ⟨db, 0, none⟩), .agg #[.int .i64 kd, .int .i64 4, .int .i64 st, .int .i64 cod, .int .i64 tag, .int .i64 N, .int .i64 sq, .string k.1, .string k.2, .bool fu, .int .u32 su, cs, kys], .int .i64 now] w' fun r w'' => ∃ a b, r = .returned (.tuple #[a, b]) ∧ Q a b w'') :
    Calls Tryz.prog 46 #[.pointer (some ⟨db, 0, none⟩), .agg #[.int .i64 kd, .int .i64 4, .int .i64 st, .int .i64 cod, .int .i64 tag, .int .i64 N, .int .i64 sq, .string k.1, .string k.2, .bool fu, .int .u32 su, cs, kys], .int .i64 now] w fun r w' => ∃ a b, r = .returned (.tuple #[a, b]) ∧ Q a b w' := by
  have D0 := Lib.hid (show Below w.heap.size w (w.alloc (.cells #[.int .i64 kd, .int .i64 4, .int .i64 st, .int .i64 cod, .int .i64 tag, .int .i64 N, .int .i64 sq, .string k.1, .string k.2, .bool fu, .int .u32 su, cs, kys] 33)) from (Below.refl _ _).alloc (Nat.le_refl _) _)
  have HK := Lib.hid (blk_new w #[.int .i64 kd, .int .i64 4, .int .i64 st, .int .i64 cod, .int .i64 tag, .int .i64 N, .int .i64 sq, .string k.1, .string k.2, .bool fu, .int .u32 su, cs, kys] 33)
  have HI := Lib.hid hI
  clear hI
  go_enter Tryz.func46, Tryz.ntmps46
  go_upto_region 1 with (fail)
  obtain ⟨p, hp⟩ : ∃ p, w.heap.size = p := ⟨_, rfl⟩
  rw [hp] at HK
  try rw [hp]
  clear hp
  generalize (w.alloc (.cells #[.int .i64 kd, .int .i64 4, .int .i64 st, .int .i64 cod, .int .i64 tag, .int .i64 N, .int .i64 sq, .string k.1, .string k.2, .bool fu, .int .u32 su, cs, kys] 33)) = w1 at *
  have hc := blk_cell HK.out
  have hl := blk_lt HK.out
  go_wp2_with fail
  refine (HI.out w1 D0.out).mono ?_
  rintro r w2 ⟨a, b, rfl, hq⟩
  have HQ := Lib.hid hq
  clear hq hc hl
  go_wp2
  go_returns
  have hq := HQ.out
  exact ⟨a, b, rfl, hq⟩

set_option maxRecDepth 100000 in
set_option maxHeartbeats 2000000 in
theorem handleAny (db : Nat) (nd t0 k0 n0 : Int) (es : List En) (g l tt : Int) (ks : List Ky) (op st tag N sq : Int) (k : Ky) (now : Int) (w : World) (h : DkP w db nd t0 k0 n0 es g l tt ks) (hs : Asc es) (hn : es.length < 32) (hks : ks.length ≤ 1000000) (hN : ∀ s, s = (if isIn k es then sMax t0 k0 n0 (ge es k).c.t (ge es k).c.k (ge es k).c.n else (t0, k0, n0)) → s.2.2 ≤ 9223372036854775807 ∧ -9223372036854775808 ≤ s.2.2) (htt0 : 0 ≤ tt) (htt1 : tt ≤ 1048576) (ho1 : 1 ≤ op) (ho2 : op < 5) (hn1 : NmOk k.1) (hn2 : NmOk k.2) (h0 : 0 ≤ now) (h1 : now ≤ 1099511627776) (hs0 : 0 ≤ st) (hs1 : st ≤ 255) (hq : -1 ≤ sq) :
    Calls Tryz.prog 15 #[.pointer (some ⟨db, 0, none⟩), .agg #[.int .i64 1, .int .i64 op, .int .i64 st, .int .i64 0, .int .i64 tag, .int .i64 N, .int .i64 sq, .string k.1, .string k.2, .bool false, .int .u32 0, .slice none 0 0, .slice none 0 0], .int .i64 now] w fun r w' => ∃ a c, r = .returned (.tuple #[.agg #[.int .i64 2, .int .i64 op, .int .i64 0, .int .i64 c, .int .i64 tag, .int .i64 0, .int .i64 0, .string k.1, .string k.2, .bool false, .int .u32 0, .slice none 0 0, .slice none 0 0], a]) ∧ HQ db nd t0 k0 n0 es g l tt ks k now a c w' ∧ Rim db w w' := by
  refine deskHandle db op st tag N sq k now w (HQ db nd t0 k0 n0 es g l tt ks k now) ho1 ho2 hs0 hs1 hq hn1 hn2 h0 h1 h.lt ?_ (fun a c u v b0 cs0 hne h0 hr hq => HQ.msg hq hne h0 hr)
  intro w1 hb
  have H1 := h.ext hb
  have hop : op = 1 ∨ op = 2 ∨ op = 3 ∨ op = 4 := by omega
  rcases hop with rfl | rfl | rfl | rfl
  · refine (deskWrite1 db 1 st 0 tag N sq k false 0 (.slice none 0 0) (.slice none 0 0) now w1 (fun a b W => ∃ c : Int, b = .int .i64 c ∧ HQ db nd t0 k0 n0 es g l tt ks k now a c W ∧ Rim db w1 W) ?_).mono ?_
    · intro w2 hb2
      have H2 := H1.ext hb2
      by_cases hok : 1 ≤ N ∧ N ≤ 1048576 ∧ (st = 1 ∨ st = 2)
      · refine (deskRegister db nd t0 k0 n0 es g l tt ks 1 1 st 0 tag N sq k false 0 (.slice none 0 0) (.slice none 0 0) now w2 H2 hs (by omega) hks hN _ rfl (.inr hn) hok.1 hok.2.1 hok.2.2).mono ?_
        rintro r w3 ⟨b, rfl, -, hx, hd, hr⟩
        exact ⟨_, _, rfl, 0, rfl, .inl ⟨_, b, ⟨rfl, rfl⟩, rfl, rfl, hx, hd⟩, (Rim.of hb2).trans hr⟩
      · refine (deskRegisterNo db 1 1 st 0 tag N sq k false 0 (.slice none 0 0) (.slice none 0 0) now w2 (by omega)).mono ?_
        rintro r w3 ⟨rfl, hb3⟩
        exact ⟨_, _, rfl, 1, rfl, .inr ⟨es, tt, rfl, H2.ext hb3, htt0, htt1, .inl rfl⟩, (Rim.of hb2).trans (Rim.of hb3)⟩
    · rintro r w2 ⟨a, b, rfl, c, rfl, hq9, hr⟩
      exact ⟨a, c, rfl, hq9, hr⟩
  · refine (deskWrite2 db 1 st 0 tag N sq k false 0 (.slice none 0 0) (.slice none 0 0) now w1 (fun a b W => ∃ c : Int, b = .int .i64 c ∧ HQ db nd t0 k0 n0 es g l tt ks k now a c W ∧ Rim db w1 W) ?_).mono ?_
    · intro w2 hb2
      have H2 := H1.ext hb2
      refine (deskRenew db nd t0 k0 n0 es g l tt ks k now w2 H2 hs (by omega) htt0 htt1).mono ?_
      rintro r w3 (⟨g1, g2, rfl, hd, hr⟩ | ⟨g1, rfl, hr⟩)
      · exact ⟨_, rfl, 0, rfl, .inr ⟨_, _, rfl, hd, by split <;> omega, by split <;> omega, .inr ⟨g1, g2, rfl⟩⟩, (Rim.of hb2).trans hr⟩
      · exact ⟨_, rfl, 22, rfl, .inr ⟨es, tt, rfl, H2.ext hr, htt0, htt1, .inl rfl⟩, (Rim.of hb2).trans (Rim.of hr)⟩
    · rintro r w2 ⟨a, b, rfl, c, rfl, hq9, hr⟩
      exact ⟨a, c, rfl, hq9, hr⟩
  · refine (deskWrite3 db 1 st 0 tag N sq k false 0 (.slice none 0 0) (.slice none 0 0) now w1 (fun a b W => ∃ c : Int, b = .int .i64 c ∧ HQ db nd t0 k0 n0 es g l tt ks k now a c W ∧ Rim db w1 W) ?_).mono ?_
    · intro w2 hb2
      have H2 := H1.ext hb2
      refine (deskCancel db nd t0 k0 n0 es g l tt ks k now w2 H2 hs (by omega) hks hN _ rfl).mono ?_
      rintro r w3 (⟨g1, g2, b, rfl, -, hx, hd, hr⟩ | ⟨g1, rfl, hr⟩)
      · exact ⟨_, _, rfl, 0, rfl, .inl ⟨_, b, neu_can g1 g2, rfl, rfl, hx, hd⟩, (Rim.of hb2).trans hr⟩
      · exact ⟨_, _, rfl, 22, rfl, .inr ⟨es, tt, rfl, H2.ext hr, htt0, htt1, .inl rfl⟩, (Rim.of hb2).trans (Rim.of hr)⟩
    · rintro r w2 ⟨a, b, rfl, c, rfl, hq9, hr⟩
      exact ⟨a, c, rfl, hq9, hr⟩
  · refine (deskWrite4 db 1 st 0 tag N sq k false 0 (.slice none 0 0) (.slice none 0 0) now w1 (fun a b W => ∃ c : Int, b = .int .i64 c ∧ HQ db nd t0 k0 n0 es g l tt ks k now a c W ∧ Rim db w1 W) ?_).mono ?_
    · intro w2 hb2
      have H2 := H1.ext hb2
      by_cases hok : st ≤ 3
      · refine (deskOverride db nd t0 k0 n0 es g l tt ks 1 4 st 0 tag N sq k false 0 (.slice none 0 0) (.slice none 0 0) now w2 H2 hs (by omega) hks hN _ rfl hs0 hok).mono ?_
        rintro r w3 (⟨g1, g2, b, rfl, -, hx, hd, hr⟩ | ⟨g1, rfl, hr⟩)
        · exact ⟨_, _, rfl, 0, rfl, .inl ⟨_, b, neu_ovr g1 g2, rfl, rfl, hx, hd⟩, (Rim.of hb2).trans hr⟩
        · exact ⟨_, _, rfl, 22, rfl, .inr ⟨es, tt, rfl, H2.ext hr, htt0, htt1, .inl rfl⟩, (Rim.of hb2).trans (Rim.of hr)⟩
      · refine (deskOverrideNo db 1 4 st 0 tag N sq k false 0 (.slice none 0 0) (.slice none 0 0) now w2 hs0 (by omega)).mono ?_
        rintro r w3 ⟨rfl, hb3⟩
        exact ⟨_, _, rfl, 1, rfl, .inr ⟨es, tt, rfl, H2.ext hb3, htt0, htt1, .inl rfl⟩, (Rim.of hb2).trans (Rim.of hb3)⟩
    · rintro r w2 ⟨a, b, rfl, c, rfl, hq9, hr⟩
      exact ⟨a, c, rfl, hq9, hr⟩


set_option maxRecDepth 100000 in
set_option maxHeartbeats 2000000 in
theorem handleFetch (db : Nat) (nd t0 k0 n0 : Int) (es : List En) (g l tt : Int) (ks : List Ky) (st tag N sq : Int) (now : Int) (w : World) (h : DkP w db nd t0 k0 n0 es g l tt ks) (hs : Asc es) (hn : es.length ≤ 100) (hc : ∀ x ∈ es, CdS x.c) (hks : ks.length ≤ 1000000) (hs0 : 0 ≤ st) (hs1 : st ≤ 255) (hq : -1 ≤ sq) :
    Calls Tryz.prog 15 #[.pointer (some ⟨db, 0, none⟩), .agg #[.int .i64 1, .int .i64 5, .int .i64 st, .int .i64 0, .int .i64 tag, .int .i64 N, .int .i64 sq, .string ⟨#[]⟩, .string ⟨#[]⟩, .bool false, .int .u32 0, .slice none 0 0, .slice none 0 0], .int .i64 now] w fun r w' => ∃ v full s cds, r = .returned (.tuple #[v, .slice none 0 0]) ∧ FdT full tag (ks.length : Int) s cds w v w' := by
  by_cases h1 : sq = -1
  · subst h1
    refine (deskHandleF db st tag N (-1) now true ks.length (sm (sealB (es.map (·.c)))) (seenL (es.map (·.c))) w hs0 hs1 hq ?_).mono fun r w' ⟨v, h2, h3⟩ => ⟨v, _, _, _, h2, h3⟩
    intro w1 hb1
    refine deskFetchF db 1 5 st 0 tag N (-1) (⟨#[]⟩, ⟨#[]⟩) false 0 (.slice none 0 0) (.slice none 0 0) true ks.length _ _ w1 rfl ?_
    intro w2 hb2
    have H2 := (h.ext hb1).ext hb2
    obtain ⟨Dk0, hS, -⟩ := H2.s
    obtain ⟨Dq, hR, -⟩ := H2.r
    exact feedFullD Dk0 Dq db db ks.length 32 es (lastK ks ks.length) w2 hS hR hn hc
  · by_cases h2 : 0 ≤ sq ∧ sq ≤ (ks.length : Int) ∧ (ks.length : Int) - 16 ≤ sq
    · obtain ⟨m0, hm0⟩ : ∃ m0 : Nat, sq = (ks.length : Int) - m0 := ⟨(ks.length - sq).toNat, by omega⟩
      have hl9 : (lastK ks ks.length).length = min ks.length 16 := lastK_len _ _ (Nat.le_refl _)
      have hb9 : ((lastK ks ks.length).drop ((lastK ks ks.length).length - m0)).length = m0 := by rw [List.length_drop, hl9]; omega
      refine (deskHandleF db st tag N sq now false ks.length (sm (sealB (es.map (·.c)))) ((kp ((lastK ks ks.length).drop ((lastK ks ks.length).length - m0)) ((lastK ks ks.length).drop ((lastK ks ks.length).length - m0)).length).map (cur es)) w hs0 hs1 hq ?_).mono fun r w' ⟨v, h2, h3⟩ => ⟨v, _, _, _, h2, h3⟩
      intro w1 hb1
      refine deskFetchD db 1 5 st 0 tag N sq (⟨#[]⟩, ⟨#[]⟩) false 0 (.slice none 0 0) (.slice none 0 0) false ks.length _ _ w1 h1 ?_
      intro w2 hb2
      have H2 := (h.ext hb1).ext hb2
      obtain ⟨Dk0, hS, -⟩ := H2.s
      obtain ⟨Dq, hR, -⟩ := H2.r
      exact feedDeltaD Dk0 Dq db db ks.length sq 32 es (lastK ks ks.length) w2 hS hR hs hn hc hks m0 _ _ hl9 hm0 (by omega) (by omega) rfl rfl (by have := kp_len ((lastK ks ks.length).drop ((lastK ks ks.length).length - m0)) ((lastK ks ks.length).drop ((lastK ks ks.length).length - m0)).length; omega)
    · refine (deskHandleF db st tag N sq now true ks.length (sm (sealB (es.map (·.c)))) (seenL (es.map (·.c))) w hs0 hs1 hq ?_).mono fun r w' ⟨v, h2, h3⟩ => ⟨v, _, _, _, h2, h3⟩
      intro w1 hb1
      refine deskFetchD db 1 5 st 0 tag N sq (⟨#[]⟩, ⟨#[]⟩) false 0 (.slice none 0 0) (.slice none 0 0) true ks.length _ _ w1 h1 ?_
      intro w2 hb2
      have H2 := (h.ext hb1).ext hb2
      obtain ⟨Dk0, hS, -⟩ := H2.s
      obtain ⟨Dq, hR, -⟩ := H2.r
      exact feedDeltaNoD Dk0 Dq db db ks.length sq 32 es (lastK ks ks.length) w2 hS hR hs hn hc hks (by omega)

set_option maxRecDepth 100000 in
set_option maxHeartbeats 2000000 in
theorem handleDelta (db : Nat) (nd t0 k0 n0 : Int) (es : List En) (g l tt : Int) (ks : List Ky) (tag sq : Int) (cs : List Ky) (now : Int) (w : World) (h : DkP w db nd t0 k0 n0 es g l tt ks) (hs : Asc es) (hn : es.length ≤ 100) (hc : ∀ x ∈ es, CdS x.c) (hks : ks.length ≤ 1000000) (hcs : cs = [] ∨ ∃ k, cs = [k]) (hk : (lastK ks ks.length).drop ((lastK ks ks.length).length - cs.length) = cs) (hsq : sq = (ks.length : Int) - cs.length) (hle : cs.length ≤ ks.length) :
    Calls Tryz.prog 15 #[.pointer (some ⟨db, 0, none⟩), .agg #[.int .i64 1, .int .i64 5, .int .i64 0, .int .i64 0, .int .i64 tag, .int .i64 0, .int .i64 sq, .string ⟨#[]⟩, .string ⟨#[]⟩, .bool false, .int .u32 0, .slice none 0 0, .slice none 0 0], .int .i64 now] w fun r w' => ∃ v s, r = .returned (.tuple #[v, .slice none 0 0]) ∧ FdT false tag (ks.length : Int) s (cs.map (cur es)) w v w' := by
  have hl9 : (lastK ks ks.length).length = min ks.length 16 := lastK_len _ _ (Nat.le_refl _)
  have hkp : kp cs cs.length = cs := by
    rcases hcs with rfl | ⟨k, rfl⟩
    · rfl
    · exact kp_one k
  have hc1 : cs.length ≤ 1 := by rcases hcs with rfl | ⟨k, rfl⟩ <;> simp
  refine (deskHandleF db 0 tag 0 sq now false ks.length (sm (sealB (es.map (·.c)))) (cs.map (cur es)) w (by omega) (by omega) (by omega) ?_).mono fun r w' ⟨v, h2, h3⟩ => ⟨v, _, h2, h3⟩
  intro w1 hb1
  refine deskFetchD db 1 5 0 0 tag 0 sq (⟨#[]⟩, ⟨#[]⟩) false 0 (.slice none 0 0) (.slice none 0 0) false ks.length _ _ w1 (by omega) ?_
  intro w2 hb2
  have H2 := (h.ext hb1).ext hb2
  obtain ⟨Dk0, hS, -⟩ := H2.s
  obtain ⟨Dq, hR, -⟩ := H2.r
  exact feedDeltaD Dk0 Dq db db ks.length sq 32 es (lastK ks ks.length) w2 hS hR hs hn hc hks cs.length _ _ hl9 hsq hle (by omega) hk hkp (by omega)

end Go.Proofs.YtcjpemphdgndkaaGreat
