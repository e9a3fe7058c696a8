/- A register that is full: keys, Handle, the walk. -/
import Derived.Test.YtcjpemphdgndkaaGreatDkPuY
import Derived.Test.YtcjpemphdgndkaaGreatDkAlY
import Derived.Laws.Concat
import Derived.Laws.Cover4
import Derived.Test.YtcjpemphdgndkaaGreatDkUY
/- A register that is full. -/
namespace Go.Proofs.YtcjpemphdgndkaaGreat
open Go.RowKit
set_option linter.unusedVariables false
set_option linter.unusedSimpArgs false

open Go.PlainAid (bt get_bt)
def ki (I : Nat) : ByteArray := ⟨#[105, (97 + I % 26).toUInt8, (97 + I / 26).toUInt8]⟩
def kfu (I : Nat) : Ky := (⟨#[97, 112, 112]⟩, ki I)
def kN : Ky := (⟨#[110, 101, 119]⟩, ⟨#[110, 101, 119]⟩)
theorem ki_is : ∀ I : Fin 32, (⟨#[105]⟩ ++ Utf8.encode (97 + ((I.val : Nat) : Int) % 26)) ++ Utf8.encode (97 + ((I.val : Nat) : Int) / 26) = ki I.val := by decide +kernel
theorem ki_inj : ∀ I J : Fin 32, ki I.val = ki J.val → I = J := by decide +kernel
theorem kfu_inj {I J : Nat} (hI : I < 32) (hJ : J < 32) (h : kfu I = kfu J) : I = J := congrArg Fin.val (ki_inj ⟨I, hI⟩ ⟨J, hJ⟩ (congrArg Prod.snd h))
theorem kfu_new (I : Nat) : kfu I ≠ kN := fun h => by
  have h1 := congrArg (fun k : Ky => k.1.data.toList) h
  simp [kfu, kN] at h1
theorem nm_app : NmOk ⟨#[97, 112, 112]⟩ := nm_of (by decide) (by decide) (by decide) (by decide) (by decide) (by decide) (by decide)
theorem nm_new : NmOk ⟨#[110, 101, 119]⟩ := nm_of (by decide) (by decide) (by decide) (by decide) (by decide) (by decide) (by decide)
theorem ki_b : ∀ I : Fin 32, (ki I.val).size = 3 ∧ bt (ki I.val) 0 = 105 ∧ 97 ≤ bt (ki I.val) 1 ∧ bt (ki I.val) 1 ≤ 122 ∧ 97 ≤ bt (ki I.val) 2 ∧ bt (ki I.val) 2 ≤ 122 := by decide +kernel
theorem nm_ki {I : Nat} (h : I < 32) : NmOk (ki I) := by
  obtain ⟨h1, h2, h3, h4, h5, h6⟩ := ki_b ⟨I, h⟩
  exact nm_of (by rw [h1]; decide) (by rw [h1]; decide) (.inl (by rw [h2]; decide)) (fun _ => .inl ⟨h3, h4⟩) (fun _ => .inl ⟨h5, h6⟩) (fun h => by rw [h1] at h; omega) (fun h => by rw [h1] at h; omega)
theorem len_in {es : List En} {e : En} (hi : isIn (enK e) es = true) : (putE es e).length = es.length := by unfold putE; rw [if_pos hi]; simp
theorem len_new {es : List En} {e : En} (hi : isIn (enK e) es = false) : (putE es e).length = es.length + 1 := by
  unfold putE
  rw [if_neg (by rw [hi]; simp)]
  unfold insAt
  simp
  omega
def FOk (B n0 : Int) (es : List En) : Prop := Asc es ∧ (∀ x ∈ es, 0 ≤ x.c.n ∧ x.c.n ≤ B) ∧ 0 ≤ n0 ∧ n0 ≤ B
theorem FOk.hN {B n0 : Int} {es : List En} (h : FOk B n0 es) (hB : B ≤ 1000000) (t0 k0 : Int) (k : Ky) : ∀ s, s = (if isIn k es then sMax t0 k0 n0 (ge es k).c.t (ge es k).c.k (ge es k).c.n else (t0, k0, n0)) → s.2.2 ≤ 9223372036854775807 ∧ -9223372036854775808 ≤ s.2.2 := by
  rintro s rfl
  obtain ⟨-, h2, h4, h5⟩ := h
  by_cases hi : isIn k es = true
  · rw [if_pos hi]
    obtain ⟨b, c⟩ := h2 _ (ge_mem hi)
    unfold sMax
    split <;> simp only [] <;> omega
  · rw [if_neg hi]
    simp only []
    omega
theorem FOk.nx {B n0 : Int} {es : List En} (h : FOk B n0 es) (hB : B ≤ 1000000) (t0 k0 nd now : Int) (k : Ky) : 0 ≤ (nxt t0 k0 n0 es k nd now).2.2 ∧ (nxt t0 k0 n0 es k nd now).2.2 ≤ B + 1 := by
  obtain ⟨-, h2, h4, h5⟩ := h
  unfold nxt
  by_cases hi : isIn k es = true
  · rw [if_pos hi]
    obtain ⟨b, c⟩ := h2 _ (ge_mem hi)
    unfold sMax
    split <;> simp only [sNext] <;> split <;> omega
  · rw [if_neg hi]
    simp only [sNext]
    split <;> omega
theorem FOk.put {B B' n0 n1 : Int} {es : List En} {e : En} (h : FOk B n0 es) (hB : B ≤ B') (h0 : 0 ≤ e.c.n) (h1 : e.c.n ≤ B') (g0 : 0 ≤ n1) (g1 : n1 ≤ B') : FOk B' n1 (putE es e) := by
  obtain ⟨a, b, c, d⟩ := h
  refine ⟨asc_putE a, fun x hx => ?_, g0, g1⟩
  rcases (mem_put a).1 hx with rfl | ⟨hx, -⟩
  · exact ⟨h0, h1⟩
  · have := b x hx
    omega
def Fl (I : Nat) (n0 : Int) (es : List En) (ks : List Ky) : Prop := FOk (I : Int) n0 es ∧ es.length = I ∧ ks.length = I ∧ (∀ x ∈ es, x.c.g = false ∧ ∃ j, j < I ∧ enK x = kfu j) ∧ (∀ j, j < I → isIn (kfu j) es = true)
theorem Fl.nil : Fl 0 0 [] [] := ⟨⟨List.Pairwise.nil, fun x hx => (by cases hx), by omega, by omega⟩, rfl, rfl, fun x hx => (by cases hx), fun j hj => (by omega)⟩
theorem Fl.no {I : Nat} {n0 : Int} {es : List En} {ks : List Ky} (h : Fl I n0 es ks) (hI : I ≤ 32) {J : Nat} (hJ : I ≤ J) (hJ2 : J < 32) : isIn (kfu J) es = false := by
  by_cases hi : isIn (kfu J) es = true
  · obtain ⟨x, hx, hk, -⟩ := isIn_ex hi
    obtain ⟨-, j, hj, hk2⟩ := h.2.2.2.1 x hx
    have := kfu_inj (by omega) hJ2 (hk2.symm.trans hk)
    omega
  · simpa using hi
theorem no_new {es : List En} (h : ∀ x ∈ es, ∃ j, enK x = kfu j) : isIn kN es = false := by
  by_cases hi : isIn kN es = true
  · obtain ⟨x, hx, hk, -⟩ := isIn_ex hi
    obtain ⟨j, hj⟩ := h x hx
    exact absurd (hj.symm.trans hk) (kfu_new j)
  · simpa using hi
theorem isIn_put {es : List En} {e : En} {k : Ky} (hs : Asc es) (h : isIn k es = true) : isIn k (putE es e) = true := by
  obtain ⟨x, hx, rfl, -⟩ := isIn_ex h
  by_cases hk : enK x = enK e
  · rw [hk]; exact (put_in hs).1
  · exact (isIn_of (asc_putE hs) ((mem_put hs).2 (.inr ⟨hx, hk⟩))).1
theorem Fl.step {I : Nat} {n0 t0 k0 nd : Int} {es : List En} {ks : List Ky} (h : Fl I n0 es ks) (hI : I < 32) : Fl (I + 1) (rgE es (kfu I) 1 50 (nxt t0 k0 n0 es (kfu I) nd 1) 1).c.n (putE es (rgE es (kfu I) 1 50 (nxt t0 k0 n0 es (kfu I) nd 1) 1)) (ks ++ [kfu I]) := by
  obtain ⟨e, he⟩ : ∃ e, rgE es (kfu I) 1 50 (nxt t0 k0 n0 es (kfu I) nd 1) 1 = e := ⟨_, rfl⟩
  have hk : enK e = kfu I := by rw [← he]; rfl
  have hg : e.c.g = false := by rw [← he]; rfl
  have hn : e.c.n = (nxt t0 k0 n0 es (kfu I) nd 1).2.2 := by rw [← he]; rfl
  rw [he]
  have hno := h.no (by omega) (Nat.le_refl _) hI
  have hx := h.1.nx (by omega) t0 k0 nd 1 (kfu I)
  rw [← hn] at hx
  refine ⟨h.1.put (by push_cast; omega) hx.1 (by push_cast; omega) hx.1 (by push_cast; omega), ?_, by simp [h.2.2.1], fun x hx => ?_, fun j hj => ?_⟩
  · rw [len_new (by rw [hk]; exact hno), h.2.1]
  · rcases (mem_put h.1.1).1 hx with rfl | ⟨hx, -⟩
    · exact ⟨hg, I, by omega, hk⟩
    · obtain ⟨a, j, b, c⟩ := h.2.2.2.1 x hx
      exact ⟨a, j, by omega, c⟩
  · by_cases hjI : j = I
    · subst hjI
      rw [← hk]
      exact (put_in h.1.1).1
    · exact isIn_put h.1.1 (h.2.2.2.2 j (by omega))
theorem only_one {α : Type} {l : List α} {e : α} (hn : l.Nodup) (he : e ∈ l) (h : ∀ x ∈ l, x = e) : l = [e] := by
  cases l with
  | nil => cases he
  | cons a t =>
    obtain rfl := h a (by simp)
    cases t with
    | nil => rfl
    | cons b t =>
      obtain rfl := h b (by simp)
      simp at hn
/-- behind the cancel: the one that is gone, long ago, is the only one -/
theorem dead_one {es : List En} {e : En} {now : Int} (hs : Asc es) (he : isDead now e = true) (h : ∀ x ∈ es, x.c.g = false) : deadL (putE es e) now = [enK e] := by
  unfold deadL
  have h1 : (putE es e).filter (isDead now) = [e] := by
    refine only_one ?_ (List.mem_filter.2 ⟨(mem_put hs).2 (.inl rfl), he⟩) fun x hx => ?_
    · refine List.Pairwise.filter _ ?_
      have h2 := asc_nodup (asc_putE (e := e) hs)
      rw [List.Nodup, List.pairwise_map] at h2
      exact h2.imp fun h3 h4 => h3 (by rw [h4])
    · obtain ⟨h2, h3⟩ := List.mem_filter.1 hx
      rcases (mem_put hs).1 h2 with h4 | ⟨h4, -⟩
      · exact h4
      · exfalso
        unfold isDead at h3
        rw [h x h4] at h3
        simp at h3
  rw [h1]
  rfl
theorem drp_one {es : List En} {k : Ky} (h : isIn k es = true) : (drp es k).length + 1 = es.length := by
  have h1 := (ge_yes h).1
  have h2 : low k es < es.length := by
    rcases Nat.lt_or_ge (low k es) es.length with h | h
    · exact h
    · rw [List.getElem?_eq_none h] at h1; cases h1
  unfold drp
  rw [if_pos h]
  unfold delAt
  simp
  omega
set_option maxRecDepth 100000 in
set_option maxHeartbeats 2000000 in
theorem keyedOk (I : Nat) (w : World) (hI : I < 32) :
    Calls Tryz.prog 23 #[.int .i64 (I : Int)] w fun r w' => r = .returned (.agg #[.string (kfu I).1, .string (kfu I).2]) ∧ Below w.heap.size w w' := by
  obtain ⟨U, hU⟩ : ∃ U, Utf8.encode (97 + (I : Int) % 26) = U := ⟨_, rfl⟩
  obtain ⟨V, hV⟩ : ∃ V, Utf8.encode (97 + (I : Int) / 26) = V := ⟨_, rfl⟩
  have hK := ki_is ⟨I, hI⟩
  simp only [] at hK
  rw [hU, hV] at hK
  have HK := Lib.hid hK
  have hu := encode_size_le (97 + (I : Int) % 26)
  have hv := encode_size_le (97 + (I : Int) / 26)
  rw [hU] at hu
  rw [hV] at hv
  obtain ⟨X, hX⟩ : ∃ X : ByteArray, ⟨#[105]⟩ ++ U = X := ⟨_, rfl⟩
  have hXs : X.size ≤ 100 := by rw [← hX, ByteArray.size_append]; show 1 + U.size ≤ 100; omega
  have HX := Lib.hid hX
  have a1 : ∀ v : World, (Op.stringOp .add ⟨#[105]⟩ U).run Tryz.prog v = .ok (.string X) v := fun v => by rw [← HX.out]; exact run_string_add_sum v _ _ (by show 1 + U.size ≤ _; omega)
  have a2 : ∀ v : World, (Op.stringOp .add X V).run Tryz.prog v = .ok (.string (X ++ V)) v := fun v => run_string_add_sum v _ _ (by omega)
  have D0 : Below w.heap.size w (w.alloc (.cells #[.string ⟨#[]⟩, .string ⟨#[]⟩] 28)) := (Below.refl _ _).alloc (Nat.le_refl _) _
  have HZ := Lib.hid (blk_new w #[.string ⟨#[]⟩, .string ⟨#[]⟩] 28)
  have HB0 := Lib.hid D0
  have q1 : (I : Int).tmod 26 = (I : Int) % 26 := Int.tmod_eq_emod_of_nonneg (by omega)
  have q2 : (I : Int).tdiv 26 = (I : Int) / 26 := Int.tdiv_eq_ediv_of_nonneg (by omega)
  clear D0 hK hX
  go_enter Tryz.func23, Tryz.ntmps23
  go_upto_region 1 with (fail)
  obtain ⟨p, hp⟩ : ∃ p, w.heap.size = p := ⟨_, rfl⟩
  have hle : w.heap.size ≤ p := by omega
  rw [hp] at HZ
  try rw [hp]
  clear hp
  generalize (w.alloc (.cells #[.string ⟨#[]⟩, .string ⟨#[]⟩] 28)) = w1 at *
  have hc := blk_cell HZ.out
  have hf := blk_free HZ.out
  have hl := blk_lt HZ.out
  go_wp2
  have hc9 := blk_cell (blk_set (n := 1) (u := .string (X ++ V)) (vs' := #[.string ⟨#[97, 112, 112]⟩, .string (X ++ V)]) (blk_set (n := 0) (u := .string ⟨#[97, 112, 112]⟩) (vs' := #[.string ⟨#[97, 112, 112]⟩, .string ⟨#[]⟩]) HZ.out (by simp)) (by simp))
  have hXV : X ++ V = ki I := by rw [← HX.out]; exact HK.out
  refine bodyPost_ret (v := .agg #[.string ⟨#[97, 112, 112]⟩, .string (X ++ V)]) (by simp [results, Tryz.results23, go_sem, hc9]) rfl ⟨by rw [hXV]; rfl, (HB0.out.setCell (p := ⟨p, 0, none⟩) hle _).setCell (p := ⟨p, 1, none⟩) hle _⟩

end Go.Proofs.YtcjpemphdgndkaaGreat

/- A register that is full: Handle, Stamp, Len. -/
namespace Go.Proofs.YtcjpemphdgndkaaGreat
open Go.RowKit
set_option linter.unusedVariables false
set_option linter.unusedSimpArgs false

set_option maxRecDepth 100000 in
set_option maxHeartbeats 2000000 in
theorem handleFull (db : Nat) (nd t0 k0 n0 : Int) (es : List En) (g l tt : Int) (ks : List Ky) (st tag N sq : Int) (k : Ky) (now : Int) (w : World) (h : DkP w db nd t0 k0 n0 es g l tt ks) (hs : Asc es) (hn : es.length ≤ 900) (hks : ks.length ≤ 1000000) (hN : ∀ s, s = (if isIn k es then sMax t0 k0 n0 (ge es k).c.t (ge es k).c.k (ge es k).c.n else (t0, k0, n0)) → s.2.2 ≤ 9223372036854775807 ∧ -9223372036854775808 ≤ s.2.2) (hin : isIn k es = false) (hfull : (32 : Int) ≤ es.length) (hN1 : 1 ≤ N) (hN2 : N ≤ 1048576) (hst : st = 1 ∨ st = 2) (hn1 : NmOk k.1) (hn2 : NmOk k.2) (h0 : 0 ≤ now) (h1 : now ≤ 1099511627776) (hs0 : 0 ≤ st) (hs1 : st ≤ 255) (hq : -1 ≤ sq) :
    Calls Tryz.prog 15 #[.pointer (some ⟨db, 0, none⟩), .agg #[.int .i64 1, .int .i64 1, .int .i64 st, .int .i64 0, .int .i64 tag, .int .i64 N, .int .i64 sq, .string k.1, .string k.2, .bool false, .int .u32 0, .slice none 0 0, .slice none 0 0], .int .i64 now] w fun r w' => r = .returned (.tuple #[.agg #[.int .i64 2, .int .i64 1, .int .i64 0, .int .i64 24, .int .i64 tag, .int .i64 0, .int .i64 0, .string k.1, .string k.2, .bool false, .int .u32 0, .slice none 0 0, .slice none 0 0], .slice none 0 0]) ∧ DkP w' db nd t0 k0 n0 es g l tt ks ∧ Rim db w w' := by
  refine (deskHandle db 1 st tag N sq k now w (fun (a : Value) (c : Int) (W : World) => a = .slice none 0 0 ∧ c = 24 ∧ DkP W db nd t0 k0 n0 es g l tt ks) (by omega) (by omega) hs0 hs1 hq hn1 hn2 h0 h1 h.lt ?_ ?_).mono ?_
  · intro w1 hb
    refine (deskWrite1 db 1 st 0 tag N sq k false 0 (.slice none 0 0) (.slice none 0 0) now w1 (fun a b W => ∃ c : Int, b = .int .i64 c ∧ (fun (a : Value) (c : Int) (W : World) => a = .slice none 0 0 ∧ c = 24 ∧ DkP W db nd t0 k0 n0 es g l tt ks) a c W ∧ Rim db w1 W) ?_).mono ?_
    · intro w2 hb2
      refine (deskRegisterFull db nd t0 k0 n0 es g l tt ks 1 1 st 0 tag N sq k false 0 (.slice none 0 0) (.slice none 0 0) now w2 (h.ext (ext_trans hb hb2)) hs hn hks hN _ rfl hin hfull hN1 hN2 hst).mono ?_
      rintro r w3 ⟨rfl, hb3⟩
      exact ⟨_, _, rfl, 24, rfl, ⟨rfl, rfl, (h.ext (ext_trans hb hb2)).ext hb3⟩, (Rim.of hb2).trans (Rim.of hb3)⟩
    · rintro r w2 ⟨a, b, rfl, c, rfl, hq9, hr⟩
      exact ⟨a, c, rfl, hq9, hr⟩
  · rintro a c u v b0 cs0 hne h0 hr ⟨e, f, hd⟩
    exact ⟨e, f, hd.msg hr hne h0⟩
  · rintro r w' ⟨a, c, rfl, ⟨rfl, rfl, hd⟩, hr⟩
    exact ⟨rfl, hd, hr⟩

set_option maxRecDepth 100000 in
set_option maxHeartbeats 1000000 in
theorem deskStamp (db : Nat) (nd t0 k0 n0 : Int) (es : List En) (g l tt : Int) (ks : List Ky) (w : World) (h : DkP w db nd t0 k0 n0 es g l tt ks) :
    Calls Tryz.prog 24 #[.pointer (some ⟨db, 0, none⟩)] w fun r w' => r = .returned (.agg #[.int .i64 t0, .int .i64 k0, .int .i64 n0]) ∧ Below w.heap.size w w' := by
  have D0 : Below w.heap.size w (w.alloc (.cells #[.int .i64 0, .int .i64 0, .int .i64 0] 35)) := (Below.refl _ _).alloc (Nat.le_refl _) _
  have HZ := Lib.hid (blk_new w #[.int .i64 0, .int .i64 0, .int .i64 0] 35)
  have HP := Lib.hid (h.ext D0)
  have HB0 := Lib.hid D0
  clear D0 h
  go_enter Tryz.func24, Tryz.ntmps24
  go_upto_region 1 with (fail)
  obtain ⟨p, hp⟩ : ∃ p, w.heap.size = p := ⟨_, rfl⟩
  have hle : w.heap.size ≤ p := by omega
  rw [hp] at HZ
  try rw [hp]
  clear hp
  generalize (w.alloc (.cells #[.int .i64 0, .int .i64 0, .int .i64 0] 35)) = w1 at *
  obtain ⟨a, c, ka, kc, h1, -⟩ := HP.out
  have hc := blk_cell h1
  have hl := blk_lt h1
  have hzc := blk_cell HZ.out
  have hzf := blk_free HZ.out
  have hzl := blk_lt HZ.out
  go_wp2
  have hc9 := blk_cell (blk_fill3 (v0 := .int .i64 t0) (v1 := .int .i64 k0) (v2 := .int .i64 n0) HZ.out rfl)
  exact bodyPost_ret (v := .agg #[.int .i64 t0, .int .i64 k0, .int .i64 n0]) (by simp [results, Tryz.results24, go_sem, hc9]) rfl ⟨rfl, below_fill3 HB0.out hle⟩

set_option maxRecDepth 100000 in
set_option maxHeartbeats 1000000 in
theorem deskLen (db : Nat) (nd t0 k0 n0 : Int) (es : List En) (g l tt : Int) (ks : List Ky) (w : World) (h : DkP w db nd t0 k0 n0 es g l tt ks) :
    Calls Tryz.prog 26 #[.pointer (some ⟨db, 4, none⟩)] w fun r w' => r = .returned (.int .i64 es.length) ∧ Below w.heap.size w w' := by
  obtain ⟨a, c, ka, kc, h1, -⟩ := h
  have hc := blk_cell h1
  have hl := blk_lt h1
  go_enter Tryz.func26, Tryz.ntmps26
  go_wp2
  go_ret
  exact ⟨rfl, Below.refl _ _⟩

end Go.Proofs.YtcjpemphdgndkaaGreat

/- DeskFull: the walk. -/
namespace Go.Proofs.YtcjpemphdgndkaaGreat
open Go.RowKit
set_option linter.unusedVariables false
set_option linter.unusedSimpArgs false

theorem dead_405 (e : Cd) (s : Int × Int × Int) : isDead 405 (⟨{ e with t := s.1, k := s.2.1, n := s.2.2, g := true }, 4⟩ : En) = true := by
  show (true && decide (400 < hd 405 - hd 4)) = true
  decide +kernel
set_option maxRecDepth 100000 in
set_option maxHeartbeats 6000000 in
theorem deskFull_walk (nn : Int) (w : World) (hwn : (Lit.int .i64 nn).wf = true) :
    Calls Tryz.prog 7 #[.int .i64 nn] w fun r w' => r = .returned (.bool true) ∧ Below w.heap.size w w' := by
  obtain ⟨c0, hc0⟩ : ∃ c0, bits BinOp.and IntKind.i64 nn 31 = c0 := ⟨_, rfl⟩
  have hcb := and_31 nn
  rw [hc0] at hcb
  replace hcb : 0 ≤ c0 ∧ c0 < 32 := by omega
  obtain ⟨c, rfl⟩ : ∃ c : Nat, c0 = (c : Int) := ⟨c0.toNat, by omega⟩
  have hc32 : c < 32 := by omega
  have HC0 := Lib.hid hc0
  clear hcb hc0
  go_enter Tryz.func7, Tryz.ntmps7
  go_wp2_with fail
  refine (deskNew 0 0 w (by omega) (by omega) (by omega) (by omega)).mono ?_
  rintro r w1 ⟨db, rfl, hdb, hp, hb⟩
  have HP1 := Lib.hid hp
  have HD1 := Lib.hid hb
  clear hp hb
  go_wp2_with fail
  refine (deskShelf db 0 0 0 0 [] 0 0 0 [] w1 HP1.out).mono ?_
  rintro r w2 ⟨rfl, hb⟩
  have HP2 := Lib.hid (HP1.out.ext hb)
  have HD2 := Lib.hid (ext_trans HD1.out hb)
  clear hb HP1 HD1
  have hcw := HC0.out
  go_wp2_with fail
  try rw [HC0.out]
  refine (keyedOk c w2 hc32).mono ?_
  rintro r w3 ⟨rfl, hb⟩
  have HP3 := Lib.hid (HP2.out.ext hb)
  have HD3 := Lib.hid (ext_trans HD2.out hb)
  clear hb HP2 HD2 hcw
  have hE : Below w3.heap.size w3 (w3.alloc (.cells #[.string (kfu c).1, .string (kfu c).2] 28)) := (Below.refl _ _).alloc (Nat.le_refl _) _
  have HK4 := Lib.hid (blk_new w3 #[.string (kfu c).1, .string (kfu c).2] 28)
  have HP4 := Lib.hid (HP3.out.ext hE)
  have HD4 := Lib.hid (ext_trans HD3.out hE)
  go_upto_region 5 with (fail)
  obtain ⟨kb, hkb⟩ : ∃ p, w3.heap.size = p := ⟨_, rfl⟩
  rw [hkb] at HK4
  try rw [hkb]
  have hkd : kb ≠ db := by rintro rfl; obtain ⟨_, _, _, _, h9, _⟩ := HP4.out; have h8 := HK4.out; rw [h9] at h8; simp at h8
  clear hkb hE HP3 HD3
  generalize (w3.alloc (.cells #[.string (kfu c).1, .string (kfu c).2] 28)) = w4 at *
  go_wp2_with fail
  go_loopw [5] (fun i wr => ∃ (I : Nat) (t0 k0 n0 : Int) (es : List En) (ks : List Ky), I ≤ 32 ∧ i = .int .i64 (I : Int) ∧ DkP wr db 0 t0 k0 n0 es 0 0 0 ks ∧ Fl I n0 es ks ∧ wr.heap[kb]? = some (.cells #[.string (kfu c).1, .string (kfu c).2] 28 (0, 0)) ∧ Below w.heap.size w wr) (fun i _ => 32 - (intOf i).toNat)
  case atStart => exact ⟨0, 0, 0, 0, [], [], by omega, rfl, HP4.out, Fl.nil, HK4.out, HD4.out⟩
  case round =>
    obtain ⟨w5, rfl⟩ : ∃ y : World, y = wr := ⟨_, rfl⟩
    obtain ⟨I, t0, k0, n0, es, ks, hI, rfl, hp, hfl, hk, hb⟩ := hrel
    clear HP4 HD4 HK4
    have HFL := Lib.hid hfl
    have HAS := Lib.hid hfl.1.1
    have hel : es.length ≤ 32 := by have := hfl.2.1; omega
    have hkl : ks.length ≤ 32 := by have := hfl.2.2.1; omega
    by_cases hlt : I < 32
    · have hd : decide ((I : Int) < 32) = true := by simp; omega
      have HP5 := Lib.hid hp
      have HK5 := Lib.hid hk
      have HD5 := Lib.hid hb
      clear hp hk hb hfl
      go_wp2_with fail
      refine (keyedOk I w5 hlt).mono ?_
      rintro r w6 ⟨rfl, hb⟩
      have HP6 := Lib.hid (HP5.out.ext hb)
      have HK6 := Lib.hid (blk_ext hb HK5.out)
      have HD6 := Lib.hid (ext_trans HD5.out hb)
      clear hb HP5 HK5 HD5
      go_wp2_with fail
      refine (handleRegister db 0 t0 k0 n0 es 0 0 0 ks 1 0 50 0 (kfu I) 1 w6 HP6.out HAS.out (by omega) (by omega) (HFL.out.1.hN (by omega) t0 k0 (kfu I)) _ rfl (.inr (by have := HFL.out.2.1; omega)) (by omega) (by omega) (.inl rfl) nm_app (nm_ki hlt) (by omega) (by omega) (by omega) (by omega) (by omega)).mono ?_
      rintro r w7 ⟨a, c9, rfl, ⟨rfl, b9, rfl, -, hd9⟩, hr⟩
      have HP7 := Lib.hid hd9
      have HK7 := Lib.hid ((hr.block kb hkd (blk_lt HK6.out)).trans HK6.out)
      have HD7 := Lib.hid (HD6.out.trans (hr.below (by omega) HD6.out.size))
      have HF7 := Lib.hid (HFL.out.step (t0 := t0) (k0 := k0) (nd := 0) hlt)
      clear hd9 hr HP6 HK6 HD6
      obtain ⟨E, hE⟩ : ∃ E, rgE es (kfu I) 1 50 (nxt t0 k0 n0 es (kfu I) 0 1) 1 = E := ⟨_, rfl⟩
      rw [hE] at HP7 HF7
      clear hE
      go_wp2
      go_roundw
      case rel => exact ⟨I + 1, _, _, _, _, _, by omega, by go_num, HP7.out.ext ((Below.refl _ _).alloc (Nat.le_refl _) _), HF7.out, blk_ext ((Below.refl _ _).alloc (Nat.le_refl _) _) HK7.out, ext_trans HD7.out ((Below.refl _ _).alloc (Nat.le_refl _) _)⟩
      case measure => simp [intOf]; omega
    · have hd : decide ((I : Int) < 32) = false := by simp; omega
      have hI32 : I = 32 := by omega
      have HF := Lib.hid (show Fl 32 n0 es ks from by rw [← hI32]; exact hfl)
      have HP0 := Lib.hid hp
      have HK0 := Lib.hid hk
      have HD0 := Lib.hid hb
      clear hp hk hb hfl HFL hI32
      have hE : Below w5.heap.size w5 (w5.alloc (.cells #[.int .i64 1, .int .i64 1, .int .i64 1, .int .i64 0, .int .i64 0, .int .i64 50, .int .i64 0, .string ⟨#[110, 101, 119]⟩, .string ⟨#[110, 101, 119]⟩, .bool false, .int .u32 0, .slice none 0 0, .slice none 0 0] 33)) := (Below.refl _ _).alloc (Nat.le_refl _) _
      have hX := Lib.hid (blk_new w5 #[.int .i64 1, .int .i64 1, .int .i64 1, .int .i64 0, .int .i64 0, .int .i64 50, .int .i64 0, .string ⟨#[110, 101, 119]⟩, .string ⟨#[110, 101, 119]⟩, .bool false, .int .u32 0, .slice none 0 0, .slice none 0 0] 33)
      have HE := Lib.hid hE
      clear hE
      go_upto_region 12 with (fail)
      obtain ⟨mb, hp⟩ : ∃ p, w5.heap.size = p := ⟨_, rfl⟩
      rw [hp] at hX
      try rw [hp]
      clear hp
      have hE := HE.out
      clear HE
      have HP1 := Lib.hid (HP0.out.ext hE)
      have HK1 := Lib.hid (blk_ext hE HK0.out)
      have HD1 := Lib.hid (ext_trans HD0.out hE)
      clear HP0 HK0 HD0 hE
      have HM1 := Lib.hid (hX.out)
      clear hX
      generalize (w5.alloc (.cells #[.int .i64 1, .int .i64 1, .int .i64 1, .int .i64 0, .int .i64 0, .int .i64 50, .int .i64 0, .string ⟨#[110, 101, 119]⟩, .string ⟨#[110, 101, 119]⟩, .bool false, .int .u32 0, .slice none 0 0, .slice none 0 0] 33)) = v1 at *
      have hmbd : mb ≠ db := by rintro rfl; obtain ⟨_, _, _, _, h9, _⟩ := HP1.out; have h8 := HM1.out; rw [h9] at h8; simp at h8
      have hHN := Lib.hid (HF.out.1.hN (by omega) t0 k0 ((⟨#[110, 101, 119]⟩, ⟨#[110, 101, 119]⟩) : Ky))
      have hNO := Lib.hid (show isIn ((⟨#[110, 101, 119]⟩, ⟨#[110, 101, 119]⟩) : Ky) es = false from no_new (fun x hx => by obtain ⟨-, j, -, h⟩ := HF.out.2.2.2.1 x hx; exact ⟨j, h⟩))
      have hl32 : (32 : Int) ≤ es.length := by have := HF.out.2.1; omega
      go_wp2_with fail
      refine (deskStamp db 0 t0 k0 n0 es 0 0 0 ks v1 HP1.out).mono ?_
      rintro r v2 ⟨rfl, hb⟩
      have HP2 := Lib.hid (HP1.out.ext hb)
      have HK2 := Lib.hid (blk_ext hb HK1.out)
      have HD2 := Lib.hid (ext_trans HD1.out hb)
      have HM2 := Lib.hid (blk_ext hb HM1.out)
      clear HP1 HK1 HD1 HM1 hb
      have hE : Below v2.heap.size v2 (v2.alloc (.cells #[.int .i64 t0, .int .i64 k0, .int .i64 n0] 35)) := (Below.refl _ _).alloc (Nat.le_refl _) _
      have hX := Lib.hid (blk_new v2 #[.int .i64 t0, .int .i64 k0, .int .i64 n0] 35)
      have HE := Lib.hid hE
      clear hE
      go_upto_region 13 with (fail)
      obtain ⟨sb, hp⟩ : ∃ p, v2.heap.size = p := ⟨_, rfl⟩
      rw [hp] at hX
      try rw [hp]
      clear hp
      have hE := HE.out
      clear HE
      have HP3 := Lib.hid (HP2.out.ext hE)
      have HK3 := Lib.hid (blk_ext hE HK2.out)
      have HD3 := Lib.hid (ext_trans HD2.out hE)
      have HM3 := Lib.hid (blk_ext hE HM2.out)
      clear HP2 HK2 HD2 HM2 hE
      have HS3 := Lib.hid (hX.out)
      clear hX
      generalize (v2.alloc (.cells #[.int .i64 t0, .int .i64 k0, .int .i64 n0] 35)) = v3 at *
      have hsbd : sb ≠ db := by rintro rfl; obtain ⟨_, _, _, _, h9, _⟩ := HP3.out; have h8 := HS3.out; rw [h9] at h8; simp at h8
      have cHM := blk_cell HM3.out
      have lHM := blk_lt HM3.out
      go_wp2_with fail
      refine (handleFull db 0 t0 k0 n0 es 0 0 0 ks 1 0 50 0 ((⟨#[110, 101, 119]⟩, ⟨#[110, 101, 119]⟩) : Ky) 2 v3 HP3.out HAS.out (by omega) (by omega) hHN.out hNO.out hl32 (by omega) (by omega) (.inl rfl) nm_new nm_new (by omega) (by omega) (by omega) (by omega) (by omega)).mono ?_
      rintro r v4 ⟨rfl, hd, hr⟩
      have HP4 := Lib.hid (hd)
      have HK4 := Lib.hid ((hr.block kb (by omega) (blk_lt HK3.out)).trans HK3.out)
      have HD4 := Lib.hid (HD3.out.trans (hr.below (by omega) HD3.out.size))
      have HM4 := Lib.hid ((hr.block mb (by omega) (blk_lt HM3.out)).trans HM3.out)
      have HS4 := Lib.hid ((hr.block sb (by omega) (blk_lt HS3.out)).trans HS3.out)
      clear HP3 HK3 HD3 HM3 HS3 hd hr cHM lHM
      have hE : Below v4.heap.size v4 (v4.alloc (.cells #[.int .i64 2, .int .i64 1, .int .i64 0, .int .i64 24, .int .i64 0, .int .i64 0, .int .i64 0, .string ⟨#[110, 101, 119]⟩, .string ⟨#[110, 101, 119]⟩, .bool false, .int .u32 0, .slice none 0 0, .slice none 0 0] 33)) := (Below.refl _ _).alloc (Nat.le_refl _) _
      have hX := Lib.hid (blk_new v4 #[.int .i64 2, .int .i64 1, .int .i64 0, .int .i64 24, .int .i64 0, .int .i64 0, .int .i64 0, .string ⟨#[110, 101, 119]⟩, .string ⟨#[110, 101, 119]⟩, .bool false, .int .u32 0, .slice none 0 0, .slice none 0 0] 33)
      have HE := Lib.hid hE
      clear hE
      go_upto_region 14 with (fail)
      obtain ⟨ab, hp⟩ : ∃ p, v4.heap.size = p := ⟨_, rfl⟩
      rw [hp] at hX
      try rw [hp]
      clear hp
      have hE := HE.out
      clear HE
      have HP5 := Lib.hid (HP4.out.ext hE)
      have HK5 := Lib.hid (blk_ext hE HK4.out)
      have HD5 := Lib.hid (ext_trans HD4.out hE)
      have HM5 := Lib.hid (blk_ext hE HM4.out)
      have HS5 := Lib.hid (blk_ext hE HS4.out)
      clear HP4 HK4 HD4 HM4 HS4 hE
      have HA5 := Lib.hid (hX.out)
      clear hX
      generalize (v4.alloc (.cells #[.int .i64 2, .int .i64 1, .int .i64 0, .int .i64 24, .int .i64 0, .int .i64 0, .int .i64 0, .string ⟨#[110, 101, 119]⟩, .string ⟨#[110, 101, 119]⟩, .bool false, .int .u32 0, .slice none 0 0, .slice none 0 0] 33)) = v5 at *
      have habd : ab ≠ db := by rintro rfl; obtain ⟨_, _, _, _, h9, _⟩ := HP5.out; have h8 := HA5.out; rw [h9] at h8; simp at h8
      have cHS := blk_cell HS5.out
      have lHS := blk_lt HS5.out
      have y0 : v5.cell? ⟨sb, 0, none⟩ = some (.int .i64 t0) := by rw [cHS]; rfl
      have y1 : v5.cell? ⟨sb, 1, none⟩ = some (.int .i64 k0) := by rw [cHS]; rfl
      have y2 : v5.cell? ⟨sb, 2, none⟩ = some (.int .i64 n0) := by rw [cHS]; rfl
      have hDS := fun g : Of v5 => deskStamp db 0 t0 k0 n0 es 0 0 0 ks g.w (HP5.out.ext g.h)
      haveI hIq : Nonempty (Of v5) := of_some _
      have hF0 := of_cell y0
      have hF1 := of_cell y1
      have hF2 := of_cell y2
      first | (refine wp_region_stay v5 (by kernel_rfl) (by kernel_rfl) (Below.refl _ _) ?_) | (refine wp_region_stay_seq v5 (Below.refl _ _) ?_)
      repeat (go_big_quiet_step ((go_at_call 24; with_reducible exact stay_call (hDS _))))
      refine wpQuiet_nil ?_
      intro v6 hb
      clear hIq hF0 hF1 hF2
      clear hDS y0 y1 y2 cHS lHS
      have HP6 := Lib.hid (HP5.out.ext hb)
      have HK6 := Lib.hid (blk_ext hb HK5.out)
      have HD6 := Lib.hid (ext_trans HD5.out hb)
      have HM6 := Lib.hid (blk_ext hb HM5.out)
      have HS6 := Lib.hid (blk_ext hb HS5.out)
      have HA6 := Lib.hid (blk_ext hb HA5.out)
      clear HP5 HK5 HD5 HM5 HS5 HA5 hb
      clear HS6
      obtain ⟨K, hK⟩ : ∃ K, kfu c = K := ⟨_, rfl⟩
      have HKK := Lib.hid hK
      have hin := HF.out.2.2.2.2 c hc32
      have hgn := (HF.out.2.2.2.1 _ (ge_mem hin)).1
      rw [hK] at hin hgn
      have hKN : NmOk K.1 := by rw [← hK]; exact nm_app
      have hKN2 : NmOk K.2 := by rw [← hK]; exact nm_ki hc32
      have HIN := Lib.hid hin
      have HGN := Lib.hid hgn
      have HN1 := Lib.hid hKN
      have HN2 := Lib.hid hKN2
      have hkk := hK
      have hkx : v6.heap[kb]? = some (.cells #[.string K.1, .string K.2] 28 (0, 0)) := by rw [← hK]; exact HK6.out
      clear hin hgn hKN hKN2 hkk hK
      clear HK6
      have HK6 := Lib.hid hkx
      clear hkx
      obtain ⟨e2, he2⟩ : ∃ e2, renE (ge es K) 3 = e2 := ⟨_, rfl⟩
      have HE2 := Lib.hid he2
      obtain ⟨T2, hT2⟩ : ∃ T2, (if (0 : Int) + 1 ≤ 1048576 then (0 : Int) + 1 else 1048576) = T2 := ⟨_, rfl⟩
      have HT2 := Lib.hid hT2
      clear he2 hT2
      have cHK := blk_cell HK6.out
      have lHK := blk_lt HK6.out
      go_wp2_with fail
      refine (handleRenew db 0 t0 k0 n0 es 0 0 0 ks 0 0 0 0 K 3 v6 HP6.out HAS.out (by omega) (by omega) (by omega) HN1.out HN2.out (by omega) (by omega) (by omega) (by omega) (by omega)).mono ?_
      rintro r v7 ⟨a2, c2, rfl, ⟨rfl, hq⟩, hr⟩
      obtain ⟨rfl, hd⟩ : c2 = 0 ∧ DkP v7 db 0 t0 k0 n0 (putE es e2) 0 0 T2 ks := by
        rcases hq with ⟨-, -, h1, h2⟩ | ⟨h1, -⟩
        · rw [HE2.out, HT2.out] at h2
          exact ⟨h1, h2⟩
        · exfalso
          rw [HIN.out, HGN.out] at h1
          rcases h1 with h1 | h1 <;> cases h1
      clear hq
      have HP7 := Lib.hid (hd)
      have HK7 := Lib.hid ((hr.block kb (by omega) (blk_lt HK6.out)).trans HK6.out)
      have HD7 := Lib.hid (HD6.out.trans (hr.below (by omega) HD6.out.size))
      have HM7 := Lib.hid ((hr.block mb (by omega) (blk_lt HM6.out)).trans HM6.out)
      have HA7 := Lib.hid ((hr.block ab (by omega) (blk_lt HA6.out)).trans HA6.out)
      clear HP6 HK6 HD6 HM6 HA6 hd hr cHK lHK
      have hE : Below v7.heap.size v7 (v7.alloc (.cells #[.int .i64 2, .int .i64 2, .int .i64 0, .int .i64 0, .int .i64 0, .int .i64 0, .int .i64 0, .string K.1, .string K.2, .bool false, .int .u32 0, .slice none 0 0, .slice none 0 0] 33)) := (Below.refl _ _).alloc (Nat.le_refl _) _
      have hX := Lib.hid (blk_new v7 #[.int .i64 2, .int .i64 2, .int .i64 0, .int .i64 0, .int .i64 0, .int .i64 0, .int .i64 0, .string K.1, .string K.2, .bool false, .int .u32 0, .slice none 0 0, .slice none 0 0] 33)
      have HE := Lib.hid hE
      clear hE
      go_upto_region 17 with (fail)
      obtain ⟨bb, hp⟩ : ∃ p, v7.heap.size = p := ⟨_, rfl⟩
      rw [hp] at hX
      try rw [hp]
      clear hp
      have hE := HE.out
      clear HE
      have HP8 := Lib.hid (HP7.out.ext hE)
      have HK8 := Lib.hid (blk_ext hE HK7.out)
      have HD8 := Lib.hid (ext_trans HD7.out hE)
      have HM8 := Lib.hid (blk_ext hE HM7.out)
      have HA8 := Lib.hid (blk_ext hE HA7.out)
      clear HP7 HK7 HD7 HM7 HA7 hE
      have HB8 := Lib.hid (hX.out)
      clear hX
      generalize (v7.alloc (.cells #[.int .i64 2, .int .i64 2, .int .i64 0, .int .i64 0, .int .i64 0, .int .i64 0, .int .i64 0, .string K.1, .string K.2, .bool false, .int .u32 0, .slice none 0 0, .slice none 0 0] 33)) = v8 at *
      have hbbd : bb ≠ db := by rintro rfl; obtain ⟨_, _, _, _, h9, _⟩ := HP8.out; have h8 := HB8.out; rw [h9] at h8; simp at h8
      have hek2 : enK e2 = K := by rw [← HE2.out, enK_ren HGN.out]; exact (ge_yes HIN.out).2
      have heg2 : e2.c.g = false := by rw [← HE2.out]; unfold renE; rw [if_neg (by rw [HGN.out]; simp)]; exact HGN.out
      have hen2 : e2.c.n = (ge es K).c.n := by rw [← HE2.out]; unfold renE; rw [if_neg (by rw [HGN.out]; simp)]
      have hgb := HF.out.1.2.1 _ (ge_mem HIN.out)
      have hfo := HF.out.1
      have hf2 : FOk 33 n0 (putE es e2) := hfo.put (by omega) (by omega) (by omega) hfo.2.2.1 (by have := hfo.2.2.2; omega)
      have hle2 : (putE es e2).length = 32 := by rw [len_in (by rw [hek2]; exact HIN.out)]; exact HF.out.2.1
      have hpi := put_in (e := e2) HAS.out
      rw [hek2] at hpi
      obtain ⟨es2, hes2⟩ : ∃ l, putE es e2 = l := ⟨_, rfl⟩
      have hmem2 : ∀ x ∈ es2, x.c.g = false ∧ ∃ j, enK x = kfu j := by
        intro x hx
        rw [← hes2] at hx
        rcases (mem_put HAS.out).1 hx with rfl | ⟨hx, -⟩
        · exact ⟨heg2, c, by rw [hek2]; exact HKK.out.symm⟩
        · obtain ⟨h1, j, -, h2⟩ := HF.out.2.2.2.1 x hx
          exact ⟨h1, j, h2⟩
      rw [hes2] at hf2 hle2 hpi HP8
      have HF2 := Lib.hid hf2
      have HI2 := Lib.hid hpi.1
      have hg2 : (ge es2 K).c.g = false := by rw [hpi.2]; exact heg2
      have HG2 := Lib.hid hg2
      have HM2 := Lib.hid hmem2
      have HK2 := Lib.hid hek2
      clear hek2 heg2 hen2 hgb hfo hf2 hpi hg2 hmem2 hes2
      obtain ⟨s3, hs3⟩ : ∃ s3, nxt t0 k0 n0 es2 K 0 4 = s3 := ⟨_, rfl⟩
      have HS3 := Lib.hid hs3
      have HX3 := Lib.hid (HF2.out.nx (by omega) t0 k0 0 4 K)
      have HN3 := Lib.hid (HF2.out.hN (by omega) t0 k0 K)
      obtain ⟨e3, he3⟩ : ∃ e3, canE (ge es2 K) s3 4 = e3 := ⟨_, rfl⟩
      have HE3 := Lib.hid he3
      clear he3 hs3
      have cHK := blk_cell HK8.out
      have lHK := blk_lt HK8.out
      go_wp2_with fail
      refine (handleCancel db 0 t0 k0 n0 es2 0 0 T2 ks 0 0 0 0 K 4 v8 HP8.out HF2.out.1 (by omega) (by omega) HN3.out s3 HS3.out HN1.out HN2.out (by omega) (by omega) (by omega) (by omega) (by omega)).mono ?_
      rintro r v9 ⟨a3, c3, rfl, hq, hr⟩
      obtain ⟨rfl, b3, rfl, hd⟩ : c3 = 0 ∧ ∃ b3, a3 = .slice (some ⟨b3, 0, none⟩) 1 1 ∧ DkP v9 db 0 e3.c.t e3.c.k e3.c.n (putE es2 e3) 0 0 T2 (ks ++ [K]) := by
        rcases hq with ⟨-, -, h1, b3, h2, h3, h4⟩ | ⟨h1, -⟩
        · rw [HE3.out] at h4
          exact ⟨h1, b3, h2, h4⟩
        · exfalso
          rw [HI2.out, HG2.out] at h1
          rcases h1 with h1 | h1 <;> cases h1
      clear hq
      have HP9 := Lib.hid (hd)
      have HK9 := Lib.hid ((hr.block kb (by omega) (blk_lt HK8.out)).trans HK8.out)
      have HD9 := Lib.hid (HD8.out.trans (hr.below (by omega) HD8.out.size))
      have HM9 := Lib.hid ((hr.block mb (by omega) (blk_lt HM8.out)).trans HM8.out)
      have HA9 := Lib.hid ((hr.block ab (by omega) (blk_lt HA8.out)).trans HA8.out)
      have HB9 := Lib.hid ((hr.block bb (by omega) (blk_lt HB8.out)).trans HB8.out)
      clear HP8 HK8 HD8 HM8 HA8 HB8 hd cHK lHK
      clear hr
      have hE : Below v9.heap.size v9 (v9.alloc (.cells #[.int .i64 2, .int .i64 3, .int .i64 0, .int .i64 0, .int .i64 0, .int .i64 0, .int .i64 0, .string K.1, .string K.2, .bool false, .int .u32 0, .slice none 0 0, .slice none 0 0] 33)) := (Below.refl _ _).alloc (Nat.le_refl _) _
      have hX := Lib.hid (blk_new v9 #[.int .i64 2, .int .i64 3, .int .i64 0, .int .i64 0, .int .i64 0, .int .i64 0, .int .i64 0, .string K.1, .string K.2, .bool false, .int .u32 0, .slice none 0 0, .slice none 0 0] 33)
      have HE := Lib.hid hE
      clear hE
      go_upto_region 18 with (fail)
      obtain ⟨cb, hp⟩ : ∃ p, v9.heap.size = p := ⟨_, rfl⟩
      rw [hp] at hX
      try rw [hp]
      clear hp
      have hE := HE.out
      clear HE
      have HP10 := Lib.hid (HP9.out.ext hE)
      have HK10 := Lib.hid (blk_ext hE HK9.out)
      have HD10 := Lib.hid (ext_trans HD9.out hE)
      have HM10 := Lib.hid (blk_ext hE HM9.out)
      have HA10 := Lib.hid (blk_ext hE HA9.out)
      have HB10 := Lib.hid (blk_ext hE HB9.out)
      clear HP9 HK9 HD9 HM9 HA9 HB9 hE
      have HC10 := Lib.hid (hX.out)
      clear hX
      generalize (v9.alloc (.cells #[.int .i64 2, .int .i64 3, .int .i64 0, .int .i64 0, .int .i64 0, .int .i64 0, .int .i64 0, .string K.1, .string K.2, .bool false, .int .u32 0, .slice none 0 0, .slice none 0 0] 33)) = v10 at *
      have hcbd : cb ≠ db := by rintro rfl; obtain ⟨_, _, _, _, h9, _⟩ := HP10.out; have h8 := HC10.out; rw [h9] at h8; simp at h8
      have hek3 : enK e3 = K := by rw [← HE3.out, enK_can HG2.out]; exact (ge_yes HI2.out).2
      have heg3 : isDead 405 e3 = true := by rw [← HE3.out]; unfold canE; rw [if_neg (by rw [HG2.out]; simp)]; exact dead_405 _ _
      have hen3 : e3.c.n = s3.2.2 := by rw [← HE3.out]; unfold canE; rw [if_neg (by rw [HG2.out]; simp)]
      have hx3 := HX3.out
      rw [HS3.out, ← hen3] at hx3
      have hf3 : FOk 34 e3.c.n (putE es2 e3) := HF2.out.put (by omega) hx3.1 hx3.2 hx3.1 hx3.2
      have hle3 : (putE es2 e3).length = 32 := by rw [len_in (by rw [hek3]; exact HI2.out)]; exact hle2
      have hpi := put_in (e := e3) HF2.out.1
      rw [hek3] at hpi
      have hdl : deadL (putE es2 e3) 405 = [K] := by rw [dead_one HF2.out.1 heg3 (fun x hx => (HM2.out x hx).1), hek3]
      obtain ⟨es3, hes3⟩ : ∃ l, putE es2 e3 = l := ⟨_, rfl⟩
      have hmem3 : ∀ x ∈ es3, ∃ j, enK x = kfu j := by
        intro x hx
        rw [← hes3] at hx
        rcases (mem_put HF2.out.1).1 hx with rfl | ⟨hx, -⟩
        · exact ⟨c, by rw [hek3]; exact HKK.out.symm⟩
        · exact (HM2.out x hx).2
      rw [hes3] at hf3 hle3 hpi hdl HP10
      have HF3 := Lib.hid hf3
      have HI3 := Lib.hid hpi.1
      have HM3 := Lib.hid hmem3
      have HDL := Lib.hid hdl
      have hNO3 := Lib.hid (show isIn ((⟨#[110, 101, 119]⟩, ⟨#[110, 101, 119]⟩) : Ky) es3 = false from no_new hmem3)
      obtain ⟨T3, hT3⟩ : ∃ x, e3.c.t = x := ⟨_, rfl⟩
      obtain ⟨K3, hK3⟩ : ∃ x, e3.c.k = x := ⟨_, rfl⟩
      obtain ⟨N3, hN3⟩ : ∃ x, e3.c.n = x := ⟨_, rfl⟩
      rw [hT3, hK3, hN3] at HP10
      rw [hN3] at HF3
      have hHN3 := Lib.hid (HF3.out.hN (by omega) T3 K3 ((⟨#[110, 101, 119]⟩, ⟨#[110, 101, 119]⟩) : Ky))
      clear hek3 heg3 hen3 hx3 hf3 hpi hmem3 hdl hes3 hT3 hK3 hN3
      have cHM := blk_cell HM10.out
      have lHM := blk_lt HM10.out
      go_wp2_with fail
      refine (handleFull db 0 T3 K3 N3 es3 0 0 T2 (ks ++ [K]) 1 0 50 0 ((⟨#[110, 101, 119]⟩, ⟨#[110, 101, 119]⟩) : Ky) 5 v10 HP10.out HF3.out.1 (by omega) (by simp; omega) hHN3.out hNO3.out (by omega) (by omega) (by omega) (.inl rfl) nm_new nm_new (by omega) (by omega) (by omega) (by omega) (by omega)).mono ?_
      rintro r v11 ⟨rfl, hd, hr⟩
      have HP11 := Lib.hid (hd)
      have HK11 := Lib.hid ((hr.block kb (by omega) (blk_lt HK10.out)).trans HK10.out)
      have HD11 := Lib.hid (HD10.out.trans (hr.below (by omega) HD10.out.size))
      have HM11 := Lib.hid ((hr.block mb (by omega) (blk_lt HM10.out)).trans HM10.out)
      have HA11 := Lib.hid ((hr.block ab (by omega) (blk_lt HA10.out)).trans HA10.out)
      have HB11 := Lib.hid ((hr.block bb (by omega) (blk_lt HB10.out)).trans HB10.out)
      have HC11 := Lib.hid ((hr.block cb (by omega) (blk_lt HC10.out)).trans HC10.out)
      clear HP10 HK10 HD10 HM10 HA10 HB10 HC10 hd hr cHM lHM
      have hE : Below v11.heap.size v11 (v11.alloc (.cells #[.int .i64 2, .int .i64 1, .int .i64 0, .int .i64 24, .int .i64 0, .int .i64 0, .int .i64 0, .string ⟨#[110, 101, 119]⟩, .string ⟨#[110, 101, 119]⟩, .bool false, .int .u32 0, .slice none 0 0, .slice none 0 0] 33)) := (Below.refl _ _).alloc (Nat.le_refl _) _
      have hX := Lib.hid (blk_new v11 #[.int .i64 2, .int .i64 1, .int .i64 0, .int .i64 24, .int .i64 0, .int .i64 0, .int .i64 0, .string ⟨#[110, 101, 119]⟩, .string ⟨#[110, 101, 119]⟩, .bool false, .int .u32 0, .slice none 0 0, .slice none 0 0] 33)
      have HE := Lib.hid hE
      clear hE
      go_upto_region 19 with (fail)
      obtain ⟨eb, hp⟩ : ∃ p, v11.heap.size = p := ⟨_, rfl⟩
      rw [hp] at hX
      try rw [hp]
      clear hp
      have hE := HE.out
      clear HE
      have HP12 := Lib.hid (HP11.out.ext hE)
      have HK12 := Lib.hid (blk_ext hE HK11.out)
      have HD12 := Lib.hid (ext_trans HD11.out hE)
      have HM12 := Lib.hid (blk_ext hE HM11.out)
      have HA12 := Lib.hid (blk_ext hE HA11.out)
      have HB12 := Lib.hid (blk_ext hE HB11.out)
      have HC12 := Lib.hid (blk_ext hE HC11.out)
      clear HP11 HK11 HD11 HM11 HA11 HB11 HC11 hE
      have HEB12 := Lib.hid (hX.out)
      clear hX
      generalize (v11.alloc (.cells #[.int .i64 2, .int .i64 1, .int .i64 0, .int .i64 24, .int .i64 0, .int .i64 0, .int .i64 0, .string ⟨#[110, 101, 119]⟩, .string ⟨#[110, 101, 119]⟩, .bool false, .int .u32 0, .slice none 0 0, .slice none 0 0] 33)) = v12 at *
      have hebd : eb ≠ db := by rintro rfl; obtain ⟨_, _, _, _, h9, _⟩ := HP12.out; have h8 := HEB12.out; rw [h9] at h8; simp at h8
      obtain ⟨es4, hes4⟩ : ∃ l, drp es3 K = l := ⟨_, rfl⟩
      have HES4 := Lib.hid hes4
      have hle4 : es4.length = 31 := by have := drp_one HI3.out; rw [hes4] at this; omega
      have has4 : Asc es4 := by rw [← hes4]; exact drp_asc HF3.out.1
      have hmem4 : ∀ x ∈ es4, x ∈ es3 := by intro x hx; rw [← hes4] at hx; exact ((drp_mem HF3.out.1).1 hx).1
      have HF4 := Lib.hid (show FOk 34 N3 es4 from ⟨has4, fun x hx => HF3.out.2.1 x (hmem4 x hx), HF3.out.2.2⟩)
      have hNO4 := Lib.hid (show isIn ((⟨#[110, 101, 119]⟩, ⟨#[110, 101, 119]⟩) : Ky) es4 = false from no_new (fun x hx => HM3.out x (hmem4 x hx)))
      have hHN4 := Lib.hid (HF4.out.hN (by omega) T3 K3 ((⟨#[110, 101, 119]⟩, ⟨#[110, 101, 119]⟩) : Ky))
      clear hes4 has4 hmem4
      go_wp2_with fail
      refine (deskPurge db 0 T3 K3 N3 es3 0 0 T2 (ks ++ [K]) 405 v12 HP12.out HF3.out.1 (by omega) (by omega) (by omega)).mono ?_
      rintro r v13 ⟨rfl, hd, hr⟩
      have hd : DkP v13 db 0 T3 K3 N3 es4 0 0 T2 (ks ++ [K]) := by rw [HDL.out] at hd; rw [← HES4.out]; exact hd
      rw [HDL.out]
      have HP13 := Lib.hid (hd)
      have HK13 := Lib.hid ((hr.block kb (by omega) (blk_lt HK12.out)).trans HK12.out)
      have HD13 := Lib.hid (HD12.out.trans (hr.below (by omega) HD12.out.size))
      have HM13 := Lib.hid ((hr.block mb (by omega) (blk_lt HM12.out)).trans HM12.out)
      have HA13 := Lib.hid ((hr.block ab (by omega) (blk_lt HA12.out)).trans HA12.out)
      have HB13 := Lib.hid ((hr.block bb (by omega) (blk_lt HB12.out)).trans HB12.out)
      have HC13 := Lib.hid ((hr.block cb (by omega) (blk_lt HC12.out)).trans HC12.out)
      have HEB13 := Lib.hid ((hr.block eb (by omega) (blk_lt HEB12.out)).trans HEB12.out)
      clear HP12 HK12 HD12 HM12 HA12 HB12 HC12 HEB12 hd hr
      have cHM := blk_cell HM13.out
      have lHM := blk_lt HM13.out
      go_wp2_with fail
      refine (handleRegister db 0 T3 K3 N3 es4 0 0 T2 (ks ++ [K]) 1 0 50 0 ((⟨#[110, 101, 119]⟩, ⟨#[110, 101, 119]⟩) : Ky) 406 v13 HP13.out HF4.out.1 (by omega) (by simp; omega) hHN4.out _ rfl (.inr (by omega)) (by omega) (by omega) (.inl rfl) nm_new nm_new (by omega) (by omega) (by omega) (by omega) (by omega)).mono ?_
      rintro r v14 ⟨a5, c5, rfl, ⟨rfl, b5, rfl, -, hd⟩, hr⟩
      have HP14 := Lib.hid (hd)
      have HK14 := Lib.hid ((hr.block kb (by omega) (blk_lt HK13.out)).trans HK13.out)
      have HD14 := Lib.hid (HD13.out.trans (hr.below (by omega) HD13.out.size))
      have HM14 := Lib.hid ((hr.block mb (by omega) (blk_lt HM13.out)).trans HM13.out)
      have HA14 := Lib.hid ((hr.block ab (by omega) (blk_lt HA13.out)).trans HA13.out)
      have HB14 := Lib.hid ((hr.block bb (by omega) (blk_lt HB13.out)).trans HB13.out)
      have HC14 := Lib.hid ((hr.block cb (by omega) (blk_lt HC13.out)).trans HC13.out)
      have HEB14 := Lib.hid ((hr.block eb (by omega) (blk_lt HEB13.out)).trans HEB13.out)
      clear HP13 HK13 HD13 HM13 HA13 HB13 HC13 HEB13 hd cHM lHM
      clear hr
      obtain ⟨e5, he5⟩ : ∃ e5, rgE es4 ((⟨#[110, 101, 119]⟩, ⟨#[110, 101, 119]⟩) : Ky) 1 50 (nxt T3 K3 N3 es4 ((⟨#[110, 101, 119]⟩, ⟨#[110, 101, 119]⟩) : Ky) 0 406) 406 = e5 := ⟨_, rfl⟩
      have hek5 : enK e5 = ((⟨#[110, 101, 119]⟩, ⟨#[110, 101, 119]⟩) : Ky) := by rw [← he5]; rfl
      have hle5 : (putE es4 e5).length = 32 := by rw [len_new (by rw [hek5]; exact hNO4.out), hle4]
      rw [he5] at HP14
      clear he5 hek5
      have hE : Below v14.heap.size v14 (v14.alloc (.cells #[.int .i64 2, .int .i64 1, .int .i64 0, .int .i64 0, .int .i64 0, .int .i64 0, .int .i64 0, .string ⟨#[110, 101, 119]⟩, .string ⟨#[110, 101, 119]⟩, .bool false, .int .u32 0, .slice none 0 0, .slice none 0 0] 33)) := (Below.refl _ _).alloc (Nat.le_refl _) _
      have hX := Lib.hid (blk_new v14 #[.int .i64 2, .int .i64 1, .int .i64 0, .int .i64 0, .int .i64 0, .int .i64 0, .int .i64 0, .string ⟨#[110, 101, 119]⟩, .string ⟨#[110, 101, 119]⟩, .bool false, .int .u32 0, .slice none 0 0, .slice none 0 0] 33)
      have HE := Lib.hid hE
      clear hE
      go_upto_region 21 with (fail)
      obtain ⟨fb, hp⟩ : ∃ p, v14.heap.size = p := ⟨_, rfl⟩
      rw [hp] at hX
      try rw [hp]
      clear hp
      have hE := HE.out
      clear HE
      have HP15 := Lib.hid (HP14.out.ext hE)
      have HK15 := Lib.hid (blk_ext hE HK14.out)
      have HD15 := Lib.hid (ext_trans HD14.out hE)
      have HM15 := Lib.hid (blk_ext hE HM14.out)
      have HA15 := Lib.hid (blk_ext hE HA14.out)
      have HB15 := Lib.hid (blk_ext hE HB14.out)
      have HC15 := Lib.hid (blk_ext hE HC14.out)
      have HEB15 := Lib.hid (blk_ext hE HEB14.out)
      clear HP14 HK14 HD14 HM14 HA14 HB14 HC14 HEB14 hE
      have HFB15 := Lib.hid (hX.out)
      clear hX
      generalize (v14.alloc (.cells #[.int .i64 2, .int .i64 1, .int .i64 0, .int .i64 0, .int .i64 0, .int .i64 0, .int .i64 0, .string ⟨#[110, 101, 119]⟩, .string ⟨#[110, 101, 119]⟩, .bool false, .int .u32 0, .slice none 0 0, .slice none 0 0] 33)) = v15 at *
      have hfbd : fb ≠ db := by rintro rfl; obtain ⟨_, _, _, _, h9, _⟩ := HP15.out; have h8 := HFB15.out; rw [h9] at h8; simp at h8
      have cHA := blk_cell HA15.out
      have lHA := blk_lt HA15.out
      have cHB := blk_cell HB15.out
      have lHB := blk_lt HB15.out
      have cHC := blk_cell HC15.out
      have lHC := blk_lt HC15.out
      have cHEB := blk_cell HEB15.out
      have lHEB := blk_lt HEB15.out
      have cHFB := blk_cell HFB15.out
      have lHFB := blk_lt HFB15.out
      go_wp2_with fail
      refine (deskShelf db 0 e5.c.t e5.c.k e5.c.n (putE es4 e5) 0 0 T2 (ks ++ [K] ++ [((⟨#[110, 101, 119]⟩, ⟨#[110, 101, 119]⟩) : Ky)]) v15 HP15.out).mono ?_
      rintro r v16 ⟨rfl, hb⟩
      have HP16 := Lib.hid (HP15.out.ext hb)
      have HK16 := Lib.hid (blk_ext hb HK15.out)
      have HD16 := Lib.hid (ext_trans HD15.out hb)
      have HM16 := Lib.hid (blk_ext hb HM15.out)
      have HA16 := Lib.hid (blk_ext hb HA15.out)
      have HB16 := Lib.hid (blk_ext hb HB15.out)
      have HC16 := Lib.hid (blk_ext hb HC15.out)
      have HEB16 := Lib.hid (blk_ext hb HEB15.out)
      have HFB16 := Lib.hid (blk_ext hb HFB15.out)
      clear HP15 HK15 HD15 HM15 HA15 HB15 HC15 HEB15 HFB15 hb cHA lHA cHB lHB cHC lHC cHEB lHEB cHFB lHFB
      go_wp2_with fail
      refine (deskLen db 0 e5.c.t e5.c.k e5.c.n (putE es4 e5) 0 0 T2 (ks ++ [K] ++ [((⟨#[110, 101, 119]⟩, ⟨#[110, 101, 119]⟩) : Ky)]) v16 HP16.out).mono ?_
      rintro r v17 ⟨rfl, hb⟩
      have HP17 := Lib.hid (HP16.out.ext hb)
      have HK17 := Lib.hid (blk_ext hb HK16.out)
      have HD17 := Lib.hid (ext_trans HD16.out hb)
      have HM17 := Lib.hid (blk_ext hb HM16.out)
      have HA17 := Lib.hid (blk_ext hb HA16.out)
      have HB17 := Lib.hid (blk_ext hb HB16.out)
      have HC17 := Lib.hid (blk_ext hb HC16.out)
      have HEB17 := Lib.hid (blk_ext hb HEB16.out)
      have HFB17 := Lib.hid (blk_ext hb HFB16.out)
      clear HP16 HK16 HD16 HM16 HA16 HB16 HC16 HEB16 HFB16 hb
      try rw [hle5]
      go_wp2_with fail
      refine (law16known v17).mono ?_
      rintro r v18 ⟨rfl, hb⟩
      have HP18 := Lib.hid (HP17.out.ext hb)
      have HK18 := Lib.hid (blk_ext hb HK17.out)
      have HD18 := Lib.hid (ext_trans HD17.out hb)
      have HM18 := Lib.hid (blk_ext hb HM17.out)
      have HA18 := Lib.hid (blk_ext hb HA17.out)
      have HB18 := Lib.hid (blk_ext hb HB17.out)
      have HC18 := Lib.hid (blk_ext hb HC17.out)
      have HEB18 := Lib.hid (blk_ext hb HEB17.out)
      have HFB18 := Lib.hid (blk_ext hb HFB17.out)
      clear HP17 HK17 HD17 HM17 HA17 HB17 HC17 HEB17 HFB17 hb
      go_wp2
      go_ret
      exact ⟨rfl, HD18.out⟩


end Go.Proofs.YtcjpemphdgndkaaGreat
