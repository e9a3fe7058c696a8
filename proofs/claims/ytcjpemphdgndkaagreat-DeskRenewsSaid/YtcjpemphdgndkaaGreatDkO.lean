/- A desk: a sweep that puts nobody out. -/
import Derived.Test.YtcjpemphdgndkaaGreatDkK
namespace Go.Proofs.YtcjpemphdgndkaaGreat
open Go.RowKit
set_option linter.unusedVariables false
set_option linter.unusedSimpArgs false

theorem deskLive (db : Nat) (nd t0 k0 n0 : Int) (es : List En) (g l tt : Int) (ks : List Ky) (w : World) (h : DkP w db nd t0 k0 n0 es g l tt ks) (hn : es.length ≤ 900) :
    Calls Tryz.prog 49 #[.pointer (some ⟨db, 4, none⟩)] w fun r w' => r = .returned (.int .i64 (livN es)) ∧ Below w.heap.size w w' := by
  obtain ⟨Dk0, h1, -⟩ := h.s
  exact dkLive Dk0 db 32 es w h1 hn
theorem deskAll (db : Nat) (nd t0 k0 n0 : Int) (es : List En) (g l tt : Int) (ks : List Ky) (w : World) (h : DkP w db nd t0 k0 n0 es g l tt ks) (hn : es.length ≤ 900) :
    Calls Tryz.prog 51 #[.pointer (some ⟨db, 4, none⟩)] w fun r w' => ∃ v, r = .returned v ∧ OwnE w.heap.size w' v es ∧ Below w.heap.size w w' := by
  obtain ⟨Dk0, h1, -⟩ := h.s
  exact dkAll Dk0 db 32 es w h1 hn
set_option maxRecDepth 100000 in
set_option maxHeartbeats 2000000 in
theorem deskSweepNone (db : Nat) (nd t0 k0 n0 : Int) (es : List En) (g l tt : Int) (ks : List Ky) (now lt : Int) (w : World) (h : DkP w db nd t0 k0 n0 es g l tt ks) (hn : es.length ≤ 900) (h0 : 0 ≤ now) (h1 : now ≤ 1099511627776) (hg : ∀ e ∈ es, late e now = 0 ∧ e.c.g = false) :
    Calls Tryz.prog 18 #[.pointer (some ⟨db, 0, none⟩), .int .i64 now, .int .i64 lt] w fun r w' => r = .returned (.slice none 0 0) ∧ Below w.heap.size w w' := by
  have HP := Lib.hid h
  have HG := Lib.hid hg
  clear h hg
  go_enter Tryz.func18, Tryz.ntmps18
  go_upto_region 1 with (fail)
  haveI hIq : Nonempty (Of w) := of_some _
  first | (refine wp_region_stay w (by kernel_rfl) (by kernel_rfl) (by go_grown) ?_) | (refine wp_region_stay_seq w (by go_grown) ?_)
  repeat (go_big_quiet_step (first | (go_at_call 49; refine stay_call (deskLive db nd t0 k0 n0 es g l tt ks _ (HP.out.ext (In.h _)) hn)) | (go_at_call 48; refine stay_call (deskProtects db nd t0 k0 n0 es g l tt ks (livN es) _ (HP.out.ext (In.h _))))))
  refine wpQuiet_nil ?_
  intro w2 hb2
  have HB2 := Lib.hid hb2
  clear hIq hb2
  obtain ⟨b, hb⟩ : ∃ b : Bool, decide (l < needV (livN es)) = b := ⟨_, rfl⟩
  rw [hb]
  clear hb
  cases b
  · go_wp2_with fail
    refine (deskHeld now w2 h0 h1).mono ?_
    rintro r x ⟨rfl, hx⟩
    obtain rfl := hx.symm
    go_wp2_with fail
    refine (deskAll db nd t0 k0 n0 es g l tt ks w2 (HP.out.ext HB2.out) hn).mono ?_
    rintro r w3 ⟨v, rfl, ho, hb3⟩
    obtain ⟨a, c, rfl, hc, hm, hat, -, -⟩ := OwnR.read ec_len ho
    have HB3 := Lib.hid (ext_trans HB2.out hb3)
    have HAT := Lib.hid hat
    obtain ⟨n, hn9⟩ : ∃ n, es.length = n := ⟨_, rfl⟩
    rw [hn9] at hc hn ⊢
    have HN9 := Lib.hid hn9
    clear ho hb3 hat hn9
    go_wp2_with fail
    refine (pickNone a n c es now lt w3 HAT.out HN9.out hn hc HG.out).mono ?_
    rintro r w4 ⟨rfl, hb4⟩
    go_wp2_with fail
    refine wp_loop_rounds 1 ?_
    rw [rounds_succ]
    go_wp2
    go_ret
    exact ⟨rfl, ext_trans HB3.out hb4⟩
  · go_wp2
    go_ret
    exact ⟨rfl, HB2.out⟩

end Go.Proofs.YtcjpemphdgndkaaGreat
