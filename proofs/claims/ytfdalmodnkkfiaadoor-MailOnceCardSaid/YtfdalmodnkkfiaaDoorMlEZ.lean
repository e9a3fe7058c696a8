/- Messages held against one another. -/
import Derived.Test.YtfdalmodnkkfiaaDoorMlE0
import Derived.Test.YtfdalmodnkkfiaaDoorMlE1
import Derived.Test.YtfdalmodnkkfiaaDoorMlE2
import Derived.Test.YtfdalmodnkkfiaaDoorMlE3
import Derived.Test.YtfdalmodnkkfiaaDoorMlE4
import Derived.Test.YtfdalmodnkkfiaaDoorMlE9
namespace Go.Proofs.YtfdalmodnkkfiaaDoor
open Go.RowKit
set_option linter.unusedVariables false
set_option linter.unusedSimpArgs false

set_option maxRecDepth 100000 in
set_option maxHeartbeats 1000000 in
theorem mailSame (kd : Int) (op : Int) (st : Int) (cod : Int) (tag : Int) (n : Int) (sq : Int) (k1 : ByteArray) (k2 : ByteArray) (fu : Bool) (su : Int) (kd' : Int) (op' : Int) (st' : Int) (cod' : Int) (tag' : Int) (n' : Int) (sq' : Int) (k1' : ByteArray) (k2' : ByteArray) (fu' : Bool) (su' : Int) (ca : Option Addr) (cn cc : Nat) (ka : Option Addr) (kn kc : Nat) (cb : Option Addr) (cm cd : Nat) (kb : Option Addr) (km ke : Nat) (cs ds : List Cd) (ks ls : List Ky) (w : World) (hc1 : CAt w ca cs) (hc2 : CAt w cb ds) (hl1 : cs.length = cn) (hl2 : ds.length = cm) (hn1 : cn ≤ 1000) (hn2 : cm ≤ 1000) (hy1 : KyAt w ka ks) (hy2 : KyAt w kb ls) (hm1 : ks.length = kn) (hm2 : ls.length = km) (hn3 : kn ≤ 1000) (hn4 : km ≤ 1000) :
    Calls Tryd.prog 16 #[.agg #[.int .i64 kd, .int .i64 op, .int .i64 st, .int .i64 cod, .int .i64 tag, .int .i64 n, .int .i64 sq, .string k1, .string k2, .bool fu, .int .u32 su, .slice ca cn cc, .slice ka kn kc], .agg #[.int .i64 kd', .int .i64 op', .int .i64 st', .int .i64 cod', .int .i64 tag', .int .i64 n', .int .i64 sq', .string k1', .string k2', .bool fu', .int .u32 su', .slice cb cm cd, .slice kb km ke]] w fun r w' => ∃ b : Bool, r = .returned (.bool b) ∧ (b = true ↔ (⟨kd, op, st, cod, tag, n, sq, (k1, k2), fu, su, cs, ks⟩ : Mg) = ⟨kd', op', st', cod', tag', n', sq', (k1', k2'), fu', su', ds, ls⟩) ∧ Below w.heap.size w w' := by
  by_cases e0 : kd = kd'
  rotate_left
  · exact (mailNe_kd kd op st cod tag n sq k1 k2 fu su kd' op' st' cod' tag' n' sq' k1' k2' fu' su' ca cn cc ka kn kc cb cm cd kb km ke w e0).mono fun r w' h => ⟨false, h.1, ⟨fun h => by simp at h, fun h => absurd (by have := congrArg Mg.kd h; exact this) e0⟩, h.2⟩
  subst e0
  by_cases e1 : op = op'
  rotate_left
  · exact (mailNe_op kd op st cod tag n sq k1 k2 fu su op' st' cod' tag' n' sq' k1' k2' fu' su' ca cn cc ka kn kc cb cm cd kb km ke w e1).mono fun r w' h => ⟨false, h.1, ⟨fun h => by simp at h, fun h => absurd (by have := congrArg Mg.op h; exact this) e1⟩, h.2⟩
  subst e1
  by_cases e2 : st = st'
  rotate_left
  · exact (mailNe_st kd op st cod tag n sq k1 k2 fu su st' cod' tag' n' sq' k1' k2' fu' su' ca cn cc ka kn kc cb cm cd kb km ke w e2).mono fun r w' h => ⟨false, h.1, ⟨fun h => by simp at h, fun h => absurd (by have := congrArg Mg.st h; exact this) e2⟩, h.2⟩
  subst e2
  by_cases e3 : cod = cod'
  rotate_left
  · exact (mailNe_cod kd op st cod tag n sq k1 k2 fu su cod' tag' n' sq' k1' k2' fu' su' ca cn cc ka kn kc cb cm cd kb km ke w e3).mono fun r w' h => ⟨false, h.1, ⟨fun h => by simp at h, fun h => absurd (by have := congrArg Mg.cod h; exact this) e3⟩, h.2⟩
  subst e3
  by_cases e4 : tag = tag'
  rotate_left
  · exact (mailNe_tag kd op st cod tag n sq k1 k2 fu su tag' n' sq' k1' k2' fu' su' ca cn cc ka kn kc cb cm cd kb km ke w e4).mono fun r w' h => ⟨false, h.1, ⟨fun h => by simp at h, fun h => absurd (by have := congrArg Mg.tag h; exact this) e4⟩, h.2⟩
  subst e4
  by_cases e5 : n = n'
  rotate_left
  · exact (mailNe_n kd op st cod tag n sq k1 k2 fu su n' sq' k1' k2' fu' su' ca cn cc ka kn kc cb cm cd kb km ke w e5).mono fun r w' h => ⟨false, h.1, ⟨fun h => by simp at h, fun h => absurd (by have := congrArg Mg.n h; exact this) e5⟩, h.2⟩
  subst e5
  by_cases e6 : sq = sq'
  rotate_left
  · exact (mailNe_sq kd op st cod tag n sq k1 k2 fu su sq' k1' k2' fu' su' ca cn cc ka kn kc cb cm cd kb km ke w e6).mono fun r w' h => ⟨false, h.1, ⟨fun h => by simp at h, fun h => absurd (by have := congrArg Mg.sq h; exact this) e6⟩, h.2⟩
  subst e6
  by_cases e7 : k1 = k1'
  rotate_left
  · exact (mailNe_k1 kd op st cod tag n sq k1 k2 fu su k1' k2' fu' su' ca cn cc ka kn kc cb cm cd kb km ke w e7).mono fun r w' h => ⟨false, h.1, ⟨fun h => by simp at h, fun h => absurd (by have := congrArg Mg.k h; exact congrArg Prod.fst this) e7⟩, h.2⟩
  subst e7
  by_cases e8 : k2 = k2'
  rotate_left
  · exact (mailNe_k2 kd op st cod tag n sq k1 k2 fu su k2' fu' su' ca cn cc ka kn kc cb cm cd kb km ke w e8).mono fun r w' h => ⟨false, h.1, ⟨fun h => by simp at h, fun h => absurd (by have := congrArg Mg.k h; exact congrArg Prod.snd this) e8⟩, h.2⟩
  subst e8
  by_cases e9 : fu = fu'
  rotate_left
  · exact (mailNe_fu kd op st cod tag n sq k1 k2 fu su fu' su' ca cn cc ka kn kc cb cm cd kb km ke w e9).mono fun r w' h => ⟨false, h.1, ⟨fun h => by simp at h, fun h => absurd (by have := congrArg Mg.fu h; exact this) e9⟩, h.2⟩
  subst e9
  by_cases e10 : su = su'
  rotate_left
  · exact (mailNe_su kd op st cod tag n sq k1 k2 fu su su' ca cn cc ka kn kc cb cm cd kb km ke w e10).mono fun r w' h => ⟨false, h.1, ⟨fun h => by simp at h, fun h => absurd (by have := congrArg Mg.su h; exact this) e10⟩, h.2⟩
  subst e10
  exact (mailSameRows kd op st cod tag n sq k1 k2 fu su ca cn cc ka kn kc cb cm cd kb km ke cs ds ks ls w hc1 hc2 hl1 hl2 hn1 hn2 hy1 hy2 hm1 hm2 hn3 hn4).mono fun r w' h => by
    obtain ⟨b, h1, h2, h3⟩ := h
    exact ⟨b, h1, h2.trans ⟨fun h => by rw [h.1, h.2], fun h => ⟨congrArg Mg.cs h, congrArg Mg.ks h⟩⟩, h3⟩

end Go.Proofs.YtfdalmodnkkfiaaDoor
