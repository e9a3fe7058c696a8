/- Package gossip and the document's own tell the same. -/
import Derived.Test.YtmgdhgaodjkifaaGosR
import Derived.Test.YtmgdhgaodjkifaaGosQ
import Derived.Test.YtmgdhgaodjkifaaGosU
namespace Go.Proofs.Ytmgdhgaodjkifaa
open Go.RowKit
set_option linter.unusedVariables false
set_option linter.unusedSimpArgs false

set_option maxRecDepth 100000 in
set_option maxHeartbeats 8000000 in
theorem msgSame6 (kd op st cod tag n sq : Int) (k1 k2 : ByteArray) (fu : Bool) (su : Int) (ca : Option Addr) (cn cc : Nat) (ka : Option Addr) (kn kc : Nat) (cb : Option Addr) (cd : Nat) (kb : Option Addr) (ke : Nat) (cs : List Cd) (ks : List Ky) (w : World) (hc1 : CAt w ca cs) (hc2 : CAt w cb cs) (hcl : cs.length = cn) (b1 : cn ≤ cc) (b2 : cc ≤ maxLen) (b3 : cn ≤ cd) (b4 : cd ≤ maxLen) (hy1 : KyAt w ka ks) (hy2 : KyAt w kb ks) (hyl : ks.length = kn) (hkn : kn ≤ 1000) :
    Calls Try.prog 19 #[.agg #[.int .i64 kd, .int .i64 op, .int .i64 st, .int .i64 cod, .int .i64 tag, .int .i64 n, .int .i64 sq, .string k1, .string k2, .bool fu, .int .u32 su, .slice ca cn cc, .slice ka kn kc], .agg #[.int .i64 kd, .int .i64 op, .int .i64 st, .int .i64 cod, .int .i64 tag, .int .i64 n, .int .i64 sq, .string k1, .string k2, .bool fu, .int .u32 su, .slice cb cn cd, .slice kb kn ke]] w fun r w' => r = .returned (.bool true) ∧ Below w.heap.size w w' := by
  have HB0 := Lib.hid (show Below w.heap.size w ((w.alloc (.cells #[.int .i64 kd, .int .i64 op, .int .i64 st, .int .i64 cod, .int .i64 tag, .int .i64 n, .int .i64 sq, .string k1, .string k2, .bool fu, .int .u32 su, .slice ca cn cc, .slice ka kn kc] 43)).alloc (.cells #[.int .i64 kd, .int .i64 op, .int .i64 st, .int .i64 cod, .int .i64 tag, .int .i64 n, .int .i64 sq, .string k1, .string k2, .bool fu, .int .u32 su, .slice cb cn cd, .slice kb kn ke] 43)) from ((Below.refl _ _).alloc (Nat.le_refl _) _).alloc (by simp) _)
  have HK := Lib.hid (blk_alloc (blk_new w #[.int .i64 kd, .int .i64 op, .int .i64 st, .int .i64 cod, .int .i64 tag, .int .i64 n, .int .i64 sq, .string k1, .string k2, .bool fu, .int .u32 su, .slice ca cn cc, .slice ka kn kc] 43) (.cells #[.int .i64 kd, .int .i64 op, .int .i64 st, .int .i64 cod, .int .i64 tag, .int .i64 n, .int .i64 sq, .string k1, .string k2, .bool fu, .int .u32 su, .slice cb cn cd, .slice kb kn ke] 43))
  have HR := Lib.hid (show ((w.alloc (.cells #[.int .i64 kd, .int .i64 op, .int .i64 st, .int .i64 cod, .int .i64 tag, .int .i64 n, .int .i64 sq, .string k1, .string k2, .bool fu, .int .u32 su, .slice ca cn cc, .slice ka kn kc] 43)).alloc (.cells #[.int .i64 kd, .int .i64 op, .int .i64 st, .int .i64 cod, .int .i64 tag, .int .i64 n, .int .i64 sq, .string k1, .string k2, .bool fu, .int .u32 su, .slice cb cn cd, .slice kb kn ke] 43)).heap[w.heap.size + 1]? = some (.cells #[.int .i64 kd, .int .i64 op, .int .i64 st, .int .i64 cod, .int .i64 tag, .int .i64 n, .int .i64 sq, .string k1, .string k2, .bool fu, .int .u32 su, .slice cb cn cd, .slice kb kn ke] 43 (0, 0)) from blk_new_at (by simp) _ _)
  have HC1 := Lib.hid (hc1.ext HB0.out)
  have HC2 := Lib.hid (hc2.ext HB0.out)
  have HY1 := Lib.hid (SAt.ext hy1 HB0.out)
  have HY2 := Lib.hid (SAt.ext hy2 HB0.out)
  have HCL := Lib.hid hcl
  have HYL := Lib.hid hyl
  clear hc1 hc2 hy1 hy2 hcl hyl
  have hee : ∀ z : Int, (z == z) = true := fun z => by simp
  have hfu : (fu == fu) = true := by simp
  go_enter Try.func19, Try.ntmps19
  go_upto_region 1 with (fail)
  obtain ⟨p, hp⟩ : ∃ p, w.heap.size = p := ⟨_, rfl⟩
  obtain ⟨r, hr⟩ : ∃ r, w.heap.size + 1 = r := ⟨_, rfl⟩
  have HRr := Lib.hid (show w.heap.size ≤ r by omega)
  rw [hp] at HK
  rw [hr] at HR
  try rw [hr]
  try rw [hp]
  try rw [hp] at hr
  try rw [hr]
  clear hr hp
  generalize ((w.alloc (.cells #[.int .i64 kd, .int .i64 op, .int .i64 st, .int .i64 cod, .int .i64 tag, .int .i64 n, .int .i64 sq, .string k1, .string k2, .bool fu, .int .u32 su, .slice ca cn cc, .slice ka kn kc] 43)).alloc (.cells #[.int .i64 kd, .int .i64 op, .int .i64 st, .int .i64 cod, .int .i64 tag, .int .i64 n, .int .i64 sq, .string k1, .string k2, .bool fu, .int .u32 su, .slice cb cn cd, .slice kb kn ke] 43)) = w1 at *
  have hk1 := blk_cell HK.out
  have hl1 := blk_lt HK.out
  have hk2 := blk_cell HR.out
  have hl2 := blk_lt HR.out
  go_wp2_with fail
  refine (same5 ca cb cn cc cd cs _ HC1.out HC2.out HCL.out b1 b3 b2 b4).mono ?_
  rintro e w3 ⟨rfl, hb⟩
  have HK3 := Lib.hid (blk_ext hb HK.out)
  have HR3 := Lib.hid (blk_ext hb HR.out)
  have HB3 := Lib.hid (ext_trans HB0.out hb)
  have HY3 := Lib.hid (SAt.ext HY1.out hb)
  have HY4 := Lib.hid (SAt.ext HY2.out hb)
  clear hk1 hl1 hk2 hl2 HK HR HB0 HC1 HC2 HY1 HY2 hb
  have hk1 := blk_cell HK3.out
  have hl1 := blk_lt HK3.out
  have hk2 := blk_cell HR3.out
  have hl2 := blk_lt HR3.out
  go_wp2_with fail
  refine (keys5 ka kb kn kc ke ks _ HY3.out HY4.out HYL.out hkn).mono ?_
  rintro e w4 ⟨rfl, hb⟩
  have HB4 := Lib.hid (ext_trans HB3.out hb)
  clear hk1 hl1 hk2 hl2 HK3 HR3 HB3 hb
  go_wp2
  go_ret
  exact ⟨rfl, HB4.out⟩

set_option maxRecDepth 100000 in
set_option maxHeartbeats 2000000 in
theorem law18same (a b ka : Option Addr) (n c m d kn kc : Nat) (xs ys : List Cd) (ks : List Ky) (w : World) (h : CAt w a xs) (h' : CAt w b ys) (kh : KyAt w ka ks) (hl : xs.length = n) (hl' : ys.length = m) (kl : ks.length = kn) (hn : n ≤ 1000) (hm : m ≤ 1000) (hkn : kn ≤ 1000) (hnc : n ≤ c) (hmd : m ≤ d) (hf : (a = none ∧ c = 0) ∨ ∃ g o, a = some ⟨g, o, none⟩) (hf' : (b = none ∧ d = 0) ∨ ∃ g o, b = some ⟨g, o, none⟩) (hs : ∀ x ∈ xs, CdS x) (hks : ∀ k ∈ ks, KyS k) :
    Calls Try.prog 7 #[.slice a n c, .slice b m d, .slice ka kn kc] w fun e w' => e = .returned (.bool true) ∧ Below w.heap.size w w' := by
  have HA := Lib.hid h
  have HD := Lib.hid h'
  have HKA := Lib.hid kh
  have HN := Lib.hid hl
  have HM := Lib.hid hl'
  have HKN := Lib.hid kl
  have HS := Lib.hid hs
  have HKS := Lib.hid hks
  have HF := Lib.hid hf
  have HF' := Lib.hid hf'
  clear h h' kh hl hl' kl hs hks hf hf'
  go_enter Try.func7, Try.ntmps7
  go_wp2_with fail
  refine (gCompare a b n m c d xs ys _ HA.out HD.out HN.out HM.out hn hm HF.out HF'.out).mono ?_
  rintro e w1 ⟨v1, v2, rfl, hk1, hc1, hb1⟩
  rw [gk_fil _ _ _ (onc_str xs) (onc_str ys) (Nat.le_refl _)] at hk1
  rw [gc_fil _ _ _ (onc_str xs) (onc_str ys) (Nat.le_refl _)] at hc1
  obtain ⟨KL, hKL⟩ : ∃ q, ((onc ys).filter (tell (onc xs))).map kyc = q := ⟨_, rfl⟩
  obtain ⟨CL, hCL⟩ : ∃ q, (onc xs).filter (tell (onc ys)) = q := ⟨_, rfl⟩
  have hk0 : KL.length ≤ 1000 := by
    rw [← hKL, List.length_map]
    have h1 := List.length_filter_le (tell (onc xs)) (onc ys)
    have h2 := onc_len ys
    have h3 := HM.out
    omega
  rw [hKL] at hk1
  rw [hCL] at hc1
  have HKL := Lib.hid hKL
  have HCL := Lib.hid hCL
  obtain ⟨a1, c1, rfl, -, -, at1, -, -⟩ := hk1.read ky_len
  obtain ⟨a2, c2, rfl, q2, q2', at2, -, -⟩ := (show OwnC _ _ _ _ from hc1).read
  have T1 := Lib.hid at1
  have T2 := Lib.hid at2
  have HB1 := Lib.hid hb1
  clear hk1 hc1 hKL hCL at1 at2 hb1
  go_wp2_with fail
  refine (refCompare a b n m c d xs ys _ (HA.out.ext HB1.out) (HD.out.ext HB1.out) HN.out HM.out hn hm hnc hmd).mono ?_
  rintro e w2 ⟨v3, v4, rfl, hk3, hc3, hb2⟩
  rw [HKL.out] at hk3
  rw [HCL.out] at hc3
  obtain ⟨a3, c3, rfl, -, -, at3, -, -⟩ := hk3.read ky_len
  obtain ⟨a4, c4, rfl, q4, q4', at4, -, -⟩ := (show OwnC _ _ _ _ from hc3).read
  have T3 := Lib.hid at3
  have T4 := Lib.hid at4
  have T1' := Lib.hid (SAt.ext T1.out hb2)
  have T2' := Lib.hid (T2.out.ext hb2)
  have HB2 := Lib.hid (ext_trans HB1.out hb2)
  obtain ⟨kp, hkp⟩ : ∃ q, KL.length = q := ⟨_, rfl⟩
  obtain ⟨cp, hcp⟩ : ∃ q, CL.length = q := ⟨_, rfl⟩
  have HKP := Lib.hid hkp
  have HCP := Lib.hid hcp
  rw [hkp] at hk0 ⊢
  rw [hcp] at q2 q4 ⊢
  clear hk3 hc3 at3 at4 hb2 hkp hcp T1 T2 HB1
  go_wp2_with fail
  refine (keys5 a1 a3 kp c1 c3 KL _ T1'.out T3.out HKP.out hk0).mono ?_
  rintro e w3 ⟨rfl, hb3⟩
  have HB3 := Lib.hid (ext_trans HB2.out hb3)
  have T2'' := Lib.hid (T2'.out.ext hb3)
  have T4' := Lib.hid (T4.out.ext hb3)
  clear hb3
  go_wp2_with fail
  refine (same5 a2 a4 cp c2 c4 CL _ T2''.out T4'.out HCP.out q2 q4 q2' q4').mono ?_
  rintro e w4 ⟨rfl, hb4⟩
  have HB4 := Lib.hid (ext_trans HB3.out hb4)
  clear hb4
  go_wp2_with fail
  refine (gDigest a n c xs _ (HA.out.ext HB4.out) HN.out hn HF.out).mono ?_
  rintro e w5 ⟨a5, K, hK, rfl, at5, -, hb5⟩
  have HB5 := Lib.hid (ext_trans HB4.out hb5)
  have T5 := Lib.hid at5
  have HK := Lib.hid hK
  have hKl : K ≤ 64 := by omega
  have hKn : K ≤ n := by omega
  clear hb5 at5 hK
  go_wp2_with fail
  refine (refDigest a n c xs _ (HA.out.ext HB5.out) HN.out hn hnc).mono ?_
  rintro e w6 ⟨a6, K', c6, hK', hKc, hcm, rfl, at6, -, hb6⟩
  have HB6 := Lib.hid (ext_trans HB5.out hb6)
  obtain rfl : K = K' := HK.out.trans hK'.symm
  have T6 := Lib.hid at6
  have T5' := Lib.hid (T5.out.ext hb6)
  have HLL := Lib.hid (show ((srt klt xs).take K).length = K from by rw [List.length_take, srt_len]; have := HN.out; omega)
  have hK2 : K ≤ maxLen := by unfold maxLen; omega
  clear hb6 at6 hK'
  go_wp2_with fail
  refine (msgSame6 4 0 0 0 0 0 0 ⟨#[]⟩ ⟨#[]⟩ false 0 a5 K K none 0 0 a6 c6 none 0 ((srt klt xs).take K) [] _ T5'.out T6.out HLL.out (Nat.le_refl _) hK2 hKc hcm (SAt.nil _ _) (SAt.nil _ _) rfl (by omega)).mono ?_
  rintro e w7 ⟨rfl, hb7⟩
  have HB7 := Lib.hid (ext_trans HB6.out hb7)
  clear hb7
  go_wp2_with fail
  refine (gAnswer a n c xs ka kn kc ks _ (HA.out.ext HB7.out) HN.out hn hnc HS.out (SAt.ext HKA.out HB7.out) HKN.out hkn HKS.out).mono ?_
  rintro e w8 ⟨v8, rfl, hc8, hb8⟩
  obtain ⟨a8, c8, rfl, q8, q8', at8, -, -⟩ := (show OwnC _ _ _ _ from hc8).read
  have T8 := Lib.hid at8
  have HB8 := Lib.hid (ext_trans HB7.out hb8)
  clear hc8 at8 hb8
  go_wp2_with fail
  refine (refAnswer a n c xs ka kn kc ks _ (HA.out.ext HB8.out) HN.out hn (SAt.ext HKA.out HB8.out) HKN.out hkn).mono ?_
  rintro e w9 ⟨v9, rfl, hc9, hb9⟩
  obtain ⟨a9, c9, rfl, q9, q9', at9, -, -⟩ := (show OwnC _ _ _ _ from hc9).read
  have T9 := Lib.hid at9
  have T8' := Lib.hid (T8.out.ext hb9)
  have HB9 := Lib.hid (ext_trans HB8.out hb9)
  obtain ⟨ap, hap⟩ : ∃ q, (ansL xs ks).length = q := ⟨_, rfl⟩
  have HAP := Lib.hid hap
  rw [hap] at q8 q9 ⊢
  clear hc9 at9 hb9 hap
  go_wp2_with fail
  refine (same5 a8 a9 ap c8 c9 (ansL xs ks) _ T8'.out T9.out HAP.out q8 q9 q8' q9').mono ?_
  rintro e w10 ⟨rfl, hb10⟩
  have HB10 := Lib.hid (ext_trans HB9.out hb10)
  clear hb10
  go_wp2
  go_ret
  exact ⟨rfl, HB10.out⟩

end Go.Proofs.Ytmgdhgaodjkifaa
