/- 'GossipBoth': the walk. -/
import Derived.Test.YtmgdhgaodjkifaaGosS
namespace Go.Proofs.Ytmgdhgaodjkifaa
open Go.RowKit
set_option linter.unusedVariables false
set_option linter.unusedSimpArgs false

theorem TapeK.cat {a0 : Option Addr} {len cap b : Nat} {w w' : World} (h : TapeK a0 len cap w b) (hr : Bar b w w') {a : Option Addr} {cs : List Cd} (ho : CAt w a cs) : CAt w' a cs :=
  ho.keep fun k cur hc _ => hr.block k (h.ne (by decide) hc) (blk_lt hc)

set_option maxRecDepth 100000 in
set_option maxHeartbeats 4000000 in
theorem gossipBoth_walk (ra : Option Addr) (rlen rcap : Nat) (rz : List Int) (w : World) (hr : IsRow .i64 w ra rlen rcap rz) (hr8 : rlen * 8 ≤ 140737488351232) :
    Calls Try.prog 4 #[.slice ra rlen rcap] w fun e w' => e = .returned (.bool true) ∧ Below w.heap.size w w' := by
  have D0 : Below w.heap.size w (w.alloc (.cells #[.slice ra rlen rcap, .int .i64 0] 25)) := (Below.refl _ _).alloc (Nat.le_refl _) _
  have HT0 := Lib.hid (tapeK_new (a := ra) (len := rlen) (cap := rcap) w)
  have HR0 := Lib.hid (rowOk_new hr (.cells #[.slice ra rlen rcap, .int .i64 0] 25))
  have HD0 := Lib.hid D0
  clear hr D0
  go_enter Try.func4, Try.ntmps4
  go_wp2_with fail
  generalize (w.alloc (.cells #[.slice ra rlen rcap, .int .i64 0] 25)) = w0 at *
  refine (tapeCards ra rlen rcap rz w.heap.size 12 _ HT0.out HR0.out (by omega)).mono ?_
  rintro e w1 ⟨vw1, xs, rfl, how1, hlw1, hokw1, hTw1, hbw1⟩
  obtain ⟨xa, xc, rfl, hxac, hxam, hxat, -, -⟩ := how1.read
  have HCAxs := Lib.hid hxat
  have HOKxs := Lib.hid hokw1
  have HTw1 := Lib.hid hTw1
  have HRw1 := Lib.hid (HR0.out.bar hbw1)
  have HB1 := Lib.hid (HD0.out.trans (hbw1.below (Nat.le_refl _) HD0.out.size))
  clear how1 hokw1 hTw1 hbw1 hxat HT0 HR0 HD0
  go_wp2_with fail
  refine (onceC xa xs.length xc xs _ HCAxs.out rfl (by omega) hxac).mono ?_
  rintro e w2 ⟨vw2, rfl, how2, hbw2⟩
  obtain ⟨aa, haa⟩ : ∃ l, onc xs = l := ⟨_, rfl⟩
  have HSaa := Lib.hid (show Str aa from by rw [← haa]; exact onc_str xs)
  have HCaa := Lib.hid (show ∀ x ∈ aa, CdS x from fun x hx => (HOKxs.out x (onc_mem (by rw [haa]; exact hx))).s)
  have hlaa : aa.length ≤ 12 := by rw [← haa]; have := onc_len xs; omega
  rw [haa] at how2
  obtain ⟨aaa, aac, rfl, haac, haam, haat, -, haaf⟩ := how2.read
  obtain ⟨n, hn⟩ : ∃ n, aa.length = n := ⟨_, rfl⟩
  have HNaa := Lib.hid hn
  rw [hn] at haac hlaa ⊢
  have HLaa := Lib.hid haat
  have HFaa := Lib.hid (show (aaa = none ∧ aac = 0) ∨ ∃ b o, aaa = some ⟨b, o, none⟩ from by
    rcases haaf with ⟨e1, e2, _⟩ | ⟨g, e⟩
    · exact .inl ⟨e1, e2⟩
    · exact .inr ⟨g, 0, e⟩)
  unfold maxLen at haam
  have HB2 := Lib.hid (ext_trans HB1.out hbw2)
  have HT2 := Lib.hid (HTw1.out.ext hbw2)
  have HR2 := Lib.hid (HRw1.out.bar (Bar.of hbw2))
  clear how2 hbw2 haa haat haaf hn HTw1 HRw1 HB1 HCAxs HOKxs
  go_wp2_with fail
  refine (tapeCards ra rlen rcap rz w.heap.size 12 _ HT2.out HR2.out (by omega)).mono ?_
  rintro e w3 ⟨vw3, ys, rfl, how3, hlw3, hokw3, hTw3, hbw3⟩
  obtain ⟨ya, yc, rfl, hyac, hyam, hyat, -, -⟩ := how3.read
  have HCAys := Lib.hid hyat
  have HOKys := Lib.hid hokw3
  have HTw3 := Lib.hid hTw3
  have HRw3 := Lib.hid (HR2.out.bar hbw3)
  have HB3 := Lib.hid (HB2.out.trans (hbw3.below (Nat.le_refl _) HB2.out.size))
  have HLaa3 := Lib.hid (HT2.out.cat hbw3 HLaa.out)
  clear how3 hokw3 hTw3 hbw3 hyat HT2 HR2 HB2 HLaa
  go_wp2_with fail
  refine (onceC ya ys.length yc ys _ HCAys.out rfl (by omega) hyac).mono ?_
  rintro e w4 ⟨vw4, rfl, how4, hbw4⟩
  obtain ⟨bb, hbb⟩ : ∃ l, onc ys = l := ⟨_, rfl⟩
  have HSbb := Lib.hid (show Str bb from by rw [← hbb]; exact onc_str ys)
  have HCbb := Lib.hid (show ∀ x ∈ bb, CdS x from fun x hx => (HOKys.out x (onc_mem (by rw [hbb]; exact hx))).s)
  have hlbb : bb.length ≤ 12 := by rw [← hbb]; have := onc_len ys; omega
  rw [hbb] at how4
  obtain ⟨bba, bbc, rfl, hbbc, hbbm, hbbt, -, hbbf⟩ := how4.read
  obtain ⟨m, hm⟩ : ∃ n, bb.length = n := ⟨_, rfl⟩
  have HNbb := Lib.hid hm
  rw [hm] at hbbc hlbb ⊢
  have HLbb := Lib.hid hbbt
  have HFbb := Lib.hid (show (bba = none ∧ bbc = 0) ∨ ∃ b o, bba = some ⟨b, o, none⟩ from by
    rcases hbbf with ⟨e1, e2, _⟩ | ⟨g, e⟩
    · exact .inl ⟨e1, e2⟩
    · exact .inr ⟨g, 0, e⟩)
  unfold maxLen at hbbm
  have HB4 := Lib.hid (ext_trans HB3.out hbw4)
  have HLaa4 := Lib.hid (HLaa3.out.ext hbw4)
  obtain ⟨Cc, hCc⟩ : ∃ L, gc (n + m) aa bb = L := ⟨_, rfl⟩
  obtain ⟨Dd, hDd⟩ : ∃ L, gc (n + m) bb aa = L := ⟨_, rfl⟩
  have HCS := Lib.hid (show Cc.Sublist aa from by rw [← hCc]; exact gc_sub _ _ _)
  have HDS := Lib.hid (show Dd.Sublist bb from by rw [← hDd]; exact gc_sub _ _ _)
  have HCC := Lib.hid hCc
  have HDD := Lib.hid hDd
  obtain ⟨p, hp⟩ : ∃ p, Cc.length = p := ⟨_, rfl⟩
  obtain ⟨q, hq⟩ : ∃ q, Dd.length = q := ⟨_, rfl⟩
  have HP := Lib.hid hp
  have HQ := Lib.hid hq
  have hp12 : p ≤ 12 := by rw [← hp]; have := HCS.out.length_le; have := HNaa.out; omega
  have hq12 : q ≤ 12 := by rw [← hq]; have := HDS.out.length_le; have := HNbb.out; omega
  clear how4 hbw4 hbb hbbt hbbf hm HTw3 HRw3 HB3 HCAys HOKys HLaa3 hCc hDd hp hq
  go_wp2_with fail
  refine (gDigest bba m bbc bb _ HLbb.out HNbb.out (by omega) HFbb.out).mono ?_
  rintro e w5 ⟨dg, rfl, hdg, hfdg, hbw5⟩
  rw [srt_ord klt bb HSbb.out.ord] at hdg
  have Hdg := Lib.hid hdg
  have HDFdg := Lib.hid (show (dg = none ∧ m = 0) ∨ ∃ g o, dg = some ⟨g, o, none⟩ from hfdg)
  have HBw5 := Lib.hid (ext_trans HB4.out hbw5)
  have hfd := fun w => field_cards dg m m w
  have HLaa5 := Lib.hid (HLaa4.out.ext hbw5)
  have HLbb5 := Lib.hid (HLbb.out.ext hbw5)
  clear hdg hfdg hbw5
  go_wp2_with fail
  clear hfd
  refine (gCompare aaa dg n m aac m aa bb _ HLaa5.out Hdg.out HNaa.out HNbb.out (by omega) (by omega) HFaa.out (by
    rcases HDFdg.out with ⟨e1, e2⟩ | h
    · exact .inl ⟨e1, e2⟩
    · exact .inr h)).mono ?_
  rintro e w6 ⟨kw6, cw6, rfl, hkw6, hcw6, hbw6⟩
  rw [onc_id HSaa.out, onc_id HSbb.out, HNaa.out, HNbb.out, gk_gc, HDD.out] at hkw6
  rw [onc_id HSaa.out, onc_id HSbb.out, HNaa.out, HNbb.out, HCC.out] at hcw6
  obtain ⟨kw6a, kw6c, rfl, hkw61, hkw62, hkw6t, -, -⟩ := OwnR.read ky_len hkw6
  obtain ⟨cw6a, cw6c, rfl, hcw61, hcw62, hcw6t, -, -⟩ := hcw6.read
  have HKw6 := Lib.hid hkw6t
  have HCw6 := Lib.hid hcw6t
  have HBw6 := Lib.hid (ext_trans HBw5.out hbw6)
  rw [len_kyc, HQ.out] at hkw61 ⊢
  rw [HP.out] at hcw61 ⊢
  have HLaa6 := Lib.hid (HLaa5.out.ext hbw6)
  have HLbb6 := Lib.hid (HLbb5.out.ext hbw6)
  clear hkw6 hcw6 hkw6t hcw6t hbw6 HLaa5 HLbb5
  go_wp2_with fail
  refine (gDigest aaa n aac aa _ HLaa6.out HNaa.out (by omega) HFaa.out).mono ?_
  rintro e w7 ⟨dh, rfl, hdh, hfdh, hbw7⟩
  rw [srt_ord klt aa HSaa.out.ord] at hdh
  have Hdh := Lib.hid hdh
  have HDFdh := Lib.hid (show (dh = none ∧ n = 0) ∨ ∃ g o, dh = some ⟨g, o, none⟩ from hfdh)
  have HBw7 := Lib.hid (ext_trans HBw6.out hbw7)
  have hfd := fun w => field_cards dh n n w
  have HLaa7 := Lib.hid (HLaa6.out.ext hbw7)
  have HLbb7 := Lib.hid (HLbb6.out.ext hbw7)
  have HKw67 := Lib.hid (SAt.ext HKw6.out hbw7)
  have HCw67 := Lib.hid (HCw6.out.ext hbw7)
  clear hdh hfdh hbw7
  go_wp2_with fail
  clear hfd
  refine (gCompare bba dh m n bbc n bb aa _ HLbb7.out Hdh.out HNbb.out HNaa.out (by omega) (by omega) HFbb.out (by
    rcases HDFdh.out with ⟨e1, e2⟩ | h
    · exact .inl ⟨e1, e2⟩
    · exact .inr h)).mono ?_
  rintro e w8 ⟨kw8, cw8, rfl, hkw8, hcw8, hbw8⟩
  rw [onc_id HSbb.out, onc_id HSaa.out, HNbb.out, HNaa.out, Nat.add_comm m n, gk_gc, HCC.out] at hkw8
  rw [onc_id HSbb.out, onc_id HSaa.out, HNbb.out, HNaa.out, Nat.add_comm m n, HDD.out] at hcw8
  obtain ⟨kw8a, kw8c, rfl, hkw81, hkw82, hkw8t, -, -⟩ := OwnR.read ky_len hkw8
  obtain ⟨cw8a, cw8c, rfl, hcw81, hcw82, hcw8t, -, -⟩ := hcw8.read
  have HKw8 := Lib.hid hkw8t
  have HCw8 := Lib.hid hcw8t
  have HBw8 := Lib.hid (ext_trans HBw7.out hbw8)
  rw [len_kyc, HP.out] at hkw81 ⊢
  rw [HQ.out] at hcw81 ⊢
  have HLaa8 := Lib.hid (HLaa7.out.ext hbw8)
  have HLbb8 := Lib.hid (HLbb7.out.ext hbw8)
  have HKw68 := Lib.hid (SAt.ext HKw67.out hbw8)
  have HCw68 := Lib.hid (HCw67.out.ext hbw8)
  clear hkw8 hcw8 hkw8t hcw8t hbw8 HLaa7 HLbb7
  go_wp2_with fail
  refine (gAnswer bba m bbc bb kw6a q kw6c (Dd.map kyc) _ HLbb8.out HNbb.out (by omega) hbbc HCbb.out HKw68.out (by rw [len_kyc, HQ.out]) (by omega) (fun k hk => by
    obtain ⟨x, hx, rfl⟩ := List.mem_map.1 hk
    exact HCbb.out x (HDS.out.subset hx))).mono ?_
  rintro e w9 ⟨v9, rfl, ho9, hb9⟩
  rw [ans_sub HSbb.out HDS.out] at ho9
  obtain ⟨a9, c9, rfl, h91, h92, h9t, -, -⟩ := ho9.read
  rw [HQ.out] at h91 ⊢
  have HA9 := Lib.hid h9t
  have HB9 := Lib.hid (ext_trans HBw8.out hb9)
  have HLaa9 := Lib.hid (HLaa8.out.ext hb9)
  have HCw69 := Lib.hid (HCw68.out.ext hb9)
  have HCw89 := Lib.hid (HCw8.out.ext hb9)
  have HKw89 := Lib.hid (SAt.ext HKw8.out hb9)
  clear ho9 hb9 h9t
  go_wp2_with fail
  refine (same5 a9 cw8a q c9 cw8c Dd _ HA9.out HCw89.out HQ.out h91 hcw81 h92 hcw82).mono ?_
  rintro e w10 ⟨rfl, hb10⟩
  have HB10 := Lib.hid (ext_trans HB9.out hb10)
  have HLaa10 := Lib.hid (HLaa9.out.ext hb10)
  have HCw610 := Lib.hid (HCw69.out.ext hb10)
  have HKw810 := Lib.hid (SAt.ext HKw89.out hb10)
  clear hb10
  go_wp2_with fail
  refine (gAnswer aaa n aac aa kw8a p kw8c (Cc.map kyc) _ HLaa10.out HNaa.out (by omega) haac HCaa.out HKw810.out (by rw [len_kyc, HP.out]) (by omega) (fun k hk => by
    obtain ⟨x, hx, rfl⟩ := List.mem_map.1 hk
    exact HCaa.out x (HCS.out.subset hx))).mono ?_
  rintro e w11 ⟨v11, rfl, ho11, hb11⟩
  rw [ans_sub HSaa.out HCS.out] at ho11
  obtain ⟨a11, c11, rfl, h111, h112, h11t, -, -⟩ := ho11.read
  rw [HP.out] at h111 ⊢
  have HA11 := Lib.hid h11t
  have HB11 := Lib.hid (ext_trans HB10.out hb11)
  have HCw611 := Lib.hid (HCw610.out.ext hb11)
  clear ho11 hb11 h11t
  go_wp2_with fail
  refine (same5 a11 cw6a p c11 cw6c Cc _ HA11.out HCw611.out HP.out h111 hcw61 h112 hcw62).mono ?_
  rintro e w12 ⟨rfl, hb12⟩
  have HB12 := Lib.hid (ext_trans HB11.out hb12)
  clear hb12
  go_wp2_with fail
  refine (law18known _).mono ?_
  rintro e w13 ⟨rfl, hb13⟩
  have HB13 := Lib.hid (ext_trans HB12.out hb13)
  clear hb13
  go_wp2
  go_ret
  exact ⟨rfl, HB13.out⟩

end Go.Proofs.Ytmgdhgaodjkifaa
