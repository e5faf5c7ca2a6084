/-
  The code's Sign (layer 9). By an AI agent. The code's against (layer 9): the negative of a key's point, or why there is none. By an AI agent.
-/
import Derived.Test.YtgaofocjnifjdaaDoorJ22
import Derived.Test.YtgaofocjnifjdaaDoorJ03
import Derived.Test.YtgaofocjnifjdaaDoorJ15
namespace Go.Proofs.YtgaofocjnifjdaaDoor
open Go Go.RowKit
set_option maxRecDepth 20000
theorem dig2_any {A A' : Option Addr} {n m c c' : Nat} {xs ys : List UInt8} (hx : xs.length = n) (hy : ys.length = m) (hl : n + m ≤ 1048576) (w v : World) (hv : v = w.alloc (.cells #[.slice A n c, .slice A' m c'] 22)) (hG : GlbS w) (h1 : Rd w w.heap.size A c xs) (h2 : Rd w w.heap.size A' c' ys) :
    Calls Tryd.prog 11 #[.slice (some ⟨w.heap.size, 0, none⟩) 2 2] v fun e w' => e = .returned (nv (lefN (xs ++ ys))) ∧ Below v.heap.size v w' := by
  subst hv
  have hb := (Below.refl w.heap.size w).alloc (Nat.le_refl _) (.cells #[.slice A n c, .slice A' m c'] 22)
  have h := digest_any (n := 2) (L := [xs, ys]) rfl (by decide) (by rw [join2, List.length_append]; omega) _ (hG.next hb) (rds2 hx hy h1 h2) (Nat.le_refl _)
  rwa [join2] at h
theorem dig3_any {A A' A3 : Option Addr} {n m l c c' c3 : Nat} {xs ys zs : List UInt8} (hx : xs.length = n) (hy : ys.length = m) (hz : zs.length = l) (hl : n + m + l ≤ 1048576) (w v : World) (hv : v = w.alloc (.cells #[.slice A n c, .slice A' m c', .slice A3 l c3] 22)) (hG : GlbS w) (h1 : Rd w w.heap.size A c xs) (h2 : Rd w w.heap.size A' c' ys) (h3 : Rd w w.heap.size A3 c3 zs) :
    Calls Tryd.prog 11 #[.slice (some ⟨w.heap.size, 0, none⟩) 3 3] v fun e w' => e = .returned (nv (lefN (xs ++ ys ++ zs))) ∧ Below v.heap.size v w' := by
  subst hv
  have hb := (Below.refl w.heap.size w).alloc (Nat.le_refl _) (.cells #[.slice A n c, .slice A' m c', .slice A3 l c3] 22)
  have h := digest_any (n := 3) (L := [xs, ys, zs]) rfl (by decide) (by rw [join3, List.length_append, List.length_append]; omega) _ (hG.next hb) (rds3 hx hy hz h1 h2 h3) (Nat.le_refl _)
  rwa [join3] at h
theorem joinc_any {A A' : Option Addr} {n m c c' : Nat} {xs ys : List UInt8} (hx : xs.length = n) (hy : ys.length = m) (hl : n + m ≤ 1048576) (w v : World) (hv : v = w.alloc (.cells #[.slice A n c, .slice A' m c'] 22)) (h1 : Rd w w.heap.size A c xs) (h2 : Rd w w.heap.size A' c' ys) :
    Calls Tryd.prog 17 #[.slice (some ⟨w.heap.size, 0, none⟩) 2 2] v fun e w' => ∃ A c, e = .returned (.slice A (n + m) c) ∧ Own w' v.heap.size 5 A c (xs ++ ys) ∧ Below v.heap.size v w' := by
  subst hv
  have hs : (joinL [xs, ys]).length = n + m := by rw [join2, List.length_append, hx, hy]
  have h := join_code (L := [xs, ys]) _ (rds2 hx hy h1 h2) (Nat.le_refl _) (by rw [hs]; omega) (show 2 ≤ 1048576 by decide)
  rw [hs, join2] at h
  exact h
theorem num_any {r : Nat} (hr : r < LB) (w : World) : Calls Tryd.prog 13 #[nv r] w fun e w' => e = .returned (nv r) ∧ Below w.heap.size w w' := by
  have h := tnum_any (a := r) (Nat.lt_trans hr LB_W4') w
  rwa [Nat.mod_eq_of_lt (show r < LL from hr)] at h
section
attribute [local irreducible] wd by8 d16 set16w set4w set8p set6 gw gz fl rl setA t3f ivN mlN adN sbN hsh lefN clam
set_option maxHeartbeats 6400000 in
theorem sign_yes {A B : Option Addr} {c d : Nat} {seed b : List UInt8} (h32 : seed.length = 32) (hb4 : b.length ≤ 4000) (w : World) (hG : G9w w) (hr : Rd w w.heap.size A c seed) (hs : Rd w w.heap.size B d b) :
    Calls Tryd.prog 6 #[.slice A 32 c, .slice B b.length d] w fun e w' => ∃ A2 c2, e = .returned (.tuple #[.slice A2 64 c2, .int .i64 0]) ∧ Rd w' w'.heap.size A2 c2 (sigB seed b) ∧ Below w.heap.size w w' := by
  have KG := Lib.hid (grow_any h32 w hG hr)
  have HG := Lib.hid hG
  obtain ⟨lb, hlb⟩ : ∃ l, l = b.length := ⟨_, rfl⟩
  have HLB := Lib.hid hlb
  have HB4 := Lib.hid (show lb ≤ 4000 by rw [hlb]; exact hb4)
  rw [← hlb]
  obtain ⟨X, hX⟩ : ∃ X, X = secN seed := ⟨_, rfl⟩
  have HX := Lib.hid hX
  have HXW := Lib.hid (show X < W4 by rw [hX]; exact clam_W4 _)
  rw [← hX] at KG
  obtain ⟨r, hr⟩ : ∃ r, r = rN9 seed b := ⟨_, rfl⟩
  have HR := Lib.hid hr
  obtain ⟨k, hk⟩ : ∃ k, k = kN9 seed b := ⟨_, rfl⟩
  have HK := Lib.hid hk
  obtain ⟨S, hS⟩ : ∃ S, S = sN9 seed b := ⟨_, rfl⟩
  have HS := Lib.hid hS
  clear hlb hb4 hX hr hk hS hG
  go_enter Tryd.func6, Tryd.ntmps6
  go_wp2_with fail
  go_at_call 10
  refine KG.out.mono ?_
  rintro e v1 ⟨A1, c1, A2, c2, rfl, rP, rB, hc⟩
  have rb := (hs.keep hc).mono hc.size
  replace HG := Lib.hid (g9n _ _ HG.out hc)
  clear hs KG
  have on0 := g6_newz (w := v1) (B := v1.heap.size) (Nat.le_refl _)
  have o6 := (put6 on0 X A1 32 c1 A2 32 c2).mono hc.size
  have hbz := ((Below.refl _ v1).alloc (Nat.le_refl _) Zg).trans ((only6 _ _ X A1 32 c1 A2 32 c2).below (OwnF.ge on0))
  replace rP := (rP.keep hbz).mono hbz.size
  replace rB := (rB.keep hbz).mono hbz.size
  replace rb := (rb.keep hbz).mono hbz.size
  replace HG := Lib.hid (g9n _ _ HG.out hbz)
  replace hc := hc.trans (hbz.mono hc.size)
  clear hbz
  go_upto_region 4 with ((with_reducible refine g_store on0 X A1 32 c1 A2 32 c2 ?_ ?_ ?_); rfl; rfl)
  obtain ⟨v2, ev⟩ : ∃ v, v = set6 (v1.alloc Zg) v1.heap.size X A1 32 c1 A2 32 c2 := ⟨_, rfl⟩
  obtain ⟨g6, eg⟩ : ∃ g, g = v1.heap.size := ⟨_, rfl⟩
  rw [← ev] at rP rB rb o6 hc HG ⊢
  rw [← eg] at o6 ⊢
  clear ev eg on0
  -- r
  obtain ⟨v3, ev⟩ : ∃ v, v = v2.alloc (.cells #[.slice A1 32 c1, .slice B lb d] 22) := ⟨_, rfl⟩
  have hbz : Below v2.heap.size v2 v3 := by rw [ev]; exact (Below.refl _ v2).alloc (Nat.le_refl _) _
  have kd := dig2_any (preB_len seed) HLB.out.symm (by have := HB4.out; omega) v2 v3 ev HG.out.2.2 rP rb
  rw [show lefN (preB seed ++ b) = r from HR.out.symm] at kd
  obtain ⟨t4, t5⟩ := o6.two
  have EV := Lib.hid ev
  have KD := Lib.hid kd
  clear kd ev rP
  go_wp2_with fail
  go_at_call 11
  rw [← EV.out]
  refine KD.out.mono ?_
  rintro e v4 ⟨rfl, hb⟩
  replace hbz := hbz.trans (hb.mono hbz.size)
  clear t4 t5 hb KD EV
  replace rB := (rB.keep hbz).mono hbz.size
  replace rb := (rb.keep hbz).mono hbz.size
  replace o6 := o6.keep hbz
  replace HG := Lib.hid (g9n _ _ HG.out hbz)
  replace hc := hc.trans (hbz.mono hc.size)
  clear hbz
  have on0 := Osc.newz (w := v4) (B := v4.heap.size) (Nat.le_refl _)
  have o8 := (on0.put r).mono hc.size
  have hbz := ((Below.refl _ v4).alloc (Nat.le_refl _) Zs).trans (on0.below r)
  replace rB := (rB.keep hbz).mono hbz.size
  replace rb := (rb.keep hbz).mono hbz.size
  replace o6 := o6.keep hbz
  replace HG := Lib.hid (g9n _ _ HG.out hbz)
  replace hc := hc.trans (hbz.mono hc.size)
  clear hbz
  go_upto_region 5 with ((with_reducible refine sc_store on0 r ?_ ?_ ?_); rfl; rfl)
  obtain ⟨v5, ev⟩ : ∃ v, v = set4w (v4.alloc Zs) v4.heap.size r := ⟨_, rfl⟩
  obtain ⟨g8, eg⟩ : ∃ g, g = v4.heap.size := ⟨_, rfl⟩
  rw [← ev] at rB rb o6 o8 hc HG ⊢
  rw [← eg] at o8 ⊢
  clear ev eg on0
  have hrL : r < LB := by rw [HR.out]; exact lefN_lt _
  have KN := Lib.hid (num_any hrL)
  have HRL := Lib.hid hrL
  clear hrL
  go_wp2_with ((with_reducible refine sc_load o8 ?_ ?_); rfl)
  go_at_call 13
  refine (KN.out _).mono ?_
  rintro e v6 ⟨rfl, hb⟩
  replace rB := (rB.keep hb).mono hb.size
  replace rb := (rb.keep hb).mono hb.size
  replace o6 := o6.keep hb
  replace o8 := o8.keep hb
  replace HG := Lib.hid (g9n _ _ HG.out hb)
  replace hc := hc.trans (hb.mono hc.size)
  clear hb KN
  have KT := Lib.hid (timesc_any (Nat.lt_trans HRL.out LB_W4') v6 HG.out.1)
  go_wp2_with fail
  go_at_call 12
  refine KT.out.mono ?_
  rintro e v7 ⟨A3, c3, rfl, ho, hb⟩
  have rR := ho.rd
  replace rB := (rB.keep hb).mono hb.size
  replace rb := (rb.keep hb).mono hb.size
  replace o6 := o6.keep hb
  replace o8 := o8.keep hb
  replace HG := Lib.hid (g9n _ _ HG.out hb)
  replace hc := hc.trans (hb.mono hc.size)
  clear hb ho KT
  -- k
  obtain ⟨v8, ev⟩ : ∃ v, v = v7.alloc (.cells #[.slice A3 32 c3, .slice A2 32 c2, .slice B lb d] 22) := ⟨_, rfl⟩
  have hbz : Below v7.heap.size v7 v8 := by rw [ev]; exact (Below.refl _ v7).alloc (Nat.le_refl _) _
  have kd := dig3_any (encP_len _) (pubB_len seed) HLB.out.symm (by have := HB4.out; omega) v7 v8 ev HG.out.2.2 rR rB rb
  rw [show lefN (encP (B25.mul r) ++ pubB seed ++ b) = k by rw [HR.out, HK.out]; rfl] at kd
  obtain ⟨t4, t5⟩ := o6.two
  have EV := Lib.hid ev
  have KD := Lib.hid kd
  clear kd ev rB rb
  go_wp2_with fail
  go_at_call 11
  rw [← EV.out]
  refine KD.out.mono ?_
  rintro e v9 ⟨rfl, hb⟩
  replace hbz := hbz.trans (hb.mono hbz.size)
  clear t4 t5 hb KD EV
  replace rR := (rR.keep hbz).mono hbz.size
  replace o6 := o6.keep hbz
  replace o8 := o8.keep hbz
  replace hc := hc.trans (hbz.mono hc.size)
  clear hbz HG
  have on0 := Osc.newz (w := v9) (B := v9.heap.size) (Nat.le_refl _)
  have o10 := (on0.put k).mono hc.size
  have hbz := ((Below.refl _ v9).alloc (Nat.le_refl _) Zs).trans (on0.below k)
  replace rR := (rR.keep hbz).mono hbz.size
  replace o6 := o6.keep hbz
  replace o8 := o8.keep hbz
  replace hc := hc.trans (hbz.mono hc.size)
  clear hbz
  go_upto_region 7 with ((with_reducible refine sc_store on0 k ?_ ?_ ?_); rfl; rfl)
  obtain ⟨v10, ev⟩ : ∃ v, v = set4w (v9.alloc Zs) v9.heap.size k := ⟨_, rfl⟩
  obtain ⟨g10, eg⟩ : ∃ g, g = v9.heap.size := ⟨_, rfl⟩
  rw [← ev] at rR o6 o8 o10 hc ⊢
  rw [← eg] at o10 ⊢
  clear ev eg on0
  have hkL : k < LB := by rw [HK.out]; exact lefN_lt _
  have hrL := HRL.out
  have K1 := Lib.hid (fun w => treduce_any HXW.out w)
  obtain ⟨Y, hY⟩ : ∃ Y, Y = X % LL := ⟨_, rfl⟩
  rw [← hY] at K1
  have hYW : Y < W4 := by rw [hY]; exact LL_lt _
  have K2 := Lib.hid (fun w => tmul_any (Nat.lt_trans hkL LB_W4') hYW w)
  obtain ⟨M, hM⟩ : ∃ M, M = k * Y % LL := ⟨_, rfl⟩
  rw [← hM] at K2
  have hMW : M < W4 := by rw [hM]; exact LL_lt _
  have K3 := Lib.hid (fun w => tadd_any (Nat.lt_trans hrL LB_W4') hMW w)
  have hSe : S = (r + M) % LL := by rw [HS.out, hM, hY, HK.out, HX.out, HR.out]; rfl
  rw [← hSe] at K3
  have HSL := Lib.hid (show S < LL by rw [hSe]; exact Nat.mod_lt _ LL_pos)
  clear hkL hrL hY hYW hM hMW hSe
  refine wp_region_box 9 [some 34, some 35, some 36, some 37, some 38, some 39, some 40, some 11, none] [.val (nv r), .val (nv k), .val (.pointer (some ⟨g6, 0, none⟩)), .val (nv X), .val (nv Y), .val (nv M), .val (nv S), .box 39 4, .holds 7 39 4 (wv S)] v10.heap.size (fun wz => Below v10.heap.size v10 wz) (by kernel_rfl) (by kernel_rfl)
    (fun _ _ h _ hb => h.trans hb) ((Below.refl _ _).drew) (Nat.le_refl _) (fun u => by simp only [List.filterMap_cons, List.filterMap_nil, id, puts, List.foldl_cons, List.foldl_nil]; go_simp; exact rfl) ?_ ?_
  · simp only [List.take_succ_cons, List.take_zero]
    refine ObsB.cons (fun u w L hL hS hBw hd => ?_) ?_
    · exact GB.run 34 rfl (nv r) rfl (run_scload rfl rfl (o8.keep hS)) rfl rfl
    refine ObsB.cons (fun u w L hL hS hBw hd => ?_) ?_
    · exact GB.run 35 rfl (nv k) rfl (run_scload rfl rfl (o10.keep hS)) rfl rfl
    refine ObsB.cons (fun u w L hL hS hBw hd => ?_) ?_
    · exact GB.run 36 rfl (.pointer (some ⟨g6, 0, none⟩)) rfl (by go_simp) rfl rfl
    refine ObsB.cons (fun u w L hL hS hBw hd => ?_) ?_
    · have d36 : u 36 = .pointer (some ⟨g6, 0, none⟩) := depB hd 2 rfl
      rw [d36]
      exact GB.run 37 rfl (nv X) rfl (run_gnum rfl rfl (o6.keep hS)) rfl rfl
    refine ObsB.cons (fun u w L hL hS hBw hd => ?_) ?_
    · have d37 : u 37 = nv X := depB hd 3 rfl
      rw [d37]
      refine GB.call 38 rfl 16 #[nv X] rfl (by go_simp) rfl ((K1.out w).mono ?_)
      rintro e w' ⟨rfl, hb⟩
      exact ⟨_, rfl, rfl, hb⟩
    refine ObsB.cons (fun u w L hL hS hBw hd => ?_) ?_
    · have d35 : u 35 = nv k := depB hd 1 rfl
      rw [d35]
      have d38 : u 38 = nv Y := depB hd 4 rfl
      rw [d38]
      refine GB.call 39 rfl 15 #[nv k, nv Y] rfl (by go_simp) rfl ((K2.out w).mono ?_)
      rintro e w' ⟨rfl, hb⟩
      exact ⟨_, rfl, rfl, hb⟩
    refine ObsB.cons (fun u w L hL hS hBw hd => ?_) ?_
    · have d34 : u 34 = nv r := depB hd 0 rfl
      rw [d34]
      have d39 : u 39 = nv M := depB hd 5 rfl
      rw [d39]
      refine GB.call 40 rfl 14 #[nv r, nv M] rfl (by go_simp) rfl ((K3.out w).mono ?_)
      rintro e w' ⟨rfl, hb⟩
      exact ⟨_, rfl, rfl, hb⟩
    refine ObsB.cons (fun u w L hL hS hBw hd => ?_) ?_
    · exact GB.alloc 11 rfl rfl #[.int .u64 0, .int .u64 0, .int .u64 0, .int .u64 0] 39 4 (fun _ => .int .u64 0) rfl rfl (by go_simp) hBw (by decide) rfl
    refine ObsB.cons (fun u w L hL hS hBw hd => ?_) ?_
    · have d40 : u 40 = nv S := depB hd 6 rfl
      obtain ⟨g, fg, e11, o11⟩ : (Fact.box 39 4).ok v10.heap.size [some 34, some 35, some 36, some 37, some 38, some 39, some 40, some 11, none] 7 u w L := depB hd 7 rfl
      exact GB.store rfl 7 g 39 4 (wv S) rfl rfl rfl e11 (run_scstore rfl (by exact e11) (by exact d40) o11) (only4 w g S) (put4o o11 S)
    exact ObsB.nil
  intro u1 v11 hS hd
  obtain ⟨g11, e11, o11⟩ : (Fact.holds 7 39 4 (wv S)).ok v10.heap.size [some 34, some 35, some 36, some 37, some 38, some 39, some 40, some 11, none] 8 u1 v11 (fun _ => true) := hd 8 (by decide)
  replace e11 : u1 11 = .pointer (some ⟨g11, 0, none⟩) := e11
  replace o11 : Osc v11 v10.heap.size g11 S := o11
  replace rR := (rR.keep hS).mono hS.size
  replace hc := hc.trans (hS.mono hc.size)
  have kb := tbytes_any (a := S) (Nat.lt_trans HSL.out LL_W4) v11
  rw [Nat.mod_eq_of_lt HSL.out] at kb
  have KB := Lib.hid kb
  rw [e11]
  clear hS hd e11 K1 K2 K3 o6 o8 o10 kb
  simp only [List.drop_succ_cons, List.drop_zero]
  go_wp2_with ((with_reducible refine sc_load o11 ?_ ?_); rfl)
  go_at_call 18
  refine KB.out.mono ?_
  rintro e v12 ⟨A5, c5, rfl, ho, hb⟩
  replace rR := (rR.keep hb).mono hb.size
  replace hc := hc.trans (hb.mono hc.size)
  obtain ⟨v13, ev⟩ : ∃ v, v = v12.alloc (.cells #[.slice A3 32 c3, .slice A5 32 c5] 22) := ⟨_, rfl⟩
  have hbz : Below v12.heap.size v12 v13 := by rw [ev]; exact (Below.refl _ v12).alloc (Nat.le_refl _) _
  have KJ := Lib.hid (joinc_any (encP_len (B25.mul r)) (gen_length _ _) (by decide) v12 v13 ev rR ho.rd)
  have EV := Lib.hid ev
  clear hb KB o11 ho ev rR
  go_wp2_with fail
  go_at_call 17
  rw [← EV.out]
  refine KJ.out.mono ?_
  rintro e v14 ⟨A6, c6, rfl, ho, hb⟩
  have HC := Lib.hid (hc.trans ((hbz.trans (hb.mono hbz.size)).mono hc.size))
  have ro := ho.rd
  rw [show encP (B25.mul r) ++ gen (bf S) 32 = sigB seed b by rw [HR.out, HS.out]; rfl] at ro
  have RO := Lib.hid ro
  clear hb hbz ho KJ EV hc ro
  go_wp2_with fail
  go_returns
  exact ⟨_, _, rfl, RO.out, HC.out⟩
set_option maxHeartbeats 800000 in
theorem sign_no {A B : Option Addr} {n m c d : Nat} (hn : n ≠ 32) (w : World) :
    Calls Tryd.prog 6 #[.slice A n c, .slice B m d] w fun e w' => e = .returned (.tuple #[.slice none 0 0, .int .i64 1]) ∧ Below w.heap.size w w' := by
  have KG := Lib.hid (grow_no (A := A) (c := c) hn w)
  clear hn
  go_enter Tryd.func6, Tryd.ntmps6
  go_wp2_with fail
  go_at_call 10
  refine KG.out.mono ?_
  rintro e v1 ⟨rfl, hb⟩
  go_wp2_with fail
  go_returns
  exact ⟨rfl, hb.alloc hb.size _⟩
end
theorem csign_any : CSign G9w := by
  intro seed b hm A B c d w hG hr hs
  by_cases h32 : seed.length = 32
  · obtain ⟨p1, p2, p3⟩ := pubL_yes h32
    obtain ⟨s1, s2⟩ := sigL_yes b h32
    rw [s2, p3, s1, h32]
    exact sign_yes h32 hm w hG hr hs
  · obtain ⟨p1, p3⟩ := pubL_no h32
    rw [sigL_no b h32, p3]
    refine (sign_no h32 w).mono ?_
    rintro e w' ⟨rfl, hb⟩
    exact ⟨none, 0, rfl, rd_nil9 _ _, hb⟩
end Go.Proofs.YtgaofocjnifjdaaDoor
namespace Go.Proofs.YtgaofocjnifjdaaDoor
open Go Go.RowKit
set_option maxRecDepth 20000
theorem Pt.mul_succ {C : Cv} (p : Pt C) (n : Nat) : p.mul (n + 1) = (p.mul n).add p := rfl
section
attribute [local irreducible] Pt.add Pt.mul
theorem swap_add {C : Cv} (a b p q : Pt C) : (a.add b).add (p.add q) = (a.add p).add (b.add q) := by
  rw [Pt.assoc, ← Pt.assoc b p q, Pt.comm b p, Pt.assoc p b q, ← Pt.assoc a p]
theorem Pt.add_mul {C : Cv} (p q : Pt C) (n : Nat) : (p.add q).mul n = (p.mul n).add (q.mul n) := by
  induction n with
  | zero => rw [show (p.add q).mul 0 = Pt.nought C by unfold Pt.mul; rfl, show p.mul 0 = Pt.nought C by unfold Pt.mul; rfl, show q.mul 0 = Pt.nought C by unfold Pt.mul; rfl, Pt.add_nought]
  | succ n ih => rw [Pt.mul_succ, Pt.mul_succ, Pt.mul_succ, ih, swap_add]
end
/-- What is taken away on one side is put on the other one. -/
theorem neg_side {C : Cv} (s r p : Pt C) (k : Nat) : s.add (p.neg.mul k) = r ↔ s = r.add (p.mul k) := by
  have h : (p.neg.mul k).add (p.mul k) = Pt.nought C := by rw [← Pt.add_mul, Pt.comm p.neg p, Pt.add_neg, Pt.mul_nought]
  constructor
  · intro e
    rw [← e, Pt.assoc, h, Pt.add_nought]
  · intro e
    rw [e, Pt.assoc, Pt.comm (p.mul k), h, Pt.add_nought]
theorem ptE_side (s r p : Pt E25) (k : Nat) : ptE (s.add (p.neg.mul k)) r = ptE s (r.add (p.mul k)) :=
  Bool.eq_iff_iff.2 (by rw [ptE_iff, ptE_iff]; exact neg_side s r p k)
section
attribute [local irreducible] wd
theorem built_T09 : Tryd.prog.built 50 [] = some #[.int .u64 (wd 0 0 : Int), .int .u64 (wd 0 1 : Int), .int .u64 (wd 0 2 : Int), .int .u64 (wd 0 3 : Int), .int .u64 (wd 0 0 : Int), .int .u64 (wd 0 1 : Int), .int .u64 (wd 0 2 : Int), .int .u64 (wd 0 3 : Int)] := by kernel_rfl
theorem run_T09 {o : Oper} {a : Act} (ho : o.op = .build 50 #[]) (w : World) : (execOp a.eval o).run Tryd.prog w = .ok (.value (prv 0 0)) w := by
  have hb := run_build (P := Tryd.prog) w 50 #[] _ built_T09
  unfold execOp
  simp only [ho, List.map_toArray, List.map_nil, Sem.run_bind, hb, Result.andThen_ok, Sem.run_pure]
variable {ops : Array Oper} {rest : List Oper} {a : Act} {w : World} {Q : Exit → Act → World → Prop} {dst : Option Nat} {tp : TypeId} {ps : String} {af : Array Edge} {s0 s1 : Operand}
theorem T_zero9 (h : wpList Tryd.prog ops Q rest (a.put dst (prv 0 0)) w) : wpList Tryd.prog ops Q (⟨dst, .build 50 #[], tp, ps, af, none⟩ :: rest) a w :=
  read_to (prv 0 0) rfl (run_T09 rfl w) h
theorem T_ne {ty : TypeId} {x y u v : Nat} (r : Bool) (hx : x < W4) (hy : y < W4) (hu : u < W4) (hv : v < W4) (hr : (!(decide (x = u) && decide (y = v))) = r) (h1 : a.eval s0 = prv x y) (h2 : a.eval s1 = prv u v)
    (h : wpList Tryd.prog ops Q rest (a.put dst (.bool r)) w) : wpList Tryd.prog ops Q (⟨dst, .binOp .neq 50 s0 s1 ty, tp, ps, af, none⟩ :: rest) a w :=
  read_to (.bool r) rfl (run_neT rfl h1 h2 hx hy hu hv hr w) h
end
section
attribute [local irreducible] wd by8 d16 set16w set4w set8p set6 gw gz fl rl setA t3f ivN mlN adN sbN hsh lefN clam decX decY decE ptD smlP
set_option maxHeartbeats 3200000 in
theorem ag_bad {A : Option Addr} {c : Nat} {us : List UInt8} (u32 : us.length = 32) (h : decE (vb us) ≠ 0) (w : World) (hG : Glb w) (hr : Rd w w.heap.size A c us) :
    Calls Tryd.prog 20 #[.slice A 32 c] w fun e w' => e = .returned (.tuple #[prv 0 0, .int .i64 (decE (vb us) : Int)]) ∧ Below w.heap.size w w' := by
  obtain ⟨v0, ev⟩ : ∃ v, v = w.alloc Z8p := ⟨_, rfl⟩
  have hc : Below w.heap.size w v0 := by rw [ev]; exact (Below.refl _ _).alloc (Nat.le_refl _) _
  obtain ⟨g2, eg⟩ : ∃ g, g = w.heap.size := ⟨_, rfl⟩
  have o2 : O8 v0 w.heap.size g2 0 0 := by rw [eg, ev]; exact O8.newz (Nat.le_refl _)
  have kd := cDecode_any u32 v0 ((hr.keep hc).mono hc.size) (hG.next hc)
  obtain ⟨x, hx⟩ : ∃ x, x = decX (vb us) := ⟨_, rfl⟩
  obtain ⟨y, hy⟩ : ∃ x, x = decY (vb us) := ⟨_, rfl⟩
  obtain ⟨E, hE⟩ : ∃ x, x = decE (vb us) := ⟨_, rfl⟩
  rw [← hx, ← hy, ← hE] at kd
  rw [← hE] at h ⊢
  have KD := Lib.hid kd
  have q1 : ((E : Int) == 0) = false := beq_eq_false_iff_ne.2 (by omega)
  have q2 : ((E : Int) != 0) = true := by simp; omega
  clear kd hx hy hE h hr hG u32
  go_enter Tryd.func20, Tryd.ntmps20
  go_upto_region 1 with fail
  rw [← ev]
  rw [show Value.pointer (some ⟨w.heap.size, 0, none⟩) = .pointer (some ⟨g2, 0, none⟩) by rw [eg]]
  clear ev eg
  go_wp2_with fail
  go_at_call 21
  refine KD.out.mono ?_
  rintro e v1 ⟨rfl, hb⟩
  replace o2 := O8.keep o2 hb
  replace hc := hc.trans (hb.mono hc.size)
  clear hb KD
  have on0 := O8.newz (w := v1) (B := v1.heap.size) (Nat.le_refl _)
  have hbz := ((Below.refl _ v1).alloc (Nat.le_refl _) Z8p).trans (on0.below x y)
  replace o2 := O8.keep o2 hbz
  replace hc := hc.trans (hbz.mono hc.size)
  clear hbz
  go_upto_region 2 with ((with_reducible refine p_store on0 x y ?_ ?_ ?_); rfl; rfl)
  obtain ⟨v2, ev⟩ : ∃ v, v = set8p (v1.alloc Z8p) v1.heap.size x y := ⟨_, rfl⟩
  obtain ⟨g4, eg⟩ : ∃ g, g = v1.heap.size := ⟨_, rfl⟩
  rw [← ev] at o2 hc ⊢
  rw [← eg]
  clear ev eg on0
  have HR := Lib.hid (o2.put 0 0)
  have HC := Lib.hid (hc.trans (o2.below 0 0))
  go_wp2_with (first | (with_reducible refine T_zero9 ?_) | ((with_reducible refine p_store o2 0 0 ?_ ?_ ?_); rfl; rfl))
  exact bodyPost_ret (pres2 Tryd.results20 _ HR.out rfl rfl) rfl ⟨rfl, HC.out⟩
set_option maxHeartbeats 6400000 in
theorem ag_pt {A : Option Addr} {c : Nat} {us : List UInt8} {s : Bool} (u32 : us.length = 32) (h : decE (vb us) = 0) (hs : smlP (ptD (vb us)) = s) (w : World) (hG : G9w w) (hr : Rd w w.heap.size A c us) :
    Calls Tryd.prog 20 #[.slice A 32 c] w fun e w' => e = .returned (.tuple #[if s then prv 0 0 else prv (ptD (vb us)).neg.x.val (ptD (vb us)).neg.y.val, .int .i64 (if s then 7 else 0)]) ∧ Below w.heap.size w w' := by
  obtain ⟨v0, ev⟩ : ∃ v, v = w.alloc Z8p := ⟨_, rfl⟩
  have hc : Below w.heap.size w v0 := by rw [ev]; exact (Below.refl _ _).alloc (Nat.le_refl _) _
  obtain ⟨g2, eg⟩ : ∃ g, g = w.heap.size := ⟨_, rfl⟩
  have o2 : O8 v0 w.heap.size g2 0 0 := by rw [eg, ev]; exact O8.newz (Nat.le_refl _)
  have HG := Lib.hid (g9n _ _ hG hc)
  have kd := cDecode_any u32 v0 ((hr.keep hc).mono hc.size) HG.out.2.1
  obtain ⟨P, hP⟩ : ∃ x, x = ptD (vb us) := ⟨_, rfl⟩
  obtain ⟨dx, dy, -⟩ := dec_pt h (vb_top u32).2
  rw [dx, dy, h, ← hP] at kd
  rw [← hP] at hs ⊢
  have ks := fun w hG => cSmall_pt P w hG
  unfold smlP at hs
  rw [hs] at ks
  have kn := cNeg_pt P
  obtain ⟨x, hx⟩ : ∃ x, x = P.x.val := ⟨_, rfl⟩
  obtain ⟨y, hy⟩ : ∃ x, x = P.y.val := ⟨_, rfl⟩
  obtain ⟨x1, hx1⟩ : ∃ x, x = P.neg.x.val := ⟨_, rfl⟩
  obtain ⟨y1, hy1⟩ : ∃ x, x = P.neg.y.val := ⟨_, rfl⟩
  rw [← hx, ← hy] at kd ks kn
  rw [← hx1, ← hy1] at kn ⊢
  have KD := Lib.hid kd
  have KS := Lib.hid ks
  have KN := Lib.hid kn
  clear kd hx hy hx1 hy1 h hr hG u32 dx dy hP hs ks kn
  go_enter Tryd.func20, Tryd.ntmps20
  go_upto_region 1 with fail
  rw [← ev]
  rw [show Value.pointer (some ⟨w.heap.size, 0, none⟩) = .pointer (some ⟨g2, 0, none⟩) by rw [eg]]
  clear ev eg
  go_wp2_with fail
  go_at_call 21
  refine KD.out.mono ?_
  rintro e v1 ⟨rfl, hb⟩
  replace o2 := O8.keep o2 hb
  replace hc := hc.trans (hb.mono hc.size)
  replace HG := Lib.hid (g9n _ _ HG.out hb)
  clear hb KD
  have on0 := O8.newz (w := v1) (B := v1.heap.size) (Nat.le_refl _)
  have o4 := (on0.put x y).mono hc.size
  have hbz := ((Below.refl _ v1).alloc (Nat.le_refl _) Z8p).trans (on0.below x y)
  replace o2 := O8.keep o2 hbz
  replace hc := hc.trans (hbz.mono hc.size)
  replace HG := Lib.hid (g9n _ _ HG.out hbz)
  clear hbz
  go_upto_region 2 with ((with_reducible refine p_store on0 x y ?_ ?_ ?_); rfl; rfl)
  obtain ⟨v2, ev⟩ : ∃ v, v = set8p (v1.alloc Z8p) v1.heap.size x y := ⟨_, rfl⟩
  obtain ⟨g4, eg⟩ : ∃ g, g = v1.heap.size := ⟨_, rfl⟩
  rw [← ev] at o2 o4 hc HG ⊢
  rw [← eg] at o4 ⊢
  clear ev eg on0
  refine wp_region_obs 6 [12, 13, 14, 15, 16, 17] [.val (.int .i64 0), .val (.bool true), .val (.bool true), .val (prv x y), .val (.bool s), .val (.bool s)] (fun wz => Below v2.heap.size v2 wz) (by kernel_rfl) (fun wz wz' hz hb => hz.trans (hb.mono hz.size)) (Below.refl _ _) (fun u => by simp only [puts, List.foldl_cons, List.foldl_nil]; go_simp; exact rfl) ?_ ?_
  · simp only [List.take_succ_cons, List.take_zero]
    refine ObsS.cons (fun u w hS hd => ?_) ?_
    · exact Gv.run (.int .i64 0) rfl (by go_simp) rfl
    refine ObsS.cons (fun u w hS hd => ?_) ?_
    · have d12 : u 12 = .int .i64 0 := hd 0 (by decide)
      rw [d12]
      exact Gv.run (.bool true) rfl (by go_simp) rfl
    refine ObsS.cons (fun u w hS hd => ?_) ?_
    · have d13 : u 13 = .bool true := hd 1 (by decide)
      rw [d13]
      exact Gv.run (.bool true) rfl (by go_simp) rfl
    refine ObsS.cons (fun u w hS hd => ?_) ?_
    · have d14 : u 14 = .bool true := hd 2 (by decide)
      rw [d14]
      exact Gv.run (prv x y) (by rfl) (run_pload rfl rfl (O8.keep o4 hS)) rfl
    refine ObsS.cons (fun u w hS hd => ?_) ?_
    · have d14 : u 14 = .bool true := hd 2 (by decide)
      rw [d14]
      have d15 : u 15 = prv x y := hd 3 (by decide)
      rw [d15]
      refine Gv.call 36 #[prv x y] (by rfl) (by go_simp) ((KS.out w (g9n _ _ HG.out hS).1).mono ?_)
      rintro e w' ⟨rfl, hb⟩
      exact ⟨_, rfl, rfl, hb⟩
    refine ObsS.cons (fun u w hS hd => ?_) ?_
    · have d14 : u 14 = .bool true := hd 2 (by decide)
      rw [d14]
      have d16 : u 16 = .bool s := hd 4 (by decide)
      rw [d16]
      exact Gv.run (.bool s) rfl (by go_simp) rfl
    exact ObsS.nil
  intro u3 v3 hS hd
  have d17 : u3 17 = .bool s := hd 5 (by decide)
  rw [d17]
  replace o2 := O8.keep o2 hS
  replace o4 := O8.keep o4 hS
  replace hc := hc.trans (hS.mono hc.size)
  clear hS hd d17 HG KS
  simp only [List.drop_succ_cons, List.drop_zero]
  cases s
  case true =>
    have HR := Lib.hid (o2.put 0 0)
    have HC := Lib.hid (hc.trans (o2.below 0 0))
    go_wp2_with (first | (with_reducible refine T_zero9 ?_) | ((with_reducible refine p_store o2 0 0 ?_ ?_ ?_); rfl; rfl))
    exact bodyPost_ret (pres2 Tryd.results20 _ HR.out rfl rfl) rfl ⟨rfl, HC.out⟩
  case false =>
    go_wp2_with ((with_reducible refine p_load o4 ?_ ?_); rfl)
    go_at_call 37
    refine (KN.out _).mono ?_
    rintro e v4 ⟨rfl, hb⟩
    replace o2 := O8.keep o2 hb
    replace hc := hc.trans (hb.mono hc.size)
    have HR := Lib.hid (o2.put x1 y1)
    have HC := Lib.hid (hc.trans (o2.below x1 y1))
    clear hb KN o4
    go_wp2_with ((with_reducible refine p_store o2 x1 y1 ?_ ?_ ?_); rfl; rfl)
    exact bodyPost_ret (pres2 Tryd.results20 _ HR.out rfl rfl) rfl ⟨rfl, HC.out⟩
end
end Go.Proofs.YtgaofocjnifjdaaDoor
