/-
  The document's mac, Mac, Extract (layer 7). Written by tools/gen_h3.py. By an AI agent.
-/
import Derived.Test.YtbofehdihflkiaaDoorH2
import Derived.Test.YtbofehdihflkiaaDoorTwo
import Derived.Laws.BitsAllLaws
namespace Go.Proofs.YtbofehdihflkiaaDoor
open Go Go.RowKit
set_option maxRecDepth 20000
theorem xor_u8 (x v : UInt8) : bits .xor .u8 ((x.toNat : Nat) : Int) ((v.toNat : Nat) : Int) = (((x ^^^ v).toNat : Nat) : Int) := by
  have h1 := UInt8.toNat_lt x
  have h2 := UInt8.toNat_lt v
  rw [u8_xor _ _ (by omega) (by omega) (by omega) (by omega), UInt8.toNat_xor]
  simp
theorem xk_is (kk : List UInt8) (v : UInt8) : gen (fun i => (kk[i]?.getD 0) ^^^ v) 64 = xk kk v := rfl
theorem RdF.next2 {n c : Nat} {A : Option Addr} {f : Nat → Value} {w0 w w' : World} (h : RdF w0 w0.heap.size A c n f) (hb : Below w0.heap.size w0 w) (hc : Below w.heap.size w w') : RdF w' w'.heap.size A c n f := (h.next hb).next hc
theorem ksum_rd {K : Kd} (hK : K.toKs = smallS) {bs : List UInt8} (A : Option Addr) (c : Nat) (hlen : bs.length ≤ 1000000) (w : World) (hk : RdF w w.heap.size K.ka K.kc K.rounds (uv K.keys)) (hf : RdF w w.heap.size K.fa K.fc 8 (uv K.first)) (hr : Rd w w.heap.size A c bs) :
    Calls Tryd.prog 25 #[kv K, .slice A bs.length c] w fun e w' => ∃ A' c', e = .returned (.slice A' 32 c') ∧ Rd w' w'.heap.size A' c' (sumN smallS bs) ∧ Below w.heap.size w w' := by
  have h := sum_any (K := K) (by rw [hK]; exact smallOk) (c0 := c) hlen w hk hf hr (Nat.le_refl _)
  have hb : K.bits = 32 := by show K.toKs.bits = 32; rw [hK]; rfl
  rw [hb, hK] at h
  exact h.mono fun _ _ ⟨A, c, he, ho, hb⟩ => ⟨A, c, he, ho.rd, hb⟩
theorem join_rd {xs ys : List UInt8} (A : Option Addr) (c : Nat) (A' : Option Addr) (c' : Nat) (hl : xs.length + ys.length ≤ 140737488355328) (w : World) (hr : Rd w w.heap.size A c xs) (hs : Rd w w.heap.size A' c' ys) :
    Calls Tryd.prog 24 #[.slice A xs.length c, .slice A' ys.length c'] w fun e w' => ∃ A2 c2, e = .returned (.slice A2 (xs ++ ys).length c2) ∧ Rd w' w'.heap.size A2 c2 (xs ++ ys) ∧ Below w.heap.size w w' :=
  (join_any hl w hr hs (Nat.le_refl _)).mono fun _ _ ⟨A, c, he, ho, hb⟩ => ⟨A, c, he, ho.rd, hb⟩
section
attribute [local irreducible] Kd.cells kf sumN xk
set_option maxHeartbeats 6400000 in
theorem mac_any {K : Kd} (hK : K.toKs = smallS) {A A' : Option Addr} {c c' : Nat} {key b : List UInt8} (hkl : key.length ≤ 1000000) (hbl : b.length ≤ 900000) (w : World) (hk : RdF w w.heap.size K.ka K.kc K.rounds (uv K.keys)) (hf : RdF w w.heap.size K.fa K.fc 8 (uv K.first)) (hr : Rd w w.heap.size A c key) (hs : Rd w w.heap.size A' c' b) :
    Calls Tryd.prog 22 #[kv K, .slice A key.length c, .slice A' b.length c'] w fun e w' => ∃ A2 c2, e = .returned (.slice A2 32 c2) ∧ Rd w' w'.heap.size A2 c2 (macN key b) ∧ Below w.heap.size w w' := by
  obtain ⟨i0, hi, hz0, hz1, hz2⟩ := info_parts infoB6
  have ok0 := OK.new (w := w) (Nat.le_refl _) K
  have hc0 := (Below.refl w.heap.size w).alloc (Nat.le_refl _) (AK K)
  have hk0 := hk.next hc0
  have hf0 := hf.next hc0
  have hr0 := (hr.keep hc0).mono hc0.size
  have hs0 := (hs.keep hc0).mono hc0.size
  clear hk hf hr hs
  by_cases h64 : 64 < key.length
  · have g0 : (64 : Int) < (key.length : Int) := by omega
    go_enter Tryd.func22, Tryd.ntmps22
    go_upto_region 1 with fail
    obtain ⟨v0, e0⟩ : ∃ v, v = w.alloc (AK K) := ⟨_, rfl⟩
    obtain ⟨g3, eg⟩ : ∃ g, g = w.heap.size := ⟨_, rfl⟩
    rw [← e0] at ok0 hc0 hk0 hf0 hr0 hs0 ⊢
    replace ok0 : OK v0 w.heap.size g3 K := by rw [eg]; exact ok0
    rw [show (Value.pointer (some ⟨w.heap.size, 0, none⟩)) = .pointer (some ⟨g3, 0, none⟩) by rw [eg]]
    clear e0 eg
    have KS0 := Lib.hid (ksum_rd hK A c hkl v0 hk0 hf0 hr0)
    go_wp2_with ((with_reducible refine k_load ok0 ?_ ?_); rfl)
    go_at_call 25
    refine KS0.out.mono ?_
    rintro e v1 ⟨Ak, ck, rfl, hkr, hb0⟩
    have ok1 := ok0.keep hb0
    have hc1 := hc0.trans (hb0.mono hc0.size)
    have hk1 := hk0.next hb0
    have hf1 := hf0.next hb0
    have hs1 := (hs0.keep hb0).mono hb0.size
    have hkk : sumN smallS key = keyN key := by unfold keyN; rw [if_neg (by omega)]
    have hll : (sumN smallS key).length = 32 := sumN_len7 _ _
    clear KS0 hb0 ok0 hc0 hk0 hf0 hr0 hs0 h64 g0
    obtain ⟨kk, ekk⟩ : ∃ x, x = sumN smallS key := ⟨_, rfl⟩
    rw [← ekk] at hkr hkk hll
    clear ekk
    have HKK := Lib.hid hkk
    clear hkk
    rw [← hll]
    have HLL := Lib.hid hll
    clear hll
    go_wp2_with fail
    obtain ⟨FI, hFI⟩ : ∃ f : Nat → UInt8, f = fun i => (kk[i]?.getD 0) ^^^ 54 := ⟨_, rfl⟩
    obtain ⟨FO, hFO⟩ : ∃ f : Nat → UInt8, f = fun i => (kk[i]?.getD 0) ^^^ 92 := ⟨_, rfl⟩
    have hfi : ∀ n, bits .xor .u8 ((nth kk n : Nat) : Int) 54 = ((FI n).toNat : Int) := fun n => by rw [hFI]; exact xor_u8 _ 54
    have hfo : ∀ n, bits .xor .u8 ((nth kk n : Nat) : Int) 92 = ((FO n).toNat : Int) := fun n => by rw [hFO]; exact xor_u8 _ 92
    have hxi : gen FI 64 = xk kk 54 := by rw [hFI]; exact xk_is _ _
    have hxo : gen FO 64 = xk kk 92 := by rw [hFO]; exact xk_is _ _
    have HFI := Lib.hid hfi
    have HFO := Lib.hid hfo
    have HXI := Lib.hid hxi
    have HXO := Lib.hid hxo
    clear hFI hFO hfi hfo hxi hxo
    go_loopw [7, 8, 9] (fun x y i wr => ∃ n : Nat, n ≤ 64 ∧ i = .int .i64 (n : Int) ∧ (∃ Ai ci Ao co, x = .slice Ai n ci ∧ y = .slice Ao n co ∧ Own wr v1.heap.size 5 Ai ci (gen FI n) ∧ Own wr v1.heap.size 5 Ao co (gen FO n) ∧ Apart Ai Ao) ∧ Below v1.heap.size v1 wr)
      (fun _ _ i _ => 64 - (intOf i).toNat)
    case atStart => exact ⟨0, by omega, rfl, ⟨none, 0, none, 0, rfl, rfl, World.ownsRow_nil _ _ _ _, World.ownsRow_nil _ _ _ _, fun a b h => by cases h⟩, Below.refl _ _⟩
    case round =>
      obtain ⟨n, hn, rfl, ⟨Ai, ci, Ao, co, rfl, rfl, oi, oo, hap⟩, hb⟩ := hrel
      by_cases hlt : n < 64
      · have g1 : (n : Int) < 64 := by omega
        have hzi := HFI.out n
        have hzo := HFO.out n
        have HGI := Lib.hid (gen_add FI n (FI n) rfl)
        have HGO := Lib.hid (gen_add FO n (FO n) rfl)
        have hli := Lib.hid (gen_length FI n).symm
        have hlo := Lib.hid (gen_length FO n).symm
        generalize FI n = zi at *
        generalize FO n = zo at *
        by_cases hnk : n < kk.length
        · have g2 : (n : Int) < (kk.length : Int) := by omega
          have g3 : (0 : Int) ≤ (n : Int) := by omega
          obtain ⟨b9, o9, rfl, hb9, cc0⟩ := hkr.at_ hnk
          have cc := (hb.cell (p := ⟨b9, o9 + n, none⟩) hb9).trans cc0
          generalize nth kk n = xn at *
          clear hnk cc0
          go_wp2_with (first | (at_builtin; refine wpList_app1x _ rfl (.tmp 29) (.tmp 32) _ rfl v1.heap.size 5 i0 _ Tryd.underlying22 hi hz0 hz1 hz2 rfl rfl hli.out oi rfl zi (by first | rfl | exact hzi | fail) (by omega) hb.size oo hap ?_; intro A3 c3 w3 oi3 oo3 hap3 hb3) | (at_builtin; refine wpList_app1x _ rfl (.tmp 34) (.tmp 37) _ rfl v1.heap.size 5 i0 _ Tryd.underlying22 hi hz0 hz1 hz2 rfl rfl hlo.out oo3 rfl zo (by first | rfl | exact hzo | fail) (by omega) (hb.trans hb3).size oi3 hap3.symm ?_; intro A4 c4 w4 oo4 oi4 hap4 hb4))
          rw [HGI.out] at oi4
          rw [HGO.out] at oo4
          exact ⟨⟨n + 1, by omega, by go_num, ⟨A3, c3, A4, c4, rfl, rfl, oi4, oo4, hap4.symm⟩, (hb.trans hb3).trans hb4⟩, by simp [intOf]; omega⟩
        · have g2 : ¬ (n : Int) < (kk.length : Int) := by omega
          have hx0 : nth kk n = 0 := by unfold nth; rw [List.getElem?_eq_none (by omega)]; rfl
          rw [hx0] at hzi hzo
          replace hzi : bits .xor .u8 0 54 = (zi.toNat : Int) := hzi
          replace hzo : bits .xor .u8 0 92 = (zo.toNat : Int) := hzo
          clear hnk hx0
          go_wp2_with (first | (at_builtin; refine wpList_app1x _ rfl (.tmp 29) (.tmp 32) _ rfl v1.heap.size 5 i0 _ Tryd.underlying22 hi hz0 hz1 hz2 rfl rfl hli.out oi rfl zi (by first | rfl | exact hzi | fail) (by omega) hb.size oo hap ?_; intro A3 c3 w3 oi3 oo3 hap3 hb3) | (at_builtin; refine wpList_app1x _ rfl (.tmp 34) (.tmp 37) _ rfl v1.heap.size 5 i0 _ Tryd.underlying22 hi hz0 hz1 hz2 rfl rfl hlo.out oo3 rfl zo (by first | rfl | exact hzo | fail) (by omega) (hb.trans hb3).size oi3 hap3.symm ?_; intro A4 c4 w4 oo4 oi4 hap4 hb4))
          rw [HGI.out] at oi4
          rw [HGO.out] at oo4
          exact ⟨⟨n + 1, by omega, by go_num, ⟨A3, c3, A4, c4, rfl, rfl, oi4, oo4, hap4.symm⟩, (hb.trans hb3).trans hb4⟩, by simp [intOf]; omega⟩
      · obtain rfl : n = 64 := by omega
        have okv := ok1.keep hb
        obtain ⟨v9, e9⟩ : ∃ v, v = wr := ⟨_, rfl⟩
        rw [HXI.out] at oi
        rw [HXO.out] at oo
        rw [← e9] at okv oi oo hb ⊢
        clear e9
        have hI := oi.rd
        have hO := oo.rd
        have hB2 := ((hs1.keep hb).mono hb.size)
        have lI := xk_len kk 54
        have lO := xk_len kk 92
        obtain ⟨XI, hXI⟩ : ∃ x, x = xk kk 54 := ⟨_, rfl⟩
        obtain ⟨XO, hXO⟩ : ∃ x, x = xk kk 92 := ⟨_, rfl⟩
        rw [← hXI] at hI lI
        rw [← hXO] at hO lO
        obtain ⟨J1, hJ1⟩ : ∃ x, x = XI ++ b := ⟨_, rfl⟩
        obtain ⟨S1, hS1v⟩ : ∃ x, x = sumN smallS J1 := ⟨_, rfl⟩
        have hS1 : S1.length = 32 := by rw [hS1v]; exact sumN_len7 _ _
        obtain ⟨J2, hJ2⟩ : ∃ x, x = XO ++ S1 := ⟨_, rfl⟩
        obtain ⟨S2, hS2v⟩ : ∃ x, x = sumN smallS J2 := ⟨_, rfl⟩
        have hS2 : S2.length = 32 := by rw [hS2v]; exact sumN_len7 _ _
        have l1 : J1.length ≤ 1000000 := by rw [hJ1, List.length_append]; omega
        have l2 : J2.length ≤ 1000000 := by rw [hJ2, List.length_append]; omega
        have KJ1 := Lib.hid (fun A c A2 c2 w h1 h2 => join_rd (xs := XI) (ys := b) A c A2 c2 (by omega) w h1 h2)
        have KJ2 := Lib.hid (fun A c A2 c2 w h1 h2 => join_rd (xs := XO) (ys := S1) A c A2 c2 (by omega) w h1 h2)
        have KS1 := Lib.hid (fun A c w (hS : Below v9.heap.size v9 w) h => ksum_rd hK (bs := J1) A c l1 w (hk1.next2 hb hS) (hf1.next2 hb hS) h)
        have KS2 := Lib.hid (fun A c w (hS : Below v9.heap.size v9 w) h => ksum_rd hK (bs := J2) A c l2 w (hk1.next2 hb hS) (hf1.next2 hb hS) h)
        rw [← hJ1] at KJ1
        rw [← hJ2, hS1] at KJ2
        rw [← hS1v] at KS1
        rw [← hS2v] at KS2
        have hfin : S2 = macN key b := by rw [hS2v, hJ2, hS1v, hJ1, hXI, hXO, HKK.out]; rfl
        have HF := Lib.hid hfin
        have hl1 : (64 : Nat) = XI.length := lI.symm
        have hl2 : (64 : Nat) = XO.length := lO.symm
        have HL1 := Lib.hid lI
        have HL2 := Lib.hid lO
        simp only [Int.cast_ofNat_Int]
        clear hfin hJ1 hJ2 hS1v hS2v hXI hXO oi oo hap l1 l2 hl1 hl2 lI lO
        go_upto_region 12 with fail
        rw [show Value.slice Ai 64 ci = .slice Ai XI.length ci by rw [HL1.out], show Value.slice Ao 64 co = .slice Ao XO.length co by rw [HL2.out]]
        refine wp_region_inv 9 [39, 40, 41, 42, 43, 44, 45, 46, 47] [.val (kv K), .byt XO, .val (kv K), .byt XI, .byt b, .byt J1, .byt S1, .byt J2, .byt S2] (fun wz => Below v9.heap.size v9 wz) (by kernel_rfl) (by kernel_rfl) (fun wz wz' hz hb => hz.trans (hb.mono hz.size)) ((Below.refl _ _).drew) (fun u => by simp only [puts, List.foldl_cons, List.foldl_nil]; go_simp; exact rfl) ?_ ?_
        · simp only [List.take_succ_cons, List.take_zero]
          refine Obs.cons (fun u w hS hd => ?_) ?_
          · exact Gv.run (kv K) rfl (run_kload rfl rfl (okv.keep hS)) rfl
          refine Obs.cons (fun u w hS hd => ?_) ?_
          · exact Gv.run (.slice Ao XO.length co) rfl (by go_simp) (⟨_, _, rfl, (hO.keep hS).mono hS.size⟩)
          refine Obs.cons (fun u w hS hd => ?_) ?_
          · exact Gv.run (kv K) rfl (run_kload rfl rfl (okv.keep hS)) rfl
          refine Obs.cons (fun u w hS hd => ?_) ?_
          · exact Gv.run (.slice Ai XI.length ci) rfl (by go_simp) (⟨_, _, rfl, (hI.keep hS).mono hS.size⟩)
          refine Obs.cons (fun u w hS hd => ?_) ?_
          · exact Gv.run (.slice A' b.length c') rfl (by go_simp) (⟨_, _, rfl, (hB2.keep hS).mono hS.size⟩)
          refine Obs.cons (fun u w hS hd => ?_) ?_
          · obtain ⟨A42, c42, d42, g42⟩ : (Know.byt XI).ok (u 42) w := dep hd 3 rfl
            rw [d42]
            obtain ⟨A43, c43, d43, g43⟩ : (Know.byt b).ok (u 43) w := dep hd 4 rfl
            rw [d43]
            refine Gv.call 24 #[.slice A42 XI.length c42, .slice A43 b.length c43] rfl (by go_simp) ((KJ1.out _ _ _ _ w g42 g43).mono ?_)
            rintro e w' ⟨A, c, rfl, R, hb⟩
            exact ⟨_, rfl, ⟨A, c, rfl, R⟩, hb⟩
          refine Obs.cons (fun u w hS hd => ?_) ?_
          · have d41 : u 41 = kv K := dep hd 2 rfl
            rw [d41]
            obtain ⟨A44, c44, d44, g44⟩ : (Know.byt J1).ok (u 44) w := dep hd 5 rfl
            rw [d44]
            refine Gv.call 25 #[kv K, .slice A44 J1.length c44] rfl (by go_simp) ((KS1.out _ _ w hS g44).mono ?_)
            rintro e w' ⟨A, c, rfl, R, hb⟩
            exact ⟨_, rfl, ⟨A, c, by rw [hS1], R⟩, hb⟩
          refine Obs.cons (fun u w hS hd => ?_) ?_
          · obtain ⟨A40, c40, d40, g40⟩ : (Know.byt XO).ok (u 40) w := dep hd 1 rfl
            rw [d40]
            obtain ⟨A45, c45, d45, g45⟩ : (Know.byt S1).ok (u 45) w := dep hd 6 rfl
            rw [hS1] at d45
            rw [d45]
            refine Gv.call 24 #[.slice A40 XO.length c40, .slice A45 32 c45] rfl (by go_simp) ((KJ2.out _ _ _ _ w g40 g45).mono ?_)
            rintro e w' ⟨A, c, rfl, R, hb⟩
            exact ⟨_, rfl, ⟨A, c, rfl, R⟩, hb⟩
          refine Obs.cons (fun u w hS hd => ?_) ?_
          · have d39 : u 39 = kv K := dep hd 0 rfl
            rw [d39]
            obtain ⟨A46, c46, d46, g46⟩ : (Know.byt J2).ok (u 46) w := dep hd 7 rfl
            rw [d46]
            refine Gv.call 25 #[kv K, .slice A46 J2.length c46] rfl (by go_simp) ((KS2.out _ _ w hS g46).mono ?_)
            rintro e w' ⟨A, c, rfl, R, hb⟩
            exact ⟨_, rfl, ⟨A, c, by rw [hS2], R⟩, hb⟩
          exact Obs.nil
        intro u wz hS hd
        obtain ⟨A7, c7, d47, r47⟩ : ∃ A c, u 47 = .slice A S2.length c ∧ Rd wz wz.heap.size A c S2 := hd 8 (by decide)
        rw [hS2] at d47
        rw [d47]
        simp only [List.drop_succ_cons, List.drop_zero]
        go_wp2_with fail
        go_ret
        exact ⟨A7, c7, rfl, by rw [← HF.out]; exact r47, (hc1.trans (hb.mono hc1.size)).trans (hS.mono (Nat.le_trans hc1.size hb.size))⟩
  · have g0 : ¬ (64 : Int) < (key.length : Int) := by omega
    go_enter Tryd.func22, Tryd.ntmps22
    go_upto_region 1 with fail
    obtain ⟨v1, e0⟩ : ∃ v, v = w.alloc (AK K) := ⟨_, rfl⟩
    obtain ⟨g3, eg⟩ : ∃ g, g = w.heap.size := ⟨_, rfl⟩
    rw [← e0] at ok0 hc0 hk0 hf0 hr0 hs0 ⊢
    have ok1 : OK v1 w.heap.size g3 K := by rw [eg]; exact ok0
    rw [show (Value.pointer (some ⟨w.heap.size, 0, none⟩)) = .pointer (some ⟨g3, 0, none⟩) by rw [eg]]
    have hc1 := hc0
    have hk1 := hk0
    have hf1 := hf0
    have hs1 := hs0
    have hkr := hr0
    have hkk : key = keyN key := by unfold keyN; rw [if_pos (by omega)]
    clear e0 eg ok0 hc0 hk0 hf0 hr0 hs0
    obtain ⟨kk, ekk⟩ : ∃ x, x = key := ⟨_, rfl⟩
    rw [← ekk] at hkr g0 ⊢
    replace hkk : kk = keyN key := ekk.trans hkk
    have HKM := Lib.hid (show macN kk b = macN key b by rw [ekk])
    clear ekk
    have HKK := Lib.hid hkk
    clear hkk
    go_wp2_with fail
    obtain ⟨FI, hFI⟩ : ∃ f : Nat → UInt8, f = fun i => (kk[i]?.getD 0) ^^^ 54 := ⟨_, rfl⟩
    obtain ⟨FO, hFO⟩ : ∃ f : Nat → UInt8, f = fun i => (kk[i]?.getD 0) ^^^ 92 := ⟨_, rfl⟩
    have hfi : ∀ n, bits .xor .u8 ((nth kk n : Nat) : Int) 54 = ((FI n).toNat : Int) := fun n => by rw [hFI]; exact xor_u8 _ 54
    have hfo : ∀ n, bits .xor .u8 ((nth kk n : Nat) : Int) 92 = ((FO n).toNat : Int) := fun n => by rw [hFO]; exact xor_u8 _ 92
    have hxi : gen FI 64 = xk kk 54 := by rw [hFI]; exact xk_is _ _
    have hxo : gen FO 64 = xk kk 92 := by rw [hFO]; exact xk_is _ _
    have HFI := Lib.hid hfi
    have HFO := Lib.hid hfo
    have HXI := Lib.hid hxi
    have HXO := Lib.hid hxo
    clear hFI hFO hfi hfo hxi hxo
    go_loopw [7, 8, 9] (fun x y i wr => ∃ n : Nat, n ≤ 64 ∧ i = .int .i64 (n : Int) ∧ (∃ Ai ci Ao co, x = .slice Ai n ci ∧ y = .slice Ao n co ∧ Own wr v1.heap.size 5 Ai ci (gen FI n) ∧ Own wr v1.heap.size 5 Ao co (gen FO n) ∧ Apart Ai Ao) ∧ Below v1.heap.size v1 wr)
      (fun _ _ i _ => 64 - (intOf i).toNat)
    case atStart => exact ⟨0, by omega, rfl, ⟨none, 0, none, 0, rfl, rfl, World.ownsRow_nil _ _ _ _, World.ownsRow_nil _ _ _ _, fun a b h => by cases h⟩, Below.refl _ _⟩
    case round =>
      obtain ⟨n, hn, rfl, ⟨Ai, ci, Ao, co, rfl, rfl, oi, oo, hap⟩, hb⟩ := hrel
      by_cases hlt : n < 64
      · have g1 : (n : Int) < 64 := by omega
        have hzi := HFI.out n
        have hzo := HFO.out n
        have HGI := Lib.hid (gen_add FI n (FI n) rfl)
        have HGO := Lib.hid (gen_add FO n (FO n) rfl)
        have hli := Lib.hid (gen_length FI n).symm
        have hlo := Lib.hid (gen_length FO n).symm
        generalize FI n = zi at *
        generalize FO n = zo at *
        by_cases hnk : n < kk.length
        · have g2 : (n : Int) < (kk.length : Int) := by omega
          have g3 : (0 : Int) ≤ (n : Int) := by omega
          obtain ⟨b9, o9, rfl, hb9, cc0⟩ := hkr.at_ hnk
          have cc := (hb.cell (p := ⟨b9, o9 + n, none⟩) hb9).trans cc0
          generalize nth kk n = xn at *
          clear hnk cc0
          go_wp2_with (first | (at_builtin; refine wpList_app1x _ rfl (.tmp 29) (.tmp 32) _ rfl v1.heap.size 5 i0 _ Tryd.underlying22 hi hz0 hz1 hz2 rfl rfl hli.out oi rfl zi (by first | rfl | exact hzi | fail) (by omega) hb.size oo hap ?_; intro A3 c3 w3 oi3 oo3 hap3 hb3) | (at_builtin; refine wpList_app1x _ rfl (.tmp 34) (.tmp 37) _ rfl v1.heap.size 5 i0 _ Tryd.underlying22 hi hz0 hz1 hz2 rfl rfl hlo.out oo3 rfl zo (by first | rfl | exact hzo | fail) (by omega) (hb.trans hb3).size oi3 hap3.symm ?_; intro A4 c4 w4 oo4 oi4 hap4 hb4))
          rw [HGI.out] at oi4
          rw [HGO.out] at oo4
          exact ⟨⟨n + 1, by omega, by go_num, ⟨A3, c3, A4, c4, rfl, rfl, oi4, oo4, hap4.symm⟩, (hb.trans hb3).trans hb4⟩, by simp [intOf]; omega⟩
        · have g2 : ¬ (n : Int) < (kk.length : Int) := by omega
          have hx0 : nth kk n = 0 := by unfold nth; rw [List.getElem?_eq_none (by omega)]; rfl
          rw [hx0] at hzi hzo
          replace hzi : bits .xor .u8 0 54 = (zi.toNat : Int) := hzi
          replace hzo : bits .xor .u8 0 92 = (zo.toNat : Int) := hzo
          clear hnk hx0
          go_wp2_with (first | (at_builtin; refine wpList_app1x _ rfl (.tmp 29) (.tmp 32) _ rfl v1.heap.size 5 i0 _ Tryd.underlying22 hi hz0 hz1 hz2 rfl rfl hli.out oi rfl zi (by first | rfl | exact hzi | fail) (by omega) hb.size oo hap ?_; intro A3 c3 w3 oi3 oo3 hap3 hb3) | (at_builtin; refine wpList_app1x _ rfl (.tmp 34) (.tmp 37) _ rfl v1.heap.size 5 i0 _ Tryd.underlying22 hi hz0 hz1 hz2 rfl rfl hlo.out oo3 rfl zo (by first | rfl | exact hzo | fail) (by omega) (hb.trans hb3).size oi3 hap3.symm ?_; intro A4 c4 w4 oo4 oi4 hap4 hb4))
          rw [HGI.out] at oi4
          rw [HGO.out] at oo4
          exact ⟨⟨n + 1, by omega, by go_num, ⟨A3, c3, A4, c4, rfl, rfl, oi4, oo4, hap4.symm⟩, (hb.trans hb3).trans hb4⟩, by simp [intOf]; omega⟩
      · obtain rfl : n = 64 := by omega
        have okv := ok1.keep hb
        obtain ⟨v9, e9⟩ : ∃ v, v = wr := ⟨_, rfl⟩
        rw [HXI.out] at oi
        rw [HXO.out] at oo
        rw [← e9] at okv oi oo hb ⊢
        clear e9
        have hI := oi.rd
        have hO := oo.rd
        have hB2 := ((hs1.keep hb).mono hb.size)
        have lI := xk_len kk 54
        have lO := xk_len kk 92
        obtain ⟨XI, hXI⟩ : ∃ x, x = xk kk 54 := ⟨_, rfl⟩
        obtain ⟨XO, hXO⟩ : ∃ x, x = xk kk 92 := ⟨_, rfl⟩
        rw [← hXI] at hI lI
        rw [← hXO] at hO lO
        obtain ⟨J1, hJ1⟩ : ∃ x, x = XI ++ b := ⟨_, rfl⟩
        obtain ⟨S1, hS1v⟩ : ∃ x, x = sumN smallS J1 := ⟨_, rfl⟩
        have hS1 : S1.length = 32 := by rw [hS1v]; exact sumN_len7 _ _
        obtain ⟨J2, hJ2⟩ : ∃ x, x = XO ++ S1 := ⟨_, rfl⟩
        obtain ⟨S2, hS2v⟩ : ∃ x, x = sumN smallS J2 := ⟨_, rfl⟩
        have hS2 : S2.length = 32 := by rw [hS2v]; exact sumN_len7 _ _
        have l1 : J1.length ≤ 1000000 := by rw [hJ1, List.length_append]; omega
        have l2 : J2.length ≤ 1000000 := by rw [hJ2, List.length_append]; omega
        have KJ1 := Lib.hid (fun A c A2 c2 w h1 h2 => join_rd (xs := XI) (ys := b) A c A2 c2 (by omega) w h1 h2)
        have KJ2 := Lib.hid (fun A c A2 c2 w h1 h2 => join_rd (xs := XO) (ys := S1) A c A2 c2 (by omega) w h1 h2)
        have KS1 := Lib.hid (fun A c w (hS : Below v9.heap.size v9 w) h => ksum_rd hK (bs := J1) A c l1 w (hk1.next2 hb hS) (hf1.next2 hb hS) h)
        have KS2 := Lib.hid (fun A c w (hS : Below v9.heap.size v9 w) h => ksum_rd hK (bs := J2) A c l2 w (hk1.next2 hb hS) (hf1.next2 hb hS) h)
        rw [← hJ1] at KJ1
        rw [← hJ2, hS1] at KJ2
        rw [← hS1v] at KS1
        rw [← hS2v] at KS2
        have hfin : S2 = macN key b := by rw [hS2v, hJ2, hS1v, hJ1, hXI, hXO, HKK.out]; rfl
        have HF := Lib.hid hfin
        have hl1 : (64 : Nat) = XI.length := lI.symm
        have hl2 : (64 : Nat) = XO.length := lO.symm
        have HL1 := Lib.hid lI
        have HL2 := Lib.hid lO
        simp only [Int.cast_ofNat_Int]
        clear hfin hJ1 hJ2 hS1v hS2v hXI hXO oi oo hap l1 l2 hl1 hl2 lI lO
        go_upto_region 12 with fail
        rw [show Value.slice Ai 64 ci = .slice Ai XI.length ci by rw [HL1.out], show Value.slice Ao 64 co = .slice Ao XO.length co by rw [HL2.out]]
        refine wp_region_inv 9 [39, 40, 41, 42, 43, 44, 45, 46, 47] [.val (kv K), .byt XO, .val (kv K), .byt XI, .byt b, .byt J1, .byt S1, .byt J2, .byt S2] (fun wz => Below v9.heap.size v9 wz) (by kernel_rfl) (by kernel_rfl) (fun wz wz' hz hb => hz.trans (hb.mono hz.size)) ((Below.refl _ _).drew) (fun u => by simp only [puts, List.foldl_cons, List.foldl_nil]; go_simp; exact rfl) ?_ ?_
        · simp only [List.take_succ_cons, List.take_zero]
          refine Obs.cons (fun u w hS hd => ?_) ?_
          · exact Gv.run (kv K) rfl (run_kload rfl rfl (okv.keep hS)) rfl
          refine Obs.cons (fun u w hS hd => ?_) ?_
          · exact Gv.run (.slice Ao XO.length co) rfl (by go_simp) (⟨_, _, rfl, (hO.keep hS).mono hS.size⟩)
          refine Obs.cons (fun u w hS hd => ?_) ?_
          · exact Gv.run (kv K) rfl (run_kload rfl rfl (okv.keep hS)) rfl
          refine Obs.cons (fun u w hS hd => ?_) ?_
          · exact Gv.run (.slice Ai XI.length ci) rfl (by go_simp) (⟨_, _, rfl, (hI.keep hS).mono hS.size⟩)
          refine Obs.cons (fun u w hS hd => ?_) ?_
          · exact Gv.run (.slice A' b.length c') rfl (by go_simp) (⟨_, _, rfl, (hB2.keep hS).mono hS.size⟩)
          refine Obs.cons (fun u w hS hd => ?_) ?_
          · obtain ⟨A42, c42, d42, g42⟩ : (Know.byt XI).ok (u 42) w := dep hd 3 rfl
            rw [d42]
            obtain ⟨A43, c43, d43, g43⟩ : (Know.byt b).ok (u 43) w := dep hd 4 rfl
            rw [d43]
            refine Gv.call 24 #[.slice A42 XI.length c42, .slice A43 b.length c43] rfl (by go_simp) ((KJ1.out _ _ _ _ w g42 g43).mono ?_)
            rintro e w' ⟨A, c, rfl, R, hb⟩
            exact ⟨_, rfl, ⟨A, c, rfl, R⟩, hb⟩
          refine Obs.cons (fun u w hS hd => ?_) ?_
          · have d41 : u 41 = kv K := dep hd 2 rfl
            rw [d41]
            obtain ⟨A44, c44, d44, g44⟩ : (Know.byt J1).ok (u 44) w := dep hd 5 rfl
            rw [d44]
            refine Gv.call 25 #[kv K, .slice A44 J1.length c44] rfl (by go_simp) ((KS1.out _ _ w hS g44).mono ?_)
            rintro e w' ⟨A, c, rfl, R, hb⟩
            exact ⟨_, rfl, ⟨A, c, by rw [hS1], R⟩, hb⟩
          refine Obs.cons (fun u w hS hd => ?_) ?_
          · obtain ⟨A40, c40, d40, g40⟩ : (Know.byt XO).ok (u 40) w := dep hd 1 rfl
            rw [d40]
            obtain ⟨A45, c45, d45, g45⟩ : (Know.byt S1).ok (u 45) w := dep hd 6 rfl
            rw [hS1] at d45
            rw [d45]
            refine Gv.call 24 #[.slice A40 XO.length c40, .slice A45 32 c45] rfl (by go_simp) ((KJ2.out _ _ _ _ w g40 g45).mono ?_)
            rintro e w' ⟨A, c, rfl, R, hb⟩
            exact ⟨_, rfl, ⟨A, c, rfl, R⟩, hb⟩
          refine Obs.cons (fun u w hS hd => ?_) ?_
          · have d39 : u 39 = kv K := dep hd 0 rfl
            rw [d39]
            obtain ⟨A46, c46, d46, g46⟩ : (Know.byt J2).ok (u 46) w := dep hd 7 rfl
            rw [d46]
            refine Gv.call 25 #[kv K, .slice A46 J2.length c46] rfl (by go_simp) ((KS2.out _ _ w hS g46).mono ?_)
            rintro e w' ⟨A, c, rfl, R, hb⟩
            exact ⟨_, rfl, ⟨A, c, by rw [hS2], R⟩, hb⟩
          exact Obs.nil
        intro u wz hS hd
        obtain ⟨A7, c7, d47, r47⟩ : ∃ A c, u 47 = .slice A S2.length c ∧ Rd wz wz.heap.size A c S2 := hd 8 (by decide)
        rw [hS2] at d47
        rw [d47]
        simp only [List.drop_succ_cons, List.drop_zero]
        go_wp2_with fail
        go_ret
        exact ⟨A7, c7, rfl, by rw [← HF.out]; exact r47, (hc1.trans (hb.mono hc1.size)).trans (hS.mono (Nat.le_trans hc1.size hb.size))⟩
end
end Go.Proofs.YtbofehdihflkiaaDoor
