/-
  The document's Mult (layer 5), over letters. Written by tools/gen_l5.py. By an AI agent.
-/
import Derived.Test.YtojggpiolgcjeaaQ1
import Derived.Test.YtojggpiolgcjeaaQ2
import Derived.Test.YtojggpiolgcjeaaLate
namespace Go.Proofs.Ytojggpiolgcjeaa
open Go Go.RowKit
theorem lAdd {x y : Nat} (hx : x < P25) (hy : y < P25) (w : World) : Calls Try.prog 28 #[fv x, fv y] w fun e w' => e = .returned (fv (adN x y)) ∧ Below w.heap.size w w' := radd_any (Nat.lt_trans hx P25_W4) (Nat.lt_trans hy P25_W4) w
theorem lSub {x y : Nat} (hx : x < P25) (hy : y < P25) (w : World) : Calls Try.prog 29 #[fv x, fv y] w fun e w' => e = .returned (fv (sbN x y)) ∧ Below w.heap.size w w' := rsub_any hx hy w
theorem lMul {x y : Nat} (hx : x < P25) (hy : y < P25) (w : World) : Calls Try.prog 30 #[fv x, fv y] w fun e w' => e = .returned (fv (mlN x y)) ∧ Below w.heap.size w w' := rmul_any (Nat.lt_trans hx P25_W4) (Nat.lt_trans hy P25_W4) w
theorem vb_of {x : Nat} (hx : x < W4) : vb (gen (bf x) 32) = x := by
  unfold vb
  rw [gen_length]
  refine dgt_ext (b := 256) (n := 32) (vk_lt _ _) (by rw [← W4_256]; exact hx) fun i hi => ?_
  rw [show dgt 256 (vk (gen (bf x) 32) 32) i = nth (gen (bf x) 32) i from vk_dig _ i 32 hi, nth_gen hi, bf_nat]
  rfl
theorem low_by (x : Nat) {k : Nat} (hk : k < 32) : by8 (x % 2 ^ 255) k = if k = 31 then by8 x 31 % 128 else by8 x k := by
  by_cases e : k = 31
  · subst e
    rw [if_pos rfl]
    unfold by8 dgt
    simp only [Nat.reducePow]
    omega
  · rw [if_neg e]
    rw [show (2 : Nat) ^ 255 = 256 ^ 31 * 128 by decide +kernel]
    have h1 : (x % (256 ^ 31 * 128)) % 256 ^ 31 = x % 256 ^ 31 := Nat.mod_mul_right_mod _ _ _
    unfold by8
    rw [← dgt_mod _ (show k < 31 by omega), h1, dgt_mod _ (show k < 31 by omega)]
/-- The highest bit of the last byte is nothing. -/
theorem low_set {us : List UInt8} (hl : us.length = 32) {b : UInt8} (h : b.toNat = nth us 31 % 128) : us.set 31 b = gen (bf (vb us % 2 ^ 255)) 32 := by
  have hv : ∀ i, i < 32 → by8 (vb us) i = nth us i := fun i hi => by unfold vb; rw [hl]; exact vk_dig us i 32 hi
  refine nth_ext (by simp [gen_length, hl]) fun k hk => ?_
  have hk' : k < 32 := by simpa [hl] using hk
  rw [nth_gen hk', bf_nat, nth_set _ _ _ _ (by omega), low_by _ hk']
  by_cases e : 31 = k
  · subst e; rw [if_pos rfl, if_pos rfl, h, hv 31 (by decide)]
  · rw [if_neg e, if_neg (Ne.symm e), hv k hk']
attribute [local irreducible] wd by8 d16 set16w fl vk
set_option maxRecDepth 20000
theorem lread_any {A : Option Addr} {B c x : Nat} (hx : x < W4) (w : World) (h : Rd w B A c (gen (bf x) 32)) (hB : B ≤ w.heap.size) :
    Calls Try.prog 25 #[.slice A 32 c] w fun e w' => ∃ A c n, e = .returned (.slice A n c) ∧ DOwn w' w.heap.size A c n x ∧ Below w.heap.size w w' := by
  have h1 := read_any w h hB (by rw [gen_length]; decide)
  rw [gen_length, vb_of hx] at h1
  exact h1
theorem lbitK {A : Option Addr} {c j K : Nat} (hK : K < W4) (hj : j < 256) (w : World) (h : Rd w w.heap.size A c (gen (bf K) 32)) :
    Calls Try.prog 27 #[.slice A 32 c, .int .i64 (j : Int)] w fun e w' => e = .returned (.int .i64 (sbit K j : Int)) ∧ Below w.heap.size w w' := by
  have h1 := lbit_any (gen_length _ _) hj w h (Nat.le_refl _)
  rw [vb_of hK] at h1
  exact h1
theorem rmult_len {A A' : Option Addr} {n n' c c' : Nat} (hn : n ≠ 32 ∨ n' ≠ 32) (w : World) :
    Calls Try.prog 14 #[.slice A n c, .slice A' n' c'] w fun e w' => e = .returned (.tuple #[.slice none 0 0, .int .i64 1]) ∧ Below w.heap.size w w' := by
  by_cases h : n = 32
  · subst h
    have h' : n' ≠ 32 := hn.resolve_left (fun h => h rfl)
    have g1 : ((n' : Int) == 32) = false := by simp; omega
    have g2 : ((n' : Int) != 32) = true := by simp; omega
    clear hn
    go_enter Try.func14, Try.ntmps14
    go_wp2_with fail
    refine bodyPost_ret (v := .tuple #[.slice none 0 0, .int .i64 1]) (by simp [results, Try.results14, go_sem]) rfl ⟨rfl, Below.refl _ _⟩
  · have g1 : ((n : Int) == 32) = false := by simp; omega
    have g2 : ((n : Int) != 32) = true := by simp; omega
    clear hn
    go_enter Try.func14, Try.ntmps14
    go_wp2_with fail
    refine bodyPost_ret (v := .tuple #[.slice none 0 0, .int .i64 1]) (by simp [results, Try.results14, go_sem]) rfl ⟨rfl, Below.refl _ _⟩
set_option maxHeartbeats 3200000 in
theorem rmult_any {A A' : Option Addr} {B c c' : Nat} {bs us : List UInt8} (h32 : bs.length = 32) (u32 : us.length = 32) (w : World) (hr : Rd w B A c bs) (hu : Rd w B A' c' us) (hB : B ≤ w.heap.size) :
    Calls Try.prog 14 #[.slice A 32 c, .slice A' 32 c'] w fun e w' => ∃ A c, e = .returned (.tuple #[.slice A 32 c, .int .i64 0]) ∧ Rd w' w'.heap.size A c (gen (bf (ladderN (vb us % 2 ^ 255 % P25) (clam (vb bs)))) 32) ∧ Below w.heap.size w w' := by
  obtain ⟨i0, hi, hz0, hz1, hz2⟩ := info_parts infoByte
  obtain ⟨U, hU⟩ : ∃ U, U = vb us % 2 ^ 255 := ⟨_, rfl⟩
  obtain ⟨K, hK⟩ : ∃ K, K = clam (vb bs) := ⟨_, rfl⟩
  have hUW : U < W4 := by rw [hU]; exact Nat.lt_trans (Nat.mod_lt _ (by decide)) (by decide +kernel)
  have hKW : K < W4 := by rw [hK]; exact clam_W4 _
  have l31 := nth_lt us 31
  have hset := @low_set us u32 (UInt8.ofNat (nth us 31 % 128)) (by simp; omega)
  have hb0 : (UInt8.ofNat (nth us 31 % 128)).toNat = nth us 31 % 128 := by simp; omega
  have kC := rclamp_any h32 w hr hB
  generalize UInt8.ofNat (nth us 31 % 128) = b0 at hset hb0
  rw [← hK] at kC ⊢
  rw [← hU] at hset ⊢
  have t31 : (nth us 31 : Int).tmod 128 = ((nth us 31 % 128 : Nat) : Int) := by rw [Int.tmod_eq_emod_of_nonneg (by omega)]; omega
  have u0 : IntKind.u8.wrap ((nth us 31 % 128 : Nat) : Int) = (b0.toNat : Int) := by rw [IntKind.wrap_u8, hb0]; omega
  generalize nth us 31 % 128 = m0 at t31 u0 hb0
  obtain ⟨X, hX⟩ : ∃ X, X = U % P25 := ⟨_, rfl⟩
  have hXP : X < P25 := by rw [hX]; exact Nat.mod_lt _ P25_pos
  have kO := fun w => rof_any hUW w
  rw [← hX] at kO ⊢
  have KC := Lib.hid kC
  have KO := Lib.hid kO
  clear kC kO hK hU hX hr h32
  have gl31 : (31 : Int) < 32 := by decide
  go_enter Try.func14, Try.ntmps14
  go_wp2_with fail
  go_at_call 11
  refine KC.out.mono ?_
  rintro e v1 ⟨As, cs, rfl, os, hc⟩
  clear KC
  have h2 := (hu.keep (hc.mono hB)).keep ((Below.refl B v1).alloc (Nat.le_trans hB hc.size) (.cells #[] 5))
  have h3 : Own (v1.alloc (.cells #[] 5)) v1.heap.size 5 (some ⟨v1.heap.size, 0, none⟩) 0 [] := World.ownsRow_made v1 #[] 0 (Nat.le_refl _) (by decide) (by decide)
  have h4 : Below v1.heap.size v1 (v1.alloc (.cells #[] 5)) := (Below.refl _ v1).alloc (Nat.le_refl _) _
  go_upto_region 5 with (at_builtin; refine wpList_app _ rfl (.tmp 38) (.tmp 39) _ rfl v1.heap.size 5 i0 _ Try.underlying22 hi hz0 hz1 hz2 rfl (xs := []) rfl h3 (by rw [u32]; rfl) h2 (by simp only [List.length_nil]; omega) (by simp) ?_; intro A1 c1 v2 ho hb; rw [show (([] : List UInt8) ++ us).length = 32 from u32])
  replace ho : Own v2 v1.heap.size 5 A1 c1 us := ho
  replace hb := h4.trans hb
  clear h2 h3 h4 hu
  obtain ⟨g, rfl⟩ := ho.at0 (by omega)
  have cl := ho.cell (k := 31) (by omega)
  have fr := ho.free 31
  have o3 := ho.set_ 31 b0
  rw [hset, hb0] at o3
  have hb3 := hb.setCell (p := ⟨g, 31, none⟩) ho.ge (.int .u8 (m0 : Int))
  replace os := os.keep hb3
  replace hc := hc.trans (hb3.mono hc.size)
  go_upto_region 6 with fail
  obtain ⟨v3, e3⟩ : ∃ v, v = v2.setCell ⟨g, 31, none⟩ (.int .u8 (m0 : Int)) := ⟨_, rfl⟩
  rw [← e3] at os hc o3 ⊢
  clear e3 hb3 hb cl fr ho u0 t31 gl31 hset
  have KR := Lib.hid (lread_any hUW _ o3.rd (Nat.le_refl _))
  clear o3
  go_wp2_with fail
  go_at_call 25
  refine KR.out.mono ?_
  rintro e v4 ⟨A4, c4, n4, rfl, d4, h0⟩
  clear KR
  replace os := os.keep h0
  replace hc := hc.trans (h0.mono hc.size)
  clear h0
  have p4 := d4.dig
  clear d4
  go_wp2_with fail
  go_at_call 24
  refine (of_any _ p4 (Nat.le_refl _)).mono ?_
  rintro e v5 ⟨rfl, h0⟩
  replace os := os.keep h0
  replace hc := hc.trans (h0.mono hc.size)
  clear h0 p4
  go_wp2_with fail
  go_at_call 23
  refine (KO.out _).mono ?_
  rintro e v6 ⟨rfl, h0⟩
  replace os := os.keep h0
  replace hc := hc.trans (h0.mono hc.size)
  clear h0 KO
  have on0 := O16.zero (own_Z16 (w := v6) (B := v6.heap.size) (Nat.le_refl _))
  have o9 := on0.put X
  have hb := ((Below.refl _ v6).alloc (Nat.le_refl _) Z16).trans (on0.below X)
  replace os := os.keep hb
  have hs6 := hc.size
  replace hc := hc.trans (hb.mono hc.size)
  go_upto_region 7 with ((with_reducible refine fl_store on0 X ?_ ?_ ?_); rfl; rfl)
  obtain ⟨v7, e7⟩ : ∃ v, v = set16w (v6.alloc Z16) v6.heap.size X := ⟨_, rfl⟩
  rw [← e7] at os o9 hc ⊢
  replace o9 := o9.mono hs6
  obtain ⟨g9, e9⟩ : ∃ g, g = v6.heap.size := ⟨_, rfl⟩
  rw [← e9] at o9 ⊢
  clear e7 e9 hb on0 hs6
  obtain ⟨n0, hn0⟩ : ∃ n, n = 0 := ⟨_, rfl⟩
  obtain ⟨n1, hn1⟩ : ∃ n, n = 1 := ⟨_, rfl⟩
  obtain ⟨nc, hnce⟩ : ∃ n, n = 121665 := ⟨_, rfl⟩
  obtain ⟨m1, hm1⟩ : ∃ n, n = 65535 := ⟨_, rfl⟩
  obtain ⟨m2, hm2⟩ : ∃ n, n = 56130 := ⟨_, rfl⟩
  have hnc : nc < P25 := by rw [hnce]; decide +kernel
  have ki1 : ∀ w, Calls Try.prog 26 #[.int .i64 65535] w fun e w' => e = .returned (fv m1) ∧ Below w.heap.size w w' := fun w => by rw [hm1]; exact int_any (n := 65535) (by decide) w
  have ki2 : ∀ w, Calls Try.prog 26 #[.int .i64 56130] w fun e w' => e = .returned (fv m2) ∧ Below w.heap.size w w' := fun w => by rw [hm2]; exact int_any (n := 56130) (by decide) w
  have ki3 : ∀ w, Calls Try.prog 28 #[fv m1, fv m2] w fun e w' => e = .returned (fv nc) ∧ Below w.heap.size w w' := fun w => by
    have h := lAdd (x := m1) (y := m2) (by rw [hm1]; decide +kernel) (by rw [hm2]; decide +kernel) w
    rwa [show adN m1 m2 = nc by rw [hm1, hm2, hnce]; exact Nat.mod_eq_of_lt (by decide +kernel)] at h
  have KI1 := Lib.hid ki1
  have KI2 := Lib.hid ki2
  have KI3 := Lib.hid ki3
  have HNC := Lib.hid hnce
  clear ki1 ki2 ki3 hm1 hm2 hnce
  have k0 : ∀ w, Calls Try.prog 26 #[.int .i64 0] w fun e w' => e = .returned (fv n0) ∧ Below w.heap.size w w' := fun w => by rw [hn0]; exact int_any (n := 0) (by decide) w
  have k1 : ∀ w, Calls Try.prog 26 #[.int .i64 1] w fun e w' => e = .returned (fv n1) ∧ Below w.heap.size w w' := fun w => by rw [hn1]; exact int_any (n := 1) (by decide) w
  have K0 := Lib.hid k0
  have K1 := Lib.hid k1
  have HN0 := Lib.hid hn0
  have HN1 := Lib.hid hn1
  clear k0 k1 hn0 hn1
  refine wp_region_box2 12 [some 51, some 52, some 53, some 54, some 10, some 11, some 12, some 13, none, none, none, none] [.val (fv n1), .val (fv n0), .val (fv X), .val (fv n1), .box 40 16, .box 40 16, .box 40 16, .box 40 16, .holds 4 40 16 (dv16 n1), .holds 5 40 16 (dv16 n0), .holds 6 40 16 (dv16 X), .holds 7 40 16 (dv16 n1)] v7.heap.size (fun wz => Below v7.heap.size v7 wz) (by kernel_rfl) (by kernel_rfl)
    (fun _ _ h _ hb => h.trans hb) ((Below.refl _ _).drew) (Nat.le_refl _) (fun u => by simp only [List.filterMap_cons, List.filterMap_nil, id, puts, List.foldl_cons, List.foldl_nil]; go_simp; exact rfl) ?_ ?_
  · simp only [List.take_succ_cons, List.take_zero]
    refine ObsB.cons (fun u w L hL hS hBw hd => ?_) ?_
    · refine GB.call 51 rfl 26 #[.int .i64 1] rfl (by go_simp) rfl ((K1.out w).mono ?_)
      rintro e w' ⟨rfl, hb⟩
      exact ⟨_, rfl, rfl, hb⟩
    refine ObsB.cons (fun u w L hL hS hBw hd => ?_) ?_
    · refine GB.call 52 rfl 26 #[.int .i64 0] rfl (by go_simp) rfl ((K0.out w).mono ?_)
      rintro e w' ⟨rfl, hb⟩
      exact ⟨_, rfl, rfl, hb⟩
    refine ObsB.cons (fun u w L hL hS hBw hd => ?_) ?_
    · exact GB.run 53 rfl (fv X) rfl (run_fload rfl rfl (o9.keep hS)) rfl rfl
    refine ObsB.cons (fun u w L hL hS hBw hd => ?_) ?_
    · refine GB.call 54 rfl 26 #[.int .i64 1] rfl (by go_simp) rfl ((K1.out w).mono ?_)
      rintro e w' ⟨rfl, hb⟩
      exact ⟨_, rfl, rfl, hb⟩
    refine ObsB.cons (fun u w L hL hS hBw hd => ?_) ?_
    · exact GB.alloc 10 rfl rfl #[.int .i64 0, .int .i64 0, .int .i64 0, .int .i64 0, .int .i64 0, .int .i64 0, .int .i64 0, .int .i64 0, .int .i64 0, .int .i64 0, .int .i64 0, .int .i64 0, .int .i64 0, .int .i64 0, .int .i64 0, .int .i64 0] 40 16 (fun _ => .int .i64 0) rfl rfl (by go_simp) hBw (by decide) rfl
    refine ObsB.cons (fun u w L hL hS hBw hd => ?_) ?_
    · exact GB.alloc 11 rfl rfl #[.int .i64 0, .int .i64 0, .int .i64 0, .int .i64 0, .int .i64 0, .int .i64 0, .int .i64 0, .int .i64 0, .int .i64 0, .int .i64 0, .int .i64 0, .int .i64 0, .int .i64 0, .int .i64 0, .int .i64 0, .int .i64 0] 40 16 (fun _ => .int .i64 0) rfl rfl (by go_simp) hBw (by decide) rfl
    refine ObsB.cons (fun u w L hL hS hBw hd => ?_) ?_
    · exact GB.alloc 12 rfl rfl #[.int .i64 0, .int .i64 0, .int .i64 0, .int .i64 0, .int .i64 0, .int .i64 0, .int .i64 0, .int .i64 0, .int .i64 0, .int .i64 0, .int .i64 0, .int .i64 0, .int .i64 0, .int .i64 0, .int .i64 0, .int .i64 0] 40 16 (fun _ => .int .i64 0) rfl rfl (by go_simp) hBw (by decide) rfl
    refine ObsB.cons (fun u w L hL hS hBw hd => ?_) ?_
    · exact GB.alloc 13 rfl rfl #[.int .i64 0, .int .i64 0, .int .i64 0, .int .i64 0, .int .i64 0, .int .i64 0, .int .i64 0, .int .i64 0, .int .i64 0, .int .i64 0, .int .i64 0, .int .i64 0, .int .i64 0, .int .i64 0, .int .i64 0, .int .i64 0] 40 16 (fun _ => .int .i64 0) rfl rfl (by go_simp) hBw (by decide) rfl
    refine ObsB.cons (fun u w L hL hS hBw hd => ?_) ?_
    · have d51 : u 51 = fv n1 := depB hd 0 rfl
      obtain ⟨g, fg, e10, o10⟩ : (Fact.box 40 16).ok v7.heap.size [some 51, some 52, some 53, some 54, some 10, some 11, some 12, some 13, none, none, none, none] 4 u w L := depB hd 4 rfl
      exact GB.store rfl 4 g 40 16 (dv16 n1) rfl rfl rfl e10 (run_fstore rfl (by exact e10) (by exact d51) o10) (only16 w g n1) (put16 o10 n1)
    refine ObsB.cons (fun u w L hL hS hBw hd => ?_) ?_
    · have d52 : u 52 = fv n0 := depB hd 1 rfl
      obtain ⟨g, fg, e11, o11⟩ : (Fact.box 40 16).ok v7.heap.size [some 51, some 52, some 53, some 54, some 10, some 11, some 12, some 13, none, none, none, none] 5 u w L := depB hd 5 rfl
      exact GB.store rfl 5 g 40 16 (dv16 n0) rfl rfl rfl e11 (run_fstore rfl (by exact e11) (by exact d52) o11) (only16 w g n0) (put16 o11 n0)
    refine ObsB.cons (fun u w L hL hS hBw hd => ?_) ?_
    · have d53 : u 53 = fv X := depB hd 2 rfl
      obtain ⟨g, fg, e12, o12⟩ : (Fact.box 40 16).ok v7.heap.size [some 51, some 52, some 53, some 54, some 10, some 11, some 12, some 13, none, none, none, none] 6 u w L := depB hd 6 rfl
      exact GB.store rfl 6 g 40 16 (dv16 X) rfl rfl rfl e12 (run_fstore rfl (by exact e12) (by exact d53) o12) (only16 w g X) (put16 o12 X)
    refine ObsB.cons (fun u w L hL hS hBw hd => ?_) ?_
    · have d54 : u 54 = fv n1 := depB hd 3 rfl
      obtain ⟨g, fg, e13, o13⟩ : (Fact.box 40 16).ok v7.heap.size [some 51, some 52, some 53, some 54, some 10, some 11, some 12, some 13, none, none, none, none] 7 u w L := depB hd 7 rfl
      exact GB.store rfl 7 g 40 16 (dv16 n1) rfl rfl rfl e13 (run_fstore rfl (by exact e13) (by exact d54) o13) (only16 w g n1) (put16 o13 n1)
    exact ObsB.nil
  intro u7 v8 hS hd hne
  obtain ⟨g10, e10, o10⟩ : (Fact.holds 4 40 16 (dv16 n1)).ok v7.heap.size [some 51, some 52, some 53, some 54, some 10, some 11, some 12, some 13, none, none, none, none] 8 u7 v8 (fun _ => true) := hd 8 (by decide)
  obtain ⟨g11, e11, o11⟩ : (Fact.holds 5 40 16 (dv16 n0)).ok v7.heap.size [some 51, some 52, some 53, some 54, some 10, some 11, some 12, some 13, none, none, none, none] 9 u7 v8 (fun _ => true) := hd 9 (by decide)
  obtain ⟨g12, e12, o12⟩ : (Fact.holds 6 40 16 (dv16 X)).ok v7.heap.size [some 51, some 52, some 53, some 54, some 10, some 11, some 12, some 13, none, none, none, none] 10 u7 v8 (fun _ => true) := hd 10 (by decide)
  obtain ⟨g13, e13, o13⟩ : (Fact.holds 7 40 16 (dv16 n1)).ok v7.heap.size [some 51, some 52, some 53, some 54, some 10, some 11, some 12, some 13, none, none, none, none] 11 u7 v8 (fun _ => true) := hd 11 (by decide)
  replace e10 : u7 10 = .pointer (some ⟨g10, 0, none⟩) := e10
  replace e11 : u7 11 = .pointer (some ⟨g11, 0, none⟩) := e11
  replace e12 : u7 12 = .pointer (some ⟨g12, 0, none⟩) := e12
  replace e13 : u7 13 = .pointer (some ⟨g13, 0, none⟩) := e13
  replace o10 : O16 v8 v7.heap.size g10 n1 := o10
  replace o11 : O16 v8 v7.heap.size g11 n0 := o11
  replace o12 : O16 v8 v7.heap.size g12 X := o12
  replace o13 : O16 v8 v7.heap.size g13 n1 := o13
  have n1011 : g10 ≠ g11 := fun h => hne 4 5 (by decide) (by decide) (by decide) rfl rfl (show u7 10 = u7 11 by rw [e10, e11, h])
  have n1012 : g10 ≠ g12 := fun h => hne 4 6 (by decide) (by decide) (by decide) rfl rfl (show u7 10 = u7 12 by rw [e10, e12, h])
  have n1013 : g10 ≠ g13 := fun h => hne 4 7 (by decide) (by decide) (by decide) rfl rfl (show u7 10 = u7 13 by rw [e10, e13, h])
  have n1112 : g11 ≠ g12 := fun h => hne 5 6 (by decide) (by decide) (by decide) rfl rfl (show u7 11 = u7 12 by rw [e11, e12, h])
  have n1113 : g11 ≠ g13 := fun h => hne 5 7 (by decide) (by decide) (by decide) rfl rfl (show u7 11 = u7 13 by rw [e11, e13, h])
  have n1213 : g12 ≠ g13 := fun h => hne 6 7 (by decide) (by decide) (by decide) rfl rfl (show u7 12 = u7 13 by rw [e12, e13, h])
  rw [HN1.out] at o10 o13
  rw [HN0.out] at o11
  rw [e10, e11, e12, e13]
  clear hd hne e10 e11 e12 e13 HN0 HN1 K0 K1
  simp only [List.drop_succ_cons, List.drop_zero]
  have HE := Lib.hid (show ladderN X K = mlN (ladN X K 255).x2 ((ladN X K 255).z2 ^ (P25 - 2) % P25) from rfl)
  obtain ⟨Y, hYe⟩ : ∃ Y, Y = ladderN X K := ⟨_, rfl⟩
  rw [← hYe] at HE
  have HYE := Lib.hid hYe
  clear hYe
  go_wp2_with fail
  go_loopw [14] (fun i wr => ∃ m n : Nat, m + n = 255 ∧ i = .int .i64 ((m : Int) - 1) ∧ O16 wr v7.heap.size g10 (ladN X K n).x2 ∧ O16 wr v7.heap.size g11 (ladN X K n).z2 ∧ O16 wr v7.heap.size g12 (ladN X K n).x3 ∧ O16 wr v7.heap.size g13 (ladN X K n).z3 ∧ Below v7.heap.size v7 wr)
    (fun i _ => (intOf i + 1).toNat)
  case atStart => exact ⟨255, 0, rfl, rfl, o10, o11, o12, o13, hS⟩
  case round =>
    clear o10 o11 o12 o13 hS
    obtain ⟨m, n, hmn, rfl, o10, o11, o12, o13, hL⟩ := hrel
    by_cases h0 : m = 0
    · subst h0
      obtain rfl : n = 255 := by omega
      have gs : ((0 : Nat) : Int) - 1 = -1 := by decide
      rw [gs]
      have he := HE.out
      obtain ⟨hp, hq, -, -⟩ := ladN_ok hXP K 255
      generalize (ladN X K 255).x2 = p at *
      generalize (ladN X K 255).z2 = q at *
      clear HE o12 o13 hmn KI1 KI2 KI3 HNC hnc
      have hv : q ^ (P25 - 2) % P25 < P25 := Nat.mod_lt _ P25_pos
      have ki := fun w => rinvert_any hq w
      have km := fun w => lMul hp hv w
      rw [← he] at km
      generalize q ^ (P25 - 2) % P25 = v at *
      have hY : Y < P25 := by rw [he]; exact mlN_lt _ _
      clear he hv hp hq
      have ke : ∀ w, Calls Try.prog 31 #[fv Y] w fun e w' => ∃ A c, e = .returned (.slice A 32 c) ∧ Rd w' w'.heap.size A c (gen (bf Y) 32) ∧ Below w.heap.size w w' := fun w => (rencode_any (Nat.lt_trans hY P25_W4) w).mono fun e w' ⟨A, c, he, ho, hb⟩ => ⟨A, c, he, ho.rd, hb⟩
      have KI := Lib.hid ki
      have KM := Lib.hid km
      have KE := Lib.hid ke
      have hlen : (gen (bf Y) 32).length = 32 := gen_length _ _
      clear ki km ke hY
      obtain ⟨out, houte⟩ : ∃ o, o = gen (bf Y) 32 := ⟨_, rfl⟩
      rw [← houte] at KE hlen
      have HO := Lib.hid houte
      clear houte
      go_upto_region 29 with fail
      refine wp_region_inv 5 [127, 128, 129, 130, 131] [.val (fv p), .val (fv q), .val (fv v), .val (fv Y), .byt out] (fun wz => Below wr.heap.size wr wz) (by kernel_rfl) (by kernel_rfl) (fun wz wz' hz hb => hz.trans (hb.mono hz.size)) ((Below.refl _ _).drew) (fun u => by simp only [puts, List.foldl_cons, List.foldl_nil]; go_simp; exact rfl) ?_ ?_
      · simp only [List.take_succ_cons, List.take_zero]
        refine Obs.cons (fun u w hS hd => ?_) ?_
        · exact Gv.run (fv p) rfl (run_fload rfl rfl (o10.keep hS)) rfl
        refine Obs.cons (fun u w hS hd => ?_) ?_
        · exact Gv.run (fv q) rfl (run_fload rfl rfl (o11.keep hS)) rfl
        refine Obs.cons (fun u w hS hd => ?_) ?_
        · have d128 : u 128 = fv q := dep hd 1 rfl
          rw [d128]
          refine Gv.call 32 #[fv q] rfl (by go_simp) ((KI.out w).mono ?_)
          rintro e w' ⟨rfl, hb⟩
          exact ⟨_, rfl, rfl, hb⟩
        refine Obs.cons (fun u w hS hd => ?_) ?_
        · have d127 : u 127 = fv p := dep hd 0 rfl
          rw [d127]
          have d129 : u 129 = fv v := dep hd 2 rfl
          rw [d129]
          refine Gv.call 30 #[fv p, fv v] rfl (by go_simp) ((KM.out w).mono ?_)
          rintro e w' ⟨rfl, hb⟩
          exact ⟨_, rfl, rfl, hb⟩
        refine Obs.cons (fun u w hS hd => ?_) ?_
        · have d130 : u 130 = fv Y := dep hd 3 rfl
          rw [d130]
          refine Gv.call 31 #[fv Y] rfl (by go_simp) ((KE.out w).mono ?_)
          rintro e w' ⟨A, c, rfl, R, hb⟩
          exact ⟨_, rfl, ⟨A, c, by rw [hlen], R⟩, hb⟩
        exact Obs.nil
      intro u yz hS hd
      obtain ⟨Ao, co, eo, ro⟩ : (Know.byt out).ok (u 131) yz := hd 4 (by decide)
      rw [hlen] at eo
      rw [eo]
      clear hd eo
      simp only [List.drop_succ_cons, List.drop_zero]
      go_wp2_with fail
      refine bodyPost_ret (v := .tuple #[.slice Ao 32 co, .int .i64 0]) (by simp [results, Try.results14, go_sem]) rfl ⟨_, _, rfl, by rw [← HYE.out, ← HO.out]; exact ro, hc.trans ((hL.trans (hS.mono hL.size)).mono hc.size)⟩
    · obtain ⟨j, rfl⟩ : ∃ j, m = j + 1 := ⟨m - 1, by omega⟩
      have gs : ((j + 1 : Nat) : Int) - 1 = (j : Int) := by omega
      rw [gs]
      have g0 : (0 : Int) ≤ (j : Int) := by omega
      have gw : IntKind.i64.wrap ((j : Int) - 1) = (j : Int) - 1 := by rw [IntKind.wrap_i64]; omega
      obtain rfl : n = 254 - j := by omega
      have hj : j ≤ 254 := by omega
      have hjj : 254 - (254 - j) = j := by omega
      have hok := ladN_ok hXP K (254 - j)
      have hst : ladN X K (254 - j + 1) = (((ladN X K (254 - j)).swap (kbit K j)).step X).swap (kbit K j) := by
        show (((ladN X K (254 - j)).swap (kbit K (254 - (254 - j)))).step X).swap (kbit K (254 - (254 - j))) = _
        rw [hjj]
      have KB := Lib.hid (fun v (hL : Below v7.heap.size v7 v) => lbitK hKW (show j < 256 by omega) v (os.keep hL).rd)
      generalize ladN X K (254 - j) = st at hok hst o10 o11 o12 o13
      obtain ⟨p, q, r, s⟩ := st
      obtain ⟨hp, hq, hr, hs⟩ : p < P25 ∧ q < P25 ∧ r < P25 ∧ s < P25 := hok
      replace o10 : O16 wr v7.heap.size g10 p := o10
      replace o11 : O16 wr v7.heap.size g11 q := o11
      replace o12 : O16 wr v7.heap.size g12 r := o12
      replace o13 : O16 wr v7.heap.size g13 s := o13
      have HST := Lib.hid hst
      clear hst hjj
      by_cases hbit : sbit K j = 1
      · have hb : kbit K j = true := decide_eq_true hbit
        rw [hbit] at KB
        replace hst := HST.out
        rw [hb] at hst
        clear HST hb hbit
        have hfin : ladN X K (254 - j + 1) = (⟨(mlN (adN (mlN (sbN p q) (adN r s)) (mlN (adN p q) (sbN r s))) (adN (mlN (sbN p q) (adN r s)) (mlN (adN p q) (sbN r s)))), (mlN X (mlN (sbN (mlN (sbN p q) (adN r s)) (mlN (adN p q) (sbN r s))) (sbN (mlN (sbN p q) (adN r s)) (mlN (adN p q) (sbN r s))))), (mlN (mlN (adN r s) (adN r s)) (mlN (sbN r s) (sbN r s))), (mlN (sbN (mlN (adN r s) (adN r s)) (mlN (sbN r s) (sbN r s))) (adN (mlN (adN r s) (adN r s)) (mlN 121665 (sbN (mlN (adN r s) (adN r s)) (mlN (sbN r s) (sbN r s))))))⟩ : SN) := by rw [hst]; rfl
        rw [← HNC.out] at hfin
        clear hst
        have ha : adN r s < P25 := adN_lt _ _
        have ka := fun w => lAdd hr hs w
        generalize adN r s = a at *
        replace ka := Lib.hid ka
        have hb : sbN r s < P25 := sbN_lt _ _
        have kb := fun w => lSub hr hs w
        generalize sbN r s = b at *
        replace kb := Lib.hid kb
        have ht1 : sbN p q < P25 := sbN_lt _ _
        have kt1 := fun w => lSub hp hq w
        generalize sbN p q = t1 at *
        replace kt1 := Lib.hid kt1
        have hda : mlN t1 a < P25 := mlN_lt _ _
        have kda := fun w => lMul ht1 ha w
        generalize mlN t1 a = da at *
        replace kda := Lib.hid kda
        have ht2 : adN p q < P25 := adN_lt _ _
        have kt2 := fun w => lAdd hp hq w
        generalize adN p q = t2 at *
        replace kt2 := Lib.hid kt2
        have hcb : mlN t2 b < P25 := mlN_lt _ _
        have kcb := fun w => lMul ht2 hb w
        generalize mlN t2 b = cb at *
        replace kcb := Lib.hid kcb
        have haa : mlN a a < P25 := mlN_lt _ _
        have kaa := fun w => lMul ha ha w
        generalize mlN a a = aa at *
        replace kaa := Lib.hid kaa
        have hbb : mlN b b < P25 := mlN_lt _ _
        have kbb := fun w => lMul hb hb w
        generalize mlN b b = bb at *
        replace kbb := Lib.hid kbb
        have he1 : sbN aa bb < P25 := sbN_lt _ _
        have ke1 := fun w => lSub haa hbb w
        generalize sbN aa bb = e1 at *
        replace ke1 := Lib.hid ke1
        have hs1 : adN da cb < P25 := adN_lt _ _
        have ks1 := fun w => lAdd hda hcb w
        generalize adN da cb = s1 at *
        replace ks1 := Lib.hid ks1
        have hd1 : sbN da cb < P25 := sbN_lt _ _
        have kd1 := fun w => lSub hda hcb w
        generalize sbN da cb = d1 at *
        replace kd1 := Lib.hid kd1
        have hx5 : mlN s1 s1 < P25 := mlN_lt _ _
        have kx5 := fun w => lMul hs1 hs1 w
        generalize mlN s1 s1 = x5 at *
        replace kx5 := Lib.hid kx5
        have hdd : mlN d1 d1 < P25 := mlN_lt _ _
        have kdd := fun w => lMul hd1 hd1 w
        generalize mlN d1 d1 = dd at *
        replace kdd := Lib.hid kdd
        have hz5 : mlN X dd < P25 := mlN_lt _ _
        have kz5 := fun w => lMul hXP hdd w
        generalize mlN X dd = z5 at *
        replace kz5 := Lib.hid kz5
        have hx4 : mlN aa bb < P25 := mlN_lt _ _
        have kx4 := fun w => lMul haa hbb w
        generalize mlN aa bb = x4 at *
        replace kx4 := Lib.hid kx4
        have hce : mlN nc e1 < P25 := mlN_lt _ _
        have kce := fun w => lMul hnc he1 w
        generalize mlN nc e1 = ce at *
        replace kce := Lib.hid kce
        have ht3 : adN aa ce < P25 := adN_lt _ _
        have kt3 := fun w => lAdd haa hce w
        generalize adN aa ce = t3 at *
        replace kt3 := Lib.hid kt3
        have hz4 : mlN e1 t3 < P25 := mlN_lt _ _
        have kz4 := fun w => lMul he1 ht3 w
        generalize mlN e1 t3 = z4 at *
        replace kz4 := Lib.hid kz4
        replace hfin := Lib.hid hfin
        clear ha hb ht1 hda ht2 hcb haa hbb he1 hs1 hd1 hx5 hdd hz5 hx4 hce ht3 hz4
        clear hp hq hr hs
        obtain ⟨r0, er0⟩ : ∃ r, r = wr.heap.size := ⟨_, rfl⟩
        have hz : r0 ≤ wr.heap.size := Nat.le_of_eq er0
        have l10 : g10 < r0 := by have := o10.lt; omega
        have l11 : g11 < r0 := by have := o11.lt; omega
        have l12 : g12 < r0 := by have := o12.lt; omega
        have l13 : g13 < r0 := by have := o13.lt; omega
        clear er0
        go_wp2_with fail
        go_at_call 27
        refine (KB.out _ hL).mono ?_
        rintro e y1 ⟨rfl, h0⟩
        replace o10 := o10.keep h0
        replace o11 := o11.keep h0
        replace o12 := o12.keep h0
        replace o13 := o13.keep h0
        replace hL := hL.trans (h0.mono hL.size)
        replace hz := Nat.le_trans hz h0.size
        clear h0
        go_upto_region 12 with fail
        have b10 := o10.drew
        have b11 := o11.drew
        have b12 := o12.drew
        have b13 := o13.drew
        have c13 := b13.other (g' := g10) (by omega) r
        refine wp_region_late 5 4 [some 63, some 64, some 65, some 66, none] [fv r, fv s, fv p, fv q, undef] [1] (fun b => cond b (set16w y1.drew g10 r) y1.drew) (by kernel_rfl) (by kernel_rfl) rfl (fun u => by simp only [List.filterMap_cons, List.filterMap_nil, id, puts, List.foldl_cons, List.foldl_nil]; go_simp; exact rfl) ?_ ?_
        · simp only [List.take_succ_cons, List.take_zero]
          refine ObsL.cons (fun u hd => ?_) ?_
          · exact ⟨rfl, fun b hb => match b, hb with | false, _ => run_fload rfl rfl b12 | true, hb => absurd (hb rfl) (by decide)⟩
          refine ObsL.cons (fun u hd => ?_) ?_
          · exact ⟨rfl, fun b _ => match b with | false => run_fload rfl rfl b13 | true => run_fload rfl rfl c13⟩
          refine ObsL.cons (fun u hd => ?_) ?_
          · exact ⟨rfl, fun b hb => match b, hb with | false, _ => run_fload rfl rfl b10 | true, hb => absurd (hb rfl) (by decide)⟩
          refine ObsL.cons (fun u hd => ?_) ?_
          · exact ⟨rfl, fun b hb => match b, hb with | false, _ => run_fload rfl rfl b11 | true, hb => absurd (hb rfl) (by decide)⟩
          refine ObsL.cons (fun u hd => ?_) ?_
          · have d0 : u 63 = fv r := depL hd 0 rfl 63 rfl
            rw [d0]
            exact ⟨rfl, run_fstore rfl rfl rfl b10⟩
          exact ObsL.nil
        intro uy2 hd
        have d63 : uy2 63 = fv r := hd 0 (by decide) 63 rfl
        have d64 : uy2 64 = fv s := hd 1 (by decide) 64 rfl
        have d65 : uy2 65 = fv p := hd 2 (by decide) 65 rfl
        have d66 : uy2 66 = fv q := hd 3 (by decide) 66 rfl
        rw [d63, d64, d65, d66]
        clear hd c13 d63 d64 d65 d66
        simp only [List.drop_succ_cons, List.drop_zero]
        show wpList _ _ _ _ _ (set16w y1.drew g10 r)
        obtain ⟨y2, ev⟩ : ∃ v, v = set16w y1.drew g10 r := ⟨_, rfl⟩
        have hzz : (set16w y1.drew g10 r).heap.size = y1.heap.size := set16w_size _ _ _
        replace o10 := b10.put r
        replace o11 := o11.drew.other (g' := g10) (by omega) r
        replace o12 := o12.drew.other (g' := g10) (by omega) r
        replace o13 := o13.drew.other (g' := g10) (by omega) r
        replace hL := hL.drew.trans (b10.below r)
        rw [← ev] at o10 o11 o12 o13 hL hzz ⊢
        rw [← hzz] at hz
        clear ev hzz b10 b11 b12 b13
        have b11 := o11
        replace o11 := b11.put s
        have hbz := b11.below s
        replace o10 := o10.other (g' := g11) (by omega) s
        replace o12 := o12.other (g' := g11) (by omega) s
        replace o13 := o13.other (g' := g11) (by omega) s
        replace hL := hL.trans hbz
        clear hbz
        have b12 := o12
        replace o12 := b12.put p
        have hbz := b12.below p
        replace o10 := o10.other (g' := g12) (by omega) p
        replace o11 := o11.other (g' := g12) (by omega) p
        replace o13 := o13.other (g' := g12) (by omega) p
        replace hL := hL.trans hbz
        clear hbz
        have b13 := o13
        replace o13 := b13.put q
        have hbz := b13.below q
        replace o10 := o10.other (g' := g13) (by omega) q
        replace o11 := o11.other (g' := g13) (by omega) q
        replace o12 := o12.other (g' := g13) (by omega) q
        replace hL := hL.trans hbz
        clear hbz
        have hzz : (set16w (set16w (set16w (y2) g11 s) g12 p) g13 q).heap.size = y2.heap.size := by rw [set16w_size, set16w_size, set16w_size]
        go_upto_region 13 with (first | ((with_reducible refine fl_store b11 s ?_ ?_ ?_); rfl; rfl) | ((with_reducible refine fl_store b12 p ?_ ?_ ?_); rfl; rfl) | ((with_reducible refine fl_store b13 q ?_ ?_ ?_); rfl; rfl))
        obtain ⟨y3, ev⟩ : ∃ v, v = set16w (set16w (set16w (y2) g11 s) g12 p) g13 q := ⟨_, rfl⟩
        rw [← ev] at o10 o11 o12 o13 hL hzz ⊢
        rw [← hzz] at hz
        clear ev hzz b11 b12 b13
        go_wp2_with (first | ((with_reducible refine fl_load o10 ?_ ?_); rfl) | ((with_reducible refine fl_load o11 ?_ ?_); rfl))
        go_at_call 28
        refine (ka.out _).mono ?_
        rintro e y4 ⟨rfl, h0⟩
        replace o10 := o10.keep h0
        replace o11 := o11.keep h0
        replace o12 := o12.keep h0
        replace o13 := o13.keep h0
        replace hL := hL.trans (h0.mono hL.size)
        replace hz := Nat.le_trans hz h0.size
        clear h0
        have on0 : O16 (y4.alloc Z16) v7.heap.size y4.heap.size 0 := O16.zero (own_Z16 hL.size)
        have o15 := on0.put a
        have hbz := on0.below a
        have hx := o10.lt
        replace o10 := (o10.alloc Z16).other (g' := y4.heap.size) (by omega) a
        clear hx
        have hx := o11.lt
        replace o11 := (o11.alloc Z16).other (g' := y4.heap.size) (by omega) a
        clear hx
        have hx := o12.lt
        replace o12 := (o12.alloc Z16).other (g' := y4.heap.size) (by omega) a
        clear hx
        have hx := o13.lt
        replace o13 := (o13.alloc Z16).other (g' := y4.heap.size) (by omega) a
        clear hx
        replace hL := (hL.alloc hL.size Z16).trans hbz
        have hzz : y4.heap.size ≤ (set16w (y4.alloc Z16) y4.heap.size a).heap.size := by rw [set16w_size]; simp
        go_upto_region 14 with ((with_reducible refine fl_store on0 a ?_ ?_ ?_); rfl; rfl)
        obtain ⟨y5, ev⟩ : ∃ v, v = set16w (y4.alloc Z16) y4.heap.size a := ⟨_, rfl⟩
        rw [← ev] at o10 o11 o12 o13 o15 hL hzz ⊢
        obtain ⟨g15, eg⟩ : ∃ g, g = y4.heap.size := ⟨_, rfl⟩
        rw [← eg] at o15 hzz hz ⊢
        have l15 := hz
        replace hz := Nat.le_trans hz hzz
        clear ev eg on0 hbz hzz
        go_wp2_with (first | ((with_reducible refine fl_load o10 ?_ ?_); rfl) | ((with_reducible refine fl_load o11 ?_ ?_); rfl))
        go_at_call 29
        refine (kb.out _).mono ?_
        rintro e y6 ⟨rfl, h0⟩
        replace o10 := o10.keep h0
        replace o11 := o11.keep h0
        replace o12 := o12.keep h0
        replace o13 := o13.keep h0
        replace o15 := o15.keep h0
        replace hL := hL.trans (h0.mono hL.size)
        replace hz := Nat.le_trans hz h0.size
        clear h0
        have on0 : O16 (y6.alloc Z16) v7.heap.size y6.heap.size 0 := O16.zero (own_Z16 hL.size)
        have o16 := on0.put b
        have hbz := on0.below b
        have hx := o10.lt
        replace o10 := (o10.alloc Z16).other (g' := y6.heap.size) (by omega) b
        clear hx
        have hx := o11.lt
        replace o11 := (o11.alloc Z16).other (g' := y6.heap.size) (by omega) b
        clear hx
        have hx := o12.lt
        replace o12 := (o12.alloc Z16).other (g' := y6.heap.size) (by omega) b
        clear hx
        have hx := o13.lt
        replace o13 := (o13.alloc Z16).other (g' := y6.heap.size) (by omega) b
        clear hx
        have hx := o15.lt
        replace o15 := (o15.alloc Z16).other (g' := y6.heap.size) (by omega) b
        clear hx
        replace hL := (hL.alloc hL.size Z16).trans hbz
        have hzz : y6.heap.size ≤ (set16w (y6.alloc Z16) y6.heap.size b).heap.size := by rw [set16w_size]; simp
        go_upto_region 15 with ((with_reducible refine fl_store on0 b ?_ ?_ ?_); rfl; rfl)
        obtain ⟨y7, ev⟩ : ∃ v, v = set16w (y6.alloc Z16) y6.heap.size b := ⟨_, rfl⟩
        rw [← ev] at o10 o11 o12 o13 o15 o16 hL hzz ⊢
        obtain ⟨g16, eg⟩ : ∃ g, g = y6.heap.size := ⟨_, rfl⟩
        rw [← eg] at o16 hzz hz ⊢
        have l16 := hz
        replace hz := Nat.le_trans hz hzz
        clear ev eg on0 hbz hzz
        refine wp_region_box 7 [some 73, some 74, some 75, some 76, some 77, some 17, none] [.val (fv p), .val (fv q), .val (fv t1), .val (fv a), .val (fv da), .box 40 16, .holds 5 40 16 (dv16 da)] y7.heap.size (fun wz => Below y7.heap.size y7 wz) (by kernel_rfl) (by kernel_rfl)
          (fun _ _ h _ hb => h.trans hb) ((Below.refl _ _).drew) (Nat.le_refl _) (fun u => by simp only [List.filterMap_cons, List.filterMap_nil, id, puts, List.foldl_cons, List.foldl_nil]; go_simp; exact rfl) ?_ ?_
        · simp only [List.take_succ_cons, List.take_zero]
          refine ObsB.cons (fun u w L hL hS hBw hd => ?_) ?_
          · exact GB.run 73 rfl (fv p) rfl (run_fload rfl rfl (o12.keep hS)) rfl rfl
          refine ObsB.cons (fun u w L hL hS hBw hd => ?_) ?_
          · exact GB.run 74 rfl (fv q) rfl (run_fload rfl rfl (o13.keep hS)) rfl rfl
          refine ObsB.cons (fun u w L hL hS hBw hd => ?_) ?_
          · have d73 : u 73 = fv p := depB hd 0 rfl
            rw [d73]
            have d74 : u 74 = fv q := depB hd 1 rfl
            rw [d74]
            refine GB.call 75 rfl 29 #[fv p, fv q] rfl (by go_simp) rfl ((kt1.out w).mono ?_)
            rintro e w' ⟨rfl, hb⟩
            exact ⟨_, rfl, rfl, hb⟩
          refine ObsB.cons (fun u w L hL hS hBw hd => ?_) ?_
          · exact GB.run 76 rfl (fv a) rfl (run_fload rfl rfl (o15.keep hS)) rfl rfl
          refine ObsB.cons (fun u w L hL hS hBw hd => ?_) ?_
          · have d75 : u 75 = fv t1 := depB hd 2 rfl
            rw [d75]
            have d76 : u 76 = fv a := depB hd 3 rfl
            rw [d76]
            refine GB.call 77 rfl 30 #[fv t1, fv a] rfl (by go_simp) rfl ((kda.out w).mono ?_)
            rintro e w' ⟨rfl, hb⟩
            exact ⟨_, rfl, rfl, hb⟩
          refine ObsB.cons (fun u w L hL hS hBw hd => ?_) ?_
          · exact GB.alloc 17 rfl rfl #[.int .i64 0, .int .i64 0, .int .i64 0, .int .i64 0, .int .i64 0, .int .i64 0, .int .i64 0, .int .i64 0, .int .i64 0, .int .i64 0, .int .i64 0, .int .i64 0, .int .i64 0, .int .i64 0, .int .i64 0, .int .i64 0] 40 16 (fun _ => .int .i64 0) rfl rfl (by go_simp) hBw (by decide) rfl
          refine ObsB.cons (fun u w L hL hS hBw hd => ?_) ?_
          · have d77 : u 77 = fv da := depB hd 4 rfl
            obtain ⟨g, fg, e17, o17⟩ : (Fact.box 40 16).ok y7.heap.size [some 73, some 74, some 75, some 76, some 77, some 17, none] 5 u w L := depB hd 5 rfl
            exact GB.store rfl 5 g 40 16 (dv16 da) rfl rfl rfl e17 (run_fstore rfl (by exact e17) (by exact d77) o17) (only16 w g da) (put16 o17 da)
          exact ObsB.nil
        intro uy8 y8 hS hd
        obtain ⟨g17, eg, o17⟩ : (Fact.holds 5 40 16 (dv16 da)).ok y7.heap.size [some 73, some 74, some 75, some 76, some 77, some 17, none] 6 uy8 y8 (fun _ => true) := hd 6 (by decide)
        replace eg : uy8 17 = .pointer (some ⟨g17, 0, none⟩) := eg
        replace o17 : O16 y8 y7.heap.size g17 da := o17
        have l17 := Nat.le_trans hz o17.ge
        replace o17 := o17.mono hL.size
        replace o10 := o10.keep hS
        replace o11 := o11.keep hS
        replace o12 := o12.keep hS
        replace o13 := o13.keep hS
        replace o15 := o15.keep hS
        replace o16 := o16.keep hS
        replace hL := hL.trans (hS.mono hL.size)
        replace hz := Nat.le_trans hz hS.size
        rw [eg]
        clear hS hd eg
        simp only [List.drop_succ_cons, List.drop_zero]
        go_upto_region 16 with fail
        refine wp_region_box 7 [some 78, some 79, some 80, some 81, some 82, some 18, none] [.val (fv p), .val (fv q), .val (fv t2), .val (fv b), .val (fv cb), .box 40 16, .holds 5 40 16 (dv16 cb)] y8.heap.size (fun wz => Below y8.heap.size y8 wz) (by kernel_rfl) (by kernel_rfl)
          (fun _ _ h _ hb => h.trans hb) ((Below.refl _ _).drew) (Nat.le_refl _) (fun u => by simp only [List.filterMap_cons, List.filterMap_nil, id, puts, List.foldl_cons, List.foldl_nil]; go_simp; exact rfl) ?_ ?_
        · simp only [List.take_succ_cons, List.take_zero]
          refine ObsB.cons (fun u w L hL hS hBw hd => ?_) ?_
          · exact GB.run 78 rfl (fv p) rfl (run_fload rfl rfl (o12.keep hS)) rfl rfl
          refine ObsB.cons (fun u w L hL hS hBw hd => ?_) ?_
          · exact GB.run 79 rfl (fv q) rfl (run_fload rfl rfl (o13.keep hS)) rfl rfl
          refine ObsB.cons (fun u w L hL hS hBw hd => ?_) ?_
          · have d78 : u 78 = fv p := depB hd 0 rfl
            rw [d78]
            have d79 : u 79 = fv q := depB hd 1 rfl
            rw [d79]
            refine GB.call 80 rfl 28 #[fv p, fv q] rfl (by go_simp) rfl ((kt2.out w).mono ?_)
            rintro e w' ⟨rfl, hb⟩
            exact ⟨_, rfl, rfl, hb⟩
          refine ObsB.cons (fun u w L hL hS hBw hd => ?_) ?_
          · exact GB.run 81 rfl (fv b) rfl (run_fload rfl rfl (o16.keep hS)) rfl rfl
          refine ObsB.cons (fun u w L hL hS hBw hd => ?_) ?_
          · have d80 : u 80 = fv t2 := depB hd 2 rfl
            rw [d80]
            have d81 : u 81 = fv b := depB hd 3 rfl
            rw [d81]
            refine GB.call 82 rfl 30 #[fv t2, fv b] rfl (by go_simp) rfl ((kcb.out w).mono ?_)
            rintro e w' ⟨rfl, hb⟩
            exact ⟨_, rfl, rfl, hb⟩
          refine ObsB.cons (fun u w L hL hS hBw hd => ?_) ?_
          · exact GB.alloc 18 rfl rfl #[.int .i64 0, .int .i64 0, .int .i64 0, .int .i64 0, .int .i64 0, .int .i64 0, .int .i64 0, .int .i64 0, .int .i64 0, .int .i64 0, .int .i64 0, .int .i64 0, .int .i64 0, .int .i64 0, .int .i64 0, .int .i64 0] 40 16 (fun _ => .int .i64 0) rfl rfl (by go_simp) hBw (by decide) rfl
          refine ObsB.cons (fun u w L hL hS hBw hd => ?_) ?_
          · have d82 : u 82 = fv cb := depB hd 4 rfl
            obtain ⟨g, fg, e18, o18⟩ : (Fact.box 40 16).ok y8.heap.size [some 78, some 79, some 80, some 81, some 82, some 18, none] 5 u w L := depB hd 5 rfl
            exact GB.store rfl 5 g 40 16 (dv16 cb) rfl rfl rfl e18 (run_fstore rfl (by exact e18) (by exact d82) o18) (only16 w g cb) (put16 o18 cb)
          exact ObsB.nil
        intro uy9 y9 hS hd
        obtain ⟨g18, eg, o18⟩ : (Fact.holds 5 40 16 (dv16 cb)).ok y8.heap.size [some 78, some 79, some 80, some 81, some 82, some 18, none] 6 uy9 y9 (fun _ => true) := hd 6 (by decide)
        replace eg : uy9 18 = .pointer (some ⟨g18, 0, none⟩) := eg
        replace o18 : O16 y9 y8.heap.size g18 cb := o18
        have l18 := Nat.le_trans hz o18.ge
        replace o18 := o18.mono hL.size
        replace o10 := o10.keep hS
        replace o11 := o11.keep hS
        replace o12 := o12.keep hS
        replace o13 := o13.keep hS
        replace o15 := o15.keep hS
        replace o16 := o16.keep hS
        replace o17 := o17.keep hS
        replace hL := hL.trans (hS.mono hL.size)
        replace hz := Nat.le_trans hz hS.size
        rw [eg]
        clear hS hd eg
        simp only [List.drop_succ_cons, List.drop_zero]
        go_wp2_with (first | ((with_reducible refine fl_load o15 ?_ ?_); rfl))
        go_at_call 30
        refine (kaa.out _).mono ?_
        rintro e y10 ⟨rfl, h0⟩
        replace o10 := o10.keep h0
        replace o11 := o11.keep h0
        replace o12 := o12.keep h0
        replace o13 := o13.keep h0
        replace o15 := o15.keep h0
        replace o16 := o16.keep h0
        replace o17 := o17.keep h0
        replace o18 := o18.keep h0
        replace hL := hL.trans (h0.mono hL.size)
        replace hz := Nat.le_trans hz h0.size
        clear h0
        have on0 : O16 (y10.alloc Z16) v7.heap.size y10.heap.size 0 := O16.zero (own_Z16 hL.size)
        have o19 := on0.put aa
        have hbz := on0.below aa
        have hx := o10.lt
        replace o10 := (o10.alloc Z16).other (g' := y10.heap.size) (by omega) aa
        clear hx
        have hx := o11.lt
        replace o11 := (o11.alloc Z16).other (g' := y10.heap.size) (by omega) aa
        clear hx
        have hx := o12.lt
        replace o12 := (o12.alloc Z16).other (g' := y10.heap.size) (by omega) aa
        clear hx
        have hx := o13.lt
        replace o13 := (o13.alloc Z16).other (g' := y10.heap.size) (by omega) aa
        clear hx
        have hx := o15.lt
        replace o15 := (o15.alloc Z16).other (g' := y10.heap.size) (by omega) aa
        clear hx
        have hx := o16.lt
        replace o16 := (o16.alloc Z16).other (g' := y10.heap.size) (by omega) aa
        clear hx
        have hx := o17.lt
        replace o17 := (o17.alloc Z16).other (g' := y10.heap.size) (by omega) aa
        clear hx
        have hx := o18.lt
        replace o18 := (o18.alloc Z16).other (g' := y10.heap.size) (by omega) aa
        clear hx
        replace hL := (hL.alloc hL.size Z16).trans hbz
        have hzz : y10.heap.size ≤ (set16w (y10.alloc Z16) y10.heap.size aa).heap.size := by rw [set16w_size]; simp
        go_upto_region 18 with ((with_reducible refine fl_store on0 aa ?_ ?_ ?_); rfl; rfl)
        obtain ⟨y11, ev⟩ : ∃ v, v = set16w (y10.alloc Z16) y10.heap.size aa := ⟨_, rfl⟩
        rw [← ev] at o10 o11 o12 o13 o15 o16 o17 o18 o19 hL hzz ⊢
        obtain ⟨g19, eg⟩ : ∃ g, g = y10.heap.size := ⟨_, rfl⟩
        rw [← eg] at o19 hzz hz ⊢
        have l19 := hz
        replace hz := Nat.le_trans hz hzz
        clear ev eg on0 hbz hzz
        clear o15
        go_wp2_with (first | ((with_reducible refine fl_load o16 ?_ ?_); rfl))
        go_at_call 30
        refine (kbb.out _).mono ?_
        rintro e y12 ⟨rfl, h0⟩
        replace o10 := o10.keep h0
        replace o11 := o11.keep h0
        replace o12 := o12.keep h0
        replace o13 := o13.keep h0
        replace o16 := o16.keep h0
        replace o17 := o17.keep h0
        replace o18 := o18.keep h0
        replace o19 := o19.keep h0
        replace hL := hL.trans (h0.mono hL.size)
        replace hz := Nat.le_trans hz h0.size
        clear h0
        have on0 : O16 (y12.alloc Z16) v7.heap.size y12.heap.size 0 := O16.zero (own_Z16 hL.size)
        have o20 := on0.put bb
        have hbz := on0.below bb
        have hx := o10.lt
        replace o10 := (o10.alloc Z16).other (g' := y12.heap.size) (by omega) bb
        clear hx
        have hx := o11.lt
        replace o11 := (o11.alloc Z16).other (g' := y12.heap.size) (by omega) bb
        clear hx
        have hx := o12.lt
        replace o12 := (o12.alloc Z16).other (g' := y12.heap.size) (by omega) bb
        clear hx
        have hx := o13.lt
        replace o13 := (o13.alloc Z16).other (g' := y12.heap.size) (by omega) bb
        clear hx
        have hx := o16.lt
        replace o16 := (o16.alloc Z16).other (g' := y12.heap.size) (by omega) bb
        clear hx
        have hx := o17.lt
        replace o17 := (o17.alloc Z16).other (g' := y12.heap.size) (by omega) bb
        clear hx
        have hx := o18.lt
        replace o18 := (o18.alloc Z16).other (g' := y12.heap.size) (by omega) bb
        clear hx
        have hx := o19.lt
        replace o19 := (o19.alloc Z16).other (g' := y12.heap.size) (by omega) bb
        clear hx
        replace hL := (hL.alloc hL.size Z16).trans hbz
        have hzz : y12.heap.size ≤ (set16w (y12.alloc Z16) y12.heap.size bb).heap.size := by rw [set16w_size]; simp
        go_upto_region 19 with ((with_reducible refine fl_store on0 bb ?_ ?_ ?_); rfl; rfl)
        obtain ⟨y13, ev⟩ : ∃ v, v = set16w (y12.alloc Z16) y12.heap.size bb := ⟨_, rfl⟩
        rw [← ev] at o10 o11 o12 o13 o16 o17 o18 o19 o20 hL hzz ⊢
        obtain ⟨g20, eg⟩ : ∃ g, g = y12.heap.size := ⟨_, rfl⟩
        rw [← eg] at o20 hzz hz ⊢
        have l20 := hz
        replace hz := Nat.le_trans hz hzz
        clear ev eg on0 hbz hzz
        clear o16
        go_wp2_with (first | ((with_reducible refine fl_load o19 ?_ ?_); rfl) | ((with_reducible refine fl_load o20 ?_ ?_); rfl))
        go_at_call 29
        refine (ke1.out _).mono ?_
        rintro e y14 ⟨rfl, h0⟩
        replace o10 := o10.keep h0
        replace o11 := o11.keep h0
        replace o12 := o12.keep h0
        replace o13 := o13.keep h0
        replace o17 := o17.keep h0
        replace o18 := o18.keep h0
        replace o19 := o19.keep h0
        replace o20 := o20.keep h0
        replace hL := hL.trans (h0.mono hL.size)
        replace hz := Nat.le_trans hz h0.size
        clear h0
        have on0 : O16 (y14.alloc Z16) v7.heap.size y14.heap.size 0 := O16.zero (own_Z16 hL.size)
        have o21 := on0.put e1
        have hbz := on0.below e1
        have hx := o10.lt
        replace o10 := (o10.alloc Z16).other (g' := y14.heap.size) (by omega) e1
        clear hx
        have hx := o11.lt
        replace o11 := (o11.alloc Z16).other (g' := y14.heap.size) (by omega) e1
        clear hx
        have hx := o12.lt
        replace o12 := (o12.alloc Z16).other (g' := y14.heap.size) (by omega) e1
        clear hx
        have hx := o13.lt
        replace o13 := (o13.alloc Z16).other (g' := y14.heap.size) (by omega) e1
        clear hx
        have hx := o17.lt
        replace o17 := (o17.alloc Z16).other (g' := y14.heap.size) (by omega) e1
        clear hx
        have hx := o18.lt
        replace o18 := (o18.alloc Z16).other (g' := y14.heap.size) (by omega) e1
        clear hx
        have hx := o19.lt
        replace o19 := (o19.alloc Z16).other (g' := y14.heap.size) (by omega) e1
        clear hx
        have hx := o20.lt
        replace o20 := (o20.alloc Z16).other (g' := y14.heap.size) (by omega) e1
        clear hx
        replace hL := (hL.alloc hL.size Z16).trans hbz
        have hzz : y14.heap.size ≤ (set16w (y14.alloc Z16) y14.heap.size e1).heap.size := by rw [set16w_size]; simp
        go_upto_region 20 with ((with_reducible refine fl_store on0 e1 ?_ ?_ ?_); rfl; rfl)
        obtain ⟨y15, ev⟩ : ∃ v, v = set16w (y14.alloc Z16) y14.heap.size e1 := ⟨_, rfl⟩
        rw [← ev] at o10 o11 o12 o13 o17 o18 o19 o20 o21 hL hzz ⊢
        obtain ⟨g21, eg⟩ : ∃ g, g = y14.heap.size := ⟨_, rfl⟩
        rw [← eg] at o21 hzz hz ⊢
        have l21 := hz
        replace hz := Nat.le_trans hz hzz
        clear ev eg on0 hbz hzz
        go_wp2_with (first | ((with_reducible refine fl_load o17 ?_ ?_); rfl) | ((with_reducible refine fl_load o18 ?_ ?_); rfl))
        go_at_call 28
        refine (ks1.out _).mono ?_
        rintro e y16 ⟨rfl, h0⟩
        replace o10 := o10.keep h0
        replace o11 := o11.keep h0
        replace o12 := o12.keep h0
        replace o13 := o13.keep h0
        replace o17 := o17.keep h0
        replace o18 := o18.keep h0
        replace o19 := o19.keep h0
        replace o20 := o20.keep h0
        replace o21 := o21.keep h0
        replace hL := hL.trans (h0.mono hL.size)
        replace hz := Nat.le_trans hz h0.size
        clear h0
        have on0 : O16 (y16.alloc Z16) v7.heap.size y16.heap.size 0 := O16.zero (own_Z16 hL.size)
        have o22 := on0.put s1
        have hbz := on0.below s1
        have hx := o10.lt
        replace o10 := (o10.alloc Z16).other (g' := y16.heap.size) (by omega) s1
        clear hx
        have hx := o11.lt
        replace o11 := (o11.alloc Z16).other (g' := y16.heap.size) (by omega) s1
        clear hx
        have hx := o12.lt
        replace o12 := (o12.alloc Z16).other (g' := y16.heap.size) (by omega) s1
        clear hx
        have hx := o13.lt
        replace o13 := (o13.alloc Z16).other (g' := y16.heap.size) (by omega) s1
        clear hx
        have hx := o17.lt
        replace o17 := (o17.alloc Z16).other (g' := y16.heap.size) (by omega) s1
        clear hx
        have hx := o18.lt
        replace o18 := (o18.alloc Z16).other (g' := y16.heap.size) (by omega) s1
        clear hx
        have hx := o19.lt
        replace o19 := (o19.alloc Z16).other (g' := y16.heap.size) (by omega) s1
        clear hx
        have hx := o20.lt
        replace o20 := (o20.alloc Z16).other (g' := y16.heap.size) (by omega) s1
        clear hx
        have hx := o21.lt
        replace o21 := (o21.alloc Z16).other (g' := y16.heap.size) (by omega) s1
        clear hx
        replace hL := (hL.alloc hL.size Z16).trans hbz
        have hzz : y16.heap.size ≤ (set16w (y16.alloc Z16) y16.heap.size s1).heap.size := by rw [set16w_size]; simp
        go_upto_region 21 with ((with_reducible refine fl_store on0 s1 ?_ ?_ ?_); rfl; rfl)
        obtain ⟨y17, ev⟩ : ∃ v, v = set16w (y16.alloc Z16) y16.heap.size s1 := ⟨_, rfl⟩
        rw [← ev] at o10 o11 o12 o13 o17 o18 o19 o20 o21 o22 hL hzz ⊢
        obtain ⟨g22, eg⟩ : ∃ g, g = y16.heap.size := ⟨_, rfl⟩
        rw [← eg] at o22 hzz hz ⊢
        have l22 := hz
        replace hz := Nat.le_trans hz hzz
        clear ev eg on0 hbz hzz
        go_wp2_with (first | ((with_reducible refine fl_load o17 ?_ ?_); rfl) | ((with_reducible refine fl_load o18 ?_ ?_); rfl))
        go_at_call 29
        refine (kd1.out _).mono ?_
        rintro e y18 ⟨rfl, h0⟩
        replace o10 := o10.keep h0
        replace o11 := o11.keep h0
        replace o12 := o12.keep h0
        replace o13 := o13.keep h0
        replace o17 := o17.keep h0
        replace o18 := o18.keep h0
        replace o19 := o19.keep h0
        replace o20 := o20.keep h0
        replace o21 := o21.keep h0
        replace o22 := o22.keep h0
        replace hL := hL.trans (h0.mono hL.size)
        replace hz := Nat.le_trans hz h0.size
        clear h0
        have on0 : O16 (y18.alloc Z16) v7.heap.size y18.heap.size 0 := O16.zero (own_Z16 hL.size)
        have o23 := on0.put d1
        have hbz := on0.below d1
        have hx := o10.lt
        replace o10 := (o10.alloc Z16).other (g' := y18.heap.size) (by omega) d1
        clear hx
        have hx := o11.lt
        replace o11 := (o11.alloc Z16).other (g' := y18.heap.size) (by omega) d1
        clear hx
        have hx := o12.lt
        replace o12 := (o12.alloc Z16).other (g' := y18.heap.size) (by omega) d1
        clear hx
        have hx := o13.lt
        replace o13 := (o13.alloc Z16).other (g' := y18.heap.size) (by omega) d1
        clear hx
        have hx := o17.lt
        replace o17 := (o17.alloc Z16).other (g' := y18.heap.size) (by omega) d1
        clear hx
        have hx := o18.lt
        replace o18 := (o18.alloc Z16).other (g' := y18.heap.size) (by omega) d1
        clear hx
        have hx := o19.lt
        replace o19 := (o19.alloc Z16).other (g' := y18.heap.size) (by omega) d1
        clear hx
        have hx := o20.lt
        replace o20 := (o20.alloc Z16).other (g' := y18.heap.size) (by omega) d1
        clear hx
        have hx := o21.lt
        replace o21 := (o21.alloc Z16).other (g' := y18.heap.size) (by omega) d1
        clear hx
        have hx := o22.lt
        replace o22 := (o22.alloc Z16).other (g' := y18.heap.size) (by omega) d1
        clear hx
        replace hL := (hL.alloc hL.size Z16).trans hbz
        have hzz : y18.heap.size ≤ (set16w (y18.alloc Z16) y18.heap.size d1).heap.size := by rw [set16w_size]; simp
        go_upto_region 22 with ((with_reducible refine fl_store on0 d1 ?_ ?_ ?_); rfl; rfl)
        obtain ⟨y19, ev⟩ : ∃ v, v = set16w (y18.alloc Z16) y18.heap.size d1 := ⟨_, rfl⟩
        rw [← ev] at o10 o11 o12 o13 o17 o18 o19 o20 o21 o22 o23 hL hzz ⊢
        obtain ⟨g23, eg⟩ : ∃ g, g = y18.heap.size := ⟨_, rfl⟩
        rw [← eg] at o23 hzz hz ⊢
        have l23 := hz
        replace hz := Nat.le_trans hz hzz
        clear ev eg on0 hbz hzz
        clear o17
        clear o18
        go_wp2_with (first | ((with_reducible refine fl_load o22 ?_ ?_); rfl))
        go_at_call 30
        refine (kx5.out _).mono ?_
        rintro e y20 ⟨rfl, h0⟩
        replace o10 := o10.keep h0
        replace o11 := o11.keep h0
        replace o12 := o12.keep h0
        replace o13 := o13.keep h0
        replace o19 := o19.keep h0
        replace o20 := o20.keep h0
        replace o21 := o21.keep h0
        replace o22 := o22.keep h0
        replace o23 := o23.keep h0
        replace hL := hL.trans (h0.mono hL.size)
        replace hz := Nat.le_trans hz h0.size
        clear h0
        clear o22
        have on0 := o12
        replace o12 := on0.put x5
        have hbz := on0.below x5
        replace o10 := o10.other (g' := g12) (by omega) x5
        replace o11 := o11.other (g' := g12) (by omega) x5
        replace o13 := o13.other (g' := g12) (by omega) x5
        replace o19 := o19.other (g' := g12) (by omega) x5
        replace o20 := o20.other (g' := g12) (by omega) x5
        replace o21 := o21.other (g' := g12) (by omega) x5
        replace o23 := o23.other (g' := g12) (by omega) x5
        replace hL := hL.trans hbz
        have hzz : (set16w y20 g12 x5).heap.size = y20.heap.size := set16w_size _ _ _
        go_upto_region 23 with ((with_reducible refine fl_store on0 x5 ?_ ?_ ?_); rfl; rfl)
        obtain ⟨y21, ev⟩ : ∃ v, v = set16w y20 g12 x5 := ⟨_, rfl⟩
        rw [← ev] at o10 o11 o12 o13 o19 o20 o21 o23 hL hzz ⊢
        rw [← hzz] at hz
        clear ev on0 hbz hzz
        have o9k := o9.keep hL
        refine wp_region_inv 5 [101, 102, 103, 104, 105] [.val (fv X), .val (fv d1), .val (fv d1), .val (fv dd), .val (fv z5)] (fun wz => Below y21.heap.size y21 wz) (by kernel_rfl) (by kernel_rfl) (fun wz wz' hz hb => hz.trans (hb.mono hz.size)) ((Below.refl _ _).drew) (fun u => by simp only [puts, List.foldl_cons, List.foldl_nil]; go_simp; exact rfl) ?_ ?_
        · simp only [List.take_succ_cons, List.take_zero]
          refine Obs.cons (fun u w hS hd => ?_) ?_
          · exact Gv.run (fv X) rfl (run_fload rfl rfl (o9k.keep hS)) rfl
          refine Obs.cons (fun u w hS hd => ?_) ?_
          · exact Gv.run (fv d1) rfl (run_fload rfl rfl (o23.keep hS)) rfl
          refine Obs.cons (fun u w hS hd => ?_) ?_
          · exact Gv.run (fv d1) rfl (run_fload rfl rfl (o23.keep hS)) rfl
          refine Obs.cons (fun u w hS hd => ?_) ?_
          · have d102 : u 102 = fv d1 := dep hd 1 rfl
            rw [d102]
            have d103 : u 103 = fv d1 := dep hd 2 rfl
            rw [d103]
            refine Gv.call 30 #[fv d1, fv d1] rfl (by go_simp) ((kdd.out w).mono ?_)
            rintro e w' ⟨rfl, hb⟩
            exact ⟨_, rfl, rfl, hb⟩
          refine Obs.cons (fun u w hS hd => ?_) ?_
          · have d101 : u 101 = fv X := dep hd 0 rfl
            rw [d101]
            have d104 : u 104 = fv dd := dep hd 3 rfl
            rw [d104]
            refine Gv.call 30 #[fv X, fv dd] rfl (by go_simp) ((kz5.out w).mono ?_)
            rintro e w' ⟨rfl, hb⟩
            exact ⟨_, rfl, rfl, hb⟩
          exact Obs.nil
        intro uy22 y22 hS hd
        have d105 : uy22 105 = fv z5 := hd 4 (by decide)
        rw [d105]
        replace o10 := o10.keep hS
        replace o11 := o11.keep hS
        replace o12 := o12.keep hS
        replace o13 := o13.keep hS
        replace o19 := o19.keep hS
        replace o20 := o20.keep hS
        replace o21 := o21.keep hS
        replace o23 := o23.keep hS
        replace hL := hL.trans (hS.mono hL.size)
        replace hz := Nat.le_trans hz hS.size
        clear hS hd d105
        simp only [List.drop_succ_cons, List.drop_zero]
        clear o9k
        clear o23
        have on0 := o13
        replace o13 := on0.put z5
        have hbz := on0.below z5
        replace o10 := o10.other (g' := g13) (by omega) z5
        replace o11 := o11.other (g' := g13) (by omega) z5
        replace o12 := o12.other (g' := g13) (by omega) z5
        replace o19 := o19.other (g' := g13) (by omega) z5
        replace o20 := o20.other (g' := g13) (by omega) z5
        replace o21 := o21.other (g' := g13) (by omega) z5
        replace hL := hL.trans hbz
        have hzz : (set16w y22 g13 z5).heap.size = y22.heap.size := set16w_size _ _ _
        go_upto_region 24 with ((with_reducible refine fl_store on0 z5 ?_ ?_ ?_); rfl; rfl)
        obtain ⟨y23, ev⟩ : ∃ v, v = set16w y22 g13 z5 := ⟨_, rfl⟩
        rw [← ev] at o10 o11 o12 o13 o19 o20 o21 hL hzz ⊢
        rw [← hzz] at hz
        clear ev on0 hbz hzz
        go_wp2_with (first | ((with_reducible refine fl_load o19 ?_ ?_); rfl) | ((with_reducible refine fl_load o20 ?_ ?_); rfl))
        go_at_call 30
        refine (kx4.out _).mono ?_
        rintro e y24 ⟨rfl, h0⟩
        replace o10 := o10.keep h0
        replace o11 := o11.keep h0
        replace o12 := o12.keep h0
        replace o13 := o13.keep h0
        replace o19 := o19.keep h0
        replace o20 := o20.keep h0
        replace o21 := o21.keep h0
        replace hL := hL.trans (h0.mono hL.size)
        replace hz := Nat.le_trans hz h0.size
        clear h0
        clear o20
        have on0 := o10
        replace o10 := on0.put x4
        have hbz := on0.below x4
        replace o11 := o11.other (g' := g10) (by omega) x4
        replace o12 := o12.other (g' := g10) (by omega) x4
        replace o13 := o13.other (g' := g10) (by omega) x4
        replace o19 := o19.other (g' := g10) (by omega) x4
        replace o21 := o21.other (g' := g10) (by omega) x4
        replace hL := hL.trans hbz
        have hzz : (set16w y24 g10 x4).heap.size = y24.heap.size := set16w_size _ _ _
        go_upto_region 25 with ((with_reducible refine fl_store on0 x4 ?_ ?_ ?_); rfl; rfl)
        obtain ⟨y25, ev⟩ : ∃ v, v = set16w y24 g10 x4 := ⟨_, rfl⟩
        rw [← ev] at o10 o11 o12 o13 o19 o21 hL hzz ⊢
        rw [← hzz] at hz
        clear ev on0 hbz hzz
        go_wp2_with fail
        go_at_call 26
        refine (KI1.out _).mono ?_
        rintro e y26 ⟨rfl, h0⟩
        replace o10 := o10.keep h0
        replace o11 := o11.keep h0
        replace o12 := o12.keep h0
        replace o13 := o13.keep h0
        replace o19 := o19.keep h0
        replace o21 := o21.keep h0
        replace hL := hL.trans (h0.mono hL.size)
        replace hz := Nat.le_trans hz h0.size
        clear h0
        go_wp2_with fail
        go_at_call 26
        refine (KI2.out _).mono ?_
        rintro e y27 ⟨rfl, h0⟩
        replace o10 := o10.keep h0
        replace o11 := o11.keep h0
        replace o12 := o12.keep h0
        replace o13 := o13.keep h0
        replace o19 := o19.keep h0
        replace o21 := o21.keep h0
        replace hL := hL.trans (h0.mono hL.size)
        replace hz := Nat.le_trans hz h0.size
        clear h0
        go_wp2_with fail
        go_at_call 28
        refine (KI3.out _).mono ?_
        rintro e y28 ⟨rfl, h0⟩
        replace o10 := o10.keep h0
        replace o11 := o11.keep h0
        replace o12 := o12.keep h0
        replace o13 := o13.keep h0
        replace o19 := o19.keep h0
        replace o21 := o21.keep h0
        replace hL := hL.trans (h0.mono hL.size)
        replace hz := Nat.le_trans hz h0.size
        clear h0
        have on0 : O16 (y28.alloc Z16) v7.heap.size y28.heap.size 0 := O16.zero (own_Z16 hL.size)
        have o24 := on0.put nc
        have hbz := on0.below nc
        have hx := o10.lt
        replace o10 := (o10.alloc Z16).other (g' := y28.heap.size) (by omega) nc
        clear hx
        have hx := o11.lt
        replace o11 := (o11.alloc Z16).other (g' := y28.heap.size) (by omega) nc
        clear hx
        have hx := o12.lt
        replace o12 := (o12.alloc Z16).other (g' := y28.heap.size) (by omega) nc
        clear hx
        have hx := o13.lt
        replace o13 := (o13.alloc Z16).other (g' := y28.heap.size) (by omega) nc
        clear hx
        have hx := o19.lt
        replace o19 := (o19.alloc Z16).other (g' := y28.heap.size) (by omega) nc
        clear hx
        have hx := o21.lt
        replace o21 := (o21.alloc Z16).other (g' := y28.heap.size) (by omega) nc
        clear hx
        replace hL := (hL.alloc hL.size Z16).trans hbz
        have hzz : y28.heap.size ≤ (set16w (y28.alloc Z16) y28.heap.size nc).heap.size := by rw [set16w_size]; simp
        go_upto_region 26 with ((with_reducible refine fl_store on0 nc ?_ ?_ ?_); rfl; rfl)
        obtain ⟨y29, ev⟩ : ∃ v, v = set16w (y28.alloc Z16) y28.heap.size nc := ⟨_, rfl⟩
        rw [← ev] at o10 o11 o12 o13 o19 o21 o24 hL hzz ⊢
        obtain ⟨g24, eg⟩ : ∃ g, g = y28.heap.size := ⟨_, rfl⟩
        rw [← eg] at o24 hzz hz ⊢
        have l24 := hz
        replace hz := Nat.le_trans hz hzz
        clear ev eg on0 hbz hzz
        refine wp_region_inv 7 [112, 113, 114, 115, 116, 117, 118] [.val (fv e1), .val (fv aa), .val (fv nc), .val (fv e1), .val (fv ce), .val (fv t3), .val (fv z4)] (fun wz => Below y29.heap.size y29 wz) (by kernel_rfl) (by kernel_rfl) (fun wz wz' hz hb => hz.trans (hb.mono hz.size)) ((Below.refl _ _).drew) (fun u => by simp only [puts, List.foldl_cons, List.foldl_nil]; go_simp; exact rfl) ?_ ?_
        · simp only [List.take_succ_cons, List.take_zero]
          refine Obs.cons (fun u w hS hd => ?_) ?_
          · exact Gv.run (fv e1) rfl (run_fload rfl rfl (o21.keep hS)) rfl
          refine Obs.cons (fun u w hS hd => ?_) ?_
          · exact Gv.run (fv aa) rfl (run_fload rfl rfl (o19.keep hS)) rfl
          refine Obs.cons (fun u w hS hd => ?_) ?_
          · exact Gv.run (fv nc) rfl (run_fload rfl rfl (o24.keep hS)) rfl
          refine Obs.cons (fun u w hS hd => ?_) ?_
          · exact Gv.run (fv e1) rfl (run_fload rfl rfl (o21.keep hS)) rfl
          refine Obs.cons (fun u w hS hd => ?_) ?_
          · have d114 : u 114 = fv nc := dep hd 2 rfl
            rw [d114]
            have d115 : u 115 = fv e1 := dep hd 3 rfl
            rw [d115]
            refine Gv.call 30 #[fv nc, fv e1] rfl (by go_simp) ((kce.out w).mono ?_)
            rintro e w' ⟨rfl, hb⟩
            exact ⟨_, rfl, rfl, hb⟩
          refine Obs.cons (fun u w hS hd => ?_) ?_
          · have d113 : u 113 = fv aa := dep hd 1 rfl
            rw [d113]
            have d116 : u 116 = fv ce := dep hd 4 rfl
            rw [d116]
            refine Gv.call 28 #[fv aa, fv ce] rfl (by go_simp) ((kt3.out w).mono ?_)
            rintro e w' ⟨rfl, hb⟩
            exact ⟨_, rfl, rfl, hb⟩
          refine Obs.cons (fun u w hS hd => ?_) ?_
          · have d112 : u 112 = fv e1 := dep hd 0 rfl
            rw [d112]
            have d117 : u 117 = fv t3 := dep hd 5 rfl
            rw [d117]
            refine Gv.call 30 #[fv e1, fv t3] rfl (by go_simp) ((kz4.out w).mono ?_)
            rintro e w' ⟨rfl, hb⟩
            exact ⟨_, rfl, rfl, hb⟩
          exact Obs.nil
        intro uy30 y30 hS hd
        have d118 : uy30 118 = fv z4 := hd 6 (by decide)
        rw [d118]
        replace o10 := o10.keep hS
        replace o11 := o11.keep hS
        replace o12 := o12.keep hS
        replace o13 := o13.keep hS
        replace o19 := o19.keep hS
        replace o21 := o21.keep hS
        replace o24 := o24.keep hS
        replace hL := hL.trans (hS.mono hL.size)
        replace hz := Nat.le_trans hz hS.size
        clear hS hd d118
        simp only [List.drop_succ_cons, List.drop_zero]
        clear o19
        clear o21
        clear o24
        have on0 := o11
        replace o11 := on0.put z4
        have hbz := on0.below z4
        replace o10 := o10.other (g' := g11) (by omega) z4
        replace o12 := o12.other (g' := g11) (by omega) z4
        replace o13 := o13.other (g' := g11) (by omega) z4
        replace hL := hL.trans hbz
        have hzz : (set16w y30 g11 z4).heap.size = y30.heap.size := set16w_size _ _ _
        go_upto_region 27 with ((with_reducible refine fl_store on0 z4 ?_ ?_ ?_); rfl; rfl)
        obtain ⟨y31, ev⟩ : ∃ v, v = set16w y30 g11 z4 := ⟨_, rfl⟩
        rw [← ev] at o10 o11 o12 o13 hL hzz ⊢
        rw [← hzz] at hz
        clear ev on0 hbz hzz
        go_wp2_with fail
        go_at_call 27
        refine (KB.out _ hL).mono ?_
        rintro e y32 ⟨rfl, h0⟩
        replace o10 := o10.keep h0
        replace o11 := o11.keep h0
        replace o12 := o12.keep h0
        replace o13 := o13.keep h0
        replace hL := hL.trans (h0.mono hL.size)
        replace hz := Nat.le_trans hz h0.size
        clear h0
        go_upto_region 28 with fail
        have b10 := o10.drew
        have b11 := o11.drew
        have b12 := o12.drew
        have b13 := o13.drew
        have c13 := b13.other (g' := g10) (by omega) x5
        refine wp_region_late 5 4 [some 123, some 124, some 125, some 126, none] [fv x5, fv z5, fv x4, fv z4, undef] [1] (fun b => cond b (set16w y32.drew g10 x5) y32.drew) (by kernel_rfl) (by kernel_rfl) rfl (fun u => by simp only [List.filterMap_cons, List.filterMap_nil, id, puts, List.foldl_cons, List.foldl_nil]; go_simp; exact rfl) ?_ ?_
        · simp only [List.take_succ_cons, List.take_zero]
          refine ObsL.cons (fun u hd => ?_) ?_
          · exact ⟨rfl, fun b hb => match b, hb with | false, _ => run_fload rfl rfl b12 | true, hb => absurd (hb rfl) (by decide)⟩
          refine ObsL.cons (fun u hd => ?_) ?_
          · exact ⟨rfl, fun b _ => match b with | false => run_fload rfl rfl b13 | true => run_fload rfl rfl c13⟩
          refine ObsL.cons (fun u hd => ?_) ?_
          · exact ⟨rfl, fun b hb => match b, hb with | false, _ => run_fload rfl rfl b10 | true, hb => absurd (hb rfl) (by decide)⟩
          refine ObsL.cons (fun u hd => ?_) ?_
          · exact ⟨rfl, fun b hb => match b, hb with | false, _ => run_fload rfl rfl b11 | true, hb => absurd (hb rfl) (by decide)⟩
          refine ObsL.cons (fun u hd => ?_) ?_
          · have d0 : u 123 = fv x5 := depL hd 0 rfl 123 rfl
            rw [d0]
            exact ⟨rfl, run_fstore rfl rfl rfl b10⟩
          exact ObsL.nil
        intro uy33 hd
        have d123 : uy33 123 = fv x5 := hd 0 (by decide) 123 rfl
        have d124 : uy33 124 = fv z5 := hd 1 (by decide) 124 rfl
        have d125 : uy33 125 = fv x4 := hd 2 (by decide) 125 rfl
        have d126 : uy33 126 = fv z4 := hd 3 (by decide) 126 rfl
        rw [d123, d124, d125, d126]
        clear hd c13 d123 d124 d125 d126
        simp only [List.drop_succ_cons, List.drop_zero]
        show wpList _ _ _ _ _ (set16w y32.drew g10 x5)
        obtain ⟨y33, ev⟩ : ∃ v, v = set16w y32.drew g10 x5 := ⟨_, rfl⟩
        have hzz : (set16w y32.drew g10 x5).heap.size = y32.heap.size := set16w_size _ _ _
        replace o10 := b10.put x5
        replace o11 := o11.drew.other (g' := g10) (by omega) x5
        replace o12 := o12.drew.other (g' := g10) (by omega) x5
        replace o13 := o13.drew.other (g' := g10) (by omega) x5
        replace hL := hL.drew.trans (b10.below x5)
        rw [← ev] at o10 o11 o12 o13 hL hzz ⊢
        rw [← hzz] at hz
        clear ev hzz b10 b11 b12 b13
        have b11 := o11
        replace o11 := b11.put z5
        have hbz := b11.below z5
        replace o10 := o10.other (g' := g11) (by omega) z5
        replace o12 := o12.other (g' := g11) (by omega) z5
        replace o13 := o13.other (g' := g11) (by omega) z5
        replace hL := hL.trans hbz
        clear hbz
        have b12 := o12
        replace o12 := b12.put x4
        have hbz := b12.below x4
        replace o10 := o10.other (g' := g12) (by omega) x4
        replace o11 := o11.other (g' := g12) (by omega) x4
        replace o13 := o13.other (g' := g12) (by omega) x4
        replace hL := hL.trans hbz
        clear hbz
        have b13 := o13
        replace o13 := b13.put z4
        have hbz := b13.below z4
        replace o10 := o10.other (g' := g13) (by omega) z4
        replace o11 := o11.other (g' := g13) (by omega) z4
        replace o12 := o12.other (g' := g13) (by omega) z4
        replace hL := hL.trans hbz
        clear hbz
        have hzz : (set16w (set16w (set16w (y33) g11 z5) g12 x4) g13 z4).heap.size = y33.heap.size := by rw [set16w_size, set16w_size, set16w_size]
        go_wp2_with (first | ((with_reducible refine fl_store b11 z5 ?_ ?_ ?_); rfl; rfl) | ((with_reducible refine fl_store b12 x4 ?_ ?_ ?_); rfl; rfl) | ((with_reducible refine fl_store b13 z4 ?_ ?_ ?_); rfl; rfl))
        clear hzz b11 b12 b13
        go_roundw
        case rel => exact ⟨j, 254 - j + 1, by omega, rfl, by rw [hfin.out]; exact o10, by rw [hfin.out]; exact o11, by rw [hfin.out]; exact o12, by rw [hfin.out]; exact o13, hL⟩
        case measure => simp [intOf] <;> omega
      · have hb0 : sbit K j = 0 := by have := Nat.mod_lt (K / 2 ^ j) (show 0 < 2 by decide); unfold sbit at hbit ⊢; omega
        have hb : kbit K j = false := decide_eq_false hbit
        rw [hb0] at KB
        replace hst := HST.out
        rw [hb] at hst
        clear HST hb hbit
        have hfin : ladN X K (254 - j + 1) = (⟨(mlN (mlN (adN p q) (adN p q)) (mlN (sbN p q) (sbN p q))), (mlN (sbN (mlN (adN p q) (adN p q)) (mlN (sbN p q) (sbN p q))) (adN (mlN (adN p q) (adN p q)) (mlN 121665 (sbN (mlN (adN p q) (adN p q)) (mlN (sbN p q) (sbN p q)))))), (mlN (adN (mlN (sbN r s) (adN p q)) (mlN (adN r s) (sbN p q))) (adN (mlN (sbN r s) (adN p q)) (mlN (adN r s) (sbN p q)))), (mlN X (mlN (sbN (mlN (sbN r s) (adN p q)) (mlN (adN r s) (sbN p q))) (sbN (mlN (sbN r s) (adN p q)) (mlN (adN r s) (sbN p q)))))⟩ : SN) := by rw [hst]; rfl
        rw [← HNC.out] at hfin
        clear hst
        have ha : adN p q < P25 := adN_lt _ _
        have ka := fun w => lAdd hp hq w
        generalize adN p q = a at *
        replace ka := Lib.hid ka
        have hb : sbN p q < P25 := sbN_lt _ _
        have kb := fun w => lSub hp hq w
        generalize sbN p q = b at *
        replace kb := Lib.hid kb
        have ht1 : sbN r s < P25 := sbN_lt _ _
        have kt1 := fun w => lSub hr hs w
        generalize sbN r s = t1 at *
        replace kt1 := Lib.hid kt1
        have hda : mlN t1 a < P25 := mlN_lt _ _
        have kda := fun w => lMul ht1 ha w
        generalize mlN t1 a = da at *
        replace kda := Lib.hid kda
        have ht2 : adN r s < P25 := adN_lt _ _
        have kt2 := fun w => lAdd hr hs w
        generalize adN r s = t2 at *
        replace kt2 := Lib.hid kt2
        have hcb : mlN t2 b < P25 := mlN_lt _ _
        have kcb := fun w => lMul ht2 hb w
        generalize mlN t2 b = cb at *
        replace kcb := Lib.hid kcb
        have haa : mlN a a < P25 := mlN_lt _ _
        have kaa := fun w => lMul ha ha w
        generalize mlN a a = aa at *
        replace kaa := Lib.hid kaa
        have hbb : mlN b b < P25 := mlN_lt _ _
        have kbb := fun w => lMul hb hb w
        generalize mlN b b = bb at *
        replace kbb := Lib.hid kbb
        have he1 : sbN aa bb < P25 := sbN_lt _ _
        have ke1 := fun w => lSub haa hbb w
        generalize sbN aa bb = e1 at *
        replace ke1 := Lib.hid ke1
        have hs1 : adN da cb < P25 := adN_lt _ _
        have ks1 := fun w => lAdd hda hcb w
        generalize adN da cb = s1 at *
        replace ks1 := Lib.hid ks1
        have hd1 : sbN da cb < P25 := sbN_lt _ _
        have kd1 := fun w => lSub hda hcb w
        generalize sbN da cb = d1 at *
        replace kd1 := Lib.hid kd1
        have hx5 : mlN s1 s1 < P25 := mlN_lt _ _
        have kx5 := fun w => lMul hs1 hs1 w
        generalize mlN s1 s1 = x5 at *
        replace kx5 := Lib.hid kx5
        have hdd : mlN d1 d1 < P25 := mlN_lt _ _
        have kdd := fun w => lMul hd1 hd1 w
        generalize mlN d1 d1 = dd at *
        replace kdd := Lib.hid kdd
        have hz5 : mlN X dd < P25 := mlN_lt _ _
        have kz5 := fun w => lMul hXP hdd w
        generalize mlN X dd = z5 at *
        replace kz5 := Lib.hid kz5
        have hx4 : mlN aa bb < P25 := mlN_lt _ _
        have kx4 := fun w => lMul haa hbb w
        generalize mlN aa bb = x4 at *
        replace kx4 := Lib.hid kx4
        have hce : mlN nc e1 < P25 := mlN_lt _ _
        have kce := fun w => lMul hnc he1 w
        generalize mlN nc e1 = ce at *
        replace kce := Lib.hid kce
        have ht3 : adN aa ce < P25 := adN_lt _ _
        have kt3 := fun w => lAdd haa hce w
        generalize adN aa ce = t3 at *
        replace kt3 := Lib.hid kt3
        have hz4 : mlN e1 t3 < P25 := mlN_lt _ _
        have kz4 := fun w => lMul he1 ht3 w
        generalize mlN e1 t3 = z4 at *
        replace kz4 := Lib.hid kz4
        replace hfin := Lib.hid hfin
        clear ha hb ht1 hda ht2 hcb haa hbb he1 hs1 hd1 hx5 hdd hz5 hx4 hce ht3 hz4
        clear hp hq hr hs
        obtain ⟨r0, er0⟩ : ∃ r, r = wr.heap.size := ⟨_, rfl⟩
        have hz : r0 ≤ wr.heap.size := Nat.le_of_eq er0
        have l10 : g10 < r0 := by have := o10.lt; omega
        have l11 : g11 < r0 := by have := o11.lt; omega
        have l12 : g12 < r0 := by have := o12.lt; omega
        have l13 : g13 < r0 := by have := o13.lt; omega
        clear er0
        go_wp2_with fail
        go_at_call 27
        refine (KB.out _ hL).mono ?_
        rintro e y1 ⟨rfl, h0⟩
        replace o10 := o10.keep h0
        replace o11 := o11.keep h0
        replace o12 := o12.keep h0
        replace o13 := o13.keep h0
        replace hL := hL.trans (h0.mono hL.size)
        replace hz := Nat.le_trans hz h0.size
        clear h0
        go_wp2_with (first | ((with_reducible refine fl_load o10 ?_ ?_); rfl) | ((with_reducible refine fl_load o11 ?_ ?_); rfl))
        go_at_call 28
        refine (ka.out _).mono ?_
        rintro e y2 ⟨rfl, h0⟩
        replace o10 := o10.keep h0
        replace o11 := o11.keep h0
        replace o12 := o12.keep h0
        replace o13 := o13.keep h0
        replace hL := hL.trans (h0.mono hL.size)
        replace hz := Nat.le_trans hz h0.size
        clear h0
        have on0 : O16 (y2.alloc Z16) v7.heap.size y2.heap.size 0 := O16.zero (own_Z16 hL.size)
        have o15 := on0.put a
        have hbz := on0.below a
        have hx := o10.lt
        replace o10 := (o10.alloc Z16).other (g' := y2.heap.size) (by omega) a
        clear hx
        have hx := o11.lt
        replace o11 := (o11.alloc Z16).other (g' := y2.heap.size) (by omega) a
        clear hx
        have hx := o12.lt
        replace o12 := (o12.alloc Z16).other (g' := y2.heap.size) (by omega) a
        clear hx
        have hx := o13.lt
        replace o13 := (o13.alloc Z16).other (g' := y2.heap.size) (by omega) a
        clear hx
        replace hL := (hL.alloc hL.size Z16).trans hbz
        have hzz : y2.heap.size ≤ (set16w (y2.alloc Z16) y2.heap.size a).heap.size := by rw [set16w_size]; simp
        go_upto_region 14 with ((with_reducible refine fl_store on0 a ?_ ?_ ?_); rfl; rfl)
        obtain ⟨y3, ev⟩ : ∃ v, v = set16w (y2.alloc Z16) y2.heap.size a := ⟨_, rfl⟩
        rw [← ev] at o10 o11 o12 o13 o15 hL hzz ⊢
        obtain ⟨g15, eg⟩ : ∃ g, g = y2.heap.size := ⟨_, rfl⟩
        rw [← eg] at o15 hzz hz ⊢
        have l15 := hz
        replace hz := Nat.le_trans hz hzz
        clear ev eg on0 hbz hzz
        go_wp2_with (first | ((with_reducible refine fl_load o10 ?_ ?_); rfl) | ((with_reducible refine fl_load o11 ?_ ?_); rfl))
        go_at_call 29
        refine (kb.out _).mono ?_
        rintro e y4 ⟨rfl, h0⟩
        replace o10 := o10.keep h0
        replace o11 := o11.keep h0
        replace o12 := o12.keep h0
        replace o13 := o13.keep h0
        replace o15 := o15.keep h0
        replace hL := hL.trans (h0.mono hL.size)
        replace hz := Nat.le_trans hz h0.size
        clear h0
        have on0 : O16 (y4.alloc Z16) v7.heap.size y4.heap.size 0 := O16.zero (own_Z16 hL.size)
        have o16 := on0.put b
        have hbz := on0.below b
        have hx := o10.lt
        replace o10 := (o10.alloc Z16).other (g' := y4.heap.size) (by omega) b
        clear hx
        have hx := o11.lt
        replace o11 := (o11.alloc Z16).other (g' := y4.heap.size) (by omega) b
        clear hx
        have hx := o12.lt
        replace o12 := (o12.alloc Z16).other (g' := y4.heap.size) (by omega) b
        clear hx
        have hx := o13.lt
        replace o13 := (o13.alloc Z16).other (g' := y4.heap.size) (by omega) b
        clear hx
        have hx := o15.lt
        replace o15 := (o15.alloc Z16).other (g' := y4.heap.size) (by omega) b
        clear hx
        replace hL := (hL.alloc hL.size Z16).trans hbz
        have hzz : y4.heap.size ≤ (set16w (y4.alloc Z16) y4.heap.size b).heap.size := by rw [set16w_size]; simp
        go_upto_region 15 with ((with_reducible refine fl_store on0 b ?_ ?_ ?_); rfl; rfl)
        obtain ⟨y5, ev⟩ : ∃ v, v = set16w (y4.alloc Z16) y4.heap.size b := ⟨_, rfl⟩
        rw [← ev] at o10 o11 o12 o13 o15 o16 hL hzz ⊢
        obtain ⟨g16, eg⟩ : ∃ g, g = y4.heap.size := ⟨_, rfl⟩
        rw [← eg] at o16 hzz hz ⊢
        have l16 := hz
        replace hz := Nat.le_trans hz hzz
        clear ev eg on0 hbz hzz
        refine wp_region_box 7 [some 73, some 74, some 75, some 76, some 77, some 17, none] [.val (fv r), .val (fv s), .val (fv t1), .val (fv a), .val (fv da), .box 40 16, .holds 5 40 16 (dv16 da)] y5.heap.size (fun wz => Below y5.heap.size y5 wz) (by kernel_rfl) (by kernel_rfl)
          (fun _ _ h _ hb => h.trans hb) ((Below.refl _ _).drew) (Nat.le_refl _) (fun u => by simp only [List.filterMap_cons, List.filterMap_nil, id, puts, List.foldl_cons, List.foldl_nil]; go_simp; exact rfl) ?_ ?_
        · simp only [List.take_succ_cons, List.take_zero]
          refine ObsB.cons (fun u w L hL hS hBw hd => ?_) ?_
          · exact GB.run 73 rfl (fv r) rfl (run_fload rfl rfl (o12.keep hS)) rfl rfl
          refine ObsB.cons (fun u w L hL hS hBw hd => ?_) ?_
          · exact GB.run 74 rfl (fv s) rfl (run_fload rfl rfl (o13.keep hS)) rfl rfl
          refine ObsB.cons (fun u w L hL hS hBw hd => ?_) ?_
          · have d73 : u 73 = fv r := depB hd 0 rfl
            rw [d73]
            have d74 : u 74 = fv s := depB hd 1 rfl
            rw [d74]
            refine GB.call 75 rfl 29 #[fv r, fv s] rfl (by go_simp) rfl ((kt1.out w).mono ?_)
            rintro e w' ⟨rfl, hb⟩
            exact ⟨_, rfl, rfl, hb⟩
          refine ObsB.cons (fun u w L hL hS hBw hd => ?_) ?_
          · exact GB.run 76 rfl (fv a) rfl (run_fload rfl rfl (o15.keep hS)) rfl rfl
          refine ObsB.cons (fun u w L hL hS hBw hd => ?_) ?_
          · have d75 : u 75 = fv t1 := depB hd 2 rfl
            rw [d75]
            have d76 : u 76 = fv a := depB hd 3 rfl
            rw [d76]
            refine GB.call 77 rfl 30 #[fv t1, fv a] rfl (by go_simp) rfl ((kda.out w).mono ?_)
            rintro e w' ⟨rfl, hb⟩
            exact ⟨_, rfl, rfl, hb⟩
          refine ObsB.cons (fun u w L hL hS hBw hd => ?_) ?_
          · exact GB.alloc 17 rfl rfl #[.int .i64 0, .int .i64 0, .int .i64 0, .int .i64 0, .int .i64 0, .int .i64 0, .int .i64 0, .int .i64 0, .int .i64 0, .int .i64 0, .int .i64 0, .int .i64 0, .int .i64 0, .int .i64 0, .int .i64 0, .int .i64 0] 40 16 (fun _ => .int .i64 0) rfl rfl (by go_simp) hBw (by decide) rfl
          refine ObsB.cons (fun u w L hL hS hBw hd => ?_) ?_
          · have d77 : u 77 = fv da := depB hd 4 rfl
            obtain ⟨g, fg, e17, o17⟩ : (Fact.box 40 16).ok y5.heap.size [some 73, some 74, some 75, some 76, some 77, some 17, none] 5 u w L := depB hd 5 rfl
            exact GB.store rfl 5 g 40 16 (dv16 da) rfl rfl rfl e17 (run_fstore rfl (by exact e17) (by exact d77) o17) (only16 w g da) (put16 o17 da)
          exact ObsB.nil
        intro uy6 y6 hS hd
        obtain ⟨g17, eg, o17⟩ : (Fact.holds 5 40 16 (dv16 da)).ok y5.heap.size [some 73, some 74, some 75, some 76, some 77, some 17, none] 6 uy6 y6 (fun _ => true) := hd 6 (by decide)
        replace eg : uy6 17 = .pointer (some ⟨g17, 0, none⟩) := eg
        replace o17 : O16 y6 y5.heap.size g17 da := o17
        have l17 := Nat.le_trans hz o17.ge
        replace o17 := o17.mono hL.size
        replace o10 := o10.keep hS
        replace o11 := o11.keep hS
        replace o12 := o12.keep hS
        replace o13 := o13.keep hS
        replace o15 := o15.keep hS
        replace o16 := o16.keep hS
        replace hL := hL.trans (hS.mono hL.size)
        replace hz := Nat.le_trans hz hS.size
        rw [eg]
        clear hS hd eg
        simp only [List.drop_succ_cons, List.drop_zero]
        go_upto_region 16 with fail
        refine wp_region_box 7 [some 78, some 79, some 80, some 81, some 82, some 18, none] [.val (fv r), .val (fv s), .val (fv t2), .val (fv b), .val (fv cb), .box 40 16, .holds 5 40 16 (dv16 cb)] y6.heap.size (fun wz => Below y6.heap.size y6 wz) (by kernel_rfl) (by kernel_rfl)
          (fun _ _ h _ hb => h.trans hb) ((Below.refl _ _).drew) (Nat.le_refl _) (fun u => by simp only [List.filterMap_cons, List.filterMap_nil, id, puts, List.foldl_cons, List.foldl_nil]; go_simp; exact rfl) ?_ ?_
        · simp only [List.take_succ_cons, List.take_zero]
          refine ObsB.cons (fun u w L hL hS hBw hd => ?_) ?_
          · exact GB.run 78 rfl (fv r) rfl (run_fload rfl rfl (o12.keep hS)) rfl rfl
          refine ObsB.cons (fun u w L hL hS hBw hd => ?_) ?_
          · exact GB.run 79 rfl (fv s) rfl (run_fload rfl rfl (o13.keep hS)) rfl rfl
          refine ObsB.cons (fun u w L hL hS hBw hd => ?_) ?_
          · have d78 : u 78 = fv r := depB hd 0 rfl
            rw [d78]
            have d79 : u 79 = fv s := depB hd 1 rfl
            rw [d79]
            refine GB.call 80 rfl 28 #[fv r, fv s] rfl (by go_simp) rfl ((kt2.out w).mono ?_)
            rintro e w' ⟨rfl, hb⟩
            exact ⟨_, rfl, rfl, hb⟩
          refine ObsB.cons (fun u w L hL hS hBw hd => ?_) ?_
          · exact GB.run 81 rfl (fv b) rfl (run_fload rfl rfl (o16.keep hS)) rfl rfl
          refine ObsB.cons (fun u w L hL hS hBw hd => ?_) ?_
          · have d80 : u 80 = fv t2 := depB hd 2 rfl
            rw [d80]
            have d81 : u 81 = fv b := depB hd 3 rfl
            rw [d81]
            refine GB.call 82 rfl 30 #[fv t2, fv b] rfl (by go_simp) rfl ((kcb.out w).mono ?_)
            rintro e w' ⟨rfl, hb⟩
            exact ⟨_, rfl, rfl, hb⟩
          refine ObsB.cons (fun u w L hL hS hBw hd => ?_) ?_
          · exact GB.alloc 18 rfl rfl #[.int .i64 0, .int .i64 0, .int .i64 0, .int .i64 0, .int .i64 0, .int .i64 0, .int .i64 0, .int .i64 0, .int .i64 0, .int .i64 0, .int .i64 0, .int .i64 0, .int .i64 0, .int .i64 0, .int .i64 0, .int .i64 0] 40 16 (fun _ => .int .i64 0) rfl rfl (by go_simp) hBw (by decide) rfl
          refine ObsB.cons (fun u w L hL hS hBw hd => ?_) ?_
          · have d82 : u 82 = fv cb := depB hd 4 rfl
            obtain ⟨g, fg, e18, o18⟩ : (Fact.box 40 16).ok y6.heap.size [some 78, some 79, some 80, some 81, some 82, some 18, none] 5 u w L := depB hd 5 rfl
            exact GB.store rfl 5 g 40 16 (dv16 cb) rfl rfl rfl e18 (run_fstore rfl (by exact e18) (by exact d82) o18) (only16 w g cb) (put16 o18 cb)
          exact ObsB.nil
        intro uy7 y7 hS hd
        obtain ⟨g18, eg, o18⟩ : (Fact.holds 5 40 16 (dv16 cb)).ok y6.heap.size [some 78, some 79, some 80, some 81, some 82, some 18, none] 6 uy7 y7 (fun _ => true) := hd 6 (by decide)
        replace eg : uy7 18 = .pointer (some ⟨g18, 0, none⟩) := eg
        replace o18 : O16 y7 y6.heap.size g18 cb := o18
        have l18 := Nat.le_trans hz o18.ge
        replace o18 := o18.mono hL.size
        replace o10 := o10.keep hS
        replace o11 := o11.keep hS
        replace o12 := o12.keep hS
        replace o13 := o13.keep hS
        replace o15 := o15.keep hS
        replace o16 := o16.keep hS
        replace o17 := o17.keep hS
        replace hL := hL.trans (hS.mono hL.size)
        replace hz := Nat.le_trans hz hS.size
        rw [eg]
        clear hS hd eg
        simp only [List.drop_succ_cons, List.drop_zero]
        go_wp2_with (first | ((with_reducible refine fl_load o15 ?_ ?_); rfl))
        go_at_call 30
        refine (kaa.out _).mono ?_
        rintro e y8 ⟨rfl, h0⟩
        replace o10 := o10.keep h0
        replace o11 := o11.keep h0
        replace o12 := o12.keep h0
        replace o13 := o13.keep h0
        replace o15 := o15.keep h0
        replace o16 := o16.keep h0
        replace o17 := o17.keep h0
        replace o18 := o18.keep h0
        replace hL := hL.trans (h0.mono hL.size)
        replace hz := Nat.le_trans hz h0.size
        clear h0
        have on0 : O16 (y8.alloc Z16) v7.heap.size y8.heap.size 0 := O16.zero (own_Z16 hL.size)
        have o19 := on0.put aa
        have hbz := on0.below aa
        have hx := o10.lt
        replace o10 := (o10.alloc Z16).other (g' := y8.heap.size) (by omega) aa
        clear hx
        have hx := o11.lt
        replace o11 := (o11.alloc Z16).other (g' := y8.heap.size) (by omega) aa
        clear hx
        have hx := o12.lt
        replace o12 := (o12.alloc Z16).other (g' := y8.heap.size) (by omega) aa
        clear hx
        have hx := o13.lt
        replace o13 := (o13.alloc Z16).other (g' := y8.heap.size) (by omega) aa
        clear hx
        have hx := o15.lt
        replace o15 := (o15.alloc Z16).other (g' := y8.heap.size) (by omega) aa
        clear hx
        have hx := o16.lt
        replace o16 := (o16.alloc Z16).other (g' := y8.heap.size) (by omega) aa
        clear hx
        have hx := o17.lt
        replace o17 := (o17.alloc Z16).other (g' := y8.heap.size) (by omega) aa
        clear hx
        have hx := o18.lt
        replace o18 := (o18.alloc Z16).other (g' := y8.heap.size) (by omega) aa
        clear hx
        replace hL := (hL.alloc hL.size Z16).trans hbz
        have hzz : y8.heap.size ≤ (set16w (y8.alloc Z16) y8.heap.size aa).heap.size := by rw [set16w_size]; simp
        go_upto_region 18 with ((with_reducible refine fl_store on0 aa ?_ ?_ ?_); rfl; rfl)
        obtain ⟨y9, ev⟩ : ∃ v, v = set16w (y8.alloc Z16) y8.heap.size aa := ⟨_, rfl⟩
        rw [← ev] at o10 o11 o12 o13 o15 o16 o17 o18 o19 hL hzz ⊢
        obtain ⟨g19, eg⟩ : ∃ g, g = y8.heap.size := ⟨_, rfl⟩
        rw [← eg] at o19 hzz hz ⊢
        have l19 := hz
        replace hz := Nat.le_trans hz hzz
        clear ev eg on0 hbz hzz
        clear o15
        go_wp2_with (first | ((with_reducible refine fl_load o16 ?_ ?_); rfl))
        go_at_call 30
        refine (kbb.out _).mono ?_
        rintro e y10 ⟨rfl, h0⟩
        replace o10 := o10.keep h0
        replace o11 := o11.keep h0
        replace o12 := o12.keep h0
        replace o13 := o13.keep h0
        replace o16 := o16.keep h0
        replace o17 := o17.keep h0
        replace o18 := o18.keep h0
        replace o19 := o19.keep h0
        replace hL := hL.trans (h0.mono hL.size)
        replace hz := Nat.le_trans hz h0.size
        clear h0
        have on0 : O16 (y10.alloc Z16) v7.heap.size y10.heap.size 0 := O16.zero (own_Z16 hL.size)
        have o20 := on0.put bb
        have hbz := on0.below bb
        have hx := o10.lt
        replace o10 := (o10.alloc Z16).other (g' := y10.heap.size) (by omega) bb
        clear hx
        have hx := o11.lt
        replace o11 := (o11.alloc Z16).other (g' := y10.heap.size) (by omega) bb
        clear hx
        have hx := o12.lt
        replace o12 := (o12.alloc Z16).other (g' := y10.heap.size) (by omega) bb
        clear hx
        have hx := o13.lt
        replace o13 := (o13.alloc Z16).other (g' := y10.heap.size) (by omega) bb
        clear hx
        have hx := o16.lt
        replace o16 := (o16.alloc Z16).other (g' := y10.heap.size) (by omega) bb
        clear hx
        have hx := o17.lt
        replace o17 := (o17.alloc Z16).other (g' := y10.heap.size) (by omega) bb
        clear hx
        have hx := o18.lt
        replace o18 := (o18.alloc Z16).other (g' := y10.heap.size) (by omega) bb
        clear hx
        have hx := o19.lt
        replace o19 := (o19.alloc Z16).other (g' := y10.heap.size) (by omega) bb
        clear hx
        replace hL := (hL.alloc hL.size Z16).trans hbz
        have hzz : y10.heap.size ≤ (set16w (y10.alloc Z16) y10.heap.size bb).heap.size := by rw [set16w_size]; simp
        go_upto_region 19 with ((with_reducible refine fl_store on0 bb ?_ ?_ ?_); rfl; rfl)
        obtain ⟨y11, ev⟩ : ∃ v, v = set16w (y10.alloc Z16) y10.heap.size bb := ⟨_, rfl⟩
        rw [← ev] at o10 o11 o12 o13 o16 o17 o18 o19 o20 hL hzz ⊢
        obtain ⟨g20, eg⟩ : ∃ g, g = y10.heap.size := ⟨_, rfl⟩
        rw [← eg] at o20 hzz hz ⊢
        have l20 := hz
        replace hz := Nat.le_trans hz hzz
        clear ev eg on0 hbz hzz
        clear o16
        go_wp2_with (first | ((with_reducible refine fl_load o19 ?_ ?_); rfl) | ((with_reducible refine fl_load o20 ?_ ?_); rfl))
        go_at_call 29
        refine (ke1.out _).mono ?_
        rintro e y12 ⟨rfl, h0⟩
        replace o10 := o10.keep h0
        replace o11 := o11.keep h0
        replace o12 := o12.keep h0
        replace o13 := o13.keep h0
        replace o17 := o17.keep h0
        replace o18 := o18.keep h0
        replace o19 := o19.keep h0
        replace o20 := o20.keep h0
        replace hL := hL.trans (h0.mono hL.size)
        replace hz := Nat.le_trans hz h0.size
        clear h0
        have on0 : O16 (y12.alloc Z16) v7.heap.size y12.heap.size 0 := O16.zero (own_Z16 hL.size)
        have o21 := on0.put e1
        have hbz := on0.below e1
        have hx := o10.lt
        replace o10 := (o10.alloc Z16).other (g' := y12.heap.size) (by omega) e1
        clear hx
        have hx := o11.lt
        replace o11 := (o11.alloc Z16).other (g' := y12.heap.size) (by omega) e1
        clear hx
        have hx := o12.lt
        replace o12 := (o12.alloc Z16).other (g' := y12.heap.size) (by omega) e1
        clear hx
        have hx := o13.lt
        replace o13 := (o13.alloc Z16).other (g' := y12.heap.size) (by omega) e1
        clear hx
        have hx := o17.lt
        replace o17 := (o17.alloc Z16).other (g' := y12.heap.size) (by omega) e1
        clear hx
        have hx := o18.lt
        replace o18 := (o18.alloc Z16).other (g' := y12.heap.size) (by omega) e1
        clear hx
        have hx := o19.lt
        replace o19 := (o19.alloc Z16).other (g' := y12.heap.size) (by omega) e1
        clear hx
        have hx := o20.lt
        replace o20 := (o20.alloc Z16).other (g' := y12.heap.size) (by omega) e1
        clear hx
        replace hL := (hL.alloc hL.size Z16).trans hbz
        have hzz : y12.heap.size ≤ (set16w (y12.alloc Z16) y12.heap.size e1).heap.size := by rw [set16w_size]; simp
        go_upto_region 20 with ((with_reducible refine fl_store on0 e1 ?_ ?_ ?_); rfl; rfl)
        obtain ⟨y13, ev⟩ : ∃ v, v = set16w (y12.alloc Z16) y12.heap.size e1 := ⟨_, rfl⟩
        rw [← ev] at o10 o11 o12 o13 o17 o18 o19 o20 o21 hL hzz ⊢
        obtain ⟨g21, eg⟩ : ∃ g, g = y12.heap.size := ⟨_, rfl⟩
        rw [← eg] at o21 hzz hz ⊢
        have l21 := hz
        replace hz := Nat.le_trans hz hzz
        clear ev eg on0 hbz hzz
        go_wp2_with (first | ((with_reducible refine fl_load o17 ?_ ?_); rfl) | ((with_reducible refine fl_load o18 ?_ ?_); rfl))
        go_at_call 28
        refine (ks1.out _).mono ?_
        rintro e y14 ⟨rfl, h0⟩
        replace o10 := o10.keep h0
        replace o11 := o11.keep h0
        replace o12 := o12.keep h0
        replace o13 := o13.keep h0
        replace o17 := o17.keep h0
        replace o18 := o18.keep h0
        replace o19 := o19.keep h0
        replace o20 := o20.keep h0
        replace o21 := o21.keep h0
        replace hL := hL.trans (h0.mono hL.size)
        replace hz := Nat.le_trans hz h0.size
        clear h0
        have on0 : O16 (y14.alloc Z16) v7.heap.size y14.heap.size 0 := O16.zero (own_Z16 hL.size)
        have o22 := on0.put s1
        have hbz := on0.below s1
        have hx := o10.lt
        replace o10 := (o10.alloc Z16).other (g' := y14.heap.size) (by omega) s1
        clear hx
        have hx := o11.lt
        replace o11 := (o11.alloc Z16).other (g' := y14.heap.size) (by omega) s1
        clear hx
        have hx := o12.lt
        replace o12 := (o12.alloc Z16).other (g' := y14.heap.size) (by omega) s1
        clear hx
        have hx := o13.lt
        replace o13 := (o13.alloc Z16).other (g' := y14.heap.size) (by omega) s1
        clear hx
        have hx := o17.lt
        replace o17 := (o17.alloc Z16).other (g' := y14.heap.size) (by omega) s1
        clear hx
        have hx := o18.lt
        replace o18 := (o18.alloc Z16).other (g' := y14.heap.size) (by omega) s1
        clear hx
        have hx := o19.lt
        replace o19 := (o19.alloc Z16).other (g' := y14.heap.size) (by omega) s1
        clear hx
        have hx := o20.lt
        replace o20 := (o20.alloc Z16).other (g' := y14.heap.size) (by omega) s1
        clear hx
        have hx := o21.lt
        replace o21 := (o21.alloc Z16).other (g' := y14.heap.size) (by omega) s1
        clear hx
        replace hL := (hL.alloc hL.size Z16).trans hbz
        have hzz : y14.heap.size ≤ (set16w (y14.alloc Z16) y14.heap.size s1).heap.size := by rw [set16w_size]; simp
        go_upto_region 21 with ((with_reducible refine fl_store on0 s1 ?_ ?_ ?_); rfl; rfl)
        obtain ⟨y15, ev⟩ : ∃ v, v = set16w (y14.alloc Z16) y14.heap.size s1 := ⟨_, rfl⟩
        rw [← ev] at o10 o11 o12 o13 o17 o18 o19 o20 o21 o22 hL hzz ⊢
        obtain ⟨g22, eg⟩ : ∃ g, g = y14.heap.size := ⟨_, rfl⟩
        rw [← eg] at o22 hzz hz ⊢
        have l22 := hz
        replace hz := Nat.le_trans hz hzz
        clear ev eg on0 hbz hzz
        go_wp2_with (first | ((with_reducible refine fl_load o17 ?_ ?_); rfl) | ((with_reducible refine fl_load o18 ?_ ?_); rfl))
        go_at_call 29
        refine (kd1.out _).mono ?_
        rintro e y16 ⟨rfl, h0⟩
        replace o10 := o10.keep h0
        replace o11 := o11.keep h0
        replace o12 := o12.keep h0
        replace o13 := o13.keep h0
        replace o17 := o17.keep h0
        replace o18 := o18.keep h0
        replace o19 := o19.keep h0
        replace o20 := o20.keep h0
        replace o21 := o21.keep h0
        replace o22 := o22.keep h0
        replace hL := hL.trans (h0.mono hL.size)
        replace hz := Nat.le_trans hz h0.size
        clear h0
        have on0 : O16 (y16.alloc Z16) v7.heap.size y16.heap.size 0 := O16.zero (own_Z16 hL.size)
        have o23 := on0.put d1
        have hbz := on0.below d1
        have hx := o10.lt
        replace o10 := (o10.alloc Z16).other (g' := y16.heap.size) (by omega) d1
        clear hx
        have hx := o11.lt
        replace o11 := (o11.alloc Z16).other (g' := y16.heap.size) (by omega) d1
        clear hx
        have hx := o12.lt
        replace o12 := (o12.alloc Z16).other (g' := y16.heap.size) (by omega) d1
        clear hx
        have hx := o13.lt
        replace o13 := (o13.alloc Z16).other (g' := y16.heap.size) (by omega) d1
        clear hx
        have hx := o17.lt
        replace o17 := (o17.alloc Z16).other (g' := y16.heap.size) (by omega) d1
        clear hx
        have hx := o18.lt
        replace o18 := (o18.alloc Z16).other (g' := y16.heap.size) (by omega) d1
        clear hx
        have hx := o19.lt
        replace o19 := (o19.alloc Z16).other (g' := y16.heap.size) (by omega) d1
        clear hx
        have hx := o20.lt
        replace o20 := (o20.alloc Z16).other (g' := y16.heap.size) (by omega) d1
        clear hx
        have hx := o21.lt
        replace o21 := (o21.alloc Z16).other (g' := y16.heap.size) (by omega) d1
        clear hx
        have hx := o22.lt
        replace o22 := (o22.alloc Z16).other (g' := y16.heap.size) (by omega) d1
        clear hx
        replace hL := (hL.alloc hL.size Z16).trans hbz
        have hzz : y16.heap.size ≤ (set16w (y16.alloc Z16) y16.heap.size d1).heap.size := by rw [set16w_size]; simp
        go_upto_region 22 with ((with_reducible refine fl_store on0 d1 ?_ ?_ ?_); rfl; rfl)
        obtain ⟨y17, ev⟩ : ∃ v, v = set16w (y16.alloc Z16) y16.heap.size d1 := ⟨_, rfl⟩
        rw [← ev] at o10 o11 o12 o13 o17 o18 o19 o20 o21 o22 o23 hL hzz ⊢
        obtain ⟨g23, eg⟩ : ∃ g, g = y16.heap.size := ⟨_, rfl⟩
        rw [← eg] at o23 hzz hz ⊢
        have l23 := hz
        replace hz := Nat.le_trans hz hzz
        clear ev eg on0 hbz hzz
        clear o17
        clear o18
        go_wp2_with (first | ((with_reducible refine fl_load o22 ?_ ?_); rfl))
        go_at_call 30
        refine (kx5.out _).mono ?_
        rintro e y18 ⟨rfl, h0⟩
        replace o10 := o10.keep h0
        replace o11 := o11.keep h0
        replace o12 := o12.keep h0
        replace o13 := o13.keep h0
        replace o19 := o19.keep h0
        replace o20 := o20.keep h0
        replace o21 := o21.keep h0
        replace o22 := o22.keep h0
        replace o23 := o23.keep h0
        replace hL := hL.trans (h0.mono hL.size)
        replace hz := Nat.le_trans hz h0.size
        clear h0
        clear o22
        have on0 := o12
        replace o12 := on0.put x5
        have hbz := on0.below x5
        replace o10 := o10.other (g' := g12) (by omega) x5
        replace o11 := o11.other (g' := g12) (by omega) x5
        replace o13 := o13.other (g' := g12) (by omega) x5
        replace o19 := o19.other (g' := g12) (by omega) x5
        replace o20 := o20.other (g' := g12) (by omega) x5
        replace o21 := o21.other (g' := g12) (by omega) x5
        replace o23 := o23.other (g' := g12) (by omega) x5
        replace hL := hL.trans hbz
        have hzz : (set16w y18 g12 x5).heap.size = y18.heap.size := set16w_size _ _ _
        go_upto_region 23 with ((with_reducible refine fl_store on0 x5 ?_ ?_ ?_); rfl; rfl)
        obtain ⟨y19, ev⟩ : ∃ v, v = set16w y18 g12 x5 := ⟨_, rfl⟩
        rw [← ev] at o10 o11 o12 o13 o19 o20 o21 o23 hL hzz ⊢
        rw [← hzz] at hz
        clear ev on0 hbz hzz
        have o9k := o9.keep hL
        refine wp_region_inv 5 [101, 102, 103, 104, 105] [.val (fv X), .val (fv d1), .val (fv d1), .val (fv dd), .val (fv z5)] (fun wz => Below y19.heap.size y19 wz) (by kernel_rfl) (by kernel_rfl) (fun wz wz' hz hb => hz.trans (hb.mono hz.size)) ((Below.refl _ _).drew) (fun u => by simp only [puts, List.foldl_cons, List.foldl_nil]; go_simp; exact rfl) ?_ ?_
        · simp only [List.take_succ_cons, List.take_zero]
          refine Obs.cons (fun u w hS hd => ?_) ?_
          · exact Gv.run (fv X) rfl (run_fload rfl rfl (o9k.keep hS)) rfl
          refine Obs.cons (fun u w hS hd => ?_) ?_
          · exact Gv.run (fv d1) rfl (run_fload rfl rfl (o23.keep hS)) rfl
          refine Obs.cons (fun u w hS hd => ?_) ?_
          · exact Gv.run (fv d1) rfl (run_fload rfl rfl (o23.keep hS)) rfl
          refine Obs.cons (fun u w hS hd => ?_) ?_
          · have d102 : u 102 = fv d1 := dep hd 1 rfl
            rw [d102]
            have d103 : u 103 = fv d1 := dep hd 2 rfl
            rw [d103]
            refine Gv.call 30 #[fv d1, fv d1] rfl (by go_simp) ((kdd.out w).mono ?_)
            rintro e w' ⟨rfl, hb⟩
            exact ⟨_, rfl, rfl, hb⟩
          refine Obs.cons (fun u w hS hd => ?_) ?_
          · have d101 : u 101 = fv X := dep hd 0 rfl
            rw [d101]
            have d104 : u 104 = fv dd := dep hd 3 rfl
            rw [d104]
            refine Gv.call 30 #[fv X, fv dd] rfl (by go_simp) ((kz5.out w).mono ?_)
            rintro e w' ⟨rfl, hb⟩
            exact ⟨_, rfl, rfl, hb⟩
          exact Obs.nil
        intro uy20 y20 hS hd
        have d105 : uy20 105 = fv z5 := hd 4 (by decide)
        rw [d105]
        replace o10 := o10.keep hS
        replace o11 := o11.keep hS
        replace o12 := o12.keep hS
        replace o13 := o13.keep hS
        replace o19 := o19.keep hS
        replace o20 := o20.keep hS
        replace o21 := o21.keep hS
        replace o23 := o23.keep hS
        replace hL := hL.trans (hS.mono hL.size)
        replace hz := Nat.le_trans hz hS.size
        clear hS hd d105
        simp only [List.drop_succ_cons, List.drop_zero]
        clear o9k
        clear o23
        have on0 := o13
        replace o13 := on0.put z5
        have hbz := on0.below z5
        replace o10 := o10.other (g' := g13) (by omega) z5
        replace o11 := o11.other (g' := g13) (by omega) z5
        replace o12 := o12.other (g' := g13) (by omega) z5
        replace o19 := o19.other (g' := g13) (by omega) z5
        replace o20 := o20.other (g' := g13) (by omega) z5
        replace o21 := o21.other (g' := g13) (by omega) z5
        replace hL := hL.trans hbz
        have hzz : (set16w y20 g13 z5).heap.size = y20.heap.size := set16w_size _ _ _
        go_upto_region 24 with ((with_reducible refine fl_store on0 z5 ?_ ?_ ?_); rfl; rfl)
        obtain ⟨y21, ev⟩ : ∃ v, v = set16w y20 g13 z5 := ⟨_, rfl⟩
        rw [← ev] at o10 o11 o12 o13 o19 o20 o21 hL hzz ⊢
        rw [← hzz] at hz
        clear ev on0 hbz hzz
        go_wp2_with (first | ((with_reducible refine fl_load o19 ?_ ?_); rfl) | ((with_reducible refine fl_load o20 ?_ ?_); rfl))
        go_at_call 30
        refine (kx4.out _).mono ?_
        rintro e y22 ⟨rfl, h0⟩
        replace o10 := o10.keep h0
        replace o11 := o11.keep h0
        replace o12 := o12.keep h0
        replace o13 := o13.keep h0
        replace o19 := o19.keep h0
        replace o20 := o20.keep h0
        replace o21 := o21.keep h0
        replace hL := hL.trans (h0.mono hL.size)
        replace hz := Nat.le_trans hz h0.size
        clear h0
        clear o20
        have on0 := o10
        replace o10 := on0.put x4
        have hbz := on0.below x4
        replace o11 := o11.other (g' := g10) (by omega) x4
        replace o12 := o12.other (g' := g10) (by omega) x4
        replace o13 := o13.other (g' := g10) (by omega) x4
        replace o19 := o19.other (g' := g10) (by omega) x4
        replace o21 := o21.other (g' := g10) (by omega) x4
        replace hL := hL.trans hbz
        have hzz : (set16w y22 g10 x4).heap.size = y22.heap.size := set16w_size _ _ _
        go_upto_region 25 with ((with_reducible refine fl_store on0 x4 ?_ ?_ ?_); rfl; rfl)
        obtain ⟨y23, ev⟩ : ∃ v, v = set16w y22 g10 x4 := ⟨_, rfl⟩
        rw [← ev] at o10 o11 o12 o13 o19 o21 hL hzz ⊢
        rw [← hzz] at hz
        clear ev on0 hbz hzz
        go_wp2_with fail
        go_at_call 26
        refine (KI1.out _).mono ?_
        rintro e y24 ⟨rfl, h0⟩
        replace o10 := o10.keep h0
        replace o11 := o11.keep h0
        replace o12 := o12.keep h0
        replace o13 := o13.keep h0
        replace o19 := o19.keep h0
        replace o21 := o21.keep h0
        replace hL := hL.trans (h0.mono hL.size)
        replace hz := Nat.le_trans hz h0.size
        clear h0
        go_wp2_with fail
        go_at_call 26
        refine (KI2.out _).mono ?_
        rintro e y25 ⟨rfl, h0⟩
        replace o10 := o10.keep h0
        replace o11 := o11.keep h0
        replace o12 := o12.keep h0
        replace o13 := o13.keep h0
        replace o19 := o19.keep h0
        replace o21 := o21.keep h0
        replace hL := hL.trans (h0.mono hL.size)
        replace hz := Nat.le_trans hz h0.size
        clear h0
        go_wp2_with fail
        go_at_call 28
        refine (KI3.out _).mono ?_
        rintro e y26 ⟨rfl, h0⟩
        replace o10 := o10.keep h0
        replace o11 := o11.keep h0
        replace o12 := o12.keep h0
        replace o13 := o13.keep h0
        replace o19 := o19.keep h0
        replace o21 := o21.keep h0
        replace hL := hL.trans (h0.mono hL.size)
        replace hz := Nat.le_trans hz h0.size
        clear h0
        have on0 : O16 (y26.alloc Z16) v7.heap.size y26.heap.size 0 := O16.zero (own_Z16 hL.size)
        have o24 := on0.put nc
        have hbz := on0.below nc
        have hx := o10.lt
        replace o10 := (o10.alloc Z16).other (g' := y26.heap.size) (by omega) nc
        clear hx
        have hx := o11.lt
        replace o11 := (o11.alloc Z16).other (g' := y26.heap.size) (by omega) nc
        clear hx
        have hx := o12.lt
        replace o12 := (o12.alloc Z16).other (g' := y26.heap.size) (by omega) nc
        clear hx
        have hx := o13.lt
        replace o13 := (o13.alloc Z16).other (g' := y26.heap.size) (by omega) nc
        clear hx
        have hx := o19.lt
        replace o19 := (o19.alloc Z16).other (g' := y26.heap.size) (by omega) nc
        clear hx
        have hx := o21.lt
        replace o21 := (o21.alloc Z16).other (g' := y26.heap.size) (by omega) nc
        clear hx
        replace hL := (hL.alloc hL.size Z16).trans hbz
        have hzz : y26.heap.size ≤ (set16w (y26.alloc Z16) y26.heap.size nc).heap.size := by rw [set16w_size]; simp
        go_upto_region 26 with ((with_reducible refine fl_store on0 nc ?_ ?_ ?_); rfl; rfl)
        obtain ⟨y27, ev⟩ : ∃ v, v = set16w (y26.alloc Z16) y26.heap.size nc := ⟨_, rfl⟩
        rw [← ev] at o10 o11 o12 o13 o19 o21 o24 hL hzz ⊢
        obtain ⟨g24, eg⟩ : ∃ g, g = y26.heap.size := ⟨_, rfl⟩
        rw [← eg] at o24 hzz hz ⊢
        have l24 := hz
        replace hz := Nat.le_trans hz hzz
        clear ev eg on0 hbz hzz
        refine wp_region_inv 7 [112, 113, 114, 115, 116, 117, 118] [.val (fv e1), .val (fv aa), .val (fv nc), .val (fv e1), .val (fv ce), .val (fv t3), .val (fv z4)] (fun wz => Below y27.heap.size y27 wz) (by kernel_rfl) (by kernel_rfl) (fun wz wz' hz hb => hz.trans (hb.mono hz.size)) ((Below.refl _ _).drew) (fun u => by simp only [puts, List.foldl_cons, List.foldl_nil]; go_simp; exact rfl) ?_ ?_
        · simp only [List.take_succ_cons, List.take_zero]
          refine Obs.cons (fun u w hS hd => ?_) ?_
          · exact Gv.run (fv e1) rfl (run_fload rfl rfl (o21.keep hS)) rfl
          refine Obs.cons (fun u w hS hd => ?_) ?_
          · exact Gv.run (fv aa) rfl (run_fload rfl rfl (o19.keep hS)) rfl
          refine Obs.cons (fun u w hS hd => ?_) ?_
          · exact Gv.run (fv nc) rfl (run_fload rfl rfl (o24.keep hS)) rfl
          refine Obs.cons (fun u w hS hd => ?_) ?_
          · exact Gv.run (fv e1) rfl (run_fload rfl rfl (o21.keep hS)) rfl
          refine Obs.cons (fun u w hS hd => ?_) ?_
          · have d114 : u 114 = fv nc := dep hd 2 rfl
            rw [d114]
            have d115 : u 115 = fv e1 := dep hd 3 rfl
            rw [d115]
            refine Gv.call 30 #[fv nc, fv e1] rfl (by go_simp) ((kce.out w).mono ?_)
            rintro e w' ⟨rfl, hb⟩
            exact ⟨_, rfl, rfl, hb⟩
          refine Obs.cons (fun u w hS hd => ?_) ?_
          · have d113 : u 113 = fv aa := dep hd 1 rfl
            rw [d113]
            have d116 : u 116 = fv ce := dep hd 4 rfl
            rw [d116]
            refine Gv.call 28 #[fv aa, fv ce] rfl (by go_simp) ((kt3.out w).mono ?_)
            rintro e w' ⟨rfl, hb⟩
            exact ⟨_, rfl, rfl, hb⟩
          refine Obs.cons (fun u w hS hd => ?_) ?_
          · have d112 : u 112 = fv e1 := dep hd 0 rfl
            rw [d112]
            have d117 : u 117 = fv t3 := dep hd 5 rfl
            rw [d117]
            refine Gv.call 30 #[fv e1, fv t3] rfl (by go_simp) ((kz4.out w).mono ?_)
            rintro e w' ⟨rfl, hb⟩
            exact ⟨_, rfl, rfl, hb⟩
          exact Obs.nil
        intro uy28 y28 hS hd
        have d118 : uy28 118 = fv z4 := hd 6 (by decide)
        rw [d118]
        replace o10 := o10.keep hS
        replace o11 := o11.keep hS
        replace o12 := o12.keep hS
        replace o13 := o13.keep hS
        replace o19 := o19.keep hS
        replace o21 := o21.keep hS
        replace o24 := o24.keep hS
        replace hL := hL.trans (hS.mono hL.size)
        replace hz := Nat.le_trans hz hS.size
        clear hS hd d118
        simp only [List.drop_succ_cons, List.drop_zero]
        clear o19
        clear o21
        clear o24
        have on0 := o11
        replace o11 := on0.put z4
        have hbz := on0.below z4
        replace o10 := o10.other (g' := g11) (by omega) z4
        replace o12 := o12.other (g' := g11) (by omega) z4
        replace o13 := o13.other (g' := g11) (by omega) z4
        replace hL := hL.trans hbz
        have hzz : (set16w y28 g11 z4).heap.size = y28.heap.size := set16w_size _ _ _
        go_upto_region 27 with ((with_reducible refine fl_store on0 z4 ?_ ?_ ?_); rfl; rfl)
        obtain ⟨y29, ev⟩ : ∃ v, v = set16w y28 g11 z4 := ⟨_, rfl⟩
        rw [← ev] at o10 o11 o12 o13 hL hzz ⊢
        rw [← hzz] at hz
        clear ev on0 hbz hzz
        go_wp2_with fail
        go_at_call 27
        refine (KB.out _ hL).mono ?_
        rintro e y30 ⟨rfl, h0⟩
        replace o10 := o10.keep h0
        replace o11 := o11.keep h0
        replace o12 := o12.keep h0
        replace o13 := o13.keep h0
        replace hL := hL.trans (h0.mono hL.size)
        replace hz := Nat.le_trans hz h0.size
        clear h0
        go_wp2_with fail
        go_roundw
        case rel => exact ⟨j, 254 - j + 1, by omega, rfl, by rw [hfin.out]; exact o10, by rw [hfin.out]; exact o11, by rw [hfin.out]; exact o12, by rw [hfin.out]; exact o13, hL⟩
        case measure => simp [intOf] <;> omega
end Go.Proofs.Ytojggpiolgcjeaa
