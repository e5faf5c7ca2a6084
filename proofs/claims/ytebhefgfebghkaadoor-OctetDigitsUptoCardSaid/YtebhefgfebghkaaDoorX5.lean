import Derived.Test.YtebhefgfebghkaaDoorL9
namespace Go.Proofs.YtebhefgfebghkaaDoor
open Go Go.RowKit
/-- Which byte two digits tell; 256: none. -/
def worthV (hi lo : Nat) : Nat := if halfB hi && halfB lo then halfV hi * 16 + halfV lo else 256
theorem allDig : ∀ (n : Nat) (h : n < 16), (((⟨#[48, 49, 50, 51, 52, 53, 54, 55, 56, 57, 97, 98, 99, 100, 101, 102]⟩ : ByteArray)[n]'h).toNat : Int) = (dig n : Int) := by decide
theorem worth_hit {k x y : Nat} (hk : k < 256) (h1 : dig (k / 16) = x) (h2 : dig (k % 16) = y) : worthV x y = k := by
  subst h1
  subst h2
  have a := half_dig (k / 16) (by omega)
  have b := half_dig (k % 16) (by omega)
  simp only [worthV, a.1, a.2, b.1, b.2, Bool.and_self, if_true]
  omega
theorem worth_none {x y : Nat} (hx : x < 256) (hy : y < 256) (h : ∀ j, j < 256 → ¬ (dig (j / 16) = x ∧ dig (j % 16) = y)) : worthV x y = 256 := by
  unfold worthV
  split
  · rename_i hh
    simp only [Bool.and_eq_true] at hh
    have a := halfV_lt x
    have b := halfV_lt y
    refine absurd ?_ (h (halfV x * 16 + halfV y) (by omega))
    rw [show (halfV x * 16 + halfV y) / 16 = halfV x from by omega, show (halfV x * 16 + halfV y) % 16 = halfV y from by omega]
    exact ⟨dig_half x hx hh.1, dig_half y hy hh.2⟩
  · rfl
set_option maxRecDepth 20000 in
set_option maxHeartbeats 400000 in
theorem worth_any (w : World) (x y : Nat) (hx : x < 256) (hy : y < 256) :
    Calls Tryd.prog 32 #[.int .u8 (x : Int), .int .u8 (y : Int)] w fun e w' => e = .returned (.int .i64 (worthV x y : Int)) ∧ w = w' := by
  go_enter Tryd.func32, Tryd.ntmps32
  go_wp2
  go_loop [5] (fun i => ∃ k : Nat, k ≤ 256 ∧ i = .int .i64 (k : Int) ∧ ∀ j, j < k → ¬ (dig (j / 16) = x ∧ dig (j % 16) = y)) (fun i => 256 - (intOf i).toNat)
  case atStart => exact ⟨0, by decide, rfl, fun j hj => absurd hj (by omega)⟩
  case round =>
    obtain ⟨k, hk, rfl, hp⟩ := hrel
    have HP := Lib.hid hp
    clear hp
    by_cases hlt : k < 256
    · have g1 : (k : Int) < 256 := by omega
      have g2 : k / 16 < 16 := by omega
      have g3 : k % 16 < 16 := by omega
      have gb := allDig
      by_cases m1 : dig (k / 16) = x
      · have t1 : ((dig (k / 16) : Int) == (x : Int)) = true := beq_iff_eq.2 (by omega)
        have M1 := Lib.hid m1
        clear m1
        by_cases m2 : dig (k % 16) = y
        · have t2 : ((dig (k % 16) : Int) == (y : Int)) = true := beq_iff_eq.2 (by omega)
          have M2 := Lib.hid m2
          clear m2
          go_wp2_with fail
          go_ret
          exact ⟨ret_i (by rw [worth_hit hlt M1.out M2.out]), rfl⟩
        · have t2 : ((dig (k % 16) : Int) == (y : Int)) = false := by simp; omega
          have M2 := Lib.hid m2
          clear m2
          go_wp2_with fail
          go_round
          case rel => exact ⟨k + 1, by omega, by go_num, fun j hj h => by
            by_cases e : j = k
            · subst e; exact M2.out h.2
            · exact HP.out j (by omega) h⟩
          case measure => simp [intOf]; omega
      · have t1 : ((dig (k / 16) : Int) == (x : Int)) = false := by simp; omega
        have M1 := Lib.hid m1
        clear m1
        go_wp2_with fail
        go_round
        case rel => exact ⟨k + 1, by omega, by go_num, fun j hj h => by
            by_cases e : j = k
            · subst e; exact M1.out h.1
            · exact HP.out j (by omega) h⟩
        case measure => simp [intOf]; omega
    · have hk' : k = 256 := by omega
      subst hk'
      go_wp2
      go_ret
      exact ⟨ret_i (by rw [worth_none hx hy HP.out]; rfl), rfl⟩

theorem quietL {P : Program} {f : FuncId} {args : Array Value} {w : World} {n : Nat} {v : Value} (h : Calls P f args (w.drewN n) fun e w' => e = .returned v ∧ w.drewN n = w') :
    Calls P f args (w.drewN n) fun e w'' => e = .returned v ∧ ∃ m, w'' = w.drewN m := h.mono fun _ _ ⟨he, hm⟩ => ⟨he, n, hm.symm⟩
theorem worth_ok {x y : Nat} : worthV x y = 256 ↔ ¬ (halfB x && halfB y) = true := by
  unfold worthV
  have a := halfV_lt x
  have b := halfV_lt y
  split
  · rename_i h; simp [h]; omega
  · rename_i h; simp [h]
theorem worth_pair {s : List UInt8} {j : Nat} (h : pairB s j = true) : (worthV (nth s (2 * j)) (nth s (2 * j + 1)) : Int) % 256 = ((unh s j).toNat : Int) := by
  have a := halfV_lt (nth s (2 * j))
  have b := halfV_lt (nth s (2 * j + 1))
  rw [unh_toNat]
  unfold worthV
  unfold pairB at h
  rw [h]
  simp only [if_true]
  omega
theorem worth_le (x y : Nat) : worthV x y ≤ 256 := by
  unfold worthV
  have a := halfV_lt x
  have b := halfV_lt y
  split <;> omega
def wrt (s : List UInt8) (j : Nat) : Nat := worthV (nth s (2 * j)) (nth s (2 * j + 1))

set_option maxHeartbeats 800000 in
theorem runhex_any (w : World) (s : ByteArray) (hs : s.size ≤ 140737488355328) :
    Calls Tryd.prog 23 #[.string s] w (UnhexPost s.data.toList w) := by
  have hsz : s.data.toList.length = s.size := by rw [Array.length_toList]; rfl
  have gb : ∀ (n : Nat) (h : n < s.size), ((s[n]'h).toNat : Int) = (nth s.data.toList n : Int) := fun n h => by
    rw [nth_get (by omega)]; rfl
  obtain ⟨i0, hi, hz0, hz1, hz2⟩ := info_parts infoByte
  by_cases hodd : s.size % 2 = 0
  · have t0 : ((s.size : Int) % 2 == 1) = false := by simp; omega
    have H := Lib.hid hodd
    clear hodd
    go_enter Tryd.func23, Tryd.ntmps23
    go_wp2
    clear t0
    go_loopw [4, 5] (fun v i wr => ∃ k : Nat, k ≤ s.size / 2 ∧ i = .int .i64 (2 * (k : Int)) ∧ (∀ j, j < k → pairB s.data.toList j = true) ∧ (∃ A c, v = .slice A k c ∧ Own wr w.heap.size 5 A c (gen (unh s.data.toList) k)) ∧ Below w.heap.size w wr)
      (fun _ i _ => s.size - (intOf i).toNat)
    case atStart => exact ⟨0, Nat.zero_le _, rfl, fun j hj => absurd hj (by omega), ⟨none, 0, rfl, World.ownsRow_nil _ _ _ _⟩, Below.refl _ _⟩
    case round =>
      obtain ⟨k, hk, rfl, hp, ⟨A, c, rfl, ho⟩, hb⟩ := hrel
      have HP := Lib.hid hp
      clear hp
      by_cases hlt : k < s.size / 2
      · have g1 : 2 * (k : Int) < (s.size : Int) := by omega
        have g2 : 2 * k < s.size := by omega
        have g3 : 2 * k + 1 < s.size := by omega
        have g4 : 2 * (k : Int) + 1 < (s.size : Int) := by omega
        have wl := worth_le (nth s.data.toList (2 * k)) (nth s.data.toList (2 * k + 1))
        by_cases hpk : pairB s.data.toList k = true
        · have hv := worth_pair hpk
          have t1 : ((worthV (nth s.data.toList (2 * k)) (nth s.data.toList (2 * k + 1)) : Int) == 256) = false := by
            have := (not_congr worth_ok).2 (not_not_intro hpk)
            simp; omega
          have HK := Lib.hid hpk
          have HV := Lib.hid hv
          clear hpk hv
          go_wp2_with fail
          go_quiet ((go_at_call 32; exact quietL (worth_any _ _ _ (nth_lt _ _) (nth_lt _ _))))
          go_wp2_with (at_builtin; refine wpList_app1 _ rfl (.tmp 27) (.tmp 30) _ rfl w.heap.size 5 i0 _ Tryd.underlying22 hi hz0 hz1 hz2 rfl rfl (gen_length _ _).symm (ho.keep (below_drewN _ _)) rfl _ HV.out (by omega) hb.size ?_; intro A' c' w' ho' hb')
          go_roundw
          case rel =>
            refine ⟨k + 1, by omega, by go_num, fun j hj => ?_, ⟨A', c', rfl, by rw [gen_succ]; exact ho'⟩, (hb.trans ((below_drewN _ _).mono hb.size)).trans hb'⟩
            by_cases hjk : j = k
            · subst hjk; exact HK.out
            · exact HP.out j (by omega)
          case measure => simp [intOf]; omega
        · have t1 : ((worthV (nth s.data.toList (2 * k)) (nth s.data.toList (2 * k + 1)) : Int) == 256) = true := by
            have := worth_ok.2 hpk
            simp; omega
          have HK := Lib.hid hpk
          clear hpk
          go_wp2_with fail
          go_quiet ((go_at_call 32; exact quietL (worth_any _ _ _ (nth_lt _ _) (nth_lt _ _))))
          go_wp2_with fail
          go_ret2
          exact ⟨hb.trans ((below_drewN _ _).mono hb.size), .inr ⟨unhex_bad hsz hlt HK.out, rfl⟩⟩
      · have hk' : k = s.size / 2 := by omega
        subst hk'
        have g1 : ¬ 2 * ((s.size / 2 : Nat) : Int) < (s.size : Int) := by have := H.out; omega
        go_wp2
        go_ret2
        refine ⟨hb, .inl ⟨unhex_good hsz H.out HP.out, A, c, ?_, ?_⟩⟩
        · rw [hsz]; rfl
        · rw [unhL, hsz]; exact ho
  · have t0 : ((s.size : Int) % 2 == 1) = true := by simp; omega
    go_enter Tryd.func23, Tryd.ntmps23
    go_wp2
    go_ret2
    exact ⟨Below.refl _ _, .inr ⟨by simp [unhexB, hsz, hodd], rfl⟩⟩
end Go.Proofs.YtebhefgfebghkaaDoor
