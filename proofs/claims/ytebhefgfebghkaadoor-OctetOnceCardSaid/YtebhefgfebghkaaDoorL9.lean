import Derived.Test.YtebhefgfebghkaaDoorW7
namespace Go.Proofs.YtebhefgfebghkaaDoor
open Go Go.RowKit
theorem hexL_length (xs : List UInt8) : (hexL xs).length = 2 * xs.length := gen_length _ _
theorem nth_hex {xs : List UInt8} {k : Nat} (h : k < xs.length) : nth (hexL xs) (2 * k) = dig (nth xs k / 16) ∧ nth (hexL xs) (2 * k + 1) = dig (nth xs k % 16) := by
  have h1 := hexd_even xs k
  have h2 := hexd_odd xs k
  rw [hexL, nth_gen (by omega), nth_gen (by omega)]
  omega
theorem half_dig : ∀ n, n < 16 → halfV (dig n) = n ∧ halfB (dig n) = true := by decide +kernel
theorem dig_half : ∀ c, c < 256 → halfB c = true → dig (halfV c) = c := by decide +kernel
theorem unhex_hex (xs : List UInt8) : unhexB (hexL xs) = true ∧ unhL (hexL xs) = xs := by
  have hl := hexL_length xs
  constructor
  · refine unhex_good hl (by omega) fun j hj => ?_
    obtain ⟨e1, e2⟩ := nth_hex (xs := xs) (k := j) (by omega)
    have := nth_lt xs j
    simp only [pairB, e1, e2, (half_dig (nth xs j / 16) (by omega)).2, (half_dig (nth xs j % 16) (by omega)).2, Bool.and_self]
  · refine nth_ext (by rw [unhL, gen_length, hl]; omega) fun k hk => ?_
    rw [unhL, gen_length, hl] at hk
    rw [unhL, nth_gen (by omega), unh_toNat]
    obtain ⟨e1, e2⟩ := nth_hex (xs := xs) (k := k) (by omega)
    have := nth_lt xs k
    rw [e1, e2, (half_dig (nth xs k / 16) (by omega)).1, (half_dig (nth xs k % 16) (by omega)).1]
    omega
theorem hex_unhex {s : List UInt8} (h : unhexB s = true) : hexL (unhL s) = s := by
  simp only [unhexB, Bool.and_eq_true, beq_iff_eq, List.all_eq_true, List.mem_range] at h
  obtain ⟨h0, hp⟩ := h
  have hl : (unhL s).length = s.length / 2 := gen_length _ _
  have hh := hexL_length (unhL s)
  refine nth_ext (by omega) fun k hk => ?_
  have e : k = 2 * (k / 2) ∨ k = 2 * (k / 2) + 1 := by omega
  have hj := hp (k / 2) (by omega)
  simp only [pairB, Bool.and_eq_true] at hj
  obtain ⟨e1, e2⟩ := nth_hex (xs := unhL s) (k := k / 2) (by omega)
  have e3 : nth (unhL s) (k / 2) = halfV (nth s (2 * (k / 2))) * 16 + halfV (nth s (2 * (k / 2) + 1)) := by
    rw [unhL, nth_gen (by omega), unh_toNat]
  have a1 := halfV_lt (nth s (2 * (k / 2)))
  have a2 := halfV_lt (nth s (2 * (k / 2) + 1))
  rw [e3] at e1 e2
  rw [show (halfV (nth s (2 * (k / 2))) * 16 + halfV (nth s (2 * (k / 2) + 1))) / 16 = halfV (nth s (2 * (k / 2))) from by omega, dig_half _ (nth_lt _ _) hj.1] at e1
  rw [show (halfV (nth s (2 * (k / 2))) * 16 + halfV (nth s (2 * (k / 2) + 1))) % 16 = halfV (nth s (2 * (k / 2) + 1)) from by omega, dig_half _ (nth_lt _ _) hj.2] at e2
  rcases e with e | e
  · rw [e]; exact e1
  · rw [e]; exact e2

theorem unhex_yes {w : World} {s : ByteArray} (hs : s.size ≤ 281474976710656) {l : List UInt8} (hb : unhexB s.data.toList = true) (hl : unhL s.data.toList = l) :
    Calls Tryd.prog 22 #[.string s] w fun e w' => ∃ A' c', e = .returned (.tuple #[.slice A' l.length c', .int .i64 0]) ∧ Own w' w.heap.size 5 A' c' l ∧ Below w.heap.size w w' := by
  refine (unhex_any w s hs).mono fun e w' ⟨h1, h2⟩ => ?_
  rcases h2 with ⟨_, A', c', he, ho⟩ | ⟨h, _⟩
  · rw [hl] at ho
    have e1 : s.data.toList.length / 2 = l.length := by rw [← hl]; exact (gen_length _ _).symm
    rw [e1] at he
    exact ⟨A', c', he, ho, h1⟩
  · rw [hb] at h; cases h
theorem unhex_list {w : World} (t l : List UInt8) (hs : t.length ≤ 281474976710656) (hb : unhexB t = true) (hl : unhL t = l) :
    Calls Tryd.prog 22 #[.string ⟨t.toArray⟩] w fun e w' => ∃ A' c', e = .returned (.tuple #[.slice A' l.length c', .int .i64 0]) ∧ Own w' w.heap.size 5 A' c' l ∧ Below w.heap.size w w' :=
  unhex_yes (s := ⟨t.toArray⟩) (by simpa [ByteArray.size] using hs) hb hl
theorem unhex_no {w : World} {s : ByteArray} (hs : s.size ≤ 281474976710656) (hb : unhexB s.data.toList = false) :
    Calls Tryd.prog 22 #[.string s] w fun e w' => e = .returned (.tuple #[.slice none 0 0, .int .i64 5]) ∧ Below w.heap.size w w' := by
  refine (unhex_any w s hs).mono fun e w' ⟨h1, h2⟩ => ?_
  rcases h2 with ⟨h, _⟩ | ⟨_, he⟩
  · rw [hb] at h; cases h
  · exact ⟨he, h1⟩

theorem hex_back {A : Option Addr} {c B : Nat} {s : ByteArray} (w : World) (h1 : Rd w B A c (unhL s.data.toList)) (hB : B ≤ w.heap.size) (hT : Tab w) (hl : s.size ≤ 140737488351232) (hb : unhexB s.data.toList = true) :
    Calls Tryd.prog 24 #[.slice A (unhL s.data.toList).length c] w fun e w' => e = .returned (.string s) ∧ Below w.heap.size w w' := by
  have hsz : s.data.toList.length = s.size := by rw [Array.length_toList]; rfl
  exact (hex_any w h1 hB hT (by rw [unhL, gen_length]; omega)).mono fun _ _ ⟨he, h⟩ => ⟨by rw [he, hex_unhex hb], h⟩
set_option maxHeartbeats 800000 in
theorem octetBack_walk {A1 : Option Addr} {c1 : Nat} {xs : List UInt8} {s : ByteArray} (w : World) (hT : Tab w) (h1 : Rd w w.heap.size A1 c1 xs)
    (l1 : xs.length ≤ 140737488351232) (l2 : s.size ≤ 140737488351232) :
    Calls Tryd.prog 9 #[.slice A1 xs.length c1, .string s] w fun e w' => e = .returned (.bool true) ∧ Below w.heap.size w w' := by
  have hx := Lib.hid (unhex_hex xs)
  have hlx : (hexL xs).length ≤ 281474976710656 := by rw [hexL_length]; omega
  have k1 : ∀ (W : World), Below w.heap.size w W → (convert 22 9 (.slice A1 xs.length c1)).run Tryd.prog W = .ok (.string ⟨xs.toArray⟩) W := fun W hb => run_str (P := Tryd.prog) W 22 5 Tryd.underlying22 Tryd.underlying5 Tryd.underlying9 (h1.keep hb)
  have K1 := Lib.hid k1
  clear k1
  by_cases hb : unhexB s.data.toList = true
  · have HB := Lib.hid hb
    clear hb
    go_enter Tryd.func9, Tryd.ntmps9
    go_wp2_with fail
    refine (own_any _ h1 (Nat.le_refl _) (by omega)).mono ?_
    rintro e w1 ⟨B1, d1, rfl, o1, b1⟩
    go_wp2_with fail
    refine (hex_any _ o1.rd (Nat.le_refl _) (hT.keep b1 hT.pos) (by omega)).mono ?_
    rintro e w2 ⟨rfl, b2⟩
    have b2' := b1.trans (b2.mono b1.size)
    go_wp2_with fail
    refine (unhex_list (hexL xs) xs hlx hx.out.1 hx.out.2).mono ?_
    rintro e w3 ⟨B3, d3, rfl, o3, b3⟩
    have b3' := b2'.trans (b3.mono b2'.size)
    have k2 := run_str (P := Tryd.prog) w3 22 5 Tryd.underlying22 Tryd.underlying5 Tryd.underlying9 o3.rd
    have k3 := K1.out w3 b3'
    go_wp2_with fail
    refine (unhex_yes (l := unhL s.data.toList) (by omega) HB.out rfl).mono ?_
    rintro e w4 ⟨B4, d4, rfl, o4, b4⟩
    have b4' := b3'.trans (b4.mono b3'.size)
    go_wp2_with fail
    refine (hex_back _ o4.rd (Nat.le_refl _) (hT.keep b4' hT.pos) l2 HB.out).mono ?_
    rintro e w5 ⟨rfl, b5⟩
    have b5' := b4'.trans (b5.mono b4'.size)
    go_wp2_with fail
    refine (awake_any _ (hT.keep b5' hT.pos)).mono ?_
    rintro e w6 ⟨rfl, b6⟩
    go_wp2_with fail
    go_ret
    exact ⟨rfl, b5'.trans (b6.mono b5'.size)⟩
  · have HB := Lib.hid (eq_false_of_ne_true hb)
    clear hb
    go_enter Tryd.func9, Tryd.ntmps9
    go_wp2_with fail
    refine (own_any _ h1 (Nat.le_refl _) (by omega)).mono ?_
    rintro e w1 ⟨B1, d1, rfl, o1, b1⟩
    go_wp2_with fail
    refine (hex_any _ o1.rd (Nat.le_refl _) (hT.keep b1 hT.pos) (by omega)).mono ?_
    rintro e w2 ⟨rfl, b2⟩
    have b2' := b1.trans (b2.mono b1.size)
    go_wp2_with fail
    refine (unhex_list (hexL xs) xs hlx hx.out.1 hx.out.2).mono ?_
    rintro e w3 ⟨B3, d3, rfl, o3, b3⟩
    have b3' := b2'.trans (b3.mono b2'.size)
    have k2 := run_str (P := Tryd.prog) w3 22 5 Tryd.underlying22 Tryd.underlying5 Tryd.underlying9 o3.rd
    have k3 := K1.out w3 b3'
    go_wp2_with fail
    refine (unhex_no (by omega) HB.out).mono ?_
    rintro e w4 ⟨rfl, b4⟩
    have b4' := b3'.trans (b4.mono b3'.size)
    go_wp2_with fail
    refine (awake_any _ (hT.keep b4' hT.pos)).mono ?_
    rintro e w6 ⟨rfl, b6⟩
    go_wp2_with fail
    go_ret
    exact ⟨rfl, b4'.trans (b6.mono b4'.size)⟩
end Go.Proofs.YtebhefgfebghkaaDoor
