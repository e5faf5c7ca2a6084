import Derived.Test.YtecphnhdcphgbaaSLaw
namespace Go.Proofs.Ytecphnhdcphgbaa
open Go Go.RowKit
attribute [local irreducible] wd by8
set_option maxRecDepth 20000
set_option maxHeartbeats 3200000 in
theorem sreads_gen {x y c : Nat} {e1 e2 : Int} {A : Option Addr} {bs : List UInt8}
    (k1 : ∀ (B c : Nat) (A : Option Addr) (w : World), Rd w B A c bs → B ≤ w.heap.size → Calls Try.prog 10 #[.slice A bs.length c] w fun e w' => e = .returned (.tuple #[nv x, .int .i64 e1]) ∧ Below w.heap.size w w')
    (k2 : ∀ (B c : Nat) (A : Option Addr) (w : World), Rd w B A c bs → B ≤ w.heap.size → Calls Try.prog 11 #[.slice A bs.length c] w fun e w' => ∃ A c n, e = .returned (.tuple #[.slice A n c, .int .i64 e1]) ∧ DOwn w' w.heap.size A c n x ∧ Below w.heap.size w w')
    (k3 : ∀ (B c : Nat) (A : Option Addr) (w : World), Rd w B A c bs → B ≤ w.heap.size → Calls Try.prog 12 #[.slice A bs.length c] w fun e w' => e = .returned (.tuple #[nv y, .int .i64 e2]) ∧ Below w.heap.size w w')
    (k4 : ∀ (B c : Nat) (A : Option Addr) (w : World), Rd w B A c bs → B ≤ w.heap.size → Calls Try.prog 13 #[.slice A bs.length c] w fun e w' => ∃ A c n, e = .returned (.tuple #[.slice A n c, .int .i64 e2]) ∧ DOwn w' w.heap.size A c n y ∧ Below w.heap.size w w')
    (k5 : ∀ (w : World) (A : Option Addr) (c n : Nat), Dig w w.heap.size A c n x → Can n x → Calls Try.prog 14 #[nv x, .slice A n c] w fun e w' => e = .returned (.bool true) ∧ Below w.heap.size w w')
    (k6 : ∀ (w : World) (A : Option Addr) (c n : Nat), Dig w w.heap.size A c n y → Can n y → Calls Try.prog 14 #[nv y, .slice A n c] w fun e w' => e = .returned (.bool true) ∧ Below w.heap.size w w')
    (w : World) (hr : Rd w w.heap.size A c bs) (hl : bs.length ≤ 140737488355328) :
    Calls Try.prog 3 #[.slice A bs.length c] w fun e w' => e = .returned (.bool true) ∧ Below w.heap.size w w' := by
  have K1 := Lib.hid k1
  have K2 := Lib.hid k2
  have K3 := Lib.hid k3
  have K4 := Lib.hid k4
  have K5 := Lib.hid k5
  have K6 := Lib.hid k6
  clear k1 k2 k3 k4 k5 k6
  obtain ⟨i0, hi, hz0, hz1, hz2⟩ := info_parts infoByte
  have h2 : Rd (w.alloc (.cells #[] 5)) w.heap.size A c bs := hr.keep ((Below.refl _ w).alloc (Nat.le_refl _) _)
  have h3 : Own (w.alloc (.cells #[] 5)) w.heap.size 5 (some ⟨w.heap.size, 0, none⟩) 0 [] := World.ownsRow_made w #[] 0 (Nat.le_refl _) (by decide) (by decide)
  have h4 : Below w.heap.size w (w.alloc (.cells #[] 5)) := (Below.refl _ w).alloc (Nat.le_refl _) _
  go_enter Try.func3, Try.ntmps3
  go_wp2_with (at_builtin; refine wpList_app _ rfl (.tmp 12) (.tmp 13) _ rfl w.heap.size 5 i0 _ Try.underlying22 hi hz0 hz1 hz2 rfl (xs := []) rfl h3 rfl h2 (by simpa using hl) (by simp) ?_; intro A2 c2 w1 ho hb)
  replace ho : Own w1 w.heap.size 5 A2 c2 bs := ho
  have hc := h4.trans hb
  clear h2 h3 h4 hb
  go_at_call 10
  refine (K1.out _ _ _ _ ho.rd (Nat.le_refl _)).mono ?_
  rintro e v2 ⟨rfl, h0⟩
  replace ho := ho.keep h0
  replace hc := hc.trans (h0.mono hc.size)
  have ox := T4.new (w := v2) hc.size 25 x
  replace ho := ho.keep ((Below.refl _ v2).alloc (Nat.le_refl _) (AE 25 x))
  replace hc := hc.alloc hc.size (AE 25 x)
  clear h0
  go_wp2_with fail
  go_at_call 11
  refine (K2.out _ _ _ _ (hr.keep hc) hc.size).mono ?_
  rintro e v3 ⟨A3, c3, n3, rfl, dx, h0⟩
  replace ho := ho.keep h0
  replace ox := ox.keep h0
  have hs3 := hc.size
  replace hc := hc.trans (h0.mono hc.size)
  replace dx := dx.mono (B' := w.heap.size) hs3
  clear h0 hs3
  go_wp2_with fail
  go_at_call 12
  refine (K3.out _ _ _ _ ho.rd (Nat.le_refl _)).mono ?_
  rintro e v4 ⟨rfl, h0⟩
  replace ho := ho.keep h0
  replace ox := ox.keep h0
  replace dx := dx.keep h0
  replace hc := hc.trans (h0.mono hc.size)
  have oy := T4.new (w := v4) hc.size 25 y
  replace ho := ho.keep ((Below.refl _ v4).alloc (Nat.le_refl _) (AE 25 y))
  replace ox := ox.alloc (AE 25 y)
  replace dx := dx.keep ((Below.refl _ v4).alloc (Nat.le_refl _) (AE 25 y))
  replace hc := hc.alloc hc.size (AE 25 y)
  clear h0
  go_wp2_with fail
  go_at_call 13
  refine (K4.out _ _ _ _ (hr.keep hc) hc.size).mono ?_
  rintro e v6 ⟨A4, c4, n4, rfl, dy, h0⟩
  replace ho := ho.keep h0
  replace ox := ox.keep h0
  replace oy := oy.keep h0
  replace dx := dx.keep h0
  have hs4 := hc.size
  replace hc := hc.trans (h0.mono hc.size)
  clear h0 hs4
  obtain ⟨s0, s1, s2, s3⟩ := ox.c4
  go_wp2_with fail
  clear s0 s1 s2 s3
  go_at_call 14
  refine (K5.out _ _ _ _ dx.dig dx.can).mono ?_
  rintro e v7 ⟨rfl, h0⟩
  replace ho := ho.keep h0
  replace oy := oy.keep h0
  replace dy := dy.keep h0
  have hs7 := h0.size
  replace hc := hc.trans (h0.mono hc.size)
  clear h0 dx ox
  obtain ⟨s0, s1, s2, s3⟩ := oy.c4
  go_wp2_with fail
  clear s0 s1 s2 s3
  go_at_call 14
  refine (K6.out _ _ _ _ dy.dig dy.can).mono ?_
  rintro e v8 ⟨rfl, h0⟩
  replace ho := ho.keep h0
  replace hc := hc.trans (h0.mono hc.size)
  clear h0 dy oy hs7
  have st1 : (convert 22 9 (.slice A2 bs.length c2)).run Try.prog v8 = .ok (.string ⟨bs.toArray⟩) v8 := run_str (P := Try.prog) v8 22 5 Try.underlying22 Try.underlying5 (dst := 9) Try.underlying9 ho.rd
  have st2 : (convert 22 9 (.slice A bs.length c)).run Try.prog v8 = .ok (.string ⟨bs.toArray⟩) v8 := run_str (P := Try.prog) v8 22 5 Try.underlying22 Try.underlying5 (dst := 9) Try.underlying9 (hr.keep hc)
  go_wp2_with fail
  go_at_call 15
  refine (awake_any _).mono ?_
  rintro e v9 ⟨rfl, h0⟩
  go_wp2_with fail
  go_ret
  exact ⟨rfl, hc.trans (h0.mono hc.size)⟩
theorem is_sameR {r : Nat} (hr : r < W4) (w : World) (A : Option Addr) (c n : Nat) (h : Dig w w.heap.size A c n r) (_ : Can n r) : Calls Try.prog 14 #[nv r, .slice A n c] w fun e w' => e = .returned (.bool true) ∧ Below w.heap.size w w' := by
  have h := is_any hr hr w h (Nat.le_refl _)
  rw [decide_eq_true rfl] at h
  exact h
theorem reads_law {c : Nat} {A : Option Addr} {bs : List UInt8} {w0 : World} (hr : Rd w0 w0.heap.size A c bs) (hl : bs.length ≤ 17592186044416) (w : World) (hw : w = w0) :
    Calls Try.prog 3 #[.slice A bs.length c] w fun e w' => e = .returned (.bool true) ∧ Below w.heap.size w w' := by
  subst hw
  have hl' : bs.length ≤ 140737488355328 := by omega
  by_cases h1 : bs.length ≤ 64
  · by_cases h2 : bs.length = 32
    · have hy : (if vb bs < LL then vb bs else 0) < W4 := by
        split
        · exact vb_lt h2
        · exact W4_pos
      exact sreads_gen (x := vb bs % LL) (e1 := 0) (fun B c A w h hB => tof_good w h hB h1) (fun B c A w h hB => rof_good w h hB h1) (fun B c A w h hB => tdecode_any w h hB h2) (fun B c A w h hB => rdec_any w h hB h2) (is_sameR (LL_lt _)) (is_sameR hy) w hr hl'
    · exact sreads_gen (x := vb bs % LL) (y := 0) (e1 := 0) (e2 := 1) (fun B c A w h hB => tof_good w h hB h1) (fun B c A w h hB => rof_good w h hB h1) (fun B c A w h hB => tdecode_len h2 w)
        (fun B c A w h hB => (rdec_len w h hB hl h2).mono fun e w' ⟨he, hb⟩ => ⟨none, 0, 0, he, DOwn.nothing _ _, hb⟩) (is_sameR (LL_lt _)) (is_sameR W4_pos) w hr hl'
  · exact sreads_gen (x := 0) (y := 0) (e1 := 2) (e2 := 1) (fun B c A w h hB => tof_bad (by omega) w) (fun B c A w h hB => (rof_bad (by omega) w).mono fun e w' ⟨he, hb⟩ => ⟨none, 0, 0, he, DOwn.nothing _ _, hb⟩) (fun B c A w h hB => tdecode_len (by omega) w)
      (fun B c A w h hB => (rdec_len w h hB hl (by omega)).mono fun e w' ⟨he, hb⟩ => ⟨none, 0, 0, he, DOwn.nothing _ _, hb⟩) (is_sameR W4_pos) (is_sameR W4_pos) w hr hl'
end Go.Proofs.Ytecphnhdcphgbaa
