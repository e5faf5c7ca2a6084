/-
  SuiteNobody: an ideal suite that is not there, or that nobody made, answers nothing. By an AI agent.
-/
import Derived.Test.YtdddcgkgellbgabSm1
import Derived.Test.YtdddcgkgellbgabSv5
namespace Go.Proofs.Ytdddcgkgellbgab
open Go Go.RowKit
set_option maxRecDepth 20000
theorem own19_n {A : Option Addr} {c n : Nat} {bs : List UInt8} (hn : n = bs.length) (w : World) (hr : Rd w w.heap.size A c bs) (hl : n ≤ 140737488355328) :
    Calls Try.prog 14 #[.slice A n c] w fun e w' => ∃ A' c', e = .returned (.slice A' n c') ∧ Below w.heap.size w w' := by
  subst hn
  refine (own19_any w hr hl).mono ?_
  rintro e w' ⟨A', c', rfl, _, hb⟩
  exact ⟨A', c', rfl, hb⟩
/-- A slice of so many. -/
def Sl (n : Nat) (v : Value) (_ : World) : Prop := ∃ A c, v = .slice A n c
theorem Sl.keep (n : Nat) : ∀ v w w', Sl n v w → Below w.heap.size w w' → Sl n v w' := fun _ _ _ h _ => h
set_option maxHeartbeats 6400000 in
theorem nobody_at {k n f1 f2 f3 : Int} {A1 A2 A3 : Option Addr} {n1 c1 n2 c2 n3 c3 : Nat} {b1 b2 b3 : List UInt8} (aw : ∀ w, Calls Try.prog 8 #[] w fun e w' => e = .returned (.bool true) ∧ Below w.heap.size w w') (hnn : n < 9223372036854775808)
    (w : World) (e1 : n1 = b1.length) (e2 : n2 = b2.length) (e3 : n3 = b3.length) (r1 : Rd w w.heap.size A1 c1 b1) (r2 : Rd w w.heap.size A2 c2 b2) (r3 : Rd w w.heap.size A3 c3 b3) (l1 : n1 ≤ 140737488355328) (l2 : n2 ≤ 140737488355328) (l3 : n3 ≤ 140737488355328) (pl : Bool) :
    Calls Try.prog 6 #[.agg #[.int .i64 k, .int .i64 n, .int .i64 f1, .slice A1 n1 c1, .int .i64 f2, .slice A2 n2 c2, .int .i64 f3, .slice A3 n3 c3], .bool pl] w fun e w' => e = .returned (.bool true) ∧ Below w.heap.size w w' := by
  obtain ⟨v0, ev0⟩ : ∃ v, v = w.alloc (.cells #[.int .i64 k, .int .i64 n, .int .i64 f1, .slice A1 n1 c1, .int .i64 f2, .slice A2 n2 c2, .int .i64 f3, .slice A3 n3 c3] 35) := ⟨_, rfl⟩
  obtain ⟨g, eg⟩ : ∃ g, g = w.heap.size := ⟨_, rfl⟩
  have hb0 : Below w.heap.size w v0 := by rw [ev0]; exact (Below.refl _ _).alloc (Nat.le_refl _) _
  have hg0 : g < v0.heap.size := by rw [ev0, eg]; simp
  have hq0 : v0.cell? ⟨g, 1, none⟩ = some (.int .i64 n) ∧ v0.cell? ⟨g, 3, none⟩ = some (.slice A1 n1 c1) ∧ v0.cell? ⟨g, 5, none⟩ = some (.slice A2 n2 c2) ∧ v0.cell? ⟨g, 7, none⟩ = some (.slice A3 n3 c3) := by
    rw [ev0, eg]
    simp
  have HW := Lib.hid (fun wz (hz : Below v0.heap.size v0 wz) => show wz.cell? ⟨g, 1, none⟩ = some (.int .i64 n) ∧ wz.cell? ⟨g, 3, none⟩ = some (.slice A1 n1 c1) ∧ wz.cell? ⟨g, 5, none⟩ = some (.slice A2 n2 c2) ∧ wz.cell? ⟨g, 7, none⟩ = some (.slice A3 n3 c3) from
    ⟨(hz.cell (p := ⟨g, 1, none⟩) hg0).trans hq0.1, (hz.cell (p := ⟨g, 3, none⟩) hg0).trans hq0.2.1, (hz.cell (p := ⟨g, 5, none⟩) hg0).trans hq0.2.2.1, (hz.cell (p := ⟨g, 7, none⟩) hg0).trans hq0.2.2.2⟩)
  have HR := Lib.hid (fun wz (hz : Below v0.heap.size v0 wz) => show Rd wz wz.heap.size A1 c1 b1 ∧ Rd wz wz.heap.size A2 c2 b2 ∧ Rd wz wz.heap.size A3 c3 b3 from by
    have hb := hb0.trans (hz.mono hb0.size)
    exact ⟨(r1.keep hb).mono hb.size, (r2.keep hb).mono hb.size, (r3.keep hb).mono hb.size⟩)
  have HO1 := Lib.hid (fun wz (hz : Below v0.heap.size v0 wz) => own19_n e1 wz (HR.out wz hz).1 l1)
  have HO2 := Lib.hid (fun wz (hz : Below v0.heap.size v0 wz) => own19_n e2 wz (HR.out wz hz).2.1 l2)
  have HO3 := Lib.hid (fun wz (hz : Below v0.heap.size v0 wz) => own19_n e3 wz (HR.out wz hz).2.2 l3)
  have HB := Lib.hid (And.intro hb0 hnn)
  have HV := Lib.hid (And.intro ev0 eg)
  have HA := Lib.hid aw
  clear ev0 eg hb0 hg0 hq0 e1 e2 e3 r1 r2 r3 l1 l2 l3 HR aw hnn
  go_enter Try.func6, Try.ntmps6
  go_upto_region 1 with fail
  rw [← HV.out.1, ← HV.out.2]
  cases pl
  case' false => obtain ⟨p, v1, ep, ev1, hn1, hb1⟩ : ∃ p v, p = Value.pointer none ∧ v = v0 ∧ NobI v p ∧ Below v0.heap.size v0 v := ⟨_, _, rfl, rfl, .inl rfl, Below.refl _ _⟩
  case' true => obtain ⟨p, v1, ep, ev1, hn1, hb1⟩ : ∃ p v, p = ptB v0.heap.size ∧ v = v0.alloc (.cells #[.pointer none] 54) ∧ NobI v p ∧ Below v0.heap.size v0 v := ⟨_, _, rfl, rfl, .inr ⟨_, rfl, (MapKept.heap_alloc v0 (.cells #[.pointer none] 54)).1⟩, (Below.refl _ _).alloc (Nat.le_refl _) _⟩
  all_goals
    go_upto_region 4 with fail
    first | rw [show v0 = v1 from ev1.symm, ← ep] | rw [← ev1, show (Value.pointer (some ⟨v0.heap.size, 0, none⟩) : Value) = p from ep.symm]
    have HN := Lib.hid (And.intro hn1 hb1)
    have HW1 := Lib.hid (fun wz (hz : Below v1.heap.size v1 wz) => HW.out wz (HN.out.2.trans (hz.mono HN.out.2.size)))
    clear hn1 hb1 ep ev1
    refine wp_region_inv 11 [17, 18, 19, 20, 21, 22, 23, 24, 25, 6, 7] [.val (.pointer (some ⟨g, 2, none⟩)), .val (.pointer (some ⟨g, 3, none⟩)), .val (.slice A1 n1 c1), .val (.pointer (some ⟨g, 4, none⟩)), .val (.pointer (some ⟨g, 5, none⟩)), .val (.slice A2 n2 c2), .val (.pointer (some ⟨g, 6, none⟩)), .val (.pointer (some ⟨g, 7, none⟩)), .val (.slice A3 n3 c3), .val (.slice A1 n1 c1), .val (.slice A2 n2 c2)] (fun wz => Below v1.heap.size v1 wz) (by kernel_rfl) (by kernel_rfl) (fun wz wz' hz hb => hz.trans (hb.mono hz.size)) ((Below.refl _ _).drew) (fun u => by simp only [puts, List.foldl_cons, List.foldl_nil]; go_simp; exact rfl) ?_ ?_
    · simp only [List.take_succ_cons, List.take_zero]
      refine Obs.cons (fun u w hS hd => ?_) ?_
      · exact Gv.run (.pointer (some ⟨g, 2, none⟩)) rfl (by go_simp) rfl
      refine Obs.cons (fun u w hS hd => ?_) ?_
      · have d17 : u 17 = .pointer (some ⟨g, 2, none⟩) := dep hd 0 rfl
        rw [d17]
        exact Gv.run (.pointer (some ⟨g, 3, none⟩)) rfl (by go_simp) rfl
      refine Obs.cons (fun u w hS hd => ?_) ?_
      · have d18 : u 18 = .pointer (some ⟨g, 3, none⟩) := dep hd 1 rfl
        rw [d18]
        obtain ⟨q0, q1, q2, q3⟩ := HW1.out w (hS)
        exact Gv.run (.slice A1 n1 c1) rfl (by go_simp) rfl
      refine Obs.cons (fun u w hS hd => ?_) ?_
      · exact Gv.run (.pointer (some ⟨g, 4, none⟩)) rfl (by go_simp) rfl
      refine Obs.cons (fun u w hS hd => ?_) ?_
      · have d20 : u 20 = .pointer (some ⟨g, 4, none⟩) := dep hd 3 rfl
        rw [d20]
        exact Gv.run (.pointer (some ⟨g, 5, none⟩)) rfl (by go_simp) rfl
      refine Obs.cons (fun u w hS hd => ?_) ?_
      · have d21 : u 21 = .pointer (some ⟨g, 5, none⟩) := dep hd 4 rfl
        rw [d21]
        obtain ⟨q0, q1, q2, q3⟩ := HW1.out w (hS)
        exact Gv.run (.slice A2 n2 c2) rfl (by go_simp) rfl
      refine Obs.cons (fun u w hS hd => ?_) ?_
      · exact Gv.run (.pointer (some ⟨g, 6, none⟩)) rfl (by go_simp) rfl
      refine Obs.cons (fun u w hS hd => ?_) ?_
      · have d23 : u 23 = .pointer (some ⟨g, 6, none⟩) := dep hd 6 rfl
        rw [d23]
        exact Gv.run (.pointer (some ⟨g, 7, none⟩)) rfl (by go_simp) rfl
      refine Obs.cons (fun u w hS hd => ?_) ?_
      · have d24 : u 24 = .pointer (some ⟨g, 7, none⟩) := dep hd 7 rfl
        rw [d24]
        obtain ⟨q0, q1, q2, q3⟩ := HW1.out w (hS)
        exact Gv.run (.slice A3 n3 c3) rfl (by go_simp) rfl
      refine Obs.cons (fun u w hS hd => ?_) ?_
      · have d19 : u 19 = .slice A1 n1 c1 := dep hd 2 rfl
        rw [d19]
        exact Gv.run (.slice A1 n1 c1) rfl (by go_simp) rfl
      refine Obs.cons (fun u w hS hd => ?_) ?_
      · have d22 : u 22 = .slice A2 n2 c2 := dep hd 5 rfl
        rw [d22]
        exact Gv.run (.slice A2 n2 c2) rfl (by go_simp) rfl
      exact Obs.nil
    · intro u wz hS hd
      have hv := hS
      have d19 : u 19 = .slice A1 n1 c1 := hd 2 (by decide)
      have d6 : u 6 = .slice A1 n1 c1 := hd 9 (by decide)
      have d7 : u 7 = .slice A2 n2 c2 := hd 10 (by decide)
      have d25 : u 25 = .slice A3 n3 c3 := hd 8 (by decide)
      rw [d6, d7, d25]
      clear hS hd d19 d6 d7 d25
      go_wp2_with (first | (go_at_call 14; with_reducible refine (HO1.out _ (HN.out.2.trans (hv.mono HN.out.2.size))).mono ?_; rintro e vn ⟨Ax, cx, rfl, hx⟩; replace hv := hv.trans (hx.mono hv.size); clear hx) | (go_at_call 14; with_reducible refine (HO2.out _ (HN.out.2.trans (hv.mono HN.out.2.size))).mono ?_; rintro e vn ⟨Ax, cx, rfl, hx⟩; replace hv := hv.trans (hx.mono hv.size); clear hx) | (go_at_call 14; with_reducible refine (HO3.out _ (HN.out.2.trans (hv.mono HN.out.2.size))).mono ?_; rintro e vn ⟨Ax, cx, rfl, hx⟩; replace hv := hv.trans (hx.mono hv.size); clear hx) | (go_at_call 21; with_reducible refine (none_shared (HN.out.1.next hv)).mono ?_; rintro e vn ⟨rfl, hx⟩; replace hv := hv.trans (hx.mono hv.size); clear hx) | (go_at_call 19; with_reducible refine (none_verify (HN.out.1.next hv)).mono ?_; rintro e vn ⟨rfl, hx⟩; replace hv := hv.trans (hx.mono hv.size); clear hx) | (go_at_call 12; with_reducible refine (none_len (HN.out.1.next hv)).mono ?_; rintro e vn ⟨rfl, hx⟩; replace hv := hv.trans (hx.mono hv.size); clear hx) | (go_at_call 25; with_reducible refine (none_terms (HN.out.1.next hv)).mono ?_; rintro e vn ⟨rfl, hx⟩; replace hv := hv.trans (hx.mono hv.size); clear hx) | (go_at_call 11; with_reducible refine (none_clone (HN.out.1.next hv)).mono ?_; rintro e vn ⟨rfl, hx⟩; replace hv := hv.trans (hx.mono hv.size); clear hx) | (go_at_call 8; with_reducible refine (HA.out _).mono ?_; rintro e vn ⟨rfl, hx⟩; replace hv := hv.trans (hx.mono hv.size); clear hx))
      go_upto_region 6 with (first | (go_at_call 14; with_reducible refine (HO1.out _ (HN.out.2.trans (hv.mono HN.out.2.size))).mono ?_; rintro e vn ⟨Ax, cx, rfl, hx⟩; replace hv := hv.trans (hx.mono hv.size); clear hx) | (go_at_call 14; with_reducible refine (HO2.out _ (HN.out.2.trans (hv.mono HN.out.2.size))).mono ?_; rintro e vn ⟨Ax, cx, rfl, hx⟩; replace hv := hv.trans (hx.mono hv.size); clear hx) | (go_at_call 14; with_reducible refine (HO3.out _ (HN.out.2.trans (hv.mono HN.out.2.size))).mono ?_; rintro e vn ⟨Ax, cx, rfl, hx⟩; replace hv := hv.trans (hx.mono hv.size); clear hx) | (go_at_call 21; with_reducible refine (none_shared (HN.out.1.next hv)).mono ?_; rintro e vn ⟨rfl, hx⟩; replace hv := hv.trans (hx.mono hv.size); clear hx) | (go_at_call 19; with_reducible refine (none_verify (HN.out.1.next hv)).mono ?_; rintro e vn ⟨rfl, hx⟩; replace hv := hv.trans (hx.mono hv.size); clear hx) | (go_at_call 12; with_reducible refine (none_len (HN.out.1.next hv)).mono ?_; rintro e vn ⟨rfl, hx⟩; replace hv := hv.trans (hx.mono hv.size); clear hx) | (go_at_call 25; with_reducible refine (none_terms (HN.out.1.next hv)).mono ?_; rintro e vn ⟨rfl, hx⟩; replace hv := hv.trans (hx.mono hv.size); clear hx) | (go_at_call 11; with_reducible refine (none_clone (HN.out.1.next hv)).mono ?_; rintro e vn ⟨rfl, hx⟩; replace hv := hv.trans (hx.mono hv.size); clear hx) | (go_at_call 8; with_reducible refine (HA.out _).mono ?_; rintro e vn ⟨rfl, hx⟩; replace hv := hv.trans (hx.mono hv.size); clear hx))
      refine wp_region_inv 14 [36, 37, 38, 39, 40, 41, 42, 43, 44, 45, 35, 46, 47, 11] [.val (p), .val (.slice A1 n1 c1), .sat (Sl n1) (Sl.keep n1), .val (.pointer (some ⟨g, 1, none⟩)), .val (.int .i64 n), .val (.slice A2 n2 c2), .sat (Sl n2) (Sl.keep n2), .val (.slice A3 n3 c3), .sat (Sl n3) (Sl.keep n3), .val (.tuple #[.slice none 0 0, .int .i64 1]), .val (.tuple #[.slice none 0 0, .int .i64 1]), .val (.slice none 0 0), .val (.int .i64 1), .val (.slice none 0 0)] (fun wz => Below vn.heap.size vn wz) (by kernel_rfl) (by kernel_rfl) (fun wz wz' hz hb => hz.trans (hb.mono hz.size)) ((Below.refl _ _).drew) (fun u => by simp only [puts, List.foldl_cons, List.foldl_nil]; go_simp; exact rfl) ?_ ?_
      · simp only [List.take_succ_cons, List.take_zero]
        refine Obs.cons (fun u w hS hd => ?_) ?_
        · exact Gv.run (p) rfl (by go_simp) rfl
        refine Obs.cons (fun u w hS hd => ?_) ?_
        · exact Gv.run (.slice A1 n1 c1) rfl (by go_simp) rfl
        refine Obs.cons (fun u w hS hd => ?_) ?_
        · have d37 : u 37 = .slice A1 n1 c1 := dep hd 1 rfl
          rw [d37]
          refine Gv.call 14 #[.slice A1 n1 c1] rfl (by go_simp) ((HO1.out w (HN.out.2.trans ((hv.trans (hS.mono hv.size)).mono HN.out.2.size))).mono ?_)
          rintro e w' ⟨A', c', rfl, hx⟩
          exact ⟨_, rfl, ⟨A', c', rfl⟩, hx⟩
        refine Obs.cons (fun u w hS hd => ?_) ?_
        · exact Gv.run (.pointer (some ⟨g, 1, none⟩)) rfl (by go_simp) rfl
        refine Obs.cons (fun u w hS hd => ?_) ?_
        · have d39 : u 39 = .pointer (some ⟨g, 1, none⟩) := dep hd 3 rfl
          rw [d39]
          obtain ⟨q0, q1, q2, q3⟩ := HW1.out w (hv.trans (hS.mono hv.size))
          exact Gv.run (.int .i64 n) rfl (by go_simp) rfl
        refine Obs.cons (fun u w hS hd => ?_) ?_
        · exact Gv.run (.slice A2 n2 c2) rfl (by go_simp) rfl
        refine Obs.cons (fun u w hS hd => ?_) ?_
        · have d41 : u 41 = .slice A2 n2 c2 := dep hd 5 rfl
          rw [d41]
          refine Gv.call 14 #[.slice A2 n2 c2] rfl (by go_simp) ((HO2.out w (HN.out.2.trans ((hv.trans (hS.mono hv.size)).mono HN.out.2.size))).mono ?_)
          rintro e w' ⟨A', c', rfl, hx⟩
          exact ⟨_, rfl, ⟨A', c', rfl⟩, hx⟩
        refine Obs.cons (fun u w hS hd => ?_) ?_
        · exact Gv.run (.slice A3 n3 c3) rfl (by go_simp) rfl
        refine Obs.cons (fun u w hS hd => ?_) ?_
        · have d43 : u 43 = .slice A3 n3 c3 := dep hd 7 rfl
          rw [d43]
          refine Gv.call 14 #[.slice A3 n3 c3] rfl (by go_simp) ((HO3.out w (HN.out.2.trans ((hv.trans (hS.mono hv.size)).mono HN.out.2.size))).mono ?_)
          rintro e w' ⟨A', c', rfl, hx⟩
          exact ⟨_, rfl, ⟨A', c', rfl⟩, hx⟩
        refine Obs.cons (fun u w hS hd => ?_) ?_
        · have d36 : u 36 = p := dep hd 0 rfl
          have d40 : u 40 = .int .i64 n := dep hd 4 rfl
          obtain ⟨A_38, c_38, d38⟩ : ∃ A c, u 38 = .slice A n1 c := dep hd 2 rfl
          obtain ⟨A_42, c_42, d42⟩ : ∃ A c, u 42 = .slice A n2 c := dep hd 6 rfl
          obtain ⟨A_44, c_44, d44⟩ : ∃ A c, u 44 = .slice A n3 c := dep hd 8 rfl
          rw [d36, d40, d38, d42, d44]
          refine Gv.call 18 #[p, .slice A_38 n1 c_38, .int .i64 n, .slice A_42 n2 c_42, .slice A_44 n3 c_44] rfl (by go_simp) ((none_open (HN.out.1.next (hv.trans (hS.mono hv.size)))).mono ?_)
          rintro e w' ⟨rfl, hx⟩
          exact ⟨_, rfl, rfl, hx⟩
        refine Obs.cons (fun u w hS hd => ?_) ?_
        · have d45 : u 45 = .tuple #[.slice none 0 0, .int .i64 1] := dep hd 9 rfl
          rw [d45]
          exact Gv.run (.tuple #[.slice none 0 0, .int .i64 1]) rfl (by go_simp) rfl
        refine Obs.cons (fun u w hS hd => ?_) ?_
        · have d35 : u 35 = .tuple #[.slice none 0 0, .int .i64 1] := dep hd 10 rfl
          rw [d35]
          exact Gv.run (.slice none 0 0) rfl (by go_simp) rfl
        refine Obs.cons (fun u w hS hd => ?_) ?_
        · have d35 : u 35 = .tuple #[.slice none 0 0, .int .i64 1] := dep hd 10 rfl
          rw [d35]
          exact Gv.run (.int .i64 1) rfl (by go_simp) rfl
        refine Obs.cons (fun u w hS hd => ?_) ?_
        · have d46 : u 46 = .slice none 0 0 := dep hd 11 rfl
          rw [d46]
          exact Gv.run (.slice none 0 0) rfl (by go_simp) rfl
        exact Obs.nil
      intro u6 w6 hS6 hd6
      have d11 : u6 11 = .slice none 0 0 := hd6 13 (by decide)
      have d47 : u6 47 = .int .i64 1 := hd6 12 (by decide)
      have hv6 := hv.trans (hS6.mono hv.size)
      clear hS6 hd6 hv
      have hv := hv6
      clear hv6
      rw [d11, d47]
      go_upto_region 7 with fail
      refine wp_region_inv 49 [48, 49, 50, 51, 52, 53, 54, 55, 56, 57, 58, 59, 60, 61, 62, 63, 64, 65, 66, 67, 68, 69, 70, 71, 72, 73, 74, 75, 76, 77, 78, 79, 80, 81, 82, 83, 84, 85, 86, 87, 88, 89, 90, 91, 92, 93, 94, 95, 96] [.val (p), .val (.slice none 0 0), .val (.int .i64 0), .val (p), .val (.slice A1 n1 c1), .sat (Sl n1) (Sl.keep n1), .val (.slice none 0 0), .val (.int .i64 0), .val (.int .i64 0), .val (p), .val (.slice A1 n1 c1), .sat (Sl n1) (Sl.keep n1), .val (.slice none 0 0), .val (.int .i64 0), .val (.int .i64 0), .val (p), .val (.slice A1 n1 c1), .sat (Sl n1) (Sl.keep n1), .val (.slice A2 n2 c2), .sat (Sl n2) (Sl.keep n2), .val (.slice none 0 0), .val (.int .i64 0), .val (.int .i64 0), .val (p), .val (.slice A1 n1 c1), .sat (Sl n1) (Sl.keep n1), .val (.slice none 0 0), .val (.int .i64 0), .val (.int .i64 0), .val (p), .val (.slice A1 n1 c1), .sat (Sl n1) (Sl.keep n1), .val (.slice A2 n2 c2), .sat (Sl n2) (Sl.keep n2), .val (.slice none 0 0), .val (.int .i64 0), .val (.int .i64 0), .val (p), .val (.slice A1 n1 c1), .sat (Sl n1) (Sl.keep n1), .val (.pointer (some ⟨g, 1, none⟩)), .val (.int .i64 n), .val (.slice A2 n2 c2), .sat (Sl n2) (Sl.keep n2), .val (.slice A3 n3 c3), .sat (Sl n3) (Sl.keep n3), .val (.slice none 0 0), .val (.int .i64 0), .val (.int .i64 0)] (fun wz => Below w6.heap.size w6 wz) (by kernel_rfl) (by kernel_rfl) (fun wz wz' hz hb => hz.trans (hb.mono hz.size)) ((Below.refl _ _).drew) (fun u => by simp only [puts, List.foldl_cons, List.foldl_nil]; go_simp; exact rfl) ?_ ?_
      · simp only [List.take_succ_cons, List.take_zero]
        refine Obs.cons (fun u w hS hd => ?_) ?_
        · exact Gv.run (p) rfl (by go_simp) rfl
        refine Obs.cons (fun u w hS hd => ?_) ?_
        · have d48 : u 48 = p := dep hd 0 rfl
          rw [d48]
          refine Gv.call 22 #[p] rfl (by go_simp) ((none_draw (HN.out.1.next (hv.trans (hS.mono hv.size)))).mono ?_)
          rintro e w' ⟨rfl, hx⟩
          exact ⟨_, rfl, rfl, hx⟩
        refine Obs.cons (fun u w hS hd => ?_) ?_
        · have d49 : u 49 = .slice none 0 0 := dep hd 1 rfl
          rw [d49]
          exact Gv.run (.int .i64 0) rfl (by go_simp) rfl
        refine Obs.cons (fun u w hS hd => ?_) ?_
        · exact Gv.run (p) rfl (by go_simp) rfl
        refine Obs.cons (fun u w hS hd => ?_) ?_
        · exact Gv.run (.slice A1 n1 c1) rfl (by go_simp) rfl
        refine Obs.cons (fun u w hS hd => ?_) ?_
        · have d52 : u 52 = .slice A1 n1 c1 := dep hd 4 rfl
          rw [d52]
          refine Gv.call 14 #[.slice A1 n1 c1] rfl (by go_simp) ((HO1.out w (HN.out.2.trans ((hv.trans (hS.mono hv.size)).mono HN.out.2.size))).mono ?_)
          rintro e w' ⟨A', c', rfl, hx⟩
          exact ⟨_, rfl, ⟨A', c', rfl⟩, hx⟩
        refine Obs.cons (fun u w hS hd => ?_) ?_
        · have d51 : u 51 = p := dep hd 3 rfl
          obtain ⟨A_53, c_53, d53⟩ : ∃ A c, u 53 = .slice A n1 c := dep hd 5 rfl
          rw [d51, d53]
          refine Gv.call 13 #[p, .slice A_53 n1 c_53] rfl (by go_simp) ((none_hash (HN.out.1.next (hv.trans (hS.mono hv.size)))).mono ?_)
          rintro e w' ⟨rfl, hx⟩
          exact ⟨_, rfl, rfl, hx⟩
        refine Obs.cons (fun u w hS hd => ?_) ?_
        · have d54 : u 54 = .slice none 0 0 := dep hd 6 rfl
          rw [d54]
          exact Gv.run (.int .i64 0) rfl (by go_simp) rfl
        refine Obs.cons (fun u w hS hd => ?_) ?_
        · have d50 : u 50 = .int .i64 0 := dep hd 2 rfl
          have d55 : u 55 = .int .i64 0 := dep hd 7 rfl
          rw [d50, d55]
          exact Gv.run (.int .i64 0) rfl (by go_simp; rfl) rfl
        refine Obs.cons (fun u w hS hd => ?_) ?_
        · exact Gv.run (p) rfl (by go_simp) rfl
        refine Obs.cons (fun u w hS hd => ?_) ?_
        · exact Gv.run (.slice A1 n1 c1) rfl (by go_simp) rfl
        refine Obs.cons (fun u w hS hd => ?_) ?_
        · have d58 : u 58 = .slice A1 n1 c1 := dep hd 10 rfl
          rw [d58]
          refine Gv.call 14 #[.slice A1 n1 c1] rfl (by go_simp) ((HO1.out w (HN.out.2.trans ((hv.trans (hS.mono hv.size)).mono HN.out.2.size))).mono ?_)
          rintro e w' ⟨A', c', rfl, hx⟩
          exact ⟨_, rfl, ⟨A', c', rfl⟩, hx⟩
        refine Obs.cons (fun u w hS hd => ?_) ?_
        · have d57 : u 57 = p := dep hd 9 rfl
          obtain ⟨A_59, c_59, d59⟩ : ∃ A c, u 59 = .slice A n1 c := dep hd 11 rfl
          rw [d57, d59]
          refine Gv.call 23 #[p, .slice A_59 n1 c_59] rfl (by go_simp) ((none_public (HN.out.1.next (hv.trans (hS.mono hv.size)))).mono ?_)
          rintro e w' ⟨rfl, hx⟩
          exact ⟨_, rfl, rfl, hx⟩
        refine Obs.cons (fun u w hS hd => ?_) ?_
        · have d60 : u 60 = .slice none 0 0 := dep hd 12 rfl
          rw [d60]
          exact Gv.run (.int .i64 0) rfl (by go_simp) rfl
        refine Obs.cons (fun u w hS hd => ?_) ?_
        · have d56 : u 56 = .int .i64 0 := dep hd 8 rfl
          have d61 : u 61 = .int .i64 0 := dep hd 13 rfl
          rw [d56, d61]
          exact Gv.run (.int .i64 0) rfl (by go_simp; rfl) rfl
        refine Obs.cons (fun u w hS hd => ?_) ?_
        · exact Gv.run (p) rfl (by go_simp) rfl
        refine Obs.cons (fun u w hS hd => ?_) ?_
        · exact Gv.run (.slice A1 n1 c1) rfl (by go_simp) rfl
        refine Obs.cons (fun u w hS hd => ?_) ?_
        · have d64 : u 64 = .slice A1 n1 c1 := dep hd 16 rfl
          rw [d64]
          refine Gv.call 14 #[.slice A1 n1 c1] rfl (by go_simp) ((HO1.out w (HN.out.2.trans ((hv.trans (hS.mono hv.size)).mono HN.out.2.size))).mono ?_)
          rintro e w' ⟨A', c', rfl, hx⟩
          exact ⟨_, rfl, ⟨A', c', rfl⟩, hx⟩
        refine Obs.cons (fun u w hS hd => ?_) ?_
        · exact Gv.run (.slice A2 n2 c2) rfl (by go_simp) rfl
        refine Obs.cons (fun u w hS hd => ?_) ?_
        · have d66 : u 66 = .slice A2 n2 c2 := dep hd 18 rfl
          rw [d66]
          refine Gv.call 14 #[.slice A2 n2 c2] rfl (by go_simp) ((HO2.out w (HN.out.2.trans ((hv.trans (hS.mono hv.size)).mono HN.out.2.size))).mono ?_)
          rintro e w' ⟨A', c', rfl, hx⟩
          exact ⟨_, rfl, ⟨A', c', rfl⟩, hx⟩
        refine Obs.cons (fun u w hS hd => ?_) ?_
        · have d63 : u 63 = p := dep hd 15 rfl
          obtain ⟨A_65, c_65, d65⟩ : ∃ A c, u 65 = .slice A n1 c := dep hd 17 rfl
          obtain ⟨A_67, c_67, d67⟩ : ∃ A c, u 67 = .slice A n2 c := dep hd 19 rfl
          rw [d63, d65, d67]
          refine Gv.call 24 #[p, .slice A_65 n1 c_65, .slice A_67 n2 c_67] rfl (by go_simp) ((none_derive (HN.out.1.next (hv.trans (hS.mono hv.size)))).mono ?_)
          rintro e w' ⟨rfl, hx⟩
          exact ⟨_, rfl, rfl, hx⟩
        refine Obs.cons (fun u w hS hd => ?_) ?_
        · have d68 : u 68 = .slice none 0 0 := dep hd 20 rfl
          rw [d68]
          exact Gv.run (.int .i64 0) rfl (by go_simp) rfl
        refine Obs.cons (fun u w hS hd => ?_) ?_
        · have d62 : u 62 = .int .i64 0 := dep hd 14 rfl
          have d69 : u 69 = .int .i64 0 := dep hd 21 rfl
          rw [d62, d69]
          exact Gv.run (.int .i64 0) rfl (by go_simp; rfl) rfl
        refine Obs.cons (fun u w hS hd => ?_) ?_
        · exact Gv.run (p) rfl (by go_simp) rfl
        refine Obs.cons (fun u w hS hd => ?_) ?_
        · exact Gv.run (.slice A1 n1 c1) rfl (by go_simp) rfl
        refine Obs.cons (fun u w hS hd => ?_) ?_
        · have d72 : u 72 = .slice A1 n1 c1 := dep hd 24 rfl
          rw [d72]
          refine Gv.call 14 #[.slice A1 n1 c1] rfl (by go_simp) ((HO1.out w (HN.out.2.trans ((hv.trans (hS.mono hv.size)).mono HN.out.2.size))).mono ?_)
          rintro e w' ⟨A', c', rfl, hx⟩
          exact ⟨_, rfl, ⟨A', c', rfl⟩, hx⟩
        refine Obs.cons (fun u w hS hd => ?_) ?_
        · have d71 : u 71 = p := dep hd 23 rfl
          obtain ⟨A_73, c_73, d73⟩ : ∃ A c, u 73 = .slice A n1 c := dep hd 25 rfl
          rw [d71, d73]
          refine Gv.call 17 #[p, .slice A_73 n1 c_73] rfl (by go_simp) ((none_signer (HN.out.1.next (hv.trans (hS.mono hv.size)))).mono ?_)
          rintro e w' ⟨rfl, hx⟩
          exact ⟨_, rfl, rfl, hx⟩
        refine Obs.cons (fun u w hS hd => ?_) ?_
        · have d74 : u 74 = .slice none 0 0 := dep hd 26 rfl
          rw [d74]
          exact Gv.run (.int .i64 0) rfl (by go_simp) rfl
        refine Obs.cons (fun u w hS hd => ?_) ?_
        · have d70 : u 70 = .int .i64 0 := dep hd 22 rfl
          have d75 : u 75 = .int .i64 0 := dep hd 27 rfl
          rw [d70, d75]
          exact Gv.run (.int .i64 0) rfl (by go_simp; rfl) rfl
        refine Obs.cons (fun u w hS hd => ?_) ?_
        · exact Gv.run (p) rfl (by go_simp) rfl
        refine Obs.cons (fun u w hS hd => ?_) ?_
        · exact Gv.run (.slice A1 n1 c1) rfl (by go_simp) rfl
        refine Obs.cons (fun u w hS hd => ?_) ?_
        · have d78 : u 78 = .slice A1 n1 c1 := dep hd 30 rfl
          rw [d78]
          refine Gv.call 14 #[.slice A1 n1 c1] rfl (by go_simp) ((HO1.out w (HN.out.2.trans ((hv.trans (hS.mono hv.size)).mono HN.out.2.size))).mono ?_)
          rintro e w' ⟨A', c', rfl, hx⟩
          exact ⟨_, rfl, ⟨A', c', rfl⟩, hx⟩
        refine Obs.cons (fun u w hS hd => ?_) ?_
        · exact Gv.run (.slice A2 n2 c2) rfl (by go_simp) rfl
        refine Obs.cons (fun u w hS hd => ?_) ?_
        · have d80 : u 80 = .slice A2 n2 c2 := dep hd 32 rfl
          rw [d80]
          refine Gv.call 14 #[.slice A2 n2 c2] rfl (by go_simp) ((HO2.out w (HN.out.2.trans ((hv.trans (hS.mono hv.size)).mono HN.out.2.size))).mono ?_)
          rintro e w' ⟨A', c', rfl, hx⟩
          exact ⟨_, rfl, ⟨A', c', rfl⟩, hx⟩
        refine Obs.cons (fun u w hS hd => ?_) ?_
        · have d77 : u 77 = p := dep hd 29 rfl
          obtain ⟨A_79, c_79, d79⟩ : ∃ A c, u 79 = .slice A n1 c := dep hd 31 rfl
          obtain ⟨A_81, c_81, d81⟩ : ∃ A c, u 81 = .slice A n2 c := dep hd 33 rfl
          rw [d77, d79, d81]
          refine Gv.call 16 #[p, .slice A_79 n1 c_79, .slice A_81 n2 c_81] rfl (by go_simp) ((none_sign (HN.out.1.next (hv.trans (hS.mono hv.size)))).mono ?_)
          rintro e w' ⟨rfl, hx⟩
          exact ⟨_, rfl, rfl, hx⟩
        refine Obs.cons (fun u w hS hd => ?_) ?_
        · have d82 : u 82 = .slice none 0 0 := dep hd 34 rfl
          rw [d82]
          exact Gv.run (.int .i64 0) rfl (by go_simp) rfl
        refine Obs.cons (fun u w hS hd => ?_) ?_
        · have d76 : u 76 = .int .i64 0 := dep hd 28 rfl
          have d83 : u 83 = .int .i64 0 := dep hd 35 rfl
          rw [d76, d83]
          exact Gv.run (.int .i64 0) rfl (by go_simp; rfl) rfl
        refine Obs.cons (fun u w hS hd => ?_) ?_
        · exact Gv.run (p) rfl (by go_simp) rfl
        refine Obs.cons (fun u w hS hd => ?_) ?_
        · exact Gv.run (.slice A1 n1 c1) rfl (by go_simp) rfl
        refine Obs.cons (fun u w hS hd => ?_) ?_
        · have d86 : u 86 = .slice A1 n1 c1 := dep hd 38 rfl
          rw [d86]
          refine Gv.call 14 #[.slice A1 n1 c1] rfl (by go_simp) ((HO1.out w (HN.out.2.trans ((hv.trans (hS.mono hv.size)).mono HN.out.2.size))).mono ?_)
          rintro e w' ⟨A', c', rfl, hx⟩
          exact ⟨_, rfl, ⟨A', c', rfl⟩, hx⟩
        refine Obs.cons (fun u w hS hd => ?_) ?_
        · exact Gv.run (.pointer (some ⟨g, 1, none⟩)) rfl (by go_simp) rfl
        refine Obs.cons (fun u w hS hd => ?_) ?_
        · have d88 : u 88 = .pointer (some ⟨g, 1, none⟩) := dep hd 40 rfl
          rw [d88]
          obtain ⟨q0, q1, q2, q3⟩ := HW1.out w (hv.trans (hS.mono hv.size))
          exact Gv.run (.int .i64 n) rfl (by go_simp) rfl
        refine Obs.cons (fun u w hS hd => ?_) ?_
        · exact Gv.run (.slice A2 n2 c2) rfl (by go_simp) rfl
        refine Obs.cons (fun u w hS hd => ?_) ?_
        · have d90 : u 90 = .slice A2 n2 c2 := dep hd 42 rfl
          rw [d90]
          refine Gv.call 14 #[.slice A2 n2 c2] rfl (by go_simp) ((HO2.out w (HN.out.2.trans ((hv.trans (hS.mono hv.size)).mono HN.out.2.size))).mono ?_)
          rintro e w' ⟨A', c', rfl, hx⟩
          exact ⟨_, rfl, ⟨A', c', rfl⟩, hx⟩
        refine Obs.cons (fun u w hS hd => ?_) ?_
        · exact Gv.run (.slice A3 n3 c3) rfl (by go_simp) rfl
        refine Obs.cons (fun u w hS hd => ?_) ?_
        · have d92 : u 92 = .slice A3 n3 c3 := dep hd 44 rfl
          rw [d92]
          refine Gv.call 14 #[.slice A3 n3 c3] rfl (by go_simp) ((HO3.out w (HN.out.2.trans ((hv.trans (hS.mono hv.size)).mono HN.out.2.size))).mono ?_)
          rintro e w' ⟨A', c', rfl, hx⟩
          exact ⟨_, rfl, ⟨A', c', rfl⟩, hx⟩
        refine Obs.cons (fun u w hS hd => ?_) ?_
        · have d85 : u 85 = p := dep hd 37 rfl
          have d89 : u 89 = .int .i64 n := dep hd 41 rfl
          obtain ⟨A_87, c_87, d87⟩ : ∃ A c, u 87 = .slice A n1 c := dep hd 39 rfl
          obtain ⟨A_91, c_91, d91⟩ : ∃ A c, u 91 = .slice A n2 c := dep hd 43 rfl
          obtain ⟨A_93, c_93, d93⟩ : ∃ A c, u 93 = .slice A n3 c := dep hd 45 rfl
          rw [d85, d89, d87, d91, d93]
          refine Gv.call 15 #[p, .slice A_87 n1 c_87, .int .i64 n, .slice A_91 n2 c_91, .slice A_93 n3 c_93] rfl (by go_simp) ((none_seal HB.out.2 (HN.out.1.next (hv.trans (hS.mono hv.size)))).mono ?_)
          rintro e w' ⟨rfl, hx⟩
          exact ⟨_, rfl, rfl, hx⟩
        refine Obs.cons (fun u w hS hd => ?_) ?_
        · have d94 : u 94 = .slice none 0 0 := dep hd 46 rfl
          rw [d94]
          exact Gv.run (.int .i64 0) rfl (by go_simp) rfl
        refine Obs.cons (fun u w hS hd => ?_) ?_
        · have d84 : u 84 = .int .i64 0 := dep hd 36 rfl
          have d95 : u 95 = .int .i64 0 := dep hd 47 rfl
          rw [d84, d95]
          exact Gv.run (.int .i64 0) rfl (by go_simp; rfl) rfl
        exact Obs.nil
      intro u7 w7 hS7 hd7
      have d96 : u7 96 = .int .i64 0 := hd7 48 (by decide)
      have hv7 := hv.trans (hS7.mono hv.size)
      clear hS7 hd7 hv
      have hv := hv7
      clear hv7
      rw [d96]
      go_wp2_with (first | (go_at_call 14; with_reducible refine (HO1.out _ (HN.out.2.trans (hv.mono HN.out.2.size))).mono ?_; rintro e vn ⟨Ax, cx, rfl, hx⟩; replace hv := hv.trans (hx.mono hv.size); clear hx) | (go_at_call 14; with_reducible refine (HO2.out _ (HN.out.2.trans (hv.mono HN.out.2.size))).mono ?_; rintro e vn ⟨Ax, cx, rfl, hx⟩; replace hv := hv.trans (hx.mono hv.size); clear hx) | (go_at_call 14; with_reducible refine (HO3.out _ (HN.out.2.trans (hv.mono HN.out.2.size))).mono ?_; rintro e vn ⟨Ax, cx, rfl, hx⟩; replace hv := hv.trans (hx.mono hv.size); clear hx) | (go_at_call 21; with_reducible refine (none_shared (HN.out.1.next hv)).mono ?_; rintro e vn ⟨rfl, hx⟩; replace hv := hv.trans (hx.mono hv.size); clear hx) | (go_at_call 19; with_reducible refine (none_verify (HN.out.1.next hv)).mono ?_; rintro e vn ⟨rfl, hx⟩; replace hv := hv.trans (hx.mono hv.size); clear hx) | (go_at_call 12; with_reducible refine (none_len (HN.out.1.next hv)).mono ?_; rintro e vn ⟨rfl, hx⟩; replace hv := hv.trans (hx.mono hv.size); clear hx) | (go_at_call 25; with_reducible refine (none_terms (HN.out.1.next hv)).mono ?_; rintro e vn ⟨rfl, hx⟩; replace hv := hv.trans (hx.mono hv.size); clear hx) | (go_at_call 11; with_reducible refine (none_clone (HN.out.1.next hv)).mono ?_; rintro e vn ⟨rfl, hx⟩; replace hv := hv.trans (hx.mono hv.size); clear hx) | (go_at_call 8; with_reducible refine (HA.out _).mono ?_; rintro e vn ⟨rfl, hx⟩; replace hv := hv.trans (hx.mono hv.size); clear hx))
      go_ret
      exact ⟨rfl, HB.out.1.trans ((HN.out.2.trans (hv.mono HN.out.2.size)).mono HB.out.1.size)⟩
end Go.Proofs.Ytdddcgkgellbgab
