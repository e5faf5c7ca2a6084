/-
  Layer 15, the document's Less, Has, Dropped. By an AI agent.
-/
import Derived.Test.YtpjeggbkhbghaaaFd1
import Derived.Deep.QuietTactic
import Derived.BigQuiet
namespace Go.Proofs.Ytpjeggbkhbghaaa
open Go Go.RowKit
set_option maxRecDepth 20000
def intF : Value → Int | .int _ q => q | _ => 0
theorem rless_any (a b : IDt) (w : World) : Calls Try.prog 84 #[idV a, idV b] w fun e w' => e = .returned (.bool (idLt a b)) ∧ Below w.heap.size w w' := by
  have hb : Below w.heap.size w ((w.alloc (.cells #[.int .i64 a.1, .int .i64 a.2] 27)).alloc (.cells #[.int .i64 b.1, .int .i64 b.2] 27)) := ((Below.refl _ _).alloc (Nat.le_refl _) _).alloc (by simp) _
  have HB := Lib.hid hb
  clear hb
  by_cases h : a.1 = b.1
  · have HL := Lib.hid (show idLt a b = decide (a.2 < b.2) by unfold idLt; rw [if_neg (fun h' => h' h)])
    have g1 : (a.1 != b.1) = false := by simp [h]
    have HH := Lib.hid h
    clear h
    go_enter Try.func84, Try.ntmps84
    go_wp2_with fail
    go_ret
    rw [HL.out]
    exact ⟨rfl, HB.out⟩
  · have HL := Lib.hid (show idLt a b = decide (a.1 < b.1) by unfold idLt; rw [if_pos h])
    have g1 : (a.1 != b.1) = true := by simp [h]
    clear h
    go_enter Try.func84, Try.ntmps84
    go_wp2_with fail
    go_ret
    rw [HL.out]
    exact ⟨rfl, HB.out⟩
/-- Is there such an element? -/
def hasB (L : List Ins) (i : IDt) : Bool := L.any fun y => decide (y.id = i)
theorem hasB_iff {L : List Ins} {i : IDt} : hasB L i = true ↔ hasL L i := by
  unfold hasB hasL
  simp
theorem any_take_succ {α : Type} {L : List α} {k : Nat} {x : α} (p : α → Bool) (h : L[k]? = some x) : (L.take (k + 1)).any p = ((L.take k).any p || p x) := by
  rw [List.take_add_one, h]
  simp
set_option maxHeartbeats 1600000 in
theorem rhas_any {v : Value} {B : Nat} {L : List Ins} {G : List IDt} (i : IDt) (w : World) (h : RdT w B v L G) (hB : B ≤ w.heap.size) (hl : L.length ≤ 1000000) :
    Calls Try.prog 66 #[v, idV i] w fun e w' => e = .returned (.bool (hasB (L) i)) ∧ Below w.heap.size w w' := by
  obtain ⟨A1, c1, A2, c2, rfl, r1, r2⟩ := h
  obtain ⟨v1, ev⟩ : ∃ v, v = (w.alloc (.cells #[.slice A1 L.length c1, .slice A2 G.length c2] 91)).alloc (.cells #[.int .i64 i.1, .int .i64 i.2] 27) := ⟨_, rfl⟩
  obtain ⟨g, eg⟩ : ∃ g, g = w.heap.size := ⟨_, rfl⟩
  have hb : Below w.heap.size w v1 := by rw [ev]; exact ((Below.refl _ _).alloc (Nat.le_refl _) _).alloc (by simp) _
  obtain ⟨n, en⟩ : ∃ n, n = L.length := ⟨_, rfl⟩
  have hq : v1.cell? ⟨g, 0, none⟩ = some (.slice A1 n c1) ∧ v1.cell? ⟨g + 1, 0, none⟩ = some (.int .i64 i.1) ∧ v1.cell? ⟨g + 1, 1, none⟩ = some (.int .i64 i.2) := by
    rw [ev, eg, en]
    simp
  have hs : v1.heap.size = g + 2 := by rw [ev, eg]; simp
  have r1' := r1.keep (hb.mono hB)
  have HV := Lib.hid (And.intro ev eg)
  have HQ := Lib.hid (And.intro hb (And.intro hs (And.intro r1' (And.intro hq hB))))
  have HL := Lib.hid (And.intro en hl)
  clear ev hb hs r1 r2 r1' hq en hl hB
  go_enter Try.func66, Try.ntmps66
  go_upto_region 1 with fail
  rw [← HV.out.1, ← HV.out.2]
  clear HV eg
  go_wp2_with fail
  go_loopw [5] (fun k wr => ∃ m : Nat, m ≤ n ∧ k = .int .i64 (m : Int) ∧ Below v1.heap.size v1 wr ∧ hasB (L.take m) i = false) (fun k _ => n - (intF k).toNat)
  case atStart => exact ⟨0, Nat.zero_le _, rfl, Below.refl _ _, rfl⟩
  case round =>
    obtain ⟨m, hm, rfl, hbr, hn⟩ := hrel
    have q0 := (hbr.cell (p := ⟨g, 0, none⟩) (show g < v1.heap.size by rw [HQ.out.2.1]; omega)).trans HQ.out.2.2.2.1.1
    have q1 := (hbr.cell (p := ⟨g + 1, 0, none⟩) (show g + 1 < v1.heap.size by rw [HQ.out.2.1]; omega)).trans HQ.out.2.2.2.1.2.1
    have q2 := (hbr.cell (p := ⟨g + 1, 1, none⟩) (show g + 1 < v1.heap.size by rw [HQ.out.2.1]; omega)).trans HQ.out.2.2.2.1.2.2
    have HBR := Lib.hid hbr
    have r1 := HQ.out.2.2.1.keep (hbr.mono (Nat.le_trans HQ.out.2.2.2.2 HQ.out.1.size))
    by_cases hlt : m < n
    · obtain ⟨x, hx⟩ : ∃ x, L[m]? = some x := getD_of (by rw [← HL.out.1]; exact hlt)
      obtain ⟨b, o, rfl, hbB, x0, x1, _⟩ := ins_at r1 hx
      have g1 : (m : Int) < (n : Int) := by omega
      have g2 : n ≤ 1000000 := by rw [HL.out.1]; exact HL.out.2
      have HM := Lib.hid (And.intro hn hx)
      obtain ⟨x1', ex1⟩ : ∃ q, q = x.id.1 := ⟨_, rfl⟩
      obtain ⟨x2', ex2⟩ : ∃ q, q = x.id.2 := ⟨_, rfl⟩
      rw [← ex1] at x0
      rw [← ex2] at x1
      have HX := Lib.hid (And.intro ex1 ex2)
      have hin : g < wr.heap.size ∧ g + 1 < wr.heap.size ∧ b < wr.heap.size := ⟨by have := hbr.size; rw [HQ.out.2.1] at this; omega, by have := hbr.size; rw [HQ.out.2.1] at this; omega, Nat.lt_of_lt_of_le hbB (Nat.le_trans HQ.out.2.2.2.2 (Nat.le_trans HQ.out.1.size hbr.size))⟩
      have HS := Lib.hid (fun wz (hz : Below wr.heap.size wr wz) => show wz.cell? ⟨g, 0, none⟩ = some (.slice (some ⟨b, o, none⟩) n c1) ∧ wz.cell? ⟨g + 1, 0, none⟩ = some (.int .i64 i.1) ∧ wz.cell? ⟨g + 1, 1, none⟩ = some (.int .i64 i.2) ∧ wz.cell? ⟨b, o + m * 6, none⟩ = some (.int .i64 x1') ∧ wz.cell? ⟨b, o + m * 6 + 1, none⟩ = some (.int .i64 x2') from
        ⟨(hz.cell (p := ⟨g, 0, none⟩) hin.1).trans q0, (hz.cell (p := ⟨g + 1, 0, none⟩) hin.2.1).trans q1, (hz.cell (p := ⟨g + 1, 1, none⟩) hin.2.1).trans q2, (hz.cell (p := ⟨b, o + m * 6, none⟩) hin.2.2).trans x0, (hz.cell (p := ⟨b, o + m * 6 + 1, none⟩) hin.2.2).trans x1⟩)
      clear hn hx ex1 ex2 hbr r1 x0 x1 hin hbB q1 q2 hlt
      go_upto_region 4 with fail
      clear q0
      refine wp_region_inv 7 [13, 14, 15, 16, 17, 18, 19] [.val (.pointer (some ⟨g, 0, none⟩)), .val (.slice (some ⟨b, o, none⟩) n c1), .val (.int .i64 (m : Int)), .val (.pointer (some ⟨b, o + m * 6, none⟩)), .val (.pointer (some ⟨b, o + m * 6, none⟩)), .val (.agg #[.int .i64 x1', .int .i64 x2']), .val (.agg #[.int .i64 i.1, .int .i64 i.2])] (fun wz => Below wr.heap.size wr wz) (by kernel_rfl) (by kernel_rfl) (fun wz wz' hz hb => hz.trans (hb.mono hz.size)) ((Below.refl _ _).drew) (fun u => by simp only [puts, List.foldl_cons, List.foldl_nil]; go_simp; exact rfl) ?_ ?_
      · simp only [List.take_succ_cons, List.take_zero]
        refine Obs.cons (fun u w hS hd => ?_) ?_
        · exact Gv.run (.pointer (some ⟨g, 0, none⟩)) rfl (by go_simp) rfl
        refine Obs.cons (fun u w hS hd => ?_) ?_
        · have d13 : u 13 = .pointer (some ⟨g, 0, none⟩) := dep hd 0 rfl
          rw [d13]
          exact Gv.run (.slice (some ⟨b, o, none⟩) n c1) rfl (by obtain ⟨k0, k1, k2, k3, k4⟩ := HS.out w hS; go_simp) rfl
        refine Obs.cons (fun u w hS hd => ?_) ?_
        · exact Gv.run (.int .i64 (m : Int)) rfl (by go_simp) rfl
        refine Obs.cons (fun u w hS hd => ?_) ?_
        · have d14 : u 14 = .slice (some ⟨b, o, none⟩) n c1 := dep hd 1 rfl
          have d15 : u 15 = .int .i64 (m : Int) := dep hd 2 rfl
          rw [d14, d15]
          exact Gv.run (.pointer (some ⟨b, o + m * 6, none⟩)) rfl (by go_simp) rfl
        refine Obs.cons (fun u w hS hd => ?_) ?_
        · have d16 : u 16 = .pointer (some ⟨b, o + m * 6, none⟩) := dep hd 3 rfl
          rw [d16]
          exact Gv.run (.pointer (some ⟨b, o + m * 6, none⟩)) rfl (by go_simp) rfl
        refine Obs.cons (fun u w hS hd => ?_) ?_
        · have d17 : u 17 = .pointer (some ⟨b, o + m * 6, none⟩) := dep hd 4 rfl
          rw [d17]
          exact Gv.run (.agg #[.int .i64 x1', .int .i64 x2']) rfl (by obtain ⟨k0, k1, k2, k3, k4⟩ := HS.out w hS; go_simp) rfl
        refine Obs.cons (fun u w hS hd => ?_) ?_
        · exact Gv.run (.agg #[.int .i64 i.1, .int .i64 i.2]) rfl (by obtain ⟨k0, k1, k2, k3, k4⟩ := HS.out w hS; go_simp) rfl
        exact Obs.nil
      intro u1 v3 hS hd
      have d18 : u1 18 = .agg #[.int .i64 x1', .int .i64 x2'] := hd 5 (by decide)
      have d19 : u1 19 = .agg #[.int .i64 i.1, .int .i64 i.2] := hd 6 (by decide)
      rw [d18, d19]
      simp only [List.drop_succ_cons, List.drop_zero]
      have HB3 := Lib.hid (HBR.out.trans (hS.mono HBR.out.size))
      clear hS hd d18 d19
      by_cases h1 : x1' = i.1
      · by_cases h2 : x2' = i.2
        · have hi : x.id = i := Prod.ext (HX.out.1.symm.trans h1) (HX.out.2.symm.trans h2)
          have HR := Lib.hid (show hasB (L) i = true by
            exact hasB_iff.2 ⟨x, List.mem_of_getElem? HM.out.2, hi⟩)
          subst h1
          subst h2
          clear hi
          go_wp2_with fail
          go_ret
          rw [HR.out]
          exact ⟨rfl, HQ.out.1.trans (HB3.out.mono HQ.out.1.size)⟩
        · have hi : ¬ x.id = i := fun h => h2 (by rw [HX.out.2, h])
          have HR := Lib.hid (show hasB (L.take (m + 1)) i = false by
            unfold hasB at *; rw [any_take_succ _ HM.out.2, HM.out.1, decide_eq_false hi]; rfl)
          subst h1
          clear hi
          go_wp2_with fail
          exact ⟨⟨m + 1, by omega, by go_num, HB3.out, HR.out⟩, by simp [intF]; omega⟩
      · have hi : ¬ x.id = i := fun h => h1 (by rw [HX.out.1, h])
        have HR := Lib.hid (show hasB (L.take (m + 1)) i = false by
          unfold hasB at *; rw [any_take_succ _ HM.out.2, HM.out.1, decide_eq_false hi]; rfl)
        clear hi
        go_wp2_with fail
        exact ⟨⟨m + 1, by omega, by go_num, HB3.out, HR.out⟩, by simp [intF]; omega⟩
    · obtain rfl : m = n := by omega
      have g1 : ¬ (m : Int) < (m : Int) := by omega
      have HN := Lib.hid (show hasB (L) i = false by rw [← hn, HL.out.1, List.take_length])
      clear hn hm hlt q1 q2 r1 hbr
      go_wp2_with fail
      go_ret
      rw [HN.out]
      exact ⟨rfl, HQ.out.1.trans (HBR.out.mono HQ.out.1.size)⟩
/-- Was it dropped? -/
def goneB (G : List IDt) (i : IDt) : Bool := G.any fun y => decide (y = i)
theorem goneB_eq (G : List IDt) (i : IDt) : goneB G i = decide (i ∈ G) := by
  unfold goneB
  by_cases h : i ∈ G
  · rw [decide_eq_true h]
    exact List.any_eq_true.2 ⟨i, h, by simp⟩
  · rw [decide_eq_false h]
    refine List.any_eq_false.2 fun y hy => ?_
    simp only [decide_eq_true_eq]
    rintro rfl
    exact h hy
set_option maxHeartbeats 1600000 in
theorem rgone_any {v : Value} {B : Nat} {L : List Ins} {G : List IDt} (i : IDt) (w : World) (h : RdT w B v L G) (hB : B ≤ w.heap.size) (hl : G.length ≤ 1000000) :
    Calls Try.prog 67 #[v, idV i] w fun e w' => e = .returned (.bool (goneB (G) i)) ∧ Below w.heap.size w w' := by
  obtain ⟨A1, c1, A2, c2, rfl, r1, r2⟩ := h
  obtain ⟨v1, ev⟩ : ∃ v, v = (w.alloc (.cells #[.slice A1 L.length c1, .slice A2 G.length c2] 91)).alloc (.cells #[.int .i64 i.1, .int .i64 i.2] 27) := ⟨_, rfl⟩
  obtain ⟨g, eg⟩ : ∃ g, g = w.heap.size := ⟨_, rfl⟩
  have hb : Below w.heap.size w v1 := by rw [ev]; exact ((Below.refl _ _).alloc (Nat.le_refl _) _).alloc (by simp) _
  obtain ⟨n, en⟩ : ∃ n, n = G.length := ⟨_, rfl⟩
  have hq : v1.cell? ⟨g, 1, none⟩ = some (.slice A2 n c2) ∧ v1.cell? ⟨g + 1, 0, none⟩ = some (.int .i64 i.1) ∧ v1.cell? ⟨g + 1, 1, none⟩ = some (.int .i64 i.2) := by
    rw [ev, eg, en]
    simp
  have hs : v1.heap.size = g + 2 := by rw [ev, eg]; simp
  have r1' := r2.keep (hb.mono hB)
  have HV := Lib.hid (And.intro ev eg)
  have HQ := Lib.hid (And.intro hb (And.intro hs (And.intro r1' (And.intro hq hB))))
  have HL := Lib.hid (And.intro en hl)
  clear ev hb hs r1 r2 r1' hq en hl hB
  go_enter Try.func67, Try.ntmps67
  go_upto_region 1 with fail
  rw [← HV.out.1, ← HV.out.2]
  clear HV eg
  go_wp2_with fail
  go_loopw [5] (fun k wr => ∃ m : Nat, m ≤ n ∧ k = .int .i64 (m : Int) ∧ Below v1.heap.size v1 wr ∧ goneB (G.take m) i = false) (fun k _ => n - (intF k).toNat)
  case atStart => exact ⟨0, Nat.zero_le _, rfl, Below.refl _ _, rfl⟩
  case round =>
    obtain ⟨m, hm, rfl, hbr, hn⟩ := hrel
    have q0 := (hbr.cell (p := ⟨g, 1, none⟩) (show g < v1.heap.size by rw [HQ.out.2.1]; omega)).trans HQ.out.2.2.2.1.1
    have q1 := (hbr.cell (p := ⟨g + 1, 0, none⟩) (show g + 1 < v1.heap.size by rw [HQ.out.2.1]; omega)).trans HQ.out.2.2.2.1.2.1
    have q2 := (hbr.cell (p := ⟨g + 1, 1, none⟩) (show g + 1 < v1.heap.size by rw [HQ.out.2.1]; omega)).trans HQ.out.2.2.2.1.2.2
    have HBR := Lib.hid hbr
    have r1 := HQ.out.2.2.1.keep (hbr.mono (Nat.le_trans HQ.out.2.2.2.2 HQ.out.1.size))
    by_cases hlt : m < n
    · obtain ⟨x, hx⟩ : ∃ x, G[m]? = some x := getD_of (by rw [← HL.out.1]; exact hlt)
      obtain ⟨b, o, rfl, hbB, x0, x1⟩ := id_at r1 hx
      have g1 : (m : Int) < (n : Int) := by omega
      have g2 : n ≤ 1000000 := by rw [HL.out.1]; exact HL.out.2
      have HM := Lib.hid (And.intro hn hx)
      obtain ⟨x1', ex1⟩ : ∃ q, q = x.1 := ⟨_, rfl⟩
      obtain ⟨x2', ex2⟩ : ∃ q, q = x.2 := ⟨_, rfl⟩
      rw [← ex1] at x0
      rw [← ex2] at x1
      have HX := Lib.hid (And.intro ex1 ex2)
      have hin : g < wr.heap.size ∧ g + 1 < wr.heap.size ∧ b < wr.heap.size := ⟨by have := hbr.size; rw [HQ.out.2.1] at this; omega, by have := hbr.size; rw [HQ.out.2.1] at this; omega, Nat.lt_of_lt_of_le hbB (Nat.le_trans HQ.out.2.2.2.2 (Nat.le_trans HQ.out.1.size hbr.size))⟩
      have HS := Lib.hid (fun wz (hz : Below wr.heap.size wr wz) => show wz.cell? ⟨g, 1, none⟩ = some (.slice (some ⟨b, o, none⟩) n c2) ∧ wz.cell? ⟨g + 1, 0, none⟩ = some (.int .i64 i.1) ∧ wz.cell? ⟨g + 1, 1, none⟩ = some (.int .i64 i.2) ∧ wz.cell? ⟨b, o + m * 2, none⟩ = some (.int .i64 x1') ∧ wz.cell? ⟨b, o + m * 2 + 1, none⟩ = some (.int .i64 x2') from
        ⟨(hz.cell (p := ⟨g, 1, none⟩) hin.1).trans q0, (hz.cell (p := ⟨g + 1, 0, none⟩) hin.2.1).trans q1, (hz.cell (p := ⟨g + 1, 1, none⟩) hin.2.1).trans q2, (hz.cell (p := ⟨b, o + m * 2, none⟩) hin.2.2).trans x0, (hz.cell (p := ⟨b, o + m * 2 + 1, none⟩) hin.2.2).trans x1⟩)
      clear hn hx ex1 ex2 hbr r1 x0 x1 hin hbB q1 q2 hlt
      go_upto_region 4 with fail
      clear q0
      refine wp_region_inv 6 [13, 14, 15, 16, 17, 18] [.val (.pointer (some ⟨g, 1, none⟩)), .val (.slice (some ⟨b, o, none⟩) n c2), .val (.int .i64 (m : Int)), .val (.pointer (some ⟨b, o + m * 2, none⟩)), .val (.agg #[.int .i64 x1', .int .i64 x2']), .val (.agg #[.int .i64 i.1, .int .i64 i.2])] (fun wz => Below wr.heap.size wr wz) (by kernel_rfl) (by kernel_rfl) (fun wz wz' hz hb => hz.trans (hb.mono hz.size)) ((Below.refl _ _).drew) (fun u => by simp only [puts, List.foldl_cons, List.foldl_nil]; go_simp; exact rfl) ?_ ?_
      · simp only [List.take_succ_cons, List.take_zero]
        refine Obs.cons (fun u w hS hd => ?_) ?_
        · exact Gv.run (.pointer (some ⟨g, 1, none⟩)) rfl (by go_simp) rfl
        refine Obs.cons (fun u w hS hd => ?_) ?_
        · have d13 : u 13 = .pointer (some ⟨g, 1, none⟩) := dep hd 0 rfl
          rw [d13]
          exact Gv.run (.slice (some ⟨b, o, none⟩) n c2) rfl (by obtain ⟨k0, k1, k2, k3, k4⟩ := HS.out w hS; go_simp) rfl
        refine Obs.cons (fun u w hS hd => ?_) ?_
        · exact Gv.run (.int .i64 (m : Int)) rfl (by go_simp) rfl
        refine Obs.cons (fun u w hS hd => ?_) ?_
        · have d14 : u 14 = .slice (some ⟨b, o, none⟩) n c2 := dep hd 1 rfl
          have d15 : u 15 = .int .i64 (m : Int) := dep hd 2 rfl
          rw [d14, d15]
          exact Gv.run (.pointer (some ⟨b, o + m * 2, none⟩)) rfl (by go_simp) rfl
        refine Obs.cons (fun u w hS hd => ?_) ?_
        · have d16 : u 16 = .pointer (some ⟨b, o + m * 2, none⟩) := dep hd 3 rfl
          rw [d16]
          exact Gv.run (.agg #[.int .i64 x1', .int .i64 x2']) rfl (by obtain ⟨k0, k1, k2, k3, k4⟩ := HS.out w hS; go_simp) rfl
        refine Obs.cons (fun u w hS hd => ?_) ?_
        · exact Gv.run (.agg #[.int .i64 i.1, .int .i64 i.2]) rfl (by obtain ⟨k0, k1, k2, k3, k4⟩ := HS.out w hS; go_simp) rfl
        exact Obs.nil
      intro u1 v3 hS hd
      have d17 : u1 17 = .agg #[.int .i64 x1', .int .i64 x2'] := hd 4 (by decide)
      have d18 : u1 18 = .agg #[.int .i64 i.1, .int .i64 i.2] := hd 5 (by decide)
      rw [d17, d18]
      simp only [List.drop_succ_cons, List.drop_zero]
      have HB3 := Lib.hid (HBR.out.trans (hS.mono HBR.out.size))
      clear hS hd d17 d18
      by_cases h1 : x1' = i.1
      · by_cases h2 : x2' = i.2
        · have hi : x = i := Prod.ext (HX.out.1.symm.trans h1) (HX.out.2.symm.trans h2)
          have HR := Lib.hid (show goneB (G) i = true by
            exact List.any_eq_true.2 ⟨x, List.mem_of_getElem? HM.out.2, by simp [hi]⟩)
          subst h1
          subst h2
          clear hi
          go_wp2_with fail
          go_ret
          rw [HR.out]
          exact ⟨rfl, HQ.out.1.trans (HB3.out.mono HQ.out.1.size)⟩
        · have hi : ¬ x = i := fun h => h2 (by rw [HX.out.2, h])
          have HR := Lib.hid (show goneB (G.take (m + 1)) i = false by
            unfold goneB at *; rw [any_take_succ _ HM.out.2, HM.out.1, decide_eq_false hi]; rfl)
          subst h1
          clear hi
          go_wp2_with fail
          exact ⟨⟨m + 1, by omega, by go_num, HB3.out, HR.out⟩, by simp [intF]; omega⟩
      · have hi : ¬ x = i := fun h => h1 (by rw [HX.out.1, h])
        have HR := Lib.hid (show goneB (G.take (m + 1)) i = false by
          unfold goneB at *; rw [any_take_succ _ HM.out.2, HM.out.1, decide_eq_false hi]; rfl)
        clear hi
        go_wp2_with fail
        exact ⟨⟨m + 1, by omega, by go_num, HB3.out, HR.out⟩, by simp [intF]; omega⟩
    · obtain rfl : m = n := by omega
      have g1 : ¬ (m : Int) < (m : Int) := by omega
      have HN := Lib.hid (show goneB (G) i = false by rw [← hn, HL.out.1, List.take_length])
      clear hn hm hlt q1 q2 r1 hbr
      go_wp2_with fail
      go_ret
      rw [HN.out]
      exact ⟨rfl, HQ.out.1.trans (HBR.out.mono HQ.out.1.size)⟩
end Go.Proofs.Ytpjeggbkhbghaaa
