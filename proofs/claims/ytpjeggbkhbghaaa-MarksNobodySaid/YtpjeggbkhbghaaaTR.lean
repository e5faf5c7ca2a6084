/-
  Layer 16, the document's Same. By an AI agent. Layer 16, the document's SameRuns. By an AI agent.
-/
import Derived.Test.YtpjeggbkhbghaaaTL
import Derived.Test.YtpjeggbkhbghaaaTN
namespace Go.Proofs.Ytpjeggbkhbghaaa
open Go Go.RowKit
set_option maxRecDepth 20000
/-- Are they one list? -/
noncomputable def oneB {α : Type} (M N : List α) : Bool := @decide (M = N) (Classical.propDecidable _)
theorem oneB_yes {α : Type} {M N : List α} (h : M = N) : oneB M N = true := by unfold oneB; simp [h]
theorem oneB_no {α : Type} {M N : List α} (h : M ≠ N) : oneB M N = false := by unfold oneB; simp [h]
theorem Mrk.ext' {x y : Mrk} (h0 : x.clock = y.clock) (h1 : x.author = y.author) (h2 : x.from_.id.1 = y.from_.id.1) (h3 : x.from_.id.2 = y.from_.id.2) (h4 : x.from_.behind = y.from_.behind) (h5 : x.upto.id.1 = y.upto.id.1) (h6 : x.upto.id.2 = y.upto.id.2) (h7 : x.upto.behind = y.upto.behind) (h8 : x.name = y.name) (h9 : x.value = y.value) : x = y := by
  obtain ⟨a, b, ⟨⟨c, d⟩, e⟩, ⟨⟨f, g⟩, h⟩, i, j⟩ := x
  obtain ⟨a', b', ⟨⟨c', d'⟩, e'⟩, ⟨⟨f', g'⟩, h'⟩, i', j'⟩ := y
  simp only at h0 h1 h2 h3 h4 h5 h6 h7 h8 h9
  subst h0 h1 h2 h3 h4 h5 h6 h7 h8 h9
  rfl
set_option maxHeartbeats 3200000 in
theorem msame_any {M N : List Mrk} {A A2 : Option Addr} {c c2 B B2 : Nat} (w : World) (r1 : RdR mrkE w B A c M) (r2 : RdR mrkE w B2 A2 c2 N) (hB : B ≤ w.heap.size) (hB2 : B2 ≤ w.heap.size) (hl : M.length ≤ 1000000) :
    Calls Try.prog 16 #[.slice A M.length c, .slice A2 N.length c2] w fun e w' => e = .returned (.bool (oneB M N)) ∧ Below w.heap.size w w' := by
  obtain ⟨n, en⟩ : ∃ n, n = M.length := ⟨_, rfl⟩
  obtain ⟨n2, en2⟩ : ∃ n, n = N.length := ⟨_, rfl⟩
  rw [← en, ← en2]
  by_cases hn : n = n2
  case neg =>
    have HNE := Lib.hid (show M ≠ N from fun h => hn (by rw [en, en2, h]))
    have g1 : ((n : Int) != (n2 : Int)) = true := by simp; omega
    clear hn r1 r2 en en2 hl hB hB2
    go_enter Try.func16, Try.ntmps16
    go_wp2_with fail
    go_ret
    rw [oneB_no HNE.out]
    exact ⟨rfl, Below.refl _ _⟩
  subst hn
  have HL := Lib.hid (And.intro en (And.intro en2 hl))
  have HR := Lib.hid (And.intro r1 (And.intro r2 (And.intro hB hB2)))
  clear en en2 hl r1 r2 hB hB2
  go_enter Try.func16, Try.ntmps16
  go_wp2_with fail
  go_loopw [5] (fun kv wr => ∃ k : Nat, k ≤ n ∧ kv = .int .i64 (k : Int) ∧ M.take k = N.take k ∧ Below w.heap.size w wr) (fun kv _ => n - (intF kv).toNat)
  case atStart => exact ⟨0, Nat.zero_le _, rfl, rfl, Below.refl _ _⟩
  case round =>
    obtain ⟨k, hk, rfl, heq, hbr⟩ := hrel
    by_cases hlt : k < n
    case neg =>
      obtain rfl : k = n := by omega
      have g1 : ¬ (k : Int) < (k : Int) := by omega
      have HE := Lib.hid (show M = N by
        have h1 : M.take k = M := by rw [HL.out.1, List.take_length]
        have h2 : N.take k = N := by rw [HL.out.2.1, List.take_length]
        rw [← h1, ← h2, heq])
      have HBR := Lib.hid hbr
      clear heq hbr hk hlt
      go_wp2_with fail
      go_ret
      rw [oneB_yes HE.out]
      exact ⟨rfl, HBR.out⟩
    obtain ⟨x, hx⟩ : ∃ x, M[k]? = some x := getD_of (by rw [← HL.out.1]; exact hlt)
    obtain ⟨y, hy⟩ : ∃ y, N[k]? = some y := getD_of (by rw [← HL.out.2.1]; exact hlt)
    obtain ⟨b, o, rfl, hbB, X0, X1, X2, X3, X4, X5, X6, X7, X8, X9⟩ := mrk_at (HR.out.1.keep (hbr.mono HR.out.2.2.1)) hx
    obtain ⟨b2, o2, rfl, hbB2, Y0, Y1, Y2, Y3, Y4, Y5, Y6, Y7, Y8, Y9⟩ := mrk_at (HR.out.2.1.keep (hbr.mono HR.out.2.2.2)) hy
    have g1 : (k : Int) < (n : Int) := by omega
    have g2 : n ≤ 1000000 := by rw [HL.out.1]; exact HL.out.2.2
    obtain ⟨x0, ex0⟩ : ∃ q, q = x.clock := ⟨_, rfl⟩
    rw [← ex0] at X0
    obtain ⟨x1, ex1⟩ : ∃ q, q = x.author := ⟨_, rfl⟩
    rw [← ex1] at X1
    obtain ⟨x2, ex2⟩ : ∃ q, q = x.from_.id.1 := ⟨_, rfl⟩
    rw [← ex2] at X2
    obtain ⟨x3, ex3⟩ : ∃ q, q = x.from_.id.2 := ⟨_, rfl⟩
    rw [← ex3] at X3
    obtain ⟨x4, ex4⟩ : ∃ q, q = x.from_.behind := ⟨_, rfl⟩
    rw [← ex4] at X4
    obtain ⟨x5, ex5⟩ : ∃ q, q = x.upto.id.1 := ⟨_, rfl⟩
    rw [← ex5] at X5
    obtain ⟨x6, ex6⟩ : ∃ q, q = x.upto.id.2 := ⟨_, rfl⟩
    rw [← ex6] at X6
    obtain ⟨x7, ex7⟩ : ∃ q, q = x.upto.behind := ⟨_, rfl⟩
    rw [← ex7] at X7
    obtain ⟨x8, ex8⟩ : ∃ q, q = x.name := ⟨_, rfl⟩
    rw [← ex8] at X8
    obtain ⟨x9, ex9⟩ : ∃ q, q = x.value := ⟨_, rfl⟩
    rw [← ex9] at X9
    obtain ⟨y0, ey0⟩ : ∃ q, q = y.clock := ⟨_, rfl⟩
    rw [← ey0] at Y0
    obtain ⟨y1, ey1⟩ : ∃ q, q = y.author := ⟨_, rfl⟩
    rw [← ey1] at Y1
    obtain ⟨y2, ey2⟩ : ∃ q, q = y.from_.id.1 := ⟨_, rfl⟩
    rw [← ey2] at Y2
    obtain ⟨y3, ey3⟩ : ∃ q, q = y.from_.id.2 := ⟨_, rfl⟩
    rw [← ey3] at Y3
    obtain ⟨y4, ey4⟩ : ∃ q, q = y.from_.behind := ⟨_, rfl⟩
    rw [← ey4] at Y4
    obtain ⟨y5, ey5⟩ : ∃ q, q = y.upto.id.1 := ⟨_, rfl⟩
    rw [← ey5] at Y5
    obtain ⟨y6, ey6⟩ : ∃ q, q = y.upto.id.2 := ⟨_, rfl⟩
    rw [← ey6] at Y6
    obtain ⟨y7, ey7⟩ : ∃ q, q = y.upto.behind := ⟨_, rfl⟩
    rw [← ey7] at Y7
    obtain ⟨y8, ey8⟩ : ∃ q, q = y.name := ⟨_, rfl⟩
    rw [← ey8] at Y8
    obtain ⟨y9, ey9⟩ : ∃ q, q = y.value := ⟨_, rfl⟩
    rw [← ey9] at Y9
    have hin : b < wr.heap.size ∧ b2 < wr.heap.size := ⟨Nat.lt_of_lt_of_le hbB (Nat.le_trans HR.out.2.2.1 hbr.size), Nat.lt_of_lt_of_le hbB2 (Nat.le_trans HR.out.2.2.2 hbr.size)⟩
    have HS := Lib.hid (fun wz (hz : Below wr.heap.size wr wz) => show wz.cell? ⟨b, o + k * 10, none⟩ = some (.int .i64 x0) ∧ wz.cell? ⟨b, o + k * 10 + 1, none⟩ = some (.int .i64 x1) ∧ wz.cell? ⟨b, o + k * 10 + 2, none⟩ = some (.int .i64 x2) ∧ wz.cell? ⟨b, o + k * 10 + 3, none⟩ = some (.int .i64 x3) ∧ wz.cell? ⟨b, o + k * 10 + 4, none⟩ = some (.bool x4) ∧ wz.cell? ⟨b, o + k * 10 + 5, none⟩ = some (.int .i64 x5) ∧ wz.cell? ⟨b, o + k * 10 + 6, none⟩ = some (.int .i64 x6) ∧ wz.cell? ⟨b, o + k * 10 + 7, none⟩ = some (.bool x7) ∧ wz.cell? ⟨b, o + k * 10 + 8, none⟩ = some (.int .i64 x8) ∧ wz.cell? ⟨b, o + k * 10 + 9, none⟩ = some (.int .i64 x9) ∧ wz.cell? ⟨b2, o2 + k * 10, none⟩ = some (.int .i64 y0) ∧ wz.cell? ⟨b2, o2 + k * 10 + 1, none⟩ = some (.int .i64 y1) ∧ wz.cell? ⟨b2, o2 + k * 10 + 2, none⟩ = some (.int .i64 y2) ∧ wz.cell? ⟨b2, o2 + k * 10 + 3, none⟩ = some (.int .i64 y3) ∧ wz.cell? ⟨b2, o2 + k * 10 + 4, none⟩ = some (.bool y4) ∧ wz.cell? ⟨b2, o2 + k * 10 + 5, none⟩ = some (.int .i64 y5) ∧ wz.cell? ⟨b2, o2 + k * 10 + 6, none⟩ = some (.int .i64 y6) ∧ wz.cell? ⟨b2, o2 + k * 10 + 7, none⟩ = some (.bool y7) ∧ wz.cell? ⟨b2, o2 + k * 10 + 8, none⟩ = some (.int .i64 y8) ∧ wz.cell? ⟨b2, o2 + k * 10 + 9, none⟩ = some (.int .i64 y9) from
      ⟨(hz.cell (p := ⟨b, o + k * 10, none⟩) hin.1).trans X0, (hz.cell (p := ⟨b, o + k * 10 + 1, none⟩) hin.1).trans X1, (hz.cell (p := ⟨b, o + k * 10 + 2, none⟩) hin.1).trans X2, (hz.cell (p := ⟨b, o + k * 10 + 3, none⟩) hin.1).trans X3, (hz.cell (p := ⟨b, o + k * 10 + 4, none⟩) hin.1).trans X4, (hz.cell (p := ⟨b, o + k * 10 + 5, none⟩) hin.1).trans X5, (hz.cell (p := ⟨b, o + k * 10 + 6, none⟩) hin.1).trans X6, (hz.cell (p := ⟨b, o + k * 10 + 7, none⟩) hin.1).trans X7, (hz.cell (p := ⟨b, o + k * 10 + 8, none⟩) hin.1).trans X8, (hz.cell (p := ⟨b, o + k * 10 + 9, none⟩) hin.1).trans X9, (hz.cell (p := ⟨b2, o2 + k * 10, none⟩) hin.2).trans Y0, (hz.cell (p := ⟨b2, o2 + k * 10 + 1, none⟩) hin.2).trans Y1, (hz.cell (p := ⟨b2, o2 + k * 10 + 2, none⟩) hin.2).trans Y2, (hz.cell (p := ⟨b2, o2 + k * 10 + 3, none⟩) hin.2).trans Y3, (hz.cell (p := ⟨b2, o2 + k * 10 + 4, none⟩) hin.2).trans Y4, (hz.cell (p := ⟨b2, o2 + k * 10 + 5, none⟩) hin.2).trans Y5, (hz.cell (p := ⟨b2, o2 + k * 10 + 6, none⟩) hin.2).trans Y6, (hz.cell (p := ⟨b2, o2 + k * 10 + 7, none⟩) hin.2).trans Y7, (hz.cell (p := ⟨b2, o2 + k * 10 + 8, none⟩) hin.2).trans Y8, (hz.cell (p := ⟨b2, o2 + k * 10 + 9, none⟩) hin.2).trans Y9⟩)
    have HX := Lib.hid (And.intro ex0 (And.intro ex1 (And.intro ex2 (And.intro ex3 (And.intro ex4 (And.intro ex5 (And.intro ex6 (And.intro ex7 (And.intro ex8 (And.intro ex9 (And.intro ey0 (And.intro ey1 (And.intro ey2 (And.intro ey3 (And.intro ey4 (And.intro ey5 (And.intro ey6 (And.intro ey7 (And.intro ey8 (ey9))))))))))))))))))))
    have HXY := Lib.hid (fun (h : M = N) => show x = y by rw [h, hy] at hx; exact (Option.some.inj hx).symm)
    have HT := Lib.hid (fun (h : x = y) => show M.take (k + 1) = N.take (k + 1) by rw [take_snoc hx, take_snoc hy, heq, h])
    have HBR := Lib.hid hbr
    have HK := Lib.hid hlt
    clear ex0 ex1 ex2 ex3 ex4 ex5 ex6 ex7 ex8 ex9 ey0 ey1 ey2 ey3 ey4 ey5 ey6 ey7 ey8 ey9 X0 X1 X2 X3 X4 X5 X6 X7 X8 X9 Y0 Y1 Y2 Y3 Y4 Y5 Y6 Y7 Y8 Y9 hin hbB hbB2 hx hy heq hbr hk hlt
    go_upto_region 6 with fail
    refine wp_region_inv 8 [17, 18, 19, 20, 21, 22, 23, 24] [.val (.slice (some ⟨b, o, none⟩) n c), .val (.int .i64 (k : Int)), .val (.pointer (some ⟨b, o + k * 10, none⟩)), .val (.agg #[.int .i64 x0, .int .i64 x1, .int .i64 x2, .int .i64 x3, .bool x4, .int .i64 x5, .int .i64 x6, .bool x7, .int .i64 x8, .int .i64 x9]), .val (.slice (some ⟨b2, o2, none⟩) n c2), .val (.int .i64 (k : Int)), .val (.pointer (some ⟨b2, o2 + k * 10, none⟩)), .val (.agg #[.int .i64 y0, .int .i64 y1, .int .i64 y2, .int .i64 y3, .bool y4, .int .i64 y5, .int .i64 y6, .bool y7, .int .i64 y8, .int .i64 y9])] (fun wz => Below wr.heap.size wr wz) (by kernel_rfl) (by kernel_rfl) (fun wz wz' hz hb => hz.trans (hb.mono hz.size)) ((Below.refl _ _).drew) (fun u => by simp only [puts, List.foldl_cons, List.foldl_nil]; go_simp; exact rfl) ?_ ?_
    · simp only [List.take_succ_cons, List.take_zero]
      refine Obs.cons (fun u w hS hd => ?_) ?_
      · exact Gv.run (.slice (some ⟨b, o, none⟩) n c) rfl (by go_simp) rfl
      refine Obs.cons (fun u w hS hd => ?_) ?_
      · exact Gv.run (.int .i64 (k : Int)) rfl (by go_simp) rfl
      refine Obs.cons (fun u w hS hd => ?_) ?_
      · have d17 : u 17 = .slice (some ⟨b, o, none⟩) n c := dep hd 0 rfl
        have d18 : u 18 = .int .i64 (k : Int) := dep hd 1 rfl
        rw [d17, d18]
        exact Gv.run (.pointer (some ⟨b, o + k * 10, none⟩)) rfl (by go_simp) rfl
      refine Obs.cons (fun u w hS hd => ?_) ?_
      · have d19 : u 19 = .pointer (some ⟨b, o + k * 10, none⟩) := dep hd 2 rfl
        rw [d19]
        exact Gv.run (.agg #[.int .i64 x0, .int .i64 x1, .int .i64 x2, .int .i64 x3, .bool x4, .int .i64 x5, .int .i64 x6, .bool x7, .int .i64 x8, .int .i64 x9]) rfl (by obtain ⟨k0, k1, k2, k3, k4, k5, k6, k7, k8, k9, k10, k11, k12, k13, k14, k15, k16, k17, k18, k19⟩ := HS.out w hS; go_simp) rfl
      refine Obs.cons (fun u w hS hd => ?_) ?_
      · exact Gv.run (.slice (some ⟨b2, o2, none⟩) n c2) rfl (by go_simp) rfl
      refine Obs.cons (fun u w hS hd => ?_) ?_
      · exact Gv.run (.int .i64 (k : Int)) rfl (by go_simp) rfl
      refine Obs.cons (fun u w hS hd => ?_) ?_
      · have d21 : u 21 = .slice (some ⟨b2, o2, none⟩) n c2 := dep hd 4 rfl
        have d22 : u 22 = .int .i64 (k : Int) := dep hd 5 rfl
        rw [d21, d22]
        exact Gv.run (.pointer (some ⟨b2, o2 + k * 10, none⟩)) rfl (by go_simp) rfl
      refine Obs.cons (fun u w hS hd => ?_) ?_
      · have d23 : u 23 = .pointer (some ⟨b2, o2 + k * 10, none⟩) := dep hd 6 rfl
        rw [d23]
        exact Gv.run (.agg #[.int .i64 y0, .int .i64 y1, .int .i64 y2, .int .i64 y3, .bool y4, .int .i64 y5, .int .i64 y6, .bool y7, .int .i64 y8, .int .i64 y9]) rfl (by obtain ⟨k0, k1, k2, k3, k4, k5, k6, k7, k8, k9, k10, k11, k12, k13, k14, k15, k16, k17, k18, k19⟩ := HS.out w hS; go_simp) rfl
      exact Obs.nil
    intro u1 v3 hS hd
    have d20 : u1 20 = .agg #[.int .i64 x0, .int .i64 x1, .int .i64 x2, .int .i64 x3, .bool x4, .int .i64 x5, .int .i64 x6, .bool x7, .int .i64 x8, .int .i64 x9] := hd 3 (by decide)
    have d24 : u1 24 = .agg #[.int .i64 y0, .int .i64 y1, .int .i64 y2, .int .i64 y3, .bool y4, .int .i64 y5, .int .i64 y6, .bool y7, .int .i64 y8, .int .i64 y9] := hd 7 (by decide)
    rw [d20, d24]
    simp only [List.drop_succ_cons, List.drop_zero]
    have HB3 := Lib.hid (HBR.out.trans (hS.mono HBR.out.size))
    clear hS hd d20 d24
    by_cases h0 : x0 = y0
    case neg =>
      have HNE := Lib.hid (show M ≠ N from fun h => h0 (by rw [HX.out.1, HX.out.2.2.2.2.2.2.2.2.2.2.1, HXY.out h]))
      go_wp2_with fail
      go_ret
      rw [oneB_no HNE.out]
      exact ⟨rfl, HB3.out⟩
    by_cases h1 : x1 = y1
    case neg =>
      have HNE := Lib.hid (show M ≠ N from fun h => h1 (by rw [HX.out.2.1, HX.out.2.2.2.2.2.2.2.2.2.2.2.1, HXY.out h]))
      subst h0
      go_wp2_with fail
      go_ret
      rw [oneB_no HNE.out]
      exact ⟨rfl, HB3.out⟩
    by_cases h2 : x2 = y2
    case neg =>
      have HNE := Lib.hid (show M ≠ N from fun h => h2 (by rw [HX.out.2.2.1, HX.out.2.2.2.2.2.2.2.2.2.2.2.2.1, HXY.out h]))
      subst h0 h1
      go_wp2_with fail
      go_ret
      rw [oneB_no HNE.out]
      exact ⟨rfl, HB3.out⟩
    by_cases h3 : x3 = y3
    case neg =>
      have HNE := Lib.hid (show M ≠ N from fun h => h3 (by rw [HX.out.2.2.2.1, HX.out.2.2.2.2.2.2.2.2.2.2.2.2.2.1, HXY.out h]))
      subst h0 h1 h2
      go_wp2_with fail
      go_ret
      rw [oneB_no HNE.out]
      exact ⟨rfl, HB3.out⟩
    by_cases h4 : x4 = y4
    case neg =>
      have HNE := Lib.hid (show M ≠ N from fun h => h4 (by rw [HX.out.2.2.2.2.1, HX.out.2.2.2.2.2.2.2.2.2.2.2.2.2.2.1, HXY.out h]))
      subst h0 h1 h2 h3
      have g3 : (x4 == y4) = false := by simpa using h4
      go_wp2_with fail
      go_ret
      rw [oneB_no HNE.out]
      exact ⟨rfl, HB3.out⟩
    by_cases h5 : x5 = y5
    case neg =>
      have HNE := Lib.hid (show M ≠ N from fun h => h5 (by rw [HX.out.2.2.2.2.2.1, HX.out.2.2.2.2.2.2.2.2.2.2.2.2.2.2.2.1, HXY.out h]))
      subst h0 h1 h2 h3 h4
      go_wp2_with fail
      go_ret
      rw [oneB_no HNE.out]
      exact ⟨rfl, HB3.out⟩
    by_cases h6 : x6 = y6
    case neg =>
      have HNE := Lib.hid (show M ≠ N from fun h => h6 (by rw [HX.out.2.2.2.2.2.2.1, HX.out.2.2.2.2.2.2.2.2.2.2.2.2.2.2.2.2.1, HXY.out h]))
      subst h0 h1 h2 h3 h4 h5
      go_wp2_with fail
      go_ret
      rw [oneB_no HNE.out]
      exact ⟨rfl, HB3.out⟩
    by_cases h7 : x7 = y7
    case neg =>
      have HNE := Lib.hid (show M ≠ N from fun h => h7 (by rw [HX.out.2.2.2.2.2.2.2.1, HX.out.2.2.2.2.2.2.2.2.2.2.2.2.2.2.2.2.2.1, HXY.out h]))
      subst h0 h1 h2 h3 h4 h5 h6
      have g3 : (x7 == y7) = false := by simpa using h7
      go_wp2_with fail
      go_ret
      rw [oneB_no HNE.out]
      exact ⟨rfl, HB3.out⟩
    by_cases h8 : x8 = y8
    case neg =>
      have HNE := Lib.hid (show M ≠ N from fun h => h8 (by rw [HX.out.2.2.2.2.2.2.2.2.1, HX.out.2.2.2.2.2.2.2.2.2.2.2.2.2.2.2.2.2.2.1, HXY.out h]))
      subst h0 h1 h2 h3 h4 h5 h6 h7
      go_wp2_with fail
      go_ret
      rw [oneB_no HNE.out]
      exact ⟨rfl, HB3.out⟩
    by_cases h9 : x9 = y9
    case neg =>
      have HNE := Lib.hid (show M ≠ N from fun h => h9 (by rw [HX.out.2.2.2.2.2.2.2.2.2.1, HX.out.2.2.2.2.2.2.2.2.2.2.2.2.2.2.2.2.2.2.2, HXY.out h]))
      subst h0 h1 h2 h3 h4 h5 h6 h7 h8
      go_wp2_with fail
      go_ret
      rw [oneB_no HNE.out]
      exact ⟨rfl, HB3.out⟩
    have HEQ := Lib.hid (show x = y from Mrk.ext' (by rw [← HX.out.1, ← HX.out.2.2.2.2.2.2.2.2.2.2.1, h0]) (by rw [← HX.out.2.1, ← HX.out.2.2.2.2.2.2.2.2.2.2.2.1, h1]) (by rw [← HX.out.2.2.1, ← HX.out.2.2.2.2.2.2.2.2.2.2.2.2.1, h2]) (by rw [← HX.out.2.2.2.1, ← HX.out.2.2.2.2.2.2.2.2.2.2.2.2.2.1, h3]) (by rw [← HX.out.2.2.2.2.1, ← HX.out.2.2.2.2.2.2.2.2.2.2.2.2.2.2.1, h4]) (by rw [← HX.out.2.2.2.2.2.1, ← HX.out.2.2.2.2.2.2.2.2.2.2.2.2.2.2.2.1, h5]) (by rw [← HX.out.2.2.2.2.2.2.1, ← HX.out.2.2.2.2.2.2.2.2.2.2.2.2.2.2.2.2.1, h6]) (by rw [← HX.out.2.2.2.2.2.2.2.1, ← HX.out.2.2.2.2.2.2.2.2.2.2.2.2.2.2.2.2.2.1, h7]) (by rw [← HX.out.2.2.2.2.2.2.2.2.1, ← HX.out.2.2.2.2.2.2.2.2.2.2.2.2.2.2.2.2.2.2.1, h8]) (by rw [← HX.out.2.2.2.2.2.2.2.2.2.1, ← HX.out.2.2.2.2.2.2.2.2.2.2.2.2.2.2.2.2.2.2.2, h9]))
    subst h0 h1 h2 h3 h4 h5 h6 h7 h8 h9
    go_wp2_with fail
    exact ⟨⟨k + 1, by have := HK.out; omega, by go_num, HT.out HEQ.out, HB3.out⟩, by simp [intF]; have := HK.out; omega⟩
end Go.Proofs.Ytpjeggbkhbghaaa
namespace Go.Proofs.Ytpjeggbkhbghaaa
open Go Go.RowKit
set_option maxRecDepth 20000
theorem bytes_ne {a b : ByteArray} (h : ¬ a = b) : (a.toList == b.toList) = false := by
  rw [beq_eq_false_iff_ne]
  intro e
  refine h ?_
  rw [ByteArray.toList_eq, ByteArray.toList_eq] at e
  obtain ⟨x⟩ := a
  obtain ⟨y⟩ := b
  exact congrArg ByteArray.mk (Array.toList_inj.1 e)
theorem sty_inj {a b c d e a' b' c' d' e' : Int} (h : (⟨a, b, c, d, e⟩ : Sty) = ⟨a', b', c', d', e'⟩) : a = a' ∧ b = b' ∧ c = c' ∧ d = d' ∧ e = e' := by
  injection h with h1 h2 h3 h4 h5
  exact ⟨h1, h2, h3, h4, h5⟩
set_option maxHeartbeats 3200000 in
theorem rsruns_any {M N : List Rn} {A A2 : Option Addr} {c c2 B B2 : Nat} (w : World) (r1 : RdR runE w B A c M) (r2 : RdR runE w B2 A2 c2 N) (hB : B ≤ w.heap.size) (hB2 : B2 ≤ w.heap.size) (hl : M.length ≤ 1000000) :
    Calls Try.prog 26 #[.slice A M.length c, .slice A2 N.length c2] w fun e w' => e = .returned (.bool (oneB M N)) ∧ Below w.heap.size w w' := by
  obtain ⟨n, en⟩ : ∃ n, n = M.length := ⟨_, rfl⟩
  obtain ⟨n2, en2⟩ : ∃ n, n = N.length := ⟨_, rfl⟩
  rw [← en, ← en2]
  by_cases hn : n = n2
  case neg =>
    have HNE := Lib.hid (show M ≠ N from fun h => hn (by rw [en, en2, h]))
    have g1 : ((n : Int) != (n2 : Int)) = true := by simp; omega
    clear hn r1 r2 en en2 hl hB hB2
    go_enter Try.func26, Try.ntmps26
    go_wp2_with fail
    go_ret
    rw [oneB_no HNE.out]
    exact ⟨rfl, Below.refl _ _⟩
  subst hn
  have HL := Lib.hid (And.intro en (And.intro en2 hl))
  have HR := Lib.hid (And.intro r1 (And.intro r2 (And.intro hB hB2)))
  clear en en2 hl r1 r2 hB hB2
  go_enter Try.func26, Try.ntmps26
  go_wp2_with fail
  go_loopw [5] (fun kv wr => ∃ k : Nat, k ≤ n ∧ kv = .int .i64 (k : Int) ∧ M.take k = N.take k ∧ Below w.heap.size w wr) (fun kv _ => n - (intF kv).toNat)
  case atStart => exact ⟨0, Nat.zero_le _, rfl, rfl, Below.refl _ _⟩
  case round =>
    obtain ⟨k, hk, rfl, heq, hbr⟩ := hrel
    by_cases hlt : k < n
    case neg =>
      obtain rfl : k = n := by omega
      have g1 : ¬ (k : Int) < (k : Int) := by omega
      have HE := Lib.hid (show M = N by
        have h1 : M.take k = M := by rw [HL.out.1, List.take_length]
        have h2 : N.take k = N := by rw [HL.out.2.1, List.take_length]
        rw [← h1, ← h2, heq])
      have HBR := Lib.hid hbr
      clear heq hbr hk hlt
      go_wp2_with fail
      go_ret
      rw [oneB_yes HE.out]
      exact ⟨rfl, HBR.out⟩
    obtain ⟨x, hx⟩ : ∃ x, M[k]? = some x := getD_of (by rw [← HL.out.1]; exact hlt)
    obtain ⟨y, hy⟩ : ∃ y, N[k]? = some y := getD_of (by rw [← HL.out.2.1]; exact hlt)
    obtain ⟨b, o, rfl, hbB, X0, X1, X2, X3, X4, X5⟩ := run_at (HR.out.1.keep (hbr.mono HR.out.2.2.1)) hx
    obtain ⟨b2, o2, rfl, hbB2, Y0, Y1, Y2, Y3, Y4, Y5⟩ := run_at (HR.out.2.1.keep (hbr.mono HR.out.2.2.2)) hy
    have g1 : (k : Int) < (n : Int) := by omega
    have g2 : n ≤ 1000000 := by rw [HL.out.1]; exact HL.out.2.2
    obtain ⟨x0, ex0⟩ : ∃ q, q = x.text := ⟨_, rfl⟩
    rw [← ex0] at X0
    obtain ⟨x1, ex1⟩ : ∃ q, q = x.sty.a0 := ⟨_, rfl⟩
    rw [← ex1] at X1
    obtain ⟨x2, ex2⟩ : ∃ q, q = x.sty.a1 := ⟨_, rfl⟩
    rw [← ex2] at X2
    obtain ⟨x3, ex3⟩ : ∃ q, q = x.sty.a2 := ⟨_, rfl⟩
    rw [← ex3] at X3
    obtain ⟨x4, ex4⟩ : ∃ q, q = x.sty.a3 := ⟨_, rfl⟩
    rw [← ex4] at X4
    obtain ⟨x5, ex5⟩ : ∃ q, q = x.sty.a4 := ⟨_, rfl⟩
    rw [← ex5] at X5
    obtain ⟨y0, ey0⟩ : ∃ q, q = y.text := ⟨_, rfl⟩
    rw [← ey0] at Y0
    obtain ⟨y1, ey1⟩ : ∃ q, q = y.sty.a0 := ⟨_, rfl⟩
    rw [← ey1] at Y1
    obtain ⟨y2, ey2⟩ : ∃ q, q = y.sty.a1 := ⟨_, rfl⟩
    rw [← ey2] at Y2
    obtain ⟨y3, ey3⟩ : ∃ q, q = y.sty.a2 := ⟨_, rfl⟩
    rw [← ey3] at Y3
    obtain ⟨y4, ey4⟩ : ∃ q, q = y.sty.a3 := ⟨_, rfl⟩
    rw [← ey4] at Y4
    obtain ⟨y5, ey5⟩ : ∃ q, q = y.sty.a4 := ⟨_, rfl⟩
    rw [← ey5] at Y5
    have hin : b < wr.heap.size ∧ b2 < wr.heap.size := ⟨Nat.lt_of_lt_of_le hbB (Nat.le_trans HR.out.2.2.1 hbr.size), Nat.lt_of_lt_of_le hbB2 (Nat.le_trans HR.out.2.2.2 hbr.size)⟩
    have HS := Lib.hid (fun wz (hz : Below wr.heap.size wr wz) => show wz.cell? ⟨b, o + k * 6, none⟩ = some (.string x0) ∧ wz.cell? ⟨b, o + k * 6 + 1, none⟩ = some (.int .i64 x1) ∧ wz.cell? ⟨b, o + k * 6 + 2, none⟩ = some (.int .i64 x2) ∧ wz.cell? ⟨b, o + k * 6 + 3, none⟩ = some (.int .i64 x3) ∧ wz.cell? ⟨b, o + k * 6 + 4, none⟩ = some (.int .i64 x4) ∧ wz.cell? ⟨b, o + k * 6 + 5, none⟩ = some (.int .i64 x5) ∧ wz.cell? ⟨b2, o2 + k * 6, none⟩ = some (.string y0) ∧ wz.cell? ⟨b2, o2 + k * 6 + 1, none⟩ = some (.int .i64 y1) ∧ wz.cell? ⟨b2, o2 + k * 6 + 2, none⟩ = some (.int .i64 y2) ∧ wz.cell? ⟨b2, o2 + k * 6 + 3, none⟩ = some (.int .i64 y3) ∧ wz.cell? ⟨b2, o2 + k * 6 + 4, none⟩ = some (.int .i64 y4) ∧ wz.cell? ⟨b2, o2 + k * 6 + 5, none⟩ = some (.int .i64 y5) from
      ⟨(hz.cell (p := ⟨b, o + k * 6, none⟩) hin.1).trans X0, (hz.cell (p := ⟨b, o + k * 6 + 1, none⟩) hin.1).trans X1, (hz.cell (p := ⟨b, o + k * 6 + 2, none⟩) hin.1).trans X2, (hz.cell (p := ⟨b, o + k * 6 + 3, none⟩) hin.1).trans X3, (hz.cell (p := ⟨b, o + k * 6 + 4, none⟩) hin.1).trans X4, (hz.cell (p := ⟨b, o + k * 6 + 5, none⟩) hin.1).trans X5, (hz.cell (p := ⟨b2, o2 + k * 6, none⟩) hin.2).trans Y0, (hz.cell (p := ⟨b2, o2 + k * 6 + 1, none⟩) hin.2).trans Y1, (hz.cell (p := ⟨b2, o2 + k * 6 + 2, none⟩) hin.2).trans Y2, (hz.cell (p := ⟨b2, o2 + k * 6 + 3, none⟩) hin.2).trans Y3, (hz.cell (p := ⟨b2, o2 + k * 6 + 4, none⟩) hin.2).trans Y4, (hz.cell (p := ⟨b2, o2 + k * 6 + 5, none⟩) hin.2).trans Y5⟩)
    have HX := Lib.hid (And.intro ex0 (And.intro ex1 (And.intro ex2 (And.intro ex3 (And.intro ex4 (And.intro ex5 (And.intro ey0 (And.intro ey1 (And.intro ey2 (And.intro ey3 (And.intro ey4 (ey5))))))))))))
    have HXY := Lib.hid (fun (h : M = N) => show x = y by rw [h, hy] at hx; exact (Option.some.inj hx).symm)
    have HT := Lib.hid (fun (h : x = y) => show M.take (k + 1) = N.take (k + 1) by rw [take_snoc hx, take_snoc hy, heq, h])
    have HBR := Lib.hid hbr
    have HK := Lib.hid hlt
    clear ex0 ex1 ex2 ex3 ex4 ex5 ey0 ey1 ey2 ey3 ey4 ey5 X0 X1 X2 X3 X4 X5 Y0 Y1 Y2 Y3 Y4 Y5 hin hbB hbB2 hx hy heq hbr hk hlt
    go_upto_region 6 with fail
    refine wp_region_inv 8 [17, 18, 19, 20, 21, 22, 23, 24] [.val (.slice (some ⟨b, o, none⟩) n c), .val (.int .i64 (k : Int)), .val (.pointer (some ⟨b, o + k * 6, none⟩)), .val (.agg #[.string x0, .int .i64 x1, .int .i64 x2, .int .i64 x3, .int .i64 x4, .int .i64 x5]), .val (.slice (some ⟨b2, o2, none⟩) n c2), .val (.int .i64 (k : Int)), .val (.pointer (some ⟨b2, o2 + k * 6, none⟩)), .val (.agg #[.string y0, .int .i64 y1, .int .i64 y2, .int .i64 y3, .int .i64 y4, .int .i64 y5])] (fun wz => Below wr.heap.size wr wz) (by kernel_rfl) (by kernel_rfl) (fun wz wz' hz hb => hz.trans (hb.mono hz.size)) ((Below.refl _ _).drew) (fun u => by simp only [puts, List.foldl_cons, List.foldl_nil]; go_simp; exact rfl) ?_ ?_
    · simp only [List.take_succ_cons, List.take_zero]
      refine Obs.cons (fun u w hS hd => ?_) ?_
      · exact Gv.run (.slice (some ⟨b, o, none⟩) n c) rfl (by go_simp) rfl
      refine Obs.cons (fun u w hS hd => ?_) ?_
      · exact Gv.run (.int .i64 (k : Int)) rfl (by go_simp) rfl
      refine Obs.cons (fun u w hS hd => ?_) ?_
      · have d17 : u 17 = .slice (some ⟨b, o, none⟩) n c := dep hd 0 rfl
        have d18 : u 18 = .int .i64 (k : Int) := dep hd 1 rfl
        rw [d17, d18]
        exact Gv.run (.pointer (some ⟨b, o + k * 6, none⟩)) rfl (by go_simp) rfl
      refine Obs.cons (fun u w hS hd => ?_) ?_
      · have d19 : u 19 = .pointer (some ⟨b, o + k * 6, none⟩) := dep hd 2 rfl
        rw [d19]
        exact Gv.run (.agg #[.string x0, .int .i64 x1, .int .i64 x2, .int .i64 x3, .int .i64 x4, .int .i64 x5]) rfl (by obtain ⟨k0, k1, k2, k3, k4, k5, k6, k7, k8, k9, k10, k11⟩ := HS.out w hS; go_simp) rfl
      refine Obs.cons (fun u w hS hd => ?_) ?_
      · exact Gv.run (.slice (some ⟨b2, o2, none⟩) n c2) rfl (by go_simp) rfl
      refine Obs.cons (fun u w hS hd => ?_) ?_
      · exact Gv.run (.int .i64 (k : Int)) rfl (by go_simp) rfl
      refine Obs.cons (fun u w hS hd => ?_) ?_
      · have d21 : u 21 = .slice (some ⟨b2, o2, none⟩) n c2 := dep hd 4 rfl
        have d22 : u 22 = .int .i64 (k : Int) := dep hd 5 rfl
        rw [d21, d22]
        exact Gv.run (.pointer (some ⟨b2, o2 + k * 6, none⟩)) rfl (by go_simp) rfl
      refine Obs.cons (fun u w hS hd => ?_) ?_
      · have d23 : u 23 = .pointer (some ⟨b2, o2 + k * 6, none⟩) := dep hd 6 rfl
        rw [d23]
        exact Gv.run (.agg #[.string y0, .int .i64 y1, .int .i64 y2, .int .i64 y3, .int .i64 y4, .int .i64 y5]) rfl (by obtain ⟨k0, k1, k2, k3, k4, k5, k6, k7, k8, k9, k10, k11⟩ := HS.out w hS; go_simp) rfl
      exact Obs.nil
    intro u1 v3 hS hd
    have d20 : u1 20 = .agg #[.string x0, .int .i64 x1, .int .i64 x2, .int .i64 x3, .int .i64 x4, .int .i64 x5] := hd 3 (by decide)
    have d24 : u1 24 = .agg #[.string y0, .int .i64 y1, .int .i64 y2, .int .i64 y3, .int .i64 y4, .int .i64 y5] := hd 7 (by decide)
    rw [d20, d24]
    simp only [List.drop_succ_cons, List.drop_zero]
    have HB3 := Lib.hid (HBR.out.trans (hS.mono HBR.out.size))
    clear hS hd d20 d24
    have hq := fun wz => eqSty9999 ⟨x1, x2, x3, x4, x5⟩ ⟨y1, y2, y3, y4, y5⟩ wz
    by_cases hs : (⟨x1, x2, x3, x4, x5⟩ : Sty) = ⟨y1, y2, y3, y4, y5⟩
    case neg =>
      have HNE := Lib.hid (show M ≠ N from fun h => hs (by rw [HX.out.2.1, HX.out.2.2.1, HX.out.2.2.2.1, HX.out.2.2.2.2.1, HX.out.2.2.2.2.2.1, HX.out.2.2.2.2.2.2.2.1, HX.out.2.2.2.2.2.2.2.2.1, HX.out.2.2.2.2.2.2.2.2.2.1, HX.out.2.2.2.2.2.2.2.2.2.2.1, HX.out.2.2.2.2.2.2.2.2.2.2.2, HXY.out h]))
      rw [decide_eq_false hs] at hq
      clear hs
      by_cases h0 : x0 = y0
      · subst h0
        go_wp2_with fail
        go_ret
        rw [oneB_no HNE.out]
        exact ⟨rfl, HB3.out⟩
      · have g3 : (x0.toList == y0.toList) = false := bytes_ne h0
        go_wp2_with fail
        go_ret
        rw [oneB_no HNE.out]
        exact ⟨rfl, HB3.out⟩
    rw [decide_eq_true hs] at hq
    by_cases h0 : x0 = y0
    case neg =>
      have HNE := Lib.hid (show M ≠ N from fun h => h0 (by rw [HX.out.1, HX.out.2.2.2.2.2.2.1, HXY.out h]))
      have g3 : (x0.toList == y0.toList) = false := bytes_ne h0
      clear hs
      go_wp2_with fail
      go_ret
      rw [oneB_no HNE.out]
      exact ⟨rfl, HB3.out⟩
    have HEQ := Lib.hid (show x = y from Rn.ext' (by rw [← HX.out.1, ← HX.out.2.2.2.2.2.2.1, h0]) (by rw [← HX.out.2.1, ← HX.out.2.2.2.2.2.2.2.1, (sty_inj hs).1]) (by rw [← HX.out.2.2.1, ← HX.out.2.2.2.2.2.2.2.2.1, (sty_inj hs).2.1]) (by rw [← HX.out.2.2.2.1, ← HX.out.2.2.2.2.2.2.2.2.2.1, (sty_inj hs).2.2.1]) (by rw [← HX.out.2.2.2.2.1, ← HX.out.2.2.2.2.2.2.2.2.2.2.1, (sty_inj hs).2.2.2.1]) (by rw [← HX.out.2.2.2.2.2.1, ← HX.out.2.2.2.2.2.2.2.2.2.2.2, (sty_inj hs).2.2.2.2]))
    subst h0
    obtain ⟨rfl, rfl, rfl, rfl, rfl⟩ := sty_inj hs
    go_wp2_with fail
    exact ⟨⟨k + 1, by have := HK.out; omega, by go_num, HT.out HEQ.out, HB3.out⟩, by simp [intF]; have := HK.out; omega⟩
end Go.Proofs.Ytpjeggbkhbghaaa
