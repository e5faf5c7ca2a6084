/-
  Layer 15, the document's Same. By an AI agent. Layer 15, the document's Text. By an AI agent. Layer 15, the document's Plan. By an AI agent.
-/
import Derived.Test.YtljciakgdpihdaaFa4
namespace Go.Proofs.Ytljciakgdpihdaa
open Go Go.RowKit
set_option maxRecDepth 20000
theorem Nod.ext' {x y : Nod} (h0 : x.id.1 = y.id.1) (h1 : x.id.2 = y.id.2) (h2 : x.rune = y.rune) (h3 : x.gone = y.gone) : x = y := by
  obtain ⟨⟨a, b⟩, c, d⟩ := x
  obtain ⟨⟨a', b'⟩, c', d'⟩ := y
  simp only at h0 h1 h2 h3
  subst h0 h1 h2 h3
  rfl
/-- Are they one list? -/
noncomputable def sameB (M N : List Nod) : Bool := @decide (M = N) (Classical.propDecidable _)
theorem sameB_yes {M N : List Nod} (h : M = N) : sameB M N = true := by unfold sameB; simp [h]
theorem sameB_no {M N : List Nod} (h : M ≠ N) : sameB M N = false := by unfold sameB; simp [h]
set_option maxHeartbeats 1600000 in
theorem rsame_any {M N : List Nod} {A A2 : Option Addr} {c c2 B B2 : Nat} (w : World) (r1 : RdR nodE w B A c M) (r2 : RdR nodE w B2 A2 c2 N) (hB : B ≤ w.heap.size) (hB2 : B2 ≤ w.heap.size) (hl : M.length ≤ 1000000) :
    Calls Try.prog 14 #[.slice A M.length c, .slice A2 N.length c2] w fun e w' => e = .returned (.bool (sameB M N)) ∧ Below w.heap.size w w' := by
  obtain ⟨n, en⟩ : ∃ n, n = M.length := ⟨_, rfl⟩
  obtain ⟨n2, en2⟩ : ∃ n, n = N.length := ⟨_, rfl⟩
  rw [← en, ← en2]
  by_cases hn : n = n2
  case neg =>
    have HNE := Lib.hid (show M ≠ N from fun h => hn (by rw [en, en2, h]))
    have g1 : ((n : Int) != (n2 : Int)) = true := by simp; omega
    clear hn r1 r2 en en2 hl hB hB2
    go_enter Try.func14, Try.ntmps14
    go_wp2_with fail
    go_ret
    rw [sameB_no HNE.out]
    exact ⟨rfl, Below.refl _ _⟩
  subst hn
  have HL := Lib.hid (And.intro en (And.intro en2 hl))
  have HR := Lib.hid (And.intro r1 (And.intro r2 (And.intro hB hB2)))
  clear en en2 hl r1 r2 hB hB2
  go_enter Try.func14, Try.ntmps14
  go_wp2_with fail
  go_loopw [5] (fun kv wr => ∃ k : Nat, k ≤ n ∧ kv = .int .i64 (k : Int) ∧ M.take k = N.take k ∧ Below w.heap.size w wr) (fun kv _ => n - (intF kv).toNat)
  case atStart => exact ⟨0, Nat.zero_le _, rfl, rfl, Below.refl _ _⟩
  case round =>
    obtain ⟨k, hk, rfl, heq, hbr⟩ := hrel
    by_cases hlt : k < n
    case neg =>
      obtain rfl : k = n := by omega
      have g1 : ¬ (k : Int) < (k : Int) := by omega
      have HE := Lib.hid (show M = N by
        have h1 : M.take k = M := by rw [HL.out.1, List.take_length]
        have h2 : N.take k = N := by rw [HL.out.2.1, List.take_length]
        rw [← h1, ← h2, heq])
      have HBR := Lib.hid hbr
      clear heq hbr hk hlt
      go_wp2_with fail
      go_ret
      rw [sameB_yes HE.out]
      exact ⟨rfl, HBR.out⟩
    obtain ⟨x, hx⟩ : ∃ x, M[k]? = some x := getD_of (by rw [← HL.out.1]; exact hlt)
    obtain ⟨y, hy⟩ : ∃ y, N[k]? = some y := getD_of (by rw [← HL.out.2.1]; exact hlt)
    obtain ⟨b, o, rfl, hbB, X0, X1, X2, X3⟩ := nod_at (HR.out.1.keep (hbr.mono HR.out.2.2.1)) hx
    obtain ⟨b2, o2, rfl, hbB2, Y0, Y1, Y2, Y3⟩ := nod_at (HR.out.2.1.keep (hbr.mono HR.out.2.2.2)) hy
    have g1 : (k : Int) < (n : Int) := by omega
    have g2 : n ≤ 1000000 := by rw [HL.out.1]; exact HL.out.2.2
    obtain ⟨x0, ex0⟩ : ∃ q, q = x.id.1 := ⟨_, rfl⟩
    obtain ⟨x1, ex1⟩ : ∃ q, q = x.id.2 := ⟨_, rfl⟩
    obtain ⟨x2, ex2⟩ : ∃ q, q = x.rune := ⟨_, rfl⟩
    obtain ⟨x3, ex3⟩ : ∃ q, q = x.gone := ⟨_, rfl⟩
    obtain ⟨y0, ey0⟩ : ∃ q, q = y.id.1 := ⟨_, rfl⟩
    obtain ⟨y1, ey1⟩ : ∃ q, q = y.id.2 := ⟨_, rfl⟩
    obtain ⟨y2, ey2⟩ : ∃ q, q = y.rune := ⟨_, rfl⟩
    obtain ⟨y3, ey3⟩ : ∃ q, q = y.gone := ⟨_, rfl⟩
    rw [← ex0] at X0
    rw [← ex1] at X1
    rw [← ex2] at X2
    rw [← ex3] at X3
    rw [← ey0] at Y0
    rw [← ey1] at Y1
    rw [← ey2] at Y2
    rw [← ey3] at Y3
    have hin : b < wr.heap.size ∧ b2 < wr.heap.size := ⟨Nat.lt_of_lt_of_le hbB (Nat.le_trans HR.out.2.2.1 hbr.size), Nat.lt_of_lt_of_le hbB2 (Nat.le_trans HR.out.2.2.2 hbr.size)⟩
    have HS := Lib.hid (fun wz (hz : Below wr.heap.size wr wz) => show wz.cell? ⟨b, o + k * 4, none⟩ = some (.int .i64 x0) ∧ wz.cell? ⟨b, o + k * 4 + 1, none⟩ = some (.int .i64 x1) ∧ wz.cell? ⟨b, o + k * 4 + 2, none⟩ = some (.int .i32 x2) ∧ wz.cell? ⟨b, o + k * 4 + 3, none⟩ = some (.bool x3) ∧ wz.cell? ⟨b2, o2 + k * 4, none⟩ = some (.int .i64 y0) ∧ wz.cell? ⟨b2, o2 + k * 4 + 1, none⟩ = some (.int .i64 y1) ∧ wz.cell? ⟨b2, o2 + k * 4 + 2, none⟩ = some (.int .i32 y2) ∧ wz.cell? ⟨b2, o2 + k * 4 + 3, none⟩ = some (.bool y3) from
      ⟨(hz.cell (p := ⟨b, o + k * 4, none⟩) hin.1).trans X0, (hz.cell (p := ⟨b, o + k * 4 + 1, none⟩) hin.1).trans X1, (hz.cell (p := ⟨b, o + k * 4 + 2, none⟩) hin.1).trans X2, (hz.cell (p := ⟨b, o + k * 4 + 3, none⟩) hin.1).trans X3, (hz.cell (p := ⟨b2, o2 + k * 4, none⟩) hin.2).trans Y0, (hz.cell (p := ⟨b2, o2 + k * 4 + 1, none⟩) hin.2).trans Y1, (hz.cell (p := ⟨b2, o2 + k * 4 + 2, none⟩) hin.2).trans Y2, (hz.cell (p := ⟨b2, o2 + k * 4 + 3, none⟩) hin.2).trans Y3⟩)
    have HX := Lib.hid (And.intro ex0 (And.intro ex1 (And.intro ex2 (And.intro ex3 (And.intro ey0 (And.intro ey1 (And.intro ey2 ey3)))))))
    have HXY := Lib.hid (fun (h : M = N) => show x = y by rw [h, hy] at hx; exact (Option.some.inj hx).symm)
    have HT := Lib.hid (fun (h : x = y) => show M.take (k + 1) = N.take (k + 1) by rw [take_snoc hx, take_snoc hy, heq, h])
    have HBR := Lib.hid hbr
    have HK := Lib.hid hlt
    clear ex0 ex1 ex2 ex3 ey0 ey1 ey2 ey3 X0 X1 X2 X3 Y0 Y1 Y2 Y3 hin hbB hbB2 hx hy heq hbr hk hlt
    go_upto_region 6 with fail
    refine wp_region_inv 8 [17, 18, 19, 20, 21, 22, 23, 24] [.val (.slice (some ⟨b, o, none⟩) n c), .val (.int .i64 (k : Int)), .val (.pointer (some ⟨b, o + k * 4, none⟩)), .val (.agg #[.int .i64 x0, .int .i64 x1, .int .i32 x2, .bool x3]), .val (.slice (some ⟨b2, o2, none⟩) n c2), .val (.int .i64 (k : Int)), .val (.pointer (some ⟨b2, o2 + k * 4, none⟩)), .val (.agg #[.int .i64 y0, .int .i64 y1, .int .i32 y2, .bool y3])] (fun wz => Below wr.heap.size wr wz) (by kernel_rfl) (by kernel_rfl) (fun wz wz' hz hb => hz.trans (hb.mono hz.size)) ((Below.refl _ _).drew) (fun u => by simp only [puts, List.foldl_cons, List.foldl_nil]; go_simp; exact rfl) ?_ ?_
    · simp only [List.take_succ_cons, List.take_zero]
      refine Obs.cons (fun u w hS hd => ?_) ?_
      · exact Gv.run (.slice (some ⟨b, o, none⟩) n c) rfl (by go_simp) rfl
      refine Obs.cons (fun u w hS hd => ?_) ?_
      · exact Gv.run (.int .i64 (k : Int)) rfl (by go_simp) rfl
      refine Obs.cons (fun u w hS hd => ?_) ?_
      · have d17 : u 17 = .slice (some ⟨b, o, none⟩) n c := dep hd 0 rfl
        have d18 : u 18 = .int .i64 (k : Int) := dep hd 1 rfl
        rw [d17, d18]
        exact Gv.run (.pointer (some ⟨b, o + k * 4, none⟩)) rfl (by go_simp) rfl
      refine Obs.cons (fun u w hS hd => ?_) ?_
      · have d19 : u 19 = .pointer (some ⟨b, o + k * 4, none⟩) := dep hd 2 rfl
        rw [d19]
        exact Gv.run (.agg #[.int .i64 x0, .int .i64 x1, .int .i32 x2, .bool x3]) rfl (by obtain ⟨k0, k1, k2, k3, k4, k5, k6, k7⟩ := HS.out w hS; go_simp) rfl
      refine Obs.cons (fun u w hS hd => ?_) ?_
      · exact Gv.run (.slice (some ⟨b2, o2, none⟩) n c2) rfl (by go_simp) rfl
      refine Obs.cons (fun u w hS hd => ?_) ?_
      · exact Gv.run (.int .i64 (k : Int)) rfl (by go_simp) rfl
      refine Obs.cons (fun u w hS hd => ?_) ?_
      · have d21 : u 21 = .slice (some ⟨b2, o2, none⟩) n c2 := dep hd 4 rfl
        have d22 : u 22 = .int .i64 (k : Int) := dep hd 5 rfl
        rw [d21, d22]
        exact Gv.run (.pointer (some ⟨b2, o2 + k * 4, none⟩)) rfl (by go_simp) rfl
      refine Obs.cons (fun u w hS hd => ?_) ?_
      · have d23 : u 23 = .pointer (some ⟨b2, o2 + k * 4, none⟩) := dep hd 6 rfl
        rw [d23]
        exact Gv.run (.agg #[.int .i64 y0, .int .i64 y1, .int .i32 y2, .bool y3]) rfl (by obtain ⟨k0, k1, k2, k3, k4, k5, k6, k7⟩ := HS.out w hS; go_simp) rfl
      exact Obs.nil
    intro u1 v3 hS hd
    have d20 : u1 20 = .agg #[.int .i64 x0, .int .i64 x1, .int .i32 x2, .bool x3] := hd 3 (by decide)
    have d24 : u1 24 = .agg #[.int .i64 y0, .int .i64 y1, .int .i32 y2, .bool y3] := hd 7 (by decide)
    rw [d20, d24]
    simp only [List.drop_succ_cons, List.drop_zero]
    have HB3 := Lib.hid (HBR.out.trans (hS.mono HBR.out.size))
    clear hS hd d20 d24
    by_cases h0 : x0 = y0
    case neg =>
      have HNE := Lib.hid (show M ≠ N from fun h => h0 (by rw [HX.out.1, HX.out.2.2.2.2.1, HXY.out h]))
      go_wp2_with fail
      go_ret
      rw [sameB_no HNE.out]
      exact ⟨rfl, HB3.out⟩
    by_cases h1 : x1 = y1
    case neg =>
      subst h0
      have HNE := Lib.hid (show M ≠ N from fun h => h1 (by rw [HX.out.2.1, HX.out.2.2.2.2.2.1, HXY.out h]))
      go_wp2_with fail
      go_ret
      rw [sameB_no HNE.out]
      exact ⟨rfl, HB3.out⟩
    by_cases h2 : x2 = y2
    case neg =>
      subst h0 h1
      have HNE := Lib.hid (show M ≠ N from fun h => h2 (by rw [HX.out.2.2.1, HX.out.2.2.2.2.2.2.1, HXY.out h]))
      go_wp2_with fail
      go_ret
      rw [sameB_no HNE.out]
      exact ⟨rfl, HB3.out⟩
    by_cases h3 : x3 = y3
    case neg =>
      subst h0 h1 h2
      have g3 : (x3 == y3) = false := by simpa using h3
      have HNE := Lib.hid (show M ≠ N from fun h => h3 (by rw [HX.out.2.2.2.1, HX.out.2.2.2.2.2.2.2, HXY.out h]))
      go_wp2_with fail
      go_ret
      rw [sameB_no HNE.out]
      exact ⟨rfl, HB3.out⟩
    have HEQ := Lib.hid (show x = y from Nod.ext' (by rw [← HX.out.1, ← HX.out.2.2.2.2.1, h0]) (by rw [← HX.out.2.1, ← HX.out.2.2.2.2.2.1, h1]) (by rw [← HX.out.2.2.1, ← HX.out.2.2.2.2.2.2.1, h2]) (by rw [← HX.out.2.2.2.1, ← HX.out.2.2.2.2.2.2.2, h3]))
    subst h0 h1 h2 h3
    go_wp2_with fail
    exact ⟨⟨k + 1, by have := HK.out; omega, by go_num, HT.out HEQ.out, HB3.out⟩, by simp [intF]; have := HK.out; omega⟩
end Go.Proofs.Ytljciakgdpihdaa
namespace Go.Proofs.Ytljciakgdpihdaa
open Go Go.RowKit
set_option maxRecDepth 20000
/-- The runes of those that are there, as UTF-8. -/
def textN (N : List Nod) : ByteArray := N.foldl (fun s y => s ++ Utf8.encode y.rune) ByteArray.empty
theorem textN_snoc (N : List Nod) (y : Nod) : textN (N ++ [y]) = textN N ++ Utf8.encode y.rune := by unfold textN; rw [List.foldl_append]; rfl
theorem enc_four (c : Nat) (b : Nat → UInt8) : ByteArray.size (if c < 0x80 then ⟨#[b c]⟩ else if c < 0x800 then ⟨#[b (0xC0 + c / 64), b (0x80 + c % 64)]⟩ else if c < 0x10000 then ⟨#[b (0xE0 + c / 4096), b (0x80 + c / 64 % 64), b (0x80 + c % 64)]⟩ else ⟨#[b (0xF0 + c / 262144), b (0x80 + c / 4096 % 64), b (0x80 + c / 64 % 64), b (0x80 + c % 64)]⟩) ≤ 4 := by
  by_cases h1 : c < 0x80
  · rw [if_pos h1]
    exact (by decide : 1 ≤ 4)
  · rw [if_neg h1]
    by_cases h2 : c < 0x800
    · rw [if_pos h2]
      exact (by decide : 2 ≤ 4)
    · rw [if_neg h2]
      by_cases h3 : c < 0x10000
      · rw [if_pos h3]
        exact (by decide : 3 ≤ 4)
      · rw [if_neg h3]
        exact (by decide : 4 ≤ 4)
theorem enc_size (r : Int) : (Utf8.encode r).size ≤ 4 := enc_four (if Utf8.valid r then r.toNat else Utf8.runeError) (fun n => UInt8.ofNat n)
theorem textN_size (N : List Nod) : (textN N).size ≤ 4 * N.length := by
  induction h : N.length generalizing N with
  | zero =>
    rw [List.length_eq_zero_iff.1 h]
    exact Nat.le_refl _
  | succ n ih =>
    have hne : N ≠ [] := by rintro rfl; simp at h
    rw [← List.dropLast_concat_getLast hne, textN_snoc, ByteArray.size_append]
    have h1 := ih N.dropLast (by rw [List.length_dropLast, h]; rfl)
    have h2 := enc_size (N.getLast hne).rune
    omega
set_option maxHeartbeats 1600000 in
theorem rtextF_any {v : Value} {B : Nat} {L : List Ins} {G : List IDt} (hok : Ok L) (hl : L.length ≤ 4096) (hg : G.length ≤ 1000000) (w : World) (h : RdT w B v L G) (hB : B ≤ w.heap.size) :
    Calls Try.prog 18 #[v] w fun e w' => e = .returned (.string (textN ((liveL G (nodesL L)).map (nodeOf G)))) ∧ Below w.heap.size w w' := by
  obtain ⟨A1, c1, A2, c2, rfl, r1, r2⟩ := h
  obtain ⟨v1, ev⟩ : ∃ v, v = w.alloc (.cells #[.slice A1 L.length c1, .slice A2 G.length c2] 29) := ⟨_, rfl⟩
  obtain ⟨g, eg⟩ : ∃ g, g = w.heap.size := ⟨_, rfl⟩
  have hb : Below w.heap.size w v1 := by rw [ev]; exact (Below.refl _ _).alloc (Nat.le_refl _) _
  have hq : v1.cell? ⟨g, 0, none⟩ = some (.slice A1 L.length c1) ∧ v1.cell? ⟨g, 1, none⟩ = some (.slice A2 G.length c2) := by
    rw [ev, eg]
    simp
  have KB := rlive_any hok hl hg v1 ⟨A1, c1, A2, c2, rfl, r1.keep (hb.mono hB), r2.keep (hb.mono hB)⟩ (Nat.le_trans hB hb.size)
  obtain ⟨M, eM⟩ : ∃ M, M = (liveL G (nodesL L)).map (nodeOf G) := ⟨_, rfl⟩
  obtain ⟨m, em⟩ : ∃ m, m = (liveL G (nodesL L)).length := ⟨_, rfl⟩
  rw [← eM, ← em] at KB
  rw [← eM]
  have hml : M.length = m := by rw [eM, em, List.length_map]
  have hm4 : m ≤ 4096 := by rw [em]; exact Nat.le_trans (List.length_filter_le _ _) (Nat.le_trans (nodes_len hok) hl)
  have KB := Lib.hid KB
  have HV := Lib.hid (And.intro ev eg)
  have HB := Lib.hid hb
  have HM := Lib.hid (And.intro hml hm4)
  obtain ⟨q0, q1⟩ := hq
  clear ev eg hb r1 r2 hok hl hg hB eM em hml hm4
  go_enter Try.func18, Try.ntmps18
  go_upto_region 1 with fail
  rw [← HV.out.1, ← HV.out.2]
  clear HV
  go_wp2_with fail
  go_at_call 20
  refine KB.out.mono ?_
  rintro e v2 ⟨AM, cM, rfl, oM, h2⟩
  have HO := Lib.hid (And.intro oM.rd h2)
  clear q0 q1 oM h2 KB
  go_wp2_with fail
  go_loopw [3, 5] (fun sv kv wr => ∃ k : Nat, k ≤ m ∧ kv = .int .i64 (k : Int) ∧ sv = .string (textN (M.take k)) ∧ Below v2.heap.size v2 wr) (fun _ kv _ => m - (intF kv).toNat)
  case atStart => exact ⟨0, Nat.zero_le _, rfl, rfl, Below.refl _ _⟩
  case round =>
    obtain ⟨k, hk, rfl, rfl, hbr⟩ := hrel
    by_cases hlt : k < m
    case neg =>
      obtain rfl : k = m := by omega
      have g1 : ¬ (k : Int) < (k : Int) := by omega
      have hfull : M.take k = M := by rw [← HM.out.1, List.take_length]
      rw [hfull]
      have HF := Lib.hid ((HB.out.trans (HO.out.2.mono HB.out.size)).trans (hbr.mono (Nat.le_trans HB.out.size HO.out.2.size)))
      clear hfull hk hlt hbr
      go_wp2_with fail
      go_ret
      exact ⟨rfl, HF.out⟩
    obtain ⟨y, hy⟩ : ∃ y, M[k]? = some y := getD_of (by rw [HM.out.1]; exact hlt)
    obtain ⟨bo, oo, rfl, hbo, _, _, y2, _⟩ := nod_at HO.out.1 hy
    have c2 := (hbr.cell (p := ⟨bo, oo + k * 4 + 2, none⟩) hbo).trans y2
    have g1 : (k : Int) < (m : Int) := by omega
    have g2 : m ≤ 4096 := HM.out.2
    have HT := Lib.hid (show textN (M.take (k + 1)) = textN (M.take k) ++ Utf8.encode y.rune by rw [take_snoc hy, textN_snoc])
    have HBR := Lib.hid hbr
    have HK := Lib.hid hlt
    have hsz := textN_size (M.take k)
    have hes := enc_size y.rune
    obtain ⟨s, es⟩ : ∃ s, s = textN (M.take k) := ⟨_, rfl⟩
    have hss : ¬ 9223372036854775807 < s.size + (Utf8.encode y.rune).size := by
      rw [es]
      have : (M.take k).length ≤ k := by rw [List.length_take]; exact Nat.min_le_left _ _
      omega
    rw [← es] at HT ⊢
    clear hsz hes es hk hlt hy hbo y2 hbr
    go_wp2_with fail
    exact ⟨⟨k + 1, by have := HK.out; omega, by go_num, by rw [HT.out], HBR.out⟩, by simp [intF]; have := HK.out; omega⟩
end Go.Proofs.Ytljciakgdpihdaa
namespace Go.Proofs.Ytljciakgdpihdaa
open Go Go.RowKit
set_option maxRecDepth 20000
/-- Where something hangs on the right of the one ahead, one stands behind it. -/
theorem plan_at {L : List Ins} {G : List IDt} (hok : Ok L) {i : Nat} (hi : i ≤ (liveL G (nodesL L)).length) (hk : kidsL L (aheadL L G i) true ≠ []) : ∃ b, (nodesL L)[atL (aheadL L G i) (nodesL L) 0 0]? = some b := by
  cases i with
  | zero =>
    have ha : aheadL L G 0 = (0, 0) := rfl
    rw [ha] at hk ⊢
    rw [at_none (fun y hy => hok.nz y ((nodes_mem hok).1 hy))]
    have hne := bel_some L.length hk
    obtain ⟨b, r, e⟩ := List.exists_cons_of_ne_nil hne
    exact ⟨b, by unfold nodesL; rw [e]; rfl⟩
  | succ j =>
    obtain ⟨y, hy⟩ : ∃ y, (liveL G (nodesL L))[j]? = some y := getD_of (by omega)
    have ha : aheadL L G (j + 1) = y.id := by
      unfold aheadL
      rw [if_neg (by omega), Nat.add_sub_cancel, hy]
      rfl
    rw [ha] at hk ⊢
    obtain ⟨pre, post, e, _, _⟩ := live_at hy
    obtain ⟨b, r, e2, _⟩ := nodes_next hok e hk
    have hd := nodes_distinct hok
    rw [e] at hd ⊢
    rw [at_some rfl (distinct_mid hd).2]
    exact ⟨b, by rw [e2, Nat.zero_add, List.getElem?_append_right (by omega), show pre.length + 1 - pre.length = 1 by omega]; rfl⟩
def planR (L : List Ins) (G : List IDt) (i : Int) : IDt × Bool × Int := if i < 0 ∨ ((liveL G (nodesL L)).length : Int) < i then ((0, 0), false, 6) else ((planL L G i.toNat).1, (planL L G i.toNat).2, 0)
set_option maxHeartbeats 6400000 in
theorem rplan_any {v : Value} {B : Nat} {L : List Ins} {G : List IDt} (hok : Ok L) (hl : L.length ≤ 4096) (hg : G.length ≤ 1000000) (i : Int) (w : World) (h : RdT w B v L G) (hB : B ≤ w.heap.size) :
    Calls Try.prog 24 #[v, .int .i64 i] w fun e w' => e = .returned (.tuple #[idV (planR L G i).1, .bool (planR L G i).2.1, .int .i64 (planR L G i).2.2]) ∧ Below w.heap.size w w' := by
  obtain ⟨A1, c1, A2, c2, rfl, r1, r2⟩ := h
  obtain ⟨g, eg⟩ : ∃ g, g = w.heap.size := ⟨_, rfl⟩
  obtain ⟨va, eva⟩ : ∃ v, v = w.alloc (.cells #[.slice A1 L.length c1, .slice A2 G.length c2] 29) := ⟨_, rfl⟩
  obtain ⟨v1, ev⟩ : ∃ v, v = va.alloc (.cells #[.int .i64 0, .int .i64 0] 31) := ⟨_, rfl⟩
  have hba : Below w.heap.size w va := by rw [eva]; exact (Below.refl _ _).alloc (Nat.le_refl _) _
  have hsa : va.heap.size = g + 1 := by rw [eva, eg]; simp
  have hqa : va.cell? ⟨g, 0, none⟩ = some (.slice A1 L.length c1) ∧ va.cell? ⟨g, 1, none⟩ = some (.slice A2 G.length c2) := by
    rw [eva, eg]
    simp
  have hb1 : Below va.heap.size va v1 := by rw [ev]; exact (Below.refl _ _).alloc (Nat.le_refl _) _
  have hb : Below w.heap.size w v1 := hba.trans (hb1.mono hba.size)
  have q0 := (hb1.cell (p := ⟨g, 0, none⟩) (show g < va.heap.size by omega)).trans hqa.1
  have q1 := (hb1.cell (p := ⟨g, 1, none⟩) (show g < va.heap.size by omega)).trans hqa.2
  have ho : O2 v1 w.heap.size 31 (g + 1) (.int .i64 0) (.int .i64 0) := by
    have h0 := O2.newz (w := va) (B := w.heap.size) hba.size 31 (.int .i64 0) (.int .i64 0)
    rw [← ev, hsa] at h0
    exact h0
  have KL := rlive_any hok hl hg v1 ⟨A1, c1, A2, c2, rfl, r1.keep (hb.mono hB), r2.keep (hb.mono hB)⟩ (Nat.le_trans hB hb.size)
  have hTT : ∀ wz, Below w.heap.size w wz → RdT wz B (.agg #[.slice A1 L.length c1, .slice A2 G.length c2]) L G ∧ B ≤ wz.heap.size := fun wz hz => ⟨⟨A1, c1, A2, c2, rfl, r1.keep (hz.mono hB), r2.keep (hz.mono hB)⟩, Nat.le_trans hB hz.size⟩
  have hs1 : v1.heap.size = g + 2 := by rw [ev]; simp; omega
  obtain ⟨M, eM⟩ : ∃ M, M = liveL G (nodesL L) := ⟨_, rfl⟩
  obtain ⟨m, em⟩ : ∃ m, m = M.length := ⟨_, rfl⟩
  rw [← eM, ← em] at KL
  obtain ⟨R, eR⟩ : ∃ R, R = planR L G i := ⟨_, rfl⟩
  have hR : R = if i < 0 ∨ (m : Int) < i then ((0, 0), false, 6) else ((planL L G i.toNat).1, (planL L G i.toNat).2, 0) := by rw [eR, em, eM]; rfl
  rw [← eR]
  have hmb : m ≤ 4096 := by rw [em, eM]; exact Nat.le_trans (List.length_filter_le _ _) (Nat.le_trans (nodes_len hok) hl)
  have KL := Lib.hid KL
  have HR := Lib.hid hR
  have HM0 := Lib.hid (And.intro em (And.intro hmb eM))
  have HOK := Lib.hid (And.intro hok (And.intro hl hg))
  have HTT := Lib.hid hTT
  have HV := Lib.hid (And.intro (And.intro eva ev) eg)
  have HQ := Lib.hid (And.intro hb (And.intro ho (And.intro hs1 (And.intro q0 q1))))
  clear hba hsa hqa hb1 hb ho r1 r2 hok hl hg hB eM em eR hR hmb eva ev eg hTT hs1
  go_enter Try.func24, Try.ntmps24
  go_upto_region 1 with fail
  rw [← HV.out.1.1, ← HV.out.1.2, show (Value.pointer (some ⟨w.heap.size, 0, none⟩)) = .pointer (some ⟨g, 0, none⟩) by rw [HV.out.2], show (Value.pointer (some ⟨w.heap.size + 1, 0, none⟩)) = .pointer (some ⟨g + 1, 0, none⟩) by rw [HV.out.2]]
  clear HV
  go_wp2_with fail
  go_at_call 20
  refine KL.out.mono ?_
  rintro e v2 ⟨AL, cL, rfl, o2, h2⟩
  have HTC0 := Lib.hid (fun wz (hz : Below v1.heap.size v1 wz) => show wz.cell? ⟨g, 0, none⟩ = some (.slice A1 L.length c1) ∧ wz.cell? ⟨g, 1, none⟩ = some (.slice A2 G.length c2) from ⟨(hz.cell (p := ⟨g, 0, none⟩) (show g < v1.heap.size by rw [HQ.out.2.2.1]; omega)).trans HQ.out.2.2.2.1, (hz.cell (p := ⟨g, 1, none⟩) (show g < v1.heap.size by rw [HQ.out.2.2.1]; omega)).trans HQ.out.2.2.2.2⟩)
  have ob : O2 v2 w.heap.size 31 (g + 1) _ _ := OwnF.keep HQ.out.2.1 h2
  have HB2 := Lib.hid (And.intro (HQ.out.1.trans (h2.mono HQ.out.1.size)) ob)
  have HO2 := Lib.hid o2.rd
  have H12 := Lib.hid h2
  clear q0 q1 h2 o2 ob KL
  have bad : ∀ (hx : i < 0 ∨ (m : Int) < i), R = ((0, 0), false, 6) := fun hx => by rw [HR.out, if_pos hx]
  have HBAD := Lib.hid bad
  clear bad
  by_cases h1 : i < 0
  · have HX := Lib.hid (HBAD.out (.inl h1))
    have f0 := HB2.out.2.f0
    have f1 := HB2.out.2.f1
    have z0 := HB2.out.2.c0
    have z1 := HB2.out.2.c1
    have HO := Lib.hid (And.intro (HB2.out.2.set_ (.int .i64 0) (.int .i64 0)) (HB2.out.1.trans (HB2.out.2.below (.int .i64 0) (.int .i64 0))))
    go_wp2_with fail
    refine bodyPost_ret (id_res3 Try.results24 _ HO.out.1 rfl rfl rfl) rfl ?_
    rw [HX.out]
    exact ⟨rfl, HO.out.2⟩
  obtain ⟨j, rfl⟩ : ∃ j : Nat, i = (j : Int) := ⟨i.toNat, by omega⟩
  have g0 : ¬ (j : Int) < 0 := h1
  by_cases h2 : m < j
  · have HX := Lib.hid (HBAD.out (.inr (by omega)))
    have g1 : (m : Int) < (j : Int) := by omega
    have f0 := HB2.out.2.f0
    have f1 := HB2.out.2.f1
    have z0 := HB2.out.2.c0
    have z1 := HB2.out.2.c1
    have HO := Lib.hid (And.intro (HB2.out.2.set_ (.int .i64 0) (.int .i64 0)) (HB2.out.1.trans (HB2.out.2.below (.int .i64 0) (.int .i64 0))))
    clear h1 h2
    go_wp2_with fail
    refine bodyPost_ret (id_res3 Try.results24 _ HO.out.1 rfl rfl rfl) rfl ?_
    rw [HX.out]
    exact ⟨rfl, HO.out.2⟩
  have HI := Lib.hid (show j ≤ (liveL G (nodesL L)).length by rw [← HM0.out.2.2, ← HM0.out.1]; omega)
  have hR2 : R = ((planL L G j).1, (planL L G j).2, 0) := by rw [HR.out, if_neg (by omega), Int.toNat_natCast]
  clear HR HBAD
  have HR := Lib.hid hR2
  have g1 : ¬ (m : Int) < (j : Int) := by omega
  clear hR2 h1
  go_upto_region 5 with fail
  obtain ⟨v3, ev3⟩ : ∃ v, v = v2.alloc (.cells #[.int .i64 0, .int .i64 0] 31) := ⟨_, rfl⟩
  obtain ⟨ga, ega⟩ : ∃ b, b = v2.heap.size := ⟨_, rfl⟩
  rw [← ev3, ← ega]
  have oa : O2 v3 v2.heap.size 31 ga (.int .i64 0) (.int .i64 0) := by rw [ev3, ega]; exact O2.newz (Nat.le_refl _) _ _ _
  have h3 : Below v2.heap.size v2 v3 := by rw [ev3]; exact (Below.refl _ _).alloc (Nat.le_refl _) _
  have HB3 := Lib.hid (HB2.out.1.trans (h3.mono HB2.out.1.size))
  have H23 := Lib.hid h3
  have HOA := Lib.hid oa
  clear ev3 ega oa h3
  have HTC := Lib.hid (fun wz (hz : Below v2.heap.size v2 wz) => HTC0.out wz (H12.out.trans (hz.mono H12.out.size)))
  have orr : O2 v3 w.heap.size 31 (g + 1) (.int .i64 0) (.int .i64 0) := OwnF.keep HB2.out.2 H23.out
  have HOR := Lib.hid orr
  clear orr
  cases j with
  | zero =>
    obtain ⟨a, ea⟩ : ∃ a : IDt, a = (0, 0) := ⟨_, rfl⟩
    have HA := Lib.hid (show a = aheadL L G 0 by rw [ea]; rfl)
    have HBX := Lib.hid (And.intro (show O2 v3 v2.heap.size 31 ga (.int .i64 a.1) (.int .i64 a.2) by rw [ea]; exact HOA.out) HOR.out)
    have HB4 := HB3
    have HC4 := H23
    obtain ⟨v4, e4⟩ : ∃ v, v = v3 := ⟨_, rfl⟩
    subst e4
    clear ea
    go_upto_region 7 with fail
    have KK := Lib.hid (rkids_any a true v4 (HTT.out v4 HB4.out).1 (HTT.out v4 HB4.out).2 (Nat.le_trans HOK.out.2.1 (by decide)))
    obtain ⟨k0, k1⟩ := HTC.out v4 HC4.out
    have y0 := HBX.out.1.c0
    have y1 := HBX.out.1.c1
    go_wp2_with fail
    go_at_call 43
    refine KK.out.mono ?_
    rintro e v5 ⟨AK, cK, rfl, oK, h5⟩
    have HB5 := Lib.hid (HB4.out.trans (h5.mono HB4.out.size))
    have HC5 := Lib.hid (HC4.out.trans (h5.mono HC4.out.size))
    have HX5 := Lib.hid (And.intro (show O2 v5 v2.heap.size 31 ga (.int .i64 a.1) (.int .i64 a.2) from OwnF.keep HBX.out.1 h5) (show O2 v5 w.heap.size 31 (g + 1) (.int .i64 0) (.int .i64 0) from OwnF.keep HBX.out.2 h5))
    clear k0 k1 y0 y1 oK h5 KK
    by_cases hk : kidsL L a true = []
    · have HX := Lib.hid (show R = (a, true, 0) by rw [HR.out]; unfold planL; rw [← HA.out, if_pos hk])
      rw [hk]
      have y0 := HX5.out.1.c0
      have y1 := HX5.out.1.c1
      have f0 := HX5.out.2.f0
      have f1 := HX5.out.2.f1
      have z0 := HX5.out.2.c0
      have z1 := HX5.out.2.c1
      have o9 := HX5.out.2.set_ (.int .i64 a.1) (.int .i64 a.2)
      have HO := Lib.hid (And.intro o9 (HB5.out.trans (HX5.out.2.below (.int .i64 a.1) (.int .i64 a.2))))
      clear hk o9
      go_wp2_with fail
      refine bodyPost_ret (id_res3 Try.results24 _ HO.out.1 rfl rfl rfl) rfl ?_
      rw [HX.out]
      exact ⟨rfl, HO.out.2⟩
    have hkl : ((kidsL L a true).length : Int) ≠ 0 := by
      intro h
      exact hk (List.length_eq_zero_iff.1 (by omega))
    have g5 : (((kidsL L a true).length : Int) == 0) = false := by simpa using hk
    obtain ⟨bN, hbN⟩ := plan_at HOK.out.1 HI.out (by rw [← HA.out]; exact hk)
    rw [← HA.out] at hbN
    have HX := Lib.hid (show R = (bN.id, false, 0) by rw [HR.out]; unfold planL; rw [← HA.out, if_neg hk, hbN]; rfl)
    have HBN := Lib.hid hbN
    obtain ⟨lk, elk⟩ : ∃ l, l = (kidsL L a true).length := ⟨_, rfl⟩
    rw [← elk] at g5 ⊢
    have KN := rnodes_any HOK.out.1 HOK.out.2.1 HOK.out.2.2 v5 (HTT.out v5 HB5.out).1 (HTT.out v5 HB5.out).2
    obtain ⟨N, eN⟩ : ∃ N, N = nodesL L := ⟨_, rfl⟩
    obtain ⟨m, em⟩ : ∃ m, m = N.length := ⟨_, rfl⟩
    rw [← eN, ← em] at KN
    rw [← eN] at HBN
    have hm4 : m ≤ 4096 := by rw [em, eN]; exact Nat.le_trans (nodes_len HOK.out.1) HOK.out.2.1
    have KN := Lib.hid KN
    have HM := Lib.hid (And.intro em hm4)
    obtain ⟨k0, k1⟩ := HTC.out v5 HC5.out
    clear hk hkl hbN elk eN em hm4
    go_wp2_with fail
    go_at_call 16
    refine KN.out.mono ?_
    rintro e v6 ⟨AN, cN, rfl, oN, h6⟩
    have HB6 := Lib.hid (HB5.out.trans (h6.mono HB5.out.size))
    have HX6 := Lib.hid (And.intro (show O2 v6 v2.heap.size 31 ga (.int .i64 a.1) (.int .i64 a.2) from OwnF.keep HX5.out.1 h6) (And.intro (show O2 v6 w.heap.size 31 (g + 1) (.int .i64 0) (.int .i64 0) from OwnF.keep HX5.out.2 h6) oN.rd))
    clear k0 k1 oN h6 KN g5
    go_wp2_with fail
    go_loopw [10, 11] (fun tv kv wr => ∃ k t : Nat, k ≤ m ∧ kv = .int .i64 (k : Int) ∧ tv = .int .i64 (t : Int) ∧ t ≤ k ∧ atL a N 0 0 = atL a (N.drop k) k t ∧ Below v6.heap.size v6 wr) (fun _ kv _ => m - (intF kv).toNat)
    case atStart => exact ⟨0, 0, Nat.zero_le _, rfl, rfl, Nat.le_refl _, rfl, Below.refl _ _⟩
    case round =>
      obtain ⟨k, t, hk, rfl, rfl, ht, hat, hbr⟩ := hrel
      by_cases hlt : k < m
      case neg =>
        obtain rfl : k = m := by omega
        have g1 : ¬ (k : Int) < (k : Int) := by omega
        have hat2 : atL a N 0 0 = t := by rw [hat, HM.out.1, List.drop_length]; rfl
        have hb2 := HBN.out
        rw [hat2] at hb2
        have htl : t < k := by rw [HM.out.1]; exact (List.getElem?_eq_some_iff.1 hb2).1
        have hn2 : (N.map (nodeOf G))[t]? = some (nodeOf G bN) := by rw [List.getElem?_map, hb2]; rfl
        obtain ⟨bo, oo, rfl, hbo, n0, n1, _, _⟩ := nod_at HX6.out.2.2 hn2
        have n0' : wr.cell? ⟨bo, oo + t * 4, none⟩ = some (.int .i64 bN.id.1) := (hbr.cell (p := ⟨bo, oo + t * 4, none⟩) hbo).trans n0
        have n1' : wr.cell? ⟨bo, oo + t * 4 + 1, none⟩ = some (.int .i64 bN.id.2) := (hbr.cell (p := ⟨bo, oo + t * 4 + 1, none⟩) hbo).trans n1
        have ob : O2 wr w.heap.size 31 (g + 1) (.int .i64 0) (.int .i64 0) := OwnF.keep HX6.out.2.1 hbr
        have f0 := ob.f0
        have f1 := ob.f1
        have z0 := ob.c0
        have z1 := ob.c1
        have g2 : (t : Int) < (k : Int) := by omega
        have g3 : k ≤ 4096 := HM.out.2
        have o9 := ob.set_ (.int .i64 bN.id.1) (.int .i64 bN.id.2)
        have HO := Lib.hid (And.intro o9 ((HB6.out.trans (hbr.mono HB6.out.size)).trans (ob.below (.int .i64 bN.id.1) (.int .i64 bN.id.2))))
        clear hat hat2 hb2 hn2 n0 n1 hbo ob o9 hbr hk hlt ht htl
        go_wp2_with fail
        refine bodyPost_ret (id_res3 Try.results24 _ HO.out.1 rfl rfl rfl) rfl ?_
        rw [HX.out]
        exact ⟨rfl, HO.out.2⟩
      obtain ⟨y, hy⟩ : ∃ y, N[k]? = some y := getD_of (by rw [← HM.out.1]; exact hlt)
      have hn2 : (N.map (nodeOf G))[k]? = some (nodeOf G y) := by rw [List.getElem?_map, hy]; rfl
      obtain ⟨bo, oo, rfl, hbo, n0, n1, _, _⟩ := nod_at HX6.out.2.2 hn2
      have hyl : k < N.length := by rw [← HM.out.1]; exact hlt
      have hyy : N[k] = y := by rw [List.getElem?_eq_getElem hyl] at hy; exact Option.some.inj hy
      have HSTEP := Lib.hid (show atL a N 0 0 = atL a (N.drop (k + 1)) (k + 1) (if y.id = a then k + 1 else t) by rw [hat, List.drop_eq_getElem_cons hyl, hyy]; rfl)
      obtain ⟨x1, ex1⟩ : ∃ q, q = y.id.1 := ⟨_, rfl⟩
      obtain ⟨x2, ex2⟩ : ∃ q, q = y.id.2 := ⟨_, rfl⟩
      have n0' : v6.cell? ⟨bo, oo + k * 4, none⟩ = some (.int .i64 x1) := by rw [ex1]; exact n0
      have n1' : v6.cell? ⟨bo, oo + k * 4 + 1, none⟩ = some (.int .i64 x2) := by rw [ex2]; exact n1
      have hga := OwnF.lt HX6.out.1
      have y0 := HX6.out.1.c0
      have y1 := HX6.out.1.c1
      have g1 : (k : Int) < (m : Int) := by omega
      have g2 : m ≤ 4096 := HM.out.2
      have HS := Lib.hid (fun wz (hz : Below wr.heap.size wr wz) => show wz.cell? ⟨bo, oo + k * 4, none⟩ = some (.int .i64 x1) ∧ wz.cell? ⟨bo, oo + k * 4 + 1, none⟩ = some (.int .i64 x2) ∧ wz.cell? ⟨ga, 0, none⟩ = some (.int .i64 a.1) ∧ wz.cell? ⟨ga, 1, none⟩ = some (.int .i64 a.2) from by
        have hz6 := hbr.trans (hz.mono hbr.size)
        exact ⟨(hz6.cell (p := ⟨bo, oo + k * 4, none⟩) hbo).trans n0', (hz6.cell (p := ⟨bo, oo + k * 4 + 1, none⟩) hbo).trans n1', (hz6.cell (p := ⟨ga, 0, none⟩) hga).trans y0, (hz6.cell (p := ⟨ga, 1, none⟩) hga).trans y1⟩)
      have HE := Lib.hid (And.intro ex1 ex2)
      have HBR := Lib.hid hbr
      have HK := Lib.hid (And.intro hlt ht)
      clear hat hy hn2 hbo n0 n1 n0' n1' hyl hyy ex1 ex2 hga y0 y1 hbr hk hlt ht
      go_upto_region 14 with fail
      refine wp_region_inv 6 [46, 47, 48, 49, 50, 51] [.val (.slice (some ⟨bo, oo, none⟩) m cN), .val (.int .i64 (k : Int)), .val (.pointer (some ⟨bo, oo + k * 4, none⟩)), .val (.pointer (some ⟨bo, oo + k * 4, none⟩)), .val (.agg #[.int .i64 x1, .int .i64 x2]), .val (.agg #[.int .i64 a.1, .int .i64 a.2])] (fun wz => Below wr.heap.size wr wz) (by kernel_rfl) (by kernel_rfl) (fun wz wz' hz hb => hz.trans (hb.mono hz.size)) ((Below.refl _ _).drew) (fun u => by simp only [puts, List.foldl_cons, List.foldl_nil]; go_simp; exact rfl) ?_ ?_
      · simp only [List.take_succ_cons, List.take_zero]
        refine Obs.cons (fun u w hS hd => ?_) ?_
        · exact Gv.run (.slice (some ⟨bo, oo, none⟩) m cN) rfl (by go_simp) rfl
        refine Obs.cons (fun u w hS hd => ?_) ?_
        · exact Gv.run (.int .i64 (k : Int)) rfl (by go_simp) rfl
        refine Obs.cons (fun u w hS hd => ?_) ?_
        · have d46 : u 46 = .slice (some ⟨bo, oo, none⟩) m cN := dep hd 0 rfl
          have d47 : u 47 = .int .i64 (k : Int) := dep hd 1 rfl
          rw [d46, d47]
          exact Gv.run (.pointer (some ⟨bo, oo + k * 4, none⟩)) rfl (by go_simp) rfl
        refine Obs.cons (fun u w hS hd => ?_) ?_
        · have d48 : u 48 = .pointer (some ⟨bo, oo + k * 4, none⟩) := dep hd 2 rfl
          rw [d48]
          exact Gv.run (.pointer (some ⟨bo, oo + k * 4, none⟩)) rfl (by go_simp) rfl
        refine Obs.cons (fun u w hS hd => ?_) ?_
        · have d49 : u 49 = .pointer (some ⟨bo, oo + k * 4, none⟩) := dep hd 3 rfl
          rw [d49]
          exact Gv.run (.agg #[.int .i64 x1, .int .i64 x2]) rfl (by obtain ⟨k0, k1, k2, k3⟩ := HS.out w hS; go_simp) rfl
        refine Obs.cons (fun u w hS hd => ?_) ?_
        · exact Gv.run (.agg #[.int .i64 a.1, .int .i64 a.2]) rfl (by obtain ⟨k0, k1, k2, k3⟩ := HS.out w hS; go_simp) rfl
        exact Obs.nil
      intro u1 v7 hS hd
      have d50 : u1 50 = .agg #[.int .i64 x1, .int .i64 x2] := hd 4 (by decide)
      have d51 : u1 51 = .agg #[.int .i64 a.1, .int .i64 a.2] := hd 5 (by decide)
      rw [d50, d51]
      simp only [List.drop_succ_cons, List.drop_zero]
      have HB7 := Lib.hid (HBR.out.trans (hS.mono HBR.out.size))
      clear hS hd d50 d51
      by_cases e1 : x1 = a.1
      · by_cases e2 : x2 = a.2
        · have HY := Lib.hid (show y.id = a from Prod.ext (by rw [← HE.out.1, e1]) (by rw [← HE.out.2, e2]))
          subst e1
          subst e2
          go_wp2_with fail
          exact ⟨⟨k + 1, k + 1, by have := HK.out; omega, by go_num, by go_num, Nat.le_refl _, by rw [HSTEP.out, if_pos HY.out], HB7.out⟩, by simp [intF]; have := HK.out; omega⟩
        · have HY := Lib.hid (show ¬ y.id = a from fun h => e2 (by rw [HE.out.2, h]))
          subst e1
          go_wp2_with fail
          exact ⟨⟨k + 1, t, by have := HK.out; omega, by go_num, rfl, by have := HK.out; omega, by rw [HSTEP.out, if_neg HY.out], HB7.out⟩, by simp [intF]; have := HK.out; omega⟩
      · have HY := Lib.hid (show ¬ y.id = a from fun h => e1 (by rw [HE.out.1, h]))
        go_wp2_with fail
        exact ⟨⟨k + 1, t, by have := HK.out; omega, by go_num, rfl, by have := HK.out; omega, by rw [HSTEP.out, if_neg HY.out], HB7.out⟩, by simp [intF]; have := HK.out; omega⟩
  | succ jj =>
    obtain ⟨y, hy⟩ : ∃ y, M[jj]? = some y := getD_of (by rw [← HM0.out.1]; omega)
    have hn2 : (M.map (nodeOf G))[jj]? = some (nodeOf G y) := by rw [List.getElem?_map, hy]; rfl
    obtain ⟨b, o, rfl, hbB, n0, n1, _, _⟩ := nod_at HO2.out hn2
    obtain ⟨a, ea⟩ : ∃ a : IDt, a = y.id := ⟨_, rfl⟩
    have HA := Lib.hid (show a = aheadL L G (jj + 1) by
      unfold aheadL
      rw [if_neg (by omega), Nat.add_sub_cancel, ← HM0.out.2.2, hy, ea]
      rfl)
    have n0' : v3.cell? ⟨b, o + jj * 4, none⟩ = some (.int .i64 a.1) := by rw [ea]; exact (H23.out.cell (p := ⟨b, o + jj * 4, none⟩) hbB).trans n0
    have n1' : v3.cell? ⟨b, o + jj * 4 + 1, none⟩ = some (.int .i64 a.2) := by rw [ea]; exact (H23.out.cell (p := ⟨b, o + jj * 4 + 1, none⟩) hbB).trans n1
    have f0 := HOA.out.f0
    have f1 := HOA.out.f1
    have z0 := HOA.out.c0
    have z1 := HOA.out.c1
    have g5 : (0 : Int) < ((jj + 1 : Nat) : Int) := by omega
    have g6 : (jj : Int) < (m : Int) := by omega
    have g7 : m ≤ 4096 := HM0.out.2.1
    obtain ⟨v4, e4⟩ : ∃ v, v = set2 v3 ga (.int .i64 a.1) (.int .i64 a.2) := ⟨_, rfl⟩
    have hbs := HOA.out.below (.int .i64 a.1) (.int .i64 a.2)
    have hoa := HOA.out.set_ (.int .i64 a.1) (.int .i64 a.2)
    have hga := OwnF.ge HOA.out
    have hgl := OwnF.lt HB2.out.2
    have hor : O2 (set2 v3 ga (.int .i64 a.1) (.int .i64 a.2)) w.heap.size 31 (g + 1) (.int .i64 0) (.int .i64 0) := OwnF.same_ HOR.out (set2_only _ _ _ _ _ (by omega))
    rw [← e4] at hbs hoa hor
    have HBX := Lib.hid (And.intro hoa hor)
    have HC4 := Lib.hid (H23.out.trans hbs)
    have HB4 := Lib.hid (HB2.out.1.trans ((H23.out.trans hbs).mono HB2.out.1.size))
    have HE4 := Lib.hid (show (v3.setCell ⟨ga, 0, none⟩ (.int .i64 a.1)).setCell ⟨ga, 1, none⟩ (.int .i64 a.2) = v4 by rw [e4]; rfl)
    clear hbs hoa hor hga hgl e4 hy hn2 hbB n0 n1 ea h2
    go_upto_region 7 with fail
    rw [HE4.out]
    clear n0' n1' f0 f1 z0 z1 HE4
    have KK := Lib.hid (rkids_any a true v4 (HTT.out v4 HB4.out).1 (HTT.out v4 HB4.out).2 (Nat.le_trans HOK.out.2.1 (by decide)))
    obtain ⟨k0, k1⟩ := HTC.out v4 HC4.out
    have y0 := HBX.out.1.c0
    have y1 := HBX.out.1.c1
    go_wp2_with fail
    go_at_call 43
    refine KK.out.mono ?_
    rintro e v5 ⟨AK, cK, rfl, oK, h5⟩
    have HB5 := Lib.hid (HB4.out.trans (h5.mono HB4.out.size))
    have HC5 := Lib.hid (HC4.out.trans (h5.mono HC4.out.size))
    have HX5 := Lib.hid (And.intro (show O2 v5 v2.heap.size 31 ga (.int .i64 a.1) (.int .i64 a.2) from OwnF.keep HBX.out.1 h5) (show O2 v5 w.heap.size 31 (g + 1) (.int .i64 0) (.int .i64 0) from OwnF.keep HBX.out.2 h5))
    clear k0 k1 y0 y1 oK h5 KK
    by_cases hk : kidsL L a true = []
    · have HX := Lib.hid (show R = (a, true, 0) by rw [HR.out]; unfold planL; rw [← HA.out, if_pos hk])
      rw [hk]
      have y0 := HX5.out.1.c0
      have y1 := HX5.out.1.c1
      have f0 := HX5.out.2.f0
      have f1 := HX5.out.2.f1
      have z0 := HX5.out.2.c0
      have z1 := HX5.out.2.c1
      have o9 := HX5.out.2.set_ (.int .i64 a.1) (.int .i64 a.2)
      have HO := Lib.hid (And.intro o9 (HB5.out.trans (HX5.out.2.below (.int .i64 a.1) (.int .i64 a.2))))
      clear hk o9
      go_wp2_with fail
      refine bodyPost_ret (id_res3 Try.results24 _ HO.out.1 rfl rfl rfl) rfl ?_
      rw [HX.out]
      exact ⟨rfl, HO.out.2⟩
    have hkl : ((kidsL L a true).length : Int) ≠ 0 := by
      intro h
      exact hk (List.length_eq_zero_iff.1 (by omega))
    have g5 : (((kidsL L a true).length : Int) == 0) = false := by simpa using hk
    obtain ⟨bN, hbN⟩ := plan_at HOK.out.1 HI.out (by rw [← HA.out]; exact hk)
    rw [← HA.out] at hbN
    have HX := Lib.hid (show R = (bN.id, false, 0) by rw [HR.out]; unfold planL; rw [← HA.out, if_neg hk, hbN]; rfl)
    have HBN := Lib.hid hbN
    obtain ⟨lk, elk⟩ : ∃ l, l = (kidsL L a true).length := ⟨_, rfl⟩
    rw [← elk] at g5 ⊢
    have KN := rnodes_any HOK.out.1 HOK.out.2.1 HOK.out.2.2 v5 (HTT.out v5 HB5.out).1 (HTT.out v5 HB5.out).2
    obtain ⟨N, eN⟩ : ∃ N, N = nodesL L := ⟨_, rfl⟩
    obtain ⟨m, em⟩ : ∃ m, m = N.length := ⟨_, rfl⟩
    rw [← eN, ← em] at KN
    rw [← eN] at HBN
    have hm4 : m ≤ 4096 := by rw [em, eN]; exact Nat.le_trans (nodes_len HOK.out.1) HOK.out.2.1
    have KN := Lib.hid KN
    have HM := Lib.hid (And.intro em hm4)
    obtain ⟨k0, k1⟩ := HTC.out v5 HC5.out
    clear hk hkl hbN elk eN em hm4
    go_wp2_with fail
    go_at_call 16
    refine KN.out.mono ?_
    rintro e v6 ⟨AN, cN, rfl, oN, h6⟩
    have HB6 := Lib.hid (HB5.out.trans (h6.mono HB5.out.size))
    have HX6 := Lib.hid (And.intro (show O2 v6 v2.heap.size 31 ga (.int .i64 a.1) (.int .i64 a.2) from OwnF.keep HX5.out.1 h6) (And.intro (show O2 v6 w.heap.size 31 (g + 1) (.int .i64 0) (.int .i64 0) from OwnF.keep HX5.out.2 h6) oN.rd))
    clear k0 k1 oN h6 KN g5
    go_wp2_with fail
    go_loopw [10, 11] (fun tv kv wr => ∃ k t : Nat, k ≤ m ∧ kv = .int .i64 (k : Int) ∧ tv = .int .i64 (t : Int) ∧ t ≤ k ∧ atL a N 0 0 = atL a (N.drop k) k t ∧ Below v6.heap.size v6 wr) (fun _ kv _ => m - (intF kv).toNat)
    case atStart => exact ⟨0, 0, Nat.zero_le _, rfl, rfl, Nat.le_refl _, rfl, Below.refl _ _⟩
    case round =>
      obtain ⟨k, t, hk, rfl, rfl, ht, hat, hbr⟩ := hrel
      by_cases hlt : k < m
      case neg =>
        obtain rfl : k = m := by omega
        have g1 : ¬ (k : Int) < (k : Int) := by omega
        have hat2 : atL a N 0 0 = t := by rw [hat, HM.out.1, List.drop_length]; rfl
        have hb2 := HBN.out
        rw [hat2] at hb2
        have htl : t < k := by rw [HM.out.1]; exact (List.getElem?_eq_some_iff.1 hb2).1
        have hn2 : (N.map (nodeOf G))[t]? = some (nodeOf G bN) := by rw [List.getElem?_map, hb2]; rfl
        obtain ⟨bo, oo, rfl, hbo, n0, n1, _, _⟩ := nod_at HX6.out.2.2 hn2
        have n0' : wr.cell? ⟨bo, oo + t * 4, none⟩ = some (.int .i64 bN.id.1) := (hbr.cell (p := ⟨bo, oo + t * 4, none⟩) hbo).trans n0
        have n1' : wr.cell? ⟨bo, oo + t * 4 + 1, none⟩ = some (.int .i64 bN.id.2) := (hbr.cell (p := ⟨bo, oo + t * 4 + 1, none⟩) hbo).trans n1
        have ob : O2 wr w.heap.size 31 (g + 1) (.int .i64 0) (.int .i64 0) := OwnF.keep HX6.out.2.1 hbr
        have f0 := ob.f0
        have f1 := ob.f1
        have z0 := ob.c0
        have z1 := ob.c1
        have g2 : (t : Int) < (k : Int) := by omega
        have g3 : k ≤ 4096 := HM.out.2
        have o9 := ob.set_ (.int .i64 bN.id.1) (.int .i64 bN.id.2)
        have HO := Lib.hid (And.intro o9 ((HB6.out.trans (hbr.mono HB6.out.size)).trans (ob.below (.int .i64 bN.id.1) (.int .i64 bN.id.2))))
        clear hat hat2 hb2 hn2 n0 n1 hbo ob o9 hbr hk hlt ht htl
        go_wp2_with fail
        refine bodyPost_ret (id_res3 Try.results24 _ HO.out.1 rfl rfl rfl) rfl ?_
        rw [HX.out]
        exact ⟨rfl, HO.out.2⟩
      obtain ⟨y, hy⟩ : ∃ y, N[k]? = some y := getD_of (by rw [← HM.out.1]; exact hlt)
      have hn2 : (N.map (nodeOf G))[k]? = some (nodeOf G y) := by rw [List.getElem?_map, hy]; rfl
      obtain ⟨bo, oo, rfl, hbo, n0, n1, _, _⟩ := nod_at HX6.out.2.2 hn2
      have hyl : k < N.length := by rw [← HM.out.1]; exact hlt
      have hyy : N[k] = y := by rw [List.getElem?_eq_getElem hyl] at hy; exact Option.some.inj hy
      have HSTEP := Lib.hid (show atL a N 0 0 = atL a (N.drop (k + 1)) (k + 1) (if y.id = a then k + 1 else t) by rw [hat, List.drop_eq_getElem_cons hyl, hyy]; rfl)
      obtain ⟨x1, ex1⟩ : ∃ q, q = y.id.1 := ⟨_, rfl⟩
      obtain ⟨x2, ex2⟩ : ∃ q, q = y.id.2 := ⟨_, rfl⟩
      have n0' : v6.cell? ⟨bo, oo + k * 4, none⟩ = some (.int .i64 x1) := by rw [ex1]; exact n0
      have n1' : v6.cell? ⟨bo, oo + k * 4 + 1, none⟩ = some (.int .i64 x2) := by rw [ex2]; exact n1
      have hga := OwnF.lt HX6.out.1
      have y0 := HX6.out.1.c0
      have y1 := HX6.out.1.c1
      have g1 : (k : Int) < (m : Int) := by omega
      have g2 : m ≤ 4096 := HM.out.2
      have HS := Lib.hid (fun wz (hz : Below wr.heap.size wr wz) => show wz.cell? ⟨bo, oo + k * 4, none⟩ = some (.int .i64 x1) ∧ wz.cell? ⟨bo, oo + k * 4 + 1, none⟩ = some (.int .i64 x2) ∧ wz.cell? ⟨ga, 0, none⟩ = some (.int .i64 a.1) ∧ wz.cell? ⟨ga, 1, none⟩ = some (.int .i64 a.2) from by
        have hz6 := hbr.trans (hz.mono hbr.size)
        exact ⟨(hz6.cell (p := ⟨bo, oo + k * 4, none⟩) hbo).trans n0', (hz6.cell (p := ⟨bo, oo + k * 4 + 1, none⟩) hbo).trans n1', (hz6.cell (p := ⟨ga, 0, none⟩) hga).trans y0, (hz6.cell (p := ⟨ga, 1, none⟩) hga).trans y1⟩)
      have HE := Lib.hid (And.intro ex1 ex2)
      have HBR := Lib.hid hbr
      have HK := Lib.hid (And.intro hlt ht)
      clear hat hy hn2 hbo n0 n1 n0' n1' hyl hyy ex1 ex2 hga y0 y1 hbr hk hlt ht
      go_upto_region 14 with fail
      refine wp_region_inv 6 [46, 47, 48, 49, 50, 51] [.val (.slice (some ⟨bo, oo, none⟩) m cN), .val (.int .i64 (k : Int)), .val (.pointer (some ⟨bo, oo + k * 4, none⟩)), .val (.pointer (some ⟨bo, oo + k * 4, none⟩)), .val (.agg #[.int .i64 x1, .int .i64 x2]), .val (.agg #[.int .i64 a.1, .int .i64 a.2])] (fun wz => Below wr.heap.size wr wz) (by kernel_rfl) (by kernel_rfl) (fun wz wz' hz hb => hz.trans (hb.mono hz.size)) ((Below.refl _ _).drew) (fun u => by simp only [puts, List.foldl_cons, List.foldl_nil]; go_simp; exact rfl) ?_ ?_
      · simp only [List.take_succ_cons, List.take_zero]
        refine Obs.cons (fun u w hS hd => ?_) ?_
        · exact Gv.run (.slice (some ⟨bo, oo, none⟩) m cN) rfl (by go_simp) rfl
        refine Obs.cons (fun u w hS hd => ?_) ?_
        · exact Gv.run (.int .i64 (k : Int)) rfl (by go_simp) rfl
        refine Obs.cons (fun u w hS hd => ?_) ?_
        · have d46 : u 46 = .slice (some ⟨bo, oo, none⟩) m cN := dep hd 0 rfl
          have d47 : u 47 = .int .i64 (k : Int) := dep hd 1 rfl
          rw [d46, d47]
          exact Gv.run (.pointer (some ⟨bo, oo + k * 4, none⟩)) rfl (by go_simp) rfl
        refine Obs.cons (fun u w hS hd => ?_) ?_
        · have d48 : u 48 = .pointer (some ⟨bo, oo + k * 4, none⟩) := dep hd 2 rfl
          rw [d48]
          exact Gv.run (.pointer (some ⟨bo, oo + k * 4, none⟩)) rfl (by go_simp) rfl
        refine Obs.cons (fun u w hS hd => ?_) ?_
        · have d49 : u 49 = .pointer (some ⟨bo, oo + k * 4, none⟩) := dep hd 3 rfl
          rw [d49]
          exact Gv.run (.agg #[.int .i64 x1, .int .i64 x2]) rfl (by obtain ⟨k0, k1, k2, k3⟩ := HS.out w hS; go_simp) rfl
        refine Obs.cons (fun u w hS hd => ?_) ?_
        · exact Gv.run (.agg #[.int .i64 a.1, .int .i64 a.2]) rfl (by obtain ⟨k0, k1, k2, k3⟩ := HS.out w hS; go_simp) rfl
        exact Obs.nil
      intro u1 v7 hS hd
      have d50 : u1 50 = .agg #[.int .i64 x1, .int .i64 x2] := hd 4 (by decide)
      have d51 : u1 51 = .agg #[.int .i64 a.1, .int .i64 a.2] := hd 5 (by decide)
      rw [d50, d51]
      simp only [List.drop_succ_cons, List.drop_zero]
      have HB7 := Lib.hid (HBR.out.trans (hS.mono HBR.out.size))
      clear hS hd d50 d51
      by_cases e1 : x1 = a.1
      · by_cases e2 : x2 = a.2
        · have HY := Lib.hid (show y.id = a from Prod.ext (by rw [← HE.out.1, e1]) (by rw [← HE.out.2, e2]))
          subst e1
          subst e2
          go_wp2_with fail
          exact ⟨⟨k + 1, k + 1, by have := HK.out; omega, by go_num, by go_num, Nat.le_refl _, by rw [HSTEP.out, if_pos HY.out], HB7.out⟩, by simp [intF]; have := HK.out; omega⟩
        · have HY := Lib.hid (show ¬ y.id = a from fun h => e2 (by rw [HE.out.2, h]))
          subst e1
          go_wp2_with fail
          exact ⟨⟨k + 1, t, by have := HK.out; omega, by go_num, rfl, by have := HK.out; omega, by rw [HSTEP.out, if_neg HY.out], HB7.out⟩, by simp [intF]; have := HK.out; omega⟩
      · have HY := Lib.hid (show ¬ y.id = a from fun h => e1 (by rw [HE.out.1, h]))
        go_wp2_with fail
        exact ⟨⟨k + 1, t, by have := HK.out; omega, by go_num, rfl, by have := HK.out; omega, by rw [HSTEP.out, if_neg HY.out], HB7.out⟩, by simp [intF]; have := HK.out; omega⟩
end Go.Proofs.Ytljciakgdpihdaa
