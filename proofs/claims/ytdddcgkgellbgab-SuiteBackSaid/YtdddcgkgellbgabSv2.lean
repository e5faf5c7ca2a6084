/-
  Layer 19, the landed code: what is asked of the ideal suite by names. By an AI agent.
-/
import Derived.Test.YtdddcgkgellbgabSv1
namespace Go.Proofs.Ytdddcgkgellbgab
open Go Go.RowKit
set_option maxRecDepth 20000
attribute [local irreducible] e8 calledT
theorem told_back {w v w' : World} {F S : Nat → Prop} {p : Value} {L L' : List Trm} {D D' c : Nat} {A : Option Addr} {ans : List UInt8} (hb : Below w.heap.size w v) (_h : IdR w F S p L D) (ht : Told IdR v F S p L' D' A c ans w') : Told IdR w F S p L' D' A c ans w' := by
  obtain ⟨own, ho, F5, S5, hR, h1, h2, h3⟩ := ht
  exact ⟨own.mono hb.size, ⟨ho.os.trans hb.os, ho.tape.trans hb.tape, ho.output.trans hb.output, Nat.le_trans hb.size ho.size, fun k hk hf => (ho.block k (Nat.lt_of_lt_of_le hk hb.size) hf).trans (hb.block k hk)⟩, F5, S5, hR, fun k hk => (h1 k hk).imp id fun h => Nat.le_trans hb.size h, fun k hk => (h2 k hk).imp id fun h => Nat.le_trans hb.size h, h3⟩
theorem len_any : LenC IdR := by
  intro F S p L D w h
  obtain ⟨I, T, F0, rfl, hI, hT, hF⟩ := id h
  have HM := Lib.hid (made_any w h)
  obtain ⟨M, A, c, clk, es, X, H, e, _, _⟩ := hT
  have hl : L.length = X.length := by rw [e, List.length_map]
  obtain ⟨n, en⟩ : ∃ n, n = X.length := ⟨_, rfl⟩
  rw [hl, ← en]
  have HC := Lib.hid (fun v (hv : Below w.heap.size w v) => show v.cell? ⟨I, 0, none⟩ = some (ptB T) ∧ v.cell? ⟨T, 0, none⟩ = some (.slice A n c) from ⟨(hv.cell (p := ⟨I, 0, none⟩) (w_lt hI)).trans (ic_cell hI), (hv.cell (p := ⟨T, 0, none⟩) (w_lt H.table)).trans (by rw [en]; simp [World.cell?, H.table])⟩)
  clear h hI hF H e hl en
  go_enter Try.func12, Try.ntmps12
  go_wp2_with fail
  go_at_call 37
  refine HM.out.mono ?_
  rintro e v ⟨rfl, hv⟩
  obtain ⟨c0, c1⟩ := HC.out v hv
  have HV := Lib.hid hv
  clear hv HM HC
  go_wp2_with fail
  go_ret
  exact ⟨rfl, HV.out⟩
set_option maxHeartbeats 800000 in
theorem hash_any : HashC IdR := by
  intro F S p L D A c b w h hL hr hl
  obtain ⟨I, T, F0, rfl, hI, hT, hF⟩ := id h
  have HM := Lib.hid (made_any w h)
  have HU := Lib.hid (And.intro hI (And.intro hF (And.intro hT h)))
  have HC := Lib.hid (fun v (hv : Below w.heap.size w v) => (hv.cell (p := ⟨I, 0, none⟩) (w_lt hI)).trans (ic_cell hI))
  have HR := Lib.hid (And.intro hr (And.intro hl hL))
  obtain ⟨n, en⟩ : ∃ n, n = b.length := ⟨_, rfl⟩
  have HN := Lib.hid en
  rw [← en]
  clear h hI hT hF hr hl hL en
  go_enter Try.func13, Try.ntmps13
  go_wp2_with fail
  go_at_call 37
  refine HM.out.mono ?_
  rintro e v ⟨rfl, hv⟩
  have cI := HC.out v hv
  have HV := Lib.hid hv
  clear hv HC HM
  go_wp2_with fail
  obtain ⟨v1, ev⟩ : ∃ q, q = v.alloc (.cells #[.slice A n c] 31) := ⟨_, rfl⟩
  have hb1 : Below v.heap.size v v1 := by rw [ev]; exact (Below.refl _ _).alloc (Nat.le_refl _) _
  have hd : Rds v1 v1.heap.size (some ⟨v.heap.size, 0, none⟩) 1 [b] := by
    have hq := rds_lit 31 (w := v) [(A, c, b)] (fun x hx => by rw [List.mem_singleton.1 hx]; exact (HR.out.1.keep HV.out).mono HV.out.size)
    rw [ev, HN.out]
    exact hq
  have hbw := HV.out.trans (hb1.mono HV.out.size)
  have HB := Lib.hid hbw
  rw [← ev]
  clear ev hb1
  refine (name_any (k := 104) (P := [b]) v1 (HU.out.2.2.1.keep fun q hq => hbw.block q (HU.out.2.2.1.lt q hq)) hd ⟨rfl, by simpa using HR.out.2.1⟩ HR.out.2.2).mono ?_
  rintro e w2 ⟨Aq, cq, rfl, ht⟩
  have H2 := Lib.hid ht
  clear ht hbw hd
  go_wp2_with fail
  go_ret
  exact ⟨Aq, cq, by rw [calledT_len]; rfl, told_up HU.out.1 HU.out.2.1 HU.out.2.2.1 (OutF.of HB.out) H2.out⟩
set_option maxHeartbeats 800000 in
theorem public_any : PubC IdR := by
  intro F S p L D A c b w h hL hr hl
  have HU := Lib.hid (And.intro h (And.intro hr (And.intro hl hL)))
  obtain ⟨n, en⟩ : ∃ n, n = b.length := ⟨_, rfl⟩
  have HN := Lib.hid en
  rw [← en]
  clear h hr hl hL en
  go_enter Try.func23, Try.ntmps23
  go_wp2_with fail
  obtain ⟨v1, ev⟩ : ∃ q, q = w.alloc (.cells #[.slice A n c] 31) := ⟨_, rfl⟩
  have hb1 : Below w.heap.size w v1 := by rw [ev]; exact (Below.refl _ _).alloc (Nat.le_refl _) _
  have hd : Rds v1 v1.heap.size (some ⟨w.heap.size, 0, none⟩) 1 [b] := by
    have hq := rds_lit 31 (w := w) [(A, c, b)] (fun x hx => by rw [List.mem_singleton.1 hx]; exact HU.out.2.1)
    rw [ev, HN.out]
    exact hq
  rw [← ev]
  clear ev
  refine (keyed_any (k := 112) (P := [b]) v1 (HU.out.1.next hb1) hd ⟨rfl, by simpa using HU.out.2.2.1⟩ HU.out.2.2.2).mono ?_
  rintro e w2 ⟨Aq, cq, rfl, ht⟩
  have H2 := Lib.hid (told_back hb1 HU.out.1 ht)
  clear ht hb1 hd
  go_wp2_with fail
  go_ret
  exact ⟨Aq, cq, rfl, H2.out⟩
set_option maxHeartbeats 800000 in
theorem signer_any : SgrC IdR := by
  intro F S p L D A c b w h hL hr hl
  have HU := Lib.hid (And.intro h (And.intro hr (And.intro hl hL)))
  obtain ⟨n, en⟩ : ∃ n, n = b.length := ⟨_, rfl⟩
  have HN := Lib.hid en
  rw [← en]
  clear h hr hl hL en
  go_enter Try.func17, Try.ntmps17
  go_wp2_with fail
  obtain ⟨v1, ev⟩ : ∃ q, q = w.alloc (.cells #[.slice A n c] 31) := ⟨_, rfl⟩
  have hb1 : Below w.heap.size w v1 := by rw [ev]; exact (Below.refl _ _).alloc (Nat.le_refl _) _
  have hd : Rds v1 v1.heap.size (some ⟨w.heap.size, 0, none⟩) 1 [b] := by
    have hq := rds_lit 31 (w := w) [(A, c, b)] (fun x hx => by rw [List.mem_singleton.1 hx]; exact HU.out.2.1)
    rw [ev, HN.out]
    exact hq
  rw [← ev]
  clear ev
  refine (keyed_any (k := 118) (P := [b]) v1 (HU.out.1.next hb1) hd ⟨rfl, by simpa using HU.out.2.2.1⟩ HU.out.2.2.2).mono ?_
  rintro e w2 ⟨Aq, cq, rfl, ht⟩
  have H2 := Lib.hid (told_back hb1 HU.out.1 ht)
  clear ht hb1 hd
  go_wp2_with fail
  go_ret
  exact ⟨Aq, cq, rfl, H2.out⟩
set_option maxHeartbeats 800000 in
theorem derive_any : DerC IdR := by
  intro F S p L D A A2 c c2 b i w h hL hr hr2 hl hl2
  have HU := Lib.hid (And.intro h (And.intro hr (And.intro hl (And.intro hL (And.intro hr2 hl2)))))
  obtain ⟨n, en⟩ : ∃ n, n = b.length := ⟨_, rfl⟩
  obtain ⟨m, em⟩ : ∃ n, n = i.length := ⟨_, rfl⟩
  have HN := Lib.hid (And.intro en em)
  rw [← en, ← em]
  clear h hr hl hL en em hr2 hl2
  go_enter Try.func24, Try.ntmps24
  go_wp2_with fail
  obtain ⟨v1, ev⟩ : ∃ q, q = w.alloc (.cells #[.slice A n c, .slice A2 m c2] 31) := ⟨_, rfl⟩
  have hb1 : Below w.heap.size w v1 := by rw [ev]; exact (Below.refl _ _).alloc (Nat.le_refl _) _
  have hd : Rds v1 v1.heap.size (some ⟨w.heap.size, 0, none⟩) 2 [b, i] := by
    have hq := rds_lit 31 (w := w) [(A, c, b), (A2, c2, i)] (fun x hx => by
      simp only [List.mem_cons, List.not_mem_nil, or_false] at hx
      rcases hx with rfl | rfl
      · exact HU.out.2.1
      · exact HU.out.2.2.2.2.1)
    rw [ev, HN.out.1, HN.out.2]
    exact hq
  rw [← ev]
  clear ev
  refine (keyed_any (k := 107) (P := [b, i]) v1 (HU.out.1.next hb1) hd ⟨rfl, by simpa using And.intro HU.out.2.2.1 HU.out.2.2.2.2.2⟩ HU.out.2.2.2.1).mono ?_
  rintro e w2 ⟨Aq, cq, rfl, ht⟩
  have H2 := Lib.hid (told_back hb1 HU.out.1 ht)
  clear ht hb1 hd
  go_wp2_with fail
  go_ret
  exact ⟨Aq, cq, rfl, H2.out⟩
set_option maxHeartbeats 800000 in
theorem sign_any : SgnC IdR := by
  intro F S p L D A A2 c c2 b i w h hL hr hr2 hl hl2
  have HU := Lib.hid (And.intro h (And.intro hr (And.intro hl (And.intro hL (And.intro hr2 hl2)))))
  obtain ⟨n, en⟩ : ∃ n, n = b.length := ⟨_, rfl⟩
  obtain ⟨m, em⟩ : ∃ n, n = i.length := ⟨_, rfl⟩
  have HN := Lib.hid (And.intro en em)
  rw [← en, ← em]
  clear h hr hl hL en em hr2 hl2
  go_enter Try.func16, Try.ntmps16
  go_wp2_with fail
  obtain ⟨v1, ev⟩ : ∃ q, q = w.alloc (.cells #[.slice A n c, .slice A2 m c2] 31) := ⟨_, rfl⟩
  have hb1 : Below w.heap.size w v1 := by rw [ev]; exact (Below.refl _ _).alloc (Nat.le_refl _) _
  have hd : Rds v1 v1.heap.size (some ⟨w.heap.size, 0, none⟩) 2 [b, i] := by
    have hq := rds_lit 31 (w := w) [(A, c, b), (A2, c2, i)] (fun x hx => by
      simp only [List.mem_cons, List.not_mem_nil, or_false] at hx
      rcases hx with rfl | rfl
      · exact HU.out.2.1
      · exact HU.out.2.2.2.2.1)
    rw [ev, HN.out.1, HN.out.2]
    exact hq
  rw [← ev]
  clear ev
  refine (keyed_any (k := 103) (P := [b, i]) v1 (HU.out.1.next hb1) hd ⟨rfl, by simpa using And.intro HU.out.2.2.1 HU.out.2.2.2.2.2⟩ HU.out.2.2.2.1).mono ?_
  rintro e w2 ⟨Aq, cq, rfl, ht⟩
  have H2 := Lib.hid (told_back hb1 HU.out.1 ht)
  clear ht hb1 hd
  go_wp2_with fail
  go_ret
  exact ⟨Aq, cq, rfl, H2.out⟩
end Go.Proofs.Ytdddcgkgellbgab
