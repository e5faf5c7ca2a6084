/-
  The code's Write (layer 6). Written by tools/gen_n30.py. By an AI agent.
-/
import Derived.Test.YtbofehdihflkiaaDoorN29
namespace Go.Proofs.YtbofehdihflkiaaDoor
open Go Go.RowKit
set_option maxRecDepth 20000
theorem runs_step64 (P : List UInt8) (k : Nat) {V : Nat → Nat} (hV : V = runs smallS (fst smallS) P k) {Q : List UInt8} (hQ : Q = (P.drop (k * 64)).take 64) : runs smallS V Q 1 = runs smallS (fst smallS) P (k + 1) := by
  have e1 : runs smallS V Q 1 = blN smallS V (nth ((Q.drop (0 * 64)).take 64)) := rfl
  have e2 : runs smallS (fst smallS) P (k + 1) = blN smallS (runs smallS (fst smallS) P k) (nth ((P.drop (k * 64)).take 64)) := rfl
  rw [e1, e2, ← hV, hQ, Nat.zero_mul, List.drop_zero, List.take_take, Nat.min_self]
section
attribute [local irreducible] rl setA bvf subA runs lay hcell fst
set_option maxHeartbeats 6400000 in
theorem hwriteE {B g c : Nat} {A : Option Addr} {bs b : List UInt8} (hlen : bs.length + b.length ≤ 140737488355328) (hB4 : glbN ≤ B) (w : World) (hG : Glb w) (hs : Hs w B g bs) (hr : Rd w w.heap.size A c b) (hof : OffE g A b) :
    Calls Tryd.prog 29 #[.pointer (some ⟨g, 0, none⟩), .slice A b.length c] w fun e w' => e = .returned (.tuple #[]) ∧ Hs w' B g (bs ++ b) ∧ Ex g w w' := by
  obtain ⟨V, rb, o, hrl, htk, hV, hVr⟩ := hs
  have hg4 : glbN ≤ g := Nat.le_trans hB4 (OwnF.ge o)
  have cn := (OwnF.cell o (k := 72) (by decide)).trans (by rw [hcell_n])
  have e1 : IntKind.u64.wrap (b.length : Int) = (b.length : Int) := by rw [IntKind.wrap_u64]; omega
  obtain ⟨L1, hL1⟩ : ∃ x, x = (bs ++ b).length := ⟨_, rfl⟩
  have hL2 : L1 = bs.length + b.length := by rw [hL1, List.length_append]
  have e2 : IntKind.u64.wrap ((bs.length : Int) + (b.length : Int)) = (L1 : Int) := by rw [IntKind.wrap_u64]; omega
  have HL1 := Lib.hid hL1
  have HL2 := Lib.hid hL2
  clear hL1 hL2
  by_cases h0 : bs.length = 0
  · obtain rfl : bs = [] := List.eq_nil_of_length_eq_zero h0
    have cn0 : w.cell? ⟨g, 72, none⟩ = some (.int .u64 0) := cn
    obtain rfl : L1 = b.length := by have := HL2.out; simp at this; exact this
    have hgl : Cl w 0 0 8 (iv32 (fst smallS)) := fun k hk => by rw [Nat.zero_add]; exact hG.a k hk
    have HGL := Lib.hid hgl
    have o0 := OwnF.congr (av_put o 0 8 (iv32 (fst smallS))) fun j _ => hput_w V (fst smallS) rb _ j
    have cn1 : (setA w g 0 8 (iv32 (fst smallS))).cell? ⟨g, 72, none⟩ = some (.int .u64 0) := (OwnF.cell o0 (k := 72) (by decide)).trans (by rw [hcell_n]; rfl)
    have ff1 := OwnF.free o0 72
    have o1 := OwnF.congr (OwnF.set_ o0 72 (.int .u64 (b.length : Int))) fun j hj => hput_n (fst smallS) rb _ b.length hj
    have hE0 : Ex g w (setA w g 0 8 (iv32 (fst smallS))) := Ex.of_only (av_only _ _ _ _ _)
    have hE := hE0.trans (Ex.of_only (Only.setCell (setA w g 0 8 (iv32 (fst smallS))) ⟨g, 72, none⟩ (.int .u64 (b.length : Int))))
    have O1 := Lib.hid o1
    have HE := Lib.hid hE
    have E1 := Lib.hid e1
    clear o1 hE hE0 o0 hgl e2 cn
    go_enter Tryd.func29, Tryd.ntmps29
    go_upto_region 10 with (first | ((with_reducible refine av_load HGL.out ty8_32 ?_ ?_); rfl) | ((with_reducible refine av_store (off := 0) o ty8_32 (by decide) (iv32 (fst smallS)) (fun k _ => rfl) ?_ ?_ ?_); rfl; rfl))
    obtain ⟨v, ev⟩ : ∃ v, v = (setA w g 0 8 (iv32 (fst smallS))).setCell ⟨g, 72, none⟩ (.int .u64 (b.length : Int)) := ⟨_, rfl⟩
    have o1 := O1.out
    have hE := HE.out
    rw [← ev] at o1 hE ⊢
    have hr1 := hr.exE hE hof
    obtain ⟨V1, hV1⟩ : ∃ x, x = runs smallS (fst smallS) b 0 := ⟨_, rfl⟩
    have hV1l : ∀ i, V1 i < 4294967296 := fun i => by rw [hV1, runs_zero]; exact fst_small i
    have hV1e : fst smallS = V1 := by rw [hV1]; exact (runs_zero _ _ _).symm
    have o2 : OwnF v B 62 (some ⟨g, 0, none⟩) 73 73 (hcell V1 rb b.length) := by rw [← hV1e]; exact o1
    have hbq : b = b.drop (0 * 64) := by simp
    have hk : 0 * 64 ≤ b.length := by omega
    clear ev o1 O1 HE o HGL cn0 cn1 ff1 E1 hr htk hVr h0 hV1e
    have o1 := o2
    have hrl1 := hrl
    have hof1 := hof
    clear hrl hof o2
    have hfin := runs_fin b hk
    rw [← hV1, ← hbq] at hfin
    obtain ⟨f1, f2, f3⟩ := hfin
    obtain ⟨PD, hPD⟩ : ∃ x, x = b.drop (b.length / 64 * 64) := ⟨_, rfl⟩
    replace f2 : b.drop (b.length / 64 * 64) = PD := f2.trans hPD.symm
    replace f3 : PD.length = b.length % 64 := by rw [hPD]; exact f3
    have HPD := Lib.hid hPD
    clear hPD
    have hV2l : ∀ i, runs smallS V1 b (b.length / 64) i < 4294967296 := fun i => runs_lt (S := smallS) hV1l _ _ i
    have hbl : b.length ≤ 140737488355328 := by have := hlen; simp at this; omega
    have KT := Lib.hid (fun w hG hr => take_32 (V := V1) (A0 := A) (B := w.heap.size) (c0 := c) (bs := b) hV1l hbl w hG hr (Nat.le_refl _))
    have hwl : b.length / 64 * 64 ≤ b.length := Nat.div_mul_le_self _ _
    have hrest : (b.drop (b.length / 64 * 64)).length = b.length - b.length / 64 * 64 := List.length_drop
    have HRD := Lib.hid (fun (v : World) (h : Rd v v.heap.size A c b) => h.drop_ hwl)
    have hof2 : OffE g (subA A c (b.length / 64 * 64)) (b.drop (b.length / 64 * 64)) := hof1.sub
    rw [← hrest] at KT
    generalize runs smallS V1 b (b.length / 64) = V2 at *
    generalize subA A c (b.length / 64 * 64) = A2 at *
    generalize c - b.length / 64 * 64 = c2 at *
    generalize b.drop (b.length / 64 * 64) = rs at KT HRD hrest f2 hof2
    rw [← f2] at f3
    have hcl := Lib.hid (OwnF.cl (off := 0) (n := 8) (f' := iv32 V1) o1 (by decide) (fun k hk => hcell_w hk))
    have F1 := Lib.hid f1
    have F2 := Lib.hid f2
    have F3 := Lib.hid f3
    have hrs := Lib.hid (show rs.length = Nat.min rs.length 64 from (Nat.min_eq_left (by omega)).symm)
    have hrs2 := Lib.hid (show rs.length < 64 by omega)
    clear f1 f2 f3 hrest hwl hV1 hbq hk hV1l
    have HGV := Lib.hid (hG.ex hE hg4)
    have HR1 := Lib.hid hr1
    clear hr1
    go_wp2_with ((with_reducible refine av_load hcl.out ty8_32 ?_ ?_); rfl)
    go_at_call 36
    refine (KT.out _ HGV.out HR1.out).mono ?_
    rintro e v2 ⟨rfl, h0⟩
    have hrd2 := HRD.out v2 (HR1.out.keep h0 |>.mono h0.size)
    have o2 := OwnF.keep o1 h0
    have hE2 := hE.trans (Ex.of_below h0)
    clear h0 KT HGV HR1 HRD hcl o1 hE
    have o3 := OwnF.congr (av_put o2 0 8 (iv32 V2)) fun j _ => hput_w V1 V2 rb _ j
    have hE3 := hE2.trans (Ex.of_only (av_only v2 g 0 8 (iv32 V2)))
    have hrd3 := hrd2.exE (Ex.of_only (av_only v2 g 0 8 (iv32 V2))) hof2
    have o4 := Lib.hid (OwnF.congr (av_put o3 8 rs.length (bvf rs)) fun j _ => hput_r (o := 0) hrl1 (by have := hrs2.out; omega) (Nat.le_refl _) j)
    have hE4 := Lib.hid (hE3.trans (Ex.of_only (av_only (setA v2 g 0 8 (iv32 V2)) g 8 rs.length (bvf rs))))
    have hfit := Lib.hid (show 8 + rs.length ≤ 73 by have := hrs2.out; omega)
    have HCP := Lib.hid (fun (ops : Array Oper) (rest2 : List Oper) (a : Act) (Q : Exit → Act → World → Prop) (d s : Operand) (dst : Option Nat) (tp : TypeId) (ps : String) (af : Array Edge) => copy_to (ops := ops) (rest := rest2) (a := a) (Q := Q) (d := d) (s := s) (dst := dst) (tp := tp) (ps := ps) (af := af) (off := 8) (dc := 64) o3 hrd3 hrs.out hfit.out)
    have HRL := Lib.hid hrl1
    clear o3 hrd3 hrd2 hE2 hE3 hof2
    go_wp2_with (first | ((with_reducible refine av_store (off := 0) o2 ty8_32 (by decide) (iv32 V2) (fun k _ => rfl) ?_ ?_ ?_); rfl; rfl) | ((with_reducible refine sliceA_arm_all g 8 ?_ ?_); rfl) | ((refine HCP.out _ _ _ _ _ _ _ _ _ _ ?_ ?_ ?_); rfl; rfl))
    refine bodyPost_end (v := .tuple #[]) (by simp [results, Tryd.results29, go_sem]) rfl ⟨rfl, ⟨V2, lay rb 0 rs.length rs, ?_, ?_, ?_, hV2l, fun _ => F1.out⟩, hE4.out⟩
    · exact o4.out
    · rw [lay_length (by have := hrs2.out; have := HRL.out; omega) (Nat.le_refl _)]; exact HRL.out
    · rw [← F3.out, ← HPD.out, ← F2.out]
      have h9 := lay_take (rb := rb) (b := rs) (o := 0) (m := rs.length) (by have := hrs2.out; have := HRL.out; omega) (Nat.le_refl _)
      rw [Nat.zero_add, List.take_zero, List.nil_append, List.take_length] at h9
      exact h9
  · obtain ⟨fr, hfr⟩ : ∃ x, x = bs.length % 64 := ⟨_, rfl⟩
    have q1 : (bs.length : Int) % 64 = (fr : Int) := by omega
    have q2 : (bs.length : Int).tmod 64 = (fr : Int) := by rw [Int.tmod_eq_emod_of_nonneg (by omega)]; omega
    have g1 : ((bs.length : Int) == 0) = false := beq_eq_false_iff_ne.2 (by omega)
    have ff := OwnF.free o 72
    have o1 := OwnF.congr (OwnF.set_ o 72 (.int .u64 (L1 : Int))) fun j hj => hput_n V rb _ L1 hj
    have hE := Ex.of_only (Only.setCell w ⟨g, 72, none⟩ (.int .u64 (L1 : Int)))
    have hr1 := hr.exE hE hof
    have hVk := hVr h0
    have hkl : bs.length / 64 * 64 ≤ bs.length := Nat.div_mul_le_self _ _
    have hV1 : V = runs smallS (fst smallS) (bs ++ b) (bs.length / 64) := by rw [hVk]; exact (runs_left smallS (fst smallS) bs b _ hkl).symm
    clear hr hVr hVk
    by_cases h64 : fr = 0
    · have g2 : ¬ (0 : Int) < (fr : Int) := by omega
      have O1 := Lib.hid o1
      have HE := Lib.hid hE
      have HR1 := Lib.hid hr1
      have E1 := Lib.hid e1
      have HV1 := Lib.hid hV1
      have hbq : b = (bs ++ b).drop (bs.length / 64 * 64) := by
        rw [show bs.length / 64 * 64 = bs.length by omega, List.drop_append, List.drop_of_length_le (Nat.le_refl _), Nat.sub_self, List.drop_zero, List.nil_append]
      have HBQ := Lib.hid hbq
      have H0 := Lib.hid h0
      have H64 := Lib.hid h64
      have HFR := Lib.hid hfr
      have HTK := Lib.hid htk
      clear o1 hE hr1 hV1 hbq h0 h64 hfr htk o
      go_enter Tryd.func29, Tryd.ntmps29
      go_upto_region 10 with fail
      obtain ⟨v, ev⟩ : ∃ v, v = w.setCell ⟨g, 72, none⟩ (.int .u64 (L1 : Int)) := ⟨_, rfl⟩
      have o1 := O1.out
      have hE := HE.out
      have hr1 := HR1.out
      have hV1 := HV1.out
      have hbq := HBQ.out
      have e1 := E1.out
      rw [← ev] at o1 hE hr1 ⊢
      have hk : bs.length / 64 * 64 ≤ (bs ++ b).length := by rw [List.length_append]; omega
      have hV1l := hV
      have hrl1 := hrl
      have hof1 := hof
      clear ev O1 HE HR1 HV1 HBQ E1 cn ff g1 g2 q1 q2 e1 e2 hrl hof hkl
      have hfin := runs_fin (bs ++ b) hk
      rw [← hV1, ← hbq] at hfin
      obtain ⟨f1, f2, f3⟩ := hfin
      obtain ⟨PD, hPD⟩ : ∃ x, x = (bs ++ b).drop ((bs ++ b).length / 64 * 64) := ⟨_, rfl⟩
      replace f2 : b.drop (b.length / 64 * 64) = PD := f2.trans hPD.symm
      replace f3 : PD.length = (bs ++ b).length % 64 := by rw [hPD]; exact f3
      have HPD := Lib.hid hPD
      clear hPD
      have hV2l : ∀ i, runs smallS V b (b.length / 64) i < 4294967296 := fun i => runs_lt (S := smallS) hV1l _ _ i
      have hbl : b.length ≤ 140737488355328 := by rw [hbq, List.length_drop, List.length_append]; omega
      have KT := Lib.hid (fun w hG hr => take_32 (V := V) (A0 := A) (B := w.heap.size) (c0 := c) (bs := b) hV1l hbl w hG hr (Nat.le_refl _))
      have hwl : b.length / 64 * 64 ≤ b.length := Nat.div_mul_le_self _ _
      have hrest : (b.drop (b.length / 64 * 64)).length = b.length - b.length / 64 * 64 := List.length_drop
      have HRD := Lib.hid (fun (v : World) (h : Rd v v.heap.size A c b) => h.drop_ hwl)
      have hof2 : OffE g (subA A c (b.length / 64 * 64)) (b.drop (b.length / 64 * 64)) := hof1.sub
      rw [← hrest] at KT
      generalize runs smallS V b (b.length / 64) = V2 at *
      generalize subA A c (b.length / 64 * 64) = A2 at *
      generalize c - b.length / 64 * 64 = c2 at *
      generalize b.drop (b.length / 64 * 64) = rs at KT HRD hrest f2 hof2
      rw [← f2] at f3
      have hcl := Lib.hid (OwnF.cl (off := 0) (n := 8) (f' := iv32 V) o1 (by decide) (fun k hk => hcell_w hk))
      have F1 := Lib.hid f1
      have F2 := Lib.hid f2
      have F3 := Lib.hid f3
      have hrs := Lib.hid (show rs.length = Nat.min rs.length 64 from (Nat.min_eq_left (by omega)).symm)
      have hrs2 := Lib.hid (show rs.length < 64 by omega)
      clear f1 f2 f3 hrest hwl hV1 hbq hk hV1l
      have HGV := Lib.hid (hG.ex hE hg4)
      have HR1 := Lib.hid hr1
      clear hr1
      go_wp2_with ((with_reducible refine av_load hcl.out ty8_32 ?_ ?_); rfl)
      go_at_call 36
      refine (KT.out _ HGV.out HR1.out).mono ?_
      rintro e v2 ⟨rfl, h0⟩
      have hrd2 := HRD.out v2 (HR1.out.keep h0 |>.mono h0.size)
      have o2 := OwnF.keep o1 h0
      have hE2 := hE.trans (Ex.of_below h0)
      clear h0 KT HGV HR1 HRD hcl o1 hE
      have o3 := OwnF.congr (av_put o2 0 8 (iv32 V2)) fun j _ => hput_w V V2 rb _ j
      have hE3 := hE2.trans (Ex.of_only (av_only v2 g 0 8 (iv32 V2)))
      have hrd3 := hrd2.exE (Ex.of_only (av_only v2 g 0 8 (iv32 V2))) hof2
      have o4 := Lib.hid (OwnF.congr (av_put o3 8 rs.length (bvf rs)) fun j _ => hput_r (o := 0) hrl1 (by have := hrs2.out; omega) (Nat.le_refl _) j)
      have hE4 := Lib.hid (hE3.trans (Ex.of_only (av_only (setA v2 g 0 8 (iv32 V2)) g 8 rs.length (bvf rs))))
      have hfit := Lib.hid (show 8 + rs.length ≤ 73 by have := hrs2.out; omega)
      have HCP := Lib.hid (fun (ops : Array Oper) (rest2 : List Oper) (a : Act) (Q : Exit → Act → World → Prop) (d s : Operand) (dst : Option Nat) (tp : TypeId) (ps : String) (af : Array Edge) => copy_to (ops := ops) (rest := rest2) (a := a) (Q := Q) (d := d) (s := s) (dst := dst) (tp := tp) (ps := ps) (af := af) (off := 8) (dc := 64) o3 hrd3 hrs.out hfit.out)
      have HRL := Lib.hid hrl1
      clear o3 hrd3 hrd2 hE2 hE3 hof2
      go_wp2_with (first | ((with_reducible refine av_store (off := 0) o2 ty8_32 (by decide) (iv32 V2) (fun k _ => rfl) ?_ ?_ ?_); rfl; rfl) | ((with_reducible refine sliceA_arm_all g 8 ?_ ?_); rfl) | ((refine HCP.out _ _ _ _ _ _ _ _ _ _ ?_ ?_ ?_); rfl; rfl))
      refine bodyPost_end (v := .tuple #[]) (by simp [results, Tryd.results29, go_sem]) rfl ⟨rfl, ⟨V2, lay rb 0 rs.length rs, ?_, ?_, ?_, hV2l, fun _ => F1.out⟩, hE4.out⟩
      · rw [← HL1.out]; exact o4.out
      · rw [lay_length (by have := hrs2.out; have := HRL.out; omega) (Nat.le_refl _)]; exact HRL.out
      · rw [← F3.out, ← HPD.out, ← F2.out]
        have h9 := lay_take (rb := rb) (b := rs) (o := 0) (m := rs.length) (by have := hrs2.out; have := HRL.out; omega) (Nat.le_refl _)
        rw [Nat.zero_add, List.take_zero, List.nil_append, List.take_length] at h9
        exact h9
    · have g2 : (0 : Int) < (fr : Int) := by omega
      have hfr64 : fr < 64 := by omega
      have HFR := Lib.hid hfr
      have HFR64 := Lib.hid hfr64
      obtain ⟨dl, hdl⟩ : ∃ x, x = 64 - fr := ⟨_, rfl⟩
      by_cases hsh : fr + b.length < 64
      · have hm := Lib.hid (show b.length = Nat.min b.length (64 - fr) from (Nat.min_eq_left (by omega)).symm)
        have hfit := Lib.hid (show 8 + fr + b.length ≤ 73 by omega)
        have o2 := Lib.hid (OwnF.congr (av_put o1 (8 + fr) b.length (bvf b)) fun j _ => hput_r (V := V) (n := L1) hrl (by omega) (Nat.le_refl _) j)
        have HE2 := Lib.hid (hE.trans (Ex.of_only (av_only (w.setCell ⟨g, 72, none⟩ (.int .u64 (L1 : Int))) g (8 + fr) b.length (bvf b))))
        have HCP := Lib.hid (fun (ops : Array Oper) (rest2 : List Oper) (a : Act) (Q : Exit → Act → World → Prop) (d s : Operand) (dst : Option Nat) (tp : TypeId) (ps : String) (af : Array Edge) => copy_to (ops := ops) (rest := rest2) (a := a) (Q := Q) (d := d) (s := s) (dst := dst) (tp := tp) (ps := ps) (af := af) (off := 8 + fr) (dc := 64 - fr) o1 hr1 hm.out hfit.out)
        obtain ⟨qn, hqn⟩ : ∃ x, x = fr + b.length := ⟨_, rfl⟩
        have e4 : IntKind.u64.wrap ((fr : Int) + (b.length : Int)) = (qn : Int) := by rw [IntKind.wrap_u64]; omega
        have g5 : (qn : Int) < 64 := by omega
        have hVf : V = runs smallS (fst smallS) (bs ++ b) ((bs ++ b).length / 64) := by rw [← HL1.out, show L1 / 64 = bs.length / 64 by have := HL2.out; omega]; exact hV1
        have htk2 : (lay rb fr b.length b).take ((bs ++ b).length % 64) = (bs ++ b).drop ((bs ++ b).length / 64 * 64) := by
          rw [← HL1.out, show L1 % 64 = fr + b.length by have := HL2.out; omega, show L1 / 64 = bs.length / 64 by have := HL2.out; omega, lay_take (by omega) (Nat.le_refl _), hfr, htk, List.take_length, drop_le hkl]
        have hll : (lay rb fr b.length b).length = 64 := by rw [lay_length (by omega) (Nat.le_refl _)]; exact hrl
        have HF := Lib.hid (And.intro hVf (And.intro htk2 hll))
        have HVL := Lib.hid hV
        clear hqn hVf htk2 hll o1 hE hr1 hV1 hfr htk o hdl h0 h64 hsh hkl hrl hV
        go_enter Tryd.func29, Tryd.ntmps29
        go_wp2_with (first | ((with_reducible refine sliceA_arm_lo (g := g) (off := 8) fr HFR64.out ?_ ?_ ?_); rfl; rfl) | ((refine HCP.out _ _ _ _ _ _ _ _ _ _ ?_ ?_ ?_); rfl; rfl))
        exact bodyPost_ret (v := .tuple #[]) (by simp [results, Tryd.results29, go_sem]) rfl ⟨rfl, ⟨V, lay rb fr b.length b, by rw [← HL1.out]; exact o2.out, HF.out.2.2, HF.out.2.1, HVL.out, fun _ => HF.out.1⟩, HE2.out⟩
      · have hml : dl ≤ b.length := by omega
        have hm := Lib.hid (show dl = Nat.min b.length (64 - fr) from hdl.trans (Nat.min_eq_right (by omega)).symm)
        have hfit := Lib.hid (show 8 + fr + dl ≤ 73 by omega)
        have o2 := OwnF.congr (av_put o1 (8 + fr) dl (bvf b)) fun j _ => hput_r (V := V) (n := L1) hrl (by omega) hml j
        have hX := Ex.of_only (av_only (w.setCell ⟨g, 72, none⟩ (.int .u64 (L1 : Int))) g (8 + fr) dl (bvf b))
        have hE2 := hE.trans hX
        have hr2 := hr1.exE hX hof
        have HCP := Lib.hid (fun (ops : Array Oper) (rest2 : List Oper) (a : Act) (Q : Exit → Act → World → Prop) (d s : Operand) (dst : Option Nat) (tp : TypeId) (ps : String) (af : Array Edge) => copy_to (ops := ops) (rest := rest2) (a := a) (Q := Q) (d := d) (s := s) (dst := dst) (tp := tp) (ps := ps) (af := af) (off := 8 + fr) (dc := 64 - fr) o1 hr1 hm.out hfit.out)
        have e3 : IntKind.u64.wrap (dl : Int) = (dl : Int) := by rw [IntKind.wrap_u64]; omega
        have e4 : IntKind.u64.wrap ((fr : Int) + (dl : Int)) = 64 := by rw [IntKind.wrap_u64]; omega
        obtain ⟨hfb1, hfb2⟩ := fill_blk (bs := bs) (b := b) (rb := rb) (o := fr) hfr hrl (by rw [hfr]; exact htk) (by omega)
        rw [← hdl] at hfb1 hfb2
        have hVn := runs_step64 (bs ++ b) (bs.length / 64) hV1 hfb1
        have hll : (lay rb fr dl b).length = 64 := by rw [lay_length (by omega) hml]; exact hrl
        have hk : (bs.length / 64 + 1) * 64 ≤ (bs ++ b).length := by rw [List.length_append]; omega
        generalize lay rb fr dl b = rbF at *
        have O2 := Lib.hid o2
        have HE2 := Lib.hid hE2
        have HR2 := Lib.hid hr2
        have HFB := Lib.hid hfb2
        have HVN := Lib.hid hVn
        have HLL := Lib.hid hll
        have HK := Lib.hid hk
        have HML := Lib.hid hml
        have HVL := Lib.hid hV
        clear o2 hX hE2 hr2 hfb1 hfb2 hVn hll hk hml hV o1 hE hr1 hV1 hfr htk o hdl h0 h64 hsh hkl hrl
        go_enter Tryd.func29, Tryd.ntmps29
        go_upto_region 8 with (first | ((with_reducible refine sliceA_arm_lo (g := g) (off := 8) fr HFR64.out ?_ ?_ ?_); rfl; rfl) | ((refine HCP.out _ _ _ _ _ _ _ _ _ _ ?_ ?_ ?_); rfl; rfl))
        obtain ⟨v, ev⟩ : ∃ v, v = setA (w.setCell ⟨g, 72, none⟩ (.int .u64 (L1 : Int))) g (8 + fr) dl (bvf b) := ⟨_, rfl⟩
        have o2 := O2.out
        have hE2 := HE2.out
        have hr2 := HR2.out
        rw [← ev] at o2 hE2 hr2 ⊢
        clear ev O2 HE2 HR2 HCP cn ff e1 e2 e3 e4 q1 q2 g1 g2 hm hfit
        have HCL := Lib.hid (fun wz (hz : Below v.heap.size v wz) => OwnF.cl (off := 0) (n := 8) (f' := iv32 V) (OwnF.keep o2 hz) (by decide) (fun k hk => hcell_w hk))
        have hkt := fun wz (hz : Below v.heap.size v wz) => take_32 (V := V) (A0 := some ⟨g, 8, none⟩) (B := wz.heap.size) (c0 := 64) (bs := rbF) HVL.out (by rw [HLL.out]; decide) wz ((hG.ex hE2 hg4).next hz) (by have h := hs_rest (m := 64) o2 hz HLL.out (by decide); rwa [List.take_of_length_le (by rw [HLL.out]; exact Nat.le_refl _)] at h) (Nat.le_refl _)
        rw [HLL.out, show 64 / 64 = 1 from rfl, HVN.out] at hkt
        have KT8 := Lib.hid hkt
        obtain ⟨V1, hV1⟩ : ∃ x, x = runs smallS (fst smallS) (bs ++ b) (bs.length / 64 + 1) := ⟨_, rfl⟩
        have hV1l : ∀ i, V1 i < 4294967296 := fun i => by rw [hV1]; exact runs_lt (S := smallS) fst_small _ _ i
        rw [← hV1] at KT8
        clear hkt HVN
        refine wp_region_dead 15 12 [47, 48, 49, 50, 51, 52, 53, 54, 55, 56, 46, 57, 58, 59, 60] [.val (.pointer (some ⟨g, 0, none⟩)), .val (.pointer (some ⟨g, 0, none⟩)), .val (.pointer (some ⟨g, 0, none⟩)), .val (.pointer (some ⟨g, 0, none⟩)), .val (av 8 (iv32 V)), .val (.pointer (some ⟨g, 0, none⟩)), .val (.pointer (some ⟨g, 0, none⟩)), .val (.pointer (some ⟨g, 8, none⟩)), .val (.slice (some ⟨g, 8, none⟩) 64 64), .tup (av 8 (iv32 V1)), .tup (av 8 (iv32 V1)), .val (av 8 (iv32 V1)), .any, .val (.pointer (some ⟨g, 0, none⟩)), .val (.pointer (some ⟨g, 0, none⟩))]
          (fun wz => Below v.heap.size v wz) (fun wz => ∃ w9, Below v.heap.size v w9 ∧ wz = setA w9 g 0 8 (iv32 V1)) (by kernel_rfl) (by kernel_rfl) (fun wz wz' hz hb => hz.trans (hb.mono hz.size)) ((Below.refl _ _).drew) (fun u => by simp only [puts, List.foldl_cons, List.foldl_nil]; go_simp; exact rfl) ?_ _ _ rfl rfl ?_ ?_ ?_
        · simp only [List.take_succ_cons, List.take_zero]
          refine Obs.cons (fun u w hS hd => ?_) ?_
          · exact Gv.run (.pointer (some ⟨g, 0, none⟩)) rfl (by go_simp) rfl
          refine Obs.cons (fun u w hS hd => ?_) ?_
          · exact Gv.run (.pointer (some ⟨g, 0, none⟩)) rfl (by go_simp) rfl
          refine Obs.cons (fun u w hS hd => ?_) ?_
          · have d48 : u 48 = .pointer (some ⟨g, 0, none⟩) := dep hd 1 rfl
            rw [d48]
            exact Gv.run (.pointer (some ⟨g, 0, none⟩)) rfl (by go_simp) rfl
          refine Obs.cons (fun u w hS hd => ?_) ?_
          · have d49 : u 49 = .pointer (some ⟨g, 0, none⟩) := dep hd 2 rfl
            rw [d49]
            exact Gv.run (.pointer (some ⟨g, 0, none⟩)) rfl (by go_simp) rfl
          refine Obs.cons (fun u w hS hd => ?_) ?_
          · have d50 : u 50 = .pointer (some ⟨g, 0, none⟩) := dep hd 3 rfl
            rw [d50]
            exact Gv.run (av 8 (iv32 V)) rfl (av_run rfl rfl (HCL.out w hS) ty8_32) rfl
          refine Obs.cons (fun u w hS hd => ?_) ?_
          · exact Gv.run (.pointer (some ⟨g, 0, none⟩)) rfl (by go_simp) rfl
          refine Obs.cons (fun u w hS hd => ?_) ?_
          · have d52 : u 52 = .pointer (some ⟨g, 0, none⟩) := dep hd 5 rfl
            rw [d52]
            exact Gv.run (.pointer (some ⟨g, 0, none⟩)) rfl (by go_simp) rfl
          refine Obs.cons (fun u w hS hd => ?_) ?_
          · have d53 : u 53 = .pointer (some ⟨g, 0, none⟩) := dep hd 6 rfl
            rw [d53]
            exact Gv.run (.pointer (some ⟨g, 8, none⟩)) rfl (by go_simp) rfl
          refine Obs.cons (fun u w hS hd => ?_) ?_
          · have d54 : u 54 = .pointer (some ⟨g, 8, none⟩) := dep hd 7 rfl
            rw [d54]
            exact Gv.run (.slice (some ⟨g, 8, none⟩) 64 64) rfl (sliceA_op_all rfl rfl) rfl
          refine Obs.cons (fun u w hS hd => ?_) ?_
          · have d51 : u 51 = av 8 (iv32 V) := dep hd 4 rfl
            have d55 : u 55 = .slice (some ⟨g, 8, none⟩) 64 64 := dep hd 8 rfl
            rw [d51, d55]
            refine Gv.call 36 #[av 8 (iv32 V), .slice (some ⟨g, 8, none⟩) 64 64] rfl (by go_simp) ((KT8.out w hS).mono ?_)
            rintro e w' ⟨rfl, hb⟩
            exact ⟨_, rfl, ⟨_, rfl⟩, hb⟩
          refine Obs.cons (fun u w hS hd => ?_) ?_
          · obtain ⟨y, d56⟩ : (Know.tup (av 8 (iv32 V1))).ok (u 56) w := dep hd 9 rfl
            rw [d56]
            exact Gv.run (.tuple #[av 8 (iv32 V1), y]) rfl (by go_simp) ⟨y, rfl⟩
          refine Obs.cons (fun u w hS hd => ?_) ?_
          · obtain ⟨y, d46⟩ : (Know.tup (av 8 (iv32 V1))).ok (u 46) w := dep hd 10 rfl
            rw [d46]
            exact Gv.run (av 8 (iv32 V1)) rfl (by go_simp) rfl
          refine Obs.cons (fun u w hS hd => ?_) ?_
          · obtain ⟨y, d46⟩ : (Know.tup (av 8 (iv32 V1))).ok (u 46) w := dep hd 10 rfl
            rw [d46]
            exact Gv.run y rfl (by go_simp) trivial
          refine Obs.cons (fun u w hS hd => ?_) ?_
          · have d47 : u 47 = .pointer (some ⟨g, 0, none⟩) := dep hd 0 rfl
            rw [d47]
            exact Gv.run (.pointer (some ⟨g, 0, none⟩)) rfl (by go_simp) rfl
          refine Obs.cons (fun u w hS hd => ?_) ?_
          · have d59 : u 59 = .pointer (some ⟨g, 0, none⟩) := dep hd 13 rfl
            rw [d59]
            exact Gv.run (.pointer (some ⟨g, 0, none⟩)) rfl (by go_simp) rfl
          exact Obs.nil
        · intro u w hS hd
          have d57 : u 57 = av 8 (iv32 V1) := hd 11 (by decide) (by decide)
          have d60 : u 60 = .pointer (some ⟨g, 0, none⟩) := hd 14 (by decide) (by decide)
          rw [d57, d60]
          exact ⟨rfl, _, av_sets (off := 0) rfl (OwnF.keep o2 hS) ty8_32 (by decide) (iv32 V1) (fun k _ => rfl) rfl rfl, w, hS, rfl⟩
        · intro u w hd w'
          obtain ⟨y, d46⟩ : (Know.tup (av 8 (iv32 V1))).ok (u 46) w := hd 10 (by decide) (by decide)
          rw [d46]
          exact ⟨rfl, y, by go_simp⟩
        rintro u w5 ⟨wz, hS, rfl⟩
        have o9 := OwnF.congr (av_put (OwnF.keep o2 hS) 0 8 (iv32 V1)) fun j _ => hput_w V V1 rbF L1 j
        have hX9 := (Ex.of_below hS).trans (Ex.of_only (av_only wz g 0 8 (iv32 V1)))
        have hE := hE2.trans hX9
        have hr9 := hr2.exE hX9 hof
        obtain ⟨v6, e6⟩ : ∃ v, v = setA wz g 0 8 (iv32 V1) := ⟨_, rfl⟩
        rw [← e6] at o9 hE hr9 ⊢
        clear e6 o2 hE2 hr2 hS HCL KT8 hX9
        go_upto_region 10 with ((with_reducible refine slice_arm_lo (A := A) (n := b.length) (c := c) dl HML.out ?_ ?_ ?_); rfl; rfl)
        have hr1 := hr9.drop_ HML.out
        have hlq : b.length - dl = (b.drop dl).length := List.length_drop.symm
        rw [hlq]
        have hbq := HFB.out.symm
        have hof1 : OffE g (subA A c dl) (b.drop dl) := hof.sub
        generalize subA A c dl = A1 at *
        generalize c - dl = c1 at *
        clear hr9 hlq HFB HML
        generalize b.drop dl = bq at *
        have hk := HK.out
        have o1 := o9
        have hrl1 := HLL.out
        clear HK HLL o9 hof HVL HFR HFR64
        have hfin := runs_fin (bs ++ b) hk
        rw [← hV1, ← hbq] at hfin
        obtain ⟨f1, f2, f3⟩ := hfin
        obtain ⟨PD, hPD⟩ : ∃ x, x = (bs ++ b).drop ((bs ++ b).length / 64 * 64) := ⟨_, rfl⟩
        replace f2 : bq.drop (bq.length / 64 * 64) = PD := f2.trans hPD.symm
        replace f3 : PD.length = (bs ++ b).length % 64 := by rw [hPD]; exact f3
        have HPD := Lib.hid hPD
        clear hPD
        have hV2l : ∀ i, runs smallS V1 bq (bq.length / 64) i < 4294967296 := fun i => runs_lt (S := smallS) hV1l _ _ i
        have hbl : bq.length ≤ 140737488355328 := by rw [hbq, List.length_drop, List.length_append]; omega
        have KT := Lib.hid (fun w hG hr => take_32 (V := V1) (A0 := A1) (B := w.heap.size) (c0 := c1) (bs := bq) hV1l hbl w hG hr (Nat.le_refl _))
        have hwl : bq.length / 64 * 64 ≤ bq.length := Nat.div_mul_le_self _ _
        have hrest : (bq.drop (bq.length / 64 * 64)).length = bq.length - bq.length / 64 * 64 := List.length_drop
        have HRD := Lib.hid (fun (v : World) (h : Rd v v.heap.size A1 c1 bq) => h.drop_ hwl)
        have hof2 : OffE g (subA A1 c1 (bq.length / 64 * 64)) (bq.drop (bq.length / 64 * 64)) := hof1.sub
        rw [← hrest] at KT
        generalize runs smallS V1 bq (bq.length / 64) = V2 at *
        generalize subA A1 c1 (bq.length / 64 * 64) = A2 at *
        generalize c1 - bq.length / 64 * 64 = c2 at *
        generalize bq.drop (bq.length / 64 * 64) = rs at KT HRD hrest f2 hof2
        rw [← f2] at f3
        have hcl := Lib.hid (OwnF.cl (off := 0) (n := 8) (f' := iv32 V1) o1 (by decide) (fun k hk => hcell_w hk))
        have F1 := Lib.hid f1
        have F2 := Lib.hid f2
        have F3 := Lib.hid f3
        have hrs := Lib.hid (show rs.length = Nat.min rs.length 64 from (Nat.min_eq_left (by omega)).symm)
        have hrs2 := Lib.hid (show rs.length < 64 by omega)
        clear f1 f2 f3 hrest hwl hV1 hbq hk hV1l
        have HGV := Lib.hid (hG.ex hE hg4)
        have HR1 := Lib.hid hr1
        clear hr1
        go_wp2_with ((with_reducible refine av_load hcl.out ty8_32 ?_ ?_); rfl)
        go_at_call 36
        refine (KT.out _ HGV.out HR1.out).mono ?_
        rintro e v2 ⟨rfl, h0⟩
        have hrd2 := HRD.out v2 (HR1.out.keep h0 |>.mono h0.size)
        have o2 := OwnF.keep o1 h0
        have hE2 := hE.trans (Ex.of_below h0)
        clear h0 KT HGV HR1 HRD hcl o1 hE
        have o3 := OwnF.congr (av_put o2 0 8 (iv32 V2)) fun j _ => hput_w V1 V2 rbF _ j
        have hE3 := hE2.trans (Ex.of_only (av_only v2 g 0 8 (iv32 V2)))
        have hrd3 := hrd2.exE (Ex.of_only (av_only v2 g 0 8 (iv32 V2))) hof2
        have o4 := Lib.hid (OwnF.congr (av_put o3 8 rs.length (bvf rs)) fun j _ => hput_r (o := 0) hrl1 (by have := hrs2.out; omega) (Nat.le_refl _) j)
        have hE4 := Lib.hid (hE3.trans (Ex.of_only (av_only (setA v2 g 0 8 (iv32 V2)) g 8 rs.length (bvf rs))))
        have hfit := Lib.hid (show 8 + rs.length ≤ 73 by have := hrs2.out; omega)
        have HCP := Lib.hid (fun (ops : Array Oper) (rest2 : List Oper) (a : Act) (Q : Exit → Act → World → Prop) (d s : Operand) (dst : Option Nat) (tp : TypeId) (ps : String) (af : Array Edge) => copy_to (ops := ops) (rest := rest2) (a := a) (Q := Q) (d := d) (s := s) (dst := dst) (tp := tp) (ps := ps) (af := af) (off := 8) (dc := 64) o3 hrd3 hrs.out hfit.out)
        have HRL := Lib.hid hrl1
        clear o3 hrd3 hrd2 hE2 hE3 hof2
        go_wp2_with (first | ((with_reducible refine av_store (off := 0) o2 ty8_32 (by decide) (iv32 V2) (fun k _ => rfl) ?_ ?_ ?_); rfl; rfl) | ((with_reducible refine sliceA_arm_all g 8 ?_ ?_); rfl) | ((refine HCP.out _ _ _ _ _ _ _ _ _ _ ?_ ?_ ?_); rfl; rfl))
        refine bodyPost_end (v := .tuple #[]) (by simp [results, Tryd.results29, go_sem]) rfl ⟨rfl, ⟨V2, lay rbF 0 rs.length rs, ?_, ?_, ?_, hV2l, fun _ => F1.out⟩, hE4.out⟩
        · rw [← HL1.out]; exact o4.out
        · rw [lay_length (by have := hrs2.out; have := HRL.out; omega) (Nat.le_refl _)]; exact HRL.out
        · rw [← F3.out, ← HPD.out, ← F2.out]
          have h9 := lay_take (rb := rbF) (b := rs) (o := 0) (m := rs.length) (by have := hrs2.out; have := HRL.out; omega) (Nat.le_refl _)
          rw [Nat.zero_add, List.take_zero, List.nil_append, List.take_length] at h9
          exact h9
theorem hwrite {B g c : Nat} {A : Option Addr} {bs b : List UInt8} (hlen : bs.length + b.length ≤ 140737488355328) (hB4 : glbN ≤ B) (w : World) (hG : Glb w) (hs : Hs w B g bs) (hr : Rd w w.heap.size A c b) (hof : Off g A) :
    Calls Tryd.prog 29 #[.pointer (some ⟨g, 0, none⟩), .slice A b.length c] w fun e w' => e = .returned (.tuple #[]) ∧ Hs w' B g (bs ++ b) ∧ Ex g w w' := hwriteE hlen hB4 w hG hs hr hof.e
end
end Go.Proofs.YtbofehdihflkiaaDoor
