/-
  SuiteApart: unlike texts have unlike names; what was not sealed is not opened, what was not signed is not verified. By an AI agent.
-/
import Derived.Test.YtdddcgkgellbgabSn1
namespace Go.Proofs.Ytdddcgkgellbgab
open Go Go.RowKit
set_option maxRecDepth 20000
theorem Sit.sub {R : IdlP} {w0 w : World} {p : Value} {L : List Trm} {D : Nat} {l l' : List RowA} (h : Sit R w0 w p L D l) (hs : ∀ x ∈ l', x ∈ l) : Sit R w0 w p L D l' := by
  obtain ⟨F, S, hR, hF, hb0, hr⟩ := h
  exact ⟨F, S, hR, hF, hb0, fun x hx => hr x (hs x hx)⟩
def apA (a : List UInt8) : List UInt8 := calledT (termH a) (numT [] (termH a))
def apB (a b : List UInt8) : List UInt8 := calledT (termH b) (numT (knowT [] (termH a)) (termH b))
def apK1 (a : List UInt8) : List Trm := knowT [] (termH a)
def apK2 (a b : List UInt8) : List Trm := apL2 a b
theorem ap_ab (a b : List UInt8) : (apA a == apB a b) = (a == b) := by
  rw [Bool.eq_iff_iff, beq_iff_eq, beq_iff_eq]
  exact ap_hash a b
theorem ap_l (a b s x : List UInt8) (n : Int) : (apK1 a).length ≤ 1000000 ∧ (apK2 a b).length ≤ 1000000 ∧ (apL3 a b s x n).length ≤ 1000000 ∧ (apL4 a b s x n).length ≤ 1000000 ∧ (apL5 a b s x n).length ≤ 1000000 := by
  have h1 := know_le [] (termH a) (Nat.zero_le 0)
  have h2 := know_le _ (termH b) h1
  have h3 := know_le _ (termB s n a x) h2
  have h4 := know_le _ (termG s a) h3
  have h5 := know_le _ (termV s) h4
  exact ⟨Nat.le_trans h1 (by decide), Nat.le_trans h2 (by decide), Nat.le_trans h3 (by decide), Nat.le_trans h4 (by decide), Nat.le_trans h5 (by decide)⟩
theorem know_32 {L : List Trm} {t : Trm} (h : (row t.parts 0).length = 32) : knowK L t = knowT L t ∧ ansK L t = calledT t (numT L t) := ⟨if_pos h, if_pos h⟩
theorem ap_seal {a b s x : List UInt8} {n : Int} (h : s.length = 32) (hn : 0 ≤ n) : sealL (apK2 a b) s n a x = apL3 a b s x n ∧ sealA (apK2 a b) s n a x = apBox a b s x n := by
  have h1 : ¬ n < 0 := by omega
  unfold sealL sealA
  rw [if_neg h1, if_neg h1]
  exact know_32 (t := termB s n a x) h
theorem ap_bad {L : List Trm} {s : List UInt8} {n : Int} (h : ¬ (s.length = 32 ∧ 0 ≤ n)) : sealA L s n [] [] = [] := by
  unfold sealA
  split
  · rfl
  · refine if_neg fun q => h ⟨q, by omega⟩
def apV (a b s x : List UInt8) (n : Int) : List Trm := apL5 a b s x n
def apBo (a b s x : List UInt8) (n : Int) : List UInt8 := apBox a b s x n
def apSi (a b s x : List UInt8) (n : Int) : List UInt8 := apSig a b s x n
def apKe (a b s x : List UInt8) (n : Int) : List UInt8 := apKey a b s x n
def apM3 (a b s x : List UInt8) (n : Int) : List Trm := apL3 a b s x n
def apM4 (a b s x : List UInt8) (n : Int) : List Trm := apL4 a b s x n
theorem hash_a {R : IdlP} (C2 : HashC R) {F S : Nat → Prop} {p : Value} {A : Option Addr} {c : Nat} {a : List UInt8} (w : World) (hR : R w F S p [] 0) (hr : Rd w w.heap.size A c a) (hl : lenOk a) : AskQ R 13 #[p, .slice A a.length c] w F S p (apK1 a) 0 (apA a) := C2 w hR (Nat.zero_le _) hr hl
theorem hash_b {R : IdlP} (C2 : HashC R) {F S : Nat → Prop} {p : Value} {A : Option Addr} {c : Nat} {a b : List UInt8} (w : World) (hR : R w F S p (apK1 a) 0) (hL : (apK1 a).length ≤ 1000000) (hr : Rd w w.heap.size A c b) (hl : lenOk b) : AskQ R 13 #[p, .slice A b.length c] w F S p (apK2 a b) 0 (apB a b) := C2 w hR hL hr hl
set_option maxHeartbeats 12800000 in
theorem apart_at {R : IdlP} (K : IdlC R) (N : NewC R) (C2 : HashC R) (CS : SealC R) (CG : SgnC R) (CV : SgrC R) (CO : OpnC R) (CR : VerC R) (aw : ∀ w, Calls Try.prog 8 #[] w fun e w' => e = .returned (.bool true) ∧ Below w.heap.size w w')
    {A0 A1 A2 A3 : Option Addr} {n0 c0 n1 c1 n2 c2 n3 c3 : Nat} {a b s x : List UInt8} {k : Int} (hk : k < 9223372036854775808) (w : World) (e0 : n0 = a.length) (e1 : n1 = b.length) (e2 : n2 = s.length) (e3 : n3 = x.length)
    (r0 : Rd w w.heap.size A0 c0 a) (r1 : Rd w w.heap.size A1 c1 b) (r2 : Rd w w.heap.size A2 c2 s) (r3 : Rd w w.heap.size A3 c3 x) (l0 : n0 ≤ 1048576) (l1 : n1 ≤ 1048576) (l2 : n2 ≤ 1048576) (l3 : n3 ≤ 1048576) :
    Calls Try.prog 4 #[.slice A0 n0 c0, .slice A1 n1 c1, .slice A2 n2 c2, .slice A3 n3 c3, .int .i64 k] w fun e w' => e = .returned (.bool true) ∧ Below w.heap.size w w' := by
  have HE := Lib.hid (And.intro e0 (And.intro e1 (And.intro e2 e3)))
  have HL := Lib.hid (show (n0 ≤ 140737488355328 ∧ n1 ≤ 140737488355328 ∧ n2 ≤ 140737488355328 ∧ n3 ≤ 140737488355328) ∧ lenOk a ∧ lenOk b ∧ lenOk s ∧ lenOk x from ⟨⟨by omega, by omega, by omega, by omega⟩, by show _ ≤ _; omega, by show _ ≤ _; omega, by show _ ≤ _; omega, by show _ ≤ _; omega⟩)
  have HLL := Lib.hid (ap_l a b s x k)
  have HR := Lib.hid (show ∀ y ∈ [(A0, c0, a), (A1, c1, b), (A2, c2, s), (A3, c3, x)], Rd w w.heap.size y.1 y.2.1 y.2.2 from fun y hy => by
    simp only [List.mem_cons, List.not_mem_nil, or_false] at hy
    rcases hy with rfl | rfl | rfl | rfl
    · exact r0
    · exact r1
    · exact r2
    · exact r3)
  have HKK := Lib.hid hk
  clear e0 e1 e2 e3 r0 r1 r2 r3 l0 l1 l2 l3 hk
  go_enter Try.func4, Try.ntmps4
  go_wp2_with fail
  go_at_call 9
  refine (sit_new N w _ HR.out).mono ?_
  rintro e w1 ⟨p, rfl, hs⟩
  obtain ⟨gp, rfl⟩ := sit_use hs fun F S hR => K.ptr hR
  have H1 := Lib.hid hs
  clear hs
  go_upto_region 4 with fail
  refine wp_region_par 16 24 [some 22, some 23, some 24, some 25, some 26, some 27, some 28, some 29, some 30, some 31, some 32, some 33, some 34, some 35, some 36, some 37] [2, 3, 7, 8] [some (.pointer (some ⟨gp, 0, none⟩)), some (.slice A0 n0 c0), none, none, some (.string ⟨(apA a).toArray⟩), some (.pointer (some ⟨gp, 0, none⟩)), some (.slice A1 n1 c1), none, none, some (.string ⟨(apB a b).toArray⟩), some (.bool (apA a == apB a b)), some (.slice A0 n0 c0), some (.string ⟨(a).toArray⟩), some (.slice A1 n1 c1), some (.string ⟨(b).toArray⟩), some (.bool (a == b))]
    (SitT R w (.pointer (some ⟨gp, 0, none⟩)) ([(A0, c0, a), (A1, c1, b), (A2, c2, s), (A3, c3, x)]) ([], 0) [(3, (apK1 a, 0)), (8, (apK2 a b, 0))] [(2, a), (3, apA a), (7, b), (8, apB a b)]) (by kernel_rfl) (by kernel_rfl)
    (fun _ => SitT.start (H1.out.next K (Below.refl _ _).drew) (by rfl) (by simp)) (fun u => by simp only [List.filterMap_cons, List.filterMap_nil, puts, List.foldl_cons, List.foldl_nil]; go_simp; exact rfl) ?_ ?_
  · simp only [List.take_succ_cons, List.take_zero]
    refine Par.soft rfl rfl (.pointer (some ⟨gp, 0, none⟩)) rfl (fun u wz Lb Vb hT hh => ⟨by rfl, by go_simp⟩) ?_
    refine Par.soft rfl rfl (.slice A0 n0 c0) rfl (fun u wz Lb Vb hT hh => ⟨by rfl, by go_simp⟩) ?_
    refine Par.hard rfl (fun u wz Lb Vb hT hh => ?_) ?_
    · have d23 : u 23 = .slice A0 n0 c0 := hh.val 1 _ rfl rfl
      have r23 := hT.base (A := A0) (c := c0) (bs := a) (by simp)
      rw [d23]
      refine StepP.of rfl (StepC.call 14 #[.slice A0 n0 c0] rfl (by go_simp) ((own_use HE.out.1 wz r23 HL.out.1.1).mono ?_))
      rintro e w' ⟨A, c, rfl, ho, hb⟩
      exact ⟨_, rfl, fun c hc => by simp at hc, hT.own K (stOf_off (by simp)) (by simp) ho hb⟩
    refine Par.hard rfl (fun u wz Lb Vb hT hh => ?_) ?_
    · have d22 : u 22 = .pointer (some ⟨gp, 0, none⟩) := hh.val 0 _ rfl rfl
      obtain ⟨r24A, r24c, r24e, r24⟩ := hT.row (i := 2) (bs := a) (by simp) (hh.been 2 (by rfl) rfl)
      have r24d : u 24 = .slice r24A (a).length r24c := (hh.hv 2 rfl).symm.trans r24e
      rw [d22, r24d]
      have n3 := hh.not_ 3 (by rfl)
      have n8 := hh.not_ 8 (by rfl)
      have h0 : stOf Lb ([], 0) [(3, (apK1 a, 0)), (8, (apK2 a b, 0))] = ([], 0) := (stOf_stop n3)
      refine StepP.of rfl (StepC.call 13 #[.pointer (some ⟨gp, 0, none⟩), .slice r24A (a).length r24c] rfl (by go_simp) ((sitT_ask (i := 3) hT h0 (L' := apK1 a) (D' := 0) ((stOf_go lset_same).trans (stOf_stop (lset_off n8 (by decide)))) (by simp) (fun F S hR => hash_a (R := R) C2 wz hR r24 HL.out.2.1)).mono ?_))
      rintro e w' ⟨v, rfl, hT'⟩
      exact ⟨_, rfl, fun c hc => by simp at hc, hT'⟩
    refine Par.soft rfl rfl (.string ⟨(apA a).toArray⟩) rfl (fun u wz Lb Vb hT hh => ⟨by rfl, by obtain ⟨rA, rc, re, r⟩ := hT.row (i := 3) (bs := apA a) (by simp) (hh.been 3 (by rfl) rfl); have rd : u 25 = .slice rA (apA a).length rc := (hh.hv 3 rfl).symm.trans re; rw [rd]; have hq := run_str (P := Try.prog) wz 31 5 Try.underlying31 Try.underlying5 (dst := 9) Try.underlying9 r; exact run_conv rfl rfl hq⟩) ?_
    refine Par.soft rfl rfl (.pointer (some ⟨gp, 0, none⟩)) rfl (fun u wz Lb Vb hT hh => ⟨by rfl, by go_simp⟩) ?_
    refine Par.soft rfl rfl (.slice A1 n1 c1) rfl (fun u wz Lb Vb hT hh => ⟨by rfl, by go_simp⟩) ?_
    refine Par.hard rfl (fun u wz Lb Vb hT hh => ?_) ?_
    · have d28 : u 28 = .slice A1 n1 c1 := hh.val 6 _ rfl rfl
      have r28 := hT.base (A := A1) (c := c1) (bs := b) (by simp)
      rw [d28]
      refine StepP.of rfl (StepC.call 14 #[.slice A1 n1 c1] rfl (by go_simp) ((own_use HE.out.2.1 wz r28 HL.out.1.2.1).mono ?_))
      rintro e w' ⟨A, c, rfl, ho, hb⟩
      exact ⟨_, rfl, fun c hc => by simp at hc, hT.own K (stOf_off (by simp)) (by simp) ho hb⟩
    refine Par.hard rfl (fun u wz Lb Vb hT hh => ?_) ?_
    · have d27 : u 27 = .pointer (some ⟨gp, 0, none⟩) := hh.val 5 _ rfl rfl
      obtain ⟨r29A, r29c, r29e, r29⟩ := hT.row (i := 7) (bs := b) (by simp) (hh.been 7 (by rfl) rfl)
      have r29d : u 29 = .slice r29A (b).length r29c := (hh.hv 7 rfl).symm.trans r29e
      rw [d27, r29d]
      have b3 := hh.been 3 (by rfl) rfl
      have n8 := hh.not_ 8 (by rfl)
      have h0 : stOf Lb ([], 0) [(3, (apK1 a, 0)), (8, (apK2 a b, 0))] = (apK1 a, 0) := ((stOf_go b3).trans (stOf_stop n8))
      refine StepP.of rfl (StepC.call 13 #[.pointer (some ⟨gp, 0, none⟩), .slice r29A (b).length r29c] rfl (by go_simp) ((sitT_ask (i := 8) hT h0 (L' := apK2 a b) (D' := 0) ((stOf_go (lset_off b3 (by decide))).trans ((stOf_go lset_same).trans (stOf_nil))) (by simp) (fun F S hR => hash_b (R := R) C2 wz hR HLL.out.1 r29 HL.out.2.2.1)).mono ?_))
      rintro e w' ⟨v, rfl, hT'⟩
      exact ⟨_, rfl, fun c hc => by simp at hc, hT'⟩
    refine Par.soft rfl rfl (.string ⟨(apB a b).toArray⟩) rfl (fun u wz Lb Vb hT hh => ⟨by rfl, by obtain ⟨rA, rc, re, r⟩ := hT.row (i := 8) (bs := apB a b) (by simp) (hh.been 8 (by rfl) rfl); have rd : u 30 = .slice rA (apB a b).length rc := (hh.hv 8 rfl).symm.trans re; rw [rd]; have hq := run_str (P := Try.prog) wz 31 5 Try.underlying31 Try.underlying5 (dst := 9) Try.underlying9 r; exact run_conv rfl rfl hq⟩) ?_
    refine Par.soft rfl rfl (.bool (apA a == apB a b)) rfl (fun u wz Lb Vb hT hh => ⟨by rfl, by have d26 : u 26 = .string ⟨(apA a).toArray⟩ := hh.val 4 _ rfl rfl; have d31 : u 31 = .string ⟨(apB a b).toArray⟩ := hh.val 9 _ rfl rfl; rw [d26, d31]; go_simp⟩) ?_
    refine Par.soft rfl rfl (.slice A0 n0 c0) rfl (fun u wz Lb Vb hT hh => ⟨by rfl, by go_simp⟩) ?_
    refine Par.soft rfl rfl (.string ⟨(a).toArray⟩) rfl (fun u wz Lb Vb hT hh => ⟨by rfl, by have d33 : u 33 = .slice A0 n0 c0 := hh.val 11 _ rfl rfl; rw [d33]; have r := hT.base (A := A0) (c := c0) (bs := a) (by simp); have hq := run_str (P := Try.prog) wz 31 5 Try.underlying31 Try.underlying5 (dst := 9) Try.underlying9 r; rw [← HE.out.1] at hq; exact run_conv rfl rfl hq⟩) ?_
    refine Par.soft rfl rfl (.slice A1 n1 c1) rfl (fun u wz Lb Vb hT hh => ⟨by rfl, by go_simp⟩) ?_
    refine Par.soft rfl rfl (.string ⟨(b).toArray⟩) rfl (fun u wz Lb Vb hT hh => ⟨by rfl, by have d35 : u 35 = .slice A1 n1 c1 := hh.val 13 _ rfl rfl; rw [d35]; have r := hT.base (A := A1) (c := c1) (bs := b) (by simp); have hq := run_str (P := Try.prog) wz 31 5 Try.underlying31 Try.underlying5 (dst := 9) Try.underlying9 r; rw [← HE.out.2.1] at hq; exact run_conv rfl rfl hq⟩) ?_
    refine Par.soft rfl rfl (.bool (a == b)) rfl (fun u wz Lb Vb hT hh => ⟨by rfl, by have d34 : u 34 = .string ⟨(a).toArray⟩ := hh.val 12 _ rfl rfl; have d36 : u 36 = .string ⟨(b).toArray⟩ := hh.val 14 _ rfl rfl; rw [d34, d36]; go_simp⟩) ?_
    exact Par.nil
  · intro u wz hD hT
    obtain ⟨Lb, Vb, hT, hLV⟩ := hT
    have d32 : u 32 = .bool (apA a == apB a b) := hD 10 _ (by decide) rfl
    have d37 : u 37 = .bool (a == b) := hD 15 _ (by decide) rfl
    obtain ⟨b3, _⟩ := hLV 3 (by decide) rfl
    obtain ⟨b8, _⟩ := hLV 8 (by decide) rfl
    obtain ⟨l, hs, hin, _⟩ := hT
    rw [(stOf_go b3).trans ((stOf_go b8).trans stOf_nil)] at hs
    have H2 := Lib.hid (hs.sub hin)
    rw [ap_ab] at d32
    rw [d32, d37]
    clear hD hLV hs hin b3 b8 d32 d37
    have gbb : ((a == b) != (a == b)) = false := by simp
    by_cases hg : s.length = 32 ∧ 0 ≤ k
    case neg =>
      have HA := Lib.hid (ap_bad (L := apK2 a b) hg)
      have hor : (((n2 : Int) != 32) = true) ∨ (((n2 : Int) != 32) = false ∧ k < 0) := by
        by_cases h : n2 = 32
        · right; exact ⟨by rw [h]; rfl, by rw [← HE.out.2.2.1] at hg; omega⟩
        · left; simp; omega
      clear hg
      rcases hor with h1 | ⟨h1, h2⟩
      all_goals
        go_wp2_with fail
        go_at_call 14
        refine (sit_own K H2.out (A := A2) (c := c2) HE.out.2.2.1 (by simp) HL.out.1.2.2.1).mono ?_
        rintro e w3 ⟨Aa, ca, rfl, hs⟩
        have H3 := Lib.hid hs
        clear hs
        go_wp2_with fail
        go_at_call 15
        refine (sit_seal CS H3.out (A := Aa) (c := ca) (o := []) (x := []) k HE.out.2.2.1 rfl rfl (by simp) ⟨Nat.le_refl _, fun _ => ⟨rfl, rfl⟩, fun h => absurd rfl h⟩ ⟨Nat.le_refl _, fun _ => ⟨rfl, rfl⟩, fun h => absurd rfl h⟩ HLL.out.2.1 HL.out.2.2.2.1 (by decide) (by decide) HKK.out).mono ?_
        rintro e w4 ⟨Ab, cb, rfl, hs⟩
        rw [HA.out]
        have H4 := Lib.hid hs.below
        clear hs
        go_wp2_with fail
        go_at_call 8
        refine (aw w4).mono ?_
        rintro e w5 ⟨rfl, hb⟩
        have H5 := Lib.hid (H4.out.trans (hb.mono H4.out.size))
        clear hb
        go_wp2_with fail
        go_ret
        exact ⟨rfl, H5.out⟩
    have HG := Lib.hid hg
    have g1 : ((n2 : Int) != 32) = false := by rw [show n2 = 32 from HE.out.2.2.1.trans hg.1]; rfl
    have g2 : ¬ k < 0 := by omega
    have g3 : decide (k < 0) = false := decide_eq_false (by omega)
    clear hg
    go_wp2_with fail
    go_at_call 14
    refine (sit_own K H2.out (A := A2) (c := c2) HE.out.2.2.1 (by simp) HL.out.1.2.2.1).mono ?_
    rintro e w3 ⟨As1, cs1, rfl, hs⟩
    skip
    have H3 := Lib.hid hs
    clear hs H2
    go_wp2_with fail
    go_at_call 14
    refine (sit_own K H3.out (A := A0) (c := c0) HE.out.1 (by simp) HL.out.1.1).mono ?_
    rintro e w4 ⟨Aa1, ca1, rfl, hs⟩
    skip
    have H4 := Lib.hid hs
    clear hs H3
    go_wp2_with fail
    go_at_call 14
    refine (sit_own K H4.out (A := A3) (c := c3) HE.out.2.2.2 (by simp) HL.out.1.2.2.2).mono ?_
    rintro e w5 ⟨Ax1, cx1, rfl, hs⟩
    skip
    have H5 := Lib.hid hs
    clear hs H4
    go_wp2_with fail
    go_at_call 15
    refine (sit_seal CS H5.out (A := As1) (c := cs1) (b := s) (o := a) (x := x) k HE.out.2.2.1 HE.out.1 HE.out.2.2.2 (by simp) (H5.out.row (A := Aa1) (c := ca1) (by simp)) (H5.out.row (A := Ax1) (c := cx1) (by simp)) HLL.out.2.1 HL.out.2.2.2.1 HL.out.2.1 HL.out.2.2.2.2 HKK.out).mono ?_
    rintro e w6 ⟨Ab, cb, rfl, hs⟩
    rw [(ap_seal HG.out.1 HG.out.2).1, (ap_seal HG.out.1 HG.out.2).2] at hs
    rw [(ap_seal HG.out.1 HG.out.2).2]
    replace hs : Sit R w _ _ (apM3 a b s x k) 0 ((Ab, cb, apBo a b s x k) :: _) := hs
    obtain ⟨nb, enb⟩ : ∃ q, q = (apBox a b s x k).length := ⟨_, rfl⟩
    have HNb := Lib.hid (show nb = (apBo a b s x k).length from enb)
    rw [← enb]
    clear enb
    have H6 := Lib.hid hs
    clear hs H5
    go_wp2_with fail
    go_at_call 14
    refine (sit_own K H6.out (A := A2) (c := c2) HE.out.2.2.1 (by simp) HL.out.1.2.2.1).mono ?_
    rintro e w7 ⟨As2, cs2, rfl, hs⟩
    skip
    have H7 := Lib.hid hs
    clear hs H6
    go_wp2_with fail
    go_at_call 14
    refine (sit_own K H7.out (A := A0) (c := c0) HE.out.1 (by simp) HL.out.1.1).mono ?_
    rintro e w8 ⟨Aa2, ca2, rfl, hs⟩
    skip
    have H8 := Lib.hid hs
    clear hs H7
    go_wp2_with fail
    go_at_call 16
    refine (sit_sign CG H8.out (A := As2) (c := cs2) (A2 := Aa2) (c2 := ca2) HE.out.2.2.1 HE.out.1 (by simp) (by simp) HLL.out.2.2.1 HL.out.2.2.2.1 HL.out.2.1).mono ?_
    rintro e w9 ⟨Ag, cg, rfl, hs⟩
    rw [(know_32 (t := termG s a) HG.out.1).1, (know_32 (t := termG s a) HG.out.1).2] at hs
    rw [(know_32 (t := termG s a) HG.out.1).2]
    replace hs : Sit R w _ _ (apM4 a b s x k) 0 ((Ag, cg, apSi a b s x k) :: _) := hs
    obtain ⟨ng, eng⟩ : ∃ q, q = (apSi a b s x k).length := ⟨_, rfl⟩
    have HNg := Lib.hid eng
    rw [show (calledT (termG s a) (numT (apM3 a b s x k) (termG s a))).length = ng from eng.symm]
    clear eng
    have H9 := Lib.hid hs
    clear hs H8
    go_wp2_with fail
    go_at_call 14
    refine (sit_own K H9.out (A := A2) (c := c2) HE.out.2.2.1 (by simp) HL.out.1.2.2.1).mono ?_
    rintro e w10 ⟨As3, cs3, rfl, hs⟩
    skip
    have H10 := Lib.hid hs
    clear hs H9
    go_wp2_with fail
    go_at_call 17
    refine (sit_signer CV H10.out (A := As3) (c := cs3) HE.out.2.2.1 (by simp) HLL.out.2.2.2.1 HL.out.2.2.2.1).mono ?_
    rintro e w11 ⟨Av, cv, rfl, hs⟩
    rw [(know_32 (t := termV s) HG.out.1).1, (know_32 (t := termV s) HG.out.1).2] at hs
    rw [(know_32 (t := termV s) HG.out.1).2]
    replace hs : Sit R w _ _ (apV a b s x k) 0 ((Av, cv, apKe a b s x k) :: _) := hs
    obtain ⟨nv, env⟩ : ∃ q, q = (apKe a b s x k).length := ⟨_, rfl⟩
    have HNv := Lib.hid env
    rw [show (calledT (termV s) (numT (apM4 a b s x k) (termV s))).length = nv from env.symm]
    clear env
    have H11 := Lib.hid hs
    clear hs H10
    go_wp2_with fail
    go_at_call 14
    refine (sit_own K H11.out (A := A2) (c := c2) HE.out.2.2.1 (by simp) HL.out.1.2.2.1).mono ?_
    rintro e w12 ⟨As4, cs4, rfl, hs⟩
    skip
    have H12 := Lib.hid hs
    clear hs H11
    go_wp2_with fail
    go_at_call 14
    refine (sit_own K H12.out (A := A1) (c := c1) HE.out.2.1 (by simp) HL.out.1.2.1).mono ?_
    rintro e w13 ⟨Ab1, cb1, rfl, hs⟩
    skip
    have H13 := Lib.hid hs
    clear hs H12
    go_wp2_with fail
    go_at_call 18
    refine (sit_open K CO H13.out (A := As4) (c := cs4) (A2 := Ab1) (c2 := cb1) (A3 := Ab) (c3 := cb) k HE.out.2.2.1 HE.out.2.1 HNb.out (by simp) (by simp) (by simp) HLL.out.2.2.2.2 HKK.out).mono ?_
    rintro e w14 ⟨Ao, co, rfl, hs⟩
    rw [show openE (apV a b s x k) s k b (apBo a b s x k) = if a = b then 0 else 9 from ap_open a b s x k HG.out.1 HG.out.2]
    obtain ⟨ee, eee⟩ : ∃ q : Int, q = if a = b then 0 else 9 := ⟨_, rfl⟩
    have HEE := Lib.hid eee
    rw [← eee]
    clear eee
    have hs' := hs.sub (l' := [(Ab, cb, apBo a b s x k), (Ag, cg, apSi a b s x k), (Av, cv, apKe a b s x k), (A0, c0, a), (A1, c1, b), (A2, c2, s), (A3, c3, x)]) (fun y hy => by simp only [List.mem_cons, List.not_mem_nil, or_false] at hy; rcases hy with rfl | rfl | rfl | rfl | rfl | rfl | rfl <;> simp)
    clear hs
    have hs := hs'
    clear hs'
    obtain ⟨no, eno⟩ : ∃ q, q = (openA (apV a b s x k) s k b (apBo a b s x k)).length := ⟨_, rfl⟩
    rw [← eno]
    clear eno
    have H14 := Lib.hid hs
    clear hs H13
    go_wp2_with fail
    go_at_call 14
    refine (sit_own K H14.out (A := A2) (c := c2) HE.out.2.2.1 (by simp) HL.out.1.2.2.1).mono ?_
    rintro e w15 ⟨As5, cs5, rfl, hs⟩
    skip
    have H15 := Lib.hid hs
    clear hs H14
    go_wp2_with fail
    go_at_call 14
    refine (sit_own K H15.out (A := A0) (c := c0) HE.out.1 (by simp) HL.out.1.1).mono ?_
    rintro e w16 ⟨Aa5, ca5, rfl, hs⟩
    skip
    have H16 := Lib.hid hs
    clear hs H15
    go_wp2_with fail
    go_at_call 14
    refine (sit_own K H16.out (A := A3) (c := c3) HE.out.2.2.2 (by simp) HL.out.1.2.2.2).mono ?_
    rintro e w17 ⟨Ax5, cx5, rfl, hs⟩
    skip
    have H17 := Lib.hid hs
    clear hs H16
    go_wp2_with fail
    go_at_call 18
    refine (sit_open K CO H17.out (A := As5) (c := cs5) (A2 := Aa5) (c2 := ca5) (A3 := Ax5) (c3 := cx5) k HE.out.2.2.1 HE.out.1 HE.out.2.2.2 (by simp) (by simp) (by simp) HLL.out.2.2.2.2 HKK.out).mono ?_
    rintro e w18 ⟨Aq, cq, rfl, hs⟩
    have HO2 := Lib.hid (fun (h : openE (apV a b s x k) s k a x = 0) => (ap_open2 a b s x k HG.out.1 HG.out.2 h : x = apBo a b s x k))
    obtain ⟨eo, eeo⟩ : ∃ q, q = openE (apV a b s x k) s k a x := ⟨_, rfl⟩
    obtain ⟨nq, enq⟩ : ∃ q, q = (openA (apV a b s x k) s k a x).length := ⟨_, rfl⟩
    rw [← eeo] at HO2 ⊢
    rw [← enq]
    clear eeo enq
    have hs' := hs.sub (l' := [(Ab, cb, apBo a b s x k), (Ag, cg, apSi a b s x k), (Av, cv, apKe a b s x k), (A0, c0, a), (A1, c1, b), (A2, c2, s), (A3, c3, x)]) (fun y hy => by simp only [List.mem_cons, List.not_mem_nil, or_false] at hy; rcases hy with rfl | rfl | rfl | rfl | rfl | rfl | rfl <;> simp)
    clear hs
    have hs := hs'
    clear hs'
    have H18 := Lib.hid hs
    clear hs H17
    have qa := run_str (P := Try.prog) w18 31 5 Try.underlying31 Try.underlying5 (dst := 9) Try.underlying9 (H18.out.row (A := A0) (c := c0) (bs := a) (by simp))
    rw [← HE.out.1] at qa
    have qb := run_str (P := Try.prog) w18 31 5 Try.underlying31 Try.underlying5 (dst := 9) Try.underlying9 (H18.out.row (A := A1) (c := c1) (bs := b) (by simp))
    rw [← HE.out.2.1] at qb
    have qx := run_str (P := Try.prog) w18 31 5 Try.underlying31 Try.underlying5 (dst := 9) Try.underlying9 (H18.out.row (A := A3) (c := c3) (bs := x) (by simp))
    rw [← HE.out.2.2.2] at qx
    have qbox := run_str (P := Try.prog) w18 31 5 Try.underlying31 Try.underlying5 (dst := 9) Try.underlying9 (H18.out.row (A := Ab) (c := cb) (bs := apBo a b s x k) (by simp))
    rw [← HNb.out] at qbox
    have hee : (ee == 0) = (a == b) := by
      rw [HEE.out]
      by_cases h : a = b
      · rw [if_pos h, h]; simp
      · rw [if_neg h, show (a == b) = false from beq_eq_false_iff_ne.2 h]; rfl
    have HVA := Lib.hid (show verifyT (apV a b s x k) (apKe a b s x k) b (apSi a b s x k) = (a == b) from (ap_ver a b s x k).trans (by rw [Bool.eq_iff_iff, beq_iff_eq, decide_eq_true_iff]))
    have HVB := Lib.hid (fun (h : verifyT (apV a b s x k) (apKe a b s x k) a x = true) => (ap_ver2 a b s x k h : x = apSi a b s x k))
    obtain ⟨bo, ebo⟩ : ∃ q, q = apBo a b s x k := ⟨_, rfl⟩
    have HBo := Lib.hid ebo
    rw [← ebo] at qbox
    clear ebo
    have heo : ((eo == 0) = true ∧ (x == bo) = true) ∨ (eo == 0) = false := by
      by_cases h : eo = 0
      · left
        rw [h, HBo.out]
        exact ⟨rfl, by rw [beq_iff_eq]; exact HO2.out h⟩
      · right; exact beq_eq_false_iff_ne.2 h
    have H18 := Lib.hid H18.out
    have hsplit : ∃ t : Bool, t = (eo == 0) := ⟨_, rfl⟩
    clear hsplit
    have hgo : ((eo == 0) && (x != bo)) = false := by
      rcases heo with ⟨h1, h2⟩ | h1
      · rw [h1, show (x != bo) = !(x == bo) from rfl, h2]; rfl
      · rw [h1]; rfl
    rcases heo with ⟨he1, he2⟩ | he1
    case' inl => have he3 : (x != bo) = false := by rw [show (x != bo) = !(x == bo) from rfl, he2]; rfl
    all_goals
      clear hgo
      go_upto_region 15 with fail
      clear hee he1 qa qb qx qbox g1 g2 g3
      try clear he2 he3
      have hBB : ((a == b) == (a == b)) = true := by simp
      by_cases hvv : verifyT (apV a b s x k) (apKe a b s x k) a x = true
      · have HVV := Lib.hid hvv
        have hxs : (x == apSi a b s x k) = true := by rw [beq_iff_eq]; exact HVB.out hvv
        clear hvv
        refine wp_region_par 32 40 [some 117, some 118, some 119, some 120, some 121, some 122, some 123, some 124, some 125, some 126, some 127, some 128, some 129, some 130, some 131, some 132, some 133, some 134, some 135, some 136, some 137, some 138, some 139, some 140, some 141, some 142, some 143, some 144, some 145, some 146, some 147, some 148] [3, 5, 16, 18, 19, 30] [some (.pointer (some ⟨gp, 0, none⟩)), some (.slice Av nv cv), some (.slice A1 n1 c1), none, some (.slice Ag ng cg), some (.bool (a == b)), some (.slice A0 n0 c0), some (.string ⟨(a).toArray⟩), some (.slice A1 n1 c1), some (.string ⟨(b).toArray⟩), some (.bool (a == b)), some (.bool true), some (.bool true), some (.pointer (some ⟨gp, 0, none⟩)), some (.slice Av nv cv), some (.slice A0 n0 c0), none, some (.slice A3 n3 c3), none, some (.bool true), some (.bool false), some (.bool false), some (.slice A3 n3 c3), some (.string ⟨(x).toArray⟩), some (.slice Ag ng cg), some (.string ⟨(apSi a b s x k).toArray⟩), some (.bool true), some (.bool true), some (.bool true), some (.bool true), some (.bool true), some (.bool true)]
          (SitT R w (.pointer (some ⟨gp, 0, none⟩)) ([(Ab, cb, apBo a b s x k), (Ag, cg, apSi a b s x k), (Av, cv, apKe a b s x k), (A0, c0, a), (A1, c1, b), (A2, c2, s), (A3, c3, x)]) (apV a b s x k, 0) [] [(3, b), (16, a), (18, x)]) (by kernel_rfl) (by kernel_rfl)
          (fun _ => SitT.start ((H18.out.sub (l' := [(Ab, cb, apBo a b s x k), (Ag, cg, apSi a b s x k), (Av, cv, apKe a b s x k), (A0, c0, a), (A1, c1, b), (A2, c2, s), (A3, c3, x)]) (fun y hy => by simp only [List.mem_cons, List.not_mem_nil, or_false] at hy; rcases hy with rfl | rfl | rfl | rfl | rfl | rfl | rfl <;> simp)).next K (Below.refl _ _).drew) (by rfl) (by simp)) (fun u => by simp only [List.filterMap_cons, List.filterMap_nil, puts, List.foldl_cons, List.foldl_nil]; go_simp; exact rfl) ?_ ?_
        · simp only [List.take_succ_cons, List.take_zero]
          refine Par.soft rfl rfl (.pointer (some ⟨gp, 0, none⟩)) rfl (fun u wz Lb Vb hT hh => ⟨by rfl, by go_simp⟩) ?_
          refine Par.soft rfl rfl (.slice Av nv cv) rfl (fun u wz Lb Vb hT hh => ⟨by rfl, by go_simp⟩) ?_
          refine Par.soft rfl rfl (.slice A1 n1 c1) rfl (fun u wz Lb Vb hT hh => ⟨by rfl, by go_simp⟩) ?_
          refine Par.hard rfl (fun u wz Lb Vb hT hh => ?_) ?_
          · have d119 : u 119 = .slice A1 n1 c1 := hh.val 2 _ rfl rfl
            have r119 := hT.base (A := A1) (c := c1) (bs := b) (by simp)
            rw [d119]
            refine StepP.of rfl (StepC.call 14 #[.slice A1 n1 c1] rfl (by go_simp) ((own_use HE.out.2.1 wz r119 HL.out.1.2.1).mono ?_))
            rintro e w' ⟨A, c, rfl, ho, hb⟩
            exact ⟨_, rfl, fun c hc => by simp at hc, hT.own K (stOf_off (by simp)) (by simp) ho hb⟩
          refine Par.soft rfl rfl (.slice Ag ng cg) rfl (fun u wz Lb Vb hT hh => ⟨by rfl, by go_simp⟩) ?_
          refine Par.hard rfl (fun u wz Lb Vb hT hh => ?_) ?_
          · have d117 : u 117 = .pointer (some ⟨gp, 0, none⟩) := hh.val 0 _ rfl rfl
            have d118 : u 118 = .slice Av nv cv := hh.val 1 _ rfl rfl
            have d121 : u 121 = .slice Ag ng cg := hh.val 4 _ rfl rfl
            have r118 := hT.base (A := Av) (c := cv) (bs := apKe a b s x k) (by simp)
            obtain ⟨r120A, r120c, r120e, r120⟩ := hT.row (i := 3) (bs := b) (by simp) (hh.been 3 (by rfl) rfl)
            have r120d : u 120 = .slice r120A (b).length r120c := (hh.hv 3 rfl).symm.trans r120e
            have r121 := hT.base (A := Ag) (c := cg) (bs := apSi a b s x k) (by simp)
            rw [d117, d118, d121, r120d]
            have h0 : stOf Lb (apV a b s x k, 0) [] = (apV a b s x k, 0) := (stOf_nil)
            refine StepP.of rfl (StepC.call 19 #[.pointer (some ⟨gp, 0, none⟩), .slice Av nv cv, .slice r120A (b).length r120c, .slice Ag ng cg] rfl (by go_simp) ((hT.use h0 (fun F S hR => ver_use (R := R) CR wz hR HLL.out.2.2.2.2 HNv.out rfl HNg.out r118 r120 r121 HVA.out)).mono ?_))
            rintro e w' ⟨rfl, hb⟩
            exact ⟨_, rfl, fun c hc => by simpa using hc, hT.next K (stOf_off (by simp)) (by simp) hb⟩
          refine Par.soft rfl rfl (.slice A0 n0 c0) rfl (fun u wz Lb Vb hT hh => ⟨by rfl, by go_simp⟩) ?_
          refine Par.soft rfl rfl (.string ⟨(a).toArray⟩) rfl (fun u wz Lb Vb hT hh => ⟨by rfl, by have d123 : u 123 = .slice A0 n0 c0 := hh.val 6 _ rfl rfl; rw [d123]; have r := hT.base (A := A0) (c := c0) (bs := a) (by simp); have hq := run_str (P := Try.prog) wz 31 5 Try.underlying31 Try.underlying5 (dst := 9) Try.underlying9 r; rw [← HE.out.1] at hq; exact run_conv rfl rfl hq⟩) ?_
          refine Par.soft rfl rfl (.slice A1 n1 c1) rfl (fun u wz Lb Vb hT hh => ⟨by rfl, by go_simp⟩) ?_
          refine Par.soft rfl rfl (.string ⟨(b).toArray⟩) rfl (fun u wz Lb Vb hT hh => ⟨by rfl, by have d125 : u 125 = .slice A1 n1 c1 := hh.val 8 _ rfl rfl; rw [d125]; have r := hT.base (A := A1) (c := c1) (bs := b) (by simp); have hq := run_str (P := Try.prog) wz 31 5 Try.underlying31 Try.underlying5 (dst := 9) Try.underlying9 r; rw [← HE.out.2.1] at hq; exact run_conv rfl rfl hq⟩) ?_
          refine Par.soft rfl rfl (.bool (a == b)) rfl (fun u wz Lb Vb hT hh => ⟨by rfl, by have d124 : u 124 = .string ⟨(a).toArray⟩ := hh.val 7 _ rfl rfl; have d126 : u 126 = .string ⟨(b).toArray⟩ := hh.val 9 _ rfl rfl; rw [d124, d126]; go_simp⟩) ?_
          refine Par.soft rfl rfl (.bool true) rfl (fun u wz Lb Vb hT hh => ⟨by rfl, by have d122 : u 122 = .bool (a == b) := hh.val 5 _ rfl rfl; have d127 : u 127 = .bool (a == b) := hh.val 10 _ rfl rfl; rw [d122, d127]; go_simp⟩) ?_
          refine Par.soft rfl rfl (.bool true) rfl (fun u wz Lb Vb hT hh => ⟨by rfl, by have d128 : u 128 = .bool true := hh.val 11 _ rfl rfl; rw [d128]; go_simp⟩) ?_
          refine Par.soft rfl rfl (.pointer (some ⟨gp, 0, none⟩)) rfl (fun u wz Lb Vb hT hh => ⟨by have d129 : u 129 = .bool true := hh.val 12 _ rfl rfl; rw [d129]; rfl, by have d129 : u 129 = .bool true := hh.val 12 _ rfl rfl; rw [d129]; go_simp⟩) ?_
          refine Par.soft rfl rfl (.slice Av nv cv) rfl (fun u wz Lb Vb hT hh => ⟨by have d129 : u 129 = .bool true := hh.val 12 _ rfl rfl; rw [d129]; rfl, by have d129 : u 129 = .bool true := hh.val 12 _ rfl rfl; rw [d129]; go_simp⟩) ?_
          refine Par.soft rfl rfl (.slice A0 n0 c0) rfl (fun u wz Lb Vb hT hh => ⟨by have d129 : u 129 = .bool true := hh.val 12 _ rfl rfl; rw [d129]; rfl, by have d129 : u 129 = .bool true := hh.val 12 _ rfl rfl; rw [d129]; go_simp⟩) ?_
          refine Par.hard rfl (fun u wz Lb Vb hT hh => ?_) ?_
          · have d129 : u 129 = .bool true := hh.val 12 _ rfl rfl
            have d132 : u 132 = .slice A0 n0 c0 := hh.val 15 _ rfl rfl
            have r132 := hT.base (A := A0) (c := c0) (bs := a) (by simp)
            rw [d129, d132]
            refine StepP.of rfl (StepC.call 14 #[.slice A0 n0 c0] rfl (by go_simp) ((own_use HE.out.1 wz r132 HL.out.1.1).mono ?_))
            rintro e w' ⟨A, c, rfl, ho, hb⟩
            exact ⟨_, rfl, fun c hc => by simp at hc, hT.own K (stOf_off (by simp)) (by simp) ho hb⟩
          refine Par.soft rfl rfl (.slice A3 n3 c3) rfl (fun u wz Lb Vb hT hh => ⟨by have d129 : u 129 = .bool true := hh.val 12 _ rfl rfl; rw [d129]; rfl, by have d129 : u 129 = .bool true := hh.val 12 _ rfl rfl; rw [d129]; go_simp⟩) ?_
          refine Par.hard rfl (fun u wz Lb Vb hT hh => ?_) ?_
          · have d129 : u 129 = .bool true := hh.val 12 _ rfl rfl
            have d134 : u 134 = .slice A3 n3 c3 := hh.val 17 _ rfl rfl
            have r134 := hT.base (A := A3) (c := c3) (bs := x) (by simp)
            rw [d129, d134]
            refine StepP.of rfl (StepC.call 14 #[.slice A3 n3 c3] rfl (by go_simp) ((own_use HE.out.2.2.2 wz r134 HL.out.1.2.2.2).mono ?_))
            rintro e w' ⟨A, c, rfl, ho, hb⟩
            exact ⟨_, rfl, fun c hc => by simp at hc, hT.own K (stOf_off (by simp)) (by simp) ho hb⟩
          refine Par.hard rfl (fun u wz Lb Vb hT hh => ?_) ?_
          · have d129 : u 129 = .bool true := hh.val 12 _ rfl rfl
            have d130 : u 130 = .pointer (some ⟨gp, 0, none⟩) := hh.val 13 _ rfl rfl
            have d131 : u 131 = .slice Av nv cv := hh.val 14 _ rfl rfl
            have r131 := hT.base (A := Av) (c := cv) (bs := apKe a b s x k) (by simp)
            obtain ⟨r133A, r133c, r133e, r133⟩ := hT.row (i := 16) (bs := a) (by simp) (hh.been 16 (by rfl) rfl)
            have r133d : u 133 = .slice r133A (a).length r133c := (hh.hv 16 rfl).symm.trans r133e
            obtain ⟨r135A, r135c, r135e, r135⟩ := hT.row (i := 18) (bs := x) (by simp) (hh.been 18 (by rfl) rfl)
            have r135d : u 135 = .slice r135A (x).length r135c := (hh.hv 18 rfl).symm.trans r135e
            rw [d129, d130, d131, r133d, r135d]
            have h0 : stOf Lb (apV a b s x k, 0) [] = (apV a b s x k, 0) := (stOf_nil)
            refine StepP.of rfl (StepC.call 19 #[.pointer (some ⟨gp, 0, none⟩), .slice Av nv cv, .slice r133A (a).length r133c, .slice r135A (x).length r135c] rfl (by go_simp) ((hT.use h0 (fun F S hR => ver_use (R := R) CR wz hR HLL.out.2.2.2.2 HNv.out rfl rfl r131 r133 r135 HVV.out)).mono ?_))
            rintro e w' ⟨rfl, hb⟩
            exact ⟨_, rfl, fun c hc => by simpa using hc, hT.next K (stOf_off (by simp)) (by simp) hb⟩
          refine Par.soft rfl rfl (.bool false) rfl (fun u wz Lb Vb hT hh => ⟨by have d129 : u 129 = .bool true := hh.val 12 _ rfl rfl; rw [d129]; rfl, by have d129 : u 129 = .bool true := hh.val 12 _ rfl rfl; have d136 : u 136 = .bool true := hh.val 19 _ rfl rfl; rw [d129, d136]; go_simp⟩) ?_
          refine Par.soft rfl rfl (.bool false) rfl (fun u wz Lb Vb hT hh => ⟨by have d129 : u 129 = .bool true := hh.val 12 _ rfl rfl; rw [d129]; rfl, by have d129 : u 129 = .bool true := hh.val 12 _ rfl rfl; have d137 : u 137 = .bool false := hh.val 20 _ rfl rfl; rw [d129, d137]; go_simp⟩) ?_
          refine Par.soft rfl rfl (.slice A3 n3 c3) rfl (fun u wz Lb Vb hT hh => ⟨by have d138 : u 138 = .bool false := hh.val 21 _ rfl rfl; rw [d138]; rfl, by have d138 : u 138 = .bool false := hh.val 21 _ rfl rfl; rw [d138]; go_simp⟩) ?_
          refine Par.soft rfl rfl (.string ⟨(x).toArray⟩) rfl (fun u wz Lb Vb hT hh => ⟨by have d138 : u 138 = .bool false := hh.val 21 _ rfl rfl; rw [d138]; rfl, by have d138 : u 138 = .bool false := hh.val 21 _ rfl rfl; have d139 : u 139 = .slice A3 n3 c3 := hh.val 22 _ rfl rfl; rw [d138, d139]; have r := hT.base (A := A3) (c := c3) (bs := x) (by simp); have hq := run_str (P := Try.prog) wz 31 5 Try.underlying31 Try.underlying5 (dst := 9) Try.underlying9 r; rw [← HE.out.2.2.2] at hq; exact run_conv rfl rfl hq⟩) ?_
          refine Par.soft rfl rfl (.slice Ag ng cg) rfl (fun u wz Lb Vb hT hh => ⟨by have d138 : u 138 = .bool false := hh.val 21 _ rfl rfl; rw [d138]; rfl, by have d138 : u 138 = .bool false := hh.val 21 _ rfl rfl; rw [d138]; go_simp⟩) ?_
          refine Par.soft rfl rfl (.string ⟨(apSi a b s x k).toArray⟩) rfl (fun u wz Lb Vb hT hh => ⟨by have d138 : u 138 = .bool false := hh.val 21 _ rfl rfl; rw [d138]; rfl, by have d138 : u 138 = .bool false := hh.val 21 _ rfl rfl; have d141 : u 141 = .slice Ag ng cg := hh.val 24 _ rfl rfl; rw [d138, d141]; have r := hT.base (A := Ag) (c := cg) (bs := apSi a b s x k) (by simp); have hq := run_str (P := Try.prog) wz 31 5 Try.underlying31 Try.underlying5 (dst := 9) Try.underlying9 r; rw [← HNg.out] at hq; exact run_conv rfl rfl hq⟩) ?_
          refine Par.soft rfl rfl (.bool true) rfl (fun u wz Lb Vb hT hh => ⟨by have d138 : u 138 = .bool false := hh.val 21 _ rfl rfl; rw [d138]; rfl, by have d138 : u 138 = .bool false := hh.val 21 _ rfl rfl; have d140 : u 140 = .string ⟨(x).toArray⟩ := hh.val 23 _ rfl rfl; have d142 : u 142 = .string ⟨(apSi a b s x k).toArray⟩ := hh.val 25 _ rfl rfl; rw [d138, d140, d142]; go_simp⟩) ?_
          refine Par.soft rfl rfl (.bool true) rfl (fun u wz Lb Vb hT hh => ⟨by have d129 : u 129 = .bool true := hh.val 12 _ rfl rfl; rw [d129]; rfl, by have d129 : u 129 = .bool true := hh.val 12 _ rfl rfl; have d138 : u 138 = .bool false := hh.val 21 _ rfl rfl; have d143 : u 143 = .bool true := hh.val 26 _ rfl rfl; rw [d129, d138, d143]; go_simp⟩) ?_
          refine Par.soft rfl rfl (.bool true) rfl (fun u wz Lb Vb hT hh => ⟨by rfl, by have d129 : u 129 = .bool true := hh.val 12 _ rfl rfl; have d144 : u 144 = .bool true := hh.val 27 _ rfl rfl; rw [d129, d144]; go_simp⟩) ?_
          refine Par.soft rfl rfl (.bool true) rfl (fun u wz Lb Vb hT hh => ⟨by rfl, by have d145 : u 145 = .bool true := hh.val 28 _ rfl rfl; rw [d145]; go_simp⟩) ?_
          refine Par.hard rfl (fun u wz Lb Vb hT hh => ?_) ?_
          · have d146 : u 146 = .bool true := hh.val 29 _ rfl rfl
            rw [d146]
            have h0 : stOf Lb (apV a b s x k, 0) [] = (apV a b s x k, 0) := (stOf_nil)
            refine StepP.of rfl (StepC.call 8 #[] rfl (by go_simp) ((hT.use h0 (fun F S hR => aw wz)).mono ?_))
            rintro e w' ⟨rfl, hb⟩
            exact ⟨_, rfl, fun c hc => by simpa using hc, hT.next K (stOf_off (by simp)) (by simp) hb⟩
          refine Par.soft rfl rfl (.bool true) rfl (fun u wz Lb Vb hT hh => ⟨by rfl, by have d146 : u 146 = .bool true := hh.val 29 _ rfl rfl; have d147 : u 147 = .bool true := hh.val 30 _ rfl rfl; rw [d146, d147]; go_simp⟩) ?_
          exact Par.nil
        · intro u wz hD hT
          obtain ⟨Lb, Vb, hT, hLV⟩ := hT
          have d148 : u 148 = .bool true := hD 31 _ (by decide) rfl
          have hb := hT.below
          rw [d148]
          clear hD hT hLV
          go_wp2_with fail
          go_ret
          exact ⟨rfl, hb⟩
      · rw [Bool.not_eq_true] at hvv
        have HVV := Lib.hid hvv
        clear hvv
        refine wp_region_par 32 40 [some 117, some 118, some 119, some 120, some 121, some 122, some 123, some 124, some 125, some 126, some 127, some 128, some 129, some 130, some 131, some 132, some 133, some 134, some 135, some 136, some 137, some 138, some 139, some 140, some 141, some 142, some 143, some 144, some 145, some 146, some 147, some 148] [3, 5, 16, 18, 19, 30] [some (.pointer (some ⟨gp, 0, none⟩)), some (.slice Av nv cv), some (.slice A1 n1 c1), none, some (.slice Ag ng cg), some (.bool (a == b)), some (.slice A0 n0 c0), some (.string ⟨(a).toArray⟩), some (.slice A1 n1 c1), some (.string ⟨(b).toArray⟩), some (.bool (a == b)), some (.bool true), some (.bool true), some (.pointer (some ⟨gp, 0, none⟩)), some (.slice Av nv cv), some (.slice A0 n0 c0), none, some (.slice A3 n3 c3), none, some (.bool false), some (.bool true), some (.bool true), some undef, some undef, some undef, some undef, some undef, some (.bool true), some (.bool true), some (.bool true), some (.bool true), some (.bool true)]
          (SitT R w (.pointer (some ⟨gp, 0, none⟩)) ([(Ab, cb, apBo a b s x k), (Ag, cg, apSi a b s x k), (Av, cv, apKe a b s x k), (A0, c0, a), (A1, c1, b), (A2, c2, s), (A3, c3, x)]) (apV a b s x k, 0) [] [(3, b), (16, a), (18, x)]) (by kernel_rfl) (by kernel_rfl)
          (fun _ => SitT.start ((H18.out.sub (l' := [(Ab, cb, apBo a b s x k), (Ag, cg, apSi a b s x k), (Av, cv, apKe a b s x k), (A0, c0, a), (A1, c1, b), (A2, c2, s), (A3, c3, x)]) (fun y hy => by simp only [List.mem_cons, List.not_mem_nil, or_false] at hy; rcases hy with rfl | rfl | rfl | rfl | rfl | rfl | rfl <;> simp)).next K (Below.refl _ _).drew) (by rfl) (by simp)) (fun u => by simp only [List.filterMap_cons, List.filterMap_nil, puts, List.foldl_cons, List.foldl_nil]; go_simp; exact rfl) ?_ ?_
        · simp only [List.take_succ_cons, List.take_zero]
          refine Par.soft rfl rfl (.pointer (some ⟨gp, 0, none⟩)) rfl (fun u wz Lb Vb hT hh => ⟨by rfl, by go_simp⟩) ?_
          refine Par.soft rfl rfl (.slice Av nv cv) rfl (fun u wz Lb Vb hT hh => ⟨by rfl, by go_simp⟩) ?_
          refine Par.soft rfl rfl (.slice A1 n1 c1) rfl (fun u wz Lb Vb hT hh => ⟨by rfl, by go_simp⟩) ?_
          refine Par.hard rfl (fun u wz Lb Vb hT hh => ?_) ?_
          · have d119 : u 119 = .slice A1 n1 c1 := hh.val 2 _ rfl rfl
            have r119 := hT.base (A := A1) (c := c1) (bs := b) (by simp)
            rw [d119]
            refine StepP.of rfl (StepC.call 14 #[.slice A1 n1 c1] rfl (by go_simp) ((own_use HE.out.2.1 wz r119 HL.out.1.2.1).mono ?_))
            rintro e w' ⟨A, c, rfl, ho, hb⟩
            exact ⟨_, rfl, fun c hc => by simp at hc, hT.own K (stOf_off (by simp)) (by simp) ho hb⟩
          refine Par.soft rfl rfl (.slice Ag ng cg) rfl (fun u wz Lb Vb hT hh => ⟨by rfl, by go_simp⟩) ?_
          refine Par.hard rfl (fun u wz Lb Vb hT hh => ?_) ?_
          · have d117 : u 117 = .pointer (some ⟨gp, 0, none⟩) := hh.val 0 _ rfl rfl
            have d118 : u 118 = .slice Av nv cv := hh.val 1 _ rfl rfl
            have d121 : u 121 = .slice Ag ng cg := hh.val 4 _ rfl rfl
            have r118 := hT.base (A := Av) (c := cv) (bs := apKe a b s x k) (by simp)
            obtain ⟨r120A, r120c, r120e, r120⟩ := hT.row (i := 3) (bs := b) (by simp) (hh.been 3 (by rfl) rfl)
            have r120d : u 120 = .slice r120A (b).length r120c := (hh.hv 3 rfl).symm.trans r120e
            have r121 := hT.base (A := Ag) (c := cg) (bs := apSi a b s x k) (by simp)
            rw [d117, d118, d121, r120d]
            have h0 : stOf Lb (apV a b s x k, 0) [] = (apV a b s x k, 0) := (stOf_nil)
            refine StepP.of rfl (StepC.call 19 #[.pointer (some ⟨gp, 0, none⟩), .slice Av nv cv, .slice r120A (b).length r120c, .slice Ag ng cg] rfl (by go_simp) ((hT.use h0 (fun F S hR => ver_use (R := R) CR wz hR HLL.out.2.2.2.2 HNv.out rfl HNg.out r118 r120 r121 HVA.out)).mono ?_))
            rintro e w' ⟨rfl, hb⟩
            exact ⟨_, rfl, fun c hc => by simpa using hc, hT.next K (stOf_off (by simp)) (by simp) hb⟩
          refine Par.soft rfl rfl (.slice A0 n0 c0) rfl (fun u wz Lb Vb hT hh => ⟨by rfl, by go_simp⟩) ?_
          refine Par.soft rfl rfl (.string ⟨(a).toArray⟩) rfl (fun u wz Lb Vb hT hh => ⟨by rfl, by have d123 : u 123 = .slice A0 n0 c0 := hh.val 6 _ rfl rfl; rw [d123]; have r := hT.base (A := A0) (c := c0) (bs := a) (by simp); have hq := run_str (P := Try.prog) wz 31 5 Try.underlying31 Try.underlying5 (dst := 9) Try.underlying9 r; rw [← HE.out.1] at hq; exact run_conv rfl rfl hq⟩) ?_
          refine Par.soft rfl rfl (.slice A1 n1 c1) rfl (fun u wz Lb Vb hT hh => ⟨by rfl, by go_simp⟩) ?_
          refine Par.soft rfl rfl (.string ⟨(b).toArray⟩) rfl (fun u wz Lb Vb hT hh => ⟨by rfl, by have d125 : u 125 = .slice A1 n1 c1 := hh.val 8 _ rfl rfl; rw [d125]; have r := hT.base (A := A1) (c := c1) (bs := b) (by simp); have hq := run_str (P := Try.prog) wz 31 5 Try.underlying31 Try.underlying5 (dst := 9) Try.underlying9 r; rw [← HE.out.2.1] at hq; exact run_conv rfl rfl hq⟩) ?_
          refine Par.soft rfl rfl (.bool (a == b)) rfl (fun u wz Lb Vb hT hh => ⟨by rfl, by have d124 : u 124 = .string ⟨(a).toArray⟩ := hh.val 7 _ rfl rfl; have d126 : u 126 = .string ⟨(b).toArray⟩ := hh.val 9 _ rfl rfl; rw [d124, d126]; go_simp⟩) ?_
          refine Par.soft rfl rfl (.bool true) rfl (fun u wz Lb Vb hT hh => ⟨by rfl, by have d122 : u 122 = .bool (a == b) := hh.val 5 _ rfl rfl; have d127 : u 127 = .bool (a == b) := hh.val 10 _ rfl rfl; rw [d122, d127]; go_simp⟩) ?_
          refine Par.soft rfl rfl (.bool true) rfl (fun u wz Lb Vb hT hh => ⟨by rfl, by have d128 : u 128 = .bool true := hh.val 11 _ rfl rfl; rw [d128]; go_simp⟩) ?_
          refine Par.soft rfl rfl (.pointer (some ⟨gp, 0, none⟩)) rfl (fun u wz Lb Vb hT hh => ⟨by have d129 : u 129 = .bool true := hh.val 12 _ rfl rfl; rw [d129]; rfl, by have d129 : u 129 = .bool true := hh.val 12 _ rfl rfl; rw [d129]; go_simp⟩) ?_
          refine Par.soft rfl rfl (.slice Av nv cv) rfl (fun u wz Lb Vb hT hh => ⟨by have d129 : u 129 = .bool true := hh.val 12 _ rfl rfl; rw [d129]; rfl, by have d129 : u 129 = .bool true := hh.val 12 _ rfl rfl; rw [d129]; go_simp⟩) ?_
          refine Par.soft rfl rfl (.slice A0 n0 c0) rfl (fun u wz Lb Vb hT hh => ⟨by have d129 : u 129 = .bool true := hh.val 12 _ rfl rfl; rw [d129]; rfl, by have d129 : u 129 = .bool true := hh.val 12 _ rfl rfl; rw [d129]; go_simp⟩) ?_
          refine Par.hard rfl (fun u wz Lb Vb hT hh => ?_) ?_
          · have d129 : u 129 = .bool true := hh.val 12 _ rfl rfl
            have d132 : u 132 = .slice A0 n0 c0 := hh.val 15 _ rfl rfl
            have r132 := hT.base (A := A0) (c := c0) (bs := a) (by simp)
            rw [d129, d132]
            refine StepP.of rfl (StepC.call 14 #[.slice A0 n0 c0] rfl (by go_simp) ((own_use HE.out.1 wz r132 HL.out.1.1).mono ?_))
            rintro e w' ⟨A, c, rfl, ho, hb⟩
            exact ⟨_, rfl, fun c hc => by simp at hc, hT.own K (stOf_off (by simp)) (by simp) ho hb⟩
          refine Par.soft rfl rfl (.slice A3 n3 c3) rfl (fun u wz Lb Vb hT hh => ⟨by have d129 : u 129 = .bool true := hh.val 12 _ rfl rfl; rw [d129]; rfl, by have d129 : u 129 = .bool true := hh.val 12 _ rfl rfl; rw [d129]; go_simp⟩) ?_
          refine Par.hard rfl (fun u wz Lb Vb hT hh => ?_) ?_
          · have d129 : u 129 = .bool true := hh.val 12 _ rfl rfl
            have d134 : u 134 = .slice A3 n3 c3 := hh.val 17 _ rfl rfl
            have r134 := hT.base (A := A3) (c := c3) (bs := x) (by simp)
            rw [d129, d134]
            refine StepP.of rfl (StepC.call 14 #[.slice A3 n3 c3] rfl (by go_simp) ((own_use HE.out.2.2.2 wz r134 HL.out.1.2.2.2).mono ?_))
            rintro e w' ⟨A, c, rfl, ho, hb⟩
            exact ⟨_, rfl, fun c hc => by simp at hc, hT.own K (stOf_off (by simp)) (by simp) ho hb⟩
          refine Par.hard rfl (fun u wz Lb Vb hT hh => ?_) ?_
          · have d129 : u 129 = .bool true := hh.val 12 _ rfl rfl
            have d130 : u 130 = .pointer (some ⟨gp, 0, none⟩) := hh.val 13 _ rfl rfl
            have d131 : u 131 = .slice Av nv cv := hh.val 14 _ rfl rfl
            have r131 := hT.base (A := Av) (c := cv) (bs := apKe a b s x k) (by simp)
            obtain ⟨r133A, r133c, r133e, r133⟩ := hT.row (i := 16) (bs := a) (by simp) (hh.been 16 (by rfl) rfl)
            have r133d : u 133 = .slice r133A (a).length r133c := (hh.hv 16 rfl).symm.trans r133e
            obtain ⟨r135A, r135c, r135e, r135⟩ := hT.row (i := 18) (bs := x) (by simp) (hh.been 18 (by rfl) rfl)
            have r135d : u 135 = .slice r135A (x).length r135c := (hh.hv 18 rfl).symm.trans r135e
            rw [d129, d130, d131, r133d, r135d]
            have h0 : stOf Lb (apV a b s x k, 0) [] = (apV a b s x k, 0) := (stOf_nil)
            refine StepP.of rfl (StepC.call 19 #[.pointer (some ⟨gp, 0, none⟩), .slice Av nv cv, .slice r133A (a).length r133c, .slice r135A (x).length r135c] rfl (by go_simp) ((hT.use h0 (fun F S hR => ver_use (R := R) CR wz hR HLL.out.2.2.2.2 HNv.out rfl rfl r131 r133 r135 HVV.out)).mono ?_))
            rintro e w' ⟨rfl, hb⟩
            exact ⟨_, rfl, fun c hc => by simpa using hc, hT.next K (stOf_off (by simp)) (by simp) hb⟩
          refine Par.soft rfl rfl (.bool true) rfl (fun u wz Lb Vb hT hh => ⟨by have d129 : u 129 = .bool true := hh.val 12 _ rfl rfl; rw [d129]; rfl, by have d129 : u 129 = .bool true := hh.val 12 _ rfl rfl; have d136 : u 136 = .bool false := hh.val 19 _ rfl rfl; rw [d129, d136]; go_simp⟩) ?_
          refine Par.soft rfl rfl (.bool true) rfl (fun u wz Lb Vb hT hh => ⟨by have d129 : u 129 = .bool true := hh.val 12 _ rfl rfl; rw [d129]; rfl, by have d129 : u 129 = .bool true := hh.val 12 _ rfl rfl; have d137 : u 137 = .bool true := hh.val 20 _ rfl rfl; rw [d129, d137]; go_simp⟩) ?_
          refine Par.skip rfl rfl rfl (fun u wz Lb Vb hT hh => by have d138 : u 138 = .bool true := hh.val 21 _ rfl rfl; rw [d138]; rfl) ?_
          refine Par.skip rfl rfl rfl (fun u wz Lb Vb hT hh => by have d138 : u 138 = .bool true := hh.val 21 _ rfl rfl; rw [d138]; rfl) ?_
          refine Par.skip rfl rfl rfl (fun u wz Lb Vb hT hh => by have d138 : u 138 = .bool true := hh.val 21 _ rfl rfl; rw [d138]; rfl) ?_
          refine Par.skip rfl rfl rfl (fun u wz Lb Vb hT hh => by have d138 : u 138 = .bool true := hh.val 21 _ rfl rfl; rw [d138]; rfl) ?_
          refine Par.skip rfl rfl rfl (fun u wz Lb Vb hT hh => by have d138 : u 138 = .bool true := hh.val 21 _ rfl rfl; rw [d138]; rfl) ?_
          refine Par.soft rfl rfl (.bool true) rfl (fun u wz Lb Vb hT hh => ⟨by have d129 : u 129 = .bool true := hh.val 12 _ rfl rfl; rw [d129]; rfl, by have d129 : u 129 = .bool true := hh.val 12 _ rfl rfl; have d138 : u 138 = .bool true := hh.val 21 _ rfl rfl; rw [d129, d138]; go_simp⟩) ?_
          refine Par.soft rfl rfl (.bool true) rfl (fun u wz Lb Vb hT hh => ⟨by rfl, by have d129 : u 129 = .bool true := hh.val 12 _ rfl rfl; have d144 : u 144 = .bool true := hh.val 27 _ rfl rfl; rw [d129, d144]; go_simp⟩) ?_
          refine Par.soft rfl rfl (.bool true) rfl (fun u wz Lb Vb hT hh => ⟨by rfl, by have d145 : u 145 = .bool true := hh.val 28 _ rfl rfl; rw [d145]; go_simp⟩) ?_
          refine Par.hard rfl (fun u wz Lb Vb hT hh => ?_) ?_
          · have d146 : u 146 = .bool true := hh.val 29 _ rfl rfl
            rw [d146]
            have h0 : stOf Lb (apV a b s x k, 0) [] = (apV a b s x k, 0) := (stOf_nil)
            refine StepP.of rfl (StepC.call 8 #[] rfl (by go_simp) ((hT.use h0 (fun F S hR => aw wz)).mono ?_))
            rintro e w' ⟨rfl, hb⟩
            exact ⟨_, rfl, fun c hc => by simpa using hc, hT.next K (stOf_off (by simp)) (by simp) hb⟩
          refine Par.soft rfl rfl (.bool true) rfl (fun u wz Lb Vb hT hh => ⟨by rfl, by have d146 : u 146 = .bool true := hh.val 29 _ rfl rfl; have d147 : u 147 = .bool true := hh.val 30 _ rfl rfl; rw [d146, d147]; go_simp⟩) ?_
          exact Par.nil
        · intro u wz hD hT
          obtain ⟨Lb, Vb, hT, hLV⟩ := hT
          have d148 : u 148 = .bool true := hD 31 _ (by decide) rfl
          have hb := hT.below
          rw [d148]
          clear hD hT hLV
          go_wp2_with fail
          go_ret
          exact ⟨rfl, hb⟩
end Go.Proofs.Ytdddcgkgellbgab
