/-
  SuiteBack, its inner part: sealed is opened, signed is verified, shared is shared, in an ideal suite behind an interface. By an AI agent.
-/
import Derived.Test.YtdddcgkgellbgabSn3
namespace Go.Proofs.Ytdddcgkgellbgab
open Go Go.RowKit
set_option maxRecDepth 20000
def sbJ : List UInt8 := bkJ
def sbK : List UInt8 := bkK
def sbP : List UInt8 := bkP
def sbA : List UInt8 := bkA
def sbQ : List UInt8 := bkQ
def sbL1 : List Trm := bkL1
def sbL2 : List Trm := bkL2
def sbL3 : List Trm := bkL3
def sbL4 : List Trm := bkL4
def sbL5 : List Trm := bkL5
def sbL6 (o : List UInt8) : List Trm := bkL6 o
def sbY (o : List UInt8) : List UInt8 := bkKey o
def sbL7 (o x : List UInt8) (n : Int) : List Trm := bkL7 o x n
def sbX (o x : List UInt8) (n : Int) : List UInt8 := bkBox o x n
def sbL8 (o x : List UInt8) (n : Int) : List Trm := bkL8 o x n
def sbS (o x : List UInt8) (n : Int) : List UInt8 := bkSig o x n
def sbL9 (o x : List UInt8) (n : Int) : List Trm := bkL9 o x n
def sbV (o x : List UInt8) (n : Int) : List UInt8 := bkV o x n
theorem sb_len (o x : List UInt8) (n : Int) : sbJ.length = 32 ∧ sbK.length = 32 ∧ sbP.length = 32 ∧ sbA.length = 32 ∧ sbQ.length = 32 ∧ (sbY o).length = 32 ∧ (sbX o x n).length = x.length + 16 ∧ (sbS o x n).length = 64 ∧ (sbV o x n).length = 32 :=
  ⟨calledT_len _ _, calledT_len _ _, calledT_len _ _, calledT_len _ _, calledT_len _ _, calledT_len _ _, calledT_len _ _, calledT_len _ _, calledT_len _ _⟩
theorem sb_ls (o x : List UInt8) (n : Int) : sbL1.length ≤ 1000000 ∧ sbL2.length ≤ 1000000 ∧ sbL3.length ≤ 1000000 ∧ sbL4.length ≤ 1000000 ∧ sbL5.length ≤ 1000000 ∧ (sbL6 o).length ≤ 1000000 ∧ (sbL7 o x n).length ≤ 1000000 ∧ (sbL8 o x n).length ≤ 1000000 ∧ (sbL9 o x n).length ≤ 1000000 := by
  have h1 := know_le [] (termS 0) (Nat.zero_le 0)
  have h2 := know_le _ (termS 1) h1
  have h3 := know_le _ (termP bkK) h2
  have h4 := know_le _ (termD bkJ bkK) h3
  have h5 := know_le _ (termP bkJ) h4
  have h6 := know_le _ (termK bkA o) h5
  have h7 := know_le _ (termB (bkKey o) n o x) h6
  have h8 := know_le _ (termG bkJ x) h7
  have h9 := know_le _ (termV bkJ) h8
  have q : ∀ m, m ≤ 9 → m ≤ 1000000 := fun m h => by omega
  exact ⟨q _ (Nat.le_trans h1 (by decide)), q _ (Nat.le_trans h2 (by decide)), q _ (Nat.le_trans h3 (by decide)), q _ (Nat.le_trans h4 (by decide)), q _ (Nat.le_trans h5 (by decide)), q _ (Nat.le_trans h6 (by decide)), q _ (Nat.le_trans h7 (by decide)), q _ (Nat.le_trans h8 (by decide)), q _ (Nat.le_trans h9 (by decide))⟩
section
variable {R : IdlP} {F S : Nat → Prop} {p : Value} {A : Option Addr} {c : Nat} (w : World)
theorem sb_draw1 (C : DrawC R) (hR : R w F S p [] 0) : AskQ R 22 #[p] w F S p sbL1 1 sbJ := C w hR (Nat.zero_le _) (Nat.zero_le _)
theorem sb_draw2 (C : DrawC R) (hR : R w F S p sbL1 1) : AskQ R 22 #[p] w F S p sbL2 2 sbK := C w hR (by decide) (sb_ls [] [] 0).1
theorem sb_pub1 (C : PubC R) (hR : R w F S p sbL2 2) (hr : Rd w w.heap.size A c sbK) : AskQ R 23 #[p, .slice A 32 c] w F S p sbL3 2 sbP := by
  have h := C w hR (sb_ls [] [] 0).2.1 hr (by rw [lenOk, (sb_len [] [] 0).2.1]; decide)
  rw [(know_32 (t := termP sbK) (sb_len [] [] 0).2.1).1, (know_32 (t := termP sbK) (sb_len [] [] 0).2.1).2, (sb_len [] [] 0).2.1] at h
  exact h
theorem sb_pub2 (C : PubC R) (hR : R w F S p sbL4 2) (hr : Rd w w.heap.size A c sbJ) : AskQ R 23 #[p, .slice A 32 c] w F S p sbL5 2 sbQ := by
  have h := C w hR (sb_ls [] [] 0).2.2.2.1 hr (by rw [lenOk, (sb_len [] [] 0).1]; decide)
  rw [(know_32 (t := termP sbJ) (sb_len [] [] 0).1).1, (know_32 (t := termP sbJ) (sb_len [] [] 0).1).2, (sb_len [] [] 0).1] at h
  exact h
theorem sb_signer {o x : List UInt8} {n : Int} (C : SgrC R) (hR : R w F S p (sbL8 o x n) 2) (hr : Rd w w.heap.size A c sbJ) : AskQ R 17 #[p, .slice A 32 c] w F S p (sbL9 o x n) 2 (sbV o x n) := by
  have h := C w hR (sb_ls o x n).2.2.2.2.2.2.2.1 hr (by rw [lenOk, (sb_len [] [] 0).1]; decide)
  rw [(know_32 (t := termV sbJ) (sb_len [] [] 0).1).1, (know_32 (t := termV sbJ) (sb_len [] [] 0).1).2, (sb_len [] [] 0).1] at h
  exact h
end
theorem sb_sh1 : sharedL sbL3 sbJ sbP = sbL4 ∧ sharedA sbL3 sbJ sbP = sbA ∧ sharedE sbL3 sbJ sbP = 0 := bk_shareA
theorem sb_sh2 : sharedL sbL5 sbK sbQ = sbL5 ∧ sharedA sbL5 sbK sbQ = sbA ∧ sharedE sbL5 sbK sbQ = 0 := bk_shareB
theorem sb_der (o : List UInt8) : knowK sbL5 (termK sbA o) = sbL6 o ∧ ansK sbL5 (termK sbA o) = sbY o := know_32 (t := termK sbA o) (sb_len [] [] 0).2.2.2.1
theorem sb_seal {o x : List UInt8} {n : Int} (hn : 0 ≤ n) : sealL (sbL6 o) (sbY o) n o x = sbL7 o x n ∧ sealA (sbL6 o) (sbY o) n o x = sbX o x n := by
  have h1 : ¬ n < 0 := by omega
  unfold sealL sealA
  rw [if_neg h1, if_neg h1]
  exact know_32 (t := termB (sbY o) n o x) (sb_len o [] 0).2.2.2.2.2.1
theorem sb_sealbad {o x : List UInt8} {n : Int} (hn : n < 0) : sealL (sbL6 o) (sbY o) n o x = sbL6 o ∧ sealA (sbL6 o) (sbY o) n o x = [] := by
  unfold sealL sealA
  rw [if_pos hn, if_pos hn]
  exact ⟨rfl, rfl⟩
theorem sb_open {o x : List UInt8} {n : Int} (hn : 0 ≤ n) : openA (sbL7 o x n) (sbY o) n o (sbX o x n) = x ∧ openE (sbL7 o x n) (sbY o) n o (sbX o x n) = 0 := bk_open o x n hn
theorem sb_sign (o x : List UInt8) (n : Int) : knowK (sbL7 o x n) (termG sbJ x) = sbL8 o x n ∧ ansK (sbL7 o x n) (termG sbJ x) = sbS o x n := know_32 (t := termG sbJ x) (sb_len [] [] 0).1
theorem sb_ver (o x : List UInt8) (n : Int) : verifyT (sbL9 o x n) (sbV o x n) x (sbS o x n) = true := bk_verify o x n
theorem sb_jk : (sbJ == sbK) = false := beq_eq_false_iff_ne.2 bk_unlike
set_option maxHeartbeats 25600000 in
theorem agrees_at {R0 : IdlP} (K0 : IdlC R0) (C1 : DrawC R0) (CP : PubC R0) (CH : ShaC R0) (CD : DerC R0) (CS : SealC R0) (CG : SgnC R0) (CV : SgrC R0) (CO : OpnC R0) (CR : VerC R0)
    {w0 w1 : World} {gp : Nat} {Aa Ab Ac : Option Addr} {na ca nb cb nc cc : Nat} {o x : List UInt8} {n : Int} (hn : n < 9223372036854775808) (_hn2 : -9223372036854775808 ≤ n) (eb : nb = o.length) (ec : nc = x.length) (lb : nb ≤ 4000) (lc : nc ≤ 4000)
    (hs0 : Sit R0 w0 w1 (.pointer (some ⟨gp, 0, none⟩)) [] 0 [(Ab, cb, o), (Ac, cc, x)]) :
    Calls Try.prog 20 #[.iface 25 (.pointer (some ⟨gp, 0, none⟩)), .agg #[.slice Aa na ca, .slice Ab nb cb, .slice Ac nc cc, .int .i64 n]] w1 fun e w' => e = .returned (.bool true) ∧ Below w0.heap.size w0 w' := by
  obtain ⟨v0, ev0⟩ : ∃ v, v = w1.alloc (.cells #[.slice Aa na ca, .slice Ab nb cb, .slice Ac nc cc, .int .i64 n] 49) := ⟨_, rfl⟩
  obtain ⟨g, eg⟩ : ∃ g, g = w1.heap.size := ⟨_, rfl⟩
  obtain ⟨bx, ebx⟩ : ∃ o : Obj, o = .cells #[.slice Aa na ca, .slice Ab nb cb, .slice Ac nc cc, .int .i64 n] 49 := ⟨_, rfl⟩
  obtain ⟨R, eR⟩ : ∃ R, R = Rbox R0 g bx := ⟨_, rfl⟩
  have H0 : Sit R w0 v0 (.pointer (some ⟨gp, 0, none⟩)) [] 0 [(Ab, cb, o), (Ac, cc, x)] := by
    rw [eR]
    exact hs0.box K0 (by rw [ev0]; exact (Below.refl _ _).alloc (Nat.le_refl _) _) (by rw [ev0, eg, ebx]; exact (MapKept.heap_alloc w1 _).1) (by rw [eg]; exact Nat.le_refl _)
  have K : IdlC R := by rw [eR]; exact Rbox.idl K0
  have HC1 : DrawC R := by rw [eR]; exact Rbox.draw C1
  have HCP : PubC R := by rw [eR]; exact Rbox.pub CP
  have HCH : ShaC R := by rw [eR]; exact Rbox.sha CH
  have HCD : DerC R := by rw [eR]; exact Rbox.der CD
  have HCS : SealC R := by rw [eR]; exact Rbox.seal CS
  have HCG : SgnC R := by rw [eR]; exact Rbox.sgn CG
  have HCV : SgrC R := by rw [eR]; exact Rbox.sgr CV
  have HCO : OpnC R := by rw [eR]; exact Rbox.opn CO
  have HCR : VerC R := by rw [eR]; exact Rbox.ver CR
  have HBx := Lib.hid (fun (wz : World) (p : Value) (L : List Trm) (D : Nat) (l : List RowA) (hs : Sit R w0 wz p L D l) => show wz.cell? ⟨g, 1, none⟩ = some (.slice Ab nb cb) ∧ wz.cell? ⟨g, 2, none⟩ = some (.slice Ac nc cc) ∧ wz.cell? ⟨g, 3, none⟩ = some (.int .i64 n) from by
    rw [eR] at hs
    have hq := hs.at_box
    rw [ebx] at hq
    simp [World.cell?, hq])
  have H1 := Lib.hid H0
  have HE := Lib.hid (And.intro ev0 eg)
  have HN := Lib.hid (And.intro eb (And.intro ec (And.intro hn (show (nb ≤ 140737488355328 ∧ nc ≤ 140737488355328) ∧ lenOk o ∧ lenOk x from ⟨⟨by omega, by omega⟩, by show _ ≤ _; omega, by show _ ≤ _; omega⟩))))
  have HQ := Lib.hid (sb_len o x n)
  have HLL := Lib.hid (sb_ls o x n)
  have hnc : nc ≤ 4000 := lc
  clear ev0 eg H0 hs0 eb ec lb lc ebx hn
  clear eR C1 CP CH CD CS CG CV CO CR K0
  go_enter Try.func20, Try.ntmps20
  go_upto_region 1 with fail
  rw [← HE.out.1, ← HE.out.2]
  go_wp2_with fail
  go_at_call 22
  refine (sit_ask H1.out fun F S hR => sb_draw1 _ HC1 hR).mono ?_
  rintro e w2 ⟨AJ, cJ, rfl, hs⟩
  rw [HQ.out.1]
  have H2 := Lib.hid hs
  clear hs H1
  go_wp2_with fail
  go_at_call 22
  refine (sit_ask H2.out fun F S hR => sb_draw2 _ HC1 hR).mono ?_
  rintro e w3 ⟨AK, cK, rfl, hs⟩
  rw [HQ.out.2.1]
  have H3 := Lib.hid hs
  clear hs H2
  have qj := run_str (P := Try.prog) w3 31 5 Try.underlying31 Try.underlying5 (dst := 9) Try.underlying9 (H3.out.row (A := AJ) (c := cJ) (bs := sbJ) (by simp))
  have qk := run_str (P := Try.prog) w3 31 5 Try.underlying31 Try.underlying5 (dst := 9) Try.underlying9 (H3.out.row (A := AK) (c := cK) (bs := sbK) (by simp))
  rw [HQ.out.1] at qj
  rw [HQ.out.2.1] at qk
  have hjk := sb_jk
  go_upto_region 4 with fail
  clear qj qk hjk
  refine wp_region_par 13 21 [some 36, some 37, some 38, some 39, some 40, some 41, some 42, some 43, some 44, some 35, some 45, some 46, some 7] [4, 8, 9, 10, 12] [some (.iface 25 (.pointer (some ⟨gp, 0, none⟩))), some (.slice AJ 32 cJ), some (.iface 25 (.pointer (some ⟨gp, 0, none⟩))), some (.slice AK 32 cK), none, some (.func (.method "Shared") #[.iface 25 (.pointer (some ⟨gp, 0, none⟩))] #[]), some (.func (.method "Shared") #[.iface 25 (.pointer (some ⟨gp, 0, none⟩))] #[]), some (.iface 25 (.pointer (some ⟨gp, 0, none⟩))), none, none, none, some (.int .i64 0), none]
    (fun Lb Vb wz => (Lb 8 = false → SitT R w0 (.pointer (some ⟨gp, 0, none⟩)) ([(AK, cK, sbK), (AJ, cJ, sbJ), (Ab, cb, o), (Ac, cc, x)]) (sbL2, 2) [(4, (sbL3, 2))] [(4, sbP)] Lb Vb wz) ∧ (Lb 8 = true → ∃ A c, Vb 8 = .tuple #[.slice A 32 c, .int .i64 0] ∧ (Lb 9 = true → Vb 9 = .tuple #[.slice A 32 c, .int .i64 0]) ∧ (Lb 10 = true → Vb 10 = .slice A 32 c) ∧ (Lb 12 = true → Vb 12 = .slice A 32 c) ∧ Sit R w0 wz (.pointer (some ⟨gp, 0, none⟩)) (sbL4) 2 ((A, c, sbA) :: [(AK, cK, sbK), (AJ, cJ, sbJ), (Ab, cb, o), (Ac, cc, x)]))) (by kernel_rfl) (by kernel_rfl)
    (fun _ => ⟨fun _ => SitT.start (H3.out.next K (Below.refl _ _).drew) (by rfl) (by simp), fun h => absurd h (by decide)⟩) (fun u => by simp only [List.filterMap_cons, List.filterMap_nil, puts, List.foldl_cons, List.foldl_nil]; go_simp; exact rfl) ?_ ?_
  · simp only [List.take_succ_cons, List.take_zero]
    refine Par.soft rfl rfl (.iface 25 (.pointer (some ⟨gp, 0, none⟩))) rfl (fun u wz Lb Vb hT hh => ⟨by rfl, by go_simp⟩) ?_
    refine Par.soft rfl rfl (.slice AJ 32 cJ) rfl (fun u wz Lb Vb hT hh => ⟨by rfl, by go_simp⟩) ?_
    refine Par.soft rfl rfl (.iface 25 (.pointer (some ⟨gp, 0, none⟩))) rfl (fun u wz Lb Vb hT hh => ⟨by rfl, by go_simp⟩) ?_
    refine Par.soft rfl rfl (.slice AK 32 cK) rfl (fun u wz Lb Vb hT hh => ⟨by rfl, by go_simp⟩) ?_
    refine Par.hard rfl (fun u wz Lb Vb hT hh => ?_) ?_
    · have hT := hT.1 (hh.not_ 8 (by rfl))
      have n8 := hh.not_ 8 (by rfl)
      have d38 : u 38 = .iface 25 (.pointer (some ⟨gp, 0, none⟩)) := hh.val 2 _ rfl rfl
      have d39 : u 39 = .slice AK 32 cK := hh.val 3 _ rfl rfl
      have r39 := hT.base (A := AK) (c := cK) (bs := sbK) (by simp)
      rw [d38, d39]
      have n4 := hh.not_ 4 (by rfl)
      have hm := meth_Public gp wz
      have h0 : stOf Lb (sbL2, 2) [(4, (sbL3, 2))] = (sbL2, 2) := (stOf_stop n4)
      refine StepP.of rfl (StepC.call 23 #[.pointer (some ⟨gp, 0, none⟩), .slice AK 32 cK] rfl (by go_simp) ((sitT_ask (i := 4) hT h0 (L' := sbL3) (D' := 2) ((stOf_go lset_same).trans (stOf_nil)) (by simp) (fun F S hR => sb_pub1 (R := R) _ HCP hR r39)).mono ?_))
      rintro e w' ⟨v, rfl, hT'⟩
      exact ⟨_, rfl, fun c hc => by simp at hc, fun _ => hT', fun h => absurd ((lset_off n8 (by decide)).symm.trans h) (by decide)⟩
    refine Par.soft rfl rfl (.func (.method "Shared") #[.iface 25 (.pointer (some ⟨gp, 0, none⟩))] #[]) rfl (fun u wz Lb Vb hT hh => ⟨by rfl, by have d36 : u 36 = .iface 25 (.pointer (some ⟨gp, 0, none⟩)) := hh.val 0 _ rfl rfl; rw [d36]; have hmk := hmk19 (.method "Shared") #[.iface 25 (.pointer (some ⟨gp, 0, none⟩))] #[] wz; go_simp⟩) ?_
    refine Par.soft rfl rfl (.func (.method "Shared") #[.iface 25 (.pointer (some ⟨gp, 0, none⟩))] #[]) rfl (fun u wz Lb Vb hT hh => ⟨by rfl, by have d41 : u 41 = .func (.method "Shared") #[.iface 25 (.pointer (some ⟨gp, 0, none⟩))] #[] := hh.val 5 _ rfl rfl; rw [d41]; have hni := nila_Shared gp wz; go_simp⟩) ?_
    refine Par.soft rfl rfl (.iface 25 (.pointer (some ⟨gp, 0, none⟩))) rfl (fun u wz Lb Vb hT hh => ⟨by rfl, by have d36 : u 36 = .iface 25 (.pointer (some ⟨gp, 0, none⟩)) := hh.val 0 _ rfl rfl; rw [d36]; go_simp⟩) ?_
    refine Par.hard rfl (fun u wz Lb Vb hT hh => ?_) ?_
    · have n8 := hh.not_ 8 (by rfl)
      have hT := hT.1 n8
      have d37 : u 37 = .slice AJ 32 cJ := hh.val 1 _ rfl rfl
      have d43 : u 43 = .iface 25 (.pointer (some ⟨gp, 0, none⟩)) := hh.val 7 _ rfl rfl
      have k4 := hh.been 4 (by rfl) rfl
      obtain ⟨AP, cP, e4, hs⟩ := hT.done (L := sbL3) (D := 2) (i := 4) (bs := sbP) ((stOf_go k4).trans (stOf_nil)) (by simp) (hh.been 4 (by rfl) rfl)
      have dh : u 40 = .slice AP (sbP).length cP := (hh.hv 4 rfl).symm.trans e4
      rw [HQ.out.2.2.1] at dh
      rw [d37, d43, dh]
      have hm := meth_Shared gp wz
      refine StepP.of rfl (StepC.call 21 #[.pointer (some ⟨gp, 0, none⟩), .slice AJ 32 cJ, .slice AP 32 cP] rfl (by go_simp) ((sit_shared HCH hs (A := AJ) (c := cJ) (A2 := AP) (c2 := cP) HQ.out.1.symm HQ.out.2.2.1.symm (by simp) (by simp) HLL.out.2.2.1 (by rw [lenOk, HQ.out.1]; decide) (by rw [lenOk, HQ.out.2.2.1]; decide)).mono ?_))
      rintro e w' ⟨A', c', rfl, hs'⟩
      rw [sb_sh1.1, sb_sh1.2.1] at hs'
      rw [sb_sh1.2.1, sb_sh1.2.2, HQ.out.2.2.2.1]
      exact ⟨_, rfl, fun c hc => by simp at hc, fun h => absurd h (by rw [lset_same]; decide), fun _ => ⟨A', c', if_pos rfl, fun h => absurd ((lset_off (hh.not_ 9 (by rfl)) (by decide)).symm.trans h) (by decide), fun h => absurd ((lset_off (hh.not_ 10 (by rfl)) (by decide)).symm.trans h) (by decide), fun h => absurd ((lset_off (hh.not_ 12 (by rfl)) (by decide)).symm.trans h) (by decide), hs'.sub (l' := (A', c', sbA) :: [(AK, cK, sbK), (AJ, cJ, sbJ), (Ab, cb, o), (Ac, cc, x)]) (fun y hy => by
          rcases List.mem_cons.1 hy with rfl | hy
          · simp
          · exact List.mem_cons_of_mem _ (List.mem_cons_of_mem _ hy))⟩⟩
    refine Par.hard rfl (fun u wz Lb Vb hT hh => ?_) ?_
    · obtain ⟨A, c, t8, t9, t10, t12, hs⟩ := hT.2 (hh.been 8 (by rfl) rfl)
      have d : u 44 = .tuple #[.slice A 32 c, .int .i64 0] := (hh.hv 8 rfl).symm.trans t8
      rw [d]
      refine StepP.of rfl (StepC.run (.tuple #[.slice A 32 c, .int .i64 0]) wz rfl (by go_simp) ⟨fun c hc => by simp at hc, ⟨fun h => absurd ((lset_off (hh.been 8 (by rfl) rfl) (by decide)).symm.trans h) (by decide), fun _ => ⟨A, c, (if_neg (by decide)).trans t8, fun _ => if_pos rfl, fun h => (if_neg (by decide)).trans (t10 ((if_neg (by decide)).symm.trans h)), fun h => (if_neg (by decide)).trans (t12 ((if_neg (by decide)).symm.trans h)), hs⟩⟩⟩)
    refine Par.hard rfl (fun u wz Lb Vb hT hh => ?_) ?_
    · obtain ⟨A, c, t8, t9, t10, t12, hs⟩ := hT.2 (hh.been 8 (by rfl) rfl)
      have d : u 35 = .tuple #[.slice A 32 c, .int .i64 0] := (hh.hv 9 rfl).symm.trans (t9 (hh.been 9 (by rfl) rfl))
      rw [d]
      refine StepP.of rfl (StepC.run (.slice A 32 c) wz rfl (by go_simp) ⟨fun c hc => by simp at hc, ⟨fun h => absurd ((lset_off (hh.been 8 (by rfl) rfl) (by decide)).symm.trans h) (by decide), fun _ => ⟨A, c, (if_neg (by decide)).trans t8, fun h => (if_neg (by decide)).trans (t9 ((if_neg (by decide)).symm.trans h)), fun _ => if_pos rfl, fun h => (if_neg (by decide)).trans (t12 ((if_neg (by decide)).symm.trans h)), hs⟩⟩⟩)
    refine Par.soft rfl rfl (.int .i64 0) rfl (fun u wz Lb Vb hT hh => ⟨rfl, by obtain ⟨A, c, t8, t9, t10, t12, hs⟩ := hT.2 (hh.been 8 (by rfl) rfl); have d : u 35 = .tuple #[.slice A 32 c, .int .i64 0] := (hh.hv 9 rfl).symm.trans (t9 (hh.been 9 (by rfl) rfl)); rw [d]; go_simp⟩) ?_
    refine Par.hard rfl (fun u wz Lb Vb hT hh => ?_) ?_
    · obtain ⟨A, c, t8, t9, t10, t12, hs⟩ := hT.2 (hh.been 8 (by rfl) rfl)
      have d : u 45 = .slice A 32 c := (hh.hv 10 rfl).symm.trans (t10 (hh.been 10 (by rfl) rfl))
      rw [d]
      refine StepP.of rfl (StepC.run (.slice A 32 c) wz rfl (by go_simp) ⟨fun c hc => by simp at hc, ⟨fun h => absurd ((lset_off (hh.been 8 (by rfl) rfl) (by decide)).symm.trans h) (by decide), fun _ => ⟨A, c, (if_neg (by decide)).trans t8, fun h => (if_neg (by decide)).trans (t9 ((if_neg (by decide)).symm.trans h)), fun h => (if_neg (by decide)).trans (t10 ((if_neg (by decide)).symm.trans h)), fun _ => if_pos rfl, hs⟩⟩⟩)
    exact Par.nil
  · intro u wz hD hT
    obtain ⟨Lb, Vb, hT, hLV⟩ := hT
    obtain ⟨k8, _⟩ := hLV 8 (by decide) rfl
    obtain ⟨k12, v12⟩ := hLV 12 (by decide) rfl
    obtain ⟨AS, cS, _, _, _, t12, hs⟩ := hT.2 k8
    have da : u 7 = .slice AS 32 cS := v12.symm.trans (t12 k12)
    have db : u 46 = .int .i64 0 := hD 11 _ (by decide) rfl
    have H4 := Lib.hid hs
    rw [da, db]
    clear hD hT hLV k8 k12 v12 t12 hs da db H3
    go_upto_region 5 with fail
    refine wp_region_par 13 21 [some 48, some 49, some 50, some 51, some 52, some 53, some 54, some 55, some 56, some 47, some 57, some 58, some 9] [4, 8, 9, 10, 12] [some (.iface 25 (.pointer (some ⟨gp, 0, none⟩))), some (.slice AK 32 cK), some (.iface 25 (.pointer (some ⟨gp, 0, none⟩))), some (.slice AJ 32 cJ), none, some (.func (.method "Shared") #[.iface 25 (.pointer (some ⟨gp, 0, none⟩))] #[]), some (.func (.method "Shared") #[.iface 25 (.pointer (some ⟨gp, 0, none⟩))] #[]), some (.iface 25 (.pointer (some ⟨gp, 0, none⟩))), none, none, none, some (.int .i64 0), none]
      (fun Lb Vb wz => (Lb 8 = false → SitT R w0 (.pointer (some ⟨gp, 0, none⟩)) ([(AS, cS, sbA), (AK, cK, sbK), (AJ, cJ, sbJ), (Ab, cb, o), (Ac, cc, x)]) (sbL4, 2) [(4, (sbL5, 2))] [(4, sbQ)] Lb Vb wz) ∧ (Lb 8 = true → ∃ A c, Vb 8 = .tuple #[.slice A 32 c, .int .i64 0] ∧ (Lb 9 = true → Vb 9 = .tuple #[.slice A 32 c, .int .i64 0]) ∧ (Lb 10 = true → Vb 10 = .slice A 32 c) ∧ (Lb 12 = true → Vb 12 = .slice A 32 c) ∧ Sit R w0 wz (.pointer (some ⟨gp, 0, none⟩)) (sbL5) 2 ((A, c, sbA) :: [(AS, cS, sbA), (AK, cK, sbK), (AJ, cJ, sbJ), (Ab, cb, o), (Ac, cc, x)]))) (by kernel_rfl) (by kernel_rfl)
      (fun _ => ⟨fun _ => SitT.start (H4.out.next K (Below.refl _ _).drew) (by rfl) (by simp), fun h => absurd h (by decide)⟩) (fun u => by simp only [List.filterMap_cons, List.filterMap_nil, puts, List.foldl_cons, List.foldl_nil]; go_simp; exact rfl) ?_ ?_
    · simp only [List.take_succ_cons, List.take_zero]
      refine Par.soft rfl rfl (.iface 25 (.pointer (some ⟨gp, 0, none⟩))) rfl (fun u wz Lb Vb hT hh => ⟨by rfl, by go_simp⟩) ?_
      refine Par.soft rfl rfl (.slice AK 32 cK) rfl (fun u wz Lb Vb hT hh => ⟨by rfl, by go_simp⟩) ?_
      refine Par.soft rfl rfl (.iface 25 (.pointer (some ⟨gp, 0, none⟩))) rfl (fun u wz Lb Vb hT hh => ⟨by rfl, by go_simp⟩) ?_
      refine Par.soft rfl rfl (.slice AJ 32 cJ) rfl (fun u wz Lb Vb hT hh => ⟨by rfl, by go_simp⟩) ?_
      refine Par.hard rfl (fun u wz Lb Vb hT hh => ?_) ?_
      · have hT := hT.1 (hh.not_ 8 (by rfl))
        have n8 := hh.not_ 8 (by rfl)
        have d50 : u 50 = .iface 25 (.pointer (some ⟨gp, 0, none⟩)) := hh.val 2 _ rfl rfl
        have d51 : u 51 = .slice AJ 32 cJ := hh.val 3 _ rfl rfl
        have r51 := hT.base (A := AJ) (c := cJ) (bs := sbJ) (by simp)
        rw [d50, d51]
        have n4 := hh.not_ 4 (by rfl)
        have hm := meth_Public gp wz
        have h0 : stOf Lb (sbL4, 2) [(4, (sbL5, 2))] = (sbL4, 2) := (stOf_stop n4)
        refine StepP.of rfl (StepC.call 23 #[.pointer (some ⟨gp, 0, none⟩), .slice AJ 32 cJ] rfl (by go_simp) ((sitT_ask (i := 4) hT h0 (L' := sbL5) (D' := 2) ((stOf_go lset_same).trans (stOf_nil)) (by simp) (fun F S hR => sb_pub2 (R := R) _ HCP hR r51)).mono ?_))
        rintro e w' ⟨v, rfl, hT'⟩
        exact ⟨_, rfl, fun c hc => by simp at hc, fun _ => hT', fun h => absurd ((lset_off n8 (by decide)).symm.trans h) (by decide)⟩
      refine Par.soft rfl rfl (.func (.method "Shared") #[.iface 25 (.pointer (some ⟨gp, 0, none⟩))] #[]) rfl (fun u wz Lb Vb hT hh => ⟨by rfl, by have d48 : u 48 = .iface 25 (.pointer (some ⟨gp, 0, none⟩)) := hh.val 0 _ rfl rfl; rw [d48]; have hmk := hmk19 (.method "Shared") #[.iface 25 (.pointer (some ⟨gp, 0, none⟩))] #[] wz; go_simp⟩) ?_
      refine Par.soft rfl rfl (.func (.method "Shared") #[.iface 25 (.pointer (some ⟨gp, 0, none⟩))] #[]) rfl (fun u wz Lb Vb hT hh => ⟨by rfl, by have d53 : u 53 = .func (.method "Shared") #[.iface 25 (.pointer (some ⟨gp, 0, none⟩))] #[] := hh.val 5 _ rfl rfl; rw [d53]; have hni := nila_Shared gp wz; go_simp⟩) ?_
      refine Par.soft rfl rfl (.iface 25 (.pointer (some ⟨gp, 0, none⟩))) rfl (fun u wz Lb Vb hT hh => ⟨by rfl, by have d48 : u 48 = .iface 25 (.pointer (some ⟨gp, 0, none⟩)) := hh.val 0 _ rfl rfl; rw [d48]; go_simp⟩) ?_
      refine Par.hard rfl (fun u wz Lb Vb hT hh => ?_) ?_
      · have n8 := hh.not_ 8 (by rfl)
        have hT := hT.1 n8
        have d49 : u 49 = .slice AK 32 cK := hh.val 1 _ rfl rfl
        have d55 : u 55 = .iface 25 (.pointer (some ⟨gp, 0, none⟩)) := hh.val 7 _ rfl rfl
        have k4 := hh.been 4 (by rfl) rfl
        obtain ⟨AQ, cQ, e4, hs⟩ := hT.done (L := sbL5) (D := 2) (i := 4) (bs := sbQ) ((stOf_go k4).trans (stOf_nil)) (by simp) (hh.been 4 (by rfl) rfl)
        have dh : u 52 = .slice AQ (sbQ).length cQ := (hh.hv 4 rfl).symm.trans e4
        rw [HQ.out.2.2.2.2.1] at dh
        rw [d49, d55, dh]
        have hm := meth_Shared gp wz
        refine StepP.of rfl (StepC.call 21 #[.pointer (some ⟨gp, 0, none⟩), .slice AK 32 cK, .slice AQ 32 cQ] rfl (by go_simp) ((sit_shared HCH hs (A := AK) (c := cK) (A2 := AQ) (c2 := cQ) HQ.out.2.1.symm HQ.out.2.2.2.2.1.symm (by simp) (by simp) HLL.out.2.2.2.2.1 (by rw [lenOk, HQ.out.2.1]; decide) (by rw [lenOk, HQ.out.2.2.2.2.1]; decide)).mono ?_))
        rintro e w' ⟨A', c', rfl, hs'⟩
        rw [sb_sh2.1, sb_sh2.2.1] at hs'
        rw [sb_sh2.2.1, sb_sh2.2.2, HQ.out.2.2.2.1]
        exact ⟨_, rfl, fun c hc => by simp at hc, fun h => absurd h (by rw [lset_same]; decide), fun _ => ⟨A', c', if_pos rfl, fun h => absurd ((lset_off (hh.not_ 9 (by rfl)) (by decide)).symm.trans h) (by decide), fun h => absurd ((lset_off (hh.not_ 10 (by rfl)) (by decide)).symm.trans h) (by decide), fun h => absurd ((lset_off (hh.not_ 12 (by rfl)) (by decide)).symm.trans h) (by decide), hs'.sub (l' := (A', c', sbA) :: [(AS, cS, sbA), (AK, cK, sbK), (AJ, cJ, sbJ), (Ab, cb, o), (Ac, cc, x)]) (fun y hy => by
            rcases List.mem_cons.1 hy with rfl | hy
            · simp
            · exact List.mem_cons_of_mem _ (List.mem_cons_of_mem _ hy))⟩⟩
      refine Par.hard rfl (fun u wz Lb Vb hT hh => ?_) ?_
      · obtain ⟨A, c, t8, t9, t10, t12, hs⟩ := hT.2 (hh.been 8 (by rfl) rfl)
        have d : u 56 = .tuple #[.slice A 32 c, .int .i64 0] := (hh.hv 8 rfl).symm.trans t8
        rw [d]
        refine StepP.of rfl (StepC.run (.tuple #[.slice A 32 c, .int .i64 0]) wz rfl (by go_simp) ⟨fun c hc => by simp at hc, ⟨fun h => absurd ((lset_off (hh.been 8 (by rfl) rfl) (by decide)).symm.trans h) (by decide), fun _ => ⟨A, c, (if_neg (by decide)).trans t8, fun _ => if_pos rfl, fun h => (if_neg (by decide)).trans (t10 ((if_neg (by decide)).symm.trans h)), fun h => (if_neg (by decide)).trans (t12 ((if_neg (by decide)).symm.trans h)), hs⟩⟩⟩)
      refine Par.hard rfl (fun u wz Lb Vb hT hh => ?_) ?_
      · obtain ⟨A, c, t8, t9, t10, t12, hs⟩ := hT.2 (hh.been 8 (by rfl) rfl)
        have d : u 47 = .tuple #[.slice A 32 c, .int .i64 0] := (hh.hv 9 rfl).symm.trans (t9 (hh.been 9 (by rfl) rfl))
        rw [d]
        refine StepP.of rfl (StepC.run (.slice A 32 c) wz rfl (by go_simp) ⟨fun c hc => by simp at hc, ⟨fun h => absurd ((lset_off (hh.been 8 (by rfl) rfl) (by decide)).symm.trans h) (by decide), fun _ => ⟨A, c, (if_neg (by decide)).trans t8, fun h => (if_neg (by decide)).trans (t9 ((if_neg (by decide)).symm.trans h)), fun _ => if_pos rfl, fun h => (if_neg (by decide)).trans (t12 ((if_neg (by decide)).symm.trans h)), hs⟩⟩⟩)
      refine Par.soft rfl rfl (.int .i64 0) rfl (fun u wz Lb Vb hT hh => ⟨rfl, by obtain ⟨A, c, t8, t9, t10, t12, hs⟩ := hT.2 (hh.been 8 (by rfl) rfl); have d : u 47 = .tuple #[.slice A 32 c, .int .i64 0] := (hh.hv 9 rfl).symm.trans (t9 (hh.been 9 (by rfl) rfl)); rw [d]; go_simp⟩) ?_
      refine Par.hard rfl (fun u wz Lb Vb hT hh => ?_) ?_
      · obtain ⟨A, c, t8, t9, t10, t12, hs⟩ := hT.2 (hh.been 8 (by rfl) rfl)
        have d : u 57 = .slice A 32 c := (hh.hv 10 rfl).symm.trans (t10 (hh.been 10 (by rfl) rfl))
        rw [d]
        refine StepP.of rfl (StepC.run (.slice A 32 c) wz rfl (by go_simp) ⟨fun c hc => by simp at hc, ⟨fun h => absurd ((lset_off (hh.been 8 (by rfl) rfl) (by decide)).symm.trans h) (by decide), fun _ => ⟨A, c, (if_neg (by decide)).trans t8, fun h => (if_neg (by decide)).trans (t9 ((if_neg (by decide)).symm.trans h)), fun h => (if_neg (by decide)).trans (t10 ((if_neg (by decide)).symm.trans h)), fun _ => if_pos rfl, hs⟩⟩⟩)
      exact Par.nil
    · intro u wz hD hT
      obtain ⟨Lb, Vb, hT, hLV⟩ := hT
      obtain ⟨k8, _⟩ := hLV 8 (by decide) rfl
      obtain ⟨k12, v12⟩ := hLV 12 (by decide) rfl
      obtain ⟨AT, cT, _, _, _, t12, hs⟩ := hT.2 k8
      have da : u 9 = .slice AT 32 cT := v12.symm.trans (t12 k12)
      have db : u 58 = .int .i64 0 := hD 11 _ (by decide) rfl
      have H5 := Lib.hid hs
      rw [da, db]
      clear hD hT hLV k8 k12 v12 t12 hs da db H4
      have qa := run_str (P := Try.prog) _ 31 5 Try.underlying31 Try.underlying5 (dst := 9) Try.underlying9 (H5.out.row (A := AS) (c := cS) (bs := sbA) (by simp))
      have qb := run_str (P := Try.prog) _ 31 5 Try.underlying31 Try.underlying5 (dst := 9) Try.underlying9 (H5.out.row (A := AT) (c := cT) (bs := sbA) (by simp))
      rw [HQ.out.2.2.2.1] at qa qb
      go_upto_region 8 with fail
      clear qa qb
      refine wp_region_par 8 16 [some 77, some 78, some 79, some 80, some 81, some 82, some 83, some 84] [4] [some (.iface 25 (.pointer (some ⟨gp, 0, none⟩))), some (.slice AS 32 cS), some (.pointer (some ⟨g, 1, none⟩)), some (.slice Ab nb cb), none, some (.func (.method "Derive") #[.iface 25 (.pointer (some ⟨gp, 0, none⟩))] #[]), some (.func (.method "Derive") #[.iface 25 (.pointer (some ⟨gp, 0, none⟩))] #[]), some (.iface 25 (.pointer (some ⟨gp, 0, none⟩)))]
        (SitT R w0 (.pointer (some ⟨gp, 0, none⟩)) ([(AT, cT, sbA), (AS, cS, sbA), (AK, cK, sbK), (AJ, cJ, sbJ), (Ab, cb, o), (Ac, cc, x)]) (sbL5, 2) [] [(4, o)]) (by kernel_rfl) (by kernel_rfl)
        (fun _ => SitT.start (H5.out.next K (Below.refl _ _).drew) (by rfl) (by simp)) (fun u => by simp only [List.filterMap_cons, List.filterMap_nil, puts, List.foldl_cons, List.foldl_nil]; go_simp; exact rfl) ?_ ?_
      · simp only [List.take_succ_cons, List.take_zero]
        refine Par.soft rfl rfl (.iface 25 (.pointer (some ⟨gp, 0, none⟩))) rfl (fun u wz Lb Vb hT hh => ⟨by rfl, by go_simp⟩) ?_
        refine Par.soft rfl rfl (.slice AS 32 cS) rfl (fun u wz Lb Vb hT hh => ⟨by rfl, by go_simp⟩) ?_
        refine Par.soft rfl rfl (.pointer (some ⟨g, 1, none⟩)) rfl (fun u wz Lb Vb hT hh => ⟨by rfl, by go_simp⟩) ?_
        refine Par.soft rfl rfl (.slice Ab nb cb) rfl (fun u wz Lb Vb hT hh => ⟨by rfl, by have d79 : u 79 = .pointer (some ⟨g, 1, none⟩) := hh.val 2 _ rfl rfl; rw [d79]; obtain ⟨l9, hs9, _⟩ := id hT; obtain ⟨x1, x2, x3⟩ := HBx.out wz _ _ _ _ hs9; go_simp⟩) ?_
        refine Par.hard rfl (fun u wz Lb Vb hT hh => ?_) ?_
        · have d80 : u 80 = .slice Ab nb cb := hh.val 3 _ rfl rfl
          have r80 := hT.base (A := Ab) (c := cb) (bs := o) (by simp)
          rw [d80]
          refine StepP.of rfl (StepC.call 14 #[.slice Ab nb cb] rfl (by go_simp) ((own_use HN.out.1 wz r80 HN.out.2.2.2.1.1).mono ?_))
          rintro e w' ⟨A, c, rfl, ho, hb⟩
          exact ⟨_, rfl, fun c hc => by simp at hc, hT.own K (stOf_off (by simp)) (by simp) ho hb⟩
        refine Par.soft rfl rfl (.func (.method "Derive") #[.iface 25 (.pointer (some ⟨gp, 0, none⟩))] #[]) rfl (fun u wz Lb Vb hT hh => ⟨by rfl, by have d77 : u 77 = .iface 25 (.pointer (some ⟨gp, 0, none⟩)) := hh.val 0 _ rfl rfl; rw [d77]; have hmk := hmk19 (.method "Derive") #[.iface 25 (.pointer (some ⟨gp, 0, none⟩))] #[] wz; go_simp⟩) ?_
        refine Par.soft rfl rfl (.func (.method "Derive") #[.iface 25 (.pointer (some ⟨gp, 0, none⟩))] #[]) rfl (fun u wz Lb Vb hT hh => ⟨by rfl, by have d82 : u 82 = .func (.method "Derive") #[.iface 25 (.pointer (some ⟨gp, 0, none⟩))] #[] := hh.val 5 _ rfl rfl; rw [d82]; have hni := nila_Derive gp wz; go_simp⟩) ?_
        refine Par.soft rfl rfl (.iface 25 (.pointer (some ⟨gp, 0, none⟩))) rfl (fun u wz Lb Vb hT hh => ⟨by rfl, by have d77 : u 77 = .iface 25 (.pointer (some ⟨gp, 0, none⟩)) := hh.val 0 _ rfl rfl; rw [d77]; go_simp⟩) ?_
        exact Par.nil
      · intro u wz hD hT
        obtain ⟨Lb, Vb, hT, hLV⟩ := hT
        obtain ⟨l9, hs, hin, hr⟩ := hT
        rw [show stOf Lb (sbL5, 2) [] = (sbL5, 2) from stOf_nil] at hs
        obtain ⟨m4, v4⟩ := hLV 4 (by decide) rfl
        obtain ⟨Ao1, co1, e4, i4⟩ := hr (4, o) (by simp) m4
        have d81 : u 81 = .slice Ao1 (o).length co1 := v4.symm.trans e4
        have hs2 := hs.sub (l' := [(Ao1, co1, o), (AT, cT, sbA), (AS, cS, sbA), (AK, cK, sbK), (AJ, cJ, sbJ), (Ab, cb, o), (Ac, cc, x)]) (fun y hy => by
      simp only [List.mem_cons, List.not_mem_nil, or_false] at hy
      rcases hy with rfl | rfl | rfl | rfl | rfl | rfl | rfl
      · exact i4
      · exact hin _ (by simp)
      · exact hin _ (by simp)
      · exact hin _ (by simp)
      · exact hin _ (by simp)
      · exact hin _ (by simp)
      · exact hin _ (by simp))
        rw [← HN.out.1] at d81
        have d78 : u 78 = .slice AS 32 cS := hD 1 _ (by decide) rfl
        have d84 : u 84 = .iface 25 (.pointer (some ⟨gp, 0, none⟩)) := hD 7 _ (by decide) rfl
        have H6 := Lib.hid hs2
        rw [d78, d84, d81]
        clear hD hLV hs hin hr hs2 H5 d78 d84 d81 m4 v4 e4 i4
        go_wp2_with fail
        go_at_call 24
        refine (sit_derive HCD H6.out (A := AS) (c := cS) (A2 := Ao1) (c2 := co1) HQ.out.2.2.2.1.symm HN.out.1 (by simp) (by simp) HLL.out.2.2.2.2.1 (by rw [lenOk, HQ.out.2.2.2.1]; decide) HN.out.2.2.2.2.1).mono ?_
        rintro e w17 ⟨AY, cY, rfl, hs⟩
        rw [(sb_der o).1, (sb_der o).2] at hs
        rw [(sb_der o).2, HQ.out.2.2.2.2.2.1]
        have H7 := Lib.hid hs
        clear hs H6
        go_upto_region 9 with fail
        refine wp_region_par 13 21 [some 86, some 87, some 88, some 89, some 90, some 91, some 92, some 93, some 94, some 95, some 96, some 97, some 98] [6, 9] [some (.iface 25 (.pointer (some ⟨gp, 0, none⟩))), some (.slice AY 32 cY), some (.pointer (some ⟨g, 3, none⟩)), some (.int .i64 n), some (.pointer (some ⟨g, 1, none⟩)), some (.slice Ab nb cb), none, some (.pointer (some ⟨g, 2, none⟩)), some (.slice Ac nc cc), none, some (.func (.method "Seal") #[.iface 25 (.pointer (some ⟨gp, 0, none⟩))] #[]), some (.func (.method "Seal") #[.iface 25 (.pointer (some ⟨gp, 0, none⟩))] #[]), some (.iface 25 (.pointer (some ⟨gp, 0, none⟩)))]
          (SitT R w0 (.pointer (some ⟨gp, 0, none⟩)) ([(AY, cY, sbY o), (Ao1, co1, o), (AT, cT, sbA), (AS, cS, sbA), (AK, cK, sbK), (AJ, cJ, sbJ), (Ab, cb, o), (Ac, cc, x)]) (sbL6 o, 2) [] [(6, o), (9, x)]) (by kernel_rfl) (by kernel_rfl)
          (fun _ => SitT.start (H7.out.next K (Below.refl _ _).drew) (by rfl) (by simp)) (fun u => by simp only [List.filterMap_cons, List.filterMap_nil, puts, List.foldl_cons, List.foldl_nil]; go_simp; exact rfl) ?_ ?_
        · simp only [List.take_succ_cons, List.take_zero]
          refine Par.soft rfl rfl (.iface 25 (.pointer (some ⟨gp, 0, none⟩))) rfl (fun u wz Lb Vb hT hh => ⟨by rfl, by go_simp⟩) ?_
          refine Par.soft rfl rfl (.slice AY 32 cY) rfl (fun u wz Lb Vb hT hh => ⟨by rfl, by go_simp⟩) ?_
          refine Par.soft rfl rfl (.pointer (some ⟨g, 3, none⟩)) rfl (fun u wz Lb Vb hT hh => ⟨by rfl, by go_simp⟩) ?_
          refine Par.soft rfl rfl (.int .i64 n) rfl (fun u wz Lb Vb hT hh => ⟨by rfl, by have d88 : u 88 = .pointer (some ⟨g, 3, none⟩) := hh.val 2 _ rfl rfl; rw [d88]; obtain ⟨l9, hs9, _⟩ := id hT; obtain ⟨x1, x2, x3⟩ := HBx.out wz _ _ _ _ hs9; go_simp⟩) ?_
          refine Par.soft rfl rfl (.pointer (some ⟨g, 1, none⟩)) rfl (fun u wz Lb Vb hT hh => ⟨by rfl, by go_simp⟩) ?_
          refine Par.soft rfl rfl (.slice Ab nb cb) rfl (fun u wz Lb Vb hT hh => ⟨by rfl, by have d90 : u 90 = .pointer (some ⟨g, 1, none⟩) := hh.val 4 _ rfl rfl; rw [d90]; obtain ⟨l9, hs9, _⟩ := id hT; obtain ⟨x1, x2, x3⟩ := HBx.out wz _ _ _ _ hs9; go_simp⟩) ?_
          refine Par.hard rfl (fun u wz Lb Vb hT hh => ?_) ?_
          · have d91 : u 91 = .slice Ab nb cb := hh.val 5 _ rfl rfl
            have r91 := hT.base (A := Ab) (c := cb) (bs := o) (by simp)
            rw [d91]
            refine StepP.of rfl (StepC.call 14 #[.slice Ab nb cb] rfl (by go_simp) ((own_use HN.out.1 wz r91 HN.out.2.2.2.1.1).mono ?_))
            rintro e w' ⟨A, c, rfl, ho, hb⟩
            exact ⟨_, rfl, fun c hc => by simp at hc, hT.own K (stOf_off (by simp)) (by simp) ho hb⟩
          refine Par.soft rfl rfl (.pointer (some ⟨g, 2, none⟩)) rfl (fun u wz Lb Vb hT hh => ⟨by rfl, by go_simp⟩) ?_
          refine Par.soft rfl rfl (.slice Ac nc cc) rfl (fun u wz Lb Vb hT hh => ⟨by rfl, by have d93 : u 93 = .pointer (some ⟨g, 2, none⟩) := hh.val 7 _ rfl rfl; rw [d93]; obtain ⟨l9, hs9, _⟩ := id hT; obtain ⟨x1, x2, x3⟩ := HBx.out wz _ _ _ _ hs9; go_simp⟩) ?_
          refine Par.hard rfl (fun u wz Lb Vb hT hh => ?_) ?_
          · have d94 : u 94 = .slice Ac nc cc := hh.val 8 _ rfl rfl
            have r94 := hT.base (A := Ac) (c := cc) (bs := x) (by simp)
            rw [d94]
            refine StepP.of rfl (StepC.call 14 #[.slice Ac nc cc] rfl (by go_simp) ((own_use HN.out.2.1 wz r94 HN.out.2.2.2.1.2).mono ?_))
            rintro e w' ⟨A, c, rfl, ho, hb⟩
            exact ⟨_, rfl, fun c hc => by simp at hc, hT.own K (stOf_off (by simp)) (by simp) ho hb⟩
          refine Par.soft rfl rfl (.func (.method "Seal") #[.iface 25 (.pointer (some ⟨gp, 0, none⟩))] #[]) rfl (fun u wz Lb Vb hT hh => ⟨by rfl, by have d86 : u 86 = .iface 25 (.pointer (some ⟨gp, 0, none⟩)) := hh.val 0 _ rfl rfl; rw [d86]; have hmk := hmk19 (.method "Seal") #[.iface 25 (.pointer (some ⟨gp, 0, none⟩))] #[] wz; go_simp⟩) ?_
          refine Par.soft rfl rfl (.func (.method "Seal") #[.iface 25 (.pointer (some ⟨gp, 0, none⟩))] #[]) rfl (fun u wz Lb Vb hT hh => ⟨by rfl, by have d96 : u 96 = .func (.method "Seal") #[.iface 25 (.pointer (some ⟨gp, 0, none⟩))] #[] := hh.val 10 _ rfl rfl; rw [d96]; have hni := nila_Seal gp wz; go_simp⟩) ?_
          refine Par.soft rfl rfl (.iface 25 (.pointer (some ⟨gp, 0, none⟩))) rfl (fun u wz Lb Vb hT hh => ⟨by rfl, by have d86 : u 86 = .iface 25 (.pointer (some ⟨gp, 0, none⟩)) := hh.val 0 _ rfl rfl; rw [d86]; go_simp⟩) ?_
          exact Par.nil
        · intro u wz hD hT
          obtain ⟨Lb, Vb, hT, hLV⟩ := hT
          obtain ⟨l9, hs, hin, hr⟩ := hT
          rw [show stOf Lb (sbL6 o, 2) [] = (sbL6 o, 2) from stOf_nil] at hs
          obtain ⟨m6, v6⟩ := hLV 6 (by decide) rfl
          obtain ⟨Ao2, co2, e6, i6⟩ := hr (6, o) (by simp) m6
          have d92 : u 92 = .slice Ao2 (o).length co2 := v6.symm.trans e6
          obtain ⟨m9, v9⟩ := hLV 9 (by decide) rfl
          obtain ⟨Ax2, cx2, e9, i9⟩ := hr (9, x) (by simp) m9
          have d95 : u 95 = .slice Ax2 (x).length cx2 := v9.symm.trans e9
          have hs2 := hs.sub (l' := [(Ao2, co2, o), (Ax2, cx2, x), (AY, cY, sbY o), (Ao1, co1, o), (AT, cT, sbA), (AS, cS, sbA), (AK, cK, sbK), (AJ, cJ, sbJ), (Ab, cb, o), (Ac, cc, x)]) (fun y hy => by
      simp only [List.mem_cons, List.not_mem_nil, or_false] at hy
      rcases hy with rfl | rfl | rfl | rfl | rfl | rfl | rfl | rfl | rfl | rfl
      · exact i6
      · exact i9
      · exact hin _ (by simp)
      · exact hin _ (by simp)
      · exact hin _ (by simp)
      · exact hin _ (by simp)
      · exact hin _ (by simp)
      · exact hin _ (by simp)
      · exact hin _ (by simp)
      · exact hin _ (by simp))
          rw [← HN.out.1] at d92
          rw [← HN.out.2.1] at d95
          have d87 : u 87 = .slice AY 32 cY := hD 1 _ (by decide) rfl
          have d89 : u 89 = .int .i64 n := hD 3 _ (by decide) rfl
          have d98 : u 98 = .iface 25 (.pointer (some ⟨gp, 0, none⟩)) := hD 12 _ (by decide) rfl
          have H8 := Lib.hid hs2
          rw [d87, d89, d98, d92, d95]
          clear hD hLV hs hin hr hs2 H7 d87 d89 d98 d92 d95 m6 v6 e6 i6 m9 v9 e9 i9
          by_cases hneg : n < 0
          case pos =>
            go_wp2_with fail
            go_at_call 15
            refine (sit_seal HCS H8.out (A := AY) (c := cY) (b := sbY o) (o := o) (x := x) n HQ.out.2.2.2.2.2.1.symm HN.out.1 HN.out.2.1 (by simp) (H8.out.row (A := Ao2) (c := co2) (by simp)) (H8.out.row (A := Ax2) (c := cx2) (by simp)) HLL.out.2.2.2.2.2.1 (by rw [lenOk, HQ.out.2.2.2.2.2.1]; decide) HN.out.2.2.2.2.1 HN.out.2.2.2.2.2 HN.out.2.2.1).mono ?_
            rintro e w19 ⟨AX, cX, rfl, hs⟩
            rw [(sb_sealbad hneg).1, (sb_sealbad hneg).2] at hs
            rw [(sb_sealbad hneg).2]
            have H9 := Lib.hid hs
            clear hs H8
            obtain ⟨x1, x2, x3⟩ := HBx.out _ _ _ _ _ H9.out
            have hlt : decide (n < 0) = true := decide_eq_true hneg
            go_wp2_with fail
            go_ret
            exact ⟨rfl, H9.out.below⟩
          have hge : 0 ≤ n := by omega
          go_wp2_with fail
          go_at_call 15
          refine (sit_seal HCS H8.out (A := AY) (c := cY) (b := sbY o) (o := o) (x := x) n HQ.out.2.2.2.2.2.1.symm HN.out.1 HN.out.2.1 (by simp) (H8.out.row (A := Ao2) (c := co2) (by simp)) (H8.out.row (A := Ax2) (c := cx2) (by simp)) HLL.out.2.2.2.2.2.1 (by rw [lenOk, HQ.out.2.2.2.2.2.1]; decide) HN.out.2.2.2.2.1 HN.out.2.2.2.2.2 HN.out.2.2.1).mono ?_
          rintro e w19 ⟨AX, cX, rfl, hs⟩
          rw [(sb_seal hge).1, (sb_seal hge).2] at hs
          rw [(sb_seal hge).2, HQ.out.2.2.2.2.2.2.1, ← HN.out.2.1]
          have H9 := Lib.hid hs
          clear hs H8
          obtain ⟨x1, x2, x3⟩ := HBx.out _ _ _ _ _ H9.out
          have HGE := Lib.hid hge
          have hlt : decide (n < 0) = false := decide_eq_false (by omega)
          go_upto_region 12 with fail
          clear x1 x2 x3 hlt hneg hge
          refine wp_region_par 16 24 [some 107, some 108, some 109, some 110, some 111, some 112, some 113, some 114, some 115, some 116, some 117, some 118, some 106, some 119, some 120, some 13] [6, 11, 12, 13, 15] [some (.iface 25 (.pointer (some ⟨gp, 0, none⟩))), some (.slice AY 32 cY), some (.pointer (some ⟨g, 3, none⟩)), some (.int .i64 n), some (.pointer (some ⟨g, 1, none⟩)), some (.slice Ab nb cb), none, some (.slice AX (nc + 16) cX), some (.func (.method "Open") #[.iface 25 (.pointer (some ⟨gp, 0, none⟩))] #[]), some (.func (.method "Open") #[.iface 25 (.pointer (some ⟨gp, 0, none⟩))] #[]), some (.iface 25 (.pointer (some ⟨gp, 0, none⟩))), none, none, none, some (.int .i64 0), none]
            (fun Lb Vb wz => (Lb 11 = false → SitT R w0 (.pointer (some ⟨gp, 0, none⟩)) ([(AX, cX, sbX o x n), (Ao2, co2, o), (Ax2, cx2, x), (AY, cY, sbY o), (Ao1, co1, o), (AT, cT, sbA), (AS, cS, sbA), (AK, cK, sbK), (AJ, cJ, sbJ), (Ab, cb, o), (Ac, cc, x)]) (sbL7 o x n, 2) [] [(6, o)] Lb Vb wz) ∧ (Lb 11 = true → ∃ A c, Vb 11 = .tuple #[.slice A nc c, .int .i64 0] ∧ (Lb 12 = true → Vb 12 = .tuple #[.slice A nc c, .int .i64 0]) ∧ (Lb 13 = true → Vb 13 = .slice A nc c) ∧ (Lb 15 = true → Vb 15 = .slice A nc c) ∧ Sit R w0 wz (.pointer (some ⟨gp, 0, none⟩)) (sbL7 o x n) 2 ((A, c, x) :: [(AX, cX, sbX o x n), (Ao2, co2, o), (Ax2, cx2, x), (AY, cY, sbY o), (Ao1, co1, o), (AT, cT, sbA), (AS, cS, sbA), (AK, cK, sbK), (AJ, cJ, sbJ), (Ab, cb, o), (Ac, cc, x)]))) (by kernel_rfl) (by kernel_rfl)
            (fun _ => ⟨fun _ => SitT.start (H9.out.next K (Below.refl _ _).drew) (by rfl) (by simp), fun h => absurd h (by decide)⟩) (fun u => by simp only [List.filterMap_cons, List.filterMap_nil, puts, List.foldl_cons, List.foldl_nil]; go_simp; exact rfl) ?_ ?_
          · simp only [List.take_succ_cons, List.take_zero]
            refine Par.soft rfl rfl (.iface 25 (.pointer (some ⟨gp, 0, none⟩))) rfl (fun u wz Lb Vb hT hh => ⟨by rfl, by go_simp⟩) ?_
            refine Par.soft rfl rfl (.slice AY 32 cY) rfl (fun u wz Lb Vb hT hh => ⟨by rfl, by go_simp⟩) ?_
            refine Par.soft rfl rfl (.pointer (some ⟨g, 3, none⟩)) rfl (fun u wz Lb Vb hT hh => ⟨by rfl, by go_simp⟩) ?_
            refine Par.soft rfl rfl (.int .i64 n) rfl (fun u wz Lb Vb hT hh => ⟨by rfl, by have hT := hT.1 (hh.not_ 11 (by rfl)); have d109 : u 109 = .pointer (some ⟨g, 3, none⟩) := hh.val 2 _ rfl rfl; rw [d109]; obtain ⟨l9, hs9, _⟩ := id hT; obtain ⟨x1, x2, x3⟩ := HBx.out wz _ _ _ _ hs9; go_simp⟩) ?_
            refine Par.soft rfl rfl (.pointer (some ⟨g, 1, none⟩)) rfl (fun u wz Lb Vb hT hh => ⟨by rfl, by go_simp⟩) ?_
            refine Par.soft rfl rfl (.slice Ab nb cb) rfl (fun u wz Lb Vb hT hh => ⟨by rfl, by have hT := hT.1 (hh.not_ 11 (by rfl)); have d111 : u 111 = .pointer (some ⟨g, 1, none⟩) := hh.val 4 _ rfl rfl; rw [d111]; obtain ⟨l9, hs9, _⟩ := id hT; obtain ⟨x1, x2, x3⟩ := HBx.out wz _ _ _ _ hs9; go_simp⟩) ?_
            refine Par.hard rfl (fun u wz Lb Vb hT hh => ?_) ?_
            · have hT := hT.1 (hh.not_ 11 (by rfl))
              have n8 := hh.not_ 11 (by rfl)
              have d112 : u 112 = .slice Ab nb cb := hh.val 5 _ rfl rfl
              have r112 := hT.base (A := Ab) (c := cb) (bs := o) (by simp)
              rw [d112]
              refine StepP.of rfl (StepC.call 14 #[.slice Ab nb cb] rfl (by go_simp) ((own_use HN.out.1 wz r112 HN.out.2.2.2.1.1).mono ?_))
              rintro e w' ⟨A, c, rfl, ho, hb⟩
              exact ⟨_, rfl, fun c hc => by simp at hc, fun _ => hT.own K (stOf_off (by simp)) (by simp) ho hb, fun h => absurd ((lset_off n8 (by decide)).symm.trans h) (by decide)⟩
            refine Par.soft rfl rfl (.slice AX (nc + 16) cX) rfl (fun u wz Lb Vb hT hh => ⟨by rfl, by go_simp⟩) ?_
            refine Par.soft rfl rfl (.func (.method "Open") #[.iface 25 (.pointer (some ⟨gp, 0, none⟩))] #[]) rfl (fun u wz Lb Vb hT hh => ⟨by rfl, by have d107 : u 107 = .iface 25 (.pointer (some ⟨gp, 0, none⟩)) := hh.val 0 _ rfl rfl; rw [d107]; have hmk := hmk19 (.method "Open") #[.iface 25 (.pointer (some ⟨gp, 0, none⟩))] #[] wz; go_simp⟩) ?_
            refine Par.soft rfl rfl (.func (.method "Open") #[.iface 25 (.pointer (some ⟨gp, 0, none⟩))] #[]) rfl (fun u wz Lb Vb hT hh => ⟨by rfl, by have d115 : u 115 = .func (.method "Open") #[.iface 25 (.pointer (some ⟨gp, 0, none⟩))] #[] := hh.val 8 _ rfl rfl; rw [d115]; have hni := nila_Open gp wz; go_simp⟩) ?_
            refine Par.soft rfl rfl (.iface 25 (.pointer (some ⟨gp, 0, none⟩))) rfl (fun u wz Lb Vb hT hh => ⟨by rfl, by have d107 : u 107 = .iface 25 (.pointer (some ⟨gp, 0, none⟩)) := hh.val 0 _ rfl rfl; rw [d107]; go_simp⟩) ?_
            refine Par.hard rfl (fun u wz Lb Vb hT hh => ?_) ?_
            · have n8 := hh.not_ 11 (by rfl)
              have hT := hT.1 n8
              have d108 : u 108 = .slice AY 32 cY := hh.val 1 _ rfl rfl
              have d110 : u 110 = .int .i64 n := hh.val 3 _ rfl rfl
              have d114 : u 114 = .slice AX (nc + 16) cX := hh.val 7 _ rfl rfl
              have d117 : u 117 = .iface 25 (.pointer (some ⟨gp, 0, none⟩)) := hh.val 10 _ rfl rfl
              obtain ⟨Ao3, co3, e4, hs⟩ := hT.done (L := sbL7 o x n) (D := 2) (i := 6) (bs := o) (stOf_nil) (by simp) (hh.been 6 (by rfl) rfl)
              have dh : u 113 = .slice Ao3 (o).length co3 := (hh.hv 6 rfl).symm.trans e4
              rw [← HN.out.1] at dh
              rw [d108, d110, d114, d117, dh]
              have hm := meth_Open gp wz
              refine StepP.of rfl (StepC.call 18 #[.pointer (some ⟨gp, 0, none⟩), .slice AY 32 cY, .int .i64 n, .slice Ao3 nb co3, .slice AX (nc + 16) cX] rfl (by go_simp) ((sit_open K HCO hs (A := AY) (c := cY) (A2 := Ao3) (c2 := co3) (A3 := AX) (c3 := cX) n HQ.out.2.2.2.2.2.1.symm HN.out.1 (by rw [HQ.out.2.2.2.2.2.2.1, ← HN.out.2.1]) (by simp) (by simp) (by simp) HLL.out.2.2.2.2.2.2.1 HN.out.2.2.1).mono ?_))
              rintro e w' ⟨A', c', rfl, hs'⟩
              rw [(sb_open HGE.out).1] at hs'
              rw [(sb_open HGE.out).1, (sb_open HGE.out).2, ← HN.out.2.1]
              exact ⟨_, rfl, fun c hc => by simp at hc, fun h => absurd h (by rw [lset_same]; decide), fun _ => ⟨A', c', if_pos rfl, fun h => absurd ((lset_off (hh.not_ 12 (by rfl)) (by decide)).symm.trans h) (by decide), fun h => absurd ((lset_off (hh.not_ 13 (by rfl)) (by decide)).symm.trans h) (by decide), fun h => absurd ((lset_off (hh.not_ 15 (by rfl)) (by decide)).symm.trans h) (by decide), hs'.sub (l' := (A', c', x) :: [(AX, cX, sbX o x n), (Ao2, co2, o), (Ax2, cx2, x), (AY, cY, sbY o), (Ao1, co1, o), (AT, cT, sbA), (AS, cS, sbA), (AK, cK, sbK), (AJ, cJ, sbJ), (Ab, cb, o), (Ac, cc, x)]) (fun y hy => by
                  rcases List.mem_cons.1 hy with rfl | hy
                  · simp
                  · exact List.mem_cons_of_mem _ (List.mem_cons_of_mem _ hy))⟩⟩
            refine Par.hard rfl (fun u wz Lb Vb hT hh => ?_) ?_
            · obtain ⟨A, c, t8, t9, t10, t12, hs⟩ := hT.2 (hh.been 11 (by rfl) rfl)
              have d : u 118 = .tuple #[.slice A nc c, .int .i64 0] := (hh.hv 11 rfl).symm.trans t8
              rw [d]
              refine StepP.of rfl (StepC.run (.tuple #[.slice A nc c, .int .i64 0]) wz rfl (by go_simp) ⟨fun c hc => by simp at hc, ⟨fun h => absurd ((lset_off (hh.been 11 (by rfl) rfl) (by decide)).symm.trans h) (by decide), fun _ => ⟨A, c, (if_neg (by decide)).trans t8, fun _ => if_pos rfl, fun h => (if_neg (by decide)).trans (t10 ((if_neg (by decide)).symm.trans h)), fun h => (if_neg (by decide)).trans (t12 ((if_neg (by decide)).symm.trans h)), hs⟩⟩⟩)
            refine Par.hard rfl (fun u wz Lb Vb hT hh => ?_) ?_
            · obtain ⟨A, c, t8, t9, t10, t12, hs⟩ := hT.2 (hh.been 11 (by rfl) rfl)
              have d : u 106 = .tuple #[.slice A nc c, .int .i64 0] := (hh.hv 12 rfl).symm.trans (t9 (hh.been 12 (by rfl) rfl))
              rw [d]
              refine StepP.of rfl (StepC.run (.slice A nc c) wz rfl (by go_simp) ⟨fun c hc => by simp at hc, ⟨fun h => absurd ((lset_off (hh.been 11 (by rfl) rfl) (by decide)).symm.trans h) (by decide), fun _ => ⟨A, c, (if_neg (by decide)).trans t8, fun h => (if_neg (by decide)).trans (t9 ((if_neg (by decide)).symm.trans h)), fun _ => if_pos rfl, fun h => (if_neg (by decide)).trans (t12 ((if_neg (by decide)).symm.trans h)), hs⟩⟩⟩)
            refine Par.soft rfl rfl (.int .i64 0) rfl (fun u wz Lb Vb hT hh => ⟨rfl, by obtain ⟨A, c, t8, t9, t10, t12, hs⟩ := hT.2 (hh.been 11 (by rfl) rfl); have d : u 106 = .tuple #[.slice A nc c, .int .i64 0] := (hh.hv 12 rfl).symm.trans (t9 (hh.been 12 (by rfl) rfl)); rw [d]; go_simp⟩) ?_
            refine Par.hard rfl (fun u wz Lb Vb hT hh => ?_) ?_
            · obtain ⟨A, c, t8, t9, t10, t12, hs⟩ := hT.2 (hh.been 11 (by rfl) rfl)
              have d : u 119 = .slice A nc c := (hh.hv 13 rfl).symm.trans (t10 (hh.been 13 (by rfl) rfl))
              rw [d]
              refine StepP.of rfl (StepC.run (.slice A nc c) wz rfl (by go_simp) ⟨fun c hc => by simp at hc, ⟨fun h => absurd ((lset_off (hh.been 11 (by rfl) rfl) (by decide)).symm.trans h) (by decide), fun _ => ⟨A, c, (if_neg (by decide)).trans t8, fun h => (if_neg (by decide)).trans (t9 ((if_neg (by decide)).symm.trans h)), fun h => (if_neg (by decide)).trans (t10 ((if_neg (by decide)).symm.trans h)), fun _ => if_pos rfl, hs⟩⟩⟩)
            exact Par.nil
          · intro u wz hD hT
            obtain ⟨Lb, Vb, hT, hLV⟩ := hT
            obtain ⟨k8, _⟩ := hLV 11 (by decide) rfl
            obtain ⟨k12, v12⟩ := hLV 15 (by decide) rfl
            obtain ⟨At, ct, _, _, _, t12, hs⟩ := hT.2 k8
            have da : u 13 = .slice At nc ct := v12.symm.trans (t12 k12)
            have db : u 120 = .int .i64 0 := hD 14 _ (by decide) rfl
            have H10 := Lib.hid hs
            rw [da, db]
            clear hD hT hLV k8 k12 v12 t12 hs da db H9
            go_upto_region 13 with fail
            refine wp_region_par 8 16 [some 121, some 122, some 123, some 124, some 125, some 126, some 127, some 128] [4] [some (.iface 25 (.pointer (some ⟨gp, 0, none⟩))), some (.slice AJ 32 cJ), some (.pointer (some ⟨g, 2, none⟩)), some (.slice Ac nc cc), none, some (.func (.method "Sign") #[.iface 25 (.pointer (some ⟨gp, 0, none⟩))] #[]), some (.func (.method "Sign") #[.iface 25 (.pointer (some ⟨gp, 0, none⟩))] #[]), some (.iface 25 (.pointer (some ⟨gp, 0, none⟩)))]
              (SitT R w0 (.pointer (some ⟨gp, 0, none⟩)) ([(At, ct, x), (AX, cX, sbX o x n), (Ao2, co2, o), (Ax2, cx2, x), (AY, cY, sbY o), (Ao1, co1, o), (AT, cT, sbA), (AS, cS, sbA), (AK, cK, sbK), (AJ, cJ, sbJ), (Ab, cb, o), (Ac, cc, x)]) (sbL7 o x n, 2) [] [(4, x)]) (by kernel_rfl) (by kernel_rfl)
              (fun _ => SitT.start (H10.out.next K (Below.refl _ _).drew) (by rfl) (by simp)) (fun u => by simp only [List.filterMap_cons, List.filterMap_nil, puts, List.foldl_cons, List.foldl_nil]; go_simp; exact rfl) ?_ ?_
            · simp only [List.take_succ_cons, List.take_zero]
              refine Par.soft rfl rfl (.iface 25 (.pointer (some ⟨gp, 0, none⟩))) rfl (fun u wz Lb Vb hT hh => ⟨by rfl, by go_simp⟩) ?_
              refine Par.soft rfl rfl (.slice AJ 32 cJ) rfl (fun u wz Lb Vb hT hh => ⟨by rfl, by go_simp⟩) ?_
              refine Par.soft rfl rfl (.pointer (some ⟨g, 2, none⟩)) rfl (fun u wz Lb Vb hT hh => ⟨by rfl, by go_simp⟩) ?_
              refine Par.soft rfl rfl (.slice Ac nc cc) rfl (fun u wz Lb Vb hT hh => ⟨by rfl, by have d123 : u 123 = .pointer (some ⟨g, 2, none⟩) := hh.val 2 _ rfl rfl; rw [d123]; obtain ⟨l9, hs9, _⟩ := id hT; obtain ⟨x1, x2, x3⟩ := HBx.out wz _ _ _ _ hs9; go_simp⟩) ?_
              refine Par.hard rfl (fun u wz Lb Vb hT hh => ?_) ?_
              · have d124 : u 124 = .slice Ac nc cc := hh.val 3 _ rfl rfl
                have r124 := hT.base (A := Ac) (c := cc) (bs := x) (by simp)
                rw [d124]
                refine StepP.of rfl (StepC.call 14 #[.slice Ac nc cc] rfl (by go_simp) ((own_use HN.out.2.1 wz r124 HN.out.2.2.2.1.2).mono ?_))
                rintro e w' ⟨A, c, rfl, ho, hb⟩
                exact ⟨_, rfl, fun c hc => by simp at hc, hT.own K (stOf_off (by simp)) (by simp) ho hb⟩
              refine Par.soft rfl rfl (.func (.method "Sign") #[.iface 25 (.pointer (some ⟨gp, 0, none⟩))] #[]) rfl (fun u wz Lb Vb hT hh => ⟨by rfl, by have d121 : u 121 = .iface 25 (.pointer (some ⟨gp, 0, none⟩)) := hh.val 0 _ rfl rfl; rw [d121]; have hmk := hmk19 (.method "Sign") #[.iface 25 (.pointer (some ⟨gp, 0, none⟩))] #[] wz; go_simp⟩) ?_
              refine Par.soft rfl rfl (.func (.method "Sign") #[.iface 25 (.pointer (some ⟨gp, 0, none⟩))] #[]) rfl (fun u wz Lb Vb hT hh => ⟨by rfl, by have d126 : u 126 = .func (.method "Sign") #[.iface 25 (.pointer (some ⟨gp, 0, none⟩))] #[] := hh.val 5 _ rfl rfl; rw [d126]; have hni := nila_Sign gp wz; go_simp⟩) ?_
              refine Par.soft rfl rfl (.iface 25 (.pointer (some ⟨gp, 0, none⟩))) rfl (fun u wz Lb Vb hT hh => ⟨by rfl, by have d121 : u 121 = .iface 25 (.pointer (some ⟨gp, 0, none⟩)) := hh.val 0 _ rfl rfl; rw [d121]; go_simp⟩) ?_
              exact Par.nil
            · intro u wz hD hT
              obtain ⟨Lb, Vb, hT, hLV⟩ := hT
              obtain ⟨l9, hs, hin, hr⟩ := hT
              rw [show stOf Lb (sbL7 o x n, 2) [] = (sbL7 o x n, 2) from stOf_nil] at hs
              obtain ⟨m4, v4⟩ := hLV 4 (by decide) rfl
              obtain ⟨Ax4, cx4, e4, i4⟩ := hr (4, x) (by simp) m4
              have d125 : u 125 = .slice Ax4 (x).length cx4 := v4.symm.trans e4
              have hs2 := hs.sub (l' := [(Ax4, cx4, x), (At, ct, x), (AX, cX, sbX o x n), (Ao2, co2, o), (Ax2, cx2, x), (AY, cY, sbY o), (Ao1, co1, o), (AT, cT, sbA), (AS, cS, sbA), (AK, cK, sbK), (AJ, cJ, sbJ), (Ab, cb, o), (Ac, cc, x)]) (fun y hy => by
      simp only [List.mem_cons, List.not_mem_nil, or_false] at hy
      rcases hy with rfl | rfl | rfl | rfl | rfl | rfl | rfl | rfl | rfl | rfl | rfl | rfl | rfl
      · exact i4
      · exact hin _ (by simp)
      · exact hin _ (by simp)
      · exact hin _ (by simp)
      · exact hin _ (by simp)
      · exact hin _ (by simp)
      · exact hin _ (by simp)
      · exact hin _ (by simp)
      · exact hin _ (by simp)
      · exact hin _ (by simp)
      · exact hin _ (by simp)
      · exact hin _ (by simp)
      · exact hin _ (by simp))
              rw [← HN.out.2.1] at d125
              have d122 : u 122 = .slice AJ 32 cJ := hD 1 _ (by decide) rfl
              have d128 : u 128 = .iface 25 (.pointer (some ⟨gp, 0, none⟩)) := hD 7 _ (by decide) rfl
              have H11 := Lib.hid hs2
              rw [d122, d128, d125]
              clear hD hLV hs hin hr hs2 H10 d122 d128 d125 m4 v4 e4 i4
              go_wp2_with fail
              go_at_call 16
              refine (sit_sign HCG H11.out (A := AJ) (c := cJ) (A2 := Ax4) (c2 := cx4) HQ.out.1.symm HN.out.2.1 (by simp) (by simp) HLL.out.2.2.2.2.2.2.1 (by rw [lenOk, HQ.out.1]; decide) HN.out.2.2.2.2.2).mono ?_
              rintro e w22 ⟨AG, cG, rfl, hs⟩
              rw [(sb_sign o x n).1, (sb_sign o x n).2] at hs
              rw [(sb_sign o x n).2, HQ.out.2.2.2.2.2.2.2.1]
              have H12 := Lib.hid hs
              clear hs H11
              go_upto_region 14 with fail
              refine wp_region_par 38 46 [some 130, some 131, some 132, some 133, some 134, some 135, some 136, some 137, some 138, some 139, some 140, some 141, some 142, some 143, some 144, some 145, some 146, some 147, some 148, some 149, some 150, some 151, some 152, some 153, some 154, some 155, some 156, some 157, some 158, some 159, some 160, some 161, some 162, some 163, some 164, some 165, some 166, some 167] [28, 31, 36] [some (.int .i64 0), some (.bool true), some (.bool true), some (.slice At nc ct), some (.string ⟨(x).toArray⟩), some (.pointer (some ⟨g, 2, none⟩)), some (.slice Ac nc cc), some (.string ⟨(x).toArray⟩), some (.bool true), some (.bool true), some (.bool true), some (.slice AX (nc + 16) cX), some (.int .i64 ((nc + 16) : Int)), some (.pointer (some ⟨g, 2, none⟩)), some (.slice Ac nc cc), some (.int .i64 (nc : Int)), some (.int .i64 ((nc : Int) + 16)), some (.bool true), some (.bool true), some (.bool true), some (.slice AG 64 cG), some (.int .i64 64), some (.bool true), some (.bool true), some (.bool true), some (.iface 25 (.pointer (some ⟨gp, 0, none⟩))), some (.iface 25 (.pointer (some ⟨gp, 0, none⟩))), some (.slice AJ 32 cJ), none, some (.pointer (some ⟨g, 2, none⟩)), some (.slice Ac nc cc), none, some (.slice AG 64 cG), some (.func (.method "Verify") #[.iface 25 (.pointer (some ⟨gp, 0, none⟩))] #[]), some (.func (.method "Verify") #[.iface 25 (.pointer (some ⟨gp, 0, none⟩))] #[]), some (.iface 25 (.pointer (some ⟨gp, 0, none⟩))), some (.bool true), some (.bool true)]
                (SitT R w0 (.pointer (some ⟨gp, 0, none⟩)) ([(AG, cG, sbS o x n), (Ax4, cx4, x), (At, ct, x), (AX, cX, sbX o x n), (Ao2, co2, o), (Ax2, cx2, x), (AY, cY, sbY o), (Ao1, co1, o), (AT, cT, sbA), (AS, cS, sbA), (AK, cK, sbK), (AJ, cJ, sbJ), (Ab, cb, o), (Ac, cc, x)]) (sbL8 o x n, 2) [(28, (sbL9 o x n, 2))] [(28, sbV o x n), (31, x)]) (by kernel_rfl) (by kernel_rfl)
                (fun _ => SitT.start (H12.out.next K (Below.refl _ _).drew) (by rfl) (by simp)) (fun u => by simp only [List.filterMap_cons, List.filterMap_nil, puts, List.foldl_cons, List.foldl_nil]; go_simp; exact rfl) ?_ ?_
              · simp only [List.take_succ_cons, List.take_zero]
                refine Par.soft rfl rfl (.int .i64 0) rfl (fun u wz Lb Vb hT hh => ⟨by rfl, by go_simp⟩) ?_
                refine Par.soft rfl rfl (.bool true) rfl (fun u wz Lb Vb hT hh => ⟨by rfl, by have d130 : u 130 = .int .i64 0 := hh.val 0 _ rfl rfl; rw [d130]; go_simp⟩) ?_
                refine Par.soft rfl rfl (.bool true) rfl (fun u wz Lb Vb hT hh => ⟨by rfl, by have d131 : u 131 = .bool true := hh.val 1 _ rfl rfl; rw [d131]; go_simp⟩) ?_
                refine Par.soft rfl rfl (.slice At nc ct) rfl (fun u wz Lb Vb hT hh => ⟨by have d132 : u 132 = .bool true := hh.val 2 _ rfl rfl; rw [d132]; rfl, by have d132 : u 132 = .bool true := hh.val 2 _ rfl rfl; rw [d132]; go_simp⟩) ?_
                refine Par.soft rfl rfl (.string ⟨(x).toArray⟩) rfl (fun u wz Lb Vb hT hh => ⟨by have d132 : u 132 = .bool true := hh.val 2 _ rfl rfl; rw [d132]; rfl, by have d132 : u 132 = .bool true := hh.val 2 _ rfl rfl; have d133 : u 133 = .slice At nc ct := hh.val 3 _ rfl rfl; rw [d132, d133]; have r := hT.base (A := At) (c := ct) (bs := x) (by simp); have hq := run_str (P := Try.prog) wz 31 5 Try.underlying31 Try.underlying5 (dst := 9) Try.underlying9 r; rw [← HN.out.2.1] at hq; exact run_conv rfl rfl hq⟩) ?_
                refine Par.soft rfl rfl (.pointer (some ⟨g, 2, none⟩)) rfl (fun u wz Lb Vb hT hh => ⟨by have d132 : u 132 = .bool true := hh.val 2 _ rfl rfl; rw [d132]; rfl, by have d132 : u 132 = .bool true := hh.val 2 _ rfl rfl; rw [d132]; go_simp⟩) ?_
                refine Par.soft rfl rfl (.slice Ac nc cc) rfl (fun u wz Lb Vb hT hh => ⟨by have d132 : u 132 = .bool true := hh.val 2 _ rfl rfl; rw [d132]; rfl, by have d132 : u 132 = .bool true := hh.val 2 _ rfl rfl; have d135 : u 135 = .pointer (some ⟨g, 2, none⟩) := hh.val 5 _ rfl rfl; rw [d132, d135]; obtain ⟨l9, hs9, _⟩ := id hT; obtain ⟨x1, x2, x3⟩ := HBx.out wz _ _ _ _ hs9; go_simp⟩) ?_
                refine Par.soft rfl rfl (.string ⟨(x).toArray⟩) rfl (fun u wz Lb Vb hT hh => ⟨by have d132 : u 132 = .bool true := hh.val 2 _ rfl rfl; rw [d132]; rfl, by have d132 : u 132 = .bool true := hh.val 2 _ rfl rfl; have d136 : u 136 = .slice Ac nc cc := hh.val 6 _ rfl rfl; rw [d132, d136]; have r := hT.base (A := Ac) (c := cc) (bs := x) (by simp); have hq := run_str (P := Try.prog) wz 31 5 Try.underlying31 Try.underlying5 (dst := 9) Try.underlying9 r; rw [← HN.out.2.1] at hq; exact run_conv rfl rfl hq⟩) ?_
                refine Par.soft rfl rfl (.bool true) rfl (fun u wz Lb Vb hT hh => ⟨by have d132 : u 132 = .bool true := hh.val 2 _ rfl rfl; rw [d132]; rfl, by have d132 : u 132 = .bool true := hh.val 2 _ rfl rfl; have d134 : u 134 = .string ⟨(x).toArray⟩ := hh.val 4 _ rfl rfl; have d137 : u 137 = .string ⟨(x).toArray⟩ := hh.val 7 _ rfl rfl; rw [d132, d134, d137]; go_simp⟩) ?_
                refine Par.soft rfl rfl (.bool true) rfl (fun u wz Lb Vb hT hh => ⟨by rfl, by have d132 : u 132 = .bool true := hh.val 2 _ rfl rfl; have d138 : u 138 = .bool true := hh.val 8 _ rfl rfl; rw [d132, d138]; go_simp⟩) ?_
                refine Par.soft rfl rfl (.bool true) rfl (fun u wz Lb Vb hT hh => ⟨by rfl, by have d139 : u 139 = .bool true := hh.val 9 _ rfl rfl; rw [d139]; go_simp⟩) ?_
                refine Par.soft rfl rfl (.slice AX (nc + 16) cX) rfl (fun u wz Lb Vb hT hh => ⟨by have d140 : u 140 = .bool true := hh.val 10 _ rfl rfl; rw [d140]; rfl, by have d140 : u 140 = .bool true := hh.val 10 _ rfl rfl; rw [d140]; go_simp⟩) ?_
                refine Par.soft rfl rfl (.int .i64 ((nc + 16) : Int)) rfl (fun u wz Lb Vb hT hh => ⟨by have d140 : u 140 = .bool true := hh.val 10 _ rfl rfl; rw [d140]; rfl, by have d140 : u 140 = .bool true := hh.val 10 _ rfl rfl; have d141 : u 141 = .slice AX (nc + 16) cX := hh.val 11 _ rfl rfl; rw [d140, d141]; go_simp⟩) ?_
                refine Par.soft rfl rfl (.pointer (some ⟨g, 2, none⟩)) rfl (fun u wz Lb Vb hT hh => ⟨by have d140 : u 140 = .bool true := hh.val 10 _ rfl rfl; rw [d140]; rfl, by have d140 : u 140 = .bool true := hh.val 10 _ rfl rfl; rw [d140]; go_simp⟩) ?_
                refine Par.soft rfl rfl (.slice Ac nc cc) rfl (fun u wz Lb Vb hT hh => ⟨by have d140 : u 140 = .bool true := hh.val 10 _ rfl rfl; rw [d140]; rfl, by have d140 : u 140 = .bool true := hh.val 10 _ rfl rfl; have d143 : u 143 = .pointer (some ⟨g, 2, none⟩) := hh.val 13 _ rfl rfl; rw [d140, d143]; obtain ⟨l9, hs9, _⟩ := id hT; obtain ⟨x1, x2, x3⟩ := HBx.out wz _ _ _ _ hs9; go_simp⟩) ?_
                refine Par.soft rfl rfl (.int .i64 (nc : Int)) rfl (fun u wz Lb Vb hT hh => ⟨by have d140 : u 140 = .bool true := hh.val 10 _ rfl rfl; rw [d140]; rfl, by have d140 : u 140 = .bool true := hh.val 10 _ rfl rfl; have d144 : u 144 = .slice Ac nc cc := hh.val 14 _ rfl rfl; rw [d140, d144]; go_simp⟩) ?_
                refine Par.soft rfl rfl (.int .i64 ((nc : Int) + 16)) rfl (fun u wz Lb Vb hT hh => ⟨by have d140 : u 140 = .bool true := hh.val 10 _ rfl rfl; rw [d140]; rfl, by have d140 : u 140 = .bool true := hh.val 10 _ rfl rfl; have d145 : u 145 = .int .i64 (nc : Int) := hh.val 15 _ rfl rfl; rw [d140, d145]; have hw : IntKind.i64.wrap ((nc : Int) + 16) = (nc : Int) + 16 := (by rw [IntKind.wrap_i64]; omega); go_simp⟩) ?_
                refine Par.soft rfl rfl (.bool true) rfl (fun u wz Lb Vb hT hh => ⟨by have d140 : u 140 = .bool true := hh.val 10 _ rfl rfl; rw [d140]; rfl, by have d140 : u 140 = .bool true := hh.val 10 _ rfl rfl; have d142 : u 142 = .int .i64 ((nc + 16) : Int) := hh.val 12 _ rfl rfl; have d146 : u 146 = .int .i64 ((nc : Int) + 16) := hh.val 16 _ rfl rfl; rw [d140, d142, d146]; go_simp⟩) ?_
                refine Par.soft rfl rfl (.bool true) rfl (fun u wz Lb Vb hT hh => ⟨by rfl, by have d140 : u 140 = .bool true := hh.val 10 _ rfl rfl; have d147 : u 147 = .bool true := hh.val 17 _ rfl rfl; rw [d140, d147]; go_simp⟩) ?_
                refine Par.soft rfl rfl (.bool true) rfl (fun u wz Lb Vb hT hh => ⟨by rfl, by have d148 : u 148 = .bool true := hh.val 18 _ rfl rfl; rw [d148]; go_simp⟩) ?_
                refine Par.soft rfl rfl (.slice AG 64 cG) rfl (fun u wz Lb Vb hT hh => ⟨by have d149 : u 149 = .bool true := hh.val 19 _ rfl rfl; rw [d149]; rfl, by have d149 : u 149 = .bool true := hh.val 19 _ rfl rfl; rw [d149]; go_simp⟩) ?_
                refine Par.soft rfl rfl (.int .i64 64) rfl (fun u wz Lb Vb hT hh => ⟨by have d149 : u 149 = .bool true := hh.val 19 _ rfl rfl; rw [d149]; rfl, by have d149 : u 149 = .bool true := hh.val 19 _ rfl rfl; have d150 : u 150 = .slice AG 64 cG := hh.val 20 _ rfl rfl; rw [d149, d150]; go_simp⟩) ?_
                refine Par.soft rfl rfl (.bool true) rfl (fun u wz Lb Vb hT hh => ⟨by have d149 : u 149 = .bool true := hh.val 19 _ rfl rfl; rw [d149]; rfl, by have d149 : u 149 = .bool true := hh.val 19 _ rfl rfl; have d151 : u 151 = .int .i64 64 := hh.val 21 _ rfl rfl; rw [d149, d151]; go_simp⟩) ?_
                refine Par.soft rfl rfl (.bool true) rfl (fun u wz Lb Vb hT hh => ⟨by rfl, by have d149 : u 149 = .bool true := hh.val 19 _ rfl rfl; have d152 : u 152 = .bool true := hh.val 22 _ rfl rfl; rw [d149, d152]; go_simp⟩) ?_
                refine Par.soft rfl rfl (.bool true) rfl (fun u wz Lb Vb hT hh => ⟨by rfl, by have d153 : u 153 = .bool true := hh.val 23 _ rfl rfl; rw [d153]; go_simp⟩) ?_
                refine Par.soft rfl rfl (.iface 25 (.pointer (some ⟨gp, 0, none⟩))) rfl (fun u wz Lb Vb hT hh => ⟨by have d154 : u 154 = .bool true := hh.val 24 _ rfl rfl; rw [d154]; rfl, by have d154 : u 154 = .bool true := hh.val 24 _ rfl rfl; rw [d154]; go_simp⟩) ?_
                refine Par.soft rfl rfl (.iface 25 (.pointer (some ⟨gp, 0, none⟩))) rfl (fun u wz Lb Vb hT hh => ⟨by have d154 : u 154 = .bool true := hh.val 24 _ rfl rfl; rw [d154]; rfl, by have d154 : u 154 = .bool true := hh.val 24 _ rfl rfl; rw [d154]; go_simp⟩) ?_
                refine Par.soft rfl rfl (.slice AJ 32 cJ) rfl (fun u wz Lb Vb hT hh => ⟨by have d154 : u 154 = .bool true := hh.val 24 _ rfl rfl; rw [d154]; rfl, by have d154 : u 154 = .bool true := hh.val 24 _ rfl rfl; rw [d154]; go_simp⟩) ?_
                refine Par.hard rfl (fun u wz Lb Vb hT hh => ?_) ?_
                · have d154 : u 154 = .bool true := hh.val 24 _ rfl rfl
                  have d156 : u 156 = .iface 25 (.pointer (some ⟨gp, 0, none⟩)) := hh.val 26 _ rfl rfl
                  have d157 : u 157 = .slice AJ 32 cJ := hh.val 27 _ rfl rfl
                  have r157 := hT.base (A := AJ) (c := cJ) (bs := sbJ) (by simp)
                  rw [d154, d156, d157]
                  have n28 := hh.not_ 28 (by rfl)
                  have hm := meth_Signer gp wz
                  have h0 : stOf Lb (sbL8 o x n, 2) [(28, (sbL9 o x n, 2))] = (sbL8 o x n, 2) := (stOf_stop n28)
                  refine StepP.of rfl (StepC.call 17 #[.pointer (some ⟨gp, 0, none⟩), .slice AJ 32 cJ] rfl (by go_simp) ((sitT_ask (i := 28) hT h0 (L' := sbL9 o x n) (D' := 2) ((stOf_go lset_same).trans (stOf_nil)) (by simp) (fun F S hR => sb_signer (R := R) _ HCV hR r157)).mono ?_))
                  rintro e w' ⟨v, rfl, hT'⟩
                  exact ⟨_, rfl, fun c hc => by simp at hc, hT'⟩
                refine Par.soft rfl rfl (.pointer (some ⟨g, 2, none⟩)) rfl (fun u wz Lb Vb hT hh => ⟨by have d154 : u 154 = .bool true := hh.val 24 _ rfl rfl; rw [d154]; rfl, by have d154 : u 154 = .bool true := hh.val 24 _ rfl rfl; rw [d154]; go_simp⟩) ?_
                refine Par.soft rfl rfl (.slice Ac nc cc) rfl (fun u wz Lb Vb hT hh => ⟨by have d154 : u 154 = .bool true := hh.val 24 _ rfl rfl; rw [d154]; rfl, by have d154 : u 154 = .bool true := hh.val 24 _ rfl rfl; have d159 : u 159 = .pointer (some ⟨g, 2, none⟩) := hh.val 29 _ rfl rfl; rw [d154, d159]; obtain ⟨l9, hs9, _⟩ := id hT; obtain ⟨x1, x2, x3⟩ := HBx.out wz _ _ _ _ hs9; go_simp⟩) ?_
                refine Par.hard rfl (fun u wz Lb Vb hT hh => ?_) ?_
                · have d154 : u 154 = .bool true := hh.val 24 _ rfl rfl
                  have d160 : u 160 = .slice Ac nc cc := hh.val 30 _ rfl rfl
                  have r160 := hT.base (A := Ac) (c := cc) (bs := x) (by simp)
                  rw [d154, d160]
                  refine StepP.of rfl (StepC.call 14 #[.slice Ac nc cc] rfl (by go_simp) ((own_use HN.out.2.1 wz r160 HN.out.2.2.2.1.2).mono ?_))
                  rintro e w' ⟨A, c, rfl, ho, hb⟩
                  exact ⟨_, rfl, fun c hc => by simp at hc, hT.own K (stOf_off (by simp)) (by simp) ho hb⟩
                refine Par.soft rfl rfl (.slice AG 64 cG) rfl (fun u wz Lb Vb hT hh => ⟨by have d154 : u 154 = .bool true := hh.val 24 _ rfl rfl; rw [d154]; rfl, by have d154 : u 154 = .bool true := hh.val 24 _ rfl rfl; rw [d154]; go_simp⟩) ?_
                refine Par.soft rfl rfl (.func (.method "Verify") #[.iface 25 (.pointer (some ⟨gp, 0, none⟩))] #[]) rfl (fun u wz Lb Vb hT hh => ⟨by have d154 : u 154 = .bool true := hh.val 24 _ rfl rfl; rw [d154]; rfl, by have d154 : u 154 = .bool true := hh.val 24 _ rfl rfl; have d155 : u 155 = .iface 25 (.pointer (some ⟨gp, 0, none⟩)) := hh.val 25 _ rfl rfl; rw [d154, d155]; have hmk := hmk19 (.method "Verify") #[.iface 25 (.pointer (some ⟨gp, 0, none⟩))] #[] wz; go_simp⟩) ?_
                refine Par.soft rfl rfl (.func (.method "Verify") #[.iface 25 (.pointer (some ⟨gp, 0, none⟩))] #[]) rfl (fun u wz Lb Vb hT hh => ⟨by have d154 : u 154 = .bool true := hh.val 24 _ rfl rfl; rw [d154]; rfl, by have d154 : u 154 = .bool true := hh.val 24 _ rfl rfl; have d163 : u 163 = .func (.method "Verify") #[.iface 25 (.pointer (some ⟨gp, 0, none⟩))] #[] := hh.val 33 _ rfl rfl; rw [d154, d163]; have hni := nila_Verify gp wz; go_simp⟩) ?_
                refine Par.soft rfl rfl (.iface 25 (.pointer (some ⟨gp, 0, none⟩))) rfl (fun u wz Lb Vb hT hh => ⟨by have d154 : u 154 = .bool true := hh.val 24 _ rfl rfl; rw [d154]; rfl, by have d154 : u 154 = .bool true := hh.val 24 _ rfl rfl; have d155 : u 155 = .iface 25 (.pointer (some ⟨gp, 0, none⟩)) := hh.val 25 _ rfl rfl; rw [d154, d155]; go_simp⟩) ?_
                refine Par.hard rfl (fun u wz Lb Vb hT hh => ?_) ?_
                · have d154 : u 154 = .bool true := hh.val 24 _ rfl rfl
                  have d165 : u 165 = .iface 25 (.pointer (some ⟨gp, 0, none⟩)) := hh.val 35 _ rfl rfl
                  have d162 : u 162 = .slice AG 64 cG := hh.val 32 _ rfl rfl
                  obtain ⟨r158A, r158c, r158e, r158⟩ := hT.row (i := 28) (bs := sbV o x n) (by simp) (hh.been 28 (by rfl) rfl)
                  have r158d : u 158 = .slice r158A (sbV o x n).length r158c := (hh.hv 28 rfl).symm.trans r158e
                  obtain ⟨r161A, r161c, r161e, r161⟩ := hT.row (i := 31) (bs := x) (by simp) (hh.been 31 (by rfl) rfl)
                  have r161d : u 161 = .slice r161A (x).length r161c := (hh.hv 31 rfl).symm.trans r161e
                  have r162 := hT.base (A := AG) (c := cG) (bs := sbS o x n) (by simp)
                  rw [d154, d165, d162, r158d, r161d]
                  have b28 := hh.been 28 (by rfl) rfl
                  have hm := meth_Verify gp wz
                  have h0 : stOf Lb (sbL8 o x n, 2) [(28, (sbL9 o x n, 2))] = (sbL9 o x n, 2) := ((stOf_go b28).trans (stOf_nil))
                  refine StepP.of rfl (StepC.call 19 #[.pointer (some ⟨gp, 0, none⟩), .slice r158A (sbV o x n).length r158c, .slice r161A (x).length r161c, .slice AG 64 cG] rfl (by go_simp) ((hT.use h0 (fun F S hR => ver_use (R := R) HCR wz hR HLL.out.2.2.2.2.2.2.2.2 rfl rfl HQ.out.2.2.2.2.2.2.2.1.symm r158 r161 r162 (sb_ver o x n))).mono ?_))
                  rintro e w' ⟨rfl, hb⟩
                  exact ⟨_, rfl, fun c hc => by simpa using hc, hT.next K (stOf_off (by simp)) (by simp) hb⟩
                refine Par.soft rfl rfl (.bool true) rfl (fun u wz Lb Vb hT hh => ⟨by rfl, by have d154 : u 154 = .bool true := hh.val 24 _ rfl rfl; have d166 : u 166 = .bool true := hh.val 36 _ rfl rfl; rw [d154, d166]; go_simp⟩) ?_
                exact Par.nil
              · intro u wz hD hT
                obtain ⟨Lb, Vb, hT, hLV⟩ := hT
                have d167 : u 167 = .bool true := hD 37 _ (by decide) rfl
                have hb := hT.below
                rw [d167]
                clear hD hT hLV
                go_wp2_with fail
                go_ret
                exact ⟨rfl, hb⟩
end Go.Proofs.Ytdddcgkgellbgab
