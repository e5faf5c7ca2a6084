/-
  Layer 19: own and awake, over what is asked of the ideal suite. By an AI agent.
-/
import Derived.Test.YtdddcgkgellbgabSl3
import Derived.Test.YtdddcgkgellbgabSl2
import Derived.Test.YtdddcgkgellbgabBox
import Derived.Lib.SlBytesConst
namespace Go.Proofs.Ytdddcgkgellbgab
open Go Go.RowKit
set_option maxRecDepth 20000
theorem Rd.cellK {w : World} {B b o c : Nat} {bs : List UInt8} (h : Rd w B (some ⟨b, o, none⟩) c bs) {k : Nat} (hk : k < bs.length) : w.cell? ⟨b, o + k, none⟩ = some (.int .u8 (nth bs k : Int)) := by
  obtain ⟨b', o', e, _, hc⟩ := h.at_ hk
  cases e
  exact hc
theorem own19_any {A : Option Addr} {c : Nat} {bs : List UInt8} (w : World) (hr : Rd w w.heap.size A c bs) (hl : bs.length ≤ 140737488355328) :
    Calls Try.prog 14 #[.slice A bs.length c] w fun e w' => ∃ A' c', e = .returned (.slice A' bs.length c') ∧ Own w' w.heap.size 5 A' c' bs ∧ Below w.heap.size w w' := by
  obtain ⟨i0, hi, hz0, hz1, hz2⟩ := info_parts infoByte
  have h0 : Own (w.alloc (.cells #[] 5)) w.heap.size 5 (some ⟨w.heap.size, 0, none⟩) 0 [] := World.ownsRow_made w #[] 0 (Nat.le_refl _) (by decide) (by decide)
  have hb0 : Below w.heap.size w (w.alloc (.cells #[] 5)) := (Below.refl _ _).alloc (Nat.le_refl _) _
  have r0 := hr.keep hb0
  have HL := Lib.hid (show ([] : List UInt8).length + bs.length ≤ 140737488355328 by simpa using hl)
  go_enter Try.func14, Try.ntmps14
  go_wp2_with (at_builtin; refine wpList_app _ rfl (.tmp 3) (.tmp 4) _ rfl w.heap.size 5 i0 _ Try.underlying31 hi hz0 hz1 hz2 rfl (xs := []) rfl h0 rfl r0 HL.out hb0.size ?_; intro A' c' w' ho' hb')
  go_ret
  exact ⟨A', c', rfl, ho', hb0.trans hb'⟩
def awS : List UInt8 := calledT (termS 0) (numT [] (termS 0))
def awA : List UInt8 := [97]
def awL1 : List Trm := knowT [] (termS 0)
def awH : List UInt8 := calledT (termH awA) (numT awL1 (termH awA))
def awL2 : List Trm := knowT awL1 (termH awA)
theorem aw_s : nth awS 0 = 115 ∧ nth awS 1 = 1 ∧ awS.length = 32 := by decide +kernel
theorem aw_h : nth awH 0 = 104 ∧ nth awH 1 = 2 ∧ awH.length = 32 := by decide +kernel
theorem aw_k : knowT awL2 (termH awA) = awL2 ∧ calledT (termH awA) (numT awL2 (termH awA)) = awH ∧ awL2.length = 2 := by decide +kernel
theorem aw_l : awL1.length ≤ 1000000 ∧ awL2.length ≤ 1000000 := by decide +kernel
theorem aw_draw {R : IdlP} (C1 : DrawC R) {F S : Nat → Prop} {p : Value} (w : World) (hR : R w F S p [] 0) : AskQ R 22 #[p] w F S p awL1 1 awS := C1 w hR (Nat.zero_le _) (Nat.zero_le _)
theorem aw_hash {R : IdlP} (C2 : HashC R) {F S : Nat → Prop} {p : Value} {A : Option Addr} {c : Nat} (w : World) (hR : R w F S p awL1 1) (hr : Rd w w.heap.size A c awA) : AskQ R 13 #[p, .slice A 1 c] w F S p awL2 1 awH := C2 (b := awA) w hR aw_l.1 hr (by decide)
theorem rd_aw (w : World) : Rd (w.alloc (.cells #[.int .u8 97] 5 (1, 2))) (w.alloc (.cells #[.int .u8 97] 5 (1, 2))).heap.size (some ⟨w.heap.size, 0, none⟩) 1 awA :=
  ⟨by decide, fun h => (nomatch h), fun _ => ⟨w.heap.size, 0, rfl, by simp, fun k hk => by
    obtain rfl : k = 0 := by have : k < 1 := hk; omega
    have hq := (MapKept.heap_alloc w (.cells #[.int .u8 97] 5 (1, 2))).1
    unfold World.cell?
    simp only [hq]
    rfl⟩⟩
attribute [local irreducible] awS awH awL1 awL2 calledT knowT numT
theorem hashAgain {R : IdlP} (C2 : HashC R) {L : List Trm} {D : Nat} {b nm : List UInt8} (e1 : knowT L (termH b) = L) (e2 : calledT (termH b) (numT L (termH b)) = nm) {F S : Nat → Prop} {p : Value} {A : Option Addr} {c : Nat} (w : World) (hR : R w F S p L D) (hL : L.length ≤ 1000000) (hr : Rd w w.heap.size A c b) (hl : lenOk b) :
    AskQ R 13 #[p, .slice A b.length c] w F S p L D nm := by
  have h := C2 w hR hL hr hl
  rw [e1, e2] at h
  exact h
theorem lenTwo {R : IdlP} (C3 : LenC R) {L : List Trm} {D n : Nat} (e : L.length = n) {F S : Nat → Prop} {p : Value} (w : World) (hR : R w F S p L D) : Calls Try.prog 12 #[p] w fun x w' => x = .returned (.int .i64 (n : Int)) ∧ Below w.heap.size w w' := by
  have h := C3 w hR
  rw [e] at h
  exact h
theorem SitT.again {R : IdlP} {w0 wz : World} {p : Value} {l0 : List RowA} {s0 : List Trm × Nat} {sts : List (Nat × (List Trm × Nat))} {rows : List (Nat × List UInt8)} {Lb : Nat → Bool} {Vb : Nat → Value} (h : SitT R w0 p l0 s0 sts rows Lb Vb wz) {i j : Nat} {bs : List UInt8} {A : Option Addr} {c : Nat}
    (hst : stOf (lset Lb i) s0 sts = stOf Lb s0 sts) (hi : ∀ y ∈ rows, y.1 = i → y.2 = bs) (hj : (j, bs) ∈ rows) (hl : Lb j = true) (hv : Vb j = .slice A bs.length c) : SitT R w0 p l0 s0 sts rows (lset Lb i) (vset Vb i (.slice A bs.length c)) wz := by
  obtain ⟨l, h1, h2, h3⟩ := h
  refine ⟨l, by rw [hst]; exact h1, h2, fun y hy hl' => ?_⟩
  by_cases hn : y.1 = i
  · obtain ⟨A', c', q1, q2⟩ := h3 _ hj hl
    rw [hv] at q1
    simp only [Value.slice.injEq, true_and] at q1
    obtain ⟨rfl, rfl⟩ := q1
    rw [hn, hi y hy hn]
    exact ⟨A, c, by unfold vset; rw [if_pos rfl], q2⟩
  · have e1 : lset Lb i y.1 = Lb y.1 := by unfold lset; rw [if_neg hn]
    have e2 : vset Vb i (.slice A bs.length c) y.1 = Vb y.1 := by unfold vset; rw [if_neg hn]
    rw [e1] at hl'
    rw [e2]
    exact h3 y hy hl'
set_option maxHeartbeats 3200000 in
theorem awake19 {R : IdlP} (K : IdlC R) (N : NewC R) (C1 : DrawC R) (C2 : HashC R) (C3 : LenC R) (w : World) : Calls Try.prog 8 #[] w fun e w' => e = .returned (.bool true) ∧ Below w.heap.size w w' := by
  have HL1 := Lib.hid aw_l
  have HS := Lib.hid aw_s
  have HH := Lib.hid aw_h
  have HK := Lib.hid aw_k
  go_enter Try.func8, Try.ntmps8
  go_wp2_with fail
  go_at_call 9
  refine (sit_new N w [] (fun x hx => nomatch hx)).mono ?_
  rintro e w1 ⟨p, rfl, hs⟩
  obtain ⟨gp, rfl⟩ := sit_use hs fun F S hR => K.ptr hR
  have H1 := Lib.hid hs
  clear hs
  go_wp2_with fail
  go_at_call 22
  refine (sit_ask H1.out fun F S hR => aw_draw (R := R) C1 w1 hR).mono ?_
  rintro e w2 ⟨A2, c2, rfl, hs⟩
  rw [HS.out.2.2]
  have H2 := Lib.hid hs
  clear hs H1
  have hq := Lib.run_convert_bytes_const (P := Try.prog) w2 31 5 #[.int .u8 97] 1 1 Try.underlying31 Try.underlying5
  rw [show (#[.int .u8 97] : Array Value).size = 1 from rfl] at hq
  obtain ⟨v2, ev⟩ : ∃ v, v = w2.alloc (.cells #[.int .u8 97] 5 (1, 1 + 1)) := ⟨_, rfl⟩
  have hb2 : Below w2.heap.size w2 v2 := by rw [ev]; exact (Below.refl _ _).alloc (Nat.le_refl _) _
  have ho2 : Rd v2 v2.heap.size (some ⟨w2.heap.size, 0, none⟩) 1 awA := by rw [ev]; exact rd_aw w2
  have H3 := Lib.hid (H2.out.put K hb2 ho2 (fun ad ea => by cases ea; exact Nat.le_refl _))
  rw [← ev] at hq
  clear ev hb2 ho2 H2
  go_wp2_with fail
  clear hq
  refine (sit_ask H3.out fun F S hR => aw_hash (R := R) C2 v2 hR (H3.out.row (A := some ⟨w2.heap.size, 0, none⟩) (c := 1) (bs := awA) (by simp))).mono ?_
  rintro e w3 ⟨A3, c3, rfl, hs⟩
  rw [HH.out.2.2]
  have h2 := hs.row (A := A2) (c := c2) (bs := awS) (by simp)
  obtain ⟨b2, o2, rfl, _, _⟩ := h2.at_ (k := 0) (by rw [HS.out.2.2]; decide)
  have h3 := hs.row (A := A3) (c := c3) (bs := awH) (by simp)
  obtain ⟨b3, o3, rfl, _, _⟩ := h3.at_ (k := 0) (by rw [HH.out.2.2]; decide)
  have H4 := Lib.hid hs
  clear hs h2 h3 H3
  go_upto_region 5 with fail
  refine wp_region_par 47 55 [some 13, some 14, some 15, some 16, some 17, some 18, some 19, some 20, some 21, some 22, some 23, some 24, some 25, some 26, some 27, some 28, some 29, some 30, some 31, some 32, some 33, some 34, some 35, some 36, some 37, some 38, some 39, some 40, some 41, some 42, some 43, some 44, some 45, some 46, some 47, some 48, some 49, some 50, some 51, some 52, some 53, some 54, some 55, some 56, some 57, some 58, some 59] [34, 35, 36, 44] [some (.slice (some ⟨b2, o2, none⟩) 32 c2), some (.int .i64 32), some (.bool true), some (.bool true), some (.slice (some ⟨b2, o2, none⟩) 32 c2), some (.pointer (some ⟨b2, o2, none⟩)), some (.int .u8 115), some (.bool true), some (.bool true), some (.bool true), some (.slice (some ⟨b2, o2, none⟩) 32 c2), some (.pointer (some ⟨b2, o2 + 1, none⟩)), some (.int .u8 1), some (.bool true), some (.bool true), some (.bool true), some (.slice (some ⟨b3, o3, none⟩) 32 c3), some (.int .i64 32), some (.bool true), some (.bool true), some (.bool true), some (.slice (some ⟨b3, o3, none⟩) 32 c3), some (.pointer (some ⟨b3, o3, none⟩)), some (.int .u8 104), some (.bool true), some (.bool true), some (.bool true), some (.slice (some ⟨b3, o3, none⟩) 32 c3), some (.pointer (some ⟨b3, o3 + 1, none⟩)), some (.int .u8 2), some (.bool true), some (.bool true), some (.bool true), some (.pointer (some ⟨gp, 0, none⟩)), none, none, none, some (.string ⟨(awH).toArray⟩), some (.slice (some ⟨b3, o3, none⟩) 32 c3), some (.string ⟨(awH).toArray⟩), some (.bool true), some (.bool true), some (.bool true), some (.pointer (some ⟨gp, 0, none⟩)), some (.int .i64 2), some (.bool true), some (.bool true)]
    (fun Lb Vb wz => (SitT R w (.pointer (some ⟨gp, 0, none⟩)) ([((some ⟨b3, o3, none⟩ : Option Addr), c3, awH), (some ⟨w2.heap.size, 0, none⟩, 1, awA), (some ⟨b2, o2, none⟩, c2, awS)]) (awL2, 1) [(36, (awL2, 1))] [(35, awA), (36, awH)] Lb Vb wz) ∧ (Lb 34 = true → Lb 35 = false → ∃ w4, wz = w4.alloc (.cells #[.int .u8 97] 5) ∧ SitT R w (.pointer (some ⟨gp, 0, none⟩)) ([((some ⟨b3, o3, none⟩ : Option Addr), c3, awH), (some ⟨w2.heap.size, 0, none⟩, 1, awA), (some ⟨b2, o2, none⟩, c2, awS)]) (awL2, 1) [(36, (awL2, 1))] [(35, awA), (36, awH)] Lb Vb w4 ∧ Vb 34 = .slice (some ⟨w4.heap.size, 0, none⟩) 1 1)) (by kernel_rfl) (by kernel_rfl)
    (fun _ => ⟨SitT.start (H4.out.next K (Below.refl _ _).drew) (by rfl) (by simp), fun h => absurd h (by decide)⟩) (fun u => by simp only [List.filterMap_cons, List.filterMap_nil, puts, List.foldl_cons, List.foldl_nil]; go_simp; exact rfl) ?_ ?_
  · simp only [List.take_succ_cons, List.take_zero]
    refine Par.soft rfl rfl (.slice (some ⟨b2, o2, none⟩) 32 c2) rfl (fun u wz Lb Vb hT hh => ⟨by rfl, by have hT := hT.1; go_simp⟩) ?_
    refine Par.soft rfl rfl (.int .i64 32) rfl (fun u wz Lb Vb hT hh => ⟨by rfl, by have hT := hT.1; have d13 : u 13 = .slice (some ⟨b2, o2, none⟩) 32 c2 := hh.val 0 _ rfl rfl; rw [d13]; go_simp⟩) ?_
    refine Par.soft rfl rfl (.bool true) rfl (fun u wz Lb Vb hT hh => ⟨by rfl, by have hT := hT.1; have d14 : u 14 = .int .i64 32 := hh.val 1 _ rfl rfl; rw [d14]; go_simp⟩) ?_
    refine Par.soft rfl rfl (.bool true) rfl (fun u wz Lb Vb hT hh => ⟨by rfl, by have hT := hT.1; have d15 : u 15 = .bool true := hh.val 2 _ rfl rfl; rw [d15]; go_simp⟩) ?_
    refine Par.soft rfl rfl (.slice (some ⟨b2, o2, none⟩) 32 c2) rfl (fun u wz Lb Vb hT hh => ⟨by have d16 : u 16 = .bool true := hh.val 3 _ rfl rfl; rw [d16]; rfl, by have hT := hT.1; have d16 : u 16 = .bool true := hh.val 3 _ rfl rfl; rw [d16]; go_simp⟩) ?_
    refine Par.soft rfl rfl (.pointer (some ⟨b2, o2, none⟩)) rfl (fun u wz Lb Vb hT hh => ⟨by have d16 : u 16 = .bool true := hh.val 3 _ rfl rfl; rw [d16]; rfl, by have hT := hT.1; have d16 : u 16 = .bool true := hh.val 3 _ rfl rfl; have d17 : u 17 = .slice (some ⟨b2, o2, none⟩) 32 c2 := hh.val 4 _ rfl rfl; rw [d16, d17]; go_simp⟩) ?_
    refine Par.soft rfl rfl (.int .u8 115) rfl (fun u wz Lb Vb hT hh => ⟨by have d16 : u 16 = .bool true := hh.val 3 _ rfl rfl; rw [d16]; rfl, by have hT := hT.1; have d16 : u 16 = .bool true := hh.val 3 _ rfl rfl; have d18 : u 18 = .pointer (some ⟨b2, o2, none⟩) := hh.val 5 _ rfl rfl; rw [d16, d18]; have q0 := (hT.base (A := (some ⟨b2, o2, none⟩)) (c := c2) (bs := awS) (by simp)).cellK (k := 0) (by rw [HS.out.2.2]; decide); rw [HS.out.1] at q0; rw [Nat.add_zero] at q0; go_simp⟩) ?_
    refine Par.soft rfl rfl (.bool true) rfl (fun u wz Lb Vb hT hh => ⟨by have d16 : u 16 = .bool true := hh.val 3 _ rfl rfl; rw [d16]; rfl, by have hT := hT.1; have d16 : u 16 = .bool true := hh.val 3 _ rfl rfl; have d19 : u 19 = .int .u8 115 := hh.val 6 _ rfl rfl; rw [d16, d19]; go_simp⟩) ?_
    refine Par.soft rfl rfl (.bool true) rfl (fun u wz Lb Vb hT hh => ⟨by rfl, by have hT := hT.1; have d16 : u 16 = .bool true := hh.val 3 _ rfl rfl; have d20 : u 20 = .bool true := hh.val 7 _ rfl rfl; rw [d16, d20]; go_simp⟩) ?_
    refine Par.soft rfl rfl (.bool true) rfl (fun u wz Lb Vb hT hh => ⟨by rfl, by have hT := hT.1; have d21 : u 21 = .bool true := hh.val 8 _ rfl rfl; rw [d21]; go_simp⟩) ?_
    refine Par.soft rfl rfl (.slice (some ⟨b2, o2, none⟩) 32 c2) rfl (fun u wz Lb Vb hT hh => ⟨by have d22 : u 22 = .bool true := hh.val 9 _ rfl rfl; rw [d22]; rfl, by have hT := hT.1; have d22 : u 22 = .bool true := hh.val 9 _ rfl rfl; rw [d22]; go_simp⟩) ?_
    refine Par.soft rfl rfl (.pointer (some ⟨b2, o2 + 1, none⟩)) rfl (fun u wz Lb Vb hT hh => ⟨by have d22 : u 22 = .bool true := hh.val 9 _ rfl rfl; rw [d22]; rfl, by have hT := hT.1; have d22 : u 22 = .bool true := hh.val 9 _ rfl rfl; have d23 : u 23 = .slice (some ⟨b2, o2, none⟩) 32 c2 := hh.val 10 _ rfl rfl; rw [d22, d23]; go_simp⟩) ?_
    refine Par.soft rfl rfl (.int .u8 1) rfl (fun u wz Lb Vb hT hh => ⟨by have d22 : u 22 = .bool true := hh.val 9 _ rfl rfl; rw [d22]; rfl, by have hT := hT.1; have d22 : u 22 = .bool true := hh.val 9 _ rfl rfl; have d24 : u 24 = .pointer (some ⟨b2, o2 + 1, none⟩) := hh.val 11 _ rfl rfl; rw [d22, d24]; have q0 := (hT.base (A := (some ⟨b2, o2, none⟩)) (c := c2) (bs := awS) (by simp)).cellK (k := 1) (by rw [HS.out.2.2]; decide); rw [HS.out.2.1] at q0; go_simp⟩) ?_
    refine Par.soft rfl rfl (.bool true) rfl (fun u wz Lb Vb hT hh => ⟨by have d22 : u 22 = .bool true := hh.val 9 _ rfl rfl; rw [d22]; rfl, by have hT := hT.1; have d22 : u 22 = .bool true := hh.val 9 _ rfl rfl; have d25 : u 25 = .int .u8 1 := hh.val 12 _ rfl rfl; rw [d22, d25]; go_simp⟩) ?_
    refine Par.soft rfl rfl (.bool true) rfl (fun u wz Lb Vb hT hh => ⟨by rfl, by have hT := hT.1; have d22 : u 22 = .bool true := hh.val 9 _ rfl rfl; have d26 : u 26 = .bool true := hh.val 13 _ rfl rfl; rw [d22, d26]; go_simp⟩) ?_
    refine Par.soft rfl rfl (.bool true) rfl (fun u wz Lb Vb hT hh => ⟨by rfl, by have hT := hT.1; have d27 : u 27 = .bool true := hh.val 14 _ rfl rfl; rw [d27]; go_simp⟩) ?_
    refine Par.soft rfl rfl (.slice (some ⟨b3, o3, none⟩) 32 c3) rfl (fun u wz Lb Vb hT hh => ⟨by have d28 : u 28 = .bool true := hh.val 15 _ rfl rfl; rw [d28]; rfl, by have hT := hT.1; have d28 : u 28 = .bool true := hh.val 15 _ rfl rfl; rw [d28]; go_simp⟩) ?_
    refine Par.soft rfl rfl (.int .i64 32) rfl (fun u wz Lb Vb hT hh => ⟨by have d28 : u 28 = .bool true := hh.val 15 _ rfl rfl; rw [d28]; rfl, by have hT := hT.1; have d28 : u 28 = .bool true := hh.val 15 _ rfl rfl; have d29 : u 29 = .slice (some ⟨b3, o3, none⟩) 32 c3 := hh.val 16 _ rfl rfl; rw [d28, d29]; go_simp⟩) ?_
    refine Par.soft rfl rfl (.bool true) rfl (fun u wz Lb Vb hT hh => ⟨by have d28 : u 28 = .bool true := hh.val 15 _ rfl rfl; rw [d28]; rfl, by have hT := hT.1; have d28 : u 28 = .bool true := hh.val 15 _ rfl rfl; have d30 : u 30 = .int .i64 32 := hh.val 17 _ rfl rfl; rw [d28, d30]; go_simp⟩) ?_
    refine Par.soft rfl rfl (.bool true) rfl (fun u wz Lb Vb hT hh => ⟨by rfl, by have hT := hT.1; have d28 : u 28 = .bool true := hh.val 15 _ rfl rfl; have d31 : u 31 = .bool true := hh.val 18 _ rfl rfl; rw [d28, d31]; go_simp⟩) ?_
    refine Par.soft rfl rfl (.bool true) rfl (fun u wz Lb Vb hT hh => ⟨by rfl, by have hT := hT.1; have d32 : u 32 = .bool true := hh.val 19 _ rfl rfl; rw [d32]; go_simp⟩) ?_
    refine Par.soft rfl rfl (.slice (some ⟨b3, o3, none⟩) 32 c3) rfl (fun u wz Lb Vb hT hh => ⟨by have d33 : u 33 = .bool true := hh.val 20 _ rfl rfl; rw [d33]; rfl, by have hT := hT.1; have d33 : u 33 = .bool true := hh.val 20 _ rfl rfl; rw [d33]; go_simp⟩) ?_
    refine Par.soft rfl rfl (.pointer (some ⟨b3, o3, none⟩)) rfl (fun u wz Lb Vb hT hh => ⟨by have d33 : u 33 = .bool true := hh.val 20 _ rfl rfl; rw [d33]; rfl, by have hT := hT.1; have d33 : u 33 = .bool true := hh.val 20 _ rfl rfl; have d34 : u 34 = .slice (some ⟨b3, o3, none⟩) 32 c3 := hh.val 21 _ rfl rfl; rw [d33, d34]; go_simp⟩) ?_
    refine Par.soft rfl rfl (.int .u8 104) rfl (fun u wz Lb Vb hT hh => ⟨by have d33 : u 33 = .bool true := hh.val 20 _ rfl rfl; rw [d33]; rfl, by have hT := hT.1; have d33 : u 33 = .bool true := hh.val 20 _ rfl rfl; have d35 : u 35 = .pointer (some ⟨b3, o3, none⟩) := hh.val 22 _ rfl rfl; rw [d33, d35]; have q0 := (hT.base (A := (some ⟨b3, o3, none⟩)) (c := c3) (bs := awH) (by simp)).cellK (k := 0) (by rw [HH.out.2.2]; decide); rw [HH.out.1] at q0; rw [Nat.add_zero] at q0; go_simp⟩) ?_
    refine Par.soft rfl rfl (.bool true) rfl (fun u wz Lb Vb hT hh => ⟨by have d33 : u 33 = .bool true := hh.val 20 _ rfl rfl; rw [d33]; rfl, by have hT := hT.1; have d33 : u 33 = .bool true := hh.val 20 _ rfl rfl; have d36 : u 36 = .int .u8 104 := hh.val 23 _ rfl rfl; rw [d33, d36]; go_simp⟩) ?_
    refine Par.soft rfl rfl (.bool true) rfl (fun u wz Lb Vb hT hh => ⟨by rfl, by have hT := hT.1; have d33 : u 33 = .bool true := hh.val 20 _ rfl rfl; have d37 : u 37 = .bool true := hh.val 24 _ rfl rfl; rw [d33, d37]; go_simp⟩) ?_
    refine Par.soft rfl rfl (.bool true) rfl (fun u wz Lb Vb hT hh => ⟨by rfl, by have hT := hT.1; have d38 : u 38 = .bool true := hh.val 25 _ rfl rfl; rw [d38]; go_simp⟩) ?_
    refine Par.soft rfl rfl (.slice (some ⟨b3, o3, none⟩) 32 c3) rfl (fun u wz Lb Vb hT hh => ⟨by have d39 : u 39 = .bool true := hh.val 26 _ rfl rfl; rw [d39]; rfl, by have hT := hT.1; have d39 : u 39 = .bool true := hh.val 26 _ rfl rfl; rw [d39]; go_simp⟩) ?_
    refine Par.soft rfl rfl (.pointer (some ⟨b3, o3 + 1, none⟩)) rfl (fun u wz Lb Vb hT hh => ⟨by have d39 : u 39 = .bool true := hh.val 26 _ rfl rfl; rw [d39]; rfl, by have hT := hT.1; have d39 : u 39 = .bool true := hh.val 26 _ rfl rfl; have d40 : u 40 = .slice (some ⟨b3, o3, none⟩) 32 c3 := hh.val 27 _ rfl rfl; rw [d39, d40]; go_simp⟩) ?_
    refine Par.soft rfl rfl (.int .u8 2) rfl (fun u wz Lb Vb hT hh => ⟨by have d39 : u 39 = .bool true := hh.val 26 _ rfl rfl; rw [d39]; rfl, by have hT := hT.1; have d39 : u 39 = .bool true := hh.val 26 _ rfl rfl; have d41 : u 41 = .pointer (some ⟨b3, o3 + 1, none⟩) := hh.val 28 _ rfl rfl; rw [d39, d41]; have q0 := (hT.base (A := (some ⟨b3, o3, none⟩)) (c := c3) (bs := awH) (by simp)).cellK (k := 1) (by rw [HH.out.2.2]; decide); rw [HH.out.2.1] at q0; go_simp⟩) ?_
    refine Par.soft rfl rfl (.bool true) rfl (fun u wz Lb Vb hT hh => ⟨by have d39 : u 39 = .bool true := hh.val 26 _ rfl rfl; rw [d39]; rfl, by have hT := hT.1; have d39 : u 39 = .bool true := hh.val 26 _ rfl rfl; have d42 : u 42 = .int .u8 2 := hh.val 29 _ rfl rfl; rw [d39, d42]; go_simp⟩) ?_
    refine Par.soft rfl rfl (.bool true) rfl (fun u wz Lb Vb hT hh => ⟨by rfl, by have hT := hT.1; have d39 : u 39 = .bool true := hh.val 26 _ rfl rfl; have d43 : u 43 = .bool true := hh.val 30 _ rfl rfl; rw [d39, d43]; go_simp⟩) ?_
    refine Par.soft rfl rfl (.bool true) rfl (fun u wz Lb Vb hT hh => ⟨by rfl, by have hT := hT.1; have d44 : u 44 = .bool true := hh.val 31 _ rfl rfl; rw [d44]; go_simp⟩) ?_
    refine Par.soft rfl rfl (.pointer (some ⟨gp, 0, none⟩)) rfl (fun u wz Lb Vb hT hh => ⟨by have d45 : u 45 = .bool true := hh.val 32 _ rfl rfl; rw [d45]; rfl, by have hT := hT.1; have d45 : u 45 = .bool true := hh.val 32 _ rfl rfl; rw [d45]; go_simp⟩) ?_
    refine Par.hard rfl (fun u wz Lb Vb hT hh => ?_) ?_
    · obtain ⟨hT, hT2⟩ := hT
      have d45 : u 45 = .bool true := hh.val 32 _ rfl rfl
      rw [d45]
      have ha := (Below.refl wz.heap.size wz).alloc (Nat.le_refl _) (.cells #[.int .u8 97] 5)
      refine StepP.of rfl (StepC.run (.slice (some ⟨wz.heap.size, 0, none⟩) 1 1) (wz.alloc (.cells #[.int .u8 97] 5)) rfl (by go_simp) ⟨fun c hc => by simp at hc, hT.next K (stOf_off (by simp)) (by simp) ha, fun _ _ => ⟨wz, rfl, hT.keep (stOf_off (by simp)) (by simp), if_pos rfl⟩⟩)
    refine Par.hard rfl (fun u wz Lb Vb hT hh => ?_) ?_
    · obtain ⟨hT, hT2⟩ := hT
      have d45 : u 45 = .bool true := hh.val 32 _ rfl rfl
      rw [d45]
      obtain ⟨w4, ew, hT4, e4⟩ := hT2 (hh.been 34 (by rfl) rfl) (hh.not_ 35 (by rfl))
      have dl : u 47 = .slice (some ⟨w4.heap.size, 0, none⟩) 1 1 := (hh.hv 34 rfl).symm.trans e4
      rw [dl, ew]
      have hq := Lib.run_convert_bytes_const (P := Try.prog) w4 31 5 #[.int .u8 97] 1 1 Try.underlying31 Try.underlying5
      refine StepP.of rfl (StepC.run (.slice (some ⟨w4.heap.size, 0, none⟩) 1 1) (w4.alloc (.cells #[.int .u8 97] 5 (1, 2))) rfl (run_convW rfl (by go_simp) hq) ⟨fun c hc => by simp at hc, hT4.put K (i := 35) (bs := awA) (stOf_off (by simp)) (by simp) (rd_aw w4) (fun ad ea => by cases ea; exact Nat.le_refl _) ((Below.refl _ _).alloc (Nat.le_refl _) _), fun _ h => absurd h (by rw [lset_same]; decide)⟩)
    refine Par.hard rfl (fun u wz Lb Vb hT hh => ?_) ?_
    · obtain ⟨hT, hT2⟩ := hT
      have d45 : u 45 = .bool true := hh.val 32 _ rfl rfl
      have d46 : u 46 = .pointer (some ⟨gp, 0, none⟩) := hh.val 33 _ rfl rfl
      obtain ⟨r48A, r48c, r48e, r48⟩ := hT.row (i := 35) (bs := awA) (by simp) (hh.been 35 (by rfl) rfl)
      have r48d : u 48 = .slice r48A (awA).length r48c := (hh.hv 35 rfl).symm.trans r48e
      rw [d45, d46, r48d]
      have n36 := hh.not_ 36 (by rfl)
      have h0 : stOf Lb (awL2, 1) [(36, (awL2, 1))] = (awL2, 1) := (stOf_stop n36)
      refine StepP.of rfl (StepC.call 13 #[.pointer (some ⟨gp, 0, none⟩), .slice r48A (awA).length r48c] rfl (by go_simp) ((sitT_ask (i := 36) hT h0 (L' := awL2) (D' := 1) ((stOf_go lset_same).trans (stOf_nil)) (by simp) (fun F S hR => hashAgain (R := R) C2 HK.out.1 HK.out.2.1 wz hR HL1.out.2 r48 (by decide))).mono ?_))
      rintro e w' ⟨v, rfl, hT'⟩
      exact ⟨_, rfl, fun c hc => by simp at hc, ⟨hT', fun _ h => absurd ((lset_off (hh.been 35 (by rfl) rfl) (by decide)).symm.trans h) (by decide)⟩⟩
    refine Par.soft rfl rfl (.string ⟨(awH).toArray⟩) rfl (fun u wz Lb Vb hT hh => ⟨by have d45 : u 45 = .bool true := hh.val 32 _ rfl rfl; rw [d45]; rfl, by have hT := hT.1; have d45 : u 45 = .bool true := hh.val 32 _ rfl rfl; obtain ⟨rA, rc, re, r⟩ := hT.row (i := 36) (bs := awH) (by simp) (hh.been 36 (by rfl) rfl); have rd : u 49 = .slice rA (awH).length rc := (hh.hv 36 rfl).symm.trans re; rw [d45, rd]; have hq := run_str (P := Try.prog) wz 31 5 Try.underlying31 Try.underlying5 (dst := 9) Try.underlying9 r; exact run_conv rfl rfl hq⟩) ?_
    refine Par.soft rfl rfl (.slice (some ⟨b3, o3, none⟩) 32 c3) rfl (fun u wz Lb Vb hT hh => ⟨by have d45 : u 45 = .bool true := hh.val 32 _ rfl rfl; rw [d45]; rfl, by have hT := hT.1; have d45 : u 45 = .bool true := hh.val 32 _ rfl rfl; rw [d45]; go_simp⟩) ?_
    refine Par.soft rfl rfl (.string ⟨(awH).toArray⟩) rfl (fun u wz Lb Vb hT hh => ⟨by have d45 : u 45 = .bool true := hh.val 32 _ rfl rfl; rw [d45]; rfl, by have hT := hT.1; have d45 : u 45 = .bool true := hh.val 32 _ rfl rfl; have d51 : u 51 = .slice (some ⟨b3, o3, none⟩) 32 c3 := hh.val 38 _ rfl rfl; rw [d45, d51]; have r := hT.base (A := (some ⟨b3, o3, none⟩)) (c := c3) (bs := awH) (by simp); have hq := run_str (P := Try.prog) wz 31 5 Try.underlying31 Try.underlying5 (dst := 9) Try.underlying9 r; rw [HH.out.2.2] at hq; exact run_conv rfl rfl hq⟩) ?_
    refine Par.soft rfl rfl (.bool true) rfl (fun u wz Lb Vb hT hh => ⟨by have d45 : u 45 = .bool true := hh.val 32 _ rfl rfl; rw [d45]; rfl, by have hT := hT.1; have d45 : u 45 = .bool true := hh.val 32 _ rfl rfl; have d50 : u 50 = .string ⟨(awH).toArray⟩ := hh.val 37 _ rfl rfl; have d52 : u 52 = .string ⟨(awH).toArray⟩ := hh.val 39 _ rfl rfl; rw [d45, d50, d52]; go_simp⟩) ?_
    refine Par.soft rfl rfl (.bool true) rfl (fun u wz Lb Vb hT hh => ⟨by rfl, by have hT := hT.1; have d45 : u 45 = .bool true := hh.val 32 _ rfl rfl; have d53 : u 53 = .bool true := hh.val 40 _ rfl rfl; rw [d45, d53]; go_simp⟩) ?_
    refine Par.soft rfl rfl (.bool true) rfl (fun u wz Lb Vb hT hh => ⟨by rfl, by have hT := hT.1; have d54 : u 54 = .bool true := hh.val 41 _ rfl rfl; rw [d54]; go_simp⟩) ?_
    refine Par.soft rfl rfl (.pointer (some ⟨gp, 0, none⟩)) rfl (fun u wz Lb Vb hT hh => ⟨by have d55 : u 55 = .bool true := hh.val 42 _ rfl rfl; rw [d55]; rfl, by have hT := hT.1; have d55 : u 55 = .bool true := hh.val 42 _ rfl rfl; rw [d55]; go_simp⟩) ?_
    refine Par.hard rfl (fun u wz Lb Vb hT hh => ?_) ?_
    · obtain ⟨hT, hT2⟩ := hT
      have d55 : u 55 = .bool true := hh.val 42 _ rfl rfl
      have d56 : u 56 = .pointer (some ⟨gp, 0, none⟩) := hh.val 43 _ rfl rfl
      rw [d55, d56]
      have b36 := hh.been 36 (by rfl) rfl
      have h0 : stOf Lb (awL2, 1) [(36, (awL2, 1))] = (awL2, 1) := ((stOf_go b36).trans (stOf_nil))
      refine StepP.of rfl (StepC.call 12 #[.pointer (some ⟨gp, 0, none⟩)] rfl (by go_simp) ((hT.use h0 (fun F S hR => lenTwo (R := R) C3 HK.out.2.2 wz hR)).mono ?_))
      rintro e w' ⟨rfl, hb⟩
      exact ⟨_, rfl, fun c hc => by simpa using hc, ⟨hT.next K (stOf_off (by simp)) (by simp) hb, fun _ h => absurd ((lset_off (hh.been 35 (by rfl) rfl) (by decide)).symm.trans h) (by decide)⟩⟩
    refine Par.soft rfl rfl (.bool true) rfl (fun u wz Lb Vb hT hh => ⟨by have d55 : u 55 = .bool true := hh.val 42 _ rfl rfl; rw [d55]; rfl, by have hT := hT.1; have d55 : u 55 = .bool true := hh.val 42 _ rfl rfl; have d57 : u 57 = .int .i64 2 := hh.val 44 _ rfl rfl; rw [d55, d57]; go_simp⟩) ?_
    refine Par.soft rfl rfl (.bool true) rfl (fun u wz Lb Vb hT hh => ⟨by rfl, by have hT := hT.1; have d55 : u 55 = .bool true := hh.val 42 _ rfl rfl; have d58 : u 58 = .bool true := hh.val 45 _ rfl rfl; rw [d55, d58]; go_simp⟩) ?_
    exact Par.nil
  · intro u wz hD hT
    obtain ⟨Lb, Vb, hT, hLV⟩ := hT
    have d59 : u 59 = .bool true := hD 46 _ (by decide) rfl
    have hb := hT.1.below
    rw [d59]
    clear hD hT hLV
    go_wp2_with fail
    go_ret
    exact ⟨rfl, hb⟩
end Go.Proofs.Ytdddcgkgellbgab
