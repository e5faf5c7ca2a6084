/-
  Layer 16, the document: a mark; element, Newer, Has. By an AI agent. Layer 16, the document: Right, place. By an AI agent. Layer 16, the document: there, ahead, Covers. By an AI agent.
-/
import Derived.Test.YtpjeggbkhbghaaaFd2
import Derived.Test.YtpjeggbkhbghaaaFd4
import Derived.Test.YtpjeggbkhbghaaaFa1
namespace Go.Proofs.Ytpjeggbkhbghaaa
open Go Go.RowKit
set_option maxRecDepth 20000
structure Anc where
  id : IDt
  behind : Bool
structure Mrk where
  clock : Int
  author : Int
  from_ : Anc
  upto : Anc
  name : Int
  value : Int
def mrkE : Enc Mrk := ⟨fun x => [.int .i64 x.clock, .int .i64 x.author, .int .i64 x.from_.id.1, .int .i64 x.from_.id.2, .bool x.from_.behind, .int .i64 x.upto.id.1, .int .i64 x.upto.id.2, .bool x.upto.behind, .int .i64 x.name, .int .i64 x.value], 10, fun _ => rfl, fun x v h => by simp at h; rcases h with rfl | rfl | rfl | rfl | rfl | rfl | rfl | rfl | rfl | rfl <;> rfl, by decide⟩
abbrev mrkV (x : Mrk) : Value := .agg #[.int .i64 x.clock, .int .i64 x.author, .int .i64 x.from_.id.1, .int .i64 x.from_.id.2, .bool x.from_.behind, .int .i64 x.upto.id.1, .int .i64 x.upto.id.2, .bool x.upto.behind, .int .i64 x.name, .int .i64 x.value]
theorem mrk_at {w : World} {B c : Nat} {A : Option Addr} {L : List Mrk} (h : RdR mrkE w B A c L) {k : Nat} {x : Mrk} (hk : L[k]? = some x) : ∃ b o, A = some ⟨b, o, none⟩ ∧ b < B ∧ w.cell? ⟨b, o + k * 10, none⟩ = some (.int .i64 x.clock) ∧ w.cell? ⟨b, o + k * 10 + 1, none⟩ = some (.int .i64 x.author) ∧ w.cell? ⟨b, o + k * 10 + 2, none⟩ = some (.int .i64 x.from_.id.1) ∧ w.cell? ⟨b, o + k * 10 + 3, none⟩ = some (.int .i64 x.from_.id.2) ∧ w.cell? ⟨b, o + k * 10 + 4, none⟩ = some (.bool x.from_.behind) ∧ w.cell? ⟨b, o + k * 10 + 5, none⟩ = some (.int .i64 x.upto.id.1) ∧ w.cell? ⟨b, o + k * 10 + 6, none⟩ = some (.int .i64 x.upto.id.2) ∧ w.cell? ⟨b, o + k * 10 + 7, none⟩ = some (.bool x.upto.behind) ∧ w.cell? ⟨b, o + k * 10 + 8, none⟩ = some (.int .i64 x.name) ∧ w.cell? ⟨b, o + k * 10 + 9, none⟩ = some (.int .i64 x.value) := by
  obtain ⟨b, o, e, hlt, hc⟩ := h.at_ hk
  exact ⟨b, o, e, hlt, hc 0 _ rfl, hc 1 _ rfl, hc 2 _ rfl, hc 3 _ rfl, hc 4 _ rfl, hc 5 _ rfl, hc 6 _ rfl, hc 7 _ rfl, hc 8 _ rfl, hc 9 _ rfl⟩
/-- The box of a mark. -/
def MrkB (w : World) (g : Nat) (x : Mrk) : Prop := w.cell? ⟨g, 0, none⟩ = some (.int .i64 x.clock) ∧ w.cell? ⟨g, 1, none⟩ = some (.int .i64 x.author) ∧ w.cell? ⟨g, 2, none⟩ = some (.int .i64 x.from_.id.1) ∧ w.cell? ⟨g, 3, none⟩ = some (.int .i64 x.from_.id.2) ∧ w.cell? ⟨g, 4, none⟩ = some (.bool x.from_.behind) ∧ w.cell? ⟨g, 5, none⟩ = some (.int .i64 x.upto.id.1) ∧ w.cell? ⟨g, 6, none⟩ = some (.int .i64 x.upto.id.2) ∧ w.cell? ⟨g, 7, none⟩ = some (.bool x.upto.behind) ∧ w.cell? ⟨g, 8, none⟩ = some (.int .i64 x.name) ∧ w.cell? ⟨g, 9, none⟩ = some (.int .i64 x.value)
theorem mrk_box (w : World) (x : Mrk) : MrkB (w.alloc (.cells #[.int .i64 x.clock, .int .i64 x.author, .int .i64 x.from_.id.1, .int .i64 x.from_.id.2, .bool x.from_.behind, .int .i64 x.upto.id.1, .int .i64 x.upto.id.2, .bool x.upto.behind, .int .i64 x.name, .int .i64 x.value] 31)) w.heap.size x := by unfold MrkB; simp
theorem MrkB.keep {w w' : World} {g : Nat} {x : Mrk} (h : MrkB w g x) (hb : Below w.heap.size w w') (hg : g < w.heap.size) : MrkB w' g x := by
  obtain ⟨q0, q1, q2, q3, q4, q5, q6, q7, q8, q9⟩ := h
  exact ⟨(hb.cell (p := ⟨g, 0, none⟩) hg).trans q0, (hb.cell (p := ⟨g, 1, none⟩) hg).trans q1, (hb.cell (p := ⟨g, 2, none⟩) hg).trans q2, (hb.cell (p := ⟨g, 3, none⟩) hg).trans q3, (hb.cell (p := ⟨g, 4, none⟩) hg).trans q4, (hb.cell (p := ⟨g, 5, none⟩) hg).trans q5, (hb.cell (p := ⟨g, 6, none⟩) hg).trans q6, (hb.cell (p := ⟨g, 7, none⟩) hg).trans q7, (hb.cell (p := ⟨g, 8, none⟩) hg).trans q8, (hb.cell (p := ⟨g, 9, none⟩) hg).trans q9⟩
/-- May it be an anchor's? -/
def elP (i : IDt) : Prop := i = (0, 0) ∨ (0 ≤ i.1 ∧ i.1 ≤ 4 ∧ 1 ≤ i.2 ∧ i.2 ≤ 1099511627776)
instance (i : IDt) : Decidable (elP i) := by unfold elP; exact inferInstance
def elB (i : IDt) : Bool := decide (elP i)
theorem element_any (i : IDt) (w : World) : Calls Try.prog 40 #[idV i] w fun e w' => e = .returned (.bool (elB i)) ∧ Below w.heap.size w w' := by
  obtain ⟨a, b⟩ := i
  have hb : Below w.heap.size w (w.alloc (.cells #[.int .i64 a, .int .i64 b] 27)) := (Below.refl _ _).alloc (Nat.le_refl _) _
  have HB := Lib.hid hb
  clear hb
  by_cases z1 : a = 0
  · subst z1
    by_cases z2 : b = 0
    · subst z2
      have HI := Lib.hid (show elB (0, 0) = true by unfold elB elP; simp [])
      go_enter Try.func40, Try.ntmps40
      go_wp2_with fail
      go_ret
      rw [HI.out]
      exact ⟨rfl, HB.out⟩
    · by_cases h3 : 1 ≤ b
      · by_cases h4 : b ≤ 1099511627776
        · have HI := Lib.hid (show elB (0, b) = true by unfold elB elP; simp [z2, h3, h4])
          go_enter Try.func40, Try.ntmps40
          go_wp2_with fail
          go_ret
          rw [HI.out]
          exact ⟨rfl, HB.out⟩
        · have HI := Lib.hid (show elB (0, b) = false by unfold elB elP; simp [z2, h3, h4])
          go_enter Try.func40, Try.ntmps40
          go_wp2_with fail
          go_ret
          rw [HI.out]
          exact ⟨rfl, HB.out⟩
      · have HI := Lib.hid (show elB (0, b) = false by unfold elB elP; simp [z2, h3])
        go_enter Try.func40, Try.ntmps40
        go_wp2_with fail
        go_ret
        rw [HI.out]
        exact ⟨rfl, HB.out⟩
  · by_cases h1 : 0 ≤ a
    · by_cases h2 : a ≤ 4
      · by_cases h3 : 1 ≤ b
        · by_cases h4 : b ≤ 1099511627776
          · have HI := Lib.hid (show elB (a, b) = true by unfold elB elP; simp [z1, h1, h2, h3, h4])
            go_enter Try.func40, Try.ntmps40
            go_wp2_with fail
            go_ret
            rw [HI.out]
            exact ⟨rfl, HB.out⟩
          · have HI := Lib.hid (show elB (a, b) = false by unfold elB elP; simp [z1, h1, h2, h3, h4])
            go_enter Try.func40, Try.ntmps40
            go_wp2_with fail
            go_ret
            rw [HI.out]
            exact ⟨rfl, HB.out⟩
        · have HI := Lib.hid (show elB (a, b) = false by unfold elB elP; simp [z1, h1, h2, h3])
          go_enter Try.func40, Try.ntmps40
          go_wp2_with fail
          go_ret
          rw [HI.out]
          exact ⟨rfl, HB.out⟩
      · have HI := Lib.hid (show elB (a, b) = false by unfold elB elP; simp [z1, h1, h2])
        go_enter Try.func40, Try.ntmps40
        go_wp2_with fail
        go_ret
        rw [HI.out]
        exact ⟨rfl, HB.out⟩
    · have HI := Lib.hid (show elB (a, b) = false by unfold elB elP; simp [z1, h1])
      go_enter Try.func40, Try.ntmps40
      go_wp2_with fail
      go_ret
      rw [HI.out]
      exact ⟨rfl, HB.out⟩
/-- Is it newer? -/
def newB (x y : Mrk) : Bool := if x.clock ≠ y.clock then decide (y.clock < x.clock) else decide (y.author < x.author)
theorem newer_any (x y : Mrk) (w : World) : Calls Try.prog 37 #[mrkV x, mrkV y] w fun e w' => e = .returned (.bool (newB x y)) ∧ Below w.heap.size w w' := by
  obtain ⟨v1, ev⟩ : ∃ v, v = (w.alloc (.cells #[.int .i64 x.clock, .int .i64 x.author, .int .i64 x.from_.id.1, .int .i64 x.from_.id.2, .bool x.from_.behind, .int .i64 x.upto.id.1, .int .i64 x.upto.id.2, .bool x.upto.behind, .int .i64 x.name, .int .i64 x.value] 31)).alloc (.cells #[.int .i64 y.clock, .int .i64 y.author, .int .i64 y.from_.id.1, .int .i64 y.from_.id.2, .bool y.from_.behind, .int .i64 y.upto.id.1, .int .i64 y.upto.id.2, .bool y.upto.behind, .int .i64 y.name, .int .i64 y.value] 31) := ⟨_, rfl⟩
  obtain ⟨g, eg⟩ : ∃ g, g = w.heap.size := ⟨_, rfl⟩
  have hb : Below w.heap.size w v1 := by rw [ev]; exact ((Below.refl _ _).alloc (Nat.le_refl _) _).alloc (by simp) _
  have hq : v1.cell? ⟨g, 0, none⟩ = some (.int .i64 x.clock) ∧ v1.cell? ⟨g, 1, none⟩ = some (.int .i64 x.author) ∧ v1.cell? ⟨g + 1, 0, none⟩ = some (.int .i64 y.clock) ∧ v1.cell? ⟨g + 1, 1, none⟩ = some (.int .i64 y.author) := by
    rw [ev, eg]
    simp
  have HB := Lib.hid hb
  have HV := Lib.hid (And.intro ev eg)
  obtain ⟨q0, q1, q2, q3⟩ := hq
  clear ev eg hb
  by_cases h : x.clock = y.clock
  · have HL := Lib.hid (show newB x y = decide (y.author < x.author) by unfold newB; rw [if_neg (fun h' => h' h)])
    have g1 : (x.clock != y.clock) = false := by simp [h]
    clear h
    go_enter Try.func37, Try.ntmps37
    go_upto_region 1 with fail
    rw [← HV.out.1, ← HV.out.2]
    go_wp2_with fail
    go_ret
    rw [HL.out]
    exact ⟨rfl, HB.out⟩
  · have HL := Lib.hid (show newB x y = decide (y.clock < x.clock) by unfold newB; rw [if_pos h])
    have g1 : (x.clock != y.clock) = true := by simp [h]
    clear h
    go_enter Try.func37, Try.ntmps37
    go_upto_region 1 with fail
    rw [← HV.out.1, ← HV.out.2]
    go_wp2_with fail
    go_ret
    rw [HL.out]
    exact ⟨rfl, HB.out⟩
/-- Is there one of a clock and an author? -/
def mhasB (L : List Mrk) (k a : Int) : Bool := L.any fun y => decide (y.clock = k) && decide (y.author = a)
set_option maxHeartbeats 1600000 in
theorem mhas_any {A : Option Addr} {B c n : Nat} {L : List Mrk} (k a : Int) (w : World) (r : RdR mrkE w B A c L) (hB : B ≤ w.heap.size) (hn : L.length = n) (hl : n ≤ 1000000) :
    Calls Try.prog 19 #[.slice A n c, .int .i64 k, .int .i64 a] w fun e w' => e = .returned (.bool (mhasB L k a)) ∧ Below w.heap.size w w' := by
  have HR := Lib.hid (fun wz (hz : Below w.heap.size w wz) => (r.keep (hz.mono hB) : RdR mrkE wz B A c L))
  have HN := Lib.hid hn
  clear r hn
  go_enter Try.func19, Try.ntmps19
  go_wp2_with fail
  go_loopw [7] (fun i wr => ∃ m : Nat, m ≤ n ∧ i = .int .i64 (m : Int) ∧ Below w.heap.size w wr ∧ mhasB (L.take m) k a = false) (fun i _ => n - (intF i).toNat)
  case atStart => exact ⟨0, Nat.zero_le _, rfl, Below.refl _ _, rfl⟩
  case round =>
    obtain ⟨m, hm, rfl, hbr, hno⟩ := hrel
    by_cases hlt : m < n
    · have g1 : (m : Int) < (n : Int) := by omega
      obtain ⟨x, hx⟩ := getD_of (L := L) (k := m) (by rw [HN.out]; exact hlt)
      obtain ⟨b, o, rfl, hbB, x0, x1, _⟩ := mrk_at (HR.out wr hbr) hx
      have HX := Lib.hid (show mhasB (L.take (m + 1)) k a = (decide (x.clock = k) && decide (x.author = a)) by unfold mhasB at *; rw [any_take_succ _ hx, hno]; rfl)
      have HM := Lib.hid (And.intro hbr (And.intro hlt hx))
      clear hx hbr hno hlt hm hbB
      by_cases h1 : x.clock = k
      · rw [h1] at x0
        by_cases h2 : x.author = a
        · rw [h2] at x1
          have HI := Lib.hid (show mhasB L k a = true from List.any_eq_true.2 ⟨x, List.mem_of_getElem? HM.out.2.2, by simp [h1, h2]⟩)
          clear h1 h2
          go_wp2_with fail
          go_ret
          rw [HI.out]
          exact ⟨rfl, HM.out.1⟩
        · have HI := Lib.hid (show mhasB (L.take (m + 1)) k a = false by rw [HX.out]; simp [h2])
          clear h1
          go_wp2_with fail
          exact ⟨⟨m + 1, HM.out.2.1, by go_num, HM.out.1, HI.out⟩, by simp [intF]; have := HM.out.2.1; omega⟩
      · have HI := Lib.hid (show mhasB (L.take (m + 1)) k a = false by rw [HX.out]; simp [h1])
        go_wp2_with fail
        exact ⟨⟨m + 1, HM.out.2.1, by go_num, HM.out.1, HI.out⟩, by simp [intF]; have := HM.out.2.1; omega⟩
    · obtain rfl : m = n := by omega
      have HI := Lib.hid (show mhasB L k a = false by rw [← hno, ← HN.out, List.take_length])
      have HM := Lib.hid hbr
      clear hbr hno hlt hm
      go_wp2_with fail
      go_ret
      rw [HI.out]
      exact ⟨rfl, HM.out⟩
end Go.Proofs.Ytpjeggbkhbghaaa
namespace Go.Proofs.Ytpjeggbkhbghaaa
open Go Go.RowKit
set_option maxRecDepth 20000
/-- May a mark be? -/
def rightP (x : Mrk) : Prop := 1 ≤ x.clock ∧ x.clock ≤ 1099511627776 ∧ 0 ≤ x.author ∧ x.author ≤ 4 ∧ 1 ≤ x.name ∧ x.name ≤ 4 ∧ 0 ≤ x.value ∧ x.value ≤ 1099511627776
instance (x : Mrk) : Decidable (rightP x) := by unfold rightP; exact inferInstance
def rightM (x : Mrk) : Bool := decide (rightP x) && (elB x.from_.id && elB x.upto.id)
set_option maxHeartbeats 3200000 in
theorem mright_any (x : Mrk) (w : World) : Calls Try.prog 14 #[mrkV x] w fun e w' => e = .returned (.bool (rightM x)) ∧ Below w.heap.size w w' := by
  obtain ⟨v1, ev⟩ : ∃ v, v = w.alloc (.cells #[.int .i64 x.clock, .int .i64 x.author, .int .i64 x.from_.id.1, .int .i64 x.from_.id.2, .bool x.from_.behind, .int .i64 x.upto.id.1, .int .i64 x.upto.id.2, .bool x.upto.behind, .int .i64 x.name, .int .i64 x.value] 31) := ⟨_, rfl⟩
  obtain ⟨g, eg⟩ : ∃ g, g = w.heap.size := ⟨_, rfl⟩
  have hb : Below w.heap.size w v1 := by rw [ev]; exact (Below.refl _ _).alloc (Nat.le_refl _) _
  have hq : MrkB v1 g x := by rw [ev, eg]; exact mrk_box w x
  have hg : g < v1.heap.size := by rw [ev, eg]; simp
  have HB := Lib.hid hb
  have HV := Lib.hid (And.intro ev eg)
  have HQ := Lib.hid (And.intro hq hg)
  obtain ⟨q0, q1, q2, q3, q4, q5, q6, q7, q8, q9⟩ := hq
  clear ev eg hb hg q4 q7
  by_cases c1 : x.clock < 1
  · have HR := Lib.hid (show rightM x = false by unfold rightM; rw [decide_eq_false (fun h => by unfold rightP at h; omega)]; rfl)
    go_enter Try.func14, Try.ntmps14
    go_upto_region 1 with fail
    rw [← HV.out.1, ← HV.out.2]
    clear HV q2 q3 q5 q6
    go_wp2_with fail
    go_ret
    rw [HR.out]
    exact ⟨rfl, HB.out⟩
  by_cases c2 : 1099511627776 < x.clock
  · have HR := Lib.hid (show rightM x = false by unfold rightM; rw [decide_eq_false (fun h => by unfold rightP at h; omega)]; rfl)
    go_enter Try.func14, Try.ntmps14
    go_upto_region 1 with fail
    rw [← HV.out.1, ← HV.out.2]
    clear HV q2 q3 q5 q6
    go_wp2_with fail
    go_ret
    rw [HR.out]
    exact ⟨rfl, HB.out⟩
  by_cases c3 : x.author < 0
  · have HR := Lib.hid (show rightM x = false by unfold rightM; rw [decide_eq_false (fun h => by unfold rightP at h; omega)]; rfl)
    go_enter Try.func14, Try.ntmps14
    go_upto_region 1 with fail
    rw [← HV.out.1, ← HV.out.2]
    clear HV q2 q3 q5 q6
    go_wp2_with fail
    go_ret
    rw [HR.out]
    exact ⟨rfl, HB.out⟩
  by_cases c4 : 4 < x.author
  · have HR := Lib.hid (show rightM x = false by unfold rightM; rw [decide_eq_false (fun h => by unfold rightP at h; omega)]; rfl)
    go_enter Try.func14, Try.ntmps14
    go_upto_region 1 with fail
    rw [← HV.out.1, ← HV.out.2]
    clear HV q2 q3 q5 q6
    go_wp2_with fail
    go_ret
    rw [HR.out]
    exact ⟨rfl, HB.out⟩
  by_cases c5 : x.name < 1
  · have HR := Lib.hid (show rightM x = false by unfold rightM; rw [decide_eq_false (fun h => by unfold rightP at h; omega)]; rfl)
    go_enter Try.func14, Try.ntmps14
    go_upto_region 1 with fail
    rw [← HV.out.1, ← HV.out.2]
    clear HV q2 q3 q5 q6
    go_wp2_with fail
    go_ret
    rw [HR.out]
    exact ⟨rfl, HB.out⟩
  by_cases c6 : 4 < x.name
  · have HR := Lib.hid (show rightM x = false by unfold rightM; rw [decide_eq_false (fun h => by unfold rightP at h; omega)]; rfl)
    go_enter Try.func14, Try.ntmps14
    go_upto_region 1 with fail
    rw [← HV.out.1, ← HV.out.2]
    clear HV q2 q3 q5 q6
    go_wp2_with fail
    go_ret
    rw [HR.out]
    exact ⟨rfl, HB.out⟩
  by_cases c7 : x.value < 0
  · have HR := Lib.hid (show rightM x = false by unfold rightM; rw [decide_eq_false (fun h => by unfold rightP at h; omega)]; rfl)
    go_enter Try.func14, Try.ntmps14
    go_upto_region 1 with fail
    rw [← HV.out.1, ← HV.out.2]
    clear HV q2 q3 q5 q6
    go_wp2_with fail
    go_ret
    rw [HR.out]
    exact ⟨rfl, HB.out⟩
  by_cases c8 : 1099511627776 < x.value
  · have HR := Lib.hid (show rightM x = false by unfold rightM; rw [decide_eq_false (fun h => by unfold rightP at h; omega)]; rfl)
    go_enter Try.func14, Try.ntmps14
    go_upto_region 1 with fail
    rw [← HV.out.1, ← HV.out.2]
    clear HV q2 q3 q5 q6
    go_wp2_with fail
    go_ret
    rw [HR.out]
    exact ⟨rfl, HB.out⟩
  have HP := Lib.hid (show decide (rightP x) = true from decide_eq_true (by unfold rightP; omega))
  go_enter Try.func14, Try.ntmps14
  go_upto_region 1 with fail
  rw [← HV.out.1, ← HV.out.2]
  clear HV
  go_upto_region 3 with fail
  clear c1 c2 c3 c4 c5 c6 c7 c8 q0 q1 q5 q6 q8 q9
  go_wp2_with fail
  go_at_call 40
  refine (element_any x.from_.id v1).mono ?_
  rintro e v2 ⟨rfl, h2⟩
  have HB2 := Lib.hid (HB.out.trans (h2.mono HB.out.size))
  obtain ⟨q0, q1, q2', q3', q4, q5, q6, q7, q8, q9⟩ := HQ.out.1.keep h2 HQ.out.2
  obtain ⟨ef, eef⟩ : ∃ b, b = elB x.from_.id := ⟨_, rfl⟩
  rw [← eef]
  have HE := Lib.hid eef
  clear h2 eef q0 q1 q2' q3' q4 q7 q8 q9 q2 q3
  cases ef with
  | false =>
    have HR := Lib.hid (show rightM x = false by unfold rightM; rw [← HE.out]; simp)
    clear q5 q6
    go_wp2_with fail
    go_ret
    rw [HR.out]
    exact ⟨rfl, HB2.out⟩
  | true =>
    have HR := Lib.hid (show rightM x = elB x.upto.id by unfold rightM; rw [← HE.out, HP.out]; rfl)
    go_wp2_with fail
    go_at_call 40
    refine (element_any x.upto.id v2).mono ?_
    rintro e v3 ⟨rfl, h3⟩
    have HB3 := Lib.hid (HB2.out.trans (h3.mono HB2.out.size))
    clear h3 q5 q6
    go_wp2_with fail
    go_ret
    rw [HR.out]
    exact ⟨rfl, HB3.out⟩
/-- An element's place in the order. -/
def plN (N : List Nod) (i : IDt) : Option Nat := N.findIdx? fun y => decide (y.id = i)
def plI (N : List Nod) (i : IDt) : Int := match plN N i with
  | some k => (k : Int)
  | none => -1
theorem plN_at {N : List Nod} {i : IDt} {m : Nat} {y : Nod} (hy : N[m]? = some y) (he : y.id = i) (hno : ∀ z ∈ N.take m, z.id ≠ i) : plN N i = some m := by
  unfold plN
  have hm := (List.getElem?_eq_some_iff.1 hy).1
  rw [List.findIdx?_eq_some_iff_getElem]
  refine ⟨hm, ?_, fun j hj => ?_⟩
  · rw [(List.getElem?_eq_some_iff.1 hy).2]
    exact decide_eq_true he
  · have hjm : j < N.length := by omega
    have : N[j] ∈ N.take m := by
      rw [List.mem_take_iff_getElem]
      exact ⟨j, by omega, rfl⟩
    simpa using hno _ this
theorem plN_none {N : List Nod} {i : IDt} (hno : ∀ z ∈ N, z.id ≠ i) : plN N i = none := by
  unfold plN
  rw [List.findIdx?_eq_none_iff]
  intro z hz
  exact decide_eq_false (hno z hz)
set_option maxHeartbeats 1600000 in
theorem place_any {A : Option Addr} {B c n : Nat} {N : List Nod} (i : IDt) (w : World) (r : RdR nodE w B A c N) (hB : B ≤ w.heap.size) (hn : N.length = n) (hl : n ≤ 1000000) :
    Calls Try.prog 80 #[.slice A n c, idV i] w fun e w' => e = .returned (.int .i64 (plI N i)) ∧ Below w.heap.size w w' := by
  obtain ⟨v1, ev⟩ : ∃ v, v = w.alloc (.cells #[.int .i64 i.1, .int .i64 i.2] 27) := ⟨_, rfl⟩
  obtain ⟨g, eg⟩ : ∃ g, g = w.heap.size := ⟨_, rfl⟩
  have hb : Below w.heap.size w v1 := by rw [ev]; exact (Below.refl _ _).alloc (Nat.le_refl _) _
  have og : O2 v1 w.heap.size 27 g (.int .i64 i.1) (.int .i64 i.2) := by rw [ev, eg]; exact O2.newz (Nat.le_refl _) _ _ _
  have HR := Lib.hid (fun wz (hz : Below v1.heap.size v1 wz) => And.intro (r.keep ((hb.trans (hz.mono hb.size)).mono hB) : RdR nodE wz B A c N) (OwnF.keep og hz : O2 wz w.heap.size 27 g (.int .i64 i.1) (.int .i64 i.2)))
  have HN := Lib.hid (And.intro hn (And.intro hb hB))
  have HV := Lib.hid (And.intro ev eg)
  clear r hn ev eg hb og hB
  go_enter Try.func80, Try.ntmps80
  go_upto_region 1 with fail
  rw [← HV.out.1, ← HV.out.2]
  clear HV
  go_wp2_with fail
  go_loopw [5] (fun q wr => ∃ m : Nat, m ≤ n ∧ q = .int .i64 (m : Int) ∧ Below v1.heap.size v1 wr ∧ ∀ z ∈ N.take m, z.id ≠ i) (fun q _ => n - (intF q).toNat)
  case atStart => exact ⟨0, Nat.zero_le _, rfl, Below.refl _ _, fun z hz => by simp at hz⟩
  case round =>
    obtain ⟨m, hm, rfl, hbr, hno⟩ := hrel
    by_cases hlt : m < n
    · have g1 : (m : Int) < (n : Int) := by omega
      obtain ⟨y, hy⟩ := getD_of (L := N) (k := m) (by rw [HN.out.1]; exact hlt)
      obtain ⟨r1, og⟩ := HR.out wr hbr
      obtain ⟨b, o, rfl, hbB, x0, x1, _⟩ := nod_at r1 hy
      obtain ⟨y1, ey1⟩ : ∃ q, q = y.id.1 := ⟨_, rfl⟩
      obtain ⟨y2, ey2⟩ : ∃ q, q = y.id.2 := ⟨_, rfl⟩
      rw [← ey1] at x0
      rw [← ey2] at x1
      have hbw : b < wr.heap.size := by have h1 := HN.out.2.2; have h2 := HN.out.2.1.size; have h3 := hbr.size; omega
      have HS := Lib.hid (fun wz (hz : Below wr.heap.size wr wz) => show wz.cell? ⟨b, o + m * 4, none⟩ = some (.int .i64 y1) ∧ wz.cell? ⟨b, o + m * 4 + 1, none⟩ = some (.int .i64 y2) ∧ wz.cell? ⟨g, 0, none⟩ = some (.int .i64 i.1) ∧ wz.cell? ⟨g, 1, none⟩ = some (.int .i64 i.2) from by
        have o9 : O2 wz w.heap.size 27 g (.int .i64 i.1) (.int .i64 i.2) := OwnF.keep og hz
        exact ⟨(hz.cell (p := ⟨b, o + m * 4, none⟩) hbw).trans x0, (hz.cell (p := ⟨b, o + m * 4 + 1, none⟩) hbw).trans x1, o9.c0, o9.c1⟩)
      have HM := Lib.hid (And.intro hbr (And.intro hlt (And.intro hy hno)))
      have HY := Lib.hid (And.intro ey1 ey2)
      have hl9 := hl
      clear hbr hlt hy hno r1 og x0 x1 hbB hbw ey1 ey2 hm
      go_upto_region 4 with fail
      refine wp_region_inv 6 [12, 13, 14, 15, 16, 17] [.val (.slice (some ⟨b, o, none⟩) n c), .val (.int .i64 (m : Int)), .val (.pointer (some ⟨b, o + m * 4, none⟩)), .val (.pointer (some ⟨b, o + m * 4, none⟩)), .val (.agg #[.int .i64 y1, .int .i64 y2]), .val (.agg #[.int .i64 i.1, .int .i64 i.2])] (fun wz => Below wr.heap.size wr wz) (by kernel_rfl) (by kernel_rfl) (fun wz wz' hz hb => hz.trans (hb.mono hz.size)) ((Below.refl _ _).drew) (fun u => by simp only [puts, List.foldl_cons, List.foldl_nil]; go_simp; exact rfl) ?_ ?_
      · simp only [List.take_succ_cons, List.take_zero]
        refine Obs.cons (fun u w hS hd => ?_) ?_
        · exact Gv.run (.slice (some ⟨b, o, none⟩) n c) rfl (by go_simp) rfl
        refine Obs.cons (fun u w hS hd => ?_) ?_
        · exact Gv.run (.int .i64 (m : Int)) rfl (by go_simp) rfl
        refine Obs.cons (fun u w hS hd => ?_) ?_
        · have d12 : u 12 = .slice (some ⟨b, o, none⟩) n c := dep hd 0 rfl
          have d13 : u 13 = .int .i64 (m : Int) := dep hd 1 rfl
          rw [d12, d13]
          exact Gv.run (.pointer (some ⟨b, o + m * 4, none⟩)) rfl (by go_simp) rfl
        refine Obs.cons (fun u w hS hd => ?_) ?_
        · have d14 : u 14 = .pointer (some ⟨b, o + m * 4, none⟩) := dep hd 2 rfl
          rw [d14]
          exact Gv.run (.pointer (some ⟨b, o + m * 4, none⟩)) rfl (by go_simp) rfl
        refine Obs.cons (fun u w hS hd => ?_) ?_
        · have d15 : u 15 = .pointer (some ⟨b, o + m * 4, none⟩) := dep hd 3 rfl
          rw [d15]
          exact Gv.run (.agg #[.int .i64 y1, .int .i64 y2]) rfl (by obtain ⟨k0, k1, k2, k3⟩ := HS.out w hS; go_simp) rfl
        refine Obs.cons (fun u w hS hd => ?_) ?_
        · exact Gv.run (.agg #[.int .i64 i.1, .int .i64 i.2]) rfl (by obtain ⟨k0, k1, k2, k3⟩ := HS.out w hS; go_simp) rfl
        exact Obs.nil
      intro u v3 hS hd
      have d16 : u 16 = .agg #[.int .i64 y1, .int .i64 y2] := hd 4 (by decide)
      have d17 : u 17 = .agg #[.int .i64 i.1, .int .i64 i.2] := hd 5 (by decide)
      rw [d16, d17]
      simp only [List.drop_succ_cons, List.drop_zero]
      have HB3 := Lib.hid (HM.out.1.trans (hS.mono HM.out.1.size))
      clear hS hd d16 d17
      have hnext : ¬ y.id = i → ∀ z ∈ N.take (m + 1), z.id ≠ i := fun hne z hz => by
        rw [take_snoc HM.out.2.2.1] at hz
        rcases List.mem_append.1 hz with h | h
        · exact HM.out.2.2.2 z h
        · rw [List.mem_singleton] at h
          rw [h]
          exact hne
      have HNX := Lib.hid hnext
      clear hnext
      by_cases h1 : y1 = i.1
      · by_cases h2 : y2 = i.2
        · have HI := Lib.hid (show plI N i = (m : Int) by unfold plI; rw [plN_at HM.out.2.2.1 (Prod.ext (HY.out.1.symm.trans h1) (HY.out.2.symm.trans h2)) HM.out.2.2.2])
          subst h1 h2
          go_wp2_with fail
          go_ret
          rw [HI.out]
          exact ⟨rfl, HN.out.2.1.trans (HB3.out.mono HN.out.2.1.size)⟩
        · have HI := Lib.hid (HNX.out fun e => h2 (by rw [HY.out.2, e]))
          subst h1
          go_wp2_with fail
          exact ⟨⟨m + 1, HM.out.2.1, by go_num, HB3.out, HI.out⟩, by simp [intF]; have := HM.out.2.1; omega⟩
      · have HI := Lib.hid (HNX.out fun e => h1 (by rw [HY.out.1, e]))
        go_wp2_with fail
        exact ⟨⟨m + 1, HM.out.2.1, by go_num, HB3.out, HI.out⟩, by simp [intF]; have := HM.out.2.1; omega⟩
    · obtain rfl : m = n := by omega
      have HI := Lib.hid (show plI N i = -1 by unfold plI; rw [plN_none (fun z hz => hno z (by rw [← HN.out.1, List.take_length]; exact hz))])
      have HM := Lib.hid hbr
      clear hbr hno hlt hm
      go_wp2_with fail
      go_ret
      rw [HI.out]
      exact ⟨rfl, HN.out.2.1.trans (HM.out.mono HN.out.2.1.size)⟩
end Go.Proofs.Ytpjeggbkhbghaaa
namespace Go.Proofs.Ytpjeggbkhbghaaa
open Go Go.RowKit
set_option maxRecDepth 20000
abbrev ancV (a : Anc) : Value := .agg #[.int .i64 a.id.1, .int .i64 a.id.2, .bool a.behind]
def thereB (N : List Nod) (a : Anc) : Bool := decide (a.id = (0, 0)) || (plN N a.id).isSome
def aheadB (N : List Nod) (a : Anc) (t : Int) : Bool := if a.id = (0, 0) then a.behind else decide (plI N a.id < t) || (decide (plI N a.id = t) && !a.behind)
def coversB (N : List Nod) (m : Mrk) (t : Int) : Bool := thereB N m.from_ && (thereB N m.upto && (aheadB N m.from_ t && !aheadB N m.upto t))
set_option maxHeartbeats 800000 in
theorem there_any {A : Option Addr} {B c n : Nat} {N : List Nod} (a : Anc) (w : World) (r : RdR nodE w B A c N) (hB : B ≤ w.heap.size) (hn : N.length = n) (hl : n ≤ 1000000) :
    Calls Try.prog 70 #[.slice A n c, ancV a] w fun e w' => e = .returned (.bool (thereB N a)) ∧ Below w.heap.size w w' := by
  obtain ⟨v1, ev⟩ : ∃ v, v = w.alloc (.cells #[.int .i64 a.id.1, .int .i64 a.id.2, .bool a.behind] 29) := ⟨_, rfl⟩
  obtain ⟨g, eg⟩ : ∃ g, g = w.heap.size := ⟨_, rfl⟩
  have hb : Below w.heap.size w v1 := by rw [ev]; exact (Below.refl _ _).alloc (Nat.le_refl _) _
  have hq : v1.cell? ⟨g, 0, none⟩ = some (.int .i64 a.id.1) ∧ v1.cell? ⟨g, 1, none⟩ = some (.int .i64 a.id.2) ∧ v1.cell? ⟨g, 2, none⟩ = some (.bool a.behind) := by
    rw [ev, eg]
    simp
  have hg : g < v1.heap.size := by rw [ev, eg]; simp
  have HB := Lib.hid hb
  have HV := Lib.hid (And.intro ev eg)
  have HP := Lib.hid (fun (i1 i2 : Int) (h1 : a.id.1 = i1) (h2 : a.id.2 = i2) => show Calls Try.prog 80 #[.slice A n c, .agg #[.int .i64 i1, .int .i64 i2]] v1 fun e w' => e = .returned (.int .i64 (plI N a.id)) ∧ Below v1.heap.size v1 w' from by
    subst h1 h2
    exact place_any a.id v1 (r.keep (hb.mono hB)) (Nat.le_trans hB hb.size) hn hl)
  have HC := Lib.hid (fun wz (hz : Below v1.heap.size v1 wz) => (hz.cell (p := ⟨g, 2, none⟩) hg).trans hq.2.2)
  obtain ⟨q0, q1, q2⟩ := hq
  clear ev eg hb r hn hg
  clear q2
  by_cases z : a.id = (0, 0)
  · have HR := Lib.hid (show thereB N a = true by unfold thereB; simp [z])
    have z1 : a.id.1 = 0 := by rw [z]
    have z2 : a.id.2 = 0 := by rw [z]
    rw [z1] at q0
    rw [z2] at q1
    clear z z1 z2 HP
    go_enter Try.func70, Try.ntmps70
    go_upto_region 1 with fail
    rw [← HV.out.1, ← HV.out.2]
    clear HV
    go_wp2_with fail
    go_ret
    rw [HR.out]
    exact ⟨rfl, HB.out⟩
  have hid : (a.id.1 = 0 → ¬ a.id.2 = 0) := fun h1 h2 => z (Prod.ext h1 h2)
  have hnn : ¬ (a.id.1 = 0 ∧ a.id.2 = 0) := fun h => hid h.1 h.2
  have hdd : (decide (a.id.1 = 0) && decide (a.id.2 = 0)) = false := by simpa using hid
  have hbb : (a.id.1 == 0 && a.id.2 == 0) = false := by simpa using hid
  have HK := Lib.hid (show thereB N a = (plN N a.id).isSome by unfold thereB; rw [decide_eq_false z]; rfl)
  clear z
  go_enter Try.func70, Try.ntmps70
  go_upto_region 1 with fail
  rw [← HV.out.1, ← HV.out.2]
  clear HV
  go_wp2_with fail
  all_goals
    go_at_call 80
    refine (HP.out _ _ (by first | rfl | assumption) (by first | rfl | assumption)).mono ?_
    rintro e v2 ⟨rfl, h2⟩
    have HB2 := Lib.hid (HB.out.trans (h2.mono HB.out.size))
    clear h2 HP q0 q1
    cases hp : plN N a.id with
    | none =>
      have e1 : plI N a.id = -1 := by unfold plI; rw [hp]
      rw [e1]
      rw [hp] at HK
      clear hp e1
      go_wp2_with fail
      go_ret
      rw [HK.out]
      exact ⟨rfl, HB2.out⟩
    | some k =>
      have e1 : plI N a.id = (k : Int) := by unfold plI; rw [hp]
      rw [e1]
      rw [hp] at HK
      have hk0 : (0 : Int) ≤ (k : Int) := by omega
      clear hp e1
      go_wp2_with fail
      go_ret
      rw [HK.out]
      exact ⟨rfl, HB2.out⟩
set_option maxHeartbeats 800000 in
theorem ahead_any {A : Option Addr} {B c n : Nat} {N : List Nod} (a : Anc) (t : Int) (w : World) (r : RdR nodE w B A c N) (hB : B ≤ w.heap.size) (hn : N.length = n) (hl : n ≤ 1000000) :
    Calls Try.prog 71 #[.slice A n c, ancV a, .int .i64 t] w fun e w' => e = .returned (.bool (aheadB N a t)) ∧ Below w.heap.size w w' := by
  obtain ⟨v1, ev⟩ : ∃ v, v = w.alloc (.cells #[.int .i64 a.id.1, .int .i64 a.id.2, .bool a.behind] 29) := ⟨_, rfl⟩
  obtain ⟨g, eg⟩ : ∃ g, g = w.heap.size := ⟨_, rfl⟩
  have hb : Below w.heap.size w v1 := by rw [ev]; exact (Below.refl _ _).alloc (Nat.le_refl _) _
  have hq : v1.cell? ⟨g, 0, none⟩ = some (.int .i64 a.id.1) ∧ v1.cell? ⟨g, 1, none⟩ = some (.int .i64 a.id.2) ∧ v1.cell? ⟨g, 2, none⟩ = some (.bool a.behind) := by
    rw [ev, eg]
    simp
  have hg : g < v1.heap.size := by rw [ev, eg]; simp
  have HB := Lib.hid hb
  have HV := Lib.hid (And.intro ev eg)
  have HP := Lib.hid (fun (i1 i2 : Int) (h1 : a.id.1 = i1) (h2 : a.id.2 = i2) => show Calls Try.prog 80 #[.slice A n c, .agg #[.int .i64 i1, .int .i64 i2]] v1 fun e w' => e = .returned (.int .i64 (plI N a.id)) ∧ Below v1.heap.size v1 w' from by
    subst h1 h2
    exact place_any a.id v1 (r.keep (hb.mono hB)) (Nat.le_trans hB hb.size) hn hl)
  have HC := Lib.hid (fun wz (hz : Below v1.heap.size v1 wz) => (hz.cell (p := ⟨g, 2, none⟩) hg).trans hq.2.2)
  obtain ⟨q0, q1, q2⟩ := hq
  clear ev eg hb r hn hg
  by_cases z : a.id = (0, 0)
  · have HR := Lib.hid (show aheadB N a t = a.behind by unfold aheadB; rw [if_pos z])
    have z1 : a.id.1 = 0 := by rw [z]
    have z2 : a.id.2 = 0 := by rw [z]
    rw [z1] at q0
    rw [z2] at q1
    clear z z1 z2 HP
    go_enter Try.func71, Try.ntmps71
    go_upto_region 1 with fail
    rw [← HV.out.1, ← HV.out.2]
    clear HV
    go_wp2_with fail
    go_ret
    rw [HR.out]
    exact ⟨rfl, HB.out⟩
  have hid : (a.id.1 = 0 → ¬ a.id.2 = 0) := fun h1 h2 => z (Prod.ext h1 h2)
  have hnn : ¬ (a.id.1 = 0 ∧ a.id.2 = 0) := fun h => hid h.1 h.2
  have hdd : (decide (a.id.1 = 0) && decide (a.id.2 = 0)) = false := by simpa using hid
  have hbb : (a.id.1 == 0 && a.id.2 == 0) = false := by simpa using hid
  obtain ⟨k, ek⟩ : ∃ k, k = plI N a.id := ⟨_, rfl⟩
  have HK := Lib.hid (show aheadB N a t = (decide (k < t) || (decide (k = t) && !a.behind)) by unfold aheadB; rw [if_neg z, ek])
  rw [← ek] at HP
  clear ek
  clear z q2
  go_enter Try.func71, Try.ntmps71
  go_upto_region 1 with fail
  rw [← HV.out.1, ← HV.out.2]
  clear HV
  go_wp2_with fail
  all_goals
    go_at_call 80
    refine (HP.out _ _ (by first | rfl | assumption) (by first | rfl | assumption)).mono ?_
    rintro e v2 ⟨rfl, h2⟩
    have HB2 := Lib.hid (HB.out.trans (h2.mono HB.out.size))
    have q2 := HC.out v2 h2
    clear h2 HP q0 q1
    by_cases k1 : k < t
    · go_wp2_with fail
      go_ret
      rw [HK.out]
      exact ⟨by simp [k1], HB2.out⟩
    · by_cases k2 : k = t
      · subst k2
        go_wp2_with fail
        go_ret
        rw [HK.out]
        exact ⟨by simp, HB2.out⟩
      · go_wp2_with fail
        go_ret
        rw [HK.out]
        exact ⟨by simp [k2], HB2.out⟩
set_option maxHeartbeats 3200000 in
theorem covers_any {A : Option Addr} {B c n : Nat} {N : List Nod} (x : Mrk) (t : Int) (w : World) (r : RdR nodE w B A c N) (hB : B ≤ w.heap.size) (hn : N.length = n) (hl : n ≤ 1000000) :
    Calls Try.prog 50 #[.slice A n c, mrkV x, .int .i64 t] w fun e w' => e = .returned (.bool (coversB N x t)) ∧ Below w.heap.size w w' := by
  obtain ⟨v1, ev⟩ : ∃ v, v = w.alloc (.cells #[.int .i64 x.clock, .int .i64 x.author, .int .i64 x.from_.id.1, .int .i64 x.from_.id.2, .bool x.from_.behind, .int .i64 x.upto.id.1, .int .i64 x.upto.id.2, .bool x.upto.behind, .int .i64 x.name, .int .i64 x.value] 31) := ⟨_, rfl⟩
  obtain ⟨g, eg⟩ : ∃ g, g = w.heap.size := ⟨_, rfl⟩
  have hb : Below w.heap.size w v1 := by rw [ev]; exact (Below.refl _ _).alloc (Nat.le_refl _) _
  have hq : MrkB v1 g x := by rw [ev, eg]; exact mrk_box w x
  have hg : g < v1.heap.size := by rw [ev, eg]; simp
  have HB := Lib.hid hb
  have HV := Lib.hid (And.intro ev eg)
  have HR := Lib.hid (fun wz (hz : Below v1.heap.size v1 wz) => And.intro (r.keep ((hb.trans (hz.mono hb.size)).mono hB) : RdR nodE wz B A c N) (And.intro (Nat.le_trans hB (Nat.le_trans hb.size hz.size)) (hq.keep hz hg)))
  have HN := Lib.hid (And.intro hn hl)
  obtain ⟨b1, e1⟩ : ∃ b, b = thereB N x.from_ := ⟨_, rfl⟩
  obtain ⟨b2, e2⟩ : ∃ b, b = thereB N x.upto := ⟨_, rfl⟩
  obtain ⟨b3, e3⟩ : ∃ b, b = aheadB N x.from_ t := ⟨_, rfl⟩
  obtain ⟨b4, e4⟩ : ∃ b, b = aheadB N x.upto t := ⟨_, rfl⟩
  have HE := Lib.hid (show coversB N x t = (b1 && (b2 && (b3 && !b4))) by unfold coversB; rw [e1, e2, e3, e4])
  have H1 := Lib.hid (fun wz (hz : Below v1.heap.size v1 wz) => there_any x.from_ wz (HR.out wz hz).1 (HR.out wz hz).2.1 HN.out.1 HN.out.2)
  have H2 := Lib.hid (fun wz (hz : Below v1.heap.size v1 wz) => there_any x.upto wz (HR.out wz hz).1 (HR.out wz hz).2.1 HN.out.1 HN.out.2)
  have H3 := Lib.hid (fun wz (hz : Below v1.heap.size v1 wz) => ahead_any x.from_ t wz (HR.out wz hz).1 (HR.out wz hz).2.1 HN.out.1 HN.out.2)
  have H4 := Lib.hid (fun wz (hz : Below v1.heap.size v1 wz) => ahead_any x.upto t wz (HR.out wz hz).1 (HR.out wz hz).2.1 HN.out.1 HN.out.2)
  rw [← e1] at H1
  rw [← e2] at H2
  rw [← e3] at H3
  rw [← e4] at H4
  clear ev eg hb hq hg r e1 e2 e3 e4 hn hl
  go_enter Try.func50, Try.ntmps50
  go_upto_region 1 with fail
  rw [← HV.out.1, ← HV.out.2]
  clear HV
  obtain ⟨q0, q1, q2, q3, q4, q5, q6, q7, q8, q9⟩ := (HR.out v1 (Below.refl _ _)).2.2
  go_wp2_with fail
  go_at_call 70
  refine (H1.out v1 (Below.refl _ _)).mono ?_
  rintro e w1 ⟨rfl, h0⟩
  have HC1 := Lib.hid (h0)
  clear h0 q0 q1 q2 q3 q4 q5 q6 q7 q8 q9
  obtain ⟨q0, q1, q2, q3, q4, q5, q6, q7, q8, q9⟩ := (HR.out w1 HC1.out).2.2
  cases b1 with
  | false =>
    go_wp2_with fail
    go_ret
    rw [HE.out]
    exact ⟨by simp, HB.out.trans (HC1.out.mono HB.out.size)⟩
  | true =>
    go_wp2_with fail
    go_at_call 70
    refine (H2.out w1 HC1.out).mono ?_
    rintro e w2 ⟨rfl, h0⟩
    have HC2 := Lib.hid (HC1.out.trans (h0.mono HC1.out.size))
    clear h0 q0 q1 q2 q3 q4 q5 q6 q7 q8 q9
    obtain ⟨q0, q1, q2, q3, q4, q5, q6, q7, q8, q9⟩ := (HR.out w2 HC2.out).2.2
    cases b2 with
    | false =>
      go_wp2_with fail
      go_ret
      rw [HE.out]
      exact ⟨by simp, HB.out.trans (HC2.out.mono HB.out.size)⟩
    | true =>
      go_wp2_with fail
      go_at_call 71
      refine (H3.out w2 HC2.out).mono ?_
      rintro e w3 ⟨rfl, h0⟩
      have HC3 := Lib.hid (HC2.out.trans (h0.mono HC2.out.size))
      clear h0 q0 q1 q2 q3 q4 q5 q6 q7 q8 q9
      obtain ⟨q0, q1, q2, q3, q4, q5, q6, q7, q8, q9⟩ := (HR.out w3 HC3.out).2.2
      cases b3 with
      | false =>
        go_wp2_with fail
        go_ret
        rw [HE.out]
        exact ⟨by simp, HB.out.trans (HC3.out.mono HB.out.size)⟩
      | true =>
        go_wp2_with fail
        go_at_call 71
        refine (H4.out w3 HC3.out).mono ?_
        rintro e w4 ⟨rfl, h0⟩
        have HC4 := Lib.hid (HC3.out.trans (h0.mono HC3.out.size))
        clear h0 q0 q1 q2 q3 q4 q5 q6 q7 q8 q9
        cases b4
        all_goals
          go_wp2_with fail
          go_ret
          rw [HE.out]
          exact ⟨by simp, HB.out.trans (HC4.out.mono HB.out.size)⟩
end Go.Proofs.Ytpjeggbkhbghaaa
