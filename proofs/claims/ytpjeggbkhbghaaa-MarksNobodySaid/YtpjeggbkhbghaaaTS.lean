/-
  Layer 16, the landed code: cmp.Or, what compares two marks, where a mark stands. By an AI agent. Layer 16, the landed code: Right; a book in memory; New, Has, List, Last, Clone. By an AI agent.
-/
import Derived.Test.YtpjeggbkhbghaaaMc1
import Derived.Test.YtpjeggbkhbghaaaSb
import Derived.Test.YtpjeggbkhbghaaaTP
import Derived.Test.YtpjeggbkhbghaaaTZ
import Derived.WalkSpells
namespace Go.Proofs.Ytpjeggbkhbghaaa
open Go Go.RowKit
set_option maxRecDepth 20000
def two16 (a b : Int) (k : Nat) : Value := .int .i64 (if k = 0 then a else b)
def cmpK (a b : IDt) : Int := if cmpI a.1 b.1 ≠ 0 then cmpI a.1 b.1 else cmpI a.2 b.2
theorem cmpK_neg (a b : IDt) : cmpK a b < 0 ↔ idLt a b = true := by
  unfold cmpK cmpI idLt
  by_cases h1 : a.1 < b.1
  · rw [if_pos h1, if_pos (by decide), if_pos (by omega)]
    simp [h1]
  · by_cases h2 : b.1 < a.1
    · rw [if_neg h1, if_pos h2, if_pos (by decide), if_pos (by omega)]
      simp [h1]
    · have e : a.1 = b.1 := by omega
      by_cases h3 : a.2 < b.2
      · rw [if_neg h1, if_neg h2, if_neg (by decide), if_pos h3, if_neg (fun h : a.1 ≠ b.1 => h e)]
        simp [h3]
      · rw [if_neg h1, if_neg h2, if_neg (by decide), if_neg h3, if_neg (fun h : a.1 ≠ b.1 => h e)]
        split <;> simp [h3]
theorem cmpK_zero (a b : IDt) : cmpK a b = 0 ↔ a = b := by
  unfold cmpK cmpI
  by_cases h1 : a.1 < b.1
  · rw [if_pos h1, if_pos (by decide)]
    exact ⟨fun h => absurd h (by decide), fun h => by rw [h] at h1; omega⟩
  · by_cases h2 : b.1 < a.1
    · rw [if_neg h1, if_pos h2, if_pos (by decide)]
      exact ⟨fun h => absurd h (by decide), fun h => by rw [h] at h2; omega⟩
    · rw [if_neg h1, if_neg h2, if_neg (by decide)]
      by_cases h3 : a.2 < b.2
      · rw [if_pos h3]
        exact ⟨fun h => absurd h (by decide), fun h => by rw [h] at h3; omega⟩
      · rw [if_neg h3]
        by_cases h4 : b.2 < a.2
        · rw [if_pos h4]
          exact ⟨fun h => absurd h (by decide), fun h => by rw [h] at h4; omega⟩
        · rw [if_neg h4]
          exact ⟨fun _ => Prod.ext (by omega) (by omega), fun _ => rfl⟩
theorem or_any {A : Option Addr} {B c : Nat} (x y : Int) (w : World) (r : RdF w B A c 2 (two16 x y)) : Calls Try.prog 61 #[.slice A 2 c] w fun e w' => e = .returned (.int .i64 (if x ≠ 0 then x else y)) ∧ w' = w := by
  obtain ⟨b, o, rfl, _, c0⟩ := r.at_ (k := 0) (by decide)
  obtain ⟨b', o', e2, _, c1⟩ := r.at_ (k := 1) (by decide)
  simp only [Option.some.injEq, Addr.mk.injEq, and_true] at e2
  obtain ⟨rfl, rfl⟩ := e2
  rw [Nat.add_zero] at c0
  have d0 : w.cell? ⟨b, o, none⟩ = some (.int .i64 x) := c0
  have d1 : w.cell? ⟨b, o + 1, none⟩ = some (.int .i64 y) := c1
  clear c0 c1
  obtain ⟨q, eq⟩ : ∃ q, q = (if x ≠ 0 then x else y) := ⟨_, rfl⟩
  rw [← eq]
  have HQ := Lib.hid eq
  clear eq r
  go_enter Try.func61, Try.ntmps61
  go_wp2_with fail
  go_loopw [8] (fun i wr => wr = w ∧ ∃ k : Nat, k ≤ 2 ∧ i = .int .i64 (k : Int) ∧ (1 ≤ k → x = 0) ∧ (k = 2 → y = 0)) (fun i _ => 2 - (intF i).toNat)
  case atStart => exact ⟨rfl, 0, by decide, rfl, fun h => absurd h (by decide), fun h => absurd h (by decide)⟩
  case round =>
    obtain ⟨hw, k, hk, rfl, h1, h2⟩ := hrel
    rw [hw]
    clear hw
    rcases (by omega : k = 0 ∨ k = 1 ∨ k = 2) with rfl | rfl | rfl
    · simp only [Int.cast_ofNat_Int]
      by_cases hx : x = 0
      · have HX := Lib.hid hx
        rw [hx] at d0
        clear hx
        go_wp2_with fail
        go_roundw
        case rel => exact ⟨by trivial, 1, by decide, rfl, fun _ => HX.out, fun h => absurd h (by decide)⟩
        case measure => decide
      · have HD := Lib.hid (show q = x by rw [HQ.out, if_pos hx])
        clear h1 h2
        go_wp2_with fail
        go_ret
        rw [HD.out]
        exact ⟨rfl, rfl⟩
    · simp only [Int.cast_ofNat_Int]
      have hx : x = 0 := h1 (by decide)
      have HX := Lib.hid hx
      by_cases hy : y = 0
      · have HY := Lib.hid hy
        rw [hy] at d1
        clear hy hx h1 h2
        go_wp2_with fail
        go_roundw
        case rel => exact ⟨by trivial, 2, by decide, rfl, fun _ => HX.out, fun _ => HY.out⟩
        case measure => decide
      · have HD := Lib.hid (show q = y by rw [HQ.out, if_neg (fun h => h hx)])
        clear h1 h2 hx
        go_wp2_with fail
        go_ret
        rw [HD.out]
        exact ⟨rfl, rfl⟩
    · have HD := Lib.hid (show q = 0 by rw [HQ.out, if_neg (fun h => h (h1 (by decide))), h2 rfl])
      simp only [Int.cast_ofNat_Int]
      clear h1 h2
      go_wp2_with fail
      go_ret
      rw [HD.out]
      exact ⟨rfl, rfl⟩
set_option maxHeartbeats 1600000 in
theorem cmpf_any (x y : Mrk) (w : World) : Calls Try.prog 60 #[mrkV x, mrkV y] w fun e w' => e = .returned (.int .i64 (cmpK (keyM x) (keyM y))) ∧ Below w.heap.size w w' := by
  obtain ⟨v1, ev⟩ : ∃ v, v = (w.alloc (.cells #[.int .i64 x.clock, .int .i64 x.author, .int .i64 x.from_.id.1, .int .i64 x.from_.id.2, .bool x.from_.behind, .int .i64 x.upto.id.1, .int .i64 x.upto.id.2, .bool x.upto.behind, .int .i64 x.name, .int .i64 x.value] 31)).alloc (.cells #[.int .i64 y.clock, .int .i64 y.author, .int .i64 y.from_.id.1, .int .i64 y.from_.id.2, .bool y.from_.behind, .int .i64 y.upto.id.1, .int .i64 y.upto.id.2, .bool y.upto.behind, .int .i64 y.name, .int .i64 y.value] 31) := ⟨_, rfl⟩
  obtain ⟨g, eg⟩ : ∃ g, g = w.heap.size := ⟨_, rfl⟩
  obtain ⟨g1, eg1⟩ : ∃ k, k = g + 1 := ⟨_, rfl⟩
  have hb : Below w.heap.size w v1 := by rw [ev]; exact ((Below.refl _ _).alloc (Nat.le_refl _) _).alloc (by simp) _
  have hq : v1.cell? ⟨g, 0, none⟩ = some (.int .i64 x.clock) ∧ v1.cell? ⟨g, 1, none⟩ = some (.int .i64 x.author) ∧ v1.cell? ⟨g1, 0, none⟩ = some (.int .i64 y.clock) ∧ v1.cell? ⟨g1, 1, none⟩ = some (.int .i64 y.author) := by
    rw [ev, eg1, eg]
    simp
  have hs : v1.heap.size = g + 2 := by rw [ev, eg]; simp
  have HS := Lib.hid (fun wz (hz : Below v1.heap.size v1 wz) => show wz.cell? ⟨g, 0, none⟩ = some (.int .i64 x.clock) ∧ wz.cell? ⟨g, 1, none⟩ = some (.int .i64 x.author) ∧ wz.cell? ⟨g1, 0, none⟩ = some (.int .i64 y.clock) ∧ wz.cell? ⟨g1, 1, none⟩ = some (.int .i64 y.author) from
    ⟨(hz.cell (p := ⟨g, 0, none⟩) (by show g < _; omega)).trans hq.1, (hz.cell (p := ⟨g, 1, none⟩) (by show g < _; omega)).trans hq.2.1, (hz.cell (p := ⟨g1, 0, none⟩) (by show g1 < _; omega)).trans hq.2.2.1, (hz.cell (p := ⟨g1, 1, none⟩) (by show g1 < _; omega)).trans hq.2.2.2⟩)
  have HB := Lib.hid hb
  have HV := Lib.hid (And.intro ev (And.intro eg1 eg))
  obtain ⟨c1, e1⟩ : ∃ q, q = cmpI x.clock y.clock := ⟨_, rfl⟩
  obtain ⟨c2, e2⟩ : ∃ q, q = cmpI x.author y.author := ⟨_, rfl⟩
  have HD := Lib.hid (show cmpK (keyM x) (keyM y) = if c1 ≠ 0 then c1 else c2 by rw [e1, e2]; rfl)
  have HC1 := Lib.hid (fun wz => show Calls Try.prog 62 #[.int .i64 x.clock, .int .i64 y.clock] wz fun e w' => e = .returned (.int .i64 c1) ∧ Below wz.heap.size wz w' from by
    rw [e1]
    exact (compare_any _ _ wz).mono fun e w' h => ⟨h.1, by rw [h.2]; exact Below.refl _ _⟩)
  have HC2 := Lib.hid (fun wz => show Calls Try.prog 62 #[.int .i64 x.author, .int .i64 y.author] wz fun e w' => e = .returned (.int .i64 c2) ∧ Below wz.heap.size wz w' from by
    rw [e2]
    exact (compare_any _ _ wz).mono fun e w' h => ⟨h.1, by rw [h.2]; exact Below.refl _ _⟩)
  obtain ⟨r, er⟩ : ∃ r, r = cmpK (keyM x) (keyM y) := ⟨_, rfl⟩
  rw [← er] at HD ⊢
  clear ev eg eg1 hb hq hs e1 e2 er
  go_enter Try.func60, Try.ntmps60
  go_upto_region 1 with fail
  rw [← HV.out.1, ← HV.out.2.2, ← HV.out.2.1]
  clear HV
  refine wp_region_inv 11 [5, 6, 7, 8, 9, 10, 11, 12, 13, 14, 15] [.val (.pointer (some ⟨g, 0, none⟩)), .val (.int .i64 x.clock), .val (.pointer (some ⟨g1, 0, none⟩)), .val (.int .i64 y.clock), .val (.int .i64 c1), .val (.pointer (some ⟨g, 1, none⟩)), .val (.int .i64 x.author), .val (.pointer (some ⟨g1, 1, none⟩)), .val (.int .i64 y.author), .val (.int .i64 c2), (.row 2 (two16 c1 c2))] (fun wz => Below v1.heap.size v1 wz) (by kernel_rfl) (by kernel_rfl) (fun wz wz' hz hb => hz.trans (hb.mono hz.size)) ((Below.refl _ _).drew) (fun u => by simp only [puts, List.foldl_cons, List.foldl_nil]; go_simp; exact rfl) ?_ ?_
  · simp only [List.take_succ_cons, List.take_zero]
    refine Obs.cons (fun u w hS hd => ?_) ?_
    · exact Gv.run (.pointer (some ⟨g, 0, none⟩)) rfl (by go_simp) rfl
    refine Obs.cons (fun u w hS hd => ?_) ?_
    · have d5 : u 5 = .pointer (some ⟨g, 0, none⟩) := dep hd 0 rfl
      rw [d5]
      exact Gv.run (.int .i64 x.clock) rfl (by obtain ⟨k0, k1, k2, k3⟩ := HS.out w hS; go_simp) rfl
    refine Obs.cons (fun u w hS hd => ?_) ?_
    · exact Gv.run (.pointer (some ⟨g1, 0, none⟩)) rfl (by go_simp) rfl
    refine Obs.cons (fun u w hS hd => ?_) ?_
    · have d7 : u 7 = .pointer (some ⟨g1, 0, none⟩) := dep hd 2 rfl
      rw [d7]
      exact Gv.run (.int .i64 y.clock) rfl (by obtain ⟨k0, k1, k2, k3⟩ := HS.out w hS; go_simp) rfl
    refine Obs.cons (fun u w hS hd => ?_) ?_
    · have d6 : u 6 = .int .i64 x.clock := dep hd 1 rfl
      have d8 : u 8 = .int .i64 y.clock := dep hd 3 rfl
      rw [d6, d8]
      refine Gv.call 62 #[.int .i64 x.clock, .int .i64 y.clock] rfl (by go_simp) ((HC1.out w).mono ?_)
      rintro e w' ⟨rfl, hb⟩
      exact ⟨_, rfl, rfl, hb⟩
    refine Obs.cons (fun u w hS hd => ?_) ?_
    · exact Gv.run (.pointer (some ⟨g, 1, none⟩)) rfl (by go_simp) rfl
    refine Obs.cons (fun u w hS hd => ?_) ?_
    · have d10 : u 10 = .pointer (some ⟨g, 1, none⟩) := dep hd 5 rfl
      rw [d10]
      exact Gv.run (.int .i64 x.author) rfl (by obtain ⟨k0, k1, k2, k3⟩ := HS.out w hS; go_simp) rfl
    refine Obs.cons (fun u w hS hd => ?_) ?_
    · exact Gv.run (.pointer (some ⟨g1, 1, none⟩)) rfl (by go_simp) rfl
    refine Obs.cons (fun u w hS hd => ?_) ?_
    · have d12 : u 12 = .pointer (some ⟨g1, 1, none⟩) := dep hd 7 rfl
      rw [d12]
      exact Gv.run (.int .i64 y.author) rfl (by obtain ⟨k0, k1, k2, k3⟩ := HS.out w hS; go_simp) rfl
    refine Obs.cons (fun u w hS hd => ?_) ?_
    · have d11 : u 11 = .int .i64 x.author := dep hd 6 rfl
      have d13 : u 13 = .int .i64 y.author := dep hd 8 rfl
      rw [d11, d13]
      refine Gv.call 62 #[.int .i64 x.author, .int .i64 y.author] rfl (by go_simp) ((HC2.out w).mono ?_)
      rintro e w' ⟨rfl, hb⟩
      exact ⟨_, rfl, rfl, hb⟩
    refine Obs.cons (fun u w hS hd => ?_) ?_
    · have d9 : u 9 = .int .i64 c1 := dep hd 4 rfl
      have d14 : u 14 = .int .i64 c2 := dep hd 9 rfl
      rw [d9, d14]
      refine Gv.make (.slice (some ⟨w.heap.size, 0, none⟩) 2 2) (w.alloc (.cells #[.int .i64 c1, .int .i64 c2] 3)) rfl (by go_simp) ⟨_, _, rfl, ?_⟩ ((Below.refl _ w).alloc (Nat.le_refl _) _)
      exact (OwnF.lit (w := w) 3 (Nat.le_refl _) #[.int .i64 c1, .int .i64 c2] 2 (two16 c1 c2) (by decide) rfl).rd
    exact Obs.nil
  intro u v2 hS hd
  obtain ⟨A9, c9, d15, r9⟩ : (Know.row 2 (two16 c1 c2)).ok (u 15) v2 := hd 10 (by decide)
  rw [d15]
  simp only [List.drop_succ_cons, List.drop_zero]
  have HB2 := Lib.hid (HB.out.trans (hS.mono HB.out.size))
  have HO := Lib.hid (or_any c1 c2 v2 r9)
  clear hS hd d15 r9
  go_wp2_with fail
  go_at_call 61
  refine HO.out.mono ?_
  rintro e w' ⟨rfl, rfl⟩
  rw [← HD.out]
  go_wp2_with fail
  go_ret
  exact ⟨rfl, HB2.out⟩
set_option maxHeartbeats 6400000 in
theorem bsearch_any {A : Option Addr} {B c n : Nat} {L : List Mrk} (y : Mrk) (w : World) (r : RdR mrkE w B A c L) (hB : B ≤ w.heap.size) (hn : L.length = n) (hl : n ≤ 512) (ho : OrdM L) :
    Calls Try.prog 59 #[.slice A n c, mrkV y, .func (.func 60) #[] #[]] w fun e w' => e = .returned (.tuple #[.int .i64 (posM L (keyM y) : Int), .bool (mhasB L y.clock y.author)]) ∧ Below w.heap.size w w' := by
  obtain ⟨v1, ev⟩ : ∃ v, v = w.alloc (.cells #[.int .i64 y.clock, .int .i64 y.author, .int .i64 y.from_.id.1, .int .i64 y.from_.id.2, .bool y.from_.behind, .int .i64 y.upto.id.1, .int .i64 y.upto.id.2, .bool y.upto.behind, .int .i64 y.name, .int .i64 y.value] 31) := ⟨_, rfl⟩
  obtain ⟨g, eg⟩ : ∃ g, g = w.heap.size := ⟨_, rfl⟩
  have hb : Below w.heap.size w v1 := by rw [ev]; exact (Below.refl _ _).alloc (Nat.le_refl _) _
  have hq : MrkB v1 g y := by rw [ev, eg]; exact mrk_box w y
  have hg : g < v1.heap.size := by rw [ev, eg]; simp
  have HB := Lib.hid hb
  have HV := Lib.hid (And.intro ev eg)
  have HR := Lib.hid (fun wz (hz : Below v1.heap.size v1 wz) => And.intro (r.keep ((hb.trans (hz.mono hb.size)).mono hB) : RdR mrkE wz B A c L) (hq.keep hz hg))
  have HN := Lib.hid (And.intro hn (And.intro hl (Nat.le_trans hB hb.size)))
  have HO := Lib.hid ho
  have hpl : posM L (keyM y) ≤ n := by rw [← hn]; exact posM_le _ _
  have HPH := Lib.hid (pos_has ho (k := y.clock) (a := y.author))
  obtain ⟨pos, epos⟩ : ∃ q, q = posM L (keyM y) := ⟨_, rfl⟩
  rw [← epos] at hpl ⊢
  have HP := Lib.hid epos
  have HPL := Lib.hid hpl
  obtain ⟨hs, ehs⟩ : ∃ q, q = mhasB L y.clock y.author := ⟨_, rfl⟩
  rw [← ehs]
  have HH := Lib.hid ehs
  clear ev eg hb hq hg r hB hn ho hpl epos ehs
  go_enter Try.func59, Try.ntmps59
  go_upto_region 1 with fail
  rw [← HV.out.1, ← HV.out.2]
  clear HV
  go_wp2_with fail
  go_loopw [9, 10] (fun iv jv wr => ∃ i j : Nat, i ≤ j ∧ j ≤ n ∧ iv = .int .i64 (i : Int) ∧ jv = .int .i64 (j : Int) ∧ i ≤ pos ∧ pos ≤ j ∧ Below v1.heap.size v1 wr) (fun iv jv _ => (intF jv).toNat - (intF iv).toNat)
  case atStart => exact ⟨0, n, Nat.zero_le _, Nat.le_refl _, rfl, rfl, Nat.zero_le _, HPL.out, Below.refl _ _⟩
  case round =>
    obtain ⟨i, j, hij, hjn, rfl, rfl, hi, hj, hbr⟩ := hrel
    by_cases hlt : i < j
    case pos =>
      have g1 : (i : Int) < (j : Int) := by omega
      obtain ⟨h, eh⟩ : ∃ h, h = (i + j) / 2 := ⟨_, rfl⟩
      have hih : i ≤ h ∧ h < j := by omega
      have hw1 : IntKind.u64.wrap ((i : Int) + (j : Int)) = (i : Int) + (j : Int) := by rw [IntKind.wrap_u64]; omega
      have hw0 : IntKind.i64.wrap ((i : Int) + (j : Int)) = (i : Int) + (j : Int) := by rw [IntKind.wrap_i64]; omega
      have hw2 : ((i : Int) + (j : Int)) / 2 = (h : Int) := by omega
      have hlh : (h : Int) < (n : Int) := by omega
      have HI := Lib.hid (And.intro hij (And.intro hjn (And.intro hi (And.intro hj (And.intro hih eh)))))
      obtain ⟨z, hz0⟩ := getD_of (L := L) (k := h) (by rw [HN.out.1]; exact (by omega))
      obtain ⟨b, o, rfl, hbB, hcz⟩ := mrk_at (HR.out wr hbr).1 hz0
      have hbw : b < wr.heap.size := Nat.lt_of_lt_of_le hbB (Nat.le_trans HN.out.2.2 hbr.size)
      have HS := Lib.hid (fun wz (hz : Below wr.heap.size wr wz) => show (wz.cell? ⟨b, o + h * 10, none⟩ = some (.int .i64 z.clock) ∧ wz.cell? ⟨b, o + h * 10 + 1, none⟩ = some (.int .i64 z.author) ∧ wz.cell? ⟨b, o + h * 10 + 2, none⟩ = some (.int .i64 z.from_.id.1) ∧ wz.cell? ⟨b, o + h * 10 + 3, none⟩ = some (.int .i64 z.from_.id.2) ∧ wz.cell? ⟨b, o + h * 10 + 4, none⟩ = some (.bool z.from_.behind) ∧ wz.cell? ⟨b, o + h * 10 + 5, none⟩ = some (.int .i64 z.upto.id.1) ∧ wz.cell? ⟨b, o + h * 10 + 6, none⟩ = some (.int .i64 z.upto.id.2) ∧ wz.cell? ⟨b, o + h * 10 + 7, none⟩ = some (.bool z.upto.behind) ∧ wz.cell? ⟨b, o + h * 10 + 8, none⟩ = some (.int .i64 z.name) ∧ wz.cell? ⟨b, o + h * 10 + 9, none⟩ = some (.int .i64 z.value) ∧ wz.cell? ⟨g, 0, none⟩ = some (.int .i64 y.clock) ∧ wz.cell? ⟨g, 1, none⟩ = some (.int .i64 y.author) ∧ wz.cell? ⟨g, 2, none⟩ = some (.int .i64 y.from_.id.1) ∧ wz.cell? ⟨g, 3, none⟩ = some (.int .i64 y.from_.id.2) ∧ wz.cell? ⟨g, 4, none⟩ = some (.bool y.from_.behind) ∧ wz.cell? ⟨g, 5, none⟩ = some (.int .i64 y.upto.id.1) ∧ wz.cell? ⟨g, 6, none⟩ = some (.int .i64 y.upto.id.2) ∧ wz.cell? ⟨g, 7, none⟩ = some (.bool y.upto.behind) ∧ wz.cell? ⟨g, 8, none⟩ = some (.int .i64 y.name) ∧ wz.cell? ⟨g, 9, none⟩ = some (.int .i64 y.value)) from by
        obtain ⟨q0, q1, q2, q3, q4, q5, q6, q7, q8, q9⟩ := (HR.out wz (hbr.trans (hz.mono hbr.size))).2
        obtain ⟨p0, p1, p2, p3, p4, p5, p6, p7, p8, p9⟩ := hcz
        exact ⟨(hz.cell (p := ⟨b, o + h * 10, none⟩) hbw).trans p0, (hz.cell (p := ⟨b, o + h * 10 + 1, none⟩) hbw).trans p1, (hz.cell (p := ⟨b, o + h * 10 + 2, none⟩) hbw).trans p2, (hz.cell (p := ⟨b, o + h * 10 + 3, none⟩) hbw).trans p3, (hz.cell (p := ⟨b, o + h * 10 + 4, none⟩) hbw).trans p4, (hz.cell (p := ⟨b, o + h * 10 + 5, none⟩) hbw).trans p5, (hz.cell (p := ⟨b, o + h * 10 + 6, none⟩) hbw).trans p6, (hz.cell (p := ⟨b, o + h * 10 + 7, none⟩) hbw).trans p7, (hz.cell (p := ⟨b, o + h * 10 + 8, none⟩) hbw).trans p8, (hz.cell (p := ⟨b, o + h * 10 + 9, none⟩) hbw).trans p9, q0, q1, q2, q3, q4, q5, q6, q7, q8, q9⟩)
      obtain ⟨cv, ecv⟩ : ∃ q, q = cmpK (keyM z) (keyM y) := ⟨_, rfl⟩
      have HCV := Lib.hid (fun wz => cmpf_any z y wz)
      rw [← ecv] at HCV
      have hlt0 := (pos_lt HO.out hz0 : idLt (keyM z) (keyM y) = true ↔ h < posM L (keyM y))
      rw [← HP.out] at hlt0
      have hneg := cmpK_neg (keyM z) (keyM y)
      have hzer := cmpK_zero (keyM z) (keyM y)
      rw [← ecv] at hneg hzer
      have HX := Lib.hid (And.intro hlt0 (And.intro hneg hzer))
      have HBR := Lib.hid hbr
      clear hij hjn hi hj hih eh hz0 hcz hbB hbw hbr hlt0 hneg hzer ecv
      have hl9 := HN.out.2.1
      go_upto_region 5 with fail
      refine wp_region_inv 7 [24, 25, 26, 27, 28, 29, 30] [.val (.func (.func 60) #[] #[]), .val (.slice (some ⟨b, o, none⟩) n c), .val (.int .i64 (h : Int)), .val (.pointer (some ⟨b, o + h * 10, none⟩)), .val (.agg #[.int .i64 z.clock, .int .i64 z.author, .int .i64 z.from_.id.1, .int .i64 z.from_.id.2, .bool z.from_.behind, .int .i64 z.upto.id.1, .int .i64 z.upto.id.2, .bool z.upto.behind, .int .i64 z.name, .int .i64 z.value]), .val (.agg #[.int .i64 y.clock, .int .i64 y.author, .int .i64 y.from_.id.1, .int .i64 y.from_.id.2, .bool y.from_.behind, .int .i64 y.upto.id.1, .int .i64 y.upto.id.2, .bool y.upto.behind, .int .i64 y.name, .int .i64 y.value]), .val (.int .i64 cv)] (fun wz => Below wr.heap.size wr wz) (by kernel_rfl) (by kernel_rfl) (fun wz wz' hz hb => hz.trans (hb.mono hz.size)) ((Below.refl _ _).drew) (fun u => by simp only [puts, List.foldl_cons, List.foldl_nil]; go_simp; exact rfl) ?_ ?_
      · simp only [List.take_succ_cons, List.take_zero]
        refine Obs.cons (fun u w hS hd => ?_) ?_
        · exact Gv.run (.func (.func 60) #[] #[]) rfl (by go_simp) rfl
        refine Obs.cons (fun u w hS hd => ?_) ?_
        · exact Gv.run (.slice (some ⟨b, o, none⟩) n c) rfl (by go_simp) rfl
        refine Obs.cons (fun u w hS hd => ?_) ?_
        · exact Gv.run (.int .i64 (h : Int)) rfl (by go_simp) rfl
        refine Obs.cons (fun u w hS hd => ?_) ?_
        · have d25 : u 25 = .slice (some ⟨b, o, none⟩) n c := dep hd 1 rfl
          have d26 : u 26 = .int .i64 (h : Int) := dep hd 2 rfl
          rw [d25, d26]
          exact Gv.run (.pointer (some ⟨b, o + h * 10, none⟩)) rfl (by go_simp) rfl
        refine Obs.cons (fun u w hS hd => ?_) ?_
        · have d27 : u 27 = .pointer (some ⟨b, o + h * 10, none⟩) := dep hd 3 rfl
          rw [d27]
          exact Gv.run (.agg #[.int .i64 z.clock, .int .i64 z.author, .int .i64 z.from_.id.1, .int .i64 z.from_.id.2, .bool z.from_.behind, .int .i64 z.upto.id.1, .int .i64 z.upto.id.2, .bool z.upto.behind, .int .i64 z.name, .int .i64 z.value]) rfl (by obtain ⟨k0, k1, k2, k3, k4, k5, k6, k7, k8, k9, k10, k11, k12, k13, k14, k15, k16, k17, k18, k19⟩ := HS.out w hS; go_simp) rfl
        refine Obs.cons (fun u w hS hd => ?_) ?_
        · exact Gv.run (.agg #[.int .i64 y.clock, .int .i64 y.author, .int .i64 y.from_.id.1, .int .i64 y.from_.id.2, .bool y.from_.behind, .int .i64 y.upto.id.1, .int .i64 y.upto.id.2, .bool y.upto.behind, .int .i64 y.name, .int .i64 y.value]) rfl (by obtain ⟨k0, k1, k2, k3, k4, k5, k6, k7, k8, k9, k10, k11, k12, k13, k14, k15, k16, k17, k18, k19⟩ := HS.out w hS; go_simp) rfl
        refine Obs.cons (fun u w hS hd => ?_) ?_
        · have d24 : u 24 = .func (.func 60) #[] #[] := dep hd 0 rfl
          have d28 : u 28 = .agg #[.int .i64 z.clock, .int .i64 z.author, .int .i64 z.from_.id.1, .int .i64 z.from_.id.2, .bool z.from_.behind, .int .i64 z.upto.id.1, .int .i64 z.upto.id.2, .bool z.upto.behind, .int .i64 z.name, .int .i64 z.value] := dep hd 4 rfl
          have d29 : u 29 = .agg #[.int .i64 y.clock, .int .i64 y.author, .int .i64 y.from_.id.1, .int .i64 y.from_.id.2, .bool y.from_.behind, .int .i64 y.upto.id.1, .int .i64 y.upto.id.2, .bool y.upto.behind, .int .i64 y.name, .int .i64 y.value] := dep hd 5 rfl
          rw [d24, d28, d29]
          refine Gv.call 60 #[.agg #[.int .i64 z.clock, .int .i64 z.author, .int .i64 z.from_.id.1, .int .i64 z.from_.id.2, .bool z.from_.behind, .int .i64 z.upto.id.1, .int .i64 z.upto.id.2, .bool z.upto.behind, .int .i64 z.name, .int .i64 z.value], .agg #[.int .i64 y.clock, .int .i64 y.author, .int .i64 y.from_.id.1, .int .i64 y.from_.id.2, .bool y.from_.behind, .int .i64 y.upto.id.1, .int .i64 y.upto.id.2, .bool y.upto.behind, .int .i64 y.name, .int .i64 y.value]] rfl (by go_simp) ((HCV.out w).mono ?_)
          rintro e w' ⟨rfl, hb⟩
          exact ⟨_, rfl, rfl, hb⟩
        exact Obs.nil
      intro u v2 hS hd
      have d30 : u 30 = .int .i64 cv := hd 6 (by decide)
      rw [d30]
      simp only [List.drop_succ_cons, List.drop_zero]
      have HB2 := Lib.hid (HBR.out.trans (hS.mono HBR.out.size))
      clear hS hd d30
      by_cases hc : cv < 0
      · have HK := Lib.hid (HX.out.1.1 (HX.out.2.1.1 hc))
        go_wp2_with fail
        go_roundw
        case rel => exact ⟨h + 1, j, by have := HI.out; omega, by have := HI.out; omega, by go_num, rfl, HK.out, by have := HI.out; omega, HB2.out⟩
        case measure => simp [intF]; have := HI.out; omega
      · have HK := Lib.hid (show pos ≤ h from by
          refine Nat.le_of_not_lt fun h9 => hc (HX.out.2.1.2 (HX.out.1.2 h9)))
        go_wp2_with fail
        go_roundw
        case rel => exact ⟨i, h, by have := HI.out; omega, by have := HI.out; omega, rfl, by go_num, by have := HI.out; omega, HK.out, HB2.out⟩
        case measure => simp [intF]; have := HI.out; omega
    case neg =>
      obtain rfl : i = j := by omega
      have hpi : pos = i := by omega
      obtain ⟨h, eh⟩ : ∃ h, h = i := ⟨_, rfl⟩
      rw [← eh] at hpi hjn ⊢
      have HPI := Lib.hid hpi
      have hl9 := HN.out.2.1
      clear hij hi hj eh hpi hlt
      by_cases hin : h < n
      · have g2 : (h : Int) < (n : Int) := by omega
        obtain ⟨z, hz0⟩ := getD_of (L := L) (k := h) (by rw [HN.out.1]; exact hin)
        obtain ⟨b, o, rfl, hbB, hcz⟩ := mrk_at (HR.out wr hbr).1 hz0
        have hbw : b < wr.heap.size := Nat.lt_of_lt_of_le hbB (Nat.le_trans HN.out.2.2 hbr.size)
        have HS := Lib.hid (fun wz (hz : Below wr.heap.size wr wz) => show (wz.cell? ⟨b, o + h * 10, none⟩ = some (.int .i64 z.clock) ∧ wz.cell? ⟨b, o + h * 10 + 1, none⟩ = some (.int .i64 z.author) ∧ wz.cell? ⟨b, o + h * 10 + 2, none⟩ = some (.int .i64 z.from_.id.1) ∧ wz.cell? ⟨b, o + h * 10 + 3, none⟩ = some (.int .i64 z.from_.id.2) ∧ wz.cell? ⟨b, o + h * 10 + 4, none⟩ = some (.bool z.from_.behind) ∧ wz.cell? ⟨b, o + h * 10 + 5, none⟩ = some (.int .i64 z.upto.id.1) ∧ wz.cell? ⟨b, o + h * 10 + 6, none⟩ = some (.int .i64 z.upto.id.2) ∧ wz.cell? ⟨b, o + h * 10 + 7, none⟩ = some (.bool z.upto.behind) ∧ wz.cell? ⟨b, o + h * 10 + 8, none⟩ = some (.int .i64 z.name) ∧ wz.cell? ⟨b, o + h * 10 + 9, none⟩ = some (.int .i64 z.value) ∧ wz.cell? ⟨g, 0, none⟩ = some (.int .i64 y.clock) ∧ wz.cell? ⟨g, 1, none⟩ = some (.int .i64 y.author) ∧ wz.cell? ⟨g, 2, none⟩ = some (.int .i64 y.from_.id.1) ∧ wz.cell? ⟨g, 3, none⟩ = some (.int .i64 y.from_.id.2) ∧ wz.cell? ⟨g, 4, none⟩ = some (.bool y.from_.behind) ∧ wz.cell? ⟨g, 5, none⟩ = some (.int .i64 y.upto.id.1) ∧ wz.cell? ⟨g, 6, none⟩ = some (.int .i64 y.upto.id.2) ∧ wz.cell? ⟨g, 7, none⟩ = some (.bool y.upto.behind) ∧ wz.cell? ⟨g, 8, none⟩ = some (.int .i64 y.name) ∧ wz.cell? ⟨g, 9, none⟩ = some (.int .i64 y.value)) from by
          obtain ⟨q0, q1, q2, q3, q4, q5, q6, q7, q8, q9⟩ := (HR.out wz (hbr.trans (hz.mono hbr.size))).2
          obtain ⟨p0, p1, p2, p3, p4, p5, p6, p7, p8, p9⟩ := hcz
          exact ⟨(hz.cell (p := ⟨b, o + h * 10, none⟩) hbw).trans p0, (hz.cell (p := ⟨b, o + h * 10 + 1, none⟩) hbw).trans p1, (hz.cell (p := ⟨b, o + h * 10 + 2, none⟩) hbw).trans p2, (hz.cell (p := ⟨b, o + h * 10 + 3, none⟩) hbw).trans p3, (hz.cell (p := ⟨b, o + h * 10 + 4, none⟩) hbw).trans p4, (hz.cell (p := ⟨b, o + h * 10 + 5, none⟩) hbw).trans p5, (hz.cell (p := ⟨b, o + h * 10 + 6, none⟩) hbw).trans p6, (hz.cell (p := ⟨b, o + h * 10 + 7, none⟩) hbw).trans p7, (hz.cell (p := ⟨b, o + h * 10 + 8, none⟩) hbw).trans p8, (hz.cell (p := ⟨b, o + h * 10 + 9, none⟩) hbw).trans p9, q0, q1, q2, q3, q4, q5, q6, q7, q8, q9⟩)
        obtain ⟨cv, ecv⟩ : ∃ q, q = cmpK (keyM z) (keyM y) := ⟨_, rfl⟩
        have HCV := Lib.hid (fun wz => cmpf_any z y wz)
        rw [← ecv] at HCV
        have hlt0 := (pos_lt HO.out hz0 : idLt (keyM z) (keyM y) = true ↔ h < posM L (keyM y))
        rw [← HP.out] at hlt0
        have hneg := cmpK_neg (keyM z) (keyM y)
        have hzer := cmpK_zero (keyM z) (keyM y)
        rw [← ecv] at hneg hzer
        have HS2 := Lib.hid (show hs = (cv == 0) by
          rw [HH.out, HPH.out]
          rw [show posM L (y.clock, y.author) = h from HP.out.symm.trans HPI.out, hz0]
          show decide (keyM z = keyM y) = _
          rw [Bool.eq_iff_iff, decide_eq_true_eq, beq_iff_eq]
          exact hzer.symm)
        have HBR := Lib.hid hbr
        clear hz0 hcz hbB hbw hbr hlt0 hneg hzer ecv hin hjn
        have g1 : ¬ (h : Int) < (h : Int) := by omega
        go_upto_region 8 with fail
        refine wp_region_inv 15 [35, 36, 37, 38, 39, 40, 41, 42, 43, 44, 45, 46, 47, 48, 6] [.val (.int .i64 (h : Int)), .val (.int .i64 (h : Int)), .val (.int .i64 (n : Int)), .val (.bool true), .val (.bool true), .val (.func (.func 60) #[] #[]), .val (.slice (some ⟨b, o, none⟩) n c), .val (.int .i64 (h : Int)), .val (.pointer (some ⟨b, o + h * 10, none⟩)), .val (.agg #[.int .i64 z.clock, .int .i64 z.author, .int .i64 z.from_.id.1, .int .i64 z.from_.id.2, .bool z.from_.behind, .int .i64 z.upto.id.1, .int .i64 z.upto.id.2, .bool z.upto.behind, .int .i64 z.name, .int .i64 z.value]), .val (.agg #[.int .i64 y.clock, .int .i64 y.author, .int .i64 y.from_.id.1, .int .i64 y.from_.id.2, .bool y.from_.behind, .int .i64 y.upto.id.1, .int .i64 y.upto.id.2, .bool y.upto.behind, .int .i64 y.name, .int .i64 y.value]), .val (.int .i64 cv), .val (.bool (cv == 0)), .val (.bool (cv == 0)), .val (.int .i64 (h : Int))] (fun wz => Below wr.heap.size wr wz) (by kernel_rfl) (by kernel_rfl) (fun wz wz' hz hb => hz.trans (hb.mono hz.size)) ((Below.refl _ _).drew) (fun u => by simp only [puts, List.foldl_cons, List.foldl_nil]; go_simp; exact rfl) ?_ ?_
        · simp only [List.take_succ_cons, List.take_zero]
          refine Obs.cons (fun u w hS hd => ?_) ?_
          · exact Gv.run (.int .i64 (h : Int)) rfl (by go_simp) rfl
          refine Obs.cons (fun u w hS hd => ?_) ?_
          · exact Gv.run (.int .i64 (h : Int)) rfl (by go_simp) rfl
          refine Obs.cons (fun u w hS hd => ?_) ?_
          · exact Gv.run (.int .i64 (n : Int)) rfl (by go_simp) rfl
          refine Obs.cons (fun u w hS hd => ?_) ?_
          · have d36 : u 36 = .int .i64 (h : Int) := dep hd 1 rfl
            have d37 : u 37 = .int .i64 (n : Int) := dep hd 2 rfl
            rw [d36, d37]
            exact Gv.run (.bool true) rfl (by go_simp) rfl
          refine Obs.cons (fun u w hS hd => ?_) ?_
          · have d38 : u 38 = .bool true := dep hd 3 rfl
            rw [d38]
            exact Gv.run (.bool true) rfl (by go_simp) rfl
          refine Obs.cons (fun u w hS hd => ?_) ?_
          · have d39 : u 39 = .bool true := dep hd 4 rfl
            rw [d39]
            exact Gv.run (.func (.func 60) #[] #[]) rfl (by go_simp) rfl
          refine Obs.cons (fun u w hS hd => ?_) ?_
          · have d39 : u 39 = .bool true := dep hd 4 rfl
            rw [d39]
            exact Gv.run (.slice (some ⟨b, o, none⟩) n c) rfl (by go_simp) rfl
          refine Obs.cons (fun u w hS hd => ?_) ?_
          · have d39 : u 39 = .bool true := dep hd 4 rfl
            rw [d39]
            exact Gv.run (.int .i64 (h : Int)) rfl (by go_simp) rfl
          refine Obs.cons (fun u w hS hd => ?_) ?_
          · have d41 : u 41 = .slice (some ⟨b, o, none⟩) n c := dep hd 6 rfl
            have d42 : u 42 = .int .i64 (h : Int) := dep hd 7 rfl
            have d39 : u 39 = .bool true := dep hd 4 rfl
            rw [d41, d42, d39]
            exact Gv.run (.pointer (some ⟨b, o + h * 10, none⟩)) rfl (by go_simp) rfl
          refine Obs.cons (fun u w hS hd => ?_) ?_
          · have d43 : u 43 = .pointer (some ⟨b, o + h * 10, none⟩) := dep hd 8 rfl
            have d39 : u 39 = .bool true := dep hd 4 rfl
            rw [d43, d39]
            exact Gv.run (.agg #[.int .i64 z.clock, .int .i64 z.author, .int .i64 z.from_.id.1, .int .i64 z.from_.id.2, .bool z.from_.behind, .int .i64 z.upto.id.1, .int .i64 z.upto.id.2, .bool z.upto.behind, .int .i64 z.name, .int .i64 z.value]) rfl (by obtain ⟨k0, k1, k2, k3, k4, k5, k6, k7, k8, k9, k10, k11, k12, k13, k14, k15, k16, k17, k18, k19⟩ := HS.out w hS; go_simp) rfl
          refine Obs.cons (fun u w hS hd => ?_) ?_
          · have d39 : u 39 = .bool true := dep hd 4 rfl
            rw [d39]
            exact Gv.run (.agg #[.int .i64 y.clock, .int .i64 y.author, .int .i64 y.from_.id.1, .int .i64 y.from_.id.2, .bool y.from_.behind, .int .i64 y.upto.id.1, .int .i64 y.upto.id.2, .bool y.upto.behind, .int .i64 y.name, .int .i64 y.value]) rfl (by obtain ⟨k0, k1, k2, k3, k4, k5, k6, k7, k8, k9, k10, k11, k12, k13, k14, k15, k16, k17, k18, k19⟩ := HS.out w hS; go_simp) rfl
          refine Obs.cons (fun u w hS hd => ?_) ?_
          · have d40 : u 40 = .func (.func 60) #[] #[] := dep hd 5 rfl
            have d44 : u 44 = .agg #[.int .i64 z.clock, .int .i64 z.author, .int .i64 z.from_.id.1, .int .i64 z.from_.id.2, .bool z.from_.behind, .int .i64 z.upto.id.1, .int .i64 z.upto.id.2, .bool z.upto.behind, .int .i64 z.name, .int .i64 z.value] := dep hd 9 rfl
            have d45 : u 45 = .agg #[.int .i64 y.clock, .int .i64 y.author, .int .i64 y.from_.id.1, .int .i64 y.from_.id.2, .bool y.from_.behind, .int .i64 y.upto.id.1, .int .i64 y.upto.id.2, .bool y.upto.behind, .int .i64 y.name, .int .i64 y.value] := dep hd 10 rfl
            have d39 : u 39 = .bool true := dep hd 4 rfl
            rw [d40, d44, d45, d39]
            refine Gv.call 60 #[.agg #[.int .i64 z.clock, .int .i64 z.author, .int .i64 z.from_.id.1, .int .i64 z.from_.id.2, .bool z.from_.behind, .int .i64 z.upto.id.1, .int .i64 z.upto.id.2, .bool z.upto.behind, .int .i64 z.name, .int .i64 z.value], .agg #[.int .i64 y.clock, .int .i64 y.author, .int .i64 y.from_.id.1, .int .i64 y.from_.id.2, .bool y.from_.behind, .int .i64 y.upto.id.1, .int .i64 y.upto.id.2, .bool y.upto.behind, .int .i64 y.name, .int .i64 y.value]] rfl (by go_simp) ((HCV.out w).mono ?_)
            rintro e w' ⟨rfl, hb⟩
            exact ⟨_, rfl, rfl, hb⟩
          refine Obs.cons (fun u w hS hd => ?_) ?_
          · have d46 : u 46 = .int .i64 cv := dep hd 11 rfl
            have d39 : u 39 = .bool true := dep hd 4 rfl
            rw [d46, d39]
            exact Gv.run (.bool (cv == 0)) rfl (by go_simp) rfl
          refine Obs.cons (fun u w hS hd => ?_) ?_
          · have d39 : u 39 = .bool true := dep hd 4 rfl
            have d47 : u 47 = .bool (cv == 0) := dep hd 12 rfl
            rw [d39, d47]
            exact Gv.run (.bool (cv == 0)) rfl (by go_simp) rfl
          refine Obs.cons (fun u w hS hd => ?_) ?_
          · have d35 : u 35 = .int .i64 (h : Int) := dep hd 0 rfl
            rw [d35]
            exact Gv.run (.int .i64 (h : Int)) rfl (by go_simp) rfl
          exact Obs.nil
        intro u v2 hS hd
        have d48 : u 48 = .bool (cv == 0) := hd 13 (by decide)
        have d6 : u 6 = .int .i64 (h : Int) := hd 14 (by decide)
        rw [d48, d6]
        simp only [List.drop_succ_cons, List.drop_zero]
        have HB2 := Lib.hid (HB.out.trans ((HBR.out.trans (hS.mono HBR.out.size)).mono HB.out.size))
        clear hS hd d48 d6
        go_wp2_with fail
        go_returns
        rw [HS2.out, HPI.out]
        exact ⟨rfl, HB2.out⟩
      · have g2 : ¬ (h : Int) < (n : Int) := by omega
        have HS2 := Lib.hid (show hs = false by
          rw [HH.out, HPH.out]
          rw [show posM L (y.clock, y.author) = h from HP.out.symm.trans HPI.out, List.getElem?_eq_none (by have := HN.out.1; omega)])
        have HBR := Lib.hid hbr
        clear hbr hin hjn
        have g1 : ¬ (h : Int) < (h : Int) := by omega
        go_upto_region 8 with fail
        refine wp_region_inv 15 [35, 36, 37, 38, 39, 40, 41, 42, 43, 44, 45, 46, 47, 48, 6] [.val (.int .i64 (h : Int)), .val (.int .i64 (h : Int)), .val (.int .i64 (n : Int)), .val (.bool false), .val (.bool false), .val undef, .val undef, .val undef, .val undef, .val undef, .val undef, .val undef, .val undef, .val (.bool false), .val (.int .i64 (h : Int))] (fun wz => Below wr.heap.size wr wz) (by kernel_rfl) (by kernel_rfl) (fun wz wz' hz hb => hz.trans (hb.mono hz.size)) ((Below.refl _ _).drew) (fun u => by simp only [puts, List.foldl_cons, List.foldl_nil]; go_simp; exact rfl) ?_ ?_
        · simp only [List.take_succ_cons, List.take_zero]
          refine Obs.cons (fun u w hS hd => ?_) ?_
          · exact Gv.run (.int .i64 (h : Int)) rfl (by go_simp) rfl
          refine Obs.cons (fun u w hS hd => ?_) ?_
          · exact Gv.run (.int .i64 (h : Int)) rfl (by go_simp) rfl
          refine Obs.cons (fun u w hS hd => ?_) ?_
          · exact Gv.run (.int .i64 (n : Int)) rfl (by go_simp) rfl
          refine Obs.cons (fun u w hS hd => ?_) ?_
          · have d36 : u 36 = .int .i64 (h : Int) := dep hd 1 rfl
            have d37 : u 37 = .int .i64 (n : Int) := dep hd 2 rfl
            rw [d36, d37]
            exact Gv.run (.bool false) rfl (by go_simp) rfl
          refine Obs.cons (fun u w hS hd => ?_) ?_
          · have d38 : u 38 = .bool false := dep hd 3 rfl
            rw [d38]
            exact Gv.run (.bool false) rfl (by go_simp) rfl
          refine Obs.cons (fun u w hS hd => ?_) ?_
          · have d39 : u 39 = .bool false := dep hd 4 rfl
            rw [d39]
            exact Gv.skip (by rfl) rfl
          refine Obs.cons (fun u w hS hd => ?_) ?_
          · have d39 : u 39 = .bool false := dep hd 4 rfl
            rw [d39]
            exact Gv.skip (by rfl) rfl
          refine Obs.cons (fun u w hS hd => ?_) ?_
          · have d39 : u 39 = .bool false := dep hd 4 rfl
            rw [d39]
            exact Gv.skip (by rfl) rfl
          refine Obs.cons (fun u w hS hd => ?_) ?_
          · have d41 : u 41 = undef := dep hd 6 rfl
            have d42 : u 42 = undef := dep hd 7 rfl
            have d39 : u 39 = .bool false := dep hd 4 rfl
            rw [d41, d42, d39]
            exact Gv.skip (by rfl) rfl
          refine Obs.cons (fun u w hS hd => ?_) ?_
          · have d43 : u 43 = undef := dep hd 8 rfl
            have d39 : u 39 = .bool false := dep hd 4 rfl
            rw [d43, d39]
            exact Gv.skip (by rfl) rfl
          refine Obs.cons (fun u w hS hd => ?_) ?_
          · have d39 : u 39 = .bool false := dep hd 4 rfl
            rw [d39]
            exact Gv.skip (by rfl) rfl
          refine Obs.cons (fun u w hS hd => ?_) ?_
          · have d40 : u 40 = undef := dep hd 5 rfl
            have d44 : u 44 = undef := dep hd 9 rfl
            have d45 : u 45 = undef := dep hd 10 rfl
            have d39 : u 39 = .bool false := dep hd 4 rfl
            rw [d40, d44, d45, d39]
            exact Gv.skip (by rfl) rfl
          refine Obs.cons (fun u w hS hd => ?_) ?_
          · have d46 : u 46 = undef := dep hd 11 rfl
            have d39 : u 39 = .bool false := dep hd 4 rfl
            rw [d46, d39]
            exact Gv.skip (by rfl) rfl
          refine Obs.cons (fun u w hS hd => ?_) ?_
          · have d39 : u 39 = .bool false := dep hd 4 rfl
            have d47 : u 47 = undef := dep hd 12 rfl
            rw [d39, d47]
            exact Gv.run (.bool false) rfl (by go_simp) rfl
          refine Obs.cons (fun u w hS hd => ?_) ?_
          · have d35 : u 35 = .int .i64 (h : Int) := dep hd 0 rfl
            rw [d35]
            exact Gv.run (.int .i64 (h : Int)) rfl (by go_simp) rfl
          exact Obs.nil
        intro u v2 hS hd
        have d48 : u 48 = .bool false := hd 13 (by decide)
        have d6 : u 6 = .int .i64 (h : Int) := hd 14 (by decide)
        rw [d48, d6]
        simp only [List.drop_succ_cons, List.drop_zero]
        have HB2 := Lib.hid (HB.out.trans ((HBR.out.trans (hS.mono HBR.out.size)).mono HB.out.size))
        clear hS hd d48 d6
        go_wp2_with fail
        go_returns
        rw [HS2.out, HPI.out]
        exact ⟨rfl, HB2.out⟩
end Go.Proofs.Ytpjeggbkhbghaaa
namespace Go.Proofs.Ytpjeggbkhbghaaa
open Go Go.RowKit
set_option maxRecDepth 20000
set_option maxHeartbeats 1600000 in
theorem right16_any (m : Mrk) (w : World) : Calls Try.prog 13 #[mrkV m] w fun e w' => e = .returned (.bool (rightM m)) ∧ Below w.heap.size w w' := by
  obtain ⟨v1, ev⟩ : ∃ v, v = w.alloc (.cells #[.int .i64 m.clock, .int .i64 m.author, .int .i64 m.from_.id.1, .int .i64 m.from_.id.2, .bool m.from_.behind, .int .i64 m.upto.id.1, .int .i64 m.upto.id.2, .bool m.upto.behind, .int .i64 m.name, .int .i64 m.value] 31) := ⟨_, rfl⟩
  obtain ⟨g, eg⟩ : ∃ g, g = w.heap.size := ⟨_, rfl⟩
  have hb : Below w.heap.size w v1 := by rw [ev]; exact (Below.refl _ _).alloc (Nat.le_refl _) _
  have hq : MrkB v1 g m := by rw [ev, eg]; exact mrk_box w m
  have hg : g < v1.heap.size := by rw [ev, eg]; simp
  have HB1 := Lib.hid hb
  have HB := Lib.hid (Below.refl v1.heap.size v1)
  have HV := Lib.hid (And.intro ev eg)
  have HQ := Lib.hid (fun wz (hz : Below v1.heap.size v1 wz) => hq.keep hz hg)
  obtain ⟨b0, e0⟩ : ∃ b, b = inB m.clock 1 1099511627776 := ⟨_, rfl⟩
  obtain ⟨b1, e1⟩ : ∃ b, b = inB m.author 0 4 := ⟨_, rfl⟩
  obtain ⟨b2, e2⟩ : ∃ b, b = inB m.name 1 4 := ⟨_, rfl⟩
  obtain ⟨b3, e3⟩ : ∃ b, b = inB m.value 0 1099511627776 := ⟨_, rfl⟩
  obtain ⟨b4, e4⟩ : ∃ b, b = elB m.from_.id := ⟨_, rfl⟩
  obtain ⟨b5, e5⟩ : ∃ b, b = elB m.upto.id := ⟨_, rfl⟩
  obtain ⟨r, er⟩ : ∃ r, r = rightM m := ⟨_, rfl⟩
  have HE := Lib.hid (show r = (b0 && (b1 && (b2 && (b3 && (b4 && b5))))) by
    rw [er, e0, e1, e2, e3, e4, e5]
    unfold rightM inB
    rw [Bool.eq_iff_iff]
    simp only [Bool.and_eq_true, decide_eq_true_eq]
    unfold rightP
    constructor
    · rintro ⟨⟨h1, h2, h3, h4, h5, h6, h7, h8⟩, h9, h10⟩
      exact ⟨⟨h1, h2⟩, ⟨h3, h4⟩, ⟨h5, h6⟩, ⟨h7, h8⟩, h9, h10⟩
    · rintro ⟨⟨h1, h2⟩, ⟨h3, h4⟩, ⟨h5, h6⟩, ⟨h7, h8⟩, h9, h10⟩
      exact ⟨⟨h1, h2, h3, h4, h5, h6, h7, h8⟩, h9, h10⟩)
  have H0 := Lib.hid (fun wz => show Calls Try.prog 38 #[.int .i64 m.clock, .int .i64 1, .int .i64 1099511627776] wz fun e w' => e = .returned (.bool b0) ∧ w' = wz from by rw [e0]; exact in_any _ _ _ wz)
  have H1 := Lib.hid (fun wz => show Calls Try.prog 38 #[.int .i64 m.author, .int .i64 0, .int .i64 4] wz fun e w' => e = .returned (.bool b1) ∧ w' = wz from by rw [e1]; exact in_any _ _ _ wz)
  have H2 := Lib.hid (fun wz => show Calls Try.prog 38 #[.int .i64 m.name, .int .i64 1, .int .i64 4] wz fun e w' => e = .returned (.bool b2) ∧ w' = wz from by rw [e2]; exact in_any _ _ _ wz)
  have H3 := Lib.hid (fun wz => show Calls Try.prog 38 #[.int .i64 m.value, .int .i64 0, .int .i64 1099511627776] wz fun e w' => e = .returned (.bool b3) ∧ w' = wz from by rw [e3]; exact in_any _ _ _ wz)
  have H4 := Lib.hid (fun wz => show Calls Try.prog 39 #[idV m.from_.id] wz fun e w' => e = .returned (.bool b4) ∧ Below wz.heap.size wz w' from by rw [e4]; exact may16_any _ wz)
  have H5 := Lib.hid (fun wz => show Calls Try.prog 39 #[idV m.upto.id] wz fun e w' => e = .returned (.bool b5) ∧ Below wz.heap.size wz w' from by rw [e5]; exact may16_any _ wz)
  rw [← er]
  obtain ⟨q0, q1, q2, q3, q4, q5, q6, q7, q8, q9⟩ := hq
  clear ev eg hb hg e0 e1 e2 e3 e4 e5 er
  go_enter Try.func13, Try.ntmps13
  go_upto_region 1 with fail
  rw [← HV.out.1, ← HV.out.2]
  clear HV
  go_wp2_with fail
  go_at_call 38
  refine (H0.out v1).mono ?_
  rintro e w' ⟨rfl, hw⟩
  rw [hw]
  clear hw w'
  cases b0 with
  | false =>
    go_wp2_with fail
    go_ret
    rw [HE.out]
    exact ⟨rfl, HB1.out⟩
  | true =>
    go_wp2_with fail
    go_at_call 38
    refine (H1.out v1).mono ?_
    rintro e w' ⟨rfl, hw⟩
    rw [hw]
    clear hw w'
    cases b1 with
    | false =>
      go_wp2_with fail
      go_ret
      rw [HE.out]
      exact ⟨rfl, HB1.out⟩
    | true =>
      go_wp2_with fail
      go_at_call 38
      refine (H2.out v1).mono ?_
      rintro e w' ⟨rfl, hw⟩
      rw [hw]
      clear hw w'
      cases b2 with
      | false =>
        go_wp2_with fail
        go_ret
        rw [HE.out]
        exact ⟨rfl, HB1.out⟩
      | true =>
        go_wp2_with fail
        go_at_call 38
        refine (H3.out v1).mono ?_
        rintro e w' ⟨rfl, hw⟩
        rw [hw]
        clear hw w'
        cases b3 with
        | false =>
          go_wp2_with fail
          go_ret
          rw [HE.out]
          exact ⟨rfl, HB1.out⟩
        | true =>
          go_wp2_with fail
          go_at_call 39
          refine (H4.out v1).mono ?_
          rintro e v6 ⟨rfl, h4⟩
          have HB4 := Lib.hid (HB.out.trans (h4.mono HB.out.size))
          clear h4 q0 q1 q2 q3 q4 q5 q6 q7 q8 q9
          obtain ⟨q0, q1, q2, q3, q4, q5, q6, q7, q8, q9⟩ := HQ.out v6 HB4.out
          cases b4 with
          | false =>
            go_wp2_with fail
            go_ret
            rw [HE.out]
            exact ⟨rfl, HB1.out.trans (HB4.out.mono HB1.out.size)⟩
          | true =>
            go_wp2_with fail
            go_at_call 39
            refine (H5.out v6).mono ?_
            rintro e v7 ⟨rfl, h5⟩
            have HB5 := Lib.hid (HB4.out.trans (h5.mono HB4.out.size))
            clear h5 q0 q1 q2 q3 q4 q5 q6 q7 q8 q9
            cases b5 with
            | false =>
              go_wp2_with fail
              go_ret
              rw [HE.out]
              exact ⟨rfl, HB1.out.trans (HB5.out.mono HB1.out.size)⟩
            | true =>
              go_wp2_with fail
              go_ret
              rw [HE.out]
              exact ⟨rfl, HB1.out.trans (HB5.out.mono HB1.out.size)⟩
/-- A book in memory. -/
def BkR : BookP := fun w F p L => ∃ T A c, p = pB T ∧ OwnF w 0 82 (some ⟨T, 0, none⟩) 1 1 (fun _ => .slice A L.length c) ∧ OwnR mrkE w 0 31 A c L ∧ (∀ ad, A = some ad → ad.block ≠ T) ∧ (∀ k, F k ↔ (k = T ∨ ∃ ad, A = some ad ∧ ad.block = k)) ∧ Good L ∧ L.length ≤ 512
theorem BkR.keep {w w' : World} {F : Nat → Prop} {p : Value} {L : List Mrk} (h : BkR w F p L) (hk : ∀ k, F k → w'.heap[k]? = w.heap[k]?) : BkR w' F p L := by
  obtain ⟨T, A, c, e, o, r, hd, hF, hg⟩ := h
  exact ⟨T, A, c, e, OwnF.same_ o (hk T ((hF T).2 (.inl rfl))), r.keep0 (fun ad ha => hk _ ((hF _).2 (.inr ⟨ad, ha, rfl⟩))), hd, hF, hg⟩
theorem BkR.le {w : World} {F : Nat → Prop} {p : Value} {L : List Mrk} (h : BkR w F p L) : ∀ k, F k → k < w.heap.size := by
  obtain ⟨T, A, c, e, o, r, hd, hF, hg⟩ := h
  intro k hk
  rcases (hF k).1 hk with h9 | ⟨ad, h9, h8⟩
  · rw [h9]; exact OwnF.lt o
  · rw [← h8]; exact (r.blk ad h9).2
theorem newbook_any (w : World) : Calls Try.prog 11 #[] w fun x w' => ∃ p F, x = .returned p ∧ BkR w' F p [] ∧ (∀ k, F k → w.heap.size ≤ k) ∧ Below w.heap.size w w' := by
  obtain ⟨v1, ev⟩ : ∃ v, v = w.alloc (.cells #[.slice none 0 0] 82) := ⟨_, rfl⟩
  have hb : Below w.heap.size w v1 := by rw [ev]; exact (Below.refl _ _).alloc (Nat.le_refl _) _
  have ho : OwnF v1 0 82 (some ⟨w.heap.size, 0, none⟩) 1 1 (fun _ => .slice none 0 0) := by rw [ev]; exact OwnF.lit _ (Nat.zero_le _) _ 1 _ (by decide) rfl
  have HV := Lib.hid (And.intro ev (And.intro hb ho))
  clear ev hb ho
  go_enter Try.func11, Try.ntmps11
  go_wp2_with fail
  rw [← HV.out.1]
  go_ret
  exact ⟨pB w.heap.size, fun k => k = w.heap.size, rfl, ⟨w.heap.size, none, 0, rfl, HV.out.2.2, OwnR.nothing _ _ _ _, fun ad h => (by cases h), fun k => ⟨.inl, fun h => h.elim id fun ⟨ad, h, _⟩ => (by cases h)⟩, Good.nil, Nat.zero_le _⟩, fun k hk => by rw [hk]; exact Nat.le_refl _, HV.out.2.1⟩
theorem all_nil16 (w : World) : Calls Try.prog 44 #[.pointer none] w fun e w' => e = .returned (.slice none 0 0) ∧ w' = w := by
  go_enter Try.func44, Try.ntmps44
  go_wp2_with fail
  go_ret
  exact ⟨rfl, rfl⟩
theorem all_any16 {T : Nat} {v : Value} (w : World) (c0 : w.cell? ⟨T, 0, none⟩ = some v) : Calls Try.prog 44 #[pB T] w fun e w' => e = .returned v ∧ w' = w := by
  go_enter Try.func44, Try.ntmps44
  go_wp2_with fail
  go_ret
  exact ⟨rfl, rfl⟩
/-- The marks of the receiver: those of a book, or none. -/
def Recv (w : World) (p : Value) (A : Option Addr) (c : Nat) (L : List Mrk) : Prop := Good L ∧ L.length ≤ 512 ∧ RdR mrkE w w.heap.size A c L ∧ ∀ wz, Below w.heap.size w wz → Calls Try.prog 44 #[p] wz fun e w' => e = .returned (.slice A L.length c) ∧ w' = wz
theorem recv_nil (w : World) : Recv w (.pointer none) none 0 [] := ⟨Good.nil, Nat.zero_le _, RdR.nothing _ _ _, fun wz _ => all_nil16 wz⟩
theorem recv_of {w : World} {F : Nat → Prop} {p : Value} {L : List Mrk} (h : BkR w F p L) : ∃ A c, Recv w p A c L := by
  obtain ⟨T, A, c, rfl, o, r, hd, hF, hg, hl⟩ := h
  exact ⟨A, c, hg, hl, r.rd, fun wz hz => all_any16 wz (OwnF.cell (OwnF.keep o hz) (k := 0) (by decide))⟩
theorem find16_any {w : World} {p : Value} {A : Option Addr} {c : Nat} {L : List Mrk} (h : Recv w p A c L) (k a : Int) :
    Calls Try.prog 41 #[p, .int .i64 k, .int .i64 a] w fun e w' => e = .returned (.tuple #[.int .i64 (posM L (k, a) : Int), .bool (mhasB L k a)]) ∧ Below w.heap.size w w' := by
  obtain ⟨hg, hl, r, hall⟩ := h
  have HA := Lib.hid (hall w (Below.refl _ _))
  have HS := Lib.hid (bsearch_any ⟨k, a, ⟨(0, 0), false⟩, ⟨(0, 0), false⟩, 0, 0⟩ w r (Nat.le_refl _) rfl hl hg.ord)
  clear hg hl r hall
  go_enter Try.func41, Try.ntmps41
  go_wp2_with fail
  go_at_call 44
  refine HA.out.mono ?_
  rintro e w' ⟨rfl, rfl⟩
  go_wp2_with fail
  go_at_call 59
  refine HS.out.mono ?_
  rintro e v2 ⟨rfl, h2⟩
  have HB := Lib.hid h2
  clear h2
  go_wp2_with fail
  go_returns
  exact ⟨rfl, HB.out⟩
theorem has16_any {w : World} {p : Value} {A : Option Addr} {c : Nat} {L : List Mrk} (h : Recv w p A c L) (k a : Int) :
    Calls Try.prog 18 #[p, .int .i64 k, .int .i64 a] w fun e w' => e = .returned (.bool (mhasB L k a)) ∧ Below w.heap.size w w' := by
  have HF := Lib.hid (find16_any h k a)
  clear h
  go_enter Try.func18, Try.ntmps18
  go_wp2_with fail
  go_at_call 41
  refine HF.out.mono ?_
  rintro e v2 ⟨rfl, h2⟩
  have HB := Lib.hid h2
  clear h2
  go_wp2_with fail
  go_ret
  exact ⟨rfl, HB.out⟩
theorem slice_nil (w : World) : (binOp .eql 22 (.slice none 0 0) (.slice none 0 0)).run Try.prog w = Result.ok (.bool true) w := by
  rw [run_eql_nil_slice w 22 31 none 0 0 0 0 Try.underlying22]; rfl
theorem slice_some (ad : Addr) (n c : Nat) (w : World) : (binOp .eql 22 (.slice (some ad) n c) (.slice none 0 0)).run Try.prog w = Result.ok (.bool false) w := by
  rw [Lib.run_eql_slice_nil w 22 31 (some ad) n c 0 0 Try.underlying22]; rfl
set_option maxHeartbeats 1600000 in
theorem sclone_any {A : Option Addr} {B c n : Nat} {L : List Mrk} (w : World) (r : RdR mrkE w B A c L) (hB : B ≤ w.heap.size) (hn : L.length = n) (hl : n ≤ 512) :
    Calls Try.prog 43 #[.slice A n c] w fun e w' => ∃ A' c', e = .returned (.slice A' n c') ∧ OwnR mrkE w' w.heap.size 31 A' c' L ∧ Below w.heap.size w w' := by
  obtain ⟨i0, hi0, hz0, hz1, hz2⟩ := info_parts infoMrk
  cases A with
  | none =>
    obtain ⟨rfl, rfl⟩ := r.nil rfl
    have e0 : n = 0 := hn.symm
    subst e0
    have hsn := slice_nil w
    clear r hn hi0 hz0 hz1 hz2
    go_enter Try.func43, Try.ntmps43
    go_wp2_with fail
    go_ret
    exact ⟨none, 0, rfl, OwnR.nothing _ _ _ _, Below.refl _ _⟩
  | some ad =>
    have hb : Below w.heap.size w (w.alloc (.cells #[] 31)) := (Below.refl _ _).alloc (Nat.le_refl _) _
    have ho : OwnR mrkE (w.alloc (.cells #[] 31)) w.heap.size 31 (some ⟨w.heap.size, 0, none⟩) 0 [] := OwnR.lit (E := mrkE) 31 (Nat.le_refl _) #[] [] (by decide) rfl
    have HI := Lib.hid (And.intro hi0 (And.intro hz0 (And.intro hz1 hz2)))
    have HO := Lib.hid (And.intro ho (And.intro (r.keep (hb.mono hB)) hn))
    have HB := Lib.hid hb
    have HLN := Lib.hid (show 0 + n ≤ 140737488355328 ∧ (0 + n) * 80 ≤ 140737488355328 by omega)
    have hss := slice_some ad n c w
    clear hb ho r hn hl hB hi0 hz0 hz1 hz2
    go_enter Try.func43, Try.ntmps43
    go_wp2_with (at_builtin; refine wpList_appR (w.alloc (.cells #[] 31)) rfl (.tmp 5) (.tmp 6) _ rfl w.heap.size 31 i0 _ Try.underlying22 HI.out.1 HI.out.2.1 HI.out.2.2.1 HI.out.2.2.2 rfl (L := []) rfl rfl HO.out.1 HO.out.2.2 rfl HO.out.2.1 HLN.out.1 HLN.out.2 HB.out.size ?_; intro A8 c8 w8 o8 hb8 hg8; have HW := Lib.hid (And.intro o8 (HB.out.trans hb8)); clear o8 hb8 hg8)
    go_ret
    exact ⟨A8, c8, rfl, HW.out.1, HW.out.2⟩
theorem list16_any {w : World} {p : Value} {A : Option Addr} {c : Nat} {L : List Mrk} (h : Recv w p A c L) :
    Calls Try.prog 17 #[p] w fun e w' => ∃ A' c', e = .returned (.slice A' L.length c') ∧ OwnR mrkE w' w.heap.size 31 A' c' L ∧ Below w.heap.size w w' := by
  obtain ⟨hg, hl, r, hall⟩ := h
  have HA := Lib.hid (hall w (Below.refl _ _))
  have HS := Lib.hid (sclone_any w r (Nat.le_refl _) rfl hl)
  clear hg hl r hall
  go_enter Try.func17, Try.ntmps17
  go_wp2_with fail
  go_at_call 44
  refine HA.out.mono ?_
  rintro e w' ⟨rfl, rfl⟩
  go_wp2_with fail
  go_at_call 43
  refine HS.out.mono ?_
  rintro e v2 ⟨A2, c2, rfl, o2, h2⟩
  have HB := Lib.hid (And.intro o2 h2)
  clear o2 h2
  go_wp2_with fail
  go_ret
  exact ⟨A2, c2, rfl, HB.out.1, HB.out.2⟩
set_option maxHeartbeats 1600000 in
theorem last16_any {w : World} {p : Value} {A : Option Addr} {c : Nat} {L : List Mrk} (h : Recv w p A c L) :
    Calls Try.prog 20 #[p] w fun e w' => e = .returned (.int .i64 (lastM L)) ∧ Below w.heap.size w w' := by
  obtain ⟨hg, hl, r, hall⟩ := h
  have HA := Lib.hid (hall w (Below.refl _ _))
  rcases snoc_cases L with rfl | ⟨pre, z, rfl⟩
  · clear hg hl r hall
    go_enter Try.func20, Try.ntmps20
    go_wp2_with fail
    go_at_call 44
    refine HA.out.mono ?_
    rintro e w' ⟨rfl, rfl⟩
    simp only [List.length_nil]
    go_wp2_with fail
    go_ret
    exact ⟨rfl, Below.refl _ _⟩
  · obtain ⟨n, en⟩ : ∃ n, n = (pre ++ [z]).length := ⟨_, rfl⟩
    rw [← en] at HA hl
    obtain ⟨lm, elm⟩ : ∃ q, q = pre.length := ⟨_, rfl⟩
    have hlm : n = lm + 1 := by rw [en, elm, List.length_append]; rfl
    obtain ⟨b, o, rfl, _, c0, _⟩ := mrk_at r (k := lm) (x := z) (by rw [elm, List.getElem?_append_right (Nat.le_refl _), Nat.sub_self]; rfl)
    have g6 : IntKind.i64.wrap ((n : Int) - 1) = (lm : Int) := by rw [IntKind.wrap_i64]; omega
    have g7 : (lm : Int) < (n : Int) := by omega
    have g8 : ((n : Int) == 0) = false := by simp; omega
    have HD := Lib.hid (lastM_snoc pre z)
    clear hg hl r hall en elm hlm
    go_enter Try.func20, Try.ntmps20
    go_wp2_with fail
    go_at_call 44
    refine HA.out.mono ?_
    rintro e w' ⟨rfl, rfl⟩
    go_wp2_with fail
    go_ret
    rw [HD.out]
    exact ⟨rfl, Below.refl _ _⟩
theorem clone_nil16 (w : World) : Calls Try.prog 35 #[.pointer none] w fun e w' => e = .returned (.pointer none) ∧ Below w.heap.size w w' := by
  go_enter Try.func35, Try.ntmps35
  go_wp2_with fail
  go_ret
  exact ⟨rfl, Below.refl _ _⟩
theorem clone16_any {F : Nat → Prop} {p : Value} {L : List Mrk} (w : World) (h : BkR w F p L) :
    Calls Try.prog 35 #[p] w fun e w' => ∃ p' F', e = .returned p' ∧ BkR w' F' p' L ∧ (∀ k, F' k → w.heap.size ≤ k) ∧ Below w.heap.size w w' := by
  have hgl : Good L ∧ L.length ≤ 512 := by obtain ⟨_, _, _, _, _, _, _, _, h⟩ := h; exact h
  obtain ⟨A0, c0, hr⟩ := recv_of h
  have HL := Lib.hid (list16_any hr)
  obtain ⟨T, _, _, rfl, _⟩ := h
  have HG := Lib.hid hgl
  clear hr hgl
  go_enter Try.func35, Try.ntmps35
  go_wp2_with fail
  go_at_call 17
  refine HL.out.mono ?_
  rintro e v2 ⟨A2, c2, rfl, o2, h2⟩
  obtain ⟨v3, ev⟩ : ∃ v, v = v2.alloc (.cells #[.slice A2 L.length c2] 82) := ⟨_, rfl⟩
  have hb : Below v2.heap.size v2 v3 := by rw [ev]; exact (Below.refl _ _).alloc (Nat.le_refl _) _
  have ho : OwnF v3 0 82 (some ⟨v2.heap.size, 0, none⟩) 1 1 (fun _ => .slice A2 L.length c2) := by rw [ev]; exact OwnF.lit _ (Nat.zero_le _) _ 1 _ (by decide) rfl
  have hblk := o2.blk
  have HV := Lib.hid (And.intro ev (And.intro ho (And.intro ((o2.keep hb).mono (Nat.zero_le _)) (And.intro hblk (And.intro h2.size (h2.trans (hb.mono h2.size)))))))
  clear ev hb ho o2 h2 hblk
  go_wp2_with fail
  rw [← HV.out.1]
  go_ret
  obtain ⟨_, ho, o2, hblk, hs, hb⟩ := HV.out
  refine ⟨pB v2.heap.size, fun k => k = v2.heap.size ∨ ∃ ad, A2 = some ad ∧ ad.block = k, rfl, ⟨v2.heap.size, A2, c2, rfl, ho, o2, fun ad ha e => ?_, fun k => Iff.rfl, HG.out⟩, fun k hk => ?_, hb⟩
  · have := (hblk ad ha).2
    omega
  · rcases hk with hk | ⟨ad, ha, hk⟩
    · rw [hk]; exact hs
    · rw [← hk]; exact (hblk ad ha).1
end Go.Proofs.Ytpjeggbkhbghaaa
