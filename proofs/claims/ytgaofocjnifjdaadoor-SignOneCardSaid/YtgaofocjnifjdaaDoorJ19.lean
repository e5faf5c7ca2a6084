/-
  Slices of bytes (of layer 6's take). By an AI agent. A list of lists of bytes in memory. Of no program. By an AI agent. More of slices: up to a place, and up to a place with no room behind (beside N25). By an AI agent. octet.Join (layer 1): any lists, one behind the other. By an AI agent. Boxes of a scalar and of a signer; lists of two and of three lists of bytes (the code of layer 9). By an AI agent.
-/
import Derived.Test.YtgaofocjnifjdaaDoorMA
import Derived.Deep.MidRow
import Derived.Test.YtgaofocjnifjdaaDoorPt
namespace Go.Proofs.YtgaofocjnifjdaaDoor
open Go Go.RowKit
set_option maxRecDepth 20000
/-- Where a slice of a slice lies. -/
def subA (A : Option Addr) (c l : Nat) : Option Addr := if c = l then A else A.map (·.add l)
theorem Rd.sub_ {w : World} {B c l n : Nat} {A : Option Addr} {bs : List UInt8} (h : Rd w B A c bs) (hl : l + n ≤ bs.length) : Rd w B (subA A c l) (c - l) ((bs.drop l).take n) := by
  have hlen : ((bs.drop l).take n).length = n := by rw [List.length_take, List.length_drop]; omega
  have hcap := h.cap
  unfold subA
  by_cases hc : c = l
  · rw [if_pos hc]
    have h0 : n = 0 := by omega
    subst h0
    exact ⟨by rw [hlen]; omega, fun _ => ⟨by simp, by omega⟩, fun hne => absurd (by simp) hne⟩
  · rw [if_neg hc]
    refine ⟨by rw [hlen]; omega, fun hA => ?_, fun hne => ?_⟩
    · obtain ⟨e1, e2⟩ := h.nil (by simpa using hA)
      rw [e1] at hl
      simp only [List.length_nil] at hl
      omega
    · have hn : 0 < n := by
        refine Nat.pos_of_ne_zero fun h0 => hne ?_
        rw [h0, List.take_zero]
      obtain ⟨b, o, rfl, hb, hcell⟩ := h.some_ (by rintro rfl; simp at hl; omega)
      refine ⟨b, o + l, by simp [Addr.add_mid], hb, fun k hk => ?_⟩
      rw [hlen] at hk
      rw [Nat.add_assoc, hcell (l + k) (by omega)]
      unfold nth
      rw [List.getElem?_take, if_pos hk, List.getElem?_drop]
theorem Rd.drop_ {w : World} {B c l : Nat} {A : Option Addr} {bs : List UInt8} (h : Rd w B A c bs) (hl : l ≤ bs.length) : Rd w B (subA A c l) (c - l) (bs.drop l) := by
  have h1 := h.sub_ (l := l) (n := bs.length - l) (by omega)
  rwa [List.take_of_length_le (by rw [List.length_drop]; omega)] at h1
/-- No part of a block. -/
def Off (g : Nat) (A : Option Addr) : Prop := ∀ ad, A = some ad → ad.block ≠ g
theorem Addr.add_block (ad : Addr) (l : Nat) : (ad.add l).block = ad.block := by unfold Addr.add; split <;> rfl
theorem Off.sub {g c l : Nat} {A : Option Addr} (h : Off g A) : Off g (subA A c l) := by
  unfold subA
  split
  · exact h
  · intro ad had
    cases A with
    | none => simp at had
    | some a0 =>
      simp only [Option.map_some, Option.some.injEq] at had
      rw [← had, Addr.add_block]
      exact h a0 rfl
theorem infoU8 : (Tryd.prog.info? 5).map (fun i => (i.zero, i.size, i.bytes)) = some (some (.int .u8 0), 1, 1) := by kernel_rfl
theorem size_u8 (w : World) : (sizeOf 5).run Tryd.prog w = .ok 1 w := by
  obtain ⟨i0, hi0, hz0, hz1, hz2⟩ := info_parts infoU8
  simp [sizeOf, typeInfo, hi0, hz1]
theorem slice_run (w : World) {A : Option Addr} {n c l h : Nat} (h1 : l ≤ h) (h2 : h ≤ c) : (Instr.slice 22 (.slice A n c) (some (.int .i64 (l : Int))) (some (.int .i64 (h : Int))) none).run Tryd.prog w = .ok (.slice (subA A c l) (h - l) (c - l)) w := by
  have k1 : (0 : Int) ≤ (l : Int) ∧ (l : Int) ≤ (h : Int) := by omega
  have k2 : (0 : Int) ≤ (h : Int) ∧ (h : Int) ≤ (c : Int) := by omega
  unfold Instr.slice Instr.sliceBounds Instr.sliceBound subA
  simp [Sem.run_bind, asIntOf, run_underlying Tryd.underlying22 w, size_u8 w, h1, h2]
theorem slice_run_lo (w : World) {A : Option Addr} {n c l : Nat} (h1 : l ≤ n) : (Instr.slice 22 (.slice A n c) (some (.int .i64 (l : Int))) none none).run Tryd.prog w = .ok (.slice (subA A c l) (n - l) (c - l)) w := by
  unfold Instr.slice Instr.sliceBounds Instr.sliceBound subA
  simp [Sem.run_bind, asIntOf, run_underlying Tryd.underlying22 w, size_u8 w, h1]
theorem slice_op {o : Oper} {a : Act} {w : World} {x lo hi : Operand} {A : Option Addr} {n c l h : Nat} (ho : o.op = .slice 22 x (some lo) (some hi) none) (e1 : a.eval x = .slice A n c) (e2 : a.eval lo = .int .i64 (l : Int)) (e3 : a.eval hi = .int .i64 (h : Int)) (h1 : l ≤ h) (h2 : h ≤ c) :
    (execOp a.eval o).run Tryd.prog w = .ok (.value (.slice (subA A c l) (h - l) (c - l))) w := by
  unfold execOp
  simp only [ho, e1, e2, e3, Option.map_some, Option.map_none, Instr.sliceAt, Sem.run_bind, run_underlying Tryd.underlying22 w, slice_run w h1 h2, Result.andThen_ok, Sem.run_pure]
theorem slice_op_n {o : Oper} {a : Act} {w : World} {x lo hi : Operand} {A : Option Addr} {n c l h m : Nat} (ho : o.op = .slice 22 x (some lo) (some hi) none) (e1 : a.eval x = .slice A n c) (e2 : a.eval lo = .int .i64 (l : Int)) (e3 : a.eval hi = .int .i64 (h : Int)) (h1 : l ≤ h) (h2 : h ≤ c) (hm : h - l = m) :
    (execOp a.eval o).run Tryd.prog w = .ok (.value (.slice (subA A c l) m (c - l))) w := by
  rw [← hm]
  exact slice_op ho e1 e2 e3 h1 h2
theorem slice_op_lo {o : Oper} {a : Act} {w : World} {x lo : Operand} {A : Option Addr} {n c l : Nat} (ho : o.op = .slice 22 x (some lo) none none) (e1 : a.eval x = .slice A n c) (e2 : a.eval lo = .int .i64 (l : Int)) (h1 : l ≤ n) :
    (execOp a.eval o).run Tryd.prog w = .ok (.value (.slice (subA A c l) (n - l) (c - l))) w := by
  unfold execOp
  simp only [ho, e1, e2, Option.map_some, Option.map_none, Instr.sliceAt, Sem.run_bind, run_underlying Tryd.underlying22 w, slice_run_lo w h1, Result.andThen_ok, Sem.run_pure]
end Go.Proofs.YtgaofocjnifjdaaDoor
namespace Go.Proofs.YtgaofocjnifjdaaDoor
open Go Go.RowKit
def row (L : List (List UInt8)) (k : Nat) : List UInt8 := L[k]?.getD []
theorem row_get {L : List (List UInt8)} {k : Nat} (h : k < L.length) : row L k = L[k] := by simp [row, h]
/-- All lists, one behind the other. -/
def joinL (L : List (List UInt8)) : List UInt8 := L.flatten
/-- The first k lists, one behind the other. -/
def joinK (L : List (List UInt8)) (k : Nat) : List UInt8 := (L.take k).flatten
theorem joinK_zero (L : List (List UInt8)) : joinK L 0 = [] := by simp [joinK]
theorem joinK_succ {L : List (List UInt8)} {k : Nat} (h : k < L.length) : joinK L (k + 1) = joinK L k ++ row L k := by
  simp only [joinK, List.take_succ_eq_append_getElem h, List.flatten_append, row_get h]; simp
theorem joinK_full (L : List (List UInt8)) : joinK L L.length = joinL L := by simp [joinK, joinL]
theorem joinK_le (L : List (List UInt8)) (k : Nat) : (joinK L k).length ≤ (joinL L).length := by
  unfold joinL
  have : L.flatten = joinK L k ++ (L.drop k).flatten := by rw [joinK, ← List.flatten_append, List.take_append_drop]
  rw [this, List.length_append]; omega
theorem row_le {L : List (List UInt8)} {k : Nat} (h : k < L.length) : (joinK L k).length + (row L k).length ≤ (joinL L).length := by
  have := joinK_le L (k + 1)
  rw [joinK_succ h, List.length_append] at this
  exact this

/-- The slice at 'A' reads as the lists of bytes L, all below block B. -/
structure Rds (w : World) (B : Nat) (A : Option Addr) (c : Nat) (L : List (List UInt8)) : Prop where
  cap : L.length ≤ c
  nil : A = none → L = [] ∧ c = 0
  some_ : L ≠ [] → ∃ b o, A = some ⟨b, o, none⟩ ∧ b < B ∧ ∀ k, k < L.length → ∃ Ak ck, w.cell? ⟨b, o + k, none⟩ = some (.slice Ak (row L k).length ck) ∧ Rd w B Ak ck (row L k)
section
variable {w w' : World} {B B' c : Nat} {A : Option Addr} {L : List (List UInt8)}
theorem Rds.keep (h : Rds w B A c L) (hb : Below B w w') : Rds w' B A c L :=
  ⟨h.cap, h.nil, fun hn => by
    obtain ⟨b, o, e, hlt, hc⟩ := h.some_ hn
    refine ⟨b, o, e, hlt, fun k hk => ?_⟩
    obtain ⟨Ak, ck, h1, h2⟩ := hc k hk
    exact ⟨Ak, ck, (hb.cell (p := ⟨b, o + k, none⟩) hlt).trans h1, h2.keep hb⟩⟩
theorem Rds.mono (h : Rds w B A c L) (hb : B ≤ B') : Rds w B' A c L :=
  ⟨h.cap, h.nil, fun hn => by
    obtain ⟨b, o, e, hlt, hc⟩ := h.some_ hn
    refine ⟨b, o, e, by omega, fun k hk => ?_⟩
    obtain ⟨Ak, ck, h1, h2⟩ := hc k hk
    exact ⟨Ak, ck, h1, h2.mono hb⟩⟩
theorem Rds.next (h : Rds w w.heap.size A c L) (hb : Below w.heap.size w w') : Rds w' w'.heap.size A c L := (h.keep hb).mono hb.size
theorem Rds.at_ {k : Nat} (h : Rds w B A c L) (hk : k < L.length) : ∃ b o, A = some ⟨b, o, none⟩ ∧ b < B ∧ ∃ Ak ck, w.cell? ⟨b, o + k, none⟩ = some (.slice Ak (row L k).length ck) ∧ Rd w B Ak ck (row L k) := by
  obtain ⟨b, o, e, hlt, hc⟩ := h.some_ (by rintro rfl; simp at hk)
  exact ⟨b, o, e, hlt, hc k hk⟩
end
end Go.Proofs.YtgaofocjnifjdaaDoor
namespace Go.Proofs.YtgaofocjnifjdaaDoor
open Go Go.RowKit
theorem slice_run_hi (w : World) {A : Option Addr} {n c h : Nat} (h1 : h ≤ c) : (Instr.slice 22 (.slice A n c) none (some (.int .i64 (h : Int))) none).run Tryd.prog w = .ok (.slice (subA A c 0) h c) w := by
  unfold Instr.slice Instr.sliceBounds Instr.sliceBound subA
  simp [Sem.run_bind, asIntOf, run_underlying Tryd.underlying22 w, size_u8 w, h1]
/-- The first n bytes. -/
theorem Rd.pre {w : World} {B c n : Nat} {A : Option Addr} {bs : List UInt8} (h : Rd w B A c bs) (hn : n ≤ bs.length) (h0 : 0 < n) : Rd w B A c (bs.take n) := by
  have hl : (bs.take n).length = n := by rw [List.length_take]; omega
  have hcap := h.cap
  obtain ⟨b, o, rfl, hb, _⟩ := h.at_ (k := 0) (by omega)
  refine ⟨by omega, fun h => by simp at h, fun _ => ⟨b, o, rfl, hb, fun k hk => ?_⟩⟩
  obtain ⟨b2, o2, e2, _, c2⟩ := h.at_ (k := k) (by omega)
  simp only [Option.some.injEq, Addr.mk.injEq] at e2
  obtain ⟨rfl, rfl, _⟩ := e2
  rw [c2]
  unfold nth
  rw [List.getElem?_take, if_pos (by omega)]
end Go.Proofs.YtgaofocjnifjdaaDoor
namespace Go.Proofs.YtgaofocjnifjdaaDoor
open Go Go.RowKit
/-- 'make([]byte, 0, n)'. -/
theorem run_mk0 {P : Program} (t e : TypeId) (i : TypeInfo) (ht : P.underlying t = some (.slice e)) (hi : P.info? e = some i) (hz : i.zero = some (.int .u8 0))
    (hsize : i.size = 1) (hby : i.bytes = 1) {n : Nat} (hn : n ≤ 281474976710656) (w : World) :
    (Instr.makeSlice t (.int .i64 0) (.int .i64 (n : Int))).run P w = .ok (.slice (some ⟨w.heap.size, 0, none⟩) 0 n) (w.alloc (.cells (madeCells #[.int .u8 0] n) e)) := by
  have h := run_make (P := P) w t e i (.int .u8 0) ht hi hz .i64 .i64 0 n (by omega) (by omega) (by rw [hby]; omega) (by omega)
  simpa [hsize, Value.cells] using h
theorem Own.made0 {w : World} {B n : Nat} (e : TypeId) (hB : B ≤ w.heap.size) (hn : n ≤ maxLen) : Own (w.alloc (.cells (madeCells #[.int .u8 0] n) e)) B e (some ⟨w.heap.size, 0, none⟩) n [] :=
  World.ownsRow_made w _ n hB hn (by simp [madeCells])
set_option maxHeartbeats 800000 in
theorem join_code {A : Option Addr} {c B : Nat} {L : List (List UInt8)} (w : World) (h1 : Rds w B A c L) (hB : B ≤ w.heap.size) (hs : (joinL L).length ≤ 1048576) (hn : L.length ≤ 1048576) :
    Calls Tryd.prog 17 #[.slice A L.length c] w fun e w' => ∃ A' c', e = .returned (.slice A' (joinL L).length c') ∧ Own w' w.heap.size 5 A' c' (joinL L) ∧ Below w.heap.size w w' := by
  obtain ⟨i0, hi, hz0, hz1, hz2⟩ := info_parts infoU8
  go_enter Tryd.func17, Tryd.ntmps17
  go_wp2
  go_loop [3, 11] (fun n i => ∃ k : Nat, k ≤ L.length ∧ i = .int .i64 k ∧ n = .int .i64 ((joinK L k).length : Int)) (fun _ i => L.length - (intOf i).toNat)
  case atStart => exact ⟨0, Nat.zero_le _, rfl, by rw [joinK_zero]; rfl⟩
  case round =>
    obtain ⟨k, hk, rfl, rfl⟩ := hrel
    by_cases hlt : k < L.length
    · obtain ⟨b1, o1, rfl, hb1, Ak, ck, cc, rk⟩ := (h1.mono hB).at_ hlt
      have g1 : (k : Int) < (L.length : Int) := by omega
      have rl := row_le hlt
      go_wp2_with fail
      go_round
      case rel => exact ⟨k + 1, by omega, by go_num, by rw [joinK_succ hlt, List.length_append]; go_num⟩
      case measure => simp [intOf]; omega
    · have g1 : ¬ (k : Int) < (L.length : Int) := by omega
      have hk' : k = L.length := by omega
      subst hk'
      rw [joinK_full] at *
      have hmk := run_mk0 (P := Tryd.prog) 22 5 i0 Tryd.underlying22 hi hz0 hz1 hz2 (n := (joinL L).length) (by omega)
      have hm : Own (w.alloc (.cells (madeCells #[.int .u8 0] (joinL L).length) 5)) w.heap.size 5 (some ⟨w.heap.size, 0, none⟩) (joinL L).length [] := Own.made0 5 (Nat.le_refl _) (by unfold maxLen; omega)
      have hb0 : Below w.heap.size w (w.alloc (.cells (madeCells #[.int .u8 0] (joinL L).length) 5)) := (Below.refl _ w).alloc (Nat.le_refl _) _
      go_wp2_with fail
      clear hmk
      go_loopw [6, 24] (fun v i wr => ∃ k : Nat, k ≤ L.length ∧ i = .int .i64 k ∧ (∃ A c, v = .slice A (joinK L k).length c ∧ Own wr w.heap.size 5 A c (joinK L k)) ∧ Below w.heap.size w wr)
        (fun _ i _ => L.length - (intOf i).toNat)
      case atStart => exact ⟨0, Nat.zero_le _, rfl, ⟨_, _, by rw [joinK_zero]; rfl, by rw [joinK_zero]; exact hm⟩, hb0⟩
      case round =>
        obtain ⟨k, hk, rfl, ⟨Av, cv, rfl, ho⟩, hb⟩ := hrel
        clear hm hb0 g1
        by_cases hlt : k < L.length
        · obtain ⟨b1, o1, rfl, hb1, Ak, ck, cc, rk⟩ := (h1.mono hB).at_ hlt
          have g1 : (k : Int) < (L.length : Int) := by omega
          have rl := row_le hlt
          have cc2 : wr.cell? ⟨b1, o1 + k, none⟩ = some (.slice Ak (row L k).length ck) := (hb.cell (p := ⟨b1, o1 + k, none⟩) hb1).trans cc
          have rk2 := rk.keep hb
          clear cc rk
          go_wp2_with (at_builtin; refine wpList_app _ rfl (.tmp 28) (.tmp 29) _ rfl w.heap.size 5 i0 _ Tryd.underlying22 hi hz0 hz1 hz2 rfl rfl ho rfl rk2 (by omega) hb.size ?_; intro A' c' w' ho' hb')
          go_roundw
          case rel =>
            exact ⟨k + 1, by omega, by go_num, ⟨A', c', by rw [joinK_succ hlt, List.length_append], by rw [joinK_succ hlt]; exact ho'⟩, hb.trans hb'⟩
          case measure => simp [intOf]; omega
        · have g1 : ¬ (k : Int) < (L.length : Int) := by omega
          have hk' : k = L.length := by omega
          subst hk'
          rw [joinK_full] at *
          go_wp2_with fail
          go_ret
          exact ⟨Av, cv, rfl, ho, hb⟩
end Go.Proofs.YtgaofocjnifjdaaDoor
namespace Go.Proofs.YtgaofocjnifjdaaDoor
open Go Go.RowKit
abbrev Zs : Obj := .cells #[.int .u64 0, .int .u64 0, .int .u64 0, .int .u64 0] 39
def Osc (w : World) (B g x : Nat) : Prop := OwnF w B 39 (some ⟨g, 0, none⟩) 4 4 (wv x)
/-- The six words of a signer: its number, two slices. -/
def gw (x : Nat) (A1 : Option Addr) (n1 c1 : Nat) (A2 : Option Addr) (n2 c2 k : Nat) : Value := if k < 4 then wv x k else if k = 4 then .slice A1 n1 c1 else .slice A2 n2 c2
abbrev gv (x : Nat) (A1 : Option Addr) (n1 c1 : Nat) (A2 : Option Addr) (n2 c2 : Nat) : Value := .agg #[.int .u64 (wd x 0 : Int), .int .u64 (wd x 1 : Int), .int .u64 (wd x 2 : Int), .int .u64 (wd x 3 : Int), .slice A1 n1 c1, .slice A2 n2 c2]
abbrev Zg : Obj := .cells #[.int .u64 0, .int .u64 0, .int .u64 0, .int .u64 0, .slice none 0 0, .slice none 0 0] 36
def gz (k : Nat) : Value := if k < 4 then .int .u64 0 else .slice none 0 0
def O6 (w : World) (B g x : Nat) (A1 : Option Addr) (n1 c1 : Nat) (A2 : Option Addr) (n2 c2 : Nat) : Prop := OwnF w B 36 (some ⟨g, 0, none⟩) 6 6 (gw x A1 n1 c1 A2 n2 c2)
section
variable {w w' : World} {B g x : Nat} {A1 A2 : Option Addr} {n1 c1 n2 c2 : Nat}
theorem Osc.keep (h : Osc w B g x) (hb : Below w.heap.size w w') : Osc w' B g x := OwnF.keep h hb
theorem Osc.newz (hB : B ≤ w.heap.size) : Osc (w.alloc Zs) B w.heap.size 0 := (OwnF.lit _ hB _ 4 (fun _ => .int .u64 0) (by decide) rfl).congr fun k _ => by simp [wv, wd, dgt]
theorem Osc.lt (h : Osc w B g x) : g < w.heap.size := OwnF.lt h
theorem Osc.ge (h : Osc w B g x) : B ≤ g := OwnF.ge h
theorem Osc.mono {B' : Nat} (h : Osc w B g x) (hb : B' ≤ B) : Osc w B' g x := OwnF.mono h hb
theorem Osc.put (h : Osc w B g x) (y : Nat) : Osc (set4w w g y) B g y := put4o h y
theorem Osc.below (h : Osc w B g x) (y : Nat) : Below B w (set4w w g y) := (set4w_below w g y).mono h.ge
theorem O6.keep (h : O6 w B g x A1 n1 c1 A2 n2 c2) (hb : Below w.heap.size w w') : O6 w' B g x A1 n1 c1 A2 n2 c2 := OwnF.keep h hb
theorem O6.mono {B' : Nat} (h : O6 w B g x A1 n1 c1 A2 n2 c2) (hb : B' ≤ B) : O6 w B' g x A1 n1 c1 A2 n2 c2 := OwnF.mono h hb
theorem O6.lt (h : O6 w B g x A1 n1 c1 A2 n2 c2) : g < w.heap.size := OwnF.lt h
theorem O6.ge (h : O6 w B g x A1 n1 c1 A2 n2 c2) : B ≤ g := OwnF.ge h
theorem g6_newz (hB : B ≤ w.heap.size) : OwnF (w.alloc Zg) B 36 (some ⟨w.heap.size, 0, none⟩) 6 6 gz := OwnF.lit _ hB _ 6 gz (by decide) rfl
/-- Another signer is laid there. -/
def set6 (w : World) (g x : Nat) (A1 : Option Addr) (n1 c1 : Nat) (A2 : Option Addr) (n2 c2 : Nat) : World :=
  ((((((w.setCell ⟨g, 0, none⟩ (.int .u64 (wd x 0 : Int))).setCell ⟨g, 1, none⟩ (.int .u64 (wd x 1 : Int))).setCell ⟨g, 2, none⟩ (.int .u64 (wd x 2 : Int))).setCell ⟨g, 3, none⟩ (.int .u64 (wd x 3 : Int))).setCell ⟨g, 4, none⟩ (.slice A1 n1 c1)).setCell ⟨g, 5, none⟩ (.slice A2 n2 c2))
theorem put6 {f : Nat → Value} (h : OwnF w B 36 (some ⟨g, 0, none⟩) 6 6 f) (x : Nat) (A1 : Option Addr) (n1 c1 : Nat) (A2 : Option Addr) (n2 c2 : Nat) : O6 (set6 w g x A1 n1 c1 A2 n2 c2) B g x A1 n1 c1 A2 n2 c2 := by
  have h4 := (((((h.set_ 0 (.int .u64 (wd x 0 : Int))).set_ 1 (.int .u64 (wd x 1 : Int))).set_ 2 (.int .u64 (wd x 2 : Int))).set_ 3 (.int .u64 (wd x 3 : Int))).set_ 4 (.slice A1 n1 c1)).set_ 5 (.slice A2 n2 c2)
  refine OwnF.congr h4 fun k hk => ?_
  have : k = 0 ∨ k = 1 ∨ k = 2 ∨ k = 3 ∨ k = 4 ∨ k = 5 := by omega
  rcases this with rfl | rfl | rfl | rfl | rfl | rfl <;> rfl
theorem only6 (w : World) (g x : Nat) (A1 : Option Addr) (n1 c1 : Nat) (A2 : Option Addr) (n2 c2 : Nat) : Only g w (set6 w g x A1 n1 c1 A2 n2 c2) :=
  ((((((Only.setCell w ⟨g, 0, none⟩ _).trans (Only.setCell _ ⟨g, 1, none⟩ _)).trans (Only.setCell _ ⟨g, 2, none⟩ _)).trans (Only.setCell _ ⟨g, 3, none⟩ _)).trans (Only.setCell _ ⟨g, 4, none⟩ _)).trans (Only.setCell _ ⟨g, 5, none⟩ _))
end
attribute [local irreducible] wd
section
variable {o : Oper} {a : Act} {w : World} {B g x : Nat} {A1 A2 : Option Addr} {n1 c1 n2 c2 : Nat}
theorem run_scload {s : Operand} (ho : o.op = .load 39 s) (h1 : a.eval s = .pointer (some ⟨g, 0, none⟩)) (h : Osc w B g x) : (execOp a.eval o).run Tryd.prog w = .ok (.value (nv x)) w := by
  have c0 : w.cell? ⟨g, 0, none⟩ = some (.int .u64 (wd x 0 : Int)) := OwnF.cell h (k := 0) (by decide)
  have c1 : w.cell? ⟨g, 1, none⟩ = some (.int .u64 (wd x 1 : Int)) := OwnF.cell h (k := 1) (by decide)
  have c2 : w.cell? ⟨g, 2, none⟩ = some (.int .u64 (wd x 2 : Int)) := OwnF.cell h (k := 2) (by decide)
  have c3 : w.cell? ⟨g, 3, none⟩ = some (.int .u64 (wd x 3 : Int)) := OwnF.cell h (k := 3) (by decide)
  unfold execOp
  simp only [ho, h1]
  go_simp
theorem run_scstore {s1 s2 : Operand} {z : Nat} {f : Nat → Value} (ho : o.op = .store 39 s1 s2) (h1 : a.eval s1 = .pointer (some ⟨g, 0, none⟩)) (h2 : a.eval s2 = nv z) (h : OwnF w B 39 (some ⟨g, 0, none⟩) 4 4 f) : (execOp a.eval o).run Tryd.prog w = .ok .skip (set4w w g z) := by
  have c0 := h.cell (k := 0) (by decide)
  have c1 := h.cell (k := 1) (by decide)
  have c2 := h.cell (k := 2) (by decide)
  have c3 := h.cell (k := 3) (by decide)
  have f0 := h.free 0
  have f1 := h.free 1
  have f2 := h.free 2
  have f3 := h.free 3
  unfold execOp set4w
  simp only [ho, h1, h2]
  go_simp
theorem O6.num (h : O6 w B g x A1 n1 c1 A2 n2 c2) : w.cell? ⟨g, 0, none⟩ = some (.int .u64 (wd x 0 : Int)) ∧ w.cell? ⟨g, 1, none⟩ = some (.int .u64 (wd x 1 : Int)) ∧ w.cell? ⟨g, 2, none⟩ = some (.int .u64 (wd x 2 : Int)) ∧ w.cell? ⟨g, 3, none⟩ = some (.int .u64 (wd x 3 : Int)) :=
  ⟨OwnF.cell h (k := 0) (by decide), OwnF.cell h (k := 1) (by decide), OwnF.cell h (k := 2) (by decide), OwnF.cell h (k := 3) (by decide)⟩
theorem O6.two (h : O6 w B g x A1 n1 c1 A2 n2 c2) : w.cell? ⟨g, 4, none⟩ = some (.slice A1 n1 c1) ∧ w.cell? ⟨g, 5, none⟩ = some (.slice A2 n2 c2) :=
  ⟨OwnF.cell h (k := 4) (by decide), OwnF.cell h (k := 5) (by decide)⟩
theorem run_gnum {s : Operand} (ho : o.op = .load 34 s) (h1 : a.eval s = .pointer (some ⟨g, 0, none⟩)) (h : O6 w B g x A1 n1 c1 A2 n2 c2) : (execOp a.eval o).run Tryd.prog w = .ok (.value (nv x)) w := by
  obtain ⟨c0, c1, c2, c3⟩ := h.num
  unfold execOp
  simp only [ho, h1]
  go_simp
theorem run_gstore {s1 s2 : Operand} {f : Nat → Value} (ho : o.op = .store 36 s1 s2) (h1 : a.eval s1 = .pointer (some ⟨g, 0, none⟩)) (h2 : a.eval s2 = gv x A1 n1 c1 A2 n2 c2) (h : OwnF w B 36 (some ⟨g, 0, none⟩) 6 6 f) : (execOp a.eval o).run Tryd.prog w = .ok .skip (set6 w g x A1 n1 c1 A2 n2 c2) := by
  have c0 := h.cell (k := 0) (by decide)
  have c1 := h.cell (k := 1) (by decide)
  have c2 := h.cell (k := 2) (by decide)
  have c3 := h.cell (k := 3) (by decide)
  have c4 := h.cell (k := 4) (by decide)
  have c5 := h.cell (k := 5) (by decide)
  have f0 := h.free 0
  have f1 := h.free 1
  have f2 := h.free 2
  have f3 := h.free 3
  have f4 := h.free 4
  have f5 := h.free 5
  unfold execOp set6
  simp only [ho, h1, h2]
  go_simp
theorem gbuilt (x : Nat) (A1 : Option Addr) (n1 c1 : Nat) (A2 : Option Addr) (n2 c2 : Nat) : Tryd.prog.built 36 [(0, nv x), (1, .slice A1 n1 c1), (2, .slice A2 n2 c2)] = some #[.int .u64 (wd x 0 : Int), .int .u64 (wd x 1 : Int), .int .u64 (wd x 2 : Int), .int .u64 (wd x 3 : Int), .slice A1 n1 c1, .slice A2 n2 c2] := by kernel_rfl
theorem run_gbuild {s0 s1 s2 : Operand} (ho : o.op = .build 36 #[(0, s0), (1, s1), (2, s2)]) (h0 : a.eval s0 = nv x) (h1 : a.eval s1 = .slice A1 n1 c1) (h2 : a.eval s2 = .slice A2 n2 c2) : (execOp a.eval o).run Tryd.prog w = .ok (.value (gv x A1 n1 c1 A2 n2 c2)) w := by
  have h := run_build (P := Tryd.prog) w 36 #[(0, nv x), (1, .slice A1 n1 c1), (2, .slice A2 n2 c2)] _ (gbuilt x A1 n1 c1 A2 n2 c2)
  unfold execOp
  simp only [ho, List.map_toArray, List.map_cons, List.map_nil, h0, h1, h2, Sem.run_bind, h, Result.andThen_ok, Sem.run_pure]
end
section
variable {ops : Array Oper} {rest : List Oper} {a : Act} {w : World} {Q : Exit → Act → World → Prop} {B g v : Nat} {dst : Option Nat} {tp : TypeId} {ps : String} {af : Array Edge} {x y : Operand} {A1 A2 : Option Addr} {n1 c1 n2 c2 : Nat}
theorem sc_load (o : Osc w B g v) (hx : a.eval x = .pointer (some ⟨g, 0, none⟩)) (h : wpList Tryd.prog ops Q rest (a.put dst (nv v)) w) : wpList Tryd.prog ops Q (⟨dst, .load 39 x, tp, ps, af, none⟩ :: rest) a w :=
  read_to (nv v) rfl (run_scload rfl hx o) h
theorem sc_store (o : Osc w B g v) (z : Nat) (hx : a.eval x = .pointer (some ⟨g, 0, none⟩)) (hy : a.eval y = nv z) (h : wpList Tryd.prog ops Q rest (a.put dst undef) (set4w w g z)) : wpList Tryd.prog ops Q (⟨dst, .store 39 x y, tp, ps, af, none⟩ :: rest) a w :=
  skip_to rfl (run_scstore rfl hx hy o) h
theorem g_store {f : Nat → Value} (o : OwnF w B 36 (some ⟨g, 0, none⟩) 6 6 f) (z : Nat) (A1 : Option Addr) (n1 c1 : Nat) (A2 : Option Addr) (n2 c2 : Nat) (hx : a.eval x = .pointer (some ⟨g, 0, none⟩)) (hy : a.eval y = gv z A1 n1 c1 A2 n2 c2) (h : wpList Tryd.prog ops Q rest (a.put dst undef) (set6 w g z A1 n1 c1 A2 n2 c2)) : wpList Tryd.prog ops Q (⟨dst, .store 36 x y, tp, ps, af, none⟩ :: rest) a w :=
  skip_to rfl (run_gstore rfl hx hy o) h
theorem g_build (z : Nat) (A1 : Option Addr) (n1 c1 : Nat) (A2 : Option Addr) (n2 c2 : Nat) {s0 s1 s2 : Operand} (h0 : a.eval s0 = nv z) (h1 : a.eval s1 = .slice A1 n1 c1) (h2 : a.eval s2 = .slice A2 n2 c2) (h : wpList Tryd.prog ops Q rest (a.put dst (gv z A1 n1 c1 A2 n2 c2)) w) : wpList Tryd.prog ops Q (⟨dst, .build 36 #[(0, s0), (1, s1), (2, s2)], tp, ps, af, none⟩ :: rest) a w :=
  read_to (gv z A1 n1 c1 A2 n2 c2) rfl (run_gbuild rfl h0 h1 h2) h
end
theorem scres {fn : Func} {p : Tmp} (h : fn.results = #[.cell p 39]) (tmps : Array Value) {w : World} {B g x : Nat} (o : Osc w B g x) (hp : tmps.getD p undef = .pointer (some ⟨g, 0, none⟩)) : (results fn tmps).run Tryd.prog w = .ok (nv x) w := by
  have hp' : tmps[p]?.getD undef = .pointer (some ⟨g, 0, none⟩) := by simpa using hp
  have c0 : w.cell? ⟨g, 0, none⟩ = some (.int .u64 (wd x 0 : Int)) := OwnF.cell o (k := 0) (by decide)
  have c1 : w.cell? ⟨g, 1, none⟩ = some (.int .u64 (wd x 1 : Int)) := OwnF.cell o (k := 1) (by decide)
  have c2 : w.cell? ⟨g, 2, none⟩ = some (.int .u64 (wd x 2 : Int)) := OwnF.cell o (k := 2) (by decide)
  have c3 : w.cell? ⟨g, 3, none⟩ = some (.int .u64 (wd x 3 : Int)) := OwnF.cell o (k := 3) (by decide)
  simp [results, h, hp', asAddr, go_sem, c0, c1, c2, c3]
theorem gres {fn : Func} {p q : Tmp} (h : fn.results = #[.cell p 36, .tmp q]) (tmps : Array Value) {w : World} {B g x : Nat} {A1 A2 : Option Addr} {n1 k1 n2 k2 : Nat} (o : O6 w B g x A1 n1 k1 A2 n2 k2) (hp : tmps.getD p undef = .pointer (some ⟨g, 0, none⟩)) {v : Value} (hv : tmps.getD q undef = v) :
    (results fn tmps).run Tryd.prog w = .ok (.tuple #[gv x A1 n1 k1 A2 n2 k2, v]) w := by
  subst hv
  have hp' : tmps[p]?.getD undef = .pointer (some ⟨g, 0, none⟩) := by simpa using hp
  obtain ⟨c0, c1, c2, c3⟩ := o.num
  obtain ⟨c4, c5⟩ := o.two
  simp only [results, h]
  simp [Result.andThen, hp', asAddr, go_sem, c0, c1, c2, c3, c4, c5]
/-! Lists of lists, laid for a call. -/
theorem rds2 {w : World} {A A' : Option Addr} {n m c c' : Nat} {xs ys : List UInt8} (hx : xs.length = n) (hy : ys.length = m) (h1 : Rd w w.heap.size A c xs) (h2 : Rd w w.heap.size A' c' ys) :
    Rds (w.alloc (.cells #[.slice A n c, .slice A' m c'] 22)) (w.alloc (.cells #[.slice A n c, .slice A' m c'] 22)).heap.size (some ⟨w.heap.size, 0, none⟩) 2 [xs, ys] := by
  subst hx hy
  have hb := (Below.refl w.heap.size w).alloc (Nat.le_refl _) (.cells #[.slice A xs.length c, .slice A' ys.length c'] 22)
  have k1 := (h1.keep hb).mono hb.size
  have k2 := (h2.keep hb).mono hb.size
  refine ⟨Nat.le_refl _, fun h => by simp at h, fun _ => ⟨w.heap.size, 0, rfl, by simp, fun k hk => ?_⟩⟩
  rw [Nat.zero_add, World.cell?_alloc_new]
  have : k = 0 ∨ k = 1 := by simp at hk; omega
  rcases this with rfl | rfl
  · exact ⟨A, c, rfl, k1⟩
  · exact ⟨A', c', rfl, k2⟩
theorem rds3 {w : World} {A A' A3 : Option Addr} {n m l c c' c3 : Nat} {xs ys zs : List UInt8} (hx : xs.length = n) (hy : ys.length = m) (hz : zs.length = l) (h1 : Rd w w.heap.size A c xs) (h2 : Rd w w.heap.size A' c' ys) (h3 : Rd w w.heap.size A3 c3 zs) :
    Rds (w.alloc (.cells #[.slice A n c, .slice A' m c', .slice A3 l c3] 22)) (w.alloc (.cells #[.slice A n c, .slice A' m c', .slice A3 l c3] 22)).heap.size (some ⟨w.heap.size, 0, none⟩) 3 [xs, ys, zs] := by
  subst hx hy hz
  have hb := (Below.refl w.heap.size w).alloc (Nat.le_refl _) (.cells #[.slice A xs.length c, .slice A' ys.length c', .slice A3 zs.length c3] 22)
  have k1 := (h1.keep hb).mono hb.size
  have k2 := (h2.keep hb).mono hb.size
  have k3 := (h3.keep hb).mono hb.size
  refine ⟨Nat.le_refl _, fun h => by simp at h, fun _ => ⟨w.heap.size, 0, rfl, by simp, fun k hk => ?_⟩⟩
  rw [Nat.zero_add, World.cell?_alloc_new]
  have : k = 0 ∨ k = 1 ∨ k = 2 := by simp at hk; omega
  rcases this with rfl | rfl | rfl
  · exact ⟨A, c, rfl, k1⟩
  · exact ⟨A', c', rfl, k2⟩
  · exact ⟨A3, c3, rfl, k3⟩
/-! A row that lies elsewhere. -/
theorem Rd.only {w w' : World} {B g c : Nat} {A : Option Addr} {bs : List UInt8} (h : Rd w B A c bs) (hx : Only g w w') (ho : Off g A) : Rd w' B A c bs :=
  ⟨h.cap, h.nil, fun hn => by
    obtain ⟨b, o, e, hlt, hc⟩ := h.some_ hn
    refine ⟨b, o, e, hlt, fun k hk => ?_⟩
    rw [← hc k hk]
    unfold World.cell?
    rw [hx.block b (ho ⟨b, o, none⟩ e)]⟩
theorem Off.own {w : World} {B g : Nat} {e : TypeId} {A : Option Addr} {c : Nat} {bs : List UInt8} (h : Own w B e A c bs) (hg : g < B) : Off g A := by
  obtain ⟨_, h2⟩ := h
  rcases h2 with ⟨hv, h0⟩ | ⟨g1, cap, cur, hv, hB, _⟩
  · simp only [Value.slice.injEq] at hv
    intro ad had
    rw [hv.1] at had
    cases had
  · simp only [Value.slice.injEq] at hv
    intro ad had
    rw [hv.1] at had
    cases had
    exact fun h => by simp only at h; omega
/-- A row of so many bytes, elsewhere. -/
def Bo (g n : Nat) (bs : List UInt8) (v : Value) (w : World) : Prop := ∃ A c, v = .slice A n c ∧ Rd w w.heap.size A c bs ∧ Off g A
theorem Bo.keep (g n : Nat) (bs : List UInt8) : ∀ v w w', Bo g n bs v w → Below w.heap.size w w' → Bo g n bs v w' := fun _ _ _ ⟨A, c, e, h, o⟩ hb => ⟨A, c, e, (h.keep hb).mono hb.size, o⟩
theorem join2 (xs ys : List UInt8) : joinL [xs, ys] = xs ++ ys := by simp [joinL]
theorem join3 (xs ys zs : List UInt8) : joinL [xs, ys, zs] = xs ++ ys ++ zs := by simp [joinL]
end Go.Proofs.YtgaofocjnifjdaaDoor
