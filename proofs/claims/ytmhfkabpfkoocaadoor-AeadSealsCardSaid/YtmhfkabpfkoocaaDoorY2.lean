/-
  Layer 10's document: words. Written by tools/gen_y2.py. By an AI agent.
-/
import Derived.Test.YtmhfkabpfkoocaaDoorY1
import Derived.Test.YtmhfkabpfkoocaaDoorInv
import Derived.Deep.Cut
namespace Go.Proofs.YtmhfkabpfkoocaaDoor
open Go Go.RowKit
set_option maxRecDepth 20000
/-- The word that begins at a byte, the lowest byte first. -/
def wle (bs : List UInt8) (i : Nat) : Nat := nth bs i + 256 * nth bs (i + 1) + 65536 * nth bs (i + 2) + 16777216 * nth bs (i + 3)
theorem wle_lt (bs : List UInt8) (i : Nat) : wle bs i < 4294967296 := by
  have h0 := nth_lt bs i
  have h1 := nth_lt bs (i + 1)
  have h2 := nth_lt bs (i + 2)
  have h3 := nth_lt bs (i + 3)
  unfold wle
  omega
def wlv (bs : List UInt8) (k : Nat) : Value := .int .u32 ((wle bs (4 * k) : Nat) : Int)
theorem infoU32w : (Tryd.prog.info? 34).map (fun i => (i.zero, i.size, i.bytes)) = some (some (.int .u32 0), 1, 4) := by kernel_rfl
/-- append of words. -/
theorem wpList_app32 {P : Program} (w : World) {ops : Array Oper} {rest : List Oper} {o : Oper} {a : Act} {Q : Exit → Act → World → Prop} (hgd : o.guard = none) (s x : Operand) (t : TypeId)
    (ho : o.op = .call { callee := .builtin .append, args := #[s, x], argTypes := #[t, t] })
    (base : Nat) (e : TypeId) (i : TypeInfo) (z : Value) (ht : P.underlying t = some (.slice e)) (hi : P.info? e = some i) (hz : i.zero = some z)
    (hsize : i.size = 1) {by_ : Nat} (hby : i.bytes = by_) (hby0 : 0 < by_) (hzs : z.cells.size = 1) {As : Option Addr} {cs n : Nat} {f : Nat → Value} (hs : a.eval s = .slice As n cs) (hown : OwnF w base e As cs n f)
    {B c m : Nat} {A : Option Addr} {g : Nat → Value} (hx : a.eval x = .slice A m c) (hr : RdF w B A c m g) (hg : ∀ k, k < m → (g k).oneCell' = true) (hlen : n + m ≤ 140737488355328) (hbytes : (n + m) * by_ ≤ 140737488355328) (hbase : base ≤ w.heap.size)
    (h : ∀ A' c' w', OwnF w' base e A' c' (n + m) (fun k => if k < n then f k else g (k - n)) → Below base w w' → wpList P ops Q rest (a.put o.dst (.slice A' (n + m) c')) w') : wpList P ops Q (o :: rest) a w :=
  wpList_plain hgd fun _ hK => wp_appF w s x t ho base e i z ht hi hz hsize hby hby0 hzs hs hown hx hr hg hlen hbytes hbase fun A' c' w' h1 h2 => hK _ _ (h A' c' w' h1 h2)
attribute [local irreducible] wle
theorem words10_any {bs : List UInt8} {m : Nat} (hl : bs.length = 4 * m) (hm : m ≤ 1000) (h0 : 0 < m) {A0 : Option Addr} {B c0 : Nat} (w : World) (hr : Rd w B A0 c0 bs) (hB : B ≤ w.heap.size) :
    Calls Tryd.prog 31 #[.slice A0 bs.length c0] w fun e w' => ∃ A c, e = .returned (.slice A m c) ∧ OwnF w' w.heap.size 34 A c m (wlv bs) ∧ Below w.heap.size w w' := by
  obtain ⟨i0, hi, hz0, hz1, hz2⟩ := info_parts infoU32w
  obtain ⟨b1, o1, rfl, _, _⟩ := hr.at_ (k := 0) (by omega)
  have hcell : ∀ m, m < bs.length → ∀ wz, Below w.heap.size w wz → wz.cell? ⟨b1, o1 + m, none⟩ = some (.int .u8 ((nth bs m : Nat) : Int)) := fun m hm wz hz => by
    obtain ⟨b2, o2, e2, _, c2⟩ := (hr.keep (hz.mono hB)).at_ (k := m) hm
    simp only [Option.some.injEq, Addr.mk.injEq] at e2
    obtain ⟨rfl, rfl, _⟩ := e2
    exact c2
  have HCE := Lib.hid hcell
  obtain ⟨L, hL⟩ : ∃ L, L = bs.length := ⟨_, rfl⟩
  rw [← hL]
  have HL := Lib.hid (hL.trans hl)
  have HB := Lib.hid hL
  clear hl hL hcell
  go_enter Tryd.func31, Tryd.ntmps31
  go_wp2_with fail
  go_loopw [3, 4] (fun v i wr => ∃ t : Nat, t ≤ m ∧ i = .int .i64 ((4 * t : Nat) : Int) ∧ (∃ A c, v = .slice A t c ∧ OwnF wr w.heap.size 34 A c t (wlv bs)) ∧ Below w.heap.size w wr)
    (fun _ i _ => 4 * m - (intOf i).toNat)
  case atStart => exact ⟨0, by omega, rfl, ⟨none, 0, rfl, OwnF.nothing _ _ _ _⟩, Below.refl _ _⟩
  case round =>
    obtain ⟨t, ht, rfl, ⟨A, c, rfl, os⟩, hb⟩ := hrel
    have hLe := HL.out
    obtain ⟨p0, e0⟩ : ∃ p, p = 4 * t := ⟨_, rfl⟩
    rw [← e0]
    obtain ⟨p3, e3⟩ : ∃ p, p = p0 + 3 := ⟨_, rfl⟩
    have g3 : IntKind.i64.wrap ((p0 : Int) + 3) = (p3 : Int) := by rw [IntKind.wrap_i64]; omega
    by_cases hlt : t < m
    · have hbe := HB.out
      have g4 : (p3 : Int) < (L : Int) := by omega
      obtain ⟨p1, e1⟩ : ∃ p, p = p0 + 1 := ⟨_, rfl⟩
      obtain ⟨p2, e2⟩ : ∃ p, p = p0 + 2 := ⟨_, rfl⟩
      have n0 := nth_lt bs p0
      have n1 := nth_lt bs p1
      have n2 := nth_lt bs p2
      have n3 := nth_lt bs p3
      have hw : wle bs p0 = nth bs p0 + 256 * nth bs p1 + 65536 * nth bs p2 + 16777216 * nth bs p3 := by rw [e1, e2, e3]; unfold wle; rfl
      have hv : Value.int .u32 ((wle bs p0 : Nat) : Int) = wlv bs t := by rw [e0]; rfl
      have hcc : ∀ wz, Below wr.heap.size wr wz → wz.cell? ⟨b1, o1 + p0, none⟩ = some (.int .u8 ((nth bs p0 : Nat) : Int)) ∧ wz.cell? ⟨b1, o1 + p1, none⟩ = some (.int .u8 ((nth bs p1 : Nat) : Int)) ∧ wz.cell? ⟨b1, o1 + p2, none⟩ = some (.int .u8 ((nth bs p2 : Nat) : Int)) ∧ wz.cell? ⟨b1, o1 + p3, none⟩ = some (.int .u8 ((nth bs p3 : Nat) : Int)) := fun wz hz => by
        have h := hb.trans (hz.mono hb.size)
        exact ⟨HCE.out _ (by omega) wz h, HCE.out _ (by omega) wz h, HCE.out _ (by omega) wz h, HCE.out _ (by omega) wz h⟩
      obtain ⟨x0, f0⟩ : ∃ x, x = nth bs p0 := ⟨_, rfl⟩
      obtain ⟨x1, f1⟩ : ∃ x, x = nth bs p1 := ⟨_, rfl⟩
      obtain ⟨x2, f2⟩ : ∃ x, x = nth bs p2 := ⟨_, rfl⟩
      obtain ⟨x3, f3⟩ : ∃ x, x = nth bs p3 := ⟨_, rfl⟩
      rw [← f0, ← f1, ← f2, ← f3] at hw
      simp only [← f0, ← f1, ← f2, ← f3] at hcc
      rw [← f0] at n0
      rw [← f1] at n1
      rw [← f2] at n2
      rw [← f3] at n3
      have HC := Lib.hid hcc
      clear f0 f1 f2 f3 hcc
      obtain ⟨z, ez⟩ : ∃ z, z = wle bs p0 := ⟨_, rfl⟩
      rw [← ez] at hw hv
      have HV := Lib.hid hv
      clear ez hv
      have Q1 := Lib.hid (show IntKind.i64.wrap ((p0 : Int) + 1) = (p1 : Int) by rw [IntKind.wrap_i64]; omega)
      have Q2 := Lib.hid (show IntKind.i64.wrap ((p0 : Int) + 2) = (p2 : Int) by rw [IntKind.wrap_i64]; omega)
      have Q3 := Lib.hid g3
      have Q4 := Lib.hid (show IntKind.i64.wrap ((p0 : Int) + 4) = ((4 * (t + 1) : Nat) : Int) by rw [IntKind.wrap_i64]; omega)
      have I0 := Lib.hid (show (0 : Int) ≤ (p0 : Int) ∧ (p0 : Int) < (L : Int) by omega)
      have W0 := Lib.hid (show IntKind.u32.wrap (x0 : Int) = (x0 : Int) by rw [IntKind.wrap_u32]; omega)
      have I1 := Lib.hid (show (0 : Int) ≤ (p1 : Int) ∧ (p1 : Int) < (L : Int) by omega)
      have W1 := Lib.hid (show IntKind.u32.wrap (x1 : Int) = (x1 : Int) by rw [IntKind.wrap_u32]; omega)
      have I2 := Lib.hid (show (0 : Int) ≤ (p2 : Int) ∧ (p2 : Int) < (L : Int) by omega)
      have W2 := Lib.hid (show IntKind.u32.wrap (x2 : Int) = (x2 : Int) by rw [IntKind.wrap_u32]; omega)
      have I3 := Lib.hid (show (0 : Int) ≤ (p3 : Int) ∧ (p3 : Int) < (L : Int) by omega)
      have W3 := Lib.hid (show IntKind.u32.wrap (x3 : Int) = (x3 : Int) by rw [IntKind.wrap_u32]; omega)
      obtain ⟨y1, k1⟩ : ∃ y, y = 256 * x1 := ⟨_, rfl⟩
      obtain ⟨y2, k2⟩ : ∃ y, y = 65536 * x2 := ⟨_, rfl⟩
      obtain ⟨y3, k3⟩ : ∃ y, y = 16777216 * x3 := ⟨_, rfl⟩
      obtain ⟨z1, j1⟩ : ∃ y, y = x0 + y1 := ⟨_, rfl⟩
      obtain ⟨z2, j2⟩ : ∃ y, y = z1 + y2 := ⟨_, rfl⟩
      have V1 := Lib.hid (show IntKind.u32.wrap (256 * (x1 : Int)) = (y1 : Int) by rw [IntKind.wrap_u32]; omega)
      have V2 := Lib.hid (show IntKind.u32.wrap (65536 * (x2 : Int)) = (y2 : Int) by rw [IntKind.wrap_u32]; omega)
      have V3 := Lib.hid (show IntKind.u32.wrap (16777216 * (x3 : Int)) = (y3 : Int) by rw [IntKind.wrap_u32]; omega)
      have A1 := Lib.hid (show IntKind.u32.wrap ((x0 : Int) + (y1 : Int)) = (z1 : Int) by rw [IntKind.wrap_u32]; omega)
      have A2 := Lib.hid (show IntKind.u32.wrap ((z1 : Int) + (y2 : Int)) = (z2 : Int) by rw [IntKind.wrap_u32]; omega)
      have A3 := Lib.hid (show IntKind.u32.wrap ((z2 : Int) + (y3 : Int)) = (z : Int) by rw [IntKind.wrap_u32]; omega)
      have E0 := Lib.hid e0
      clear e0 e1 e2 e3 k1 k2 k3 j1 j2 hw n0 n1 n2 n3 hLe hbe
      go_upto_region 5 with fail
      clear g3 g4
      refine wp_region_inv 31 [12, 13, 14, 15, 16, 17, 18, 19, 20, 21, 22, 23, 24, 25, 26, 27, 28, 29, 30, 31, 32, 33, 34, 35, 36, 37, 38, 39, 40, 41, 42] [.val (.slice A t c), .val (.slice (some ⟨b1, o1, none⟩) L c0), .val (.int .i64 (p0 : Int)), .val (.pointer (some ⟨b1, o1 + p0, none⟩)), .val (.int .u8 (x0 : Int)), .val (.int .u32 (x0 : Int)), .val (.slice (some ⟨b1, o1, none⟩) L c0), .val (.int .i64 (p0 : Int)), .val (.int .i64 (p1 : Int)), .val (.pointer (some ⟨b1, o1 + p1, none⟩)), .val (.int .u8 (x1 : Int)), .val (.int .u32 (x1 : Int)), .val (.int .u32 (y1 : Int)), .val (.int .u32 (z1 : Int)), .val (.slice (some ⟨b1, o1, none⟩) L c0), .val (.int .i64 (p0 : Int)), .val (.int .i64 (p2 : Int)), .val (.pointer (some ⟨b1, o1 + p2, none⟩)), .val (.int .u8 (x2 : Int)), .val (.int .u32 (x2 : Int)), .val (.int .u32 (y2 : Int)), .val (.int .u32 (z2 : Int)), .val (.slice (some ⟨b1, o1, none⟩) L c0), .val (.int .i64 (p0 : Int)), .val (.int .i64 (p3 : Int)), .val (.pointer (some ⟨b1, o1 + p3, none⟩)), .val (.int .u8 (x3 : Int)), .val (.int .u32 (x3 : Int)), .val (.int .u32 (y3 : Int)), .val (.int .u32 (z : Int)), .one (.int .u32 (z : Int))] (fun wz => Below wr.heap.size wr wz) (by kernel_rfl) (by kernel_rfl) (fun wz wz' hz hb => hz.trans (hb.mono hz.size)) ((Below.refl _ _).drew) (fun u => by simp only [puts, List.foldl_cons, List.foldl_nil]; go_simp; exact rfl) ?_ ?_
      · simp only [List.take_succ_cons, List.take_zero]
        refine Obs.cons (fun u w hS hd => ?_) ?_
        · exact Gv.run (.slice A t c) rfl (by go_simp) rfl
        refine Obs.cons (fun u w hS hd => ?_) ?_
        · exact Gv.run (.slice (some ⟨b1, o1, none⟩) L c0) rfl (by go_simp) rfl
        refine Obs.cons (fun u w hS hd => ?_) ?_
        · exact Gv.run (.int .i64 (p0 : Int)) rfl (by go_simp) rfl
        refine Obs.cons (fun u w hS hd => ?_) ?_
        · have d13 : u 13 = .slice (some ⟨b1, o1, none⟩) L c0 := dep hd 1 rfl
          have d14 : u 14 = .int .i64 (p0 : Int) := dep hd 2 rfl
          rw [d13, d14]
          exact Gv.run (.pointer (some ⟨b1, o1 + p0, none⟩)) rfl (by obtain ⟨h1, h2⟩ := I0.out; go_simp) rfl
        refine Obs.cons (fun u w hS hd => ?_) ?_
        · have d15 : u 15 = .pointer (some ⟨b1, o1 + p0, none⟩) := dep hd 3 rfl
          rw [d15]
          exact Gv.run (.int .u8 (x0 : Int)) rfl (by obtain ⟨c0, c1, c2, c3⟩ := HC.out w hS; go_simp) rfl
        refine Obs.cons (fun u w hS hd => ?_) ?_
        · have d16 : u 16 = .int .u8 (x0 : Int) := dep hd 4 rfl
          rw [d16]
          exact Gv.run (.int .u32 (x0 : Int)) rfl (by have hq := W0.out; go_simp) rfl
        refine Obs.cons (fun u w hS hd => ?_) ?_
        · exact Gv.run (.slice (some ⟨b1, o1, none⟩) L c0) rfl (by go_simp) rfl
        refine Obs.cons (fun u w hS hd => ?_) ?_
        · exact Gv.run (.int .i64 (p0 : Int)) rfl (by go_simp) rfl
        refine Obs.cons (fun u w hS hd => ?_) ?_
        · have d19 : u 19 = .int .i64 (p0 : Int) := dep hd 7 rfl
          rw [d19]
          have hq := Q1.out
          exact Gv.run (.int .i64 (p1 : Int)) rfl (by go_simp) rfl
        refine Obs.cons (fun u w hS hd => ?_) ?_
        · have d18 : u 18 = .slice (some ⟨b1, o1, none⟩) L c0 := dep hd 6 rfl
          have d20 : u 20 = .int .i64 (p1 : Int) := dep hd 8 rfl
          rw [d18, d20]
          exact Gv.run (.pointer (some ⟨b1, o1 + p1, none⟩)) rfl (by obtain ⟨h1, h2⟩ := I1.out; go_simp) rfl
        refine Obs.cons (fun u w hS hd => ?_) ?_
        · have d21 : u 21 = .pointer (some ⟨b1, o1 + p1, none⟩) := dep hd 9 rfl
          rw [d21]
          exact Gv.run (.int .u8 (x1 : Int)) rfl (by obtain ⟨c0, c1, c2, c3⟩ := HC.out w hS; go_simp) rfl
        refine Obs.cons (fun u w hS hd => ?_) ?_
        · have d22 : u 22 = .int .u8 (x1 : Int) := dep hd 10 rfl
          rw [d22]
          exact Gv.run (.int .u32 (x1 : Int)) rfl (by have hq := W1.out; go_simp) rfl
        refine Obs.cons (fun u w hS hd => ?_) ?_
        · have d23 : u 23 = .int .u32 (x1 : Int) := dep hd 11 rfl
          rw [d23]
          have hq := V1.out
          exact Gv.run (.int .u32 (y1 : Int)) rfl (by go_simp) rfl
        refine Obs.cons (fun u w hS hd => ?_) ?_
        · have d17 : u 17 = .int .u32 (x0 : Int) := dep hd 5 rfl
          have d24 : u 24 = .int .u32 (y1 : Int) := dep hd 12 rfl
          rw [d17, d24]
          have hq := A1.out
          exact Gv.run (.int .u32 (z1 : Int)) rfl (by go_simp) rfl
        refine Obs.cons (fun u w hS hd => ?_) ?_
        · exact Gv.run (.slice (some ⟨b1, o1, none⟩) L c0) rfl (by go_simp) rfl
        refine Obs.cons (fun u w hS hd => ?_) ?_
        · exact Gv.run (.int .i64 (p0 : Int)) rfl (by go_simp) rfl
        refine Obs.cons (fun u w hS hd => ?_) ?_
        · have d27 : u 27 = .int .i64 (p0 : Int) := dep hd 15 rfl
          rw [d27]
          have hq := Q2.out
          exact Gv.run (.int .i64 (p2 : Int)) rfl (by go_simp) rfl
        refine Obs.cons (fun u w hS hd => ?_) ?_
        · have d26 : u 26 = .slice (some ⟨b1, o1, none⟩) L c0 := dep hd 14 rfl
          have d28 : u 28 = .int .i64 (p2 : Int) := dep hd 16 rfl
          rw [d26, d28]
          exact Gv.run (.pointer (some ⟨b1, o1 + p2, none⟩)) rfl (by obtain ⟨h1, h2⟩ := I2.out; go_simp) rfl
        refine Obs.cons (fun u w hS hd => ?_) ?_
        · have d29 : u 29 = .pointer (some ⟨b1, o1 + p2, none⟩) := dep hd 17 rfl
          rw [d29]
          exact Gv.run (.int .u8 (x2 : Int)) rfl (by obtain ⟨c0, c1, c2, c3⟩ := HC.out w hS; go_simp) rfl
        refine Obs.cons (fun u w hS hd => ?_) ?_
        · have d30 : u 30 = .int .u8 (x2 : Int) := dep hd 18 rfl
          rw [d30]
          exact Gv.run (.int .u32 (x2 : Int)) rfl (by have hq := W2.out; go_simp) rfl
        refine Obs.cons (fun u w hS hd => ?_) ?_
        · have d31 : u 31 = .int .u32 (x2 : Int) := dep hd 19 rfl
          rw [d31]
          have hq := V2.out
          exact Gv.run (.int .u32 (y2 : Int)) rfl (by go_simp) rfl
        refine Obs.cons (fun u w hS hd => ?_) ?_
        · have d25 : u 25 = .int .u32 (z1 : Int) := dep hd 13 rfl
          have d32 : u 32 = .int .u32 (y2 : Int) := dep hd 20 rfl
          rw [d25, d32]
          have hq := A2.out
          exact Gv.run (.int .u32 (z2 : Int)) rfl (by go_simp) rfl
        refine Obs.cons (fun u w hS hd => ?_) ?_
        · exact Gv.run (.slice (some ⟨b1, o1, none⟩) L c0) rfl (by go_simp) rfl
        refine Obs.cons (fun u w hS hd => ?_) ?_
        · exact Gv.run (.int .i64 (p0 : Int)) rfl (by go_simp) rfl
        refine Obs.cons (fun u w hS hd => ?_) ?_
        · have d35 : u 35 = .int .i64 (p0 : Int) := dep hd 23 rfl
          rw [d35]
          have hq := Q3.out
          exact Gv.run (.int .i64 (p3 : Int)) rfl (by go_simp) rfl
        refine Obs.cons (fun u w hS hd => ?_) ?_
        · have d34 : u 34 = .slice (some ⟨b1, o1, none⟩) L c0 := dep hd 22 rfl
          have d36 : u 36 = .int .i64 (p3 : Int) := dep hd 24 rfl
          rw [d34, d36]
          exact Gv.run (.pointer (some ⟨b1, o1 + p3, none⟩)) rfl (by obtain ⟨h1, h2⟩ := I3.out; go_simp) rfl
        refine Obs.cons (fun u w hS hd => ?_) ?_
        · have d37 : u 37 = .pointer (some ⟨b1, o1 + p3, none⟩) := dep hd 25 rfl
          rw [d37]
          exact Gv.run (.int .u8 (x3 : Int)) rfl (by obtain ⟨c0, c1, c2, c3⟩ := HC.out w hS; go_simp) rfl
        refine Obs.cons (fun u w hS hd => ?_) ?_
        · have d38 : u 38 = .int .u8 (x3 : Int) := dep hd 26 rfl
          rw [d38]
          exact Gv.run (.int .u32 (x3 : Int)) rfl (by have hq := W3.out; go_simp) rfl
        refine Obs.cons (fun u w hS hd => ?_) ?_
        · have d39 : u 39 = .int .u32 (x3 : Int) := dep hd 27 rfl
          rw [d39]
          have hq := V3.out
          exact Gv.run (.int .u32 (y3 : Int)) rfl (by go_simp) rfl
        refine Obs.cons (fun u w hS hd => ?_) ?_
        · have d33 : u 33 = .int .u32 (z2 : Int) := dep hd 21 rfl
          have d40 : u 40 = .int .u32 (y3 : Int) := dep hd 28 rfl
          rw [d33, d40]
          have hq := A3.out
          exact Gv.run (.int .u32 (z : Int)) rfl (by go_simp) rfl
        refine Obs.cons (fun u w hS hd => ?_) ?_
        · have d41 : u 41 = .int .u32 (z : Int) := dep hd 29 rfl
          rw [d41]
          refine Gv.make (.slice (some ⟨w.heap.size, 0, none⟩) 1 1) (w.alloc (.cells #[.int .u32 (z : Int)] 34)) rfl (by go_simp) ⟨_, rfl, ?_⟩ ((Below.refl _ w).alloc (Nat.le_refl _) _)
          exact (OwnF.lit (w := w) 34 (Nat.le_refl _) #[.int .u32 (z : Int)] 1 (fun _ => .int .u32 (z : Int)) (by decide) rfl).rd
        exact Obs.nil
      intro u wz hS hd
      have d12 : u 12 = .slice A t c := hd 0 (by decide)
      obtain ⟨A9, d42, r42⟩ : ∃ A, u 42 = .slice A 1 1 ∧ RdF wz wz.heap.size A 1 1 (fun _ => .int .u32 (z : Int)) := hd 30 (by decide)
      rw [d12, d42]
      clear hd d12 d42
      have os2 := OwnF.keep os hS
      have hbz := hb.trans (hS.mono hb.size)
      have g4 := Q4.out
      simp only [List.drop_succ_cons, List.drop_zero]
      go_wp2_with (at_builtin; refine wpList_app32 _ rfl (.tmp 12) (.tmp 42) _ rfl w.heap.size 34 i0 _ Tryd.underlying49 hi hz0 hz1 hz2 (by decide) rfl rfl os2 rfl r42 (fun _ _ => rfl) (by omega) (by omega) hbz.size ?_; intro A' c' w' ho' hb')
      have he0 := E0.out
      have hre : OwnF w' w.heap.size 34 A' c' (t + 1) (wlv bs) := OwnF.congr ho' fun k hk => by
        by_cases h : k < t
        · rw [if_pos h]
        · rw [if_neg h, show k = t by omega, HV.out]
      go_roundw
      case rel => exact ⟨t + 1, by omega, by rw [show (4 * ((t : Int) + 1)) = ((4 * (t + 1) : Nat) : Int) by omega], ⟨A', c', rfl, hre⟩, hbz.trans hb'⟩
      case measure => simp [intOf]; omega
    · obtain rfl : t = m := by omega
      have g1 : ¬ (p3 : Int) < (L : Int) := by omega
      clear e0 e3 hLe
      go_wp2_with fail
      go_ret
      exact ⟨A, c, rfl, os, hb⟩
end Go.Proofs.YtmhfkabpfkoocaaDoor
