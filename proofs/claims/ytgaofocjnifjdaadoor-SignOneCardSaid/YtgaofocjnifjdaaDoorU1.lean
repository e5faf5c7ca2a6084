/-
  The code's spots (four numbers a point) and tallies (five spots) as values and in memory (layer 8). By an AI agent.
-/
import Derived.Test.YtgaofocjnifjdaaDoorJ08
import Derived.Test.YtgaofocjnifjdaaDoorJ08
import Derived.Test.YtgaofocjnifjdaaDoorPt
namespace Go.Proofs.YtgaofocjnifjdaaDoor
open Go Go.RowKit
set_option maxRecDepth 20000
structure Sp where
  x : Nat
  y : Nat
  z : Nat
  t : Nat
def sf (s : Sp) (j : Nat) : Value := if j < 4 then wv s.x j else if j < 8 then wv s.y (j - 4) else if j < 12 then wv s.z (j - 8) else wv s.t (j - 12)
theorem sf_one (s : Sp) (j : Nat) : (sf s j).oneCell' = true := by unfold sf; split; rfl; split; rfl; split <;> rfl
theorem sf_x {s : Sp} {k : Nat} (h : k < 4) : sf s (0 + k) = wv s.x k := by unfold sf; rw [Nat.zero_add, if_pos h]
theorem sf_y {s : Sp} {k : Nat} (h : k < 4) : sf s (4 + k) = wv s.y k := by unfold sf; rw [if_neg (by omega), if_pos (by omega), Nat.add_sub_cancel_left]
theorem sf_z {s : Sp} {k : Nat} (h : k < 4) : sf s (8 + k) = wv s.z k := by unfold sf; rw [if_neg (by omega), if_neg (by omega), if_pos (by omega), Nat.add_sub_cancel_left]
theorem sf_t {s : Sp} {k : Nat} (_h : k < 4) : sf s (12 + k) = wv s.t k := by unfold sf; rw [if_neg (by omega), if_neg (by omega), if_neg (by omega), Nat.add_sub_cancel_left]
abbrev sv (s : Sp) : Value := av 16 (sf s)
theorem tyS : ATy 73 16 := ⟨⟨_, Tryd.underlying73, rfl⟩, by kernel_rfl⟩
theorem tyN : ATy 34 4 := ⟨⟨_, Tryd.underlying34, rfl⟩, by kernel_rfl⟩
theorem built_S (x y z t : Nat) : Tryd.prog.built 73 [(0, nv x), (1, nv y), (2, nv z), (3, nv t)] = some (rl 16 (sf ⟨x, y, z, t⟩)).toArray := by kernel_rfl
theorem run_Sbuild {o : Oper} {a : Act} {w : World} {s0 s1 s2 s3 : Operand} {x y z t : Nat} (ho : o.op = .build 73 #[(0, s0), (1, s1), (2, s2), (3, s3)]) (h0 : a.eval s0 = nv x) (h1 : a.eval s1 = nv y) (h2 : a.eval s2 = nv z) (h3 : a.eval s3 = nv t) : (execOp a.eval o).run Tryd.prog w = .ok (.value (sv ⟨x, y, z, t⟩)) w := by
  have h := run_build (P := Tryd.prog) w 73 #[(0, nv x), (1, nv y), (2, nv z), (3, nv t)] _ (built_S x y z t)
  unfold execOp
  simp only [ho, List.map_toArray, List.map_cons, List.map_nil, h0, h1, h2, h3, Sem.run_bind, h, Result.andThen_ok, Sem.run_pure]
/-- The block 'g', which the call made (from 'B' on), holds a spot. -/
def OS (w : World) (B g : Nat) (s : Sp) : Prop := OwnF w B 73 (some ⟨g, 0, none⟩) 16 16 (sf s)
abbrev AS (s : Sp) : Obj := .cells (rl 16 (sf s)).toArray 73
theorem OS.new {w : World} {B : Nat} (hB : B ≤ w.heap.size) (s : Sp) : OS (w.alloc (AS s)) B w.heap.size s := OwnF.lit _ hB _ 16 _ (by decide) (by simp [rl])
section
variable {w w' : World} {B B' g : Nat} {t : Sp}
theorem OS.keep (h : OS w B g t) (hb : Below w.heap.size w w') : OS w' B g t := OwnF.keep h hb
theorem OS.mono (h : OS w B g t) (hb : B' ≤ B) : OS w B' g t := OwnF.mono h hb
theorem OS.drew (h : OS w B g t) : OS w.drew B g t := OwnF.drew h
theorem OS.lt (h : OS w B g t) : g < w.heap.size := OwnF.lt h
theorem OS.ge (h : OS w B g t) : B ≤ g := OwnF.ge h
theorem OS.cx (h : OS w B g t) : Cl w g 0 4 (wv t.x) := OwnF.cl h (by decide) fun _ hk => sf_x hk
theorem OS.cy (h : OS w B g t) : Cl w g 4 4 (wv t.y) := OwnF.cl h (by decide) fun _ hk => sf_y hk
theorem OS.cz (h : OS w B g t) : Cl w g 8 4 (wv t.z) := OwnF.cl h (by decide) fun _ hk => sf_z hk
theorem OS.ct (h : OS w B g t) : Cl w g 12 4 (wv t.t) := OwnF.cl h (by decide) fun _ hk => sf_t hk
theorem OS.call (h : OS w B g t) : Cl w g 0 16 (sf t) := OwnF.cl h (by decide) fun _ _ => by rw [Nat.zero_add]
variable {o : Oper} {a : Act} {s : Operand}
theorem run_Sx (ho : o.op = .load 34 s) (h1 : a.eval s = .pointer (some ⟨g, 0, none⟩)) (h : OS w B g t) : (execOp a.eval o).run Tryd.prog w = .ok (.value (nv t.x)) w := av_run ho h1 h.cx tyN
theorem run_Sy (ho : o.op = .load 34 s) (h1 : a.eval s = .pointer (some ⟨g, 4, none⟩)) (h : OS w B g t) : (execOp a.eval o).run Tryd.prog w = .ok (.value (nv t.y)) w := av_run ho h1 h.cy tyN
theorem run_Sz (ho : o.op = .load 34 s) (h1 : a.eval s = .pointer (some ⟨g, 8, none⟩)) (h : OS w B g t) : (execOp a.eval o).run Tryd.prog w = .ok (.value (nv t.z)) w := av_run ho h1 h.cz tyN
theorem run_St (ho : o.op = .load 34 s) (h1 : a.eval s = .pointer (some ⟨g, 12, none⟩)) (h : OS w B g t) : (execOp a.eval o).run Tryd.prog w = .ok (.value (nv t.t)) w := av_run ho h1 h.ct tyN
theorem run_Sload (ho : o.op = .load 73 s) (h1 : a.eval s = .pointer (some ⟨g, 0, none⟩)) (h : OS w B g t) : (execOp a.eval o).run Tryd.prog w = .ok (.value (sv t)) w := av_run ho h1 h.call tyS
theorem run_Sfield (k : Nat) (hk : k < 4) (ho : o.op = .fieldAddr 73 s k) (h1 : a.eval s = .pointer (some ⟨g, 0, none⟩)) : (execOp a.eval o).run Tryd.prog w = .ok (.value (.pointer (some ⟨g, 4 * k, none⟩))) w := by
  rcases (show k = 0 ∨ k = 1 ∨ k = 2 ∨ k = 3 by omega) with rfl | rfl | rfl | rfl <;>
    (unfold execOp
     simp only [ho, h1]
     go_simp)
end
abbrev ZS : Obj := .cells #[.int .u64 0, .int .u64 0, .int .u64 0, .int .u64 0, .int .u64 0, .int .u64 0, .int .u64 0, .int .u64 0, .int .u64 0, .int .u64 0, .int .u64 0, .int .u64 0, .int .u64 0, .int .u64 0, .int .u64 0, .int .u64 0] 73
theorem zS_new {w : World} {B : Nat} (hB : B ≤ w.heap.size) : OwnF (w.alloc ZS) B 73 (some ⟨w.heap.size, 0, none⟩) 16 16 (fun _ => .int .u64 0) := OwnF.lit _ hB _ 16 _ (by decide) rfl
section
variable {w : World} {B g : Nat} {f : Nat → Value}
theorem s_put (h : OwnF w B 73 (some ⟨g, 0, none⟩) 16 16 f) (t : Sp) : OS (setA w g 0 16 (sf t)) B g t := av_all h (sf t)
theorem sput (h : OwnF w B 73 (some ⟨g, 0, none⟩) 16 16 f) (t : Sp) : OwnF (setA w g 0 16 (sf t)) B 73 (some ⟨g, 0, none⟩) 16 16 (sf t) := av_all h (sf t)
theorem s_below (h : OwnF w B 73 (some ⟨g, 0, none⟩) 16 16 f) (t : Sp) : Below B w (setA w g 0 16 (sf t)) := (av_only w g 0 16 (sf t)).below (OwnF.ge h)
theorem s_only (w : World) (g : Nat) (t : Sp) : Only g w (setA w g 0 16 (sf t)) := av_only w g 0 16 (sf t)
variable {ops : Array Oper} {rest : List Oper} {a : Act} {Q : Exit → Act → World → Prop} {dst : Option Nat} {tp : TypeId} {ps : String} {af : Array Edge} {x y : Operand} {t : Sp}
theorem run_sstore {o : Oper} {s1 s2 : Operand} (ho : o.op = .store 73 s1 s2) (h1 : a.eval s1 = .pointer (some ⟨g, 0, none⟩)) (h2 : a.eval s2 = sv t) (h : OwnF w B 73 (some ⟨g, 0, none⟩) 16 16 f) : (execOp a.eval o).run Tryd.prog w = .ok .skip (setA w g 0 16 (sf t)) :=
  av_sets ho h tyS (by decide) (sf t) (fun k _ => sf_one t k) h1 h2
theorem s_store (h0 : OwnF w B 73 (some ⟨g, 0, none⟩) 16 16 f) (t : Sp) (hx : a.eval x = .pointer (some ⟨g, 0, none⟩)) (hy : a.eval y = sv t) (h : wpList Tryd.prog ops Q rest (a.put dst undef) (setA w g 0 16 (sf t))) : wpList Tryd.prog ops Q (⟨dst, .store 73 x y, tp, ps, af, none⟩ :: rest) a w :=
  av_store (off := 0) h0 tyS (by decide) (sf t) (fun k _ => sf_one t k) hx hy h
theorem s_load (o : OS w B g t) (hx : a.eval x = .pointer (some ⟨g, 0, none⟩)) (h : wpList Tryd.prog ops Q rest (a.put dst (sv t)) w) : wpList Tryd.prog ops Q (⟨dst, .load 73 x, tp, ps, af, none⟩ :: rest) a w := av_load o.call tyS hx h
theorem sz_load (o : OS w B g t) (hx : a.eval x = .pointer (some ⟨g, 8, none⟩)) (h : wpList Tryd.prog ops Q rest (a.put dst (nv t.z)) w) : wpList Tryd.prog ops Q (⟨dst, .load 34 x, tp, ps, af, none⟩ :: rest) a w := av_load o.cz tyN hx h
theorem s_res {fn : Func} {p : Tmp} (h : fn.results = #[.cell p 73]) (tmps : Array Value) (o : OS w B g t) (hp : tmps.getD p undef = .pointer (some ⟨g, 0, none⟩)) : (results fn tmps).run Tryd.prog w = .ok (sv t) w := av_res h tmps o.call tyS hp
end
/-! A tally: five spots. -/
structure Ta where
  s : Sp
  n : Sp
  f : Sp
  h : Sp
  b : Sp
def Ta.at_ (t : Ta) (k : Nat) : Sp := if k = 0 then t.s else if k = 1 then t.n else if k = 2 then t.f else if k = 3 then t.h else t.b
def taf (t : Ta) (j : Nat) : Value := sf (t.at_ (j / 16)) (j % 16)
theorem taf_one (t : Ta) (j : Nat) : (taf t j).oneCell' = true := sf_one _ _
theorem taf_at {t : Ta} {i k : Nat} (h : k < 16) : taf t (16 * i + k) = sf (t.at_ i) k := by unfold taf; rw [show (16 * i + k) / 16 = i by omega, show (16 * i + k) % 16 = k by omega]
abbrev tav (t : Ta) : Value := av 80 (taf t)
theorem tyTa : ATy 77 80 := ⟨⟨_, Tryd.underlying77, rfl⟩, by kernel_rfl⟩
theorem built_Ta (s n f h b : Sp) : Tryd.prog.built 77 [(0, sv s), (1, sv n), (2, sv f), (3, sv h), (4, sv b)] = some (rl 80 (taf ⟨s, n, f, h, b⟩)).toArray := by kernel_rfl
theorem run_Tabuild {o : Oper} {a : Act} {w : World} {s0 s1 s2 s3 s4 : Operand} {s n f h b : Sp} (ho : o.op = .build 77 #[(0, s0), (1, s1), (2, s2), (3, s3), (4, s4)]) (h0 : a.eval s0 = sv s) (h1 : a.eval s1 = sv n) (h2 : a.eval s2 = sv f) (h3 : a.eval s3 = sv h) (h4 : a.eval s4 = sv b) : (execOp a.eval o).run Tryd.prog w = .ok (.value (tav ⟨s, n, f, h, b⟩)) w := by
  have h := run_build (P := Tryd.prog) w 77 #[(0, sv s), (1, sv n), (2, sv f), (3, sv h), (4, sv b)] _ (built_Ta s n f h b)
  unfold execOp
  simp only [ho, List.map_toArray, List.map_cons, List.map_nil, h0, h1, h2, h3, h4, Sem.run_bind, h, Result.andThen_ok, Sem.run_pure]
def OTa (w : World) (B g : Nat) (t : Ta) : Prop := OwnF w B 77 (some ⟨g, 0, none⟩) 80 80 (taf t)
abbrev ZTa : Obj := .cells #[.int .u64 0, .int .u64 0, .int .u64 0, .int .u64 0, .int .u64 0, .int .u64 0, .int .u64 0, .int .u64 0, .int .u64 0, .int .u64 0, .int .u64 0, .int .u64 0, .int .u64 0, .int .u64 0, .int .u64 0, .int .u64 0,
  .int .u64 0, .int .u64 0, .int .u64 0, .int .u64 0, .int .u64 0, .int .u64 0, .int .u64 0, .int .u64 0, .int .u64 0, .int .u64 0, .int .u64 0, .int .u64 0, .int .u64 0, .int .u64 0, .int .u64 0, .int .u64 0,
  .int .u64 0, .int .u64 0, .int .u64 0, .int .u64 0, .int .u64 0, .int .u64 0, .int .u64 0, .int .u64 0, .int .u64 0, .int .u64 0, .int .u64 0, .int .u64 0, .int .u64 0, .int .u64 0, .int .u64 0, .int .u64 0,
  .int .u64 0, .int .u64 0, .int .u64 0, .int .u64 0, .int .u64 0, .int .u64 0, .int .u64 0, .int .u64 0, .int .u64 0, .int .u64 0, .int .u64 0, .int .u64 0, .int .u64 0, .int .u64 0, .int .u64 0, .int .u64 0,
  .int .u64 0, .int .u64 0, .int .u64 0, .int .u64 0, .int .u64 0, .int .u64 0, .int .u64 0, .int .u64 0, .int .u64 0, .int .u64 0, .int .u64 0, .int .u64 0, .int .u64 0, .int .u64 0, .int .u64 0, .int .u64 0] 77
section
variable {w w' : World} {B B' g : Nat} {t : Ta} {f : Nat → Value}
theorem OTa.keep (h : OTa w B g t) (hb : Below w.heap.size w w') : OTa w' B g t := OwnF.keep h hb
theorem OTa.mono (h : OTa w B g t) (hb : B' ≤ B) : OTa w B' g t := OwnF.mono h hb
theorem OTa.drew (h : OTa w B g t) : OTa w.drew B g t := OwnF.drew h
theorem OTa.lt (h : OTa w B g t) : g < w.heap.size := OwnF.lt h
theorem OTa.ge (h : OTa w B g t) : B ≤ g := OwnF.ge h
theorem OTa.cl (h : OTa w B g t) (i : Nat) (hi : i < 5) : Cl w g (16 * i) 16 (sf (t.at_ i)) := OwnF.cl h (by omega) fun _ hk => taf_at hk
theorem OTa.put0 (h : OTa w B g t) (s : Sp) : OTa (setA w g 0 16 (sf s)) B g ⟨s, t.n, t.f, t.h, t.b⟩ := (av_put h 0 16 (sf s)).congr fun j hj => by
  unfold fput
  by_cases h1 : j < 16
  · rw [if_pos (by omega), Nat.sub_zero]
    unfold taf
    rw [show j / 16 = 0 by omega, show j % 16 = j by omega]
    rfl
  · rw [if_neg (by omega)]
    unfold taf
    rcases (show j / 16 = 1 ∨ j / 16 = 2 ∨ j / 16 = 3 ∨ j / 16 = 4 by omega) with e | e | e | e <;> (rw [e]; rfl)
variable {ops : Array Oper} {rest : List Oper} {a : Act} {Q : Exit → Act → World → Prop} {dst : Option Nat} {tp : TypeId} {ps : String} {af : Array Edge} {x y : Operand} {o : Oper} {s : Operand}
theorem run_Ta (i : Nat) (hi : i < 5) (ho : o.op = .load 73 s) (h1 : a.eval s = .pointer (some ⟨g, 16 * i, none⟩)) (h : OTa w B g t) : (execOp a.eval o).run Tryd.prog w = .ok (.value (sv (t.at_ i))) w := av_run ho h1 (h.cl i hi) tyS
theorem run_Tafield (k : Nat) (hk : k < 5) (ho : o.op = .fieldAddr 77 s k) (h1 : a.eval s = .pointer (some ⟨g, 0, none⟩)) : (execOp a.eval o).run Tryd.prog w = .ok (.value (.pointer (some ⟨g, 16 * k, none⟩))) w := by
  rcases (show k = 0 ∨ k = 1 ∨ k = 2 ∨ k = 3 ∨ k = 4 by omega) with rfl | rfl | rfl | rfl | rfl <;>
    (unfold execOp
     simp only [ho, h1]
     go_simp)
theorem ta_store0 (h0 : OTa w B g t) (s : Sp) (hx : a.eval x = .pointer (some ⟨g, 0, none⟩)) (hy : a.eval y = sv s) (h : wpList Tryd.prog ops Q rest (a.put dst undef) (setA w g 0 16 (sf s))) : wpList Tryd.prog ops Q (⟨dst, .store 73 x y, tp, ps, af, none⟩ :: rest) a w :=
  av_store (off := 0) h0 tyS (by decide) (sf s) (fun k _ => sf_one s k) hx hy h
theorem ta_load0 (h : OTa w B g t) (hx : a.eval x = .pointer (some ⟨g, 0, none⟩)) (hh : wpList Tryd.prog ops Q rest (a.put dst (sv t.s)) w) : wpList Tryd.prog ops Q (⟨dst, .load 73 x, tp, ps, af, none⟩ :: rest) a w := av_load (h.cl 0 (by decide)) tyS hx hh
end
theorem taput {w : World} {B g : Nat} {f : Nat → Value} (h : OwnF w B 77 (some ⟨g, 0, none⟩) 80 80 f) (t : Ta) : OwnF (setA w g 0 80 (taf t)) B 77 (some ⟨g, 0, none⟩) 80 80 (taf t) := av_all h (taf t)
theorem ta_only (w : World) (g : Nat) (t : Ta) : Only g w (setA w g 0 80 (taf t)) := av_only w g 0 80 (taf t)
theorem run_tastore {a : Act} {w : World} {B g : Nat} {f : Nat → Value} {t : Ta} {o : Oper} {s1 s2 : Operand} (ho : o.op = .store 77 s1 s2) (h1 : a.eval s1 = .pointer (some ⟨g, 0, none⟩)) (h2 : a.eval s2 = tav t) (h : OwnF w B 77 (some ⟨g, 0, none⟩) 80 80 f) : (execOp a.eval o).run Tryd.prog w = .ok .skip (setA w g 0 80 (taf t)) :=
  av_sets ho h tyTa (by decide) (taf t) (fun k _ => taf_one t k) h1 h2
/-! What the package keeps: nought, and twice the curve's number. -/
def ed2 : Nat := 16295367250680780974490674513165176452449235426866156013048779062215315747161
def G8 (w : World) : Prop := (w.cell? ⟨2, 0, none⟩ = some (.int .u64 (wd ed2 0 : Int)) ∧ w.cell? ⟨2, 1, none⟩ = some (.int .u64 (wd ed2 1 : Int)) ∧ w.cell? ⟨2, 2, none⟩ = some (.int .u64 (wd ed2 2 : Int)) ∧ w.cell? ⟨2, 3, none⟩ = some (.int .u64 (wd ed2 3 : Int))) ∧ C8p w 0 0 1
theorem G8.next {w w' : World} (h : G8 w) (hb : Below w.heap.size w w') : G8 w' := by
  obtain ⟨⟨h0, h1, h2, h3⟩, c0, c1, c2, c3, c4, c5, c6, c7⟩ := h
  have p0 : ∀ k v, w.cell? ⟨2, k, none⟩ = some v → w'.cell? ⟨2, k, none⟩ = some v := fun k v e => (hb.cell (p := ⟨2, k, none⟩) (World.block_lt_of_cell? w ⟨2, k, none⟩ e)).trans e
  have p1 : ∀ k v, w.cell? ⟨0, k, none⟩ = some v → w'.cell? ⟨0, k, none⟩ = some v := fun k v e => (hb.cell (p := ⟨0, k, none⟩) (World.block_lt_of_cell? w ⟨0, k, none⟩ e)).trans e
  exact ⟨⟨p0 _ _ h0, p0 _ _ h1, p0 _ _ h2, p0 _ _ h3⟩, p1 _ _ c0, p1 _ _ c1, p1 _ _ c2, p1 _ _ c3, p1 _ _ c4, p1 _ _ c5, p1 _ _ c6, p1 _ _ c7⟩
section
attribute [local irreducible] wd
variable {o : Oper} {a : Act} {w : World} {s : Operand}
theorem run_gD (ho : o.op = .load 34 s) (h1 : a.eval s = .pointer (some ⟨2, 0, none⟩)) (h : G8 w) : (execOp a.eval o).run Tryd.prog w = .ok (.value (nv ed2)) w := by
  obtain ⟨⟨c0, c1, c2, c3⟩, _⟩ := h
  unfold execOp
  simp only [ho, h1]
  go_simp
theorem run_gN (ho : o.op = .load 50 s) (h1 : a.eval s = .pointer (some ⟨0, 0, none⟩)) (h : G8 w) : (execOp a.eval o).run Tryd.prog w = .ok (.value (prv 0 1)) w := by
  obtain ⟨_, c0, c1, c2, c3, c4, c5, c6, c7⟩ := h
  unfold execOp
  simp only [ho, h1]
  go_simp
end
end Go.Proofs.YtgaofocjnifjdaaDoor
