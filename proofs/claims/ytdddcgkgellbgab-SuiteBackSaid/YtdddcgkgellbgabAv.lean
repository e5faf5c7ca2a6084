/-
  Arrays and structs of many cells, as values and in memory. By an AI agent.
-/
import Derived.Test.YtdddcgkgellbgabBox
import Derived.Deep.MidRow
namespace Go.Proofs.Ytdddcgkgellbgab
open Go Go.RowKit
set_option maxRecDepth 20000
section
variable {w w' : World} {B g : Nat}
theorem OwnF.setsA {e : TypeId} {c n : Nat} : ∀ (vs : List Value) (o : Nat) (w : World) (f : Nat → Value), OwnF w B e (some ⟨g, 0, none⟩) c n f → OwnF (w.setCells g o vs) B e (some ⟨g, 0, none⟩) c n (fun j => if o ≤ j then (vs[j - o]?).getD (f j) else f j)
  | [], o, w, f, h => h.congr fun j _ => by simp
  | v :: r, o, w, f, h => by
    have h1 := OwnF.setsA r (o + 1) _ _ (OwnF.set_ h o v)
    refine OwnF.congr h1 fun j _ => ?_
    by_cases h2 : o + 1 ≤ j
    · have h3 : j ≠ o := by omega
      have h4 : o ≤ j := by omega
      have h5 : j - o = j - (o + 1) + 1 := by omega
      simp only [h2, h3, h4, h5, if_true, if_false, List.getElem?_cons_succ]
    · rw [if_neg h2]
      by_cases h3 : j = o
      · subst h3; simp
      · rw [if_neg h3, if_neg (by omega)]
end
/-- So many cells as a list. -/
def rl (n : Nat) (f : Nat → Value) : List Value := (List.range n).map f
theorem rl_len (n : Nat) (f : Nat → Value) : (rl n f).length = n := by simp [rl]
theorem rl_get {n k : Nat} {f : Nat → Value} (h : k < n) : (rl n f)[k]? = some (f k) := by simp [rl, h]
theorem rl_congr {n : Nat} {f f' : Nat → Value} (h : ∀ k, k < n → f k = f' k) : rl n f = rl n f' := List.map_congr_left fun k hk => h k (List.mem_range.1 hk)
/-- .. as one value. -/
abbrev av (n : Nat) (f : Nat → Value) : Value := .agg (rl n f).toArray
/-- A row's type. -/
structure ATy (ty : TypeId) (n : Nat) : Prop where
  desc : ∃ d, Try.prog.underlying ty = some d ∧ d.isRow = true
  info : (Try.prog.info? ty).map (·.size) = some n
def Cl (w : World) (g off n : Nat) (f : Nat → Value) : Prop := ∀ k, k < n → w.cell? ⟨g, off + k, none⟩ = some (f k)
theorem Cl.range {w : World} {g off n : Nat} {f : Nat → Value} (h : Cl w g off n f) : w.rangeAt g off (rl n f) := by
  intro j v hv
  have hj : j < n := by have := (List.getElem?_eq_some_iff.1 hv).1; rwa [rl_len] at this
  rw [rl_get hj, Option.some.injEq] at hv
  subst hv
  exact h j hj
theorem OwnF.cl {w : World} {B g C N : Nat} {e : TypeId} {f f' : Nat → Value} (o : OwnF w B e (some ⟨g, 0, none⟩) C N f) {off n : Nat} (ho : off + n ≤ N) (hf : ∀ k, k < n → f (off + k) = f' k) : Cl w g off n f' := fun k hk => by
  rw [OwnF.cell o (k := off + k) (by omega), hf k hk]
def setA (w : World) (g off n : Nat) (f : Nat → Value) : World := w.setCells g off (rl n f)
theorem setA_only (g : Nat) : ∀ (vs : List Value) (o : Nat) (w : World), Only g w (w.setCells g o vs)
  | [], _, w => Only.refl g w
  | v :: r, o, w => (Only.setCell w ⟨g, o, none⟩ v).trans (setA_only g r (o + 1) _)
theorem av_only (w : World) (g off n : Nat) (f : Nat → Value) : Only g w (setA w g off n f) := setA_only g _ off w
def fput (f : Nat → Value) (off n : Nat) (f' : Nat → Value) (j : Nat) : Value := if off ≤ j ∧ j < off + n then f' (j - off) else f j
theorem av_put {w : World} {B g C N : Nat} {e : TypeId} {f : Nat → Value} (o : OwnF w B e (some ⟨g, 0, none⟩) C N f) (off n : Nat) (f' : Nat → Value) : OwnF (setA w g off n f') B e (some ⟨g, 0, none⟩) C N (fput f off n f') :=
  OwnF.congr (OwnF.setsA (rl n f') off w f o) fun j _ => by
    unfold fput
    by_cases h : off ≤ j
    · rw [if_pos h]
      by_cases h2 : j < off + n
      · rw [if_pos ⟨h, h2⟩, rl_get (by omega)]; rfl
      · rw [if_neg (by omega), List.getElem?_eq_none (by rw [rl_len]; omega)]; rfl
    · rw [if_neg h, if_neg (by omega)]
theorem av_all {w : World} {B g C N : Nat} {e : TypeId} {f : Nat → Value} (o : OwnF w B e (some ⟨g, 0, none⟩) C N f) (f' : Nat → Value) : OwnF (setA w g 0 N f') B e (some ⟨g, 0, none⟩) C N f' :=
  OwnF.congr (av_put o 0 N f') fun j hj => by unfold fput; rw [if_pos (by omega), Nat.sub_zero]
theorem rl_one {n : Nat} {f : Nat → Value} (h1 : ∀ k, k < n → (f k).oneCell' = true) : (rl n f).toArray.all (·.oneCell') = true := all_oneCell_toArray fun v hv => by
  obtain ⟨k, hk, rfl⟩ := List.mem_map.1 hv
  exact h1 k (List.mem_range.1 hk)
section
variable {ops : Array Oper} {rest : List Oper} {a : Act} {w : World} {Q : Exit → Act → World → Prop} {B g C N n off : Nat} {e ty : TypeId} {f f' : Nat → Value} {dst : Option Nat} {tp : TypeId} {ps : String} {af : Array Edge} {x y : Operand} {o : Oper}
theorem av_load (h0 : Cl w g off n f') (T : ATy ty n) (hx : a.eval x = .pointer (some ⟨g, off, none⟩)) (h : wpList Try.prog ops Q rest (a.put dst (av n f')) w) : wpList Try.prog ops Q (⟨dst, .load ty x, tp, ps, af, none⟩ :: rest) a w := by
  obtain ⟨⟨d, hd, hr⟩, hi⟩ := T
  exact wpList_load_mid rfl _ x rfl g off hx (rl n f') d h0.range hd hr (by rw [rl_len]; exact hi) h
theorem av_run (ho : o.op = .load ty x) (h1 : a.eval x = .pointer (some ⟨g, off, none⟩)) (h0 : Cl w g off n f') (T : ATy ty n) : (execOp a.eval o).run Try.prog w = .ok (.value (av n f')) w := by
  obtain ⟨⟨d, hd, hr⟩, hi⟩ := T
  have h2 := run_loadAt_mid (P := Try.prog) w g off ty (rl n f') d h0.range hd hr (by rw [rl_len]; exact hi)
  unfold execOp
  simp only [ho, h1, Sem.run_bind, h2, Result.andThen_ok, Sem.run_pure]
theorem av_store (h0 : OwnF w B e (some ⟨g, 0, none⟩) C N f) (T : ATy ty n) (ho : off + n ≤ N) (f' : Nat → Value) (h1 : ∀ k, k < n → (f' k).oneCell' = true) (hx : a.eval x = .pointer (some ⟨g, off, none⟩)) (hy : a.eval y = av n f') (h : wpList Try.prog ops Q rest (a.put dst undef) (setA w g off n f')) : wpList Try.prog ops Q (⟨dst, .store ty x y, tp, ps, af, none⟩ :: rest) a w :=
  wpList_store_mid rfl _ x y rfl g off (rl n f').toArray hx hy (by rw [List.size_toArray, rl_len]; intro j hj; rw [OwnF.cell h0 (k := off + j) (by omega)]; exact ⟨rfl, OwnF.free h0 _⟩) (by rw [List.size_toArray, rl_len]; exact T.info) (rl_one h1) h
theorem av_res {fn : Func} {p : Tmp} (h : fn.results = #[.cell p ty]) (tmps : Array Value) (h0 : Cl w g off n f') (T : ATy ty n) (hp : tmps.getD p undef = .pointer (some ⟨g, off, none⟩)) : (results fn tmps).run Try.prog w = .ok (av n f') w := by
  have hp' : tmps[p]?.getD undef = .pointer (some ⟨g, off, none⟩) := by simpa using hp
  obtain ⟨⟨d, hd, hr⟩, hi⟩ := T
  have h2 := run_loadVar_mid (P := Try.prog) w g off ty (rl n f') d h0.range hd hr (by rw [rl_len]; exact hi)
  simp [results, h, hp', asAddr, h2]
end
section
variable {a : Act} {w : World} {B g C N n off : Nat} {e ty : TypeId} {f f' : Nat → Value} {x y : Operand} {o : Oper}
theorem av_sets (ho : o.op = .store ty x y) (h0 : OwnF w B e (some ⟨g, 0, none⟩) C N f) (T : ATy ty n) (hn : off + n ≤ N) (f' : Nat → Value) (h1 : ∀ k, k < n → (f' k).oneCell' = true) (hx : a.eval x = .pointer (some ⟨g, off, none⟩)) (hy : a.eval y = av n f') :
    (execOp a.eval o).run Try.prog w = .ok .skip (setA w g off n f') := by
  have h2 := run_storeAt_mid (P := Try.prog) w g off ty (rl n f').toArray (by rw [List.size_toArray, rl_len]; intro j hj; rw [OwnF.cell h0 (k := off + j) (by omega)]; exact ⟨rfl, OwnF.free h0 _⟩) (by rw [List.size_toArray, rl_len]; exact T.info) (rl_one h1)
  unfold execOp
  simp only [ho, hx, hy, Sem.run_bind, h2, Result.andThen_ok, Sem.run_pure]
  rfl
theorem av_res2 {fn : Func} {p q : Tmp} (h : fn.results = #[.cell p ty, .tmp q]) (tmps : Array Value) (h0 : Cl w g off n f') (T : ATy ty n) (hp : tmps.getD p undef = .pointer (some ⟨g, off, none⟩)) {v : Value} (hv : tmps.getD q undef = v) : (results fn tmps).run Try.prog w = .ok (.tuple #[av n f', v]) w := by
  have hp' : tmps[p]?.getD undef = .pointer (some ⟨g, off, none⟩) := by simpa using hp
  have hv' : tmps[q]?.getD undef = v := by simpa using hv
  obtain ⟨⟨d, hd, hr⟩, hi⟩ := T
  have h2 := run_loadVar_mid (P := Try.prog) w g off ty (rl n f') d h0.range hd hr (by rw [rl_len]; exact hi)
  simp [results, h, hp', hv', asAddr, h2]
end
end Go.Proofs.Ytdddcgkgellbgab
