/-
  Arrays and structs of many cells, as values and in memory. By an AI agent. The curve in numbers below 2^255 - 19: what is on it, the document's number, base point, and the way from y to a point. Of no program. By an AI agent. Three elements as one value and in memory (layer 8's document). By an AI agent.
-/
import Derived.Test.YtgaofocjnifjdaaDoorJ03
import Derived.Deep.MidRow
import Derived.Test.YtgaofocjnifjdaaDoorJ09
import Derived.Test.YtgaofocjnifjdaaDoorJ11
import Derived.Test.YtgaofocjnifjdaaDoorJ12
import Derived.Laws.Tables
namespace Go.Proofs.YtgaofocjnifjdaaDoor
open Go Go.RowKit
set_option maxRecDepth 20000
section
variable {w w' : World} {B g : Nat}
theorem OwnF.setsA {e : TypeId} {c n : Nat} : ∀ (vs : List Value) (o : Nat) (w : World) (f : Nat → Value), OwnF w B e (some ⟨g, 0, none⟩) c n f → OwnF (w.setCells g o vs) B e (some ⟨g, 0, none⟩) c n (fun j => if o ≤ j then (vs[j - o]?).getD (f j) else f j)
  | [], o, w, f, h => h.congr fun j _ => by simp
  | v :: r, o, w, f, h => by
    have h1 := OwnF.setsA r (o + 1) _ _ (OwnF.set_ h o v)
    refine OwnF.congr h1 fun j _ => ?_
    by_cases h2 : o + 1 ≤ j
    · have h3 : j ≠ o := by omega
      have h4 : o ≤ j := by omega
      have h5 : j - o = j - (o + 1) + 1 := by omega
      simp only [h2, h3, h4, h5, if_true, if_false, List.getElem?_cons_succ]
    · rw [if_neg h2]
      by_cases h3 : j = o
      · subst h3; simp
      · rw [if_neg h3, if_neg (by omega)]
end
/-- So many cells as a list. -/
def rl (n : Nat) (f : Nat → Value) : List Value := (List.range n).map f
theorem rl_len (n : Nat) (f : Nat → Value) : (rl n f).length = n := by simp [rl]
theorem rl_get {n k : Nat} {f : Nat → Value} (h : k < n) : (rl n f)[k]? = some (f k) := by simp [rl, h]
/-- .. as one value. -/
abbrev av (n : Nat) (f : Nat → Value) : Value := .agg (rl n f).toArray
/-- A row's type. -/
structure ATy (ty : TypeId) (n : Nat) : Prop where
  desc : ∃ d, Tryd.prog.underlying ty = some d ∧ d.isRow = true
  info : (Tryd.prog.info? ty).map (·.size) = some n
def Cl (w : World) (g off n : Nat) (f : Nat → Value) : Prop := ∀ k, k < n → w.cell? ⟨g, off + k, none⟩ = some (f k)
theorem Cl.range {w : World} {g off n : Nat} {f : Nat → Value} (h : Cl w g off n f) : w.rangeAt g off (rl n f) := by
  intro j v hv
  have hj : j < n := by have := (List.getElem?_eq_some_iff.1 hv).1; rwa [rl_len] at this
  rw [rl_get hj, Option.some.injEq] at hv
  subst hv
  exact h j hj
theorem OwnF.cl {w : World} {B g C N : Nat} {e : TypeId} {f f' : Nat → Value} (o : OwnF w B e (some ⟨g, 0, none⟩) C N f) {off n : Nat} (ho : off + n ≤ N) (hf : ∀ k, k < n → f (off + k) = f' k) : Cl w g off n f' := fun k hk => by
  rw [OwnF.cell o (k := off + k) (by omega), hf k hk]
def setA (w : World) (g off n : Nat) (f : Nat → Value) : World := w.setCells g off (rl n f)
theorem setA_only (g : Nat) : ∀ (vs : List Value) (o : Nat) (w : World), Only g w (w.setCells g o vs)
  | [], _, w => Only.refl g w
  | v :: r, o, w => (Only.setCell w ⟨g, o, none⟩ v).trans (setA_only g r (o + 1) _)
theorem av_only (w : World) (g off n : Nat) (f : Nat → Value) : Only g w (setA w g off n f) := setA_only g _ off w
def fput (f : Nat → Value) (off n : Nat) (f' : Nat → Value) (j : Nat) : Value := if off ≤ j ∧ j < off + n then f' (j - off) else f j
theorem av_put {w : World} {B g C N : Nat} {e : TypeId} {f : Nat → Value} (o : OwnF w B e (some ⟨g, 0, none⟩) C N f) (off n : Nat) (f' : Nat → Value) : OwnF (setA w g off n f') B e (some ⟨g, 0, none⟩) C N (fput f off n f') :=
  OwnF.congr (OwnF.setsA (rl n f') off w f o) fun j _ => by
    unfold fput
    by_cases h : off ≤ j
    · rw [if_pos h]
      by_cases h2 : j < off + n
      · rw [if_pos ⟨h, h2⟩, rl_get (by omega)]; rfl
      · rw [if_neg (by omega), List.getElem?_eq_none (by rw [rl_len]; omega)]; rfl
    · rw [if_neg h, if_neg (by omega)]
theorem av_all {w : World} {B g C N : Nat} {e : TypeId} {f : Nat → Value} (o : OwnF w B e (some ⟨g, 0, none⟩) C N f) (f' : Nat → Value) : OwnF (setA w g 0 N f') B e (some ⟨g, 0, none⟩) C N f' :=
  OwnF.congr (av_put o 0 N f') fun j hj => by unfold fput; rw [if_pos (by omega), Nat.sub_zero]
theorem rl_one {n : Nat} {f : Nat → Value} (h1 : ∀ k, k < n → (f k).oneCell' = true) : (rl n f).toArray.all (·.oneCell') = true := all_oneCell_toArray fun v hv => by
  obtain ⟨k, hk, rfl⟩ := List.mem_map.1 hv
  exact h1 k (List.mem_range.1 hk)
section
variable {ops : Array Oper} {rest : List Oper} {a : Act} {w : World} {Q : Exit → Act → World → Prop} {B g C N n off : Nat} {e ty : TypeId} {f f' : Nat → Value} {dst : Option Nat} {tp : TypeId} {ps : String} {af : Array Edge} {x y : Operand} {o : Oper}
theorem av_load (h0 : Cl w g off n f') (T : ATy ty n) (hx : a.eval x = .pointer (some ⟨g, off, none⟩)) (h : wpList Tryd.prog ops Q rest (a.put dst (av n f')) w) : wpList Tryd.prog ops Q (⟨dst, .load ty x, tp, ps, af, none⟩ :: rest) a w := by
  obtain ⟨⟨d, hd, hr⟩, hi⟩ := T
  exact wpList_load_mid rfl _ x rfl g off hx (rl n f') d h0.range hd hr (by rw [rl_len]; exact hi) h
theorem av_run (ho : o.op = .load ty x) (h1 : a.eval x = .pointer (some ⟨g, off, none⟩)) (h0 : Cl w g off n f') (T : ATy ty n) : (execOp a.eval o).run Tryd.prog w = .ok (.value (av n f')) w := by
  obtain ⟨⟨d, hd, hr⟩, hi⟩ := T
  have h2 := run_loadAt_mid (P := Tryd.prog) w g off ty (rl n f') d h0.range hd hr (by rw [rl_len]; exact hi)
  unfold execOp
  simp only [ho, h1, Sem.run_bind, h2, Result.andThen_ok, Sem.run_pure]
theorem av_store (h0 : OwnF w B e (some ⟨g, 0, none⟩) C N f) (T : ATy ty n) (ho : off + n ≤ N) (f' : Nat → Value) (h1 : ∀ k, k < n → (f' k).oneCell' = true) (hx : a.eval x = .pointer (some ⟨g, off, none⟩)) (hy : a.eval y = av n f') (h : wpList Tryd.prog ops Q rest (a.put dst undef) (setA w g off n f')) : wpList Tryd.prog ops Q (⟨dst, .store ty x y, tp, ps, af, none⟩ :: rest) a w :=
  wpList_store_mid rfl _ x y rfl g off (rl n f').toArray hx hy (by rw [List.size_toArray, rl_len]; intro j hj; rw [OwnF.cell h0 (k := off + j) (by omega)]; exact ⟨rfl, OwnF.free h0 _⟩) (by rw [List.size_toArray, rl_len]; exact T.info) (rl_one h1) h
theorem av_res {fn : Func} {p : Tmp} (h : fn.results = #[.cell p ty]) (tmps : Array Value) (h0 : Cl w g off n f') (T : ATy ty n) (hp : tmps.getD p undef = .pointer (some ⟨g, off, none⟩)) : (results fn tmps).run Tryd.prog w = .ok (av n f') w := by
  have hp' : tmps[p]?.getD undef = .pointer (some ⟨g, off, none⟩) := by simpa using hp
  obtain ⟨⟨d, hd, hr⟩, hi⟩ := T
  have h2 := run_loadVar_mid (P := Tryd.prog) w g off ty (rl n f') d h0.range hd hr (by rw [rl_len]; exact hi)
  simp [results, h, hp', asAddr, h2]
end
section
variable {a : Act} {w : World} {B g C N n off : Nat} {e ty : TypeId} {f f' : Nat → Value} {x y : Operand} {o : Oper}
theorem av_sets (ho : o.op = .store ty x y) (h0 : OwnF w B e (some ⟨g, 0, none⟩) C N f) (T : ATy ty n) (hn : off + n ≤ N) (f' : Nat → Value) (h1 : ∀ k, k < n → (f' k).oneCell' = true) (hx : a.eval x = .pointer (some ⟨g, off, none⟩)) (hy : a.eval y = av n f') :
    (execOp a.eval o).run Tryd.prog w = .ok .skip (setA w g off n f') := by
  have h2 := run_storeAt_mid (P := Tryd.prog) w g off ty (rl n f').toArray (by rw [List.size_toArray, rl_len]; intro j hj; rw [OwnF.cell h0 (k := off + j) (by omega)]; exact ⟨rfl, OwnF.free h0 _⟩) (by rw [List.size_toArray, rl_len]; exact T.info) (rl_one h1)
  unfold execOp
  simp only [ho, hx, hy, Sem.run_bind, h2, Result.andThen_ok, Sem.run_pure]
  rfl
theorem av_res2 {fn : Func} {p q : Tmp} (h : fn.results = #[.cell p ty, .tmp q]) (tmps : Array Value) (h0 : Cl w g off n f') (T : ATy ty n) (hp : tmps.getD p undef = .pointer (some ⟨g, off, none⟩)) {v : Value} (hv : tmps.getD q undef = v) : (results fn tmps).run Tryd.prog w = .ok (.tuple #[av n f', v]) w := by
  have hp' : tmps[p]?.getD undef = .pointer (some ⟨g, off, none⟩) := by simpa using hp
  have hv' : tmps[q]?.getD undef = v := by simpa using hv
  obtain ⟨⟨d, hd, hr⟩, hi⟩ := T
  have h2 := run_loadVar_mid (P := Tryd.prog) w g off ty (rl n f') d h0.range hd hr (by rw [rl_len]; exact hi)
  simp [results, h, hp', hv', asAddr, h2]
end
end Go.Proofs.YtgaofocjnifjdaaDoor
namespace Go.Proofs.YtgaofocjnifjdaaDoor
theorem P25_one : 1 < P25 := by decide +kernel
theorem toF_inj {m n : Nat} (hm : m < P25) (hn : n < P25) (h : toF m = toF n) : m = n := by
  have := toF_eq.1 h
  rwa [Nat.mod_eq_of_lt hm, Nat.mod_eq_of_lt hn] at this
/-- What makes 1 of a number (0 of 0). -/
def ivN (x : Nat) : Nat := x ^ (P25 - 2) % P25
theorem ivN_lt (x : Nat) : ivN x < P25 := Nat.mod_lt _ P25_pos
theorem toF_ivN {x : Nat} (h : x < P25) : toF (ivN x) = inv (toF x) := inv_to h
theorem ivN_pm (x : Nat) : ivN x = pm P25 256 x (P25 - 2) := (pm_eq P25 256 x (P25 - 2) (by decide +kernel)).symm
/-- On the curve, in numbers. -/
def onN (x y : Nat) : Bool := decide (sbN (mlN y y) (mlN x x) = adN 1 (mlN ed (mlN (mlN x x) (mlN y y))))
theorem onN_iff {x y : Nat} : onN x y = true ↔ On E25.d (toF x) (toF y) := by
  unfold onN On
  rw [decide_eq_true_iff]
  have e1 : toF (sbN (mlN y y) (mlN x x)) = toF y * toF y - toF x * toF x := by rw [toF_sbN _ _ (mlN_lt _ _), toF_mlN, toF_mlN]
  have e2 : toF (adN 1 (mlN ed (mlN (mlN x x) (mlN y y)))) = 1 + E25.d * (toF x * toF x) * (toF y * toF y) := by
    rw [toF_adN, toF_mlN, toF_mlN, toF_mlN, toF_mlN]
    show toF 1 + toF ed * _ = 1 + toF ed * _ * _
    rw [toF_one]
    grind
  rw [← e1, ← e2]
  exact ⟨fun h => by rw [h], fun h => toF_inj (sbN_lt _ _) (adN_lt _ _) h⟩
/-- What x times x must be, of a y. -/
def uN (y : Nat) : Nat := mlN (sbN (mlN y y) 1) (ivN (adN 1 (mlN ed (mlN y y))))
theorem uN_lt (y : Nat) : uN y < P25 := mlN_lt _ _
theorem den_ne (y : Fp) : 1 + E25.d * (y * y) ≠ 0 := fun h => by
  have hi := E25.sq
  by_cases h0 : y = 0
  · rw [h0] at h
    have h1 : toF 1 + toF ed * (toF 0 * toF 0) = toF 0 := h
    rw [← toF_mul, ← toF_mul, ← toF_add, toF_eq] at h1
    revert h1
    decide +kernel
  · have h1 := einv_mul h0
    refine E25.no (E25.i * inv y) ?_
    grind
theorem u_iff {x y : Nat} (_hx : x < P25) (_hy : y < P25) : mlN x x = uN y ↔ onN x y = true := by
  rw [onN_iff]
  have hd := den_ne (toF y)
  have h1 := einv_mul hd
  have e1 : toF (uN y) = (toF y * toF y - 1) * inv (1 + E25.d * (toF y * toF y)) := by
    unfold uN
    have e2 : toF (adN 1 (mlN ed (mlN y y))) = 1 + E25.d * (toF y * toF y) := by rw [toF_adN, toF_mlN, toF_mlN, toF_one]; rfl
    rw [toF_mlN, toF_sbN _ _ P25_one, toF_mlN, toF_ivN (adN_lt _ _), e2, toF_one]
  have e3 : mlN x x = uN y ↔ toF x * toF x = toF (uN y) := by
    rw [← toF_mlN]
    exact ⟨fun h => by rw [h], fun h => toF_inj (mlN_lt _ _) (uN_lt _) h⟩
  rw [e3, e1]
  unfold On
  generalize inv (1 + E25.d * (toF y * toF y)) = v at *
  generalize toF x = X at *
  generalize toF y = Y at *
  generalize E25.d = D at *
  constructor
  · intro h
    have : X * X * (1 + D * (Y * Y)) = Y * Y - 1 := by rw [h]; grind
    grind
  · intro h
    have h2 : (1 + D * (Y * Y)) * (X * X) = (1 + D * (Y * Y)) * ((Y * Y - 1) * v) := by grind
    exact cancel hd h2
/-- The point of that y, and an x of that lowest bit: its x; is there one? -/
def wxN (y bit : Nat) : Nat := if bit = 1 then (P25 - rtr (uN y)) % P25 else rtr (uN y)
def wokN (y bit : Nat) : Bool := decide (rtq (uN y) = 1) && !(decide (rtr (uN y) = 0) && decide (bit = 1))
theorem wx_lt (y bit : Nat) (h : rtq (uN y) = 1) : wxN y bit < P25 := by
  have h1 := (rtq_iff _).1 h
  unfold wxN
  rw [rtr_sq h1]
  split
  · exact Nat.mod_lt _ P25_pos
  · exact rt2_lt _
theorem wok_on {y bit : Nat} (hy : y < P25) (hb : bit < 2) (h : wokN y bit = true) : onN (wxN y bit) y = true ∧ wxN y bit % 2 = bit ∧ wxN y bit < P25 := by
  unfold wokN at h
  simp only [Bool.and_eq_true, decide_eq_true_eq, Bool.not_eq_true', Bool.and_eq_false_iff, decide_eq_false_iff_not] at h
  obtain ⟨hq, hz⟩ := h
  have hr := (rtq_iff _).1 hq
  have hl := wx_lt y bit hq
  have e1 := rtr_sq hr
  have hs := rt2_sq hr
  have he := rt2_even (uN y)
  have hlt := rt2_lt (uN y)
  have ho := P_odd
  rw [e1] at hz
  refine ⟨(u_iff hl hy).1 ?_, ?_, hl⟩
  · unfold wxN mlN
    rw [e1]
    by_cases hb1 : bit = 1
    · rw [if_pos hb1]
      have h0 : rt2 (uN y) ≠ 0 := fun h0 => by rcases hz with h | h <;> contradiction
      have := fneg_sq hlt
      rw [fneg_lt hlt, if_neg h0] at this
      rw [Nat.mod_eq_of_lt (show P25 - rt2 (uN y) < P25 by omega), this, hs]
    · rw [if_neg hb1, hs]
  · unfold wxN
    rw [e1]
    by_cases hb1 : bit = 1
    · rw [if_pos hb1]
      have h0 : rt2 (uN y) ≠ 0 := fun h0 => by rcases hz with h | h <;> contradiction
      rw [Nat.mod_eq_of_lt (show P25 - rt2 (uN y) < P25 by omega)]
      omega
    · rw [if_neg hb1]
      omega
theorem on_wok {x y : Nat} (hx : x < P25) (hy : y < P25) (h : onN x y = true) : wokN y (x % 2) = true ∧ wxN y (x % 2) = x := by
  have hs := (u_iff hx hy).2 h
  have hr : HasRoot (uN y) := ⟨x, hs⟩
  have e1 := rtr_sq hr
  have he := rt2_even (uN y)
  have hlt := rt2_lt (uN y)
  have ho := P_odd
  have h2 := two_roots hlt hx ((rt2_sq hr).trans hs.symm)
  have hq := (rtq_iff _).2 hr
  unfold wokN wxN
  rw [e1, decide_eq_true hq]
  by_cases hb : x % 2 = 1
  · have h3 : rt2 (uN y) + x = P25 := by omega
    have h0 : rt2 (uN y) ≠ 0 := by omega
    rw [hb, decide_eq_false h0]
    refine ⟨rfl, ?_⟩
    rw [if_pos rfl, Nat.mod_eq_of_lt (by omega)]
    omega
  · have h3 : rt2 (uN y) = x := by omega
    rw [if_neg hb, decide_eq_false hb]
    exact ⟨by simp, h3⟩
theorem bx_lt : bx < P25 := by decide +kernel
theorem by_lt : by_ < P25 := by decide +kernel
theorem of_point {C : Cv} {t : Tr} {p : Pt C} (h : t.of p) (hz : t.z < P25) : mlN t.x (ivN t.z) = p.x.val ∧ mlN t.y (ivN t.z) = p.y.val := by
  obtain ⟨h0, hx, hy⟩ := h
  have h1 := einv_mul h0
  have key : ∀ (a : Nat) (c : Fp), toF a = c * toF t.z → mlN a (ivN t.z) = c.val := fun a c e => by
    have e2 : toF (mlN a (ivN t.z)) = toF c.val := by
      rw [toF_mlN, toF_ivN hz, toF_self, e]
      grind
    exact toF_inj (mlN_lt _ _) c.isLt e2
  exact ⟨key _ _ hx, key _ _ hy⟩
/-- A point of two numbers. -/
def ptN (x y : Nat) (h : onN x y = true) : Pt E25 := ⟨toF x, toF y, onN_iff.1 h⟩
theorem pt_val {x y : Nat} (hx : x < P25) (hy : y < P25) (h : onN x y = true) : (ptN x y h).x.val = x ∧ (ptN x y h).y.val = y := ⟨Nat.mod_eq_of_lt hx, Nat.mod_eq_of_lt hy⟩
theorem pt_on (p : Pt E25) : onN p.x.val p.y.val = true := onN_iff.2 (by rw [toF_self, toF_self]; exact p.on)
theorem pt_self (p : Pt E25) : ptN p.x.val p.y.val (pt_on p) = p := Pt.ext' (toF_self _) (toF_self _)
end Go.Proofs.YtgaofocjnifjdaaDoor
namespace Go.Proofs.YtgaofocjnifjdaaDoor
open Go Go.RowKit
set_option maxRecDepth 20000
def t3f (t : Tr) (j : Nat) : Value := if j < 16 then dv16 t.x j else if j < 32 then dv16 t.y (j - 16) else dv16 t.z (j - 32)
abbrev t3v (t : Tr) : Value := av 48 (t3f t)
section
variable {w w' : World} {B B' g : Nat} {t : Tr}
variable {o : Oper} {a : Act} {s : Operand}
end
section
variable {w : World} {B g : Nat} {f : Nat → Value}
variable {ops : Array Oper} {rest : List Oper} {a : Act} {Q : Exit → Act → World → Prop} {dst : Option Nat} {tp : TypeId} {ps : String} {af : Array Edge} {x y : Operand} {t : Tr}
end
end Go.Proofs.YtgaofocjnifjdaaDoor
