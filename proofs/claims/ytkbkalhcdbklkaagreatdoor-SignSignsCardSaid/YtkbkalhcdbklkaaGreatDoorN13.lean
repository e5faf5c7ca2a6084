/-
  The document's Small, Great, Sum256, Sum512 (layer 6). Written by tools/gen_n13.py. By an AI agent.
-/
import Derived.Test.YtkbkalhcdbklkaaGreatDoorJ06
namespace Go.Proofs.YtkbkalhcdbklkaaGreatDoor
open Go Go.RowKit
set_option maxRecDepth 20000
section
variable {w : World} {B g : Nat}
theorem OwnF.there6 {e : TypeId} {c n : Nat} {f : Nat → Value} (h : OwnF w B e (some ⟨g, 0, none⟩) c n f) : w.there g 0 n := fun j hj => by
  rw [Nat.zero_add, OwnF.cell h hj]
  exact ⟨rfl, OwnF.free h j⟩
theorem OwnF.sets6 {e : TypeId} {c n : Nat} : ∀ (vs : List Value) (o : Nat) (w : World) (f : Nat → Value), OwnF w B e (some ⟨g, 0, none⟩) c n f → OwnF (w.setCells g o vs) B e (some ⟨g, 0, none⟩) c n (fun j => if o ≤ j then (vs[j - o]?).getD (f j) else f j)
  | [], o, w, f, h => h.congr fun j _ => by simp
  | v :: r, o, w, f, h => by
    have h1 := OwnF.sets6 r (o + 1) _ _ (OwnF.set_ h o v)
    refine OwnF.congr h1 fun j _ => ?_
    by_cases h2 : o + 1 ≤ j
    · have h3 : j ≠ o := by omega
      have h4 : o ≤ j := by omega
      have h5 : j - o = j - (o + 1) + 1 := by omega
      simp only [h2, h3, h4, h5, if_true, if_false, List.getElem?_cons_succ]
    · rw [if_neg h2]
      by_cases h3 : j = o
      · subst h3; simp
      · rw [if_neg h3, if_neg (by omega)]
theorem sets_below6 (g : Nat) : ∀ (vs : List Value) (o : Nat) (w : World), Below g w (w.setCells g o vs)
  | [], _, w => Below.refl _ w
  | v :: r, o, w => ((Below.refl g w).setCell (p := ⟨g, o, none⟩) (Nat.le_refl g) v).trans (sets_below6 g r (o + 1) _)
theorem OwnF.sets_other6 {e : TypeId} {c n g' : Nat} {f : Nat → Value} (hg : g' ≠ g) : ∀ (vs : List Value) (o : Nat) (w : World), OwnF w B e (some ⟨g, 0, none⟩) c n f → OwnF (w.setCells g' o vs) B e (some ⟨g, 0, none⟩) c n f
  | [], _, _, h => h
  | v :: r, o, _, h => OwnF.sets_other6 hg r (o + 1) _ (OwnF.other h (p := ⟨g', o, none⟩) hg v)
end
theorem OwnF.ptr6 {w : World} {B : Nat} {e : TypeId} {A : Option Addr} {c n : Nat} {f : Nat → Value} (h : OwnF w B e A c n f) (hn : 0 < n) : ∃ g, A = some ⟨g, 0, none⟩ := by
  obtain ⟨_, h2⟩ := h
  rcases h2 with ⟨_, h0⟩ | ⟨g, cap, cur, hv, _⟩
  · omega
  · simp only [Value.slice.injEq] at hv
    exact ⟨g, hv.1⟩
theorem kres {fn : Func} {p : Tmp} (h : fn.results = #[.cell p 120]) (tmps : Array Value) {w : World} {B g : Nat} {K : Kd} (o : OK w B g K) (hp : tmps.getD p undef = .pointer (some ⟨g, 0, none⟩)) : (results fn tmps).run Tryz.prog w = .ok (kv K) w := by
  have hp' : tmps[p]?.getD undef = .pointer (some ⟨g, 0, none⟩) := by simpa using hp
  have h2 := run_loadVar_mid (P := Tryz.prog) w g 0 120 K.cells _ (OwnF.rng o (by rw [K.len]; exact Nat.le_refl _) fun k hk => K.get (by rwa [K.len] at hk)) Tryz.underlying120 rfl (by rw [K.len]; exact k_info)
  simp [results, h, hp', asAddr, h2]
def setKw (w : World) (g : Nat) (K : Kd) : World := w.setCells g 0 K.cells
theorem setKw_other {w : World} {B g b c n : Nat} {e : TypeId} {f : Nat → Value} (hg : g ≠ b) (h : OwnF w B e (some ⟨b, 0, none⟩) c n f) (K : Kd) : OwnF (setKw w g K) B e (some ⟨b, 0, none⟩) c n f := OwnF.sets_other6 hg K.cells 0 _ h
theorem setKw_below (w : World) (g : Nat) (K : Kd) : Below g w (setKw w g K) := sets_below6 g K.cells 0 w
theorem k_put {w : World} {B g : Nat} {f : Nat → Value} (h : OwnF w B 120 (some ⟨g, 0, none⟩) 16 16 f) (K : Kd)  : OK (setKw w g K) B g K :=
  OwnF.congr (OwnF.sets6 K.cells 0 w f h) fun k hk => by rw [if_pos (Nat.zero_le _), Nat.sub_zero, K.get hk]; rfl
theorem k_one (K : Kd) : K.cells.toArray.all (·.oneCell') = true := all_oneCell_toArray fun v hv => by
  simp only [Kd.cells, List.mem_cons, List.mem_nil_iff, or_false] at hv
  rcases hv with rfl | rfl | rfl | rfl | rfl | rfl | rfl | rfl | rfl | rfl | rfl | rfl | rfl | rfl | rfl | rfl <;> rfl
section
variable {ops : Array Oper} {rest : List Oper} {a : Act} {w : World} {Q : Exit → Act → World → Prop} {B g : Nat} {dst : Option Nat} {tp : TypeId} {ps : String} {af : Array Edge} {x y : Operand}
theorem k_store {f : Nat → Value} (o : OwnF w B 120 (some ⟨g, 0, none⟩) 16 16 f) (K : Kd) (hx : a.eval x = .pointer (some ⟨g, 0, none⟩)) (hy : a.eval y = kv K) (h : wpList Tryz.prog ops Q rest (a.put dst undef) (setKw w g K)) : wpList Tryz.prog ops Q (⟨dst, .store 120 x y, tp, ps, af, none⟩ :: rest) a w :=
  wpList_store_mid rfl _ x y rfl g 0 K.cells.toArray hx hy (by rw [List.size_toArray, K.len]; exact OwnF.there6 o) (by rw [List.size_toArray, K.len]; exact k_info) (k_one K) h
end
section
attribute [local irreducible] setKw Kd.cells
end
theorem great_cells (A1 A2 : Option Addr) (c1 c2 : Nat) : (Kd.mk greatS A1 c1 A2 c2).cells = [.int .i64 64, .int .i64 80, .int .i64 28, .int .i64 34, .int .i64 39, .int .i64 14, .int .i64 18, .int .i64 41, .int .i64 1, .int .i64 8, .int .i64 7, .int .i64 19, .int .i64 61, .int .i64 6, .slice A1 80 c1, .slice A2 8 c2] := by
  show [Value.int .i64 ((64 : Nat) : Int), _, _, _, _, _, _, _, _, _, _, _, _, _, .slice A1 greatS.keys.length c1, .slice A2 greatS.first.length c2] = _
  rw [greatOk.keys.1, greatOk.first.1]
  rfl
section
attribute [local irreducible] setKw Kd.cells
set_option maxHeartbeats 1600000 in
theorem great_any (w : World) : Calls Tryz.prog 89 #[] w fun en w' => ∃ K : Kd, K.toKs = greatS ∧ en = .returned (kv K) ∧ RdF w' w'.heap.size K.ka K.kc K.rounds (uv K.keys) ∧ RdF w' w'.heap.size K.fa K.fc 8 (uv K.first) ∧ Below w.heap.size w w' := by
  have oz := OwnF.lit (w := w) (B := w.heap.size) 120 (Nat.le_refl _) #[.int .i64 0, .int .i64 0, .int .i64 0, .int .i64 0, .int .i64 0, .int .i64 0, .int .i64 0, .int .i64 0, .int .i64 0, .int .i64 0, .int .i64 0, .int .i64 0, .int .i64 0, .int .i64 0, .slice none 0 0, .slice none 0 0] 16 (fun k => ([.int .i64 0, .int .i64 0, .int .i64 0, .int .i64 0, .int .i64 0, .int .i64 0, .int .i64 0, .int .i64 0, .int .i64 0, .int .i64 0, .int .i64 0, .int .i64 0, .int .i64 0, .int .i64 0, .slice none 0 0, .slice none 0 0] : List Value).getD k undef) (by decide) rfl
  have hc := (Below.refl w.heap.size w).alloc (Nat.le_refl _) (.cells #[.int .i64 0, .int .i64 0, .int .i64 0, .int .i64 0, .int .i64 0, .int .i64 0, .int .i64 0, .int .i64 0, .int .i64 0, .int .i64 0, .int .i64 0, .int .i64 0, .int .i64 0, .int .i64 0, .slice none 0 0, .slice none 0 0] 120)
  have ka : ∀ w, Calls Tryz.prog 123 #[.int .i64 80, .int .i64 3, .int .i64 64] w fun en w' => ∃ A c, en = .returned (.slice A 80 c) ∧ OwnF w' w.heap.size 33 A c 80 (uv greatS.keys) ∧ Below w.heap.size w w' := fun w => numbers_any (n := 80) (s := 408) (e := 3) (bits := 64) len80.1 len80.2 (by decide) (.inr rfl) (.inr rfl) w
  have kb : ∀ w, Calls Tryz.prog 123 #[.int .i64 8, .int .i64 2, .int .i64 64] w fun en w' => ∃ A c, en = .returned (.slice A 8 c) ∧ OwnF w' w.heap.size 33 A c 8 (uv greatS.first) ∧ Below w.heap.size w w' := fun w => numbers_any (n := 8) (s := 18) (e := 2) (bits := 64) len8.1 len8.2 (by decide) (.inl rfl) (.inr rfl) w
  have KA := Lib.hid ka
  have KB := Lib.hid kb
  clear ka kb
  generalize hz : (fun k => ([.int .i64 0, .int .i64 0, .int .i64 0, .int .i64 0, .int .i64 0, .int .i64 0, .int .i64 0, .int .i64 0, .int .i64 0, .int .i64 0, .int .i64 0, .int .i64 0, .int .i64 0, .int .i64 0, .slice none 0 0, .slice none 0 0] : List Value).getD k undef) = fz at oz
  clear hz
  go_enter Tryz.func89, Tryz.ntmps89
  go_wp2_with fail
  obtain ⟨v0, e0⟩ : ∃ v, v = w.alloc (.cells #[.int .i64 0, .int .i64 0, .int .i64 0, .int .i64 0, .int .i64 0, .int .i64 0, .int .i64 0, .int .i64 0, .int .i64 0, .int .i64 0, .int .i64 0, .int .i64 0, .int .i64 0, .int .i64 0, .slice none 0 0, .slice none 0 0] 120) := ⟨_, rfl⟩
  rw [← e0] at oz hc ⊢
  obtain ⟨g, eg⟩ : ∃ g, g = w.heap.size := ⟨_, rfl⟩
  have ozg : OwnF v0 w.heap.size 120 (some ⟨g, 0, none⟩) 16 16 fz := by rw [eg]; exact oz
  rw [show (Value.pointer (some ⟨w.heap.size, 0, none⟩)) = .pointer (some ⟨g, 0, none⟩) by rw [eg]]
  clear oz eg e0
  have hgl := ozg.lt
  go_at_call 123
  refine (KA.out _).mono ?_
  rintro en v1 ⟨A1, c1, rfl, o1, h0⟩
  replace ozg := OwnF.keep ozg h0
  replace hc := hc.trans (h0.mono hc.size)
  have hs1 := h0.size
  clear h0 KA
  go_wp2_with fail
  go_at_call 123
  refine (KB.out _).mono ?_
  rintro en v2 ⟨A2, c2, rfl, o2, h0⟩
  replace ozg := OwnF.keep ozg h0
  replace o1 := OwnF.keep o1 h0
  replace hc := hc.trans (h0.mono hc.size)
  clear h0 KB
  obtain ⟨b1, rfl⟩ := OwnF.ptr6 o1 (by decide)
  obtain ⟨b2, rfl⟩ := OwnF.ptr6 o2 (by decide)
  have n1 : g ≠ b1 := by have := o1.ge; omega
  have n2 : g ≠ b2 := by have := o2.ge; omega
  have ok := k_put ozg (Kd.mk greatS (some ⟨b1, 0, none⟩) c1 (some ⟨b2, 0, none⟩) c2)
  have q1 := setKw_other n1 o1 (Kd.mk greatS (some ⟨b1, 0, none⟩) c1 (some ⟨b2, 0, none⟩) c2)
  have q2 := setKw_other n2 o2 (Kd.mk greatS (some ⟨b1, 0, none⟩) c1 (some ⟨b2, 0, none⟩) c2)
  have hb := hc.trans ((setKw_below v2 g (Kd.mk greatS (some ⟨b1, 0, none⟩) c1 (some ⟨b2, 0, none⟩) c2)).mono ozg.ge)
  go_wp2_with ((with_reducible refine k_store ozg (Kd.mk greatS (some ⟨b1, 0, none⟩) c1 (some ⟨b2, 0, none⟩) c2) ?_ ?_ ?_); rfl; (show _ = Value.agg (Kd.cells _).toArray; rw [great_cells]; rfl))
  exact bodyPost_ret (kres Tryz.results89 _ ok rfl) rfl ⟨_, rfl, rfl, q1.rd, q2.rd, hb⟩
end
theorem sum512_any {A0 : Option Addr} {B c0 : Nat} {bs : List UInt8} (hlen : bs.length ≤ 1000000) (w : World) (hr : Rd w B A0 c0 bs) (hB : B ≤ w.heap.size) :
    Calls Tryz.prog 46 #[.slice A0 bs.length c0] w fun en w' => ∃ A c, en = .returned (.slice A 64 c) ∧ Own w' w.heap.size 5 A c (sumN greatS bs) ∧ Below w.heap.size w w' := by
  have KS := Lib.hid great_any
  have KM := Lib.hid (fun (K : Kd) (hK : Kok K.toKs) w hk hf hr hB => ksum_any hK (A0 := A0) (B := w.heap.size) (c0 := c0) hlen w hk hf hr hB)
  go_enter Tryz.func46, Tryz.ntmps46
  go_wp2_with fail
  go_at_call 89
  refine (KS.out _).mono ?_
  rintro en v1 ⟨K, hK, rfl, hk, hf, hc⟩
  go_wp2_with fail
  go_at_call 90
  refine (KM.out K (by rw [hK]; exact greatOk) _ hk hf ((hr.keep (hc.mono hB)).mono (Nat.le_trans hB hc.size)) (Nat.le_refl _)).mono ?_
  rintro en v2 ⟨A, c, rfl, ho, h0⟩
  have hbits : K.bits = 64 := by rw [hK]; rfl
  rw [hK] at ho
  have HBI := Lib.hid hbits
  clear hbits
  go_wp2_with fail
  go_ret
  exact ⟨A, c, rfl, ho.mono hc.size, hc.trans (h0.mono hc.size)⟩
end Go.Proofs.YtkbkalhcdbklkaaGreatDoor
