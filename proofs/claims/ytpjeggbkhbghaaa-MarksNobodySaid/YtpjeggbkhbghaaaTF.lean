/-
  Layer 15: what is asked of the landed tree; steps by lists. By an AI agent. Layer 15: a step is done to both, over what is asked of the landed tree. By an AI agent. Layer 15: awake, over what is asked of the landed tree. By an AI agent. Layer 15: both texts behind some steps, over what is asked of the landed tree. By an AI agent.
-/
import Derived.Test.YtpjeggbkhbghaaaFa3
import Derived.Test.YtpjeggbkhbghaaaTA
import Derived.Test.YtpjeggbkhbghaaaTA
import Derived.Test.YtpjeggbkhbghaaaTA
namespace Go.Proofs.Ytpjeggbkhbghaaa
open Go Go.RowKit
theorem right_fair : Fair rightB := by
  intro x h
  unfold rightB idOk at h
  simp only [Bool.and_eq_true, decide_eq_true_eq, Bool.or_eq_true] at h
  obtain ⟨⟨_, _, h1, _⟩, _, h2⟩ := h
  refine ⟨fun e => ?_, fun e => ?_⟩
  · rw [e] at h1
    exact absurd h1 (by decide)
  · rcases h2 with h2 | h2
    · exact h2
    · exact absurd e h2
/-- Adding and dropping are a step of the text. -/
theorem addR_doT {L : List Ins} {G : List IDt} {x : Ins} (hl : L.length ≤ 4096) : doT rightB ⟨L, G⟩ (.add x) = ⟨(addR L x).1, G⟩ := by
  show (if mayAdd rightB ⟨L, G⟩ x then (⟨L ++ [x], G⟩ : Txt) else ⟨L, G⟩) = ⟨(addR L x).1, G⟩
  unfold addR
  by_cases h1 : rightB x = false
  · rw [if_pos h1, if_neg (fun h => by have := h.1; rw [h1] at this; cases this)]
  · have h1' : rightB x = true := by cases h : rightB x <;> simp_all
    rw [if_neg h1]
    by_cases h2 : hasB L x.id = true
    · rw [if_pos h2, if_neg (fun h => h.2.1 (hasB_iff.1 h2))]
    · rw [if_neg h2]
      by_cases h3 : x.par ≠ (0, 0) ∧ hasB L x.par = false
      · rw [if_pos h3, if_neg (fun h => by
          rcases h.2.2.1 with h4 | h4
          · exact h3.1 h4
          · have := hasB_iff.2 h4
            rw [h3.2] at this
            cases this)]
      · rw [if_neg h3]
        have h3' : x.par = (0, 0) ∨ hasL L x.par := by
          by_cases h4 : x.par = (0, 0)
          · exact .inl h4
          · refine .inr (hasB_iff.1 ?_)
            cases h5 : hasB L x.par with
            | true => rfl
            | false => exact absurd ⟨h4, h5⟩ h3
        by_cases h4 : L.length = 4096
        · rw [if_pos h4, if_neg (fun h => by have h5 : L.length < 4096 := h.2.2.2; omega)]
        · rw [if_neg h4, if_pos ⟨h1', fun h => h2 (hasB_iff.2 h), h3', by show L.length < 4096; omega⟩]
theorem dropR_doT {L : List Ins} {G : List IDt} {i : IDt} : doT rightB ⟨L, G⟩ (.drop i) = ⟨L, (dropR L G i).1⟩ := by
  show (if mayDrop ⟨L, G⟩ i then (⟨L, G ++ [i]⟩ : Txt) else ⟨L, G⟩) = ⟨L, (dropR L G i).1⟩
  unfold dropR
  by_cases h1 : hasB L i = false
  · rw [if_pos h1, if_neg (fun h => by have := hasB_iff.2 h.1; rw [h1] at this; cases this)]
  · have h1' : hasL L i := hasB_iff.1 (by cases h : hasB L i <;> simp_all)
    rw [if_neg h1]
    by_cases h2 : goneB G i = true
    · rw [if_pos h2, if_neg (fun h => h.2 (by rw [goneB_eq] at h2; exact of_decide_eq_true h2))]
    · rw [if_neg h2, if_pos ⟨h1', fun h => h2 (by rw [goneB_eq]; exact decide_eq_true h)⟩]
theorem addR_ok {L : List Ins} {x : Ins} (h : Ok L) (hl : L.length ≤ 4096) : Ok (addR L x).1 ∧ (addR L x).1.length ≤ L.length + 1 ∧ (addR L x).1.length ≤ 4096 := by
  have h1 := (doT_ok right_fair (t := ⟨L, []⟩) h (.add x)).1
  rw [addR_doT hl] at h1
  refine ⟨h1, ?_⟩
  unfold addR
  split
  · exact ⟨Nat.le_succ _, hl⟩
  · split
    · exact ⟨Nat.le_succ _, hl⟩
    · split
      · exact ⟨Nat.le_succ _, hl⟩
      · split
        · exact ⟨Nat.le_succ _, hl⟩
        · rename_i h5
          show (L ++ [x]).length ≤ _ ∧ (L ++ [x]).length ≤ _
          rw [List.length_append, List.length_singleton]
          omega
/-- Outside the blocks of F nothing that was there is another one. -/
structure OutF (F : Nat → Prop) (w w' : World) : Prop where
  os : w'.os = w.os
  tape : w'.tape = w.tape
  output : w'.output = w.output
  size : w.heap.size ≤ w'.heap.size
  block : ∀ k, k < w.heap.size → ¬ F k → w'.heap[k]? = w.heap[k]?
theorem OutF.of {F : Nat → Prop} {w w' : World} (h : Below w.heap.size w w') : OutF F w w' := ⟨h.os, h.tape, h.output, h.size, fun k hk _ => h.block k hk⟩
theorem OutF.below {F : Nat → Prop} {B : Nat} {w w' : World} (h : OutF F w w') (hF : ∀ k, F k → B ≤ k) (hB : B ≤ w.heap.size) : Below B w w' := ⟨h.os, h.tape, h.output, h.size, fun k hk => h.block k (Nat.lt_of_lt_of_le hk hB) (fun hf => by have := hF k hf; omega)⟩
/-- A tree of the code: the blocks that it holds, the elements as they came, what was dropped. -/
abbrev TreeP := World → (Nat → Prop) → Value → List Ins → List IDt → Prop
/-- What is asked of the code. -/
structure FugC (R : TreeP) : Prop where
  keep : ∀ {w w' F p L G}, R w F p L G → (∀ k, F k → w'.heap[k]? = w.heap[k]?) → w.heap.size ≤ w'.heap.size → R w' F p L G
  le : ∀ {w F p L G}, R w F p L G → ∀ k, F k → k < w.heap.size
  new : ∀ w : World, Calls Try.prog 36 #[] w fun x w' => ∃ p F, x = .returned p ∧ R w' F p [] [] ∧ (∀ k, F k → w.heap.size ≤ k) ∧ Below w.heap.size w w'
  add : ∀ {F : Nat → Prop} {p : Value} {L : List Ins} {G : List IDt} (x : Ins) (w : World), R w F p L G → Ok L → L.length ≤ 4096 →
    Calls Try.prog 33 #[p, insV x] w fun e w' => e = .returned (.int .i64 (addR L x).2) ∧ ∃ F' : Nat → Prop, R w' F' p (addR L x).1 G ∧ (∀ k, F' k → F k ∨ w.heap.size ≤ k) ∧ OutF F w w'
  drop : ∀ {F : Nat → Prop} {p : Value} {L : List Ins} {G : List IDt} (i : IDt) (w : World), R w F p L G → Ok L → L.length ≤ 4096 →
    Calls Try.prog 46 #[p, idV i] w fun e w' => e = .returned (.int .i64 (dropR L G i).2) ∧ ∃ F' : Nat → Prop, R w' F' p L (dropR L G i).1 ∧ (∀ k, F' k → F k ∨ w.heap.size ≤ k) ∧ OutF F w w'
  has : ∀ {F : Nat → Prop} {p : Value} {L : List Ins} {G : List IDt} (i : IDt) (w : World), R w F p L G →
    Calls Try.prog 57 #[p, idV i] w fun e w' => e = .returned (.bool (hasB L i)) ∧ Below w.heap.size w w'
  len : ∀ {F : Nat → Prop} {p : Value} {L : List Ins} {G : List IDt} (w : World), R w F p L G → Ok L → L.length ≤ 4096 →
    Calls Try.prog 30 #[p] w fun e w' => e = .returned (.int .i64 ((liveL G (nodesL L)).length : Int)) ∧ Below w.heap.size w w'
  nodes : ∀ {F : Nat → Prop} {p : Value} {L : List Ins} {G : List IDt} (w : World), R w F p L G → Ok L → L.length ≤ 4096 →
    Calls Try.prog 34 #[p] w fun e w' => ∃ A c, e = .returned (.slice A (nodesL L).length c) ∧ RdR nodE w' w'.heap.size A c ((nodesL L).map (nodeOf G)) ∧ (∀ ad, A = some ad → w.heap.size ≤ ad.block) ∧ Below w.heap.size w w'
  text : ∀ {F : Nat → Prop} {p : Value} {L : List Ins} {G : List IDt} (w : World), R w F p L G → Ok L → L.length ≤ 4096 →
    Calls Try.prog 29 #[p] w fun e w' => e = .returned (.string (textN ((liveL G (nodesL L)).map (nodeOf G)))) ∧ Below w.heap.size w w'
  at_ : ∀ {F : Nat → Prop} {p : Value} {L : List Ins} {G : List IDt} (i : Int) (w : World), R w F p L G → Ok L → L.length ≤ 4096 →
    Calls Try.prog 31 #[p, .int .i64 i] w fun e w' => e = .returned (.tuple #[idV (atR L G i).1, .int .i64 (atR L G i).2]) ∧ Below w.heap.size w w'
  plan : ∀ {F : Nat → Prop} {p : Value} {L : List Ins} {G : List IDt} (i : Int) (w : World), R w F p L G → Ok L → L.length ≤ 4096 →
    Calls Try.prog 32 #[p, .int .i64 i] w fun e w' => e = .returned (.tuple #[idV (planR L G i).1, .bool (planR L G i).2.1, .int .i64 (planR L G i).2.2]) ∧ Below w.heap.size w w'
theorem FugC.next {R : TreeP} (K : FugC R) {w w' : World} {F : Nat → Prop} {p : Value} {L : List Ins} {G : List IDt} (h : R w F p L G) (hb : Below w.heap.size w w') : R w' F p L G :=
  K.keep h (fun k hk => hb.block k (K.le h k hk)) hb.size
/-- Another tree's step leaves this one as it is, where they hold no block together. -/
theorem FugC.beside {R : TreeP} (K : FugC R) {w w' : World} {F F2 : Nat → Prop} {p : Value} {L : List Ins} {G : List IDt} (h : R w F p L G) (ho : OutF F2 w w') (hd : ∀ k, F k → ¬ F2 k) : R w' F p L G :=
  K.keep h (fun k hk => ho.block k (K.le h k hk) (hd k hk)) ho.size
/-- A step: what it is, the element, the name. -/
structure Dot where
  kind : Int
  ins : Ins
  drop : IDt
def doE : Enc Dot := ⟨fun k => [.int .i64 k.kind, .int .i64 k.ins.id.1, .int .i64 k.ins.id.2, .int .i64 k.ins.par.1, .int .i64 k.ins.par.2, .bool k.ins.right, .int .i32 k.ins.rune, .int .i64 k.drop.1, .int .i64 k.drop.2], 9, fun _ => rfl, fun k v h => by simp at h; rcases h with rfl | rfl | rfl | rfl | rfl | rfl | rfl | rfl | rfl <;> rfl, by decide⟩
abbrev doV (k : Dot) : Value := .agg #[.int .i64 k.kind, .int .i64 k.ins.id.1, .int .i64 k.ins.id.2, .int .i64 k.ins.par.1, .int .i64 k.ins.par.2, .bool k.ins.right, .int .i32 k.ins.rune, .int .i64 k.drop.1, .int .i64 k.drop.2]
/-- Behind a step. -/
def stepT (t : Txt) (k : Dot) : Txt := if k.kind = 0 then ⟨t.L, (dropR t.L t.G k.drop).1⟩ else ⟨(addR t.L k.ins).1, t.G⟩
def actOf (k : Dot) : Act := if k.kind = 0 then .drop k.drop else .add k.ins
theorem stepT_do {t : Txt} {k : Dot} (hl : t.L.length ≤ 4096) : stepT t k = doT rightB t (actOf k) := by
  unfold stepT actOf
  split
  · exact dropR_doT.symm
  · exact (addR_doT hl).symm
theorem stepT_ok {t : Txt} {k : Dot} (h : Ok t.L) (hl : t.L.length ≤ 4096) : Ok (stepT t k).L ∧ (stepT t k).L.length ≤ t.L.length + 1 ∧ (stepT t k).L.length ≤ 4096 ∧ (stepT t k).G.length ≤ t.G.length + 1 := by
  unfold stepT
  split
  · refine ⟨h, Nat.le_succ _, hl, ?_⟩
    unfold dropR
    split
    · exact Nat.le_succ _
    · split
      · exact Nat.le_succ _
      · show (t.G ++ [k.drop]).length ≤ _
        rw [List.length_append, List.length_singleton]
        exact Nat.le_refl _
  · exact ⟨(addR_ok h hl).1, (addR_ok h hl).2.1, (addR_ok h hl).2.2, Nat.le_succ _⟩
end Go.Proofs.Ytpjeggbkhbghaaa
namespace Go.Proofs.Ytpjeggbkhbghaaa
open Go Go.RowKit
set_option maxRecDepth 20000
theorem RdR.outf {α : Type} {E : Enc α} {w w' : World} {F : Nat → Prop} {c : Nat} {A : Option Addr} {L : List α} (h : RdR E w w.heap.size A c L) (ho : OutF F w w') (ha : ∀ ad, A = some ad → ¬ F ad.block) : RdR E w' w'.heap.size A c L :=
  ⟨h.cap, h.nil, fun hn => by
    obtain ⟨b, o, e, hlt, hc⟩ := h.some_ hn
    exact ⟨b, o, e, Nat.lt_of_lt_of_le hlt ho.size, fun k v hk => (World.cell?_of_block (ho.block b hlt (ha _ e))).trans (hc k v hk)⟩⟩
theorem RdT.outf {w w' : World} {F : Nat → Prop} {v : Value} {L : List Ins} {G : List IDt} (h : RdT w w.heap.size v L G) (ho : OutF F w w') (ha : ∀ b, inV v b → ¬ F b) : RdT w' w'.heap.size v L G := by
  obtain ⟨A, c, A2, c2, rfl, h1, h2⟩ := h
  exact ⟨A, c, A2, c2, rfl, h1.outf ho fun ad e => ha _ ⟨_, _, _, _, _, _, rfl, .inl ⟨ad, e, rfl⟩⟩, h2.outf ho fun ad e => ha _ ⟨_, _, _, _, _, _, rfl, .inr ⟨ad, e, rfl⟩⟩⟩
theorem OutF.trans {F F2 : Nat → Prop} {a b c : World} (h : OutF F a b) (k : OutF F2 b c) (hs : ∀ n, F2 n → F n ∨ a.heap.size ≤ n) : OutF F a c :=
  ⟨k.os.trans h.os, k.tape.trans h.tape, k.output.trans h.output, Nat.le_trans h.size k.size, fun n hn hf => (k.block n (Nat.lt_of_lt_of_le hn h.size) (fun h2 => by rcases hs n h2 with h3 | h3; exact hf h3; omega)).trans (h.block n hn hf)⟩
theorem OutF.cell {F : Nat → Prop} {w w' : World} (h : OutF F w w') {b o : Nat} (hb : b < w.heap.size) (hf : ¬ F b) {v : Value} (hc : w.cell? ⟨b, o, none⟩ = some v) : w'.cell? ⟨b, o, none⟩ = some v := (World.cell?_of_block (h.block b hb hf)).trans hc
theorem set2_out {w : World} {B g : Nat} {t : TypeId} {a b : Value} (o : O2 w B t g a b) (x y : Value) : OutF (fun n => n = g) w (set2 w g x y) :=
  have h := o.below x y
  ⟨h.os, h.tape, h.output, h.size, fun n _ hn => set2_only w g x y n hn⟩
end Go.Proofs.Ytpjeggbkhbghaaa
namespace Go.Proofs.Ytpjeggbkhbghaaa
open Go Go.RowKit
set_option maxRecDepth 20000
def x0 : Ins := ⟨(0, 1), (0, 0), true, 97⟩
theorem awake_facts : addR [] x0 = ([x0], 0) ∧ addR [x0] x0 = ([x0], 12) ∧ nodesL [x0] = [x0] ∧ dropR [x0] [] (0, 1) = ([(0, 1)], 0) := by
  refine ⟨rfl, rfl, ?_, rfl⟩
  exact plan_only (Ok.snoc (L := []) .nil (fun y hy => nomatch hy) (by decide) (.inl ⟨rfl, rfl⟩))
theorem awake_text : textN ((liveL [] [x0]).map (nodeOf [])) = ⟨#[97]⟩ ∧ (liveL [] [x0]).length = 1 ∧ textN ((liveL [(0, 1)] [x0]).map (nodeOf [(0, 1)])) = ⟨#[]⟩ := by
  refine ⟨?_, ?_, ?_⟩ <;> decide +kernel
theorem ins_res {fn : Func} {p : Tmp} (h : fn.results = #[.cell p 74]) (tmps : Array Value) {w : World} {g : Nat} {v0 v1 v2 v3 v4 v5 : Value} (c0 : w.cell? ⟨g, 0, none⟩ = some v0) (c1 : w.cell? ⟨g, 1, none⟩ = some v1) (c2 : w.cell? ⟨g, 2, none⟩ = some v2) (c3 : w.cell? ⟨g, 3, none⟩ = some v3) (c4 : w.cell? ⟨g, 4, none⟩ = some v4) (c5 : w.cell? ⟨g, 5, none⟩ = some v5) (hp : tmps.getD p undef = .pointer (some ⟨g, 0, none⟩)) :
    (results fn tmps).run Try.prog w = .ok (.agg #[v0, v1, v2, v3, v4, v5]) w := by
  have hp' : tmps[p]?.getD undef = .pointer (some ⟨g, 0, none⟩) := by simpa using hp
  simp only [results, h]
  simp [Result.andThen, hp', asAddr, go_sem, c0, c1, c2, c3, c4, c5]
end Go.Proofs.Ytpjeggbkhbghaaa
namespace Go.Proofs.Ytpjeggbkhbghaaa
open Go Go.RowKit
set_option maxRecDepth 20000
theorem fold_okT : ∀ (l : List Dot) (t : Txt), Ok t.L → t.L.length + l.length ≤ 4096 → Ok (l.foldl stepT t).L ∧ (l.foldl stepT t).L.length ≤ t.L.length + l.length ∧ (l.foldl stepT t).G.length ≤ t.G.length + l.length
  | [], t, h, _ => ⟨h, Nat.le_refl _, Nat.le_refl _⟩
  | x :: r, t, h, hl => by
    rw [List.length_cons] at hl
    obtain ⟨h1, h2, h3, h4⟩ := stepT_ok (k := x) h (by omega)
    obtain ⟨g1, g2, g3⟩ := fold_okT r (stepT t x) h1 (by omega)
    rw [List.foldl_cons, List.length_cons]
    exact ⟨g1, by omega, by omega⟩
/-- Behind the first so many steps. -/
def txtK (l : List Dot) (k : Nat) : Txt := (l.take k).foldl stepT ⟨[], []⟩
theorem txtK_zero (l : List Dot) : txtK l 0 = ⟨[], []⟩ := rfl
theorem txtK_succ {l : List Dot} {k : Nat} {x : Dot} (h : l[k]? = some x) : txtK l (k + 1) = stepT (txtK l k) x := by
  unfold txtK
  rw [take_snoc h, List.foldl_append]
  rfl
theorem txtK_ok {l : List Dot} {k : Nat} (hl : l.length ≤ 4096) : Ok (txtK l k).L ∧ (txtK l k).L.length ≤ l.length ∧ (txtK l k).G.length ≤ l.length := by
  have hk : (l.take k).length ≤ l.length := by rw [List.length_take]; exact Nat.min_le_right _ _
  obtain ⟨h1, h2, h3⟩ := fold_okT (l.take k) ⟨[], []⟩ .nil (by simp only [List.length_nil]; omega)
  simp only [List.length_nil] at h2 h3
  exact ⟨h1, by unfold txtK; omega, by unfold txtK; omega⟩
/-- The landed tree at p and the document's value stand for one text; neither holds the box at gr. -/
def PlayB (R : TreeP) (w0 : World) (gr : Nat) (p u1 u2 : Value) (t : Txt) (w : World) : Prop :=
  ∃ F : Nat → Prop, R w F p t.L t.G ∧ RdT w w.heap.size (.agg #[u1, u2]) t.L t.G ∧ (∀ b, inV (.agg #[u1, u2]) b → b < w.heap.size ∧ ¬ F b ∧ b ≠ gr) ∧ (∀ b, F b → w0.heap.size ≤ b ∧ b ≠ gr) ∧ Below w0.heap.size w0 w
/-- .. and the box at gr holds the document's. -/
def Play (R : TreeP) (w0 : World) (gr : Nat) (p : Value) (t : Txt) (w : World) : Prop := ∃ u1 u2, PlayB R w0 gr p u1 u2 t w ∧ O2 w w0.heap.size 91 gr u1 u2
section
variable {R : TreeP} (K : FugC R) {w0 w w' : World} {gr : Nat} {p u1 u2 : Value} {t : Txt}
include K
theorem PlayB.keep (h : PlayB R w0 gr p u1 u2 t w) (hb : Below w.heap.size w w') : PlayB R w0 gr p u1 u2 t w' := by
  obtain ⟨F, h1, h2, h3, h4, h5⟩ := h
  exact ⟨F, K.next h1 hb, (h2.keep hb).mono hb.size, fun b hb' => ⟨Nat.lt_of_lt_of_le (h3 b hb').1 hb.size, (h3 b hb').2⟩, h4, h5.trans (hb.mono h5.size)⟩
theorem Play.keep (h : Play R w0 gr p t w) (hb : Below w.heap.size w w') : Play R w0 gr p t w' := by
  obtain ⟨u1, u2, h1, h2⟩ := h
  exact ⟨u1, u2, PlayB.keep K h1 hb, OwnF.keep h2 hb⟩
theorem PlayB.store (h : PlayB R w0 gr p u1 u2 t w) {x y : Value} (o : O2 w w0.heap.size 91 gr x y) : Play R w0 gr p t (set2 w gr u1 u2) := by
  obtain ⟨F, h1, h2, h3, h4, h5⟩ := h
  have hs := set2_out o u1 u2
  exact ⟨u1, u2, ⟨F, K.keep h1 (fun b hb => set2_only w gr u1 u2 b (h4 b hb).2) hs.size, RdT.outf h2 hs (fun b hb => (h3 b hb).2.2), fun b hb => ⟨Nat.lt_of_lt_of_le (h3 b hb).1 hs.size, (h3 b hb).2⟩, h4, h5.trans (o.below u1 u2)⟩, o.set_ u1 u2⟩
/-- A new tree, and the document's empty text in a box that is laid next. -/
theorem play_new (w0 : World) : Calls Try.prog 36 #[] w0 fun e w1 => ∃ p, e = .returned p ∧ Play R w0 w1.heap.size p ⟨[], []⟩ (w1.alloc (.cells #[.slice none 0 0, .slice none 0 0] 91)) := by
  refine (K.new w0).mono ?_
  rintro e w1 ⟨p, F, rfl, r, hF, hb⟩
  have hb1 : Below w1.heap.size w1 (w1.alloc (.cells #[.slice none 0 0, .slice none 0 0] 91)) := (Below.refl _ _).alloc (Nat.le_refl _) _
  refine ⟨p, rfl, _, _, ⟨F, K.next r hb1, ⟨none, 0, none, 0, rfl, RdR.nothing insE _ _, RdR.nothing idE _ _⟩, ?_, fun b hb' => ⟨hF b hb', ?_⟩, hb.trans (hb1.mono hb.size)⟩, O2.newz hb.size _ _ _⟩
  · rintro b ⟨A, n, c, A2, n2, c2, e, h⟩
    simp only [Value.agg.injEq, Array.mk.injEq, List.cons.injEq, Value.slice.injEq, and_true] at e
    obtain ⟨⟨rfl, _, _⟩, rfl, _, _⟩ := e
    rcases h with ⟨ad, h, _⟩ | ⟨ad, h, _⟩ <;> cases h
  · have := K.le r b hb'
    omega
end
end Go.Proofs.Ytpjeggbkhbghaaa
