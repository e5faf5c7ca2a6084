/-
  The order of a text: what is planned stands where it was planned (layer 15; lists, of no program). By an AI agent.
-/
import Derived.Test.YtejfdheiopejeaaFg3
namespace Go.Proofs.Ytejfdheiopejeaa
/-- Beside whom the new one stands. -/
def besideL (x y : Ins) : List Ins := if y.id = x.par then (if x.right then [y, x] else [x, y]) else [y]
theorem bel_nokids {L : List Ins} {p : IDt} {s : Bool} (h : kidsL L p s = []) (n : Nat) : belL n L p s = [] := by
  cases n with
  | zero => rfl
  | succ n => unfold belL; rw [h]; rfl
theorem Deep.init {L : List Ins} {x : Ins} {n : Nat} {p : IDt} (h : Deep (L ++ [x]) n p) : Deep L n p := by
  induction h with
  | zero h0 => exact .zero fun y hy => h0 y (List.mem_append.2 (.inl hy))
  | succ _ ih => exact .succ fun y hy e => ih y (List.mem_append.2 (.inl hy)) e
/-- Where none hung, one that is hung there stands beside its parent. -/
theorem bel_beside {L : List Ins} {x : Ins} (h : Ok (L ++ [x])) (hk : kidsL L x.par x.right = []) : ∀ (n : Nat) {p : IDt} {s : Bool}, Deep (L ++ [x]) n p → hangs p s x = false → belL (n + 1) (L ++ [x]) p s = (belL (n + 1) L p s).flatMap (besideL x)
  | 0, p, s, hd, hh => by
    cases hd with
    | zero h0 => rw [bel_none h0, bel_none fun y hy => h0 y (List.mem_append.2 (.inl hy))]; rfl
  | n + 1, p, s, hd, hh => by
    cases hd with
    | succ hd =>
      have e1 : ∀ M : List Ins, belL (n + 1 + 1) M p s = (kidsL M p s).flatMap fun k => belL (n + 1) M k.id false ++ k :: belL (n + 1) M k.id true := fun _ => rfl
      have ek : kidsL (L ++ [x]) p s = kidsL L p s := by rw [kidsL_snoc, hh]; rfl
      rw [e1, e1, ek, List.flatMap_assoc]
      refine flatMap_same fun k hkm => ?_
      have hm := (mem_kids p s).1 hkm
      have hdk := hd k (List.mem_append.2 (.inl hm.1)) (hangs_iff.1 hm.2).1
      rw [List.flatMap_append, List.flatMap_cons]
      by_cases he : k.id = x.par
      · have eb : besideL x k = if x.right then [k, x] else [x, k] := by unfold besideL; rw [if_pos he]
        have hnew : ∀ s, x.right = s → belL (n + 1) (L ++ [x]) k.id s = [x] ∧ belL (n + 1) L k.id s = [] := fun s hs => by
          subst hs
          refine ⟨?_, by rw [he]; exact bel_nokids hk _⟩
          have hx : hangs k.id x.right x = true := hangs_iff.2 ⟨he.symm, rfl⟩
          have e2 : kidsL (L ++ [x]) k.id x.right = [x] := by rw [kidsL_snoc, if_pos hx, he, hk]; rfl
          unfold belL
          rw [e2]
          simp only [List.flatMap_cons, List.flatMap_nil, List.append_nil]
          rw [bel_none h.leaf, bel_none h.leaf]
          rfl
        have hold : ∀ s, x.right ≠ s → belL (n + 1) (L ++ [x]) k.id s = (belL (n + 1) L k.id s).flatMap (besideL x) := fun s hs => bel_beside h hk n hdk (by
          cases hg : hangs k.id s x with
          | false => rfl
          | true => exact absurd (hangs_iff.1 hg).2 hs)
        rw [eb]
        cases hr : x.right with
        | true =>
          obtain ⟨a1, a2⟩ := hnew true hr
          rw [a1, a2, hold false (by rw [hr]; decide)]
          simp
        | false =>
          obtain ⟨a1, a2⟩ := hnew false hr
          rw [a1, a2, hold true (by rw [hr]; decide)]
          simp
      · have eb : besideL x k = [k] := by unfold besideL; rw [if_neg he]
        have hg : ∀ s, hangs k.id s x = false := fun s => by
          cases hg : hangs k.id s x with
          | false => rfl
          | true => exact absurd (hangs_iff.1 hg).1.symm he
        rw [eb, bel_beside h hk n hdk (hg false), bel_beside h hk n hdk (hg true)]
        simp
theorem nodes_fuel {L : List Ins} (h : Ok L) (k : Nat) : belL (L.length + 1 + k) L (0, 0) true = nodesL L := bel_fuel L.length true (h.deep _) k
theorem nodes_beside {L : List Ins} {x : Ins} (h : Ok (L ++ [x])) (hk : kidsL L x.par x.right = []) (hp : x.par ≠ (0, 0)) : nodesL (L ++ [x]) = (nodesL L).flatMap (besideL x) := by
  rw [← nodes_fuel h.init.1 1]
  unfold nodesL
  have hl : (L ++ [x]).length = L.length + 1 := by rw [List.length_append, List.length_singleton]
  have hd := h.deep (0, 0)
  rw [hl] at hd ⊢
  refine bel_beside h hk _ hd ?_
  cases hg : hangs (0, 0) true x with
  | false => rfl
  | true => exact absurd (hangs_iff.1 hg).1 hp
theorem beside_off {x : Ins} : ∀ {l : List Ins}, (∀ y ∈ l, y.id ≠ x.par) → l.flatMap (besideL x) = l
  | [], _ => rfl
  | y :: l, h => by
    rw [List.flatMap_cons, beside_off fun z hz => h z (List.mem_cons.2 (.inr hz))]
    unfold besideL
    rw [if_neg (h y (List.mem_cons.2 (.inl rfl)))]
    rfl
theorem distinct_mid {pre post : List Ins} {a : Ins} (h : Distinct (pre ++ a :: post)) : (∀ y ∈ pre, y.id ≠ a.id) ∧ ∀ y ∈ post, y.id ≠ a.id := by
  obtain ⟨_, h2, h3⟩ := List.pairwise_append.1 h
  exact ⟨fun y hy => h3 y hy a (List.mem_cons.2 (.inl rfl)), fun y hy e => (List.pairwise_cons.1 h2).1 y hy e.symm⟩
/-- One that is hung where none hung stands right beside its parent, and nothing else has moved. -/
theorem nodes_at {L : List Ins} {x a : Ins} {pre post : List Ins} (h : Ok (L ++ [x])) (hk : kidsL L x.par x.right = []) (e : nodesL L = pre ++ a :: post) (ha : a.id = x.par) :
    nodesL (L ++ [x]) = pre ++ (if x.right then [a, x] else [x, a]) ++ post := by
  have hL := h.init.1
  have hd := nodes_distinct hL
  rw [e] at hd
  obtain ⟨h1, h2⟩ := distinct_mid hd
  have hm : a ∈ L := (nodes_mem hL).1 (by rw [e]; simp)
  have hz : x.par ≠ (0, 0) := fun e2 => hL.nz a hm (ha.trans e2)
  rw [nodes_beside h hk hz, e, List.flatMap_append, List.flatMap_cons, beside_off (fun y hy => ha ▸ h1 y hy), beside_off (fun y hy => ha ▸ h2 y hy), List.append_assoc]
  have eb : besideL x a = if x.right then [a, x] else [x, a] := by unfold besideL; rw [if_pos ha]
  rw [eb]
/-- Where anything hangs, the first of it has none on its left. -/
theorem bel_head {L : List Ins} : ∀ (n : Nat) {p : IDt} {s : Bool} {c : Ins} {r : List Ins}, Deep L n p → belL (n + 1) L p s = c :: r → kidsL L c.id false = []
  | 0, p, s, c, r, hd, e => by
    cases hd with
    | zero h0 => rw [bel_none h0] at e; cases e
  | n + 1, p, s, c, r, hd, e => by
    cases hd with
    | succ hd =>
      have e1 : belL (n + 1 + 1) L p s = (kidsL L p s).flatMap fun k => belL (n + 1) L k.id false ++ k :: belL (n + 1) L k.id true := rfl
      rw [e1] at e
      cases hk : kidsL L p s with
      | nil => rw [hk] at e; cases e
      | cons k ks =>
        have hm := (mem_kids p s (L := L) (y := k)).1 (by rw [hk]; exact List.mem_cons.2 (.inl rfl))
        have hdk := hd k hm.1 (hangs_iff.1 hm.2).1
        rw [hk, List.flatMap_cons] at e
        cases hb : belL (n + 1) L k.id false with
        | cons c2 r2 =>
          rw [hb] at e
          have : c2 = c := by injection e
          rw [← this]
          exact bel_head n hdk hb
        | nil =>
          rw [hb] at e
          have : k = c := by injection e
          rw [← this]
          cases hk2 : kidsL L k.id false with
          | nil => rfl
          | cons k3 r3 =>
            unfold belL at hb
            rw [hk2, List.flatMap_cons] at hb
            have := congrArg List.length hb
            simp at this
theorem bel_some {L : List Ins} {p : IDt} {s : Bool} (n : Nat) (h : kidsL L p s ≠ []) : belL (n + 1) L p s ≠ [] := by
  intro e
  cases hk : kidsL L p s with
  | nil => exact h hk
  | cons k r =>
    unfold belL at e
    rw [hk, List.flatMap_cons] at e
    have := congrArg List.length e
    simp at this
theorem distinct_unique {a : Ins} : ∀ {p1 p2 r1 r2 : List Ins}, Distinct (p1 ++ a :: r1) → p1 ++ a :: r1 = p2 ++ a :: r2 → r1 = r2
  | [], [], _, _, _, e => by simpa using e
  | [], y :: p2, r1, r2, h, e => by
    injection e with e1 e2
    have h1 := (List.pairwise_cons.1 h).1 a (by rw [e2]; simp)
    exact absurd rfl h1
  | y :: p1, [], r1, r2, h, e => by
    injection e with e1 e2
    have h1 := (List.pairwise_cons.1 h).1 a (by simp)
    exact absurd (by rw [e1]) h1
  | y :: p1, z :: p2, r1, r2, h, e => by
    injection e with e1 e2
    exact distinct_unique (List.pairwise_cons.1 h).2 e2
/-- Behind one that has any on its right stands one that has none on its left. -/
theorem nodes_next {L : List Ins} {a : Ins} {pre post : List Ins} (h : Ok L) (e : nodesL L = pre ++ a :: post) (hk : kidsL L a.id true ≠ []) : ∃ b r, post = b :: r ∧ kidsL L b.id false = [] := by
  have ha : a ∈ nodesL L := by rw [e]; simp
  obtain ⟨m, p2, r2, hdm, e2⟩ := bel_split L.length (h.deep (0, 0)) ha
  have hd := nodes_distinct h
  have e3 : nodesL L = (p2 ++ belL (m + 1) L a.id false) ++ a :: (belL (m + 1) L a.id true ++ r2) := by
    unfold nodesL; rw [e2]; simp only [List.append_assoc, List.cons_append]
  rw [e] at hd
  have e4 := distinct_unique hd (e.symm.trans e3)
  cases hb : belL (m + 1) L a.id true with
  | nil => exact absurd hb (bel_some m hk)
  | cons b r =>
    rw [hb] at e4
    exact ⟨b, r ++ r2, e4, bel_head m hdm hb⟩
/-- Planned behind one that has none on its right: it stands right behind. -/
theorem plan_right {L : List Ins} {x a : Ins} {pre post : List Ins} (h : Ok (L ++ [x])) (e : nodesL L = pre ++ a :: post) (hk : kidsL L a.id true = []) (hp : x.par = a.id) (hr : x.right = true) :
    nodesL (L ++ [x]) = pre ++ a :: x :: post := by
  rw [nodes_at h (by rw [hp, hr]; exact hk) e hp.symm, hr]
  simp
/-- Planned behind another one: it stands right behind, too. -/
theorem plan_left {L : List Ins} {x a b : Ins} {pre post : List Ins} (h : Ok (L ++ [x])) (e : nodesL L = pre ++ a :: b :: post) (hk : kidsL L a.id true ≠ []) (hp : x.par = b.id) (hr : x.right = false) :
    nodesL (L ++ [x]) = pre ++ a :: x :: b :: post := by
  obtain ⟨b2, r2, e2, hb⟩ := nodes_next h.init.1 e hk
  have : b = b2 := by injection e2
  subst this
  have e3 : nodesL L = (pre ++ [a]) ++ b :: post := by rw [e]; simp
  rw [nodes_at h (by rw [hp, hr]; exact hb) e3 hp.symm, hr]
  simp
/-- Planned ahead of all. -/
theorem plan_first {L : List Ins} {x b : Ins} {post : List Ins} (h : Ok (L ++ [x])) (e : nodesL L = b :: post) (hp : x.par = b.id) (hr : x.right = false) : nodesL (L ++ [x]) = x :: b :: post := by
  have hb : kidsL L b.id false = [] := bel_head L.length (h.init.1.deep (0, 0)) (by unfold nodesL at e; exact e)
  rw [nodes_at (pre := []) h (by rw [hp, hr]; exact hb) e hp.symm, hr]
  rfl
theorem plan_only {x : Ins} (h : Ok [x]) : nodesL [x] = [x] := by
  have h1 : Ok ([] ++ [x]) := h
  have := nodes_distinct h
  have hm : x ∈ nodesL [x] := (nodes_mem h).2 (List.mem_singleton.2 rfl)
  have hall : ∀ y ∈ nodesL [x], y = x := fun y hy => List.mem_singleton.1 ((nodes_mem h).1 hy)
  cases hn : nodesL [x] with
  | nil => rw [hn] at hm; cases hm
  | cons y r =>
    rw [hn] at this hall
    have hy := hall y (List.mem_cons.2 (.inl rfl))
    cases r with
    | nil => rw [hy]
    | cons z r =>
      have hz := hall z (by simp)
      exact absurd (by rw [hy, hz]) ((List.pairwise_cons.1 this).1 z (by simp))
end Go.Proofs.Ytejfdheiopejeaa
