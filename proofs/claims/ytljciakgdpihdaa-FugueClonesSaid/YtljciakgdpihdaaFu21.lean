/-
  Layer 15, the landed code: Clone. By an AI agent.
-/
import Derived.Test.YtljciakgdpihdaaFu20
import Derived.Test.YtljciakgdpihdaaFu4
namespace Go.Proofs.Ytljciakgdpihdaa
open Go Go.RowKit
set_option maxRecDepth 20000
theorem same_below' {w w' : World} (h : w' = w) : Below w.heap.size w w' := by rw [h]; exact Below.refl _ _
theorem hmake (n : Nat) (w : World) : (Instr.makeMap 72 (some (.int .i64 (n : Int)))).run Try.prog w = Result.ok (.map (some w.heap.size)) (w.alloc (.map #[] 0)) := by
  simp [Instr.makeMap, run_underlying Try.underlying72]
  rfl
def ptA (ad : IDt → Nat) : Option IDt → Option Addr
  | some i => some ⟨ad i, 0, none⟩
  | none => none
theorem ptI_ptr (ad : IDt → Nat) (o : Option IDt) : ptI ad o = .pointer (ptA ad o) := by cases o <;> rfl
/-- So many entries are copied: each element in a block of its own, its pointers as they were. -/
structure Copied (w : World) (T2 M2 it M clk kp : Nat) (ad : IDt → Nat) (ps : List (IDt × Nat)) (L : List Ins) (G : List IDt) (ad2 : IDt → Nat) (done : List (IDt × Nat)) (seen : Array Nat) (wr : World) : Prop where
  tree : wr.heap[T2]? = some (.cells #[.map (some M2), .int .i64 (kp : Int)] 74)
  iter : wr.heap[it]? = some (.mapIter (some M) clk seen clk)
  seen_ : seen.toList = done.map Prod.snd
  map : ∃ ps2 clk2, MapIs wr M2 ad2 ps2 clk2 ∧ ps2.map Prod.fst = done.map Prod.fst
  el : ∀ p ∈ done, wr.heap[ad2 p.1]? = some (recC ad p.1 (recT L G p.1))
  new : ∀ p ∈ done, w.heap.size ≤ ad2 p.1 ∧ ad2 p.1 ≠ T2 ∧ ad2 p.1 ≠ M2 ∧ ad2 p.1 ≠ it
  sub : ∀ p ∈ done, p ∈ ps
  base : Below w.heap.size w wr
theorem key_one : ∀ {ps : List (IDt × Nat)}, (ps.map Prod.fst).Nodup → ∀ {p q : IDt × Nat}, p ∈ ps → q ∈ ps → p.1 = q.1 → p = q
  | [], _, _, _, h, _, _ => by cases h
  | r :: ps, hn, p, q, hp, hq, e => by
    rw [List.map_cons, List.nodup_cons] at hn
    rcases List.mem_cons.1 hp with h1 | h1 <;> rcases List.mem_cons.1 hq with h2 | h2
    · rw [h1, h2]
    · exact absurd (List.mem_map.2 ⟨q, h2, by rw [← e, h1]⟩) hn.1
    · exact absurd (List.mem_map.2 ⟨p, h1, by rw [e, h2]⟩) hn.1
    · exact key_one hn.2 h1 h2 e
theorem born_one : ∀ {ps : List (IDt × Nat)}, (ps.map Prod.snd).Nodup → ∀ {p q : IDt × Nat}, p ∈ ps → q ∈ ps → p.2 = q.2 → p = q
  | [], _, _, _, h, _, _ => by cases h
  | r :: ps, hn, p, q, hp, hq, e => by
    rw [List.map_cons, List.nodup_cons] at hn
    rcases List.mem_cons.1 hp with h1 | h1 <;> rcases List.mem_cons.1 hq with h2 | h2
    · rw [h1, h2]
    · exact absurd (List.mem_map.2 ⟨q, h2, by rw [← e, h1]⟩) hn.1
    · exact absurd (List.mem_map.2 ⟨p, h1, by rw [e, h2]⟩) hn.1
    · exact born_one hn.2 h1 h2 e
theorem nodup_of {α β : Type} (f : α → β) : ∀ {l : List α}, (l.map f).Nodup → l.Nodup
  | [], _ => List.nodup_nil
  | a :: l, h => by
    rw [List.map_cons, List.nodup_cons] at h
    exact List.nodup_cons.2 ⟨fun ha => h.1 (List.mem_map.2 ⟨a, ha, rfl⟩), nodup_of f h.2⟩
theorem nodup_len {α : Type} {l m : List α} (hl : l.Nodup) (hm : m.Nodup) (h1 : ∀ a ∈ l, a ∈ m) (h2 : ∀ a ∈ m, a ∈ l) : l.length = m.length :=
  ((List.perm_ext_iff_of_nodup hl hm).2 fun a => ⟨h1 a, h2 a⟩).length_eq
theorem rec_inj {wr : World} {b : Nat} {ad ad' : IDt → Nat} {i j : IDt} {D D' : Rec} (h : wr.heap[b]? = some (recC ad i D)) (h' : wr.heap[b]? = some (recC ad' j D')) : i = j := by
  rw [h] at h'
  unfold recC at h'
  simp only [Option.some.injEq, Obj.cells.injEq, Array.mk.injEq, List.cons.injEq, Value.int.injEq, true_and] at h'
  exact Prod.ext h'.1.1 h'.1.2.1
theorem Copied.fresh {w : World} {T2 M2 it M clk kp : Nat} {ad : IDt → Nat} {ps : List (IDt × Nat)} {L : List Ins} {G : List IDt} {ad2 : IDt → Nat} {done : List (IDt × Nat)} {seen : Array Nat} {wr : World} (h : Copied w T2 M2 it M clk kp ad ps L G ad2 done seen wr) (hk : (ps.map Prod.fst).Nodup) {p : IDt × Nat} (hp : p ∈ ps) (hs : seen.contains p.2 = false) : p.1 ∉ done.map Prod.fst := by
  intro hin
  obtain ⟨q, hq, e⟩ := List.mem_map.1 hin
  have hqp := key_one hk (h.sub q hq) hp e
  subst hqp
  have : q.2 ∈ seen.toList := by rw [h.seen_]; exact List.mem_map.2 ⟨q, hq, rfl⟩
  rw [Array.contains_eq_mem] at hs
  exact absurd (Array.mem_def.2 this) (of_decide_eq_false hs)
theorem Copied.step {w : World} {T2 M2 it M clk kp : Nat} {ad : IDt → Nat} {ps : List (IDt × Nat)} {L : List Ins} {G : List IDt} {ad2 : IDt → Nat} {done : List (IDt × Nat)} {seen : Array Nat} {wr X : World} (h : Copied w T2 M2 it M clk kp ad ps L G ad2 done seen wr) {p : IDt × Nat} {be : Nat} (hp : p ∈ ps) (hn : p.1 ∉ done.map Prod.fst)
    (hd : T2 ≠ M2 ∧ T2 ≠ it ∧ M2 ≠ it ∧ w.heap.size ≤ M2 ∧ w.heap.size ≤ it) (hbe : wr.heap.size ≤ be) (hit : X.heap[it]? = some (.mapIter (some M) clk (seen.push p.2) clk)) (hm : ∃ ps2 clk2, MapIs X M2 (adSet ad2 p.1 be) ps2 clk2 ∧ ps2.map Prod.fst = (done ++ [p]).map Prod.fst)
    (hel : X.heap[be]? = some (recC ad p.1 (recT L G p.1))) (ho : ∀ k, k < wr.heap.size → k ≠ it → k ≠ M2 → X.heap[k]? = wr.heap[k]?) (hb : Below w.heap.size w X) : Copied w T2 M2 it M clk kp ad ps L G (adSet ad2 p.1 be) (done ++ [p]) (seen.push p.2) X := by
  have hne : ∀ q ∈ done, q.1 ≠ p.1 := fun q hq e => hn (List.mem_map.2 ⟨q, hq, e⟩)
  have hlt : T2 < wr.heap.size := lt_of_heap h.tree
  have hltI : it < wr.heap.size := lt_of_heap h.iter
  obtain ⟨ps2, clk2, hm2, _⟩ := h.map
  have hltM := hm2.lt
  refine ⟨(ho T2 hlt hd.2.1 hd.1).trans h.tree, hit, by rw [Array.toList_push, h.seen_]; simp, hm, fun q hq => ?_, fun q hq => ?_, fun q hq => ?_, hb⟩
  · rcases List.mem_append.1 hq with hq | hq
    · rw [adSet_other (hne q hq), ho _ (lt_of_heap (h.el q hq)) (h.new q hq).2.2.2 (h.new q hq).2.2.1]
      exact h.el q hq
    · rw [List.mem_singleton] at hq
      rw [hq, adSet_same]
      exact hel
  · rcases List.mem_append.1 hq with hq | hq
    · rw [adSet_other (hne q hq)]
      exact h.new q hq
    · rw [List.mem_singleton] at hq
      rw [hq, adSet_same]
      exact ⟨Nat.le_trans h.base.size hbe, by omega, by omega, by omega⟩
  · rcases List.mem_append.1 hq with hq | hq
    · exact h.sub q hq
    · rw [List.mem_singleton] at hq
      rw [hq]
      exact hp
/-- So many elements point into the new tree. -/
structure Fixed (w : World) (T2 M2 it2 clk2 kp : Nat) (ad ad2 : IDt → Nat) (ps2 : List (IDt × Nat)) (L : List Ins) (G : List IDt) (done : List (IDt × Nat)) (seen : Array Nat) (wr : World) : Prop where
  tree : wr.heap[T2]? = some (.cells #[.map (some M2), .int .i64 (kp : Int)] 74)
  iter : wr.heap[it2]? = some (.mapIter (some M2) clk2 seen clk2)
  seen_ : seen.toList = done.map Prod.snd
  map : MapIs wr M2 ad2 ps2 clk2
  new_ : ∀ p ∈ done, wr.heap[ad2 p.1]? = some (recC ad2 p.1 (recT L G p.1))
  old_ : ∀ p ∈ ps2, p ∉ done → wr.heap[ad2 p.1]? = some (recC ad p.1 (recT L G p.1))
  sub : ∀ p ∈ done, p ∈ ps2
  base : Below w.heap.size w wr
theorem el_id {w : World} {b : Nat} {ad : IDt → Nat} {i : IDt} {D : Rec} (h : w.heap[b]? = some (recC ad i D)) : w.cell? ⟨b, 0, none⟩ = some (.int .i64 i.1) ∧ w.cell? ⟨b, 1, none⟩ = some (.int .i64 i.2) := by
  unfold recC at h
  obtain ⟨e0, e1, _⟩ := el_cells h
  exact ⟨e0, e1⟩
/-- The new tree's own of what an element of the old one pointed to. -/
theorem own_ptr {wz : World} {T M T2 M2 clk2 kp : Nat} {ad ad2 : IDt → Nat} {ps2 : List (IDt × Nat)} {L : List Ins} {G : List IDt} (h : TreeH wz T M ad L G) (ht : wz.heap[T2]? = some (.cells #[.map (some M2), .int .i64 (kp : Int)] 74)) (hm : MapIs wz M2 ad2 ps2 clk2) (hk : ∀ i, keyT L i → i ∈ ps2.map Prod.fst)
    (o : Option IDt) (ho : ∀ j, o = some j → keyT L j) : Calls Try.prog 47 #[pB T2, .pointer (ptA ad o)] wz fun e w' => e = .returned (.pointer (ptA ad2 o)) ∧ Below wz.heap.size wz w' := by
  cases o with
  | none => exact (own_nil T2 wz).mono fun e w' ⟨h1, h2⟩ => ⟨h1, same_below' h2⟩
  | some j =>
    have hj := ho j rfl
    have hr := h.recs hj
    obtain ⟨x0, x1⟩ := el_id hr
    refine own_any (i := j) (M := M2) (by simp [World.cell?, ht]) x0 x1 (lt_of_heap ht) (lt_of_heap hr) fun w' hb => ?_
    have h2 := look_run (hm.keep (hb.block M2 hm.lt)) j
    unfold ptK at h2
    rw [if_pos (hk j hj)] at h2
    exact h2
set_option maxHeartbeats 12800000 in
theorem clone_any {w : World} {T M : Nat} {ad : IDt → Nat} {L : List Ins} {G : List IDt} (h : TreeH w T M ad L G) :
    Calls Try.prog 31 #[pB T] w fun e w' => ∃ T' M' ad', e = .returned (pB T') ∧ TreeH w' T' M' ad' L G ∧ (∀ k, inT T' M' ad' L k → w.heap.size ≤ k) ∧ Below w.heap.size w w' := by
  obtain ⟨g, eg⟩ : ∃ g, g = w.heap.size := ⟨_, rfl⟩
  obtain ⟨kp, ekp⟩ : ∃ k, k = (liveL G L).length := ⟨_, rfl⟩
  obtain ⟨ps, clk, hmp, hkeys, hlen⟩ := h.map
  obtain ⟨np, enp⟩ : ∃ k, k = ps.length := ⟨_, rfl⟩
  have hin : ∀ k, inT T M ad L k → k < w.heap.size := fun k hk => h.lt hk
  have HS := Lib.hid (fun wz (hz : Below w.heap.size w wz) => show wz.cell? ⟨T, 0, none⟩ = some (.map (some M)) ∧ wz.cell? ⟨T, 1, none⟩ = some (.int .i64 (kp : Int)) ∧ MapIs wz M ad ps clk ∧ ps.length = np from by
    have h2 := h.below hz
    exact ⟨h2.cells.1, by rw [ekp]; exact h2.cells.2, hmp.keep (hz.block M (hin M (.inr (.inl rfl)))), enp.symm⟩)
  have HG := Lib.hid (show w.heap.size = g from eg.symm)
  have HH := Lib.hid (And.intro h (And.intro hkeys (And.intro hlen (And.intro ekp enp))))
  clear eg ekp enp hmp hkeys hlen hin h
  go_enter Try.func31, Try.ntmps31
  go_upto_region 3 with fail
  refine wp_region_par 12 16 [some 11, some 12, some 13, some 14, some 15, some 16, some 17, some 18, some 19, some 20, some 21, some 22] [5, 11] [some (.pointer (some ⟨T, 0, none⟩)), some (.pointer (some ⟨T, 0, none⟩)), some (.pointer (some ⟨T, 0, none⟩)), some (.map (some M)), some (.int .i64 (np : Int)), some (.map (some g)), some (.pointer (some ⟨T, 0, none⟩)), some (.pointer (some ⟨T, 0, none⟩)), some (.pointer (some ⟨T, 1, none⟩)), some (.int .i64 (kp : Int)), some (.agg #[.map (some g), .int .i64 (kp : Int)]), some (.pointer (some ⟨g + 1, 0, none⟩))]
    (fun Lb _ wz => (Lb 5 = false → Lb 11 = false ∧ wz.heap.size = g) ∧ (Lb 5 = true → Lb 11 = false → wz.heap.size = g + 1 ∧ wz.heap[g]? = some (.map #[] 0)) ∧ (Lb 11 = true → wz.heap.size = g + 2 ∧ wz.heap[g]? = some (.map #[] 0) ∧ wz.heap[g + 1]? = some (.cells #[.map (some g), .int .i64 (kp : Int)] 74)) ∧ Below w.heap.size w wz) (by kernel_rfl) (by kernel_rfl)
    (fun _ => ⟨fun _ => ⟨rfl, HG.out⟩, fun h => absurd h (by decide), fun h => absurd h (by decide), (Below.refl w.heap.size w).drew⟩) (fun u => by simp only [List.filterMap_cons, List.filterMap_nil, puts, List.foldl_cons, List.foldl_nil]; go_simp; exact rfl) ?_ ?_
  · simp only [List.take_succ_cons, List.take_zero]
    refine Par.soft rfl rfl (.pointer (some ⟨T, 0, none⟩)) rfl (fun u w Lb Vb hT hh => ⟨rfl, by go_simp⟩) ?_
    refine Par.soft rfl rfl (.pointer (some ⟨T, 0, none⟩)) rfl (fun u w Lb Vb hT hh => ⟨rfl, by have d11 : u 11 = .pointer (some ⟨T, 0, none⟩) := hh.val 0 _ rfl rfl; rw [d11]; go_simp⟩) ?_
    refine Par.soft rfl rfl (.pointer (some ⟨T, 0, none⟩)) rfl (fun u w Lb Vb hT hh => ⟨rfl, by have d12 : u 12 = .pointer (some ⟨T, 0, none⟩) := hh.val 1 _ rfl rfl; rw [d12]; go_simp⟩) ?_
    refine Par.soft rfl rfl (.map (some M)) rfl (fun u w Lb Vb hT hh => ⟨rfl, by have d13 : u 13 = .pointer (some ⟨T, 0, none⟩) := hh.val 2 _ rfl rfl; rw [d13]; obtain ⟨k0, k1, k2⟩ := HS.out w hT.2.2.2; go_simp⟩) ?_
    refine Par.soft rfl rfl (.int .i64 (np : Int)) rfl (fun u w Lb Vb hT hh => ⟨rfl, by have d14 : u 14 = .map (some M) := hh.val 3 _ rfl rfl; rw [d14]; obtain ⟨k0, k1, k2⟩ := HS.out w hT.2.2.2; have kl := map_len k2.1 3; rw [k2.2] at kl; go_simp⟩) ?_
    refine Par.hard rfl (fun u wz Lb Vb hT hh => ?_) ?_
    · have d15 : u 15 = .int .i64 (np : Int) := hh.val 4 _ rfl rfl
      rw [d15]
      obtain ⟨b11, hs⟩ := hT.1 (hh.not_ 5 (by rfl))
      have hm : (Instr.makeMap 72 (some (.int .i64 (np : Int)))).run Try.prog wz = .ok (.map (some g)) (wz.alloc (.map #[] 0)) := by rw [← hs]; exact hmake np wz
      have hb := (Below.refl wz.heap.size wz).alloc (Nat.le_refl _) (.map #[] 0)
      have h1 := (MapKept.heap_alloc wz (.map #[] 0)).1
      rw [hs] at h1
      refine StepP.of rfl (StepC.run (.map (some g)) (wz.alloc (.map #[] 0)) rfl (by go_simp) ⟨fun c hc => by simpa using hc, fun h => absurd h (by simp [lset]), fun _ _ => ⟨by simp [hs], h1⟩, fun h => absurd h (by simp [lset, b11]), hT.2.2.2.trans (hb.mono hT.2.2.2.size)⟩)
    refine Par.soft rfl rfl (.pointer (some ⟨T, 0, none⟩)) rfl (fun u w Lb Vb hT hh => ⟨rfl, by go_simp⟩) ?_
    refine Par.soft rfl rfl (.pointer (some ⟨T, 0, none⟩)) rfl (fun u w Lb Vb hT hh => ⟨rfl, by have d17 : u 17 = .pointer (some ⟨T, 0, none⟩) := hh.val 6 _ rfl rfl; rw [d17]; go_simp⟩) ?_
    refine Par.soft rfl rfl (.pointer (some ⟨T, 1, none⟩)) rfl (fun u w Lb Vb hT hh => ⟨rfl, by have d18 : u 18 = .pointer (some ⟨T, 0, none⟩) := hh.val 7 _ rfl rfl; rw [d18]; go_simp⟩) ?_
    refine Par.soft rfl rfl (.int .i64 (kp : Int)) rfl (fun u w Lb Vb hT hh => ⟨rfl, by have d19 : u 19 = .pointer (some ⟨T, 1, none⟩) := hh.val 8 _ rfl rfl; rw [d19]; obtain ⟨k0, k1, k2⟩ := HS.out w hT.2.2.2; go_simp⟩) ?_
    refine Par.soft rfl rfl (.agg #[.map (some g), .int .i64 (kp : Int)]) rfl (fun u w Lb Vb hT hh => ⟨rfl, by have d16 : u 16 = .map (some g) := hh.val 5 _ rfl rfl; have d20 : u 20 = .int .i64 (kp : Int) := hh.val 9 _ rfl rfl; rw [d16, d20]; go_simp⟩) ?_
    refine Par.hard rfl (fun u wz Lb Vb hT hh => ?_) Par.nil
    · have d21 : u 21 = .agg #[.map (some g), .int .i64 (kp : Int)] := hh.val 10 _ rfl rfl
      rw [d21]
      obtain ⟨hs, hm⟩ := hT.2.1 (hh.been 5 (by rfl) rfl) (hh.not_ 11 (by rfl))
      have hb := (Below.refl wz.heap.size wz).alloc (Nat.le_refl _) (.cells #[.map (some g), .int .i64 (kp : Int)] 74)
      have h1 := (MapKept.heap_alloc wz (.cells #[.map (some g), .int .i64 (kp : Int)] 74)).1
      rw [hs] at h1
      refine StepP.of rfl (StepC.run (.pointer (some ⟨g + 1, 0, none⟩)) (wz.alloc (.cells #[.map (some g), .int .i64 (kp : Int)] 74)) rfl (by go_simp) ⟨fun c hc => by simpa using hc, fun h => absurd (hh.been 5 (by rfl) rfl) (by simpa [lset] using h), fun _ h => absurd h (by simp [lset]), fun _ => ⟨by simp [hs], (hb.block g (by omega)).trans hm, h1⟩, hT.2.2.2.trans (hb.mono hT.2.2.2.size)⟩)
  rintro u v1 hv ⟨Lb, Vb, ⟨_, _, t2, t3⟩, hl⟩
  obtain ⟨hs1, hM1, hT1⟩ := t2 (hl 11 (by decide) rfl).1
  have d22 : u 22 = .pointer (some ⟨g + 1, 0, none⟩) := hv 11 _ (by decide) rfl
  rw [d22]
  have HC1 := Lib.hid (And.intro hs1 (And.intro hM1 (And.intro hT1 t3)))
  obtain ⟨k0, k1, k2⟩ := HS.out v1 t3
  have hrg := run_range_map v1 72 31 69 M _ _ Try.underlying72 k2.1.here
  obtain ⟨v2, ev2⟩ : ∃ v, v = v1.alloc (.mapIter (some M) clk #[] clk) := ⟨_, rfl⟩
  obtain ⟨it, eit⟩ : ∃ i, i = v1.heap.size := ⟨_, rfl⟩
  rw [← ev2, ← eit] at hrg
  have HV2 := Lib.hid (And.intro ev2 eit)
  clear hv hl t2 t3 d22 hs1 hM1 hT1 k1 k2 ev2 eit
  simp only [List.drop_succ_cons, List.drop_zero]
  go_wp2_with fail
  have hb2 : Below v1.heap.size v1 v2 := by rw [HV2.out.1]; exact (Below.refl _ _).alloc (Nat.le_refl _) _
  have hit0 : v2.heap[it]? = some (.mapIter (some M) clk #[] clk) := by rw [HV2.out.1, HV2.out.2]; exact (MapKept.heap_alloc v1 _).1
  have HD := Lib.hid (show g + 1 ≠ g ∧ g + 1 ≠ it ∧ g ≠ it ∧ w.heap.size ≤ g ∧ w.heap.size ≤ it from by have h1 := HV2.out.2; have h2 := HC1.out.1; have h3 := HG.out; omega)
  have HC2 := Lib.hid (show Copied w (g + 1) g it M clk kp ad ps L G (fun _ => 0) [] #[] v2 from
    ⟨(hb2.block (g + 1) (by have := HC1.out.1; omega)).trans HC1.out.2.2.1, hit0, rfl, ⟨[], 0, ⟨(hb2.block g (by have := HC1.out.1; omega)).trans HC1.out.2.1, by simp, by simp, fun p hp => nomatch hp⟩, rfl⟩, fun p hp => (nomatch hp), fun p hp => (nomatch hp), fun p hp => (nomatch hp), HC1.out.2.2.2.trans (hb2.mono HC1.out.2.2.2.size)⟩)
  clear hb2 hit0 hrg
  go_loopg [28] ((leftOf (ps.map (entE ad)).toArray #[]).size) (fun k _ wr => ∃ ad2 done seen, (leftOf (ps.map (entE ad)).toArray seen).size = k ∧ Copied w (g + 1) g it M clk kp ad ps L G ad2 done seen wr)
  case atStart => exact ⟨_, [], #[], rfl, HC2.out⟩
  case round =>
    obtain ⟨ad2, done, seen, hk, hc⟩ := hrel
    have hM := (HS.out wr hc.base).2.2.1
    rcases run_next_at (P := Try.prog) wr 0 it M clk clk seen _ clk hc.iter hM.here (fun x hx => by
        obtain ⟨p, hp, rfl⟩ := List.mem_map.1 (show x ∈ ps.map (entE ad) from hx)
        exact hM.old p hp) (Nat.le_refl _) with ⟨h0, hnx⟩ | ⟨e, he, w1, hw1, hnx⟩
    · have hall : ∀ p ∈ ps, p ∈ done := fun p hp => by
        have h1 := all_seen _ _ h0 (entE ad p) (show entE ad p ∈ ps.map (entE ad) from List.mem_map.2 ⟨p, hp, rfl⟩)
        have h2 : p.2 ∈ done.map Prod.snd := by
          rw [← hc.seen_]
          rw [Array.contains_eq_mem] at h1
          exact Array.mem_def.1 (of_decide_eq_true h1)
        obtain ⟨q, hq, e⟩ := List.mem_map.1 h2
        rw [← born_one hM.borns (hc.sub q hq) hp e]
        exact hq
      obtain ⟨ps2, clk2, hm2, hk2⟩ := hc.map
      have hkeys2 : ∀ i, i ∈ ps2.map Prod.fst ↔ keyT L i := fun i => by
        rw [hk2]
        refine Iff.trans ⟨fun h => ?_, fun h => ?_⟩ (HH.out.2.1 i)
        · obtain ⟨q, hq, e⟩ := List.mem_map.1 h
          exact List.mem_map.2 ⟨q, hc.sub q hq, e⟩
        · obtain ⟨q, hq, e⟩ := List.mem_map.1 h
          exact List.mem_map.2 ⟨q, hall q hq, e⟩
      have hlen2 : ps2.length = L.length + 1 := by
        have h1 : ps2.length = done.length := by
          have h2 := congrArg List.length hk2
          rw [List.length_map, List.length_map] at h2
          exact h2
        have hdn : done.Nodup := by
          have h2 := hm2.keys
          rw [hk2] at h2
          exact nodup_of _ h2
        have hpn : ps.Nodup := nodup_of _ hM.keys
        rw [h1, (nodup_len hdn hpn hc.sub hall)]
        exact HH.out.2.2.1
      have hold2 : ∀ p ∈ ps2, wr.heap[ad2 p.1]? = some (recC ad p.1 (recT L G p.1)) ∧ w.heap.size ≤ ad2 p.1 ∧ ad2 p.1 ≠ g + 1 ∧ ad2 p.1 ≠ g := fun p hp => by
        have h1 : p.1 ∈ done.map Prod.fst := by rw [← hk2]; exact List.mem_map.2 ⟨p, hp, rfl⟩
        obtain ⟨q, hq, e⟩ := List.mem_map.1 h1
        rw [← e]
        exact ⟨hc.el q hq, (hc.new q hq).1, (hc.new q hq).2.1, (hc.new q hq).2.2.1⟩
      have htree := hc.tree
      have c0 : wr.cell? ⟨g + 1, 0, none⟩ = some (.map (some g)) := by simp [World.cell?, htree]
      have hrg := run_range_map wr 72 31 69 g _ _ Try.underlying72 hm2.here
      obtain ⟨v3, ev3⟩ : ∃ v, v = wr.alloc (.mapIter (some g) clk2 #[] clk2) := ⟨_, rfl⟩
      obtain ⟨it2, eit2⟩ : ∃ i, i = wr.heap.size := ⟨_, rfl⟩
      rw [← ev3, ← eit2] at hrg
      have hb3 : Below wr.heap.size wr v3 := by rw [ev3]; exact (Below.refl _ _).alloc (Nat.le_refl _) _
      have hit2 : v3.heap[it2]? = some (.mapIter (some g) clk2 #[] clk2) := by rw [ev3, eit2]; exact (MapKept.heap_alloc wr _).1
      have HF := Lib.hid (show Fixed w (g + 1) g it2 clk2 kp ad ad2 ps2 L G [] #[] v3 from
        ⟨(hb3.block (g + 1) (lt_of_heap htree)).trans htree, hit2, rfl, hm2.keep (hb3.block g hm2.lt), fun p hp => (nomatch hp), fun p hp _ => (hb3.block _ (lt_of_heap (hold2 p hp).1)).trans (hold2 p hp).1, fun p hp => (nomatch hp), hc.base.trans (hb3.mono hc.base.size)⟩)
      have HD2 := Lib.hid (show g + 1 < it2 ∧ g < it2 ∧ (∀ p ∈ ps2, w.heap.size ≤ ad2 p.1 ∧ ad2 p.1 ≠ g + 1 ∧ ad2 p.1 ≠ g ∧ ad2 p.1 < it2) ∧ w.heap.size ≤ it2 from
        ⟨by rw [eit2]; exact lt_of_heap htree, by rw [eit2]; exact hm2.lt, fun p hp => ⟨(hold2 p hp).2.1, (hold2 p hp).2.2.1, (hold2 p hp).2.2.2, by rw [eit2]; exact lt_of_heap (hold2 p hp).1⟩, by rw [eit2]; exact hc.base.size⟩)
      have HKY := Lib.hid (And.intro hkeys2 hlen2)
      have HVV := Lib.hid (And.intro ev3 eit2)
      clear ev3 eit2
      clear hall hkeys2 hlen2 hold2 hm2 hk2 htree hb3 hit2 h0 hk hc hM
      go_wp2_with fail
      try rw [← HVV.out.1]
      try rw [← HVV.out.2]
      clear hrg hnx c0 HVV
      go_loopg [46] ((leftOf (ps2.map (entE ad2)).toArray #[]).size) (fun k _ wr => ∃ done seen, (leftOf (ps2.map (entE ad2)).toArray seen).size = k ∧ Fixed w (g + 1) g it2 clk2 kp ad ad2 ps2 L G done seen wr)
      case atStart => exact ⟨[], #[], rfl, HF.out⟩
      case round =>
        obtain ⟨done, seen, hk, hc⟩ := hrel
        have hM := hc.map
        rcases run_next_at (P := Try.prog) wr 0 it2 g clk2 clk2 seen _ clk2 hc.iter hM.here (fun x hx => by
            obtain ⟨p, hp, rfl⟩ := List.mem_map.1 (show x ∈ ps2.map (entE ad2) from hx)
            exact hM.old p hp) (Nat.le_refl _) with ⟨h0, hnx⟩ | ⟨e, he, w1, hw1, hnx⟩
        · have hall : ∀ p ∈ ps2, p ∈ done := fun p hp => by
            have h1 := all_seen _ _ h0 (entE ad2 p) (show entE ad2 p ∈ ps2.map (entE ad2) from List.mem_map.2 ⟨p, hp, rfl⟩)
            have h2 : p.2 ∈ done.map Prod.snd := by
              rw [← hc.seen_]
              rw [Array.contains_eq_mem] at h1
              exact Array.mem_def.1 (of_decide_eq_true h1)
            obtain ⟨q, hq, e⟩ := List.mem_map.1 h2
            rw [← born_one hM.borns (hc.sub q hq) hp e]
            exact hq
          have HE := Lib.hid (show TreeH wr (g + 1) g ad2 L G ∧ (∀ k, inT (g + 1) g ad2 L k → w.heap.size ≤ k) ∧ Below w.heap.size w wr from by
            have hh := HH.out
            have hat : ∀ i, keyT L i → ∃ p ∈ ps2, p.1 = i := fun i hi => by
              obtain ⟨p, hp, e⟩ := List.mem_map.1 ((HKY.out.1 i).2 hi)
              exact ⟨p, hp, e⟩
            refine ⟨TreeH.of_recs hh.1.ok (by rw [← hh.2.2.2.1]; exact hc.tree) ⟨ps2, clk2, hc.map, HKY.out.1, HKY.out.2⟩ (fun i hi => ?_) hh.1.gone hh.1.once, fun k hk => ?_, hc.base⟩
            · obtain ⟨p, hp, rfl⟩ := hat i hi
              exact hc.new_ p (hall p hp)
            · have hg := HG.out
              rcases hk with rfl | rfl | rfl | ⟨x, hx, rfl⟩
              · omega
              · omega
              · obtain ⟨p, hp, e⟩ := hat (0, 0) (.inl rfl)
                rw [← e]
                exact (HD2.out.2.2.1 p hp).1
              · obtain ⟨p, hp, e⟩ := hat x.id (.inr ⟨x, hx, rfl⟩)
                rw [← e]
                exact (HD2.out.2.2.1 p hp).1)
          clear hall h0 hk hc hM
          go_wp2_with fail
          go_ret
          exact ⟨g + 1, g, ad2, rfl, HE.out.1, HE.out.2.1, HE.out.2.2⟩
        · obtain ⟨he1, he2⟩ := mem_left he
          obtain ⟨p, hp, rfl⟩ := List.mem_map.1 (show e ∈ ps2.map (entE ad2) from he1)
          have hsh := left_shrinks _ _ _ he
          obtain ⟨X1, eX1⟩ : ∃ X, X = putB w1 it2 (.mapIter (some g) clk2 (seen.push p.2) clk2) := ⟨_, rfl⟩
          have hfr : p ∉ done := fun hd => by
            have h5 : p.2 ∈ seen.toList := by rw [hc.seen_]; exact List.mem_map.2 ⟨p, hd, rfl⟩
            have h6 : seen.contains p.2 = false := he2
            rw [Array.contains_eq_mem] at h6
            exact absurd (Array.mem_def.2 h5) (of_decide_eq_false h6)
          have hsz1 : X1.heap.size = wr.heap.size := by
            rw [eX1, putB_size]
            rcases hw1 with rfl | rfl <;> rfl
          have hw1h : w1.heap = wr.heap := by rcases hw1 with rfl | rfl <;> rfl
          have hltI : it2 < wr.heap.size := lt_of_heap hc.iter
          have hitX : X1.heap[it2]? = some (.mapIter (some g) clk2 (seen.push p.2) clk2) := by rw [eX1]; exact putB_same (by rw [hw1h]; exact hltI)
          have hoX : ∀ k, k ≠ it2 → X1.heap[k]? = wr.heap[k]? := fun k hk => by rw [eX1, putB_other hk, hw1h]
          have hbX : Below w.heap.size w X1 := by
            have h1 : Below w.heap.size w w1 := hc.base.trans (by rcases hw1 with rfl | rfl; exact Below.refl _ _; exact (Below.refl _ _).drew)
            refine h1.trans ?_
            rw [eX1]
            exact ⟨rfl, rfl, rfl, by rw [putB_size]; exact Nat.le_refl _, fun k hk => putB_other (by have := HD2.out.2.2.2; omega)⟩
          have hMX : MapIs X1 g ad2 ps2 clk2 := hM.keep (hoX g (by have := HD2.out.2.1; omega))
          obtain ⟨be, ebe⟩ : ∃ b, b = ad2 p.1 := ⟨_, rfl⟩
          replace hnx : (Instr.next (.pointer (some ⟨it2, 0, none⟩)) false 0).run Try.prog wr = .ok (.tuple #[.bool true, idV p.1, pB be]) X1 := by rw [eX1, ebe]; exact hnx
          have hen : (Instr.entry (.pointer (some ⟨it2, 0, none⟩))).run Try.prog X1 = .ok (.tuple #[idV p.1, pB be]) X1 := by
            rw [ebe]
            exact run_entry_at X1 it2 g clk2 seen _ clk2 (entE ad2 p) hitX hMX.here (show entE ad2 p ∈ ps2.map (entE ad2) from List.mem_map.2 ⟨p, hp, rfl⟩) (by
              show ((ps2.map (entE ad2)).map (·.born)).Nodup
              rw [List.map_map]
              exact hMX.borns)
          have hbed := HD2.out.2.2.1 p hp
          rw [← ebe] at hbed
          have hbx : be < X1.heap.size := by omega
          have hkp : keyT L p.1 := (HKY.out.1 p.1).1 (List.mem_map.2 ⟨p, hp, rfl⟩)
          have hrec : X1.heap[be]? = some (recC ad p.1 (recT L G p.1)) := by rw [hoX be (by omega), ebe]; exact hc.old_ p hp hfr
          obtain ⟨D, eD⟩ : ∃ D, D = recT L G p.1 := ⟨_, rfl⟩
          rw [← eD] at hrec
          unfold recC at hrec
          rw [ptI_ptr, ptI_ptr, ptI_ptr, ptI_ptr] at hrec
          have hkD : ∀ j, (D.par = some j ∨ D.next = some j ∨ D.left = some j ∨ D.rights = some j) → keyT L j := fun j hj => recs_key HH.out.1.ok hkp (by rw [← eD]; exact hj)
          have hown : ∀ (o : Option IDt), (∀ j, o = some j → keyT L j) → ∀ wz, OutF (fun k => k = be) X1 wz → Calls Try.prog 47 #[pB (g + 1), .pointer (ptA ad o)] wz fun e w' => e = .returned (.pointer (ptA ad2 o)) ∧ Below wz.heap.size wz w' := fun o ho wz hz =>
            own_ptr (clk2 := clk2) (HH.out.1.keep fun k hk => by
              have h7 := HH.out.1.lt hk
              exact (hz.block k (by have := hbX.size; omega) (by omega)).trans (hbX.block k h7)) ((hz.block (g + 1) (by have := HD2.out.1; omega) (Ne.symm hbed.2.1)).trans ((hoX (g + 1) (by have := HD2.out.1; omega)).trans hc.tree)) (hMX.keep (hz.block g (by have := HD2.out.2.1; omega) (Ne.symm hbed.2.2.1))) (fun i hi => (HKY.out.1 i).2 hi) o ho
          have HOW0 := Lib.hid (hown D.par fun j hj => hkD j (.inl hj))
          have HOW1 := Lib.hid (hown D.next fun j hj => hkD j (.inr (.inl hj)))
          have HOW2 := Lib.hid (hown D.left fun j hj => hkD j (.inr (.inr (.inl hj))))
          have HOW3 := Lib.hid (hown D.rights fun j hj => hkD j (.inr (.inr (.inr hj))))
          obtain ⟨va, eva⟩ : ∃ v, v = ptA ad D.par := ⟨_, rfl⟩
          obtain ⟨vb, evb⟩ : ∃ v, v = ptA ad D.next := ⟨_, rfl⟩
          obtain ⟨vc, evc⟩ : ∃ v, v = ptA ad D.left := ⟨_, rfl⟩
          obtain ⟨vd, evd⟩ : ∃ v, v = ptA ad D.rights := ⟨_, rfl⟩
          obtain ⟨va', eva'⟩ : ∃ v, v = ptA ad2 D.par := ⟨_, rfl⟩
          obtain ⟨vb', evb'⟩ : ∃ v, v = ptA ad2 D.next := ⟨_, rfl⟩
          obtain ⟨vc', evc'⟩ : ∃ v, v = ptA ad2 D.left := ⟨_, rfl⟩
          obtain ⟨vd', evd'⟩ : ∃ v, v = ptA ad2 D.rights := ⟨_, rfl⟩
          rw [← eva, ← eva'] at HOW0
          rw [← evb, ← evb'] at HOW1
          rw [← evc, ← evc'] at HOW2
          rw [← evd, ← evd'] at HOW3
          rw [← eva, ← evb, ← evc, ← evd] at hrec
          have HEX1 := Lib.hid hrec
          have HBE := Lib.hid hbx
          have HX := Lib.hid (And.intro hc (And.intro hp (And.intro hfr (And.intro hitX (And.intro hoX (And.intro hbX (And.intro hsz1 (And.intro hMX (And.intro ebe hbed)))))))))
          have HSH := Lib.hid (Nat.lt_of_lt_of_eq hsh hk)
          have HD' := Lib.hid (And.intro eD (And.intro eva' (And.intro evb' (And.intro evc' evd'))))
          clear hk hM he he1 he2 hp hsh hfr hw1 eX1 hsz1 hw1h hltI hitX hoX hbX hMX hrec eD eva evb evc evd eva' evb' evc' evd' hc hown hkD hkp hbed ebe hbx
          go_upto_region 12 with fail
          clear hnx hen
          have H12 := fun (Lb : Nat → Bool) (wz : World) (h1 : Lb 16 = false → wz.heap[be]? = some (elC p.1 D.rune D.gone (.pointer va) D.right (.pointer vb) (.pointer vc) (.pointer vd))) (h2 : Lb 16 = true → wz.heap[be]? = some (elC p.1 D.rune D.gone (.pointer va') D.right (.pointer vb) (.pointer vc) (.pointer vd))) => show wz.cell? ⟨be, 6, none⟩ = some (.pointer vb) from by
            cases hb : Lb 16 with
            | false =>
              obtain ⟨e0, e1, e2, e3, e4, e5, e6, e7, e8⟩ := el_cells (h1 hb)
              exact e6
            | true =>
              obtain ⟨e0, e1, e2, e3, e4, e5, e6, e7, e8⟩ := el_cells (h2 hb)
              exact e6
          refine wp_region_par 19 22 [some 50, some 51, some 52, some 53, some 54, some 55, some 56, some 57, some 58, some 59, some 60, some 61, some 62, some 63, some 64, some 65, none, some 66, some 67] [7, 13, 16] [some (.pointer (some ⟨be, 0, none⟩)), some (.pointer (some ⟨be, 0, none⟩)), some (.pointer (some ⟨g + 1, 0, none⟩)), some (.pointer (some ⟨be, 0, none⟩)), some (.pointer (some ⟨be, 0, none⟩)), some (.pointer (some ⟨be, 4, none⟩)), some (.pointer va), some (.pointer va'), some (.pointer (some ⟨g + 1, 0, none⟩)), some (.pointer (some ⟨be, 0, none⟩)), some (.pointer (some ⟨be, 0, none⟩)), some (.pointer (some ⟨be, 6, none⟩)), some (.pointer vb), some (.pointer vb'), some (.pointer (some ⟨be, 0, none⟩)), some (.pointer (some ⟨be, 4, none⟩)), none, some (.pointer (some ⟨be, 0, none⟩)), some (.pointer (some ⟨be, 6, none⟩))]
            (fun Lb _ wz => (Lb 16 = false → wz.heap[be]? = some (elC p.1 D.rune D.gone (.pointer va) D.right (.pointer vb) (.pointer vc) (.pointer vd))) ∧ (Lb 16 = true → wz.heap[be]? = some (elC p.1 D.rune D.gone (.pointer va') D.right (.pointer vb) (.pointer vc) (.pointer vd))) ∧ OutF (fun k => k = be) X1 wz) (by kernel_rfl) (by kernel_rfl)
            (fun _ => ⟨fun _ => HEX1.out, fun h => absurd h (by decide), OutF.of ((Below.refl _ _).drew)⟩) (fun u => by simp only [List.filterMap_cons, List.filterMap_nil, puts, List.foldl_cons, List.foldl_nil]; go_simp; exact rfl) ?_ ?_
          · simp only [List.take_succ_cons, List.take_zero]
            refine Par.soft rfl rfl (.pointer (some ⟨be, 0, none⟩)) rfl (fun u w Lb Vb hT hh => ⟨rfl, by go_simp⟩) ?_
            refine Par.soft rfl rfl (.pointer (some ⟨be, 0, none⟩)) rfl (fun u w Lb Vb hT hh => ⟨rfl, by go_simp⟩) ?_
            refine Par.soft rfl rfl (.pointer (some ⟨g + 1, 0, none⟩)) rfl (fun u w Lb Vb hT hh => ⟨rfl, by go_simp⟩) ?_
            refine Par.soft rfl rfl (.pointer (some ⟨be, 0, none⟩)) rfl (fun u w Lb Vb hT hh => ⟨rfl, by go_simp⟩) ?_
            refine Par.soft rfl rfl (.pointer (some ⟨be, 0, none⟩)) rfl (fun u w Lb Vb hT hh => ⟨rfl, by have d53 : u 53 = .pointer (some ⟨be, 0, none⟩) := hh.val 3 _ rfl rfl; rw [d53]; go_simp⟩) ?_
            refine Par.soft rfl rfl (.pointer (some ⟨be, 4, none⟩)) rfl (fun u w Lb Vb hT hh => ⟨rfl, by have d54 : u 54 = .pointer (some ⟨be, 0, none⟩) := hh.val 4 _ rfl rfl; rw [d54]; go_simp⟩) ?_
            refine Par.soft rfl rfl (.pointer va) rfl (fun u w Lb Vb hT hh => ⟨rfl, by have d55 : u 55 = .pointer (some ⟨be, 4, none⟩) := hh.val 5 _ rfl rfl; rw [d55]; obtain ⟨e0, e1, e2, e3, e4, e5, e6, e7, e8⟩ := el_cells (hT.1 (hh.not_ 16 (by rfl))); go_simp⟩) ?_
            refine Par.hard rfl (fun u wz Lb Vb hT hh => ?_) ?_
            · have d52 : u 52 = .pointer (some ⟨g + 1, 0, none⟩) := hh.val 2 _ rfl rfl
              have d56 : u 56 = .pointer va := hh.val 6 _ rfl rfl
              rw [d52, d56]
              refine StepP.of rfl (StepC.call 47 #[pB (g + 1), .pointer va] rfl (by go_simp) ((HOW0.out wz hT.2.2).mono ?_))
              rintro z w' ⟨rfl, hb⟩
              have hlt : be < wz.heap.size := Nat.lt_of_lt_of_le HBE.out hT.2.2.size
              exact ⟨_, rfl, fun c hc => by simpa using hc, fun h => (hb.block be hlt).trans (hT.1 (by simpa [lset] using h)), fun h => (hb.block be hlt).trans (hT.2.1 (by simpa [lset] using h)), hT.2.2.trans (OutF.of hb) (fun n hn => .inl hn)⟩
            refine Par.soft rfl rfl (.pointer (some ⟨g + 1, 0, none⟩)) rfl (fun u w Lb Vb hT hh => ⟨rfl, by go_simp⟩) ?_
            refine Par.soft rfl rfl (.pointer (some ⟨be, 0, none⟩)) rfl (fun u w Lb Vb hT hh => ⟨rfl, by go_simp⟩) ?_
            refine Par.soft rfl rfl (.pointer (some ⟨be, 0, none⟩)) rfl (fun u w Lb Vb hT hh => ⟨rfl, by have d59 : u 59 = .pointer (some ⟨be, 0, none⟩) := hh.val 9 _ rfl rfl; rw [d59]; go_simp⟩) ?_
            refine Par.soft rfl rfl (.pointer (some ⟨be, 6, none⟩)) rfl (fun u w Lb Vb hT hh => ⟨rfl, by have d60 : u 60 = .pointer (some ⟨be, 0, none⟩) := hh.val 10 _ rfl rfl; rw [d60]; go_simp⟩) ?_
            refine Par.soft rfl rfl (.pointer vb) rfl (fun u w Lb Vb hT hh => ⟨rfl, by have d61 : u 61 = .pointer (some ⟨be, 6, none⟩) := hh.val 11 _ rfl rfl; rw [d61]; have e9 := H12 Lb w hT.1 hT.2.1; go_simp⟩) ?_
            refine Par.hard rfl (fun u wz Lb Vb hT hh => ?_) ?_
            · have d58 : u 58 = .pointer (some ⟨g + 1, 0, none⟩) := hh.val 8 _ rfl rfl
              have d62 : u 62 = .pointer vb := hh.val 12 _ rfl rfl
              rw [d58, d62]
              refine StepP.of rfl (StepC.call 47 #[pB (g + 1), .pointer vb] rfl (by go_simp) ((HOW1.out wz hT.2.2).mono ?_))
              rintro z w' ⟨rfl, hb⟩
              have hlt : be < wz.heap.size := Nat.lt_of_lt_of_le HBE.out hT.2.2.size
              exact ⟨_, rfl, fun c hc => by simpa using hc, fun h => (hb.block be hlt).trans (hT.1 (by simpa [lset] using h)), fun h => (hb.block be hlt).trans (hT.2.1 (by simpa [lset] using h)), hT.2.2.trans (OutF.of hb) (fun n hn => .inl hn)⟩
            refine Par.soft rfl rfl (.pointer (some ⟨be, 0, none⟩)) rfl (fun u w Lb Vb hT hh => ⟨rfl, by have d50 : u 50 = .pointer (some ⟨be, 0, none⟩) := hh.val 0 _ rfl rfl; rw [d50]; go_simp⟩) ?_
            refine Par.soft rfl rfl (.pointer (some ⟨be, 4, none⟩)) rfl (fun u w Lb Vb hT hh => ⟨rfl, by have d64 : u 64 = .pointer (some ⟨be, 0, none⟩) := hh.val 14 _ rfl rfl; rw [d64]; go_simp⟩) ?_
            refine Par.hard rfl (fun u wz Lb Vb hT hh => ?_) ?_
            · have d65 : u 65 = .pointer (some ⟨be, 4, none⟩) := hh.val 15 _ rfl rfl
              have d57 : u 57 = .pointer va' := hh.val 7 _ rfl rfl
              rw [d65, d57]
              have he := hT.1 (hh.not_ 16 (by rfl))
              obtain ⟨e0, e1, e2, e3, e4, e5, e6, e7, e8⟩ := el_cells he
              have fr := cells_free he 4
              have hs := set_block he 4 (.pointer va')
              refine StepP.store (wz.setCell ⟨be, 4, none⟩ (.pointer va')) rfl rfl (by go_simp) ⟨fun c hc => by simp at hc, fun h => absurd h (by simp [lset]), fun _ => hs, hT.2.2.trans ⟨rfl, rfl, rfl, by rw [set_size]; exact Nat.le_refl _, fun k _ hk => set_other wz _ hk⟩ (fun n hn => .inl hn)⟩
            refine Par.soft rfl rfl (.pointer (some ⟨be, 0, none⟩)) rfl (fun u w Lb Vb hT hh => ⟨rfl, by have d51 : u 51 = .pointer (some ⟨be, 0, none⟩) := hh.val 1 _ rfl rfl; rw [d51]; go_simp⟩) ?_
            refine Par.soft rfl rfl (.pointer (some ⟨be, 6, none⟩)) rfl (fun u w Lb Vb hT hh => ⟨rfl, by have d66 : u 66 = .pointer (some ⟨be, 0, none⟩) := hh.val 17 _ rfl rfl; rw [d66]; go_simp⟩) Par.nil
          rintro u v5 hv ⟨Lb, Vb, ⟨_, t1, t2⟩, hl⟩
          have he := t1 (hl 16 (by decide) rfl).1
          have da : u 63 = .pointer vb' := hv 13 _ (by decide) rfl
          have dc : u 67 = .pointer (some ⟨be, 6, none⟩) := hv 18 _ (by decide) rfl
          rw [da, dc]
          obtain ⟨e0, e1, e2, e3, e4, e5, e6, e7, e8⟩ := el_cells he
          have fr := cells_free he 6
          obtain ⟨X2, eX2⟩ : ∃ X, X = v5.setCell ⟨be, 6, none⟩ (.pointer vb') := ⟨_, rfl⟩
          have HEX2 := Lib.hid (show X2.heap[be]? = some (elC p.1 D.rune D.gone (.pointer va') D.right (.pointer vb') (.pointer vc) (.pointer vd)) by rw [eX2]; exact set_block he 6 (.pointer vb'))
          have HO2 := Lib.hid (show OutF (fun k => k = be) X1 X2 from t2.trans (by rw [eX2]; exact ⟨rfl, rfl, rfl, by rw [set_size]; exact Nat.le_refl _, fun k _ hk => set_other v5 _ hk⟩) (fun n hn => .inl hn))
          have HV5 := Lib.hid eX2
          simp only [List.drop_succ_cons, List.drop_zero]
          clear hv hl t1 t2 he da dc eX2
          go_upto_region 13 with fail
          rw [← HV5.out]
          clear HV5 e0 e1 e2 e3 e4 e5 e6 e7 e8 fr
          have HW2 := HOW2
          have HW3 := HOW3
          clear HOW2 HOW3 HOW0 HOW1
          have HBE1 := HBE
          clear HBE
          have HBE := Lib.hid (Nat.lt_of_lt_of_le HBE1.out HO2.out.size)
          have HOW2 := Lib.hid (fun wz (hz : OutF (fun k => k = be) X2 wz) => HW2.out wz (HO2.out.trans hz (fun n hn => .inl hn)))
          have HOW3 := Lib.hid (fun wz (hz : OutF (fun k => k = be) X2 wz) => HW3.out wz (HO2.out.trans hz (fun n hn => .inl hn)))
          clear HW2 HW3
          have H13 := fun (Lb : Nat → Bool) (wz : World) (h1 : Lb 16 = false → wz.heap[be]? = some (elC p.1 D.rune D.gone (.pointer va') D.right (.pointer vb') (.pointer vc) (.pointer vd))) (h2 : Lb 16 = true → wz.heap[be]? = some (elC p.1 D.rune D.gone (.pointer va') D.right (.pointer vb') (.pointer vc') (.pointer vd))) => show wz.cell? ⟨be, 8, none⟩ = some (.pointer vd) from by
            cases hb : Lb 16 with
            | false =>
              obtain ⟨e0, e1, e2, e3, e4, e5, e6, e7, e8⟩ := el_cells (h1 hb)
              exact e8
            | true =>
              obtain ⟨e0, e1, e2, e3, e4, e5, e6, e7, e8⟩ := el_cells (h2 hb)
              exact e8
          refine wp_region_par 19 22 [some 68, some 69, some 70, some 71, some 72, some 73, some 74, some 75, some 76, some 77, some 78, some 79, some 80, some 81, some 82, some 83, none, some 84, some 85] [7, 13, 16] [some (.pointer (some ⟨be, 0, none⟩)), some (.pointer (some ⟨be, 0, none⟩)), some (.pointer (some ⟨g + 1, 0, none⟩)), some (.pointer (some ⟨be, 0, none⟩)), some (.pointer (some ⟨be, 0, none⟩)), some (.pointer (some ⟨be, 7, none⟩)), some (.pointer vc), some (.pointer vc'), some (.pointer (some ⟨g + 1, 0, none⟩)), some (.pointer (some ⟨be, 0, none⟩)), some (.pointer (some ⟨be, 0, none⟩)), some (.pointer (some ⟨be, 8, none⟩)), some (.pointer vd), some (.pointer vd'), some (.pointer (some ⟨be, 0, none⟩)), some (.pointer (some ⟨be, 7, none⟩)), none, some (.pointer (some ⟨be, 0, none⟩)), some (.pointer (some ⟨be, 8, none⟩))]
            (fun Lb _ wz => (Lb 16 = false → wz.heap[be]? = some (elC p.1 D.rune D.gone (.pointer va') D.right (.pointer vb') (.pointer vc) (.pointer vd))) ∧ (Lb 16 = true → wz.heap[be]? = some (elC p.1 D.rune D.gone (.pointer va') D.right (.pointer vb') (.pointer vc') (.pointer vd))) ∧ OutF (fun k => k = be) X2 wz) (by kernel_rfl) (by kernel_rfl)
            (fun _ => ⟨fun _ => HEX2.out, fun h => absurd h (by decide), OutF.of ((Below.refl _ _).drew)⟩) (fun u => by simp only [List.filterMap_cons, List.filterMap_nil, puts, List.foldl_cons, List.foldl_nil]; go_simp; exact rfl) ?_ ?_
          · simp only [List.take_succ_cons, List.take_zero]
            refine Par.soft rfl rfl (.pointer (some ⟨be, 0, none⟩)) rfl (fun u w Lb Vb hT hh => ⟨rfl, by go_simp⟩) ?_
            refine Par.soft rfl rfl (.pointer (some ⟨be, 0, none⟩)) rfl (fun u w Lb Vb hT hh => ⟨rfl, by go_simp⟩) ?_
            refine Par.soft rfl rfl (.pointer (some ⟨g + 1, 0, none⟩)) rfl (fun u w Lb Vb hT hh => ⟨rfl, by go_simp⟩) ?_
            refine Par.soft rfl rfl (.pointer (some ⟨be, 0, none⟩)) rfl (fun u w Lb Vb hT hh => ⟨rfl, by go_simp⟩) ?_
            refine Par.soft rfl rfl (.pointer (some ⟨be, 0, none⟩)) rfl (fun u w Lb Vb hT hh => ⟨rfl, by have d71 : u 71 = .pointer (some ⟨be, 0, none⟩) := hh.val 3 _ rfl rfl; rw [d71]; go_simp⟩) ?_
            refine Par.soft rfl rfl (.pointer (some ⟨be, 7, none⟩)) rfl (fun u w Lb Vb hT hh => ⟨rfl, by have d72 : u 72 = .pointer (some ⟨be, 0, none⟩) := hh.val 4 _ rfl rfl; rw [d72]; go_simp⟩) ?_
            refine Par.soft rfl rfl (.pointer vc) rfl (fun u w Lb Vb hT hh => ⟨rfl, by have d73 : u 73 = .pointer (some ⟨be, 7, none⟩) := hh.val 5 _ rfl rfl; rw [d73]; obtain ⟨e0, e1, e2, e3, e4, e5, e6, e7, e8⟩ := el_cells (hT.1 (hh.not_ 16 (by rfl))); go_simp⟩) ?_
            refine Par.hard rfl (fun u wz Lb Vb hT hh => ?_) ?_
            · have d70 : u 70 = .pointer (some ⟨g + 1, 0, none⟩) := hh.val 2 _ rfl rfl
              have d74 : u 74 = .pointer vc := hh.val 6 _ rfl rfl
              rw [d70, d74]
              refine StepP.of rfl (StepC.call 47 #[pB (g + 1), .pointer vc] rfl (by go_simp) ((HOW2.out wz hT.2.2).mono ?_))
              rintro z w' ⟨rfl, hb⟩
              have hlt : be < wz.heap.size := Nat.lt_of_lt_of_le HBE.out hT.2.2.size
              exact ⟨_, rfl, fun c hc => by simpa using hc, fun h => (hb.block be hlt).trans (hT.1 (by simpa [lset] using h)), fun h => (hb.block be hlt).trans (hT.2.1 (by simpa [lset] using h)), hT.2.2.trans (OutF.of hb) (fun n hn => .inl hn)⟩
            refine Par.soft rfl rfl (.pointer (some ⟨g + 1, 0, none⟩)) rfl (fun u w Lb Vb hT hh => ⟨rfl, by go_simp⟩) ?_
            refine Par.soft rfl rfl (.pointer (some ⟨be, 0, none⟩)) rfl (fun u w Lb Vb hT hh => ⟨rfl, by go_simp⟩) ?_
            refine Par.soft rfl rfl (.pointer (some ⟨be, 0, none⟩)) rfl (fun u w Lb Vb hT hh => ⟨rfl, by have d77 : u 77 = .pointer (some ⟨be, 0, none⟩) := hh.val 9 _ rfl rfl; rw [d77]; go_simp⟩) ?_
            refine Par.soft rfl rfl (.pointer (some ⟨be, 8, none⟩)) rfl (fun u w Lb Vb hT hh => ⟨rfl, by have d78 : u 78 = .pointer (some ⟨be, 0, none⟩) := hh.val 10 _ rfl rfl; rw [d78]; go_simp⟩) ?_
            refine Par.soft rfl rfl (.pointer vd) rfl (fun u w Lb Vb hT hh => ⟨rfl, by have d79 : u 79 = .pointer (some ⟨be, 8, none⟩) := hh.val 11 _ rfl rfl; rw [d79]; have e9 := H13 Lb w hT.1 hT.2.1; go_simp⟩) ?_
            refine Par.hard rfl (fun u wz Lb Vb hT hh => ?_) ?_
            · have d76 : u 76 = .pointer (some ⟨g + 1, 0, none⟩) := hh.val 8 _ rfl rfl
              have d80 : u 80 = .pointer vd := hh.val 12 _ rfl rfl
              rw [d76, d80]
              refine StepP.of rfl (StepC.call 47 #[pB (g + 1), .pointer vd] rfl (by go_simp) ((HOW3.out wz hT.2.2).mono ?_))
              rintro z w' ⟨rfl, hb⟩
              have hlt : be < wz.heap.size := Nat.lt_of_lt_of_le HBE.out hT.2.2.size
              exact ⟨_, rfl, fun c hc => by simpa using hc, fun h => (hb.block be hlt).trans (hT.1 (by simpa [lset] using h)), fun h => (hb.block be hlt).trans (hT.2.1 (by simpa [lset] using h)), hT.2.2.trans (OutF.of hb) (fun n hn => .inl hn)⟩
            refine Par.soft rfl rfl (.pointer (some ⟨be, 0, none⟩)) rfl (fun u w Lb Vb hT hh => ⟨rfl, by have d68 : u 68 = .pointer (some ⟨be, 0, none⟩) := hh.val 0 _ rfl rfl; rw [d68]; go_simp⟩) ?_
            refine Par.soft rfl rfl (.pointer (some ⟨be, 7, none⟩)) rfl (fun u w Lb Vb hT hh => ⟨rfl, by have d82 : u 82 = .pointer (some ⟨be, 0, none⟩) := hh.val 14 _ rfl rfl; rw [d82]; go_simp⟩) ?_
            refine Par.hard rfl (fun u wz Lb Vb hT hh => ?_) ?_
            · have d83 : u 83 = .pointer (some ⟨be, 7, none⟩) := hh.val 15 _ rfl rfl
              have d75 : u 75 = .pointer vc' := hh.val 7 _ rfl rfl
              rw [d83, d75]
              have he := hT.1 (hh.not_ 16 (by rfl))
              obtain ⟨e0, e1, e2, e3, e4, e5, e6, e7, e8⟩ := el_cells he
              have fr := cells_free he 7
              have hs := set_block he 7 (.pointer vc')
              refine StepP.store (wz.setCell ⟨be, 7, none⟩ (.pointer vc')) rfl rfl (by go_simp) ⟨fun c hc => by simp at hc, fun h => absurd h (by simp [lset]), fun _ => hs, hT.2.2.trans ⟨rfl, rfl, rfl, by rw [set_size]; exact Nat.le_refl _, fun k _ hk => set_other wz _ hk⟩ (fun n hn => .inl hn)⟩
            refine Par.soft rfl rfl (.pointer (some ⟨be, 0, none⟩)) rfl (fun u w Lb Vb hT hh => ⟨rfl, by have d69 : u 69 = .pointer (some ⟨be, 0, none⟩) := hh.val 1 _ rfl rfl; rw [d69]; go_simp⟩) ?_
            refine Par.soft rfl rfl (.pointer (some ⟨be, 8, none⟩)) rfl (fun u w Lb Vb hT hh => ⟨rfl, by have d84 : u 84 = .pointer (some ⟨be, 0, none⟩) := hh.val 17 _ rfl rfl; rw [d84]; go_simp⟩) Par.nil
          rintro u v5 hv ⟨Lb, Vb, ⟨_, t1, t2⟩, hl⟩
          have he := t1 (hl 16 (by decide) rfl).1
          have da : u 81 = .pointer vd' := hv 13 _ (by decide) rfl
          have dc : u 85 = .pointer (some ⟨be, 8, none⟩) := hv 18 _ (by decide) rfl
          rw [da, dc]
          obtain ⟨e0, e1, e2, e3, e4, e5, e6, e7, e8⟩ := el_cells he
          have fr := cells_free he 8
          obtain ⟨X3, eX3⟩ : ∃ X, X = v5.setCell ⟨be, 8, none⟩ (.pointer vd') := ⟨_, rfl⟩
          have HEX3 := Lib.hid (show X3.heap[be]? = some (elC p.1 D.rune D.gone (.pointer va') D.right (.pointer vb') (.pointer vc') (.pointer vd')) by rw [eX3]; exact set_block he 8 (.pointer vd'))
          have HO3 := Lib.hid (show OutF (fun k => k = be) X1 X3 from HO2.out.trans (t2.trans (by rw [eX3]; exact ⟨rfl, rfl, rfl, by rw [set_size]; exact Nat.le_refl _, fun k _ hk => set_other v5 _ hk⟩) (fun n hn => .inl hn)) (fun n hn => .inl hn))
          have HV5 := Lib.hid eX3
          simp only [List.drop_succ_cons, List.drop_zero]
          clear hv hl t1 t2 he da dc eX3
          go_wp2_with fail
          rw [← HV5.out]
          have HN := Lib.hid (show Fixed w (g + 1) g it2 clk2 kp ad ad2 ps2 L G (done ++ [p]) (seen.push p.2) X3 from by
            obtain ⟨hc, hp, hfr, hitX, hoX, hbX, hsz1, hMX, ebe, hbed⟩ := HX.out
            have ho := HO3.out
            have hd2 := HD2.out
            have hkey := hMX.keys
            have hnew : ∀ q ∈ ps2, q ≠ p → ad2 q.1 ≠ be ∧ ad2 q.1 < it2 := fun q hq hne => by
              refine ⟨fun e => hne ?_, (hd2.2.2.1 q hq).2.2.2⟩
              have h1 := hc.old_ p hp hfr
              rw [← ebe, ← e] at h1
              by_cases hqd : q ∈ done
              · exact key_one hkey hq hp (rec_inj (hc.new_ q hqd) h1)
              · exact key_one hkey hq hp (rec_inj (hc.old_ q hq hqd) h1)
            have hstay : ∀ q ∈ ps2, q ≠ p → X3.heap[ad2 q.1]? = wr.heap[ad2 q.1]? := fun q hq hne => by
              obtain ⟨h1, h2⟩ := hnew q hq hne
              have hlt := lt_of_heap hitX
              rw [ho.block _ (by omega) h1, hoX _ (by omega)]
            have hel : X3.heap[be]? = some (recC ad2 p.1 (recT L G p.1)) := by
              rw [HEX3.out]
              unfold recC
              rw [ptI_ptr, ptI_ptr, ptI_ptr, ptI_ptr, ← HD'.out.1, ← HD'.out.2.1, ← HD'.out.2.2.1, ← HD'.out.2.2.2.1, ← HD'.out.2.2.2.2]
            have hltX := lt_of_heap hitX
            refine ⟨(ho.block (g + 1) (by omega) (Ne.symm hbed.2.1)).trans ((hoX (g + 1) (by omega)).trans hc.tree), (ho.block it2 hltX (by omega)).trans hitX, by rw [Array.toList_push, hc.seen_]; simp, hMX.keep (ho.block g (by omega) (Ne.symm hbed.2.2.1)), fun q hq => ?_, fun q hq hnq => ?_, fun q hq => ?_, hbX.trans (OutF.below ho (fun k hk => by rw [hk]; exact hbed.1) hbX.size)⟩
            · by_cases hqp : q = p
              · rw [hqp, ← ebe]
                exact hel
              · have hqd : q ∈ done := (List.mem_append.1 hq).resolve_right (fun h => hqp (List.mem_singleton.1 h))
                rw [hstay q (hc.sub q hqd) hqp]
                exact hc.new_ q hqd
            · have hqp : q ≠ p := fun e => hnq (List.mem_append.2 (.inr (List.mem_singleton.2 e)))
              rw [hstay q hq hqp]
              exact hc.old_ q hq fun h => hnq (List.mem_append.2 (.inl h))
            · rcases List.mem_append.1 hq with hq | hq
              · exact hc.sub q hq
              · rw [List.mem_singleton.1 hq]
                exact hp)
          go_roundg ((leftOf (ps2.map (entE ad2)).toArray (seen.push p.2)).size)
          case measure => exact HSH.out
          case rel => exact ⟨done ++ [p], seen.push p.2, rfl, HN.out⟩
    · obtain ⟨he1, he2⟩ := mem_left he
      obtain ⟨p, hp, rfl⟩ := List.mem_map.1 (show e ∈ ps.map (entE ad) from he1)
      have hsh := left_shrinks _ _ _ he
      have hfr := hc.fresh hM.keys hp he2
      obtain ⟨X1, eX1⟩ : ∃ X, X = putB w1 it (.mapIter (some M) clk (seen.push p.2) clk) := ⟨_, rfl⟩
      replace hnx : (Instr.next (.pointer (some ⟨it, 0, none⟩)) false 0).run Try.prog wr = .ok (.tuple #[.bool true, idV p.1, pB (ad p.1)]) X1 := by rw [eX1]; exact hnx
      have hsz1 : X1.heap.size = wr.heap.size := by
        rw [eX1, putB_size]
        rcases hw1 with rfl | rfl <;> rfl
      have hw1h : w1.heap = wr.heap := by rcases hw1 with rfl | rfl <;> rfl
      have hD := HD.out
      have hltI : it < wr.heap.size := lt_of_heap hc.iter
      have hitX : X1.heap[it]? = some (.mapIter (some M) clk (seen.push p.2) clk) := by rw [eX1]; exact putB_same (by rw [hw1h]; exact hltI)
      have hoX : ∀ k, k ≠ it → X1.heap[k]? = wr.heap[k]? := fun k hk => by rw [eX1, putB_other hk, hw1h]
      have hbX : Below w.heap.size w X1 := by
        have h1 : Below w.heap.size w w1 := hc.base.trans (by rcases hw1 with rfl | rfl; exact Below.refl _ _; exact (Below.refl _ _).drew)
        refine h1.trans ?_
        rw [eX1]
        exact ⟨rfl, rfl, rfl, by rw [putB_size]; exact Nat.le_refl _, fun k hk => putB_other (by omega)⟩
      have hMX := (HS.out X1 hbX).2.2.1
      have hen : (Instr.entry (.pointer (some ⟨it, 0, none⟩))).run Try.prog X1 = .ok (.tuple #[idV p.1, pB (ad p.1)]) X1 :=
        run_entry_at X1 it M clk seen _ clk (entE ad p) hitX hMX.here (show entE ad p ∈ ps.map (entE ad) from List.mem_map.2 ⟨p, hp, rfl⟩) (by
          show ((ps.map (entE ad)).map (·.born)).Nodup
          rw [List.map_map]
          exact hMX.borns)
      have HX := Lib.hid (And.intro hc (And.intro hp (And.intro hfr (And.intro hitX (And.intro hoX (And.intro hbX hsz1))))))
      have HSH := Lib.hid (Nat.lt_of_lt_of_eq hsh hk)
      obtain ⟨X2, eX2⟩ : ∃ X, X = X1.alloc (.cells #[.int .i64 p.1.1, .int .i64 p.1.2] 31) := ⟨_, rfl⟩
      obtain ⟨kb, ekb⟩ : ∃ b, b = X1.heap.size := ⟨_, rfl⟩
      have h12 : Below X1.heap.size X1 X2 := by rw [eX2]; exact (Below.refl _ _).alloc (Nat.le_refl _) _
      have HK2 := Lib.hid (show X2.heap[kb]? = some (.cells #[.int .i64 p.1.1, .int .i64 p.1.2] 31) ∧ X2.heap.size = kb + 1 ∧ Below X1.heap.size X1 X2 ∧ kb = X1.heap.size from ⟨by rw [eX2, ekb]; exact (MapKept.heap_alloc X1 _).1, by rw [eX2, ekb]; simp, h12, ekb⟩)
      have HV2' := Lib.hid (And.intro eX2 ekb)
      have hrec := (HH.out.1.below (hbX.trans (h12.mono hbX.size))).recs (i := p.1) ((HH.out.2.1 p.1).1 (List.mem_map.2 ⟨p, hp, rfl⟩))
      obtain ⟨D, eD⟩ : ∃ D, D = recT L G p.1 := ⟨_, rfl⟩
      obtain ⟨bo, ebo⟩ : ∃ b, b = ad p.1 := ⟨_, rfl⟩
      rw [← eD, ← ebo] at hrec
      rw [← ebo] at hnx hen
      unfold recC at hrec
      rw [ptI_ptr, ptI_ptr, ptI_ptr, ptI_ptr] at hrec
      obtain ⟨va, eva⟩ : ∃ v, v = ptA ad D.par := ⟨_, rfl⟩
      obtain ⟨vb, evb⟩ : ∃ v, v = ptA ad D.next := ⟨_, rfl⟩
      obtain ⟨vc, evc⟩ : ∃ v, v = ptA ad D.left := ⟨_, rfl⟩
      obtain ⟨vd, evd⟩ : ∃ v, v = ptA ad D.rights := ⟨_, rfl⟩
      rw [← eva, ← evb, ← evc, ← evd] at hrec
      obtain ⟨e0, e1, e2, e3, e4, e5, e6, e7, e8⟩ := el_cells hrec
      have HD' := Lib.hid (And.intro eD (And.intro eva (And.intro evb (And.intro evc evd))))
      clear hk hM he he1 he2 hp hsh hfr hw1 eX1 hsz1 hw1h hD hltI hitX hoX hbX hMX eX2 ekb h12 hrec eD ebo eva evb evc evd hc
      go_upto_region 7 with fail
      rw [← HV2'.out.1, ← HV2'.out.2]
      clear HV2' hnx hen
      obtain ⟨X3, eX3⟩ : ∃ X, X = X2.alloc (.cells #[.int .i64 p.1.1, .int .i64 p.1.2, .int .i32 D.rune, .bool D.gone, .pointer va, .bool D.right, .pointer vb, .pointer vc, .pointer vd] 71) := ⟨_, rfl⟩
      obtain ⟨be, ebe⟩ : ∃ b, b = X2.heap.size := ⟨_, rfl⟩
      have h23 : Below X2.heap.size X2 X3 := by rw [eX3]; exact (Below.refl _ _).alloc (Nat.le_refl _) _
      have HK3 := Lib.hid (show X3.heap[be]? = some (elC p.1 D.rune D.gone (.pointer va) D.right (.pointer vb) (.pointer vc) (.pointer vd)) ∧ be = kb + 1 ∧ X3.heap.size = be + 1 ∧ Below X2.heap.size X2 X3 from ⟨by rw [eX3, ebe]; exact (MapKept.heap_alloc X2 _).1, by rw [ebe]; exact HK2.out.2.1, by rw [eX3, ebe]; simp, h23⟩)
      have HV3 := Lib.hid (And.intro eX3 ebe)
      clear eX3 ebe h23
      go_upto_region 8 with fail
      rw [← HV3.out.1, ← HV3.out.2]
      clear HV3 e0 e1 e2 e3 e4 e5 e6 e7 e8
      have HXB := Lib.hid (show Below w.heap.size w X3 from HX.out.2.2.2.2.2.1.trans ((HK2.out.2.2.1.trans (HK3.out.2.2.2.mono HK2.out.2.2.1.size)).mono HX.out.2.2.2.2.2.1.size))
      have HOX := Lib.hid (fun k (h1 : k < wr.heap.size) (h2 : k ≠ it) => show X3.heap[k]? = wr.heap[k]? from by
        have hs := HX.out.2.2.2.2.2.2
        have hx := HK2.out.2.1
        have hy := HK2.out.2.2.2
        rw [HK3.out.2.2.2.block k (by omega), HK2.out.2.2.1.block k (by omega)]
        exact HX.out.2.2.2.2.1 k h2)
      have HS8 := Lib.hid (fun wz (hz : Below X3.heap.size X3 wz) => show wz.cell? ⟨g + 1, 0, none⟩ = some (.map (some g)) ∧ wz.cell? ⟨kb, 0, none⟩ = some (.int .i64 p.1.1) ∧ wz.cell? ⟨kb, 1, none⟩ = some (.int .i64 p.1.2) from by
        have hT := HX.out.1.tree
        have hlt := lt_of_heap hT
        have hs := HX.out.2.2.2.2.2.2
        have hx := HK2.out.2.1
        have hy := HK2.out.2.2.2
        have hv := HK3.out.2.1
        have hw := HK3.out.2.2.1
        have h1 : wz.heap[g + 1]? = some (.cells #[.map (some g), .int .i64 (kp : Int)] 74) := (hz.block (g + 1) (by omega)).trans ((HOX.out (g + 1) hlt HD.out.2.1).trans hT)
        have h2 : wz.heap[kb]? = some (.cells #[.int .i64 p.1.1, .int .i64 p.1.2] 31) := (hz.block kb (by omega)).trans ((HK3.out.2.2.2.block kb (by omega)).trans HK2.out.1)
        exact ⟨by simp [World.cell?, h1], by simp [World.cell?, h2], by simp [World.cell?, h2]⟩)
      have HS0 := HS
      clear HS
      have HS := HS8
      clear HS8
      refine wp_region_inv 5 [36, 37, 38, 39, 40] [.val (.pointer (some ⟨g + 1, 0, none⟩)), .val (.pointer (some ⟨g + 1, 0, none⟩)), .val (.pointer (some ⟨g + 1, 0, none⟩)), .val (.map (some g)), .val (.agg #[.int .i64 p.1.1, .int .i64 p.1.2])] (fun wz => Below X3.heap.size X3 wz) (by kernel_rfl) (by kernel_rfl) (fun wz wz' hz hb => hz.trans (hb.mono hz.size)) ((Below.refl _ _).drew) (fun u => by simp only [puts, List.foldl_cons, List.foldl_nil]; go_simp; exact rfl) ?_ ?_
      · simp only [List.take_succ_cons, List.take_zero]
        refine Obs.cons (fun u w hS hd => ?_) ?_
        · exact Gv.run (.pointer (some ⟨g + 1, 0, none⟩)) rfl (by go_simp) rfl
        refine Obs.cons (fun u w hS hd => ?_) ?_
        · have d36 : u 36 = .pointer (some ⟨g + 1, 0, none⟩) := dep hd 0 rfl
          rw [d36]
          exact Gv.run (.pointer (some ⟨g + 1, 0, none⟩)) rfl (by go_simp) rfl
        refine Obs.cons (fun u w hS hd => ?_) ?_
        · have d37 : u 37 = .pointer (some ⟨g + 1, 0, none⟩) := dep hd 1 rfl
          rw [d37]
          exact Gv.run (.pointer (some ⟨g + 1, 0, none⟩)) rfl (by go_simp) rfl
        refine Obs.cons (fun u w hS hd => ?_) ?_
        · have d38 : u 38 = .pointer (some ⟨g + 1, 0, none⟩) := dep hd 2 rfl
          rw [d38]
          exact Gv.run (.map (some g)) rfl (by obtain ⟨k0, k1, k2⟩ := HS.out w hS; go_simp) rfl
        refine Obs.cons (fun u w hS hd => ?_) ?_
        · exact Gv.run (.agg #[.int .i64 p.1.1, .int .i64 p.1.2]) rfl (by obtain ⟨k0, k1, k2⟩ := HS.out w hS; go_simp) rfl
        exact Obs.nil
      intro u v4 hS hd
      have d39 : u 39 = .map (some g) := hd 3 (by decide)
      have d40 : u 40 = .agg #[.int .i64 p.1.1, .int .i64 p.1.2] := hd 4 (by decide)
      rw [d39, d40]
      simp only [List.drop_succ_cons, List.drop_zero]
      obtain ⟨ps2, clk2, hm2, hk2⟩ := HX.out.1.map
      have hs := HX.out.2.2.2.2.2.2
      have hx := HK2.out.2.1
      have hy := HK2.out.2.2.2
      have hv := HK3.out.2.1
      have hw := HK3.out.2.2.1
      have hgl := hm2.lt
      have hm4 : MapIs v4 g ad2 ps2 clk2 := hm2.keep ((hS.block g (by omega)).trans (HOX.out g hgl HD.out.2.2.1))
      have hst := store_run hm4 (i := p.1) (by rw [hk2]; exact HX.out.2.2.1) be
      obtain ⟨X5, eX5⟩ : ∃ X, X = putB v4 g (.map ((ps2 ++ [(p.1, clk2)]).map (entE (adSet ad2 p.1 be))).toArray (clk2 + 1)) := ⟨_, rfl⟩
      rw [← eX5] at hst
      have hb4 : Below w.heap.size w v4 := HXB.out.trans (hS.mono HXB.out.size)
      have HN := Lib.hid (show Copied w (g + 1) g it M clk kp ad ps L G (adSet ad2 p.1 be) (done ++ [p]) (seen.push p.2) X5 from by
        have hD := HD.out
        have hgX : g < v4.heap.size := by have := hS.size; omega
        refine HX.out.1.step HX.out.2.1 HX.out.2.2.1 ⟨hD.1, hD.2.1, hD.2.2.1, hD.2.2.2.1, hD.2.2.2.2⟩ (by omega) ?_ ⟨_, _, hm4.store (by rw [hk2]; exact HX.out.2.2.1) be (by rw [eX5]; exact putB_same hgX), by rw [List.map_append, List.map_append, hk2]; rfl⟩ ?_ (fun k h1 h2 h3 => ?_) ?_
        · rw [eX5, putB_other (Ne.symm hD.2.2.1), hS.block it (by have := lt_of_heap HX.out.1.iter; omega), HK3.out.2.2.2.block it (by have := lt_of_heap HX.out.1.iter; omega), HK2.out.2.2.1.block it (by have := lt_of_heap HX.out.1.iter; omega)]
          exact HX.out.2.2.2.1
        · rw [eX5, putB_other (by omega), hS.block be (by omega), HK3.out.1]
          unfold recC
          rw [ptI_ptr, ptI_ptr, ptI_ptr, ptI_ptr, ← HD'.out.1, ← HD'.out.2.1, ← HD'.out.2.2.1, ← HD'.out.2.2.2.1, ← HD'.out.2.2.2.2]
        · rw [eX5, putB_other h3, hS.block k (by omega)]
          exact HOX.out k h1 h2
        · refine hb4.trans ?_
          rw [eX5]
          exact ⟨rfl, rfl, rfl, by rw [putB_size]; exact Nat.le_refl _, fun k hk => putB_other (by omega)⟩)
      clear hS hd d39 d40 hm2 hk2 hs hx hy hv hw hgl hm4 eX5 hb4
      go_wp2_with fail
      go_roundg ((leftOf (ps.map (entE ad)).toArray (seen.push p.2)).size)
      case measure => exact HSH.out
      case rel => exact ⟨adSet ad2 p.1 be, done ++ [p], seen.push p.2, rfl, HN.out⟩
end Go.Proofs.Ytljciakgdpihdaa
