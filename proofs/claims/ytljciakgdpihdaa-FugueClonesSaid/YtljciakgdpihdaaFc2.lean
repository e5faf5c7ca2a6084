/-
  Layer 15: a step is done to both, over what is asked of the landed tree. By an AI agent.
-/
import Derived.Test.YtljciakgdpihdaaFc1
namespace Go.Proofs.Ytljciakgdpihdaa
open Go Go.RowKit
set_option maxRecDepth 20000
theorem RdR.outf {α : Type} {E : Enc α} {w w' : World} {F : Nat → Prop} {c : Nat} {A : Option Addr} {L : List α} (h : RdR E w w.heap.size A c L) (ho : OutF F w w') (ha : ∀ ad, A = some ad → ¬ F ad.block) : RdR E w' w'.heap.size A c L :=
  ⟨h.cap, h.nil, fun hn => by
    obtain ⟨b, o, e, hlt, hc⟩ := h.some_ hn
    exact ⟨b, o, e, Nat.lt_of_lt_of_le hlt ho.size, fun k v hk => (World.cell?_of_block (ho.block b hlt (ha _ e))).trans (hc k v hk)⟩⟩
theorem RdT.outf {w w' : World} {F : Nat → Prop} {v : Value} {L : List Ins} {G : List IDt} (h : RdT w w.heap.size v L G) (ho : OutF F w w') (ha : ∀ b, inV v b → ¬ F b) : RdT w' w'.heap.size v L G := by
  obtain ⟨A, c, A2, c2, rfl, h1, h2⟩ := h
  exact ⟨A, c, A2, c2, rfl, h1.outf ho fun ad e => ha _ ⟨_, _, _, _, _, _, rfl, .inl ⟨ad, e, rfl⟩⟩, h2.outf ho fun ad e => ha _ ⟨_, _, _, _, _, _, rfl, .inr ⟨ad, e, rfl⟩⟩⟩
theorem OutF.trans {F F2 : Nat → Prop} {a b c : World} (h : OutF F a b) (k : OutF F2 b c) (hs : ∀ n, F2 n → F n ∨ a.heap.size ≤ n) : OutF F a c :=
  ⟨k.os.trans h.os, k.tape.trans h.tape, k.output.trans h.output, Nat.le_trans h.size k.size, fun n hn hf => (k.block n (Nat.lt_of_lt_of_le hn h.size) (fun h2 => by rcases hs n h2 with h3 | h3; exact hf h3; omega)).trans (h.block n hn hf)⟩
theorem OutF.cell {F : Nat → Prop} {w w' : World} (h : OutF F w w') {b o : Nat} (hb : b < w.heap.size) (hf : ¬ F b) {v : Value} (hc : w.cell? ⟨b, o, none⟩ = some v) : w'.cell? ⟨b, o, none⟩ = some v := (World.cell?_of_block (h.block b hb hf)).trans hc
theorem set2_out {w : World} {B g : Nat} {t : TypeId} {a b : Value} (o : O2 w B t g a b) (x y : Value) : OutF (fun n => n = g) w (set2 w g x y) :=
  have h := o.below x y
  ⟨h.os, h.tape, h.output, h.size, fun n _ hn => set2_only w g x y n hn⟩
set_option maxHeartbeats 6400000 in
theorem both_any {R : TreeP} (K : FugC R) {F : Nat → Prop} {p v : Value} {L : List Ins} {G : List IDt} (k : Dot) (w : World) (h : R w F p L G) (hok : Ok L) (hl : L.length ≤ 4096) (hg : G.length ≤ 1000000) (hv : RdT w w.heap.size v L G) (hap : ∀ b, inV v b → b < w.heap.size ∧ ¬ F b) :
    Calls Try.prog 13 #[p, v, doV k] w fun e w' => ∃ v' F', e = .returned (.tuple #[v', .bool true]) ∧ R w' F' p (stepT ⟨L, G⟩ k).L (stepT ⟨L, G⟩ k).G ∧ RdT w' w'.heap.size v' (stepT ⟨L, G⟩ k).L (stepT ⟨L, G⟩ k).G ∧ (∀ b, inV v' b → b < w'.heap.size ∧ ¬ F' b) ∧ (∀ b, F' b → F b ∨ w.heap.size ≤ b) ∧ (∀ b, inV v' b → inV v b ∨ w.heap.size ≤ b) ∧ OutF F w w' := by
  obtain ⟨A1, c1, A2, c2, rfl, r1, r2⟩ := hv
  obtain ⟨g, eg⟩ : ∃ g, g = w.heap.size := ⟨_, rfl⟩
  obtain ⟨va, eva⟩ : ∃ v, v = (w.alloc (.cells #[.slice A1 L.length c1, .slice A2 G.length c2] 29)).alloc (.cells #[.int .i64 k.kind, .int .i64 k.ins.id.1, .int .i64 k.ins.id.2, .int .i64 k.ins.par.1, .int .i64 k.ins.par.2, .bool k.ins.right, .int .i32 k.ins.rune, .int .i64 k.drop.1, .int .i64 k.drop.2] 35) := ⟨_, rfl⟩
  obtain ⟨v1, ev⟩ : ∃ v, v = va.alloc (.cells #[.slice none 0 0, .slice none 0 0] 29) := ⟨_, rfl⟩
  have hba : Below w.heap.size w va := by rw [eva]; exact ((Below.refl _ _).alloc (Nat.le_refl _) _).alloc (by simp) _
  have hsa : va.heap.size = g + 2 := by rw [eva, eg]; simp
  have hqa : va.cell? ⟨g, 0, none⟩ = some (.slice A1 L.length c1) ∧ va.cell? ⟨g, 1, none⟩ = some (.slice A2 G.length c2) ∧ va.cell? ⟨g + 1, 0, none⟩ = some (.int .i64 k.kind) ∧ va.cell? ⟨g + 1, 1, none⟩ = some (.int .i64 k.ins.id.1) ∧ va.cell? ⟨g + 1, 2, none⟩ = some (.int .i64 k.ins.id.2) ∧ va.cell? ⟨g + 1, 3, none⟩ = some (.int .i64 k.ins.par.1) ∧ va.cell? ⟨g + 1, 4, none⟩ = some (.int .i64 k.ins.par.2) ∧ va.cell? ⟨g + 1, 5, none⟩ = some (.bool k.ins.right) ∧ va.cell? ⟨g + 1, 6, none⟩ = some (.int .i32 k.ins.rune) ∧ va.cell? ⟨g + 1, 7, none⟩ = some (.int .i64 k.drop.1) ∧ va.cell? ⟨g + 1, 8, none⟩ = some (.int .i64 k.drop.2) := by
    rw [eva, eg]
    simp
  have hb1 : Below va.heap.size va v1 := by rw [ev]; exact (Below.refl _ _).alloc (Nat.le_refl _) _
  have hb : Below w.heap.size w v1 := hba.trans (hb1.mono hba.size)
  have hs1 : v1.heap.size = g + 3 := by rw [ev]; simp; omega
  have ho : O2 v1 w.heap.size 29 (g + 2) (.slice none 0 0) (.slice none 0 0) := by
    have h0 := O2.newz (w := va) (B := w.heap.size) hba.size 29 (.slice none 0 0) (.slice none 0 0)
    rw [← ev, hsa] at h0
    exact h0
  have hFl := K.le h
  have HC := Lib.hid (fun wz (hz : OutF (fun b => F b ∨ b = g + 2) v1 wz) => show wz.cell? ⟨g, 0, none⟩ = some (.slice A1 L.length c1) ∧ wz.cell? ⟨g, 1, none⟩ = some (.slice A2 G.length c2) ∧ wz.cell? ⟨g + 1, 0, none⟩ = some (.int .i64 k.kind) ∧ wz.cell? ⟨g + 1, 1, none⟩ = some (.int .i64 k.ins.id.1) ∧ wz.cell? ⟨g + 1, 2, none⟩ = some (.int .i64 k.ins.id.2) ∧ wz.cell? ⟨g + 1, 3, none⟩ = some (.int .i64 k.ins.par.1) ∧ wz.cell? ⟨g + 1, 4, none⟩ = some (.int .i64 k.ins.par.2) ∧ wz.cell? ⟨g + 1, 5, none⟩ = some (.bool k.ins.right) ∧ wz.cell? ⟨g + 1, 6, none⟩ = some (.int .i32 k.ins.rune) ∧ wz.cell? ⟨g + 1, 7, none⟩ = some (.int .i64 k.drop.1) ∧ wz.cell? ⟨g + 1, 8, none⟩ = some (.int .i64 k.drop.2) from by
    have l0 : ¬ (F g ∨ g = g + 2) := fun hx => by rcases hx with hx | hx; have := hFl g hx; omega; omega
    have l1 : ¬ (F (g + 1) ∨ g + 1 = g + 2) := fun hx => by rcases hx with hx | hx; have := hFl (g + 1) hx; omega; omega
    have n0 : g < v1.heap.size := by omega
    have n1 : g + 1 < v1.heap.size := by omega
    have m0 : g < va.heap.size := by omega
    have m1 : g + 1 < va.heap.size := by omega
    obtain ⟨a0, a1, a2, a3, a4, a5, a6, a7, a8, a9, a10⟩ := hqa
    exact ⟨hz.cell n0 l0 ((hb1.cell (p := ⟨g, 0, none⟩) m0).trans a0), hz.cell n0 l0 ((hb1.cell (p := ⟨g, 1, none⟩) m0).trans a1), hz.cell n1 l1 ((hb1.cell (p := ⟨g + 1, 0, none⟩) m1).trans a2), hz.cell n1 l1 ((hb1.cell (p := ⟨g + 1, 1, none⟩) m1).trans a3), hz.cell n1 l1 ((hb1.cell (p := ⟨g + 1, 2, none⟩) m1).trans a4), hz.cell n1 l1 ((hb1.cell (p := ⟨g + 1, 3, none⟩) m1).trans a5), hz.cell n1 l1 ((hb1.cell (p := ⟨g + 1, 4, none⟩) m1).trans a6), hz.cell n1 l1 ((hb1.cell (p := ⟨g + 1, 5, none⟩) m1).trans a7), hz.cell n1 l1 ((hb1.cell (p := ⟨g + 1, 6, none⟩) m1).trans a8), hz.cell n1 l1 ((hb1.cell (p := ⟨g + 1, 7, none⟩) m1).trans a9), hz.cell n1 l1 ((hb1.cell (p := ⟨g + 1, 8, none⟩) m1).trans a10)⟩)
  have HV := Lib.hid (And.intro (And.intro eva ev) eg)
  have HVE := Lib.hid eg.symm
  have HQ := Lib.hid (And.intro hb (And.intro hs1 ho))
  have HK := Lib.hid (And.intro h (And.intro hok (And.intro hl (And.intro hg (And.intro hap hFl)))))
  have HT1 := Lib.hid (show RdT v1 v1.heap.size (.agg #[.slice A1 L.length c1, .slice A2 G.length c2]) L G from ⟨A1, c1, A2, c2, rfl, r1.next hb, r2.next hb⟩)
  obtain ⟨q0, q1, q2, q3, q4, q5, q6, q7, q8, q9, q10⟩ := HC.out v1 (OutF.of (Below.refl _ _))
  clear hba hsa hqa hb1 hb ho r1 r2 hok hl hg hap hFl h eva ev eg hs1
  by_cases hk : k.kind = 0
  case pos =>
    have HST := Lib.hid (show stepT ⟨L, G⟩ k = ⟨L, (dropR L G k.drop).1⟩ by unfold stepT; rw [if_pos hk])
    have KD := Lib.hid (rdrop_any k.drop v1 HT1.out (Nat.le_refl _) (Nat.le_trans HK.out.2.2.1 (by decide)) HK.out.2.2.2.1)
    rw [HST.out]
    rw [hk] at q2
    clear hk
    go_enter Try.func13, Try.ntmps13
    go_upto_region 1 with fail
    rw [← HV.out.1.1, ← HV.out.1.2, show (Value.pointer (some ⟨w.heap.size, 0, none⟩)) = .pointer (some ⟨g, 0, none⟩) by rw [HV.out.2], show (Value.pointer (some ⟨w.heap.size + 1, 0, none⟩)) = .pointer (some ⟨g + 1, 0, none⟩) by rw [HV.out.2], show (Value.pointer (some ⟨w.heap.size + 1 + 1, 0, none⟩)) = .pointer (some ⟨g + 2, 0, none⟩) by rw [HV.out.2]]
    clear HV
    go_wp2_with fail
    go_at_call 35
    refine KD.out.mono ?_
    rintro e v2 ⟨vn, rfl, hTn, hin, h2⟩
    obtain ⟨A3, c3, A4, c4, rfl, s3, s4⟩ := hTn
    clear q0 q1 q2 q3 q4 q5 q6 q7 q8 q9 q10 KD
    have H2 := Lib.hid (And.intro h2 (And.intro hin (And.intro s3 s4)))
    clear h2 hin s3 s4
    go_upto_region 3 with fail
    obtain ⟨wa, ewa⟩ : ∃ v, v = v2.alloc (.cells #[.slice A3 (L).length c3, .slice A4 ((dropR L G k.drop).1).length c4] 29) := ⟨_, rfl⟩
    obtain ⟨ga, ega⟩ : ∃ b, b = v2.heap.size := ⟨_, rfl⟩
    rw [← ewa, ← ega]
    have ob : O2 wa v2.heap.size 29 ga (.slice A3 (L).length c3) (.slice A4 ((dropR L G k.drop).1).length c4) := by rw [ewa, ega]; exact O2.newz (Nat.le_refl _) _ _ _
    have ha : Below v2.heap.size v2 wa := by rw [ewa]; exact (Below.refl _ _).alloc (Nat.le_refl _) _
    have hwa : wa.heap.size = ga + 1 := by rw [ewa, ega]; simp
    have hga : g + 3 ≤ ga := by rw [ega]; have := H2.out.1.size; rw [HQ.out.2.1] at this; exact this
    have h1a : Below v1.heap.size v1 wa := H2.out.1.trans (ha.mono H2.out.1.size)
    have hFl := HK.out.2.2.2.2.2
    have hwg : w.heap.size = g := HVE.out
    have HBW := Lib.hid (HQ.out.1.trans (h1a.mono HQ.out.1.size))
    have HNF := Lib.hid (show (∀ b, F b → b < g) ∧ ¬ F (g + 2) ∧ ¬ F ga from ⟨fun b hb => by have := hFl b hb; omega, fun hf => by have := hFl _ hf; omega, fun hf => by have := hFl _ hf; omega⟩)
    have HW := Lib.hid (fun wz (hz : OutF (fun b => F b ∨ b = g + 2) wa wz) => And.intro (HC.out wz (OutF.trans (OutF.of h1a) hz (fun n hn => .inl hn))) (show wz.cell? ⟨ga, 0, none⟩ = some (.slice A3 (L).length c3) ∧ wz.cell? ⟨ga, 1, none⟩ = some (.slice A4 ((dropR L G k.drop).1).length c4) from
      have hn : ¬ (F ga ∨ ga = g + 2) := fun hx => by rcases hx with hx | hx; exact HNF.out.2.2 hx; omega
      ⟨hz.cell (by omega) hn ob.c0, hz.cell (by omega) hn ob.c1⟩))
    have HS := Lib.hid (And.intro hwa (And.intro hga (And.intro hwg ha)))
    have HRA := Lib.hid (K.next HK.out.1 HBW.out)
    have HOR := Lib.hid (show O2 wa w.heap.size 29 (g + 2) (.slice none 0 0) (.slice none 0 0) from OwnF.keep HQ.out.2.2 h1a)
    clear ewa ega ob ha hwa hga h1a hFl hwg
    refine wp_region_par 8 10 [some 22, some 23, some 24, some 25, some 26, some 27, some 28, none] [4, 7] [some (.agg #[.slice A3 (L).length c3, .slice A4 ((dropR L G k.drop).1).length c4]), some p, some (.pointer (some ⟨g + 1, 7, none⟩)), some (idV k.drop), some (.int .i64 (dropR L G k.drop).2), some (.int .i64 (dropR L G k.drop).2), some (.bool true), none]
      (fun Lb _ wz => (Lb 4 = false → R wz F p L G) ∧ (Lb 4 = true → ∃ F' : Nat → Prop, R wz F' p L (dropR L G k.drop).1 ∧ (∀ b, F' b → F b ∨ wa.heap.size ≤ b)) ∧ (Lb 7 = false → O2 wz w.heap.size 29 (g + 2) (.slice none 0 0) (.slice none 0 0)) ∧ (Lb 7 = true → O2 wz w.heap.size 29 (g + 2) (.slice A3 (L).length c3) (.slice A4 ((dropR L G k.drop).1).length c4)) ∧ OutF (fun b => F b ∨ b = g + 2) wa wz) (by kernel_rfl) (by kernel_rfl)
      (fun _ => ⟨fun _ => K.next HRA.out ((Below.refl _ _).drew), fun h => absurd h (by decide), fun _ => HOR.out, fun h => absurd h (by decide), OutF.of ((Below.refl _ _).drew)⟩) (fun u => by simp only [List.filterMap_cons, List.filterMap_nil, puts, List.foldl_cons, List.foldl_nil]; go_simp; exact rfl) ?_ ?_
    · simp only [List.take_succ_cons, List.take_zero]
      refine Par.soft rfl rfl (.agg #[.slice A3 (L).length c3, .slice A4 ((dropR L G k.drop).1).length c4]) rfl (fun u w Lb Vb hT hh => ⟨rfl, by obtain ⟨⟨k0, k1, k2, k3, k4, k5, k6, k7, k8, k9, k10⟩, b0, b1⟩ := HW.out w hT.2.2.2.2; go_simp⟩) ?_
      refine Par.soft rfl rfl p rfl (fun u w Lb Vb hT hh => ⟨rfl, by go_simp⟩) ?_
      refine Par.soft rfl rfl (.pointer (some ⟨g + 1, 7, none⟩)) rfl (fun u w Lb Vb hT hh => ⟨rfl, by go_simp⟩) ?_
      refine Par.soft rfl rfl (idV k.drop) rfl (fun u w Lb Vb hT hh => ⟨rfl, by have d1 : u 24 = .pointer (some ⟨g + 1, 7, none⟩) := hh.val 2 _ rfl rfl; rw [d1]; obtain ⟨⟨k0, k1, k2, k3, k4, k5, k6, k7, k8, k9, k10⟩, b0, b1⟩ := HW.out w hT.2.2.2.2; go_simp⟩) ?_
      refine Par.hard rfl (fun u wz Lb Vb hT hh => ?_) ?_
      · obtain ⟨t0, t1, t2, t3, t4⟩ := hT
        have d1 : u 23 = p := hh.val 1 _ rfl rfl
        have d2 : u 25 = idV k.drop := hh.val 3 _ rfl rfl
        rw [d1, d2]
        have hr := t0 (hh.not_ 4 (by rfl))
        have hlt : g + 2 < wz.heap.size := Nat.lt_of_lt_of_le (by have := HS.out; omega) t4.size
        refine StepP.of rfl (StepC.call 33 #[p, idV k.drop] rfl (by go_simp) ((K.drop k.drop wz hr HK.out.2.1 HK.out.2.2.1).mono ?_))
        rintro z w' ⟨rfl, F', hr', hF', ho'⟩
        refine ⟨_, rfl, fun c hc => by simpa using hc, fun h => absurd h (by simp [lset]), fun _ => ⟨F', hr', fun b hb => (hF' b hb).imp id (fun h => Nat.le_trans t4.size h)⟩, fun h => OwnF.same_ (t2 (by simpa [lset] using h)) (ho'.block (g + 2) hlt HNF.out.2.1), fun h => OwnF.same_ (t3 (by simpa [lset] using h)) (ho'.block (g + 2) hlt HNF.out.2.1), t4.trans ho' (fun n hn => .inl (.inl hn))⟩
      refine Par.soft rfl rfl (.int .i64 (dropR L G k.drop).2) rfl (fun u w Lb Vb hT hh => ⟨rfl, by go_simp⟩) ?_
      refine Par.soft rfl rfl (.bool true) rfl (fun u w Lb Vb hT hh => ⟨rfl, by have d1 : u 26 = .int .i64 (dropR L G k.drop).2 := hh.val 4 _ rfl rfl; have d2 : u 27 = .int .i64 (dropR L G k.drop).2 := hh.val 5 _ rfl rfl; rw [d1, d2]; go_simp⟩) ?_
      refine Par.hard rfl (fun u wz Lb Vb hT hh => ?_) Par.nil
      · obtain ⟨t0, t1, t2, t3, t4⟩ := hT
        have d0 : u 22 = .agg #[.slice A3 (L).length c3, .slice A4 ((dropR L G k.drop).1).length c4] := hh.val 0 _ rfl rfl
        rw [d0]
        have oz := t2 (hh.not_ 7 (by rfl))
        have z0 := oz.c0
        have z1 := oz.c1
        have f0 := oz.f0
        have f1 := oz.f1
        have hso := set2_out oz (.slice A3 (L).length c3) (.slice A4 ((dropR L G k.drop).1).length c4)
        refine StepP.store (set2 wz (g + 2) (.slice A3 (L).length c3) (.slice A4 ((dropR L G k.drop).1).length c4)) rfl rfl (by unfold set2; go_simp) ⟨fun c hc => by simp at hc, fun h => ?_, fun h => ?_, fun h => absurd h (by simp [lset]), fun _ => oz.set_ _ _, t4.trans hso (fun n hn => .inl (.inr hn))⟩
        · exact K.keep (t0 (by simpa [lset] using h)) (fun b hb => set2_only _ _ _ _ b (by have := HNF.out.1 b hb; omega)) hso.size
        · obtain ⟨F', hr', hF'⟩ := t1 (by simpa [lset] using h)
          exact ⟨F', K.keep hr' (fun b hb => set2_only _ _ _ _ b (by rcases hF' b hb with h9 | h9; have := HNF.out.1 b h9; omega; have := HS.out; omega)) hso.size, hF'⟩
    · rintro u v5 hv ⟨Lb, Vb, ⟨_, t1, _, t3, t4⟩, hl⟩
      obtain ⟨F', hr', hF'⟩ := t1 (hl 4 (by decide) rfl).1
      have oz := t3 (hl 7 (by decide) rfl).1
      have d1 : u 28 = .bool true := hv 6 _ (by decide) rfl
      rw [d1]
      have HO := Lib.hid (And.intro hr' (And.intro hF' (And.intro oz t4)))
      clear hv hl t1 t3 t4 hr' hF' oz d1
      simp only [List.drop_succ_cons, List.drop_zero]
      go_wp2_with fail
      refine bodyPost_ret (tree_res2 Try.results13 _ HO.out.2.2.1 rfl rfl) rfl ?_
      have hnew : ∀ b, inV (.agg #[.slice A3 (L).length c3, .slice A4 ((dropR L G k.drop).1).length c4]) b → ¬ F b ∧ b ≠ g + 2 ∧ b < wa.heap.size ∧ (inV (.agg #[.slice A1 L.length c1, .slice A2 G.length c2]) b ∨ w.heap.size ≤ b) := by
        intro b hb
        have hs := HS.out
        rcases H2.out.2.1 b hb with h9 | h9
        · have h8 := HK.out.2.2.2.2.1 b h9
          exact ⟨h8.2, by omega, by omega, .inl h9⟩
        · have h7 := HQ.out.2.1
          have h6 := hs.2.2.2.size
          exact ⟨fun hf => by have := HNF.out.1 b hf; omega, by omega, by omega, .inr (by omega)⟩
      refine ⟨_, F', rfl, HO.out.1, ?_, fun b hb => ⟨Nat.lt_of_lt_of_le (hnew b hb).2.2.1 HO.out.2.2.2.size, fun hf => ?_⟩, fun b hb => (HO.out.2.1 b hb).imp id (fun h => Nat.le_trans HBW.out.size h), fun b hb => (hnew b hb).2.2.2, OutF.trans (OutF.of HBW.out) HO.out.2.2.2 (fun n hn => hn.imp id (fun h => by have := HS.out; omega))⟩
      · exact RdT.outf (w := wa) ⟨A3, c3, A4, c4, rfl, H2.out.2.2.1.next HS.out.2.2.2, H2.out.2.2.2.next HS.out.2.2.2⟩ HO.out.2.2.2 (fun b hb hx => by rcases hx with hx | hx; exact (hnew b hb).1 hx; exact (hnew b hb).2.1 hx)
      · rcases HO.out.2.1 b hf with h9 | h9
        · exact (hnew b hb).1 h9
        · have := (hnew b hb).2.2.1
          omega
  have HST := Lib.hid (show stepT ⟨L, G⟩ k = ⟨(addR L k.ins).1, G⟩ by unfold stepT; rw [if_neg hk])
  have KD := Lib.hid (radd_any k.ins v1 HT1.out (Nat.le_refl _) (Nat.le_trans HK.out.2.2.1 (by decide)))
  rw [HST.out]
  have g1 : (k.kind == 0) = false := by simp [hk]
  clear hk
  go_enter Try.func13, Try.ntmps13
  go_upto_region 1 with fail
  rw [← HV.out.1.1, ← HV.out.1.2, show (Value.pointer (some ⟨w.heap.size, 0, none⟩)) = .pointer (some ⟨g, 0, none⟩) by rw [HV.out.2], show (Value.pointer (some ⟨w.heap.size + 1, 0, none⟩)) = .pointer (some ⟨g + 1, 0, none⟩) by rw [HV.out.2], show (Value.pointer (some ⟨w.heap.size + 1 + 1, 0, none⟩)) = .pointer (some ⟨g + 2, 0, none⟩) by rw [HV.out.2]]
  clear HV
  go_wp2_with fail
  go_at_call 36
  refine KD.out.mono ?_
  rintro e v2 ⟨vn, rfl, hTn, hin, h2⟩
  obtain ⟨A3, c3, A4, c4, rfl, s3, s4⟩ := hTn
  clear q0 q1 q2 q3 q4 q5 q6 q7 q8 q9 q10 KD
  have H2 := Lib.hid (And.intro h2 (And.intro hin (And.intro s3 s4)))
  clear h2 hin s3 s4
  go_upto_region 5 with fail
  obtain ⟨wa, ewa⟩ : ∃ v, v = v2.alloc (.cells #[.slice A3 ((addR L k.ins).1).length c3, .slice A4 (G).length c4] 29) := ⟨_, rfl⟩
  obtain ⟨ga, ega⟩ : ∃ b, b = v2.heap.size := ⟨_, rfl⟩
  rw [← ewa, ← ega]
  have ob : O2 wa v2.heap.size 29 ga (.slice A3 ((addR L k.ins).1).length c3) (.slice A4 (G).length c4) := by rw [ewa, ega]; exact O2.newz (Nat.le_refl _) _ _ _
  have ha : Below v2.heap.size v2 wa := by rw [ewa]; exact (Below.refl _ _).alloc (Nat.le_refl _) _
  have hwa : wa.heap.size = ga + 1 := by rw [ewa, ega]; simp
  have hga : g + 3 ≤ ga := by rw [ega]; have := H2.out.1.size; rw [HQ.out.2.1] at this; exact this
  have h1a : Below v1.heap.size v1 wa := H2.out.1.trans (ha.mono H2.out.1.size)
  have hFl := HK.out.2.2.2.2.2
  have hwg : w.heap.size = g := HVE.out
  have HBW := Lib.hid (HQ.out.1.trans (h1a.mono HQ.out.1.size))
  have HNF := Lib.hid (show (∀ b, F b → b < g) ∧ ¬ F (g + 2) ∧ ¬ F ga from ⟨fun b hb => by have := hFl b hb; omega, fun hf => by have := hFl _ hf; omega, fun hf => by have := hFl _ hf; omega⟩)
  have HW := Lib.hid (fun wz (hz : OutF (fun b => F b ∨ b = g + 2) wa wz) => And.intro (HC.out wz (OutF.trans (OutF.of h1a) hz (fun n hn => .inl hn))) (show wz.cell? ⟨ga, 0, none⟩ = some (.slice A3 ((addR L k.ins).1).length c3) ∧ wz.cell? ⟨ga, 1, none⟩ = some (.slice A4 (G).length c4) from
    have hn : ¬ (F ga ∨ ga = g + 2) := fun hx => by rcases hx with hx | hx; exact HNF.out.2.2 hx; omega
    ⟨hz.cell (by omega) hn ob.c0, hz.cell (by omega) hn ob.c1⟩))
  have HS := Lib.hid (And.intro hwa (And.intro hga (And.intro hwg ha)))
  have HRA := Lib.hid (K.next HK.out.1 HBW.out)
  have HOR := Lib.hid (show O2 wa w.heap.size 29 (g + 2) (.slice none 0 0) (.slice none 0 0) from OwnF.keep HQ.out.2.2 h1a)
  clear ewa ega ob ha hwa hga h1a hFl hwg
  refine wp_region_par 8 10 [some 36, some 37, some 38, some 39, some 40, some 41, some 42, none] [4, 7] [some (.agg #[.slice A3 ((addR L k.ins).1).length c3, .slice A4 (G).length c4]), some p, some (.pointer (some ⟨g + 1, 1, none⟩)), some (insV k.ins), some (.int .i64 (addR L k.ins).2), some (.int .i64 (addR L k.ins).2), some (.bool true), none]
    (fun Lb _ wz => (Lb 4 = false → R wz F p L G) ∧ (Lb 4 = true → ∃ F' : Nat → Prop, R wz F' p (addR L k.ins).1 G ∧ (∀ b, F' b → F b ∨ wa.heap.size ≤ b)) ∧ (Lb 7 = false → O2 wz w.heap.size 29 (g + 2) (.slice none 0 0) (.slice none 0 0)) ∧ (Lb 7 = true → O2 wz w.heap.size 29 (g + 2) (.slice A3 ((addR L k.ins).1).length c3) (.slice A4 (G).length c4)) ∧ OutF (fun b => F b ∨ b = g + 2) wa wz) (by kernel_rfl) (by kernel_rfl)
    (fun _ => ⟨fun _ => K.next HRA.out ((Below.refl _ _).drew), fun h => absurd h (by decide), fun _ => HOR.out, fun h => absurd h (by decide), OutF.of ((Below.refl _ _).drew)⟩) (fun u => by simp only [List.filterMap_cons, List.filterMap_nil, puts, List.foldl_cons, List.foldl_nil]; go_simp; exact rfl) ?_ ?_
  · simp only [List.take_succ_cons, List.take_zero]
    refine Par.soft rfl rfl (.agg #[.slice A3 ((addR L k.ins).1).length c3, .slice A4 (G).length c4]) rfl (fun u w Lb Vb hT hh => ⟨rfl, by obtain ⟨⟨k0, k1, k2, k3, k4, k5, k6, k7, k8, k9, k10⟩, b0, b1⟩ := HW.out w hT.2.2.2.2; go_simp⟩) ?_
    refine Par.soft rfl rfl p rfl (fun u w Lb Vb hT hh => ⟨rfl, by go_simp⟩) ?_
    refine Par.soft rfl rfl (.pointer (some ⟨g + 1, 1, none⟩)) rfl (fun u w Lb Vb hT hh => ⟨rfl, by go_simp⟩) ?_
    refine Par.soft rfl rfl (insV k.ins) rfl (fun u w Lb Vb hT hh => ⟨rfl, by have d1 : u 38 = .pointer (some ⟨g + 1, 1, none⟩) := hh.val 2 _ rfl rfl; rw [d1]; obtain ⟨⟨k0, k1, k2, k3, k4, k5, k6, k7, k8, k9, k10⟩, b0, b1⟩ := HW.out w hT.2.2.2.2; go_simp⟩) ?_
    refine Par.hard rfl (fun u wz Lb Vb hT hh => ?_) ?_
    · obtain ⟨t0, t1, t2, t3, t4⟩ := hT
      have d1 : u 37 = p := hh.val 1 _ rfl rfl
      have d2 : u 39 = insV k.ins := hh.val 3 _ rfl rfl
      rw [d1, d2]
      have hr := t0 (hh.not_ 4 (by rfl))
      have hlt : g + 2 < wz.heap.size := Nat.lt_of_lt_of_le (by have := HS.out; omega) t4.size
      refine StepP.of rfl (StepC.call 30 #[p, insV k.ins] rfl (by go_simp) ((K.add k.ins wz hr HK.out.2.1 HK.out.2.2.1).mono ?_))
      rintro z w' ⟨rfl, F', hr', hF', ho'⟩
      refine ⟨_, rfl, fun c hc => by simpa using hc, fun h => absurd h (by simp [lset]), fun _ => ⟨F', hr', fun b hb => (hF' b hb).imp id (fun h => Nat.le_trans t4.size h)⟩, fun h => OwnF.same_ (t2 (by simpa [lset] using h)) (ho'.block (g + 2) hlt HNF.out.2.1), fun h => OwnF.same_ (t3 (by simpa [lset] using h)) (ho'.block (g + 2) hlt HNF.out.2.1), t4.trans ho' (fun n hn => .inl (.inl hn))⟩
    refine Par.soft rfl rfl (.int .i64 (addR L k.ins).2) rfl (fun u w Lb Vb hT hh => ⟨rfl, by go_simp⟩) ?_
    refine Par.soft rfl rfl (.bool true) rfl (fun u w Lb Vb hT hh => ⟨rfl, by have d1 : u 40 = .int .i64 (addR L k.ins).2 := hh.val 4 _ rfl rfl; have d2 : u 41 = .int .i64 (addR L k.ins).2 := hh.val 5 _ rfl rfl; rw [d1, d2]; go_simp⟩) ?_
    refine Par.hard rfl (fun u wz Lb Vb hT hh => ?_) Par.nil
    · obtain ⟨t0, t1, t2, t3, t4⟩ := hT
      have d0 : u 36 = .agg #[.slice A3 ((addR L k.ins).1).length c3, .slice A4 (G).length c4] := hh.val 0 _ rfl rfl
      rw [d0]
      have oz := t2 (hh.not_ 7 (by rfl))
      have z0 := oz.c0
      have z1 := oz.c1
      have f0 := oz.f0
      have f1 := oz.f1
      have hso := set2_out oz (.slice A3 ((addR L k.ins).1).length c3) (.slice A4 (G).length c4)
      refine StepP.store (set2 wz (g + 2) (.slice A3 ((addR L k.ins).1).length c3) (.slice A4 (G).length c4)) rfl rfl (by unfold set2; go_simp) ⟨fun c hc => by simp at hc, fun h => ?_, fun h => ?_, fun h => absurd h (by simp [lset]), fun _ => oz.set_ _ _, t4.trans hso (fun n hn => .inl (.inr hn))⟩
      · exact K.keep (t0 (by simpa [lset] using h)) (fun b hb => set2_only _ _ _ _ b (by have := HNF.out.1 b hb; omega)) hso.size
      · obtain ⟨F', hr', hF'⟩ := t1 (by simpa [lset] using h)
        exact ⟨F', K.keep hr' (fun b hb => set2_only _ _ _ _ b (by rcases hF' b hb with h9 | h9; have := HNF.out.1 b h9; omega; have := HS.out; omega)) hso.size, hF'⟩
  · rintro u v5 hv ⟨Lb, Vb, ⟨_, t1, _, t3, t4⟩, hl⟩
    obtain ⟨F', hr', hF'⟩ := t1 (hl 4 (by decide) rfl).1
    have oz := t3 (hl 7 (by decide) rfl).1
    have d1 : u 42 = .bool true := hv 6 _ (by decide) rfl
    rw [d1]
    have HO := Lib.hid (And.intro hr' (And.intro hF' (And.intro oz t4)))
    clear hv hl t1 t3 t4 hr' hF' oz d1
    simp only [List.drop_succ_cons, List.drop_zero]
    go_wp2_with fail
    refine bodyPost_ret (tree_res2 Try.results13 _ HO.out.2.2.1 rfl rfl) rfl ?_
    have hnew : ∀ b, inV (.agg #[.slice A3 ((addR L k.ins).1).length c3, .slice A4 (G).length c4]) b → ¬ F b ∧ b ≠ g + 2 ∧ b < wa.heap.size ∧ (inV (.agg #[.slice A1 L.length c1, .slice A2 G.length c2]) b ∨ w.heap.size ≤ b) := by
      intro b hb
      have hs := HS.out
      rcases H2.out.2.1 b hb with h9 | h9
      · have h8 := HK.out.2.2.2.2.1 b h9
        exact ⟨h8.2, by omega, by omega, .inl h9⟩
      · have h7 := HQ.out.2.1
        have h6 := hs.2.2.2.size
        exact ⟨fun hf => by have := HNF.out.1 b hf; omega, by omega, by omega, .inr (by omega)⟩
    refine ⟨_, F', rfl, HO.out.1, ?_, fun b hb => ⟨Nat.lt_of_lt_of_le (hnew b hb).2.2.1 HO.out.2.2.2.size, fun hf => ?_⟩, fun b hb => (HO.out.2.1 b hb).imp id (fun h => Nat.le_trans HBW.out.size h), fun b hb => (hnew b hb).2.2.2, OutF.trans (OutF.of HBW.out) HO.out.2.2.2 (fun n hn => hn.imp id (fun h => by have := HS.out; omega))⟩
    · exact RdT.outf (w := wa) ⟨A3, c3, A4, c4, rfl, H2.out.2.2.1.next HS.out.2.2.2, H2.out.2.2.2.next HS.out.2.2.2⟩ HO.out.2.2.2 (fun b hb hx => by rcases hx with hx | hx; exact (hnew b hb).1 hx; exact (hnew b hb).2.1 hx)
    · rcases HO.out.2.1 b hf with h9 | h9
      · exact (hnew b hb).1 h9
      · have := (hnew b hb).2.2.1
        omega
end Go.Proofs.Ytljciakgdpihdaa
