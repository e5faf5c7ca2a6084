/-
  Layer 13: asked over contracts. Written by tools/gen_wc6.py. By an AI agent.
-/
import Derived.Test.YtonfdnihllhcbaaWc1
import Derived.Test.YtonfdnihllhcbaaPar
namespace Go.Proofs.Ytonfdnihllhcbaa
open Go Go.RowKit
set_option maxRecDepth 20000
abbrev kv (k a b : Int) : Value := .agg #[.int .i64 k, .int .i64 a, .int .i64 b]
abbrev kC (k a b : Int) : Array Value := #[.int .i64 k, .int .i64 a, .int .i64 b]
def kF (k a b : Int) (i : Nat) : Value := if i = 0 then .int .i64 k else if i = 1 then .int .i64 a else .int .i64 b
def OAsk (w : World) (B g : Nat) (k a b : Int) : Prop := OwnF w B 37 (some ⟨g, 0, none⟩) 3 3 (kF k a b)
section
variable {w w' : World} {B g : Nat} {k a b : Int}
theorem OAsk.newz (hB : B ≤ w.heap.size) (k a b : Int) : OAsk (w.alloc (.cells (kC k a b) 37)) B w.heap.size k a b := OwnF.lit _ hB _ 3 (kF k a b) (by decide) rfl
theorem OAsk.c0 (h : OAsk w B g k a b) : w.cell? ⟨g, 0, none⟩ = some (.int .i64 k) := OwnF.cell h (k := 0) (by decide)
theorem OAsk.c1 (h : OAsk w B g k a b) : w.cell? ⟨g, 1, none⟩ = some (.int .i64 a) := OwnF.cell h (k := 1) (by decide)
theorem OAsk.c2 (h : OAsk w B g k a b) : w.cell? ⟨g, 2, none⟩ = some (.int .i64 b) := OwnF.cell h (k := 2) (by decide)
end
theorem OutB.only {B C g : Nat} {w v v' : World} (h : OutB B C w v) (ho : Only g v v') (hg : w.heap.size ≤ g) : OutB B C w v' :=
  ⟨ho.os.trans h.os, ho.tape.trans h.tape, ho.output.trans h.output, by rw [ho.size]; exact h.size, fun k hk hn => (ho.block k (by omega)).trans (h.block k hk hn)⟩
theorem OutB.next {B C : Nat} {w v v' : World} (h : OutB B C w v) (hb : Below v.heap.size v v') : OutB B C w v' := h.trans (OutB.of hb)
theorem Rd.only13 {w w' : World} {B g c : Nat} {A : Option Addr} {bs : List UInt8} (h : Rd w B A c bs) (hx : Only g w w') (ho : ∀ ad, A = some ad → ad.block ≠ g) : Rd w' B A c bs :=
  ⟨h.cap, h.nil, fun hn => by
    obtain ⟨b, o, e, hlt, hc⟩ := h.some_ hn
    refine ⟨b, o, e, hlt, fun k hk => ?_⟩
    rw [← hc k hk]
    unfold World.cell?
    rw [hx.block b (ho ⟨b, o, none⟩ e)]⟩
/-- The boxes that asked lays. -/
theorem at_three (w : World) (A : Option Addr) (n c : Nat) (e k a b : Int) : ∃ v g4 g5 g6, v = ((w.alloc (.cells (atC A n c e) 34)).alloc (.cells (kC k a b) 37)).alloc (.cells (atC none 0 0 0) 34) ∧ g4 = w.heap.size ∧ g5 = w.heap.size + 1 ∧ g6 = w.heap.size + 2 ∧
    OAt v w.heap.size g4 A n c e ∧ OAsk v w.heap.size g5 k a b ∧ OAt v w.heap.size g6 none 0 0 0 ∧ Below w.heap.size w v := by
  have h1 : Below w.heap.size w (w.alloc (.cells (atC A n c e) 34)) := (Below.refl _ _).alloc (Nat.le_refl _) _
  have o1 := OAt.newz (w := w) (B := w.heap.size) (Nat.le_refl _) A n c e
  have s1 : (w.alloc (.cells (atC A n c e) 34)).heap.size = w.heap.size + 1 := by simp
  obtain ⟨v1, e1⟩ : ∃ v, v = w.alloc (.cells (atC A n c e) 34) := ⟨_, rfl⟩
  rw [← e1] at h1 o1 s1 ⊢
  have h2 : Below v1.heap.size v1 (v1.alloc (.cells (kC k a b) 37)) := (Below.refl _ _).alloc (Nat.le_refl _) _
  have o2 := OAsk.newz (w := v1) (B := w.heap.size) (by omega) k a b
  have s2 : (v1.alloc (.cells (kC k a b) 37)).heap.size = w.heap.size + 2 := by simp [s1]
  obtain ⟨v2, e2⟩ : ∃ v, v = v1.alloc (.cells (kC k a b) 37) := ⟨_, rfl⟩
  rw [← e2] at h2 o2 s2 ⊢
  have h3 : Below v2.heap.size v2 (v2.alloc (.cells (atC none 0 0 0) 34)) := (Below.refl _ _).alloc (Nat.le_refl _) _
  have o3 := OAt.newz (w := v2) (B := w.heap.size) (by omega) none 0 0 0
  rw [s1] at o2
  rw [s2] at o3
  exact ⟨_, _, _, _, rfl, rfl, rfl, rfl, (o1.keep h2).keep h3, OwnF.keep o2 h3, o3, h1.trans ((h2.trans (h3.mono h2.size)).mono h1.size)⟩
section
variable {R : RdrP} (K : WireC R)
include K
theorem R_only {w w' : World} {B C g : Nat} {p : Value} {bs : List UInt8} {e : Int} (h : R w B C p bs e) (ho : Only g w w') (hg : C ≤ g) : R w' B C p bs e :=
  K.keep h (fun k _ h2 => ho.block k (by omega)) (Nat.le_of_eq ho.size.symm)
set_option maxHeartbeats 6400000 in
theorem asked_num {A : Option Addr} {B C B0 c : Nat} {p : Value} {bs rs : List UInt8} {e a b e2 : Int} {t : Nat} (w : World) (hN : numR bs e a b = (rs, e2, t)) (hq : R w B C p bs e) (hr : Rd w B0 A c bs) (hB : B0 ≤ B) :
    Calls Try.prog 19 #[p, atV A bs.length c e, kv 0 a b] w fun x w' => ∃ A' c', x = .returned (.tuple #[atV A' rs.length c' e2, .bool true]) ∧ Rd w' B0 A' c' rs ∧ R w' B C p rs e2 ∧ OutB B C w w' := by
  obtain ⟨n, en⟩ : ∃ n, n = bs.length := ⟨_, rfl⟩
  obtain ⟨v1, g4, g5, g6, e1, eg4, eg5, eg6, o4, o5, o6, hc⟩ := at_three w A n c e 0 a b
  have hBC := K.le hq
  have hBw : B0 ≤ w.heap.size := by omega
  have hr1 := hr.keep (hc.mono hBw)
  have KD := Lib.hid (rnumA_any e a b v1 hr1 (Nat.le_trans hBw hc.size))
  rw [hN] at KD
  simp only at KD
  rw [← en] at KD ⊢
  have HQ := Lib.hid (K.next hq hc)
  have HB := Lib.hid (And.intro hB (And.intro hBC (And.intro hBw (And.intro (show w.heap.size ≤ g4 by omega) (And.intro (show w.heap.size ≤ g5 by omega) (show w.heap.size ≤ g6 by omega))))))
  have HN := Lib.hid hN
  have HO := Lib.hid (OutB.of (B := B) (C := C) hc)
  clear hN hr hr1 hB hBC hBw hq en
  go_enter Try.func19, Try.ntmps19
  go_wp2_with fail
  rw [← e1, ← eg6, ← eg5, ← eg4]
  have hg56 : g5 < g6 := by omega
  clear e1 eg4 eg5 eg6
  go_at_call 32
  refine KD.out.mono ?_
  rintro z v2 ⟨A2, c2, rfl, r2, h0⟩
  replace o5 : OAsk v2 w.heap.size g5 0 a b := OwnF.keep o5 h0
  replace o6 := o6.keep h0
  have HQ2 := Lib.hid (K.next HQ.out h0)
  have HO2 := Lib.hid (HO.out.next h0)
  clear KD h0 o4 HQ HO hc
  have h3 : Below v2.heap.size v2 (v2.alloc (.cells (atC A2 rs.length c2 e2) 34)) := (Below.refl _ _).alloc (Nat.le_refl _) _
  have o7 := OAt.newz (w := v2) (B := w.heap.size) HO2.out.size A2 rs.length c2 e2
  obtain ⟨v3, e3⟩ : ∃ v, v = v2.alloc (.cells (atC A2 rs.length c2 e2) 34) := ⟨_, rfl⟩
  obtain ⟨g7, eg7⟩ : ∃ g, g = v2.heap.size := ⟨_, rfl⟩
  rw [← e3] at h3 o7
  rw [← eg7] at o7
  have hg7 : w.heap.size ≤ g7 := by rw [eg7]; exact HO2.out.size
  have hg67 : g6 < g7 := by rw [eg7]; exact o6.lt
  replace o5 : OAsk v3 w.heap.size g5 0 a b := OwnF.keep o5 h3
  replace o6 := o6.keep h3
  have hlow := h3.mono (Nat.le_trans HB.out.2.2.1 HO2.out.size)
  replace r2 := r2.keep hlow
  have HQ3 := Lib.hid (K.next HQ2.out h3)
  have HO3 := Lib.hid (HO2.out.next h3)
  have HG := Lib.hid (And.intro hg7 hg67)
  have HG5 := Lib.hid hg56
  clear h3 hlow HQ2 HO2 hg7 hg67 hg56
  go_upto_region 4 with fail
  rw [← e3, ← eg7]
  clear e3 eg7
  refine wp_region_par 10 8 [some 29, some 30, some 31, some 32, some 33, some 34, some 35, some 36, some 37, none] [6, 9] [some (atV A2 rs.length c2 e2), some (p), some (.pointer (some ⟨g5, 1, none⟩)), some (.int .i64 a), some (.pointer (some ⟨g5, 2, none⟩)), some (.int .i64 b), some (.int .i64 (t : Int)), some (.int .i64 (t : Int)), some (.bool true), none]
    (fun L V wz => OAt wz w.heap.size g7 A2 rs.length c2 e2 ∧ OAsk wz w.heap.size g5 0 a b ∧ (L 9 = false → OAt wz w.heap.size g6 none 0 0 0) ∧ (L 9 = true → OAt wz w.heap.size g6 A2 rs.length c2 e2) ∧ (L 6 = false → R wz B C p bs e) ∧ (L 6 = true → R wz B C p rs e2) ∧ OutB B C w wz ∧ Rd wz B0 A2 c2 rs) (by kernel_rfl) (by kernel_rfl)
    (fun V => ⟨OwnF.keep o7 (Below.refl _ _).drew, OwnF.keep o5 (Below.refl _ _).drew, fun _ => OwnF.keep o6 (Below.refl _ _).drew, fun h => absurd h (by decide), fun _ => K.next HQ3.out (Below.refl _ _).drew, fun h => absurd h (by decide), HO3.out.next (Below.refl _ _).drew, r2.keep (Below.refl _ _).drew⟩)
    (fun u => by simp only [List.filterMap_cons, List.filterMap_nil, puts, List.foldl_cons, List.foldl_nil]; go_simp; exact rfl) ?_ ?_
  · simp only [List.take_succ_cons, List.take_zero]
    refine Par.soft rfl rfl (atV A2 rs.length c2 e2) rfl (fun u w' L V hT hh => ⟨rfl, by have m0 := hT.1.c0; have m1 := hT.1.c1; go_simp⟩) ?_
    refine Par.soft rfl rfl (p) rfl (fun u w' L V hT hh => ⟨rfl, by go_simp⟩) ?_
    refine Par.soft rfl rfl (.pointer (some ⟨g5, 1, none⟩)) rfl (fun u w' L V hT hh => ⟨rfl, by go_simp⟩) ?_
    refine Par.soft rfl rfl (.int .i64 a) rfl (fun u w' L V hT hh => ⟨rfl, by have d31 : u 31 = .pointer (some ⟨g5, 1, none⟩) := hh.val 2 _ rfl rfl; rw [d31]; have m0 := hT.2.1.c0; have m1 := hT.2.1.c1; have m2 := hT.2.1.c2; go_simp⟩) ?_
    refine Par.soft rfl rfl (.pointer (some ⟨g5, 2, none⟩)) rfl (fun u w' L V hT hh => ⟨rfl, by go_simp⟩) ?_
    refine Par.soft rfl rfl (.int .i64 b) rfl (fun u w' L V hT hh => ⟨rfl, by have d33 : u 33 = .pointer (some ⟨g5, 2, none⟩) := hh.val 4 _ rfl rfl; rw [d33]; have m0 := hT.2.1.c0; have m1 := hT.2.1.c1; have m2 := hT.2.1.c2; go_simp⟩) ?_
    refine Par.hard rfl (fun u w' L V hT hh => ?_) ?_
    · have d30 : u 30 = p := hh.val 1 _ rfl rfl; have d32 : u 32 = .int .i64 a := hh.val 3 _ rfl rfl; have d34 : u 34 = .int .i64 b := hh.val 5 _ rfl rfl
      rw [d30, d32, d34]
      obtain ⟨t7, t5, t6a, t6b, tqa, tqb, tO, tr⟩ := hT
      have hL := hh.not_ 6 rfl
      have hL9 := hh.not_ 9 rfl
      have HK := K.number a b w' (tqa hL)
      rw [HN.out] at HK
      simp only at HK
      have hgx := HB.out
      refine StepP.of rfl (StepC.call 24 #[p, .int .i64 a, .int .i64 b] rfl (by go_simp) (HK.mono ?_))
      rintro z wz ⟨rfl, q, h0⟩
      have hlow : Below B0 w' wz := h0.low (Nat.le_trans (by omega) tO.size) hgx.1
      have hsz := tO.size
      refine ⟨_, rfl, fun c hc => (Option.some.inj hc), OwnF.outb t7 h0 (by have := HG.out; omega), OwnF.outb t5 h0 (by omega), fun _ => OwnF.outb (t6a hL9) h0 (by omega), fun h => absurd h (by rw [show lset L 6 9 = L 9 from rfl, hL9]; decide), fun h => absurd h (by simp [lset]), fun _ => q, tO.trans h0, tr.keep hlow⟩
    refine Par.soft rfl rfl (.int .i64 (t : Int)) rfl (fun u w' L V hT hh => ⟨rfl, by go_simp⟩) ?_
    refine Par.soft rfl rfl (.bool true) rfl (fun u w' L V hT hh => ⟨rfl, by have d35 : u 35 = .int .i64 (t : Int) := hh.val 6 _ rfl rfl; have d36 : u 36 = .int .i64 (t : Int) := hh.val 7 _ rfl rfl; rw [d35, d36]; go_simp⟩) ?_
    refine Par.hard rfl (fun u w' L V hT hh => ?_) Par.nil
    have d29 : u 29 = atV A2 rs.length c2 e2 := hh.val 0 _ rfl rfl
    rw [d29]
    obtain ⟨t7, t5, t6a, t6b, tqa, tqb, tO, tr⟩ := hT
    have hL := hh.not_ 9 rfl
    have hLc := hh.been 6 rfl rfl
    have oz := t6a hL
    have z0 := oz.c0
    have z1 := oz.c1
    have f0 := oz.f0
    have f1 := oz.f1
    have hgx := HB.out
    have ho := setAt_only w' g6 A2 rs.length c2 e2
    have hlow : Below B0 w' (setAt w' g6 A2 rs.length c2 e2) := ho.below (by omega)
    refine StepP.store (setAt w' g6 A2 rs.length c2 e2) rfl rfl (by unfold setAt; go_simp) ⟨fun c hc => by simp at hc, OwnF.only t7 ho (by have := HG.out; omega), OwnF.only t5 ho (by have := HG5.out; omega), fun h => absurd h (by simp [lset]), fun _ => oz.set_ _ _ _ _, fun h => absurd h (by rw [show lset L 9 6 = L 6 from rfl, hLc]; decide), fun _ => R_only K (tqb hLc) ho (by omega), tO.only ho (by omega), tr.keep hlow⟩
  · rintro u v4 hv ⟨L, V, ⟨t7, t5, t6a, t6b, tqa, tqb, tO, tr⟩, hl⟩
    have d37 : u 37 = .bool true := hv 8 _ (by decide) rfl
    rw [d37]
    have oz := t6b (hl 9 (by decide) rfl).1
    have q := tqb (hl 6 (by decide) rfl).1
    have HF := Lib.hid (And.intro oz (And.intro tr (And.intro q tO)))
    clear oz q t7 t5 t6a t6b tqa tqb tO tr hv hl d37 o5 o6 o7 r2
    simp only [List.drop_succ_cons, List.drop_zero]
    go_wp2_with fail
    exact bodyPost_ret (at_results2 Try.results19 _ HF.out.1 rfl rfl) rfl ⟨A2, c2, rfl, HF.out.2.1, HF.out.2.2.1, HF.out.2.2.2⟩
set_option maxHeartbeats 6400000 in
theorem asked_text {A : Option Addr} {B C B0 c : Nat} {p : Value} {bs rs : List UInt8} {e a b e2 : Int} {t : List UInt8} (w : World) (hN : textR bs e a = (rs, e2, t)) (hq : R w B C p bs e) (hr : Rd w B0 A c bs) (hB : B0 ≤ B) :
    Calls Try.prog 19 #[p, atV A bs.length c e, kv 1 a b] w fun x w' => ∃ A' c', x = .returned (.tuple #[atV A' rs.length c' e2, .bool true]) ∧ Rd w' B0 A' c' rs ∧ R w' B C p rs e2 ∧ OutB B C w w' := by
  obtain ⟨n, en⟩ : ∃ n, n = bs.length := ⟨_, rfl⟩
  obtain ⟨v1, g4, g5, g6, e1, eg4, eg5, eg6, o4, o5, o6, hc⟩ := at_three w A n c e 1 a b
  have hBC := K.le hq
  have hBw : B0 ≤ w.heap.size := by omega
  have hr1 := hr.keep (hc.mono hBw)
  have KD := Lib.hid (rtextA_any e a v1 hr1 (Nat.le_trans hBw hc.size))
  rw [hN] at KD
  simp only at KD
  rw [← en] at KD ⊢
  have HQ := Lib.hid (K.next hq hc)
  have HB := Lib.hid (And.intro hB (And.intro hBC (And.intro hBw (And.intro (show w.heap.size ≤ g4 by omega) (And.intro (show w.heap.size ≤ g5 by omega) (show w.heap.size ≤ g6 by omega))))))
  have HN := Lib.hid hN
  have HO := Lib.hid (OutB.of (B := B) (C := C) hc)
  clear hN hr hr1 hB hBC hBw hq en
  go_enter Try.func19, Try.ntmps19
  go_wp2_with fail
  rw [← e1, ← eg6, ← eg5, ← eg4]
  have hg56 : g5 < g6 := by omega
  clear e1 eg4 eg5 eg6
  go_at_call 33
  refine KD.out.mono ?_
  rintro z v2 ⟨A2, c2, A5, c5, rfl, r2, r5, h0⟩
  replace o5 : OAsk v2 w.heap.size g5 1 a b := OwnF.keep o5 h0
  replace o6 := o6.keep h0
  have HQ2 := Lib.hid (K.next HQ.out h0)
  have HO2 := Lib.hid (HO.out.next h0)
  clear KD h0 o4 HQ HO hc
  have h3 : Below v2.heap.size v2 (v2.alloc (.cells (atC A2 rs.length c2 e2) 34)) := (Below.refl _ _).alloc (Nat.le_refl _) _
  have o7 := OAt.newz (w := v2) (B := w.heap.size) HO2.out.size A2 rs.length c2 e2
  obtain ⟨v3, e3⟩ : ∃ v, v = v2.alloc (.cells (atC A2 rs.length c2 e2) 34) := ⟨_, rfl⟩
  obtain ⟨g7, eg7⟩ : ∃ g, g = v2.heap.size := ⟨_, rfl⟩
  rw [← e3] at h3 o7
  rw [← eg7] at o7
  have hg7 : w.heap.size ≤ g7 := by rw [eg7]; exact HO2.out.size
  have hg67 : g6 < g7 := by rw [eg7]; exact o6.lt
  replace o5 : OAsk v3 w.heap.size g5 1 a b := OwnF.keep o5 h3
  replace o6 := o6.keep h3
  have hlow := h3.mono (Nat.le_trans HB.out.2.2.1 HO2.out.size)
  replace r2 := r2.keep hlow
  replace r5 := r5.keep hlow
  have HQ3 := Lib.hid (K.next HQ2.out h3)
  have HO3 := Lib.hid (HO2.out.next h3)
  have HG := Lib.hid (And.intro hg7 hg67)
  have HG5 := Lib.hid hg56
  clear h3 hlow HQ2 HO2 hg7 hg67 hg56
  go_upto_region 7 with fail
  rw [← e3, ← eg7]
  clear e3 eg7
  refine wp_region_par 10 8 [some 47, some 48, some 49, some 50, some 51, some 52, some 53, some 54, some 55, none] [4, 9] [some (atV A2 rs.length c2 e2), some (p), some (.pointer (some ⟨g5, 1, none⟩)), some (.int .i64 a), none, some (.string ⟨t.toArray⟩), some (.slice A5 t.length c5), some (.string ⟨t.toArray⟩), some (.bool true), none]
    (fun L V wz => OAt wz w.heap.size g7 A2 rs.length c2 e2 ∧ OAsk wz w.heap.size g5 1 a b ∧ (L 9 = false → OAt wz w.heap.size g6 none 0 0 0) ∧ (L 9 = true → OAt wz w.heap.size g6 A2 rs.length c2 e2) ∧ (L 4 = false → R wz B C p bs e) ∧ (L 4 = true → R wz B C p rs e2 ∧ ∃ A c, V 4 = .slice A t.length c ∧ Rd wz wz.heap.size A c t ∧ ∀ ad, A = some ad → ad.block ≠ g6) ∧ OutB B C w wz ∧ Rd wz B0 A2 c2 rs ∧ Rd wz B0 A5 c5 t) (by kernel_rfl) (by kernel_rfl)
    (fun V => ⟨OwnF.keep o7 (Below.refl _ _).drew, OwnF.keep o5 (Below.refl _ _).drew, fun _ => OwnF.keep o6 (Below.refl _ _).drew, fun h => absurd h (by decide), fun _ => K.next HQ3.out (Below.refl _ _).drew, fun h => absurd h (by decide), HO3.out.next (Below.refl _ _).drew, r2.keep (Below.refl _ _).drew, r5.keep (Below.refl _ _).drew⟩)
    (fun u => by simp only [List.filterMap_cons, List.filterMap_nil, puts, List.foldl_cons, List.foldl_nil]; go_simp; exact rfl) ?_ ?_
  · simp only [List.take_succ_cons, List.take_zero]
    refine Par.soft rfl rfl (atV A2 rs.length c2 e2) rfl (fun u w' L V hT hh => ⟨rfl, by have m0 := hT.1.c0; have m1 := hT.1.c1; go_simp⟩) ?_
    refine Par.soft rfl rfl (p) rfl (fun u w' L V hT hh => ⟨rfl, by go_simp⟩) ?_
    refine Par.soft rfl rfl (.pointer (some ⟨g5, 1, none⟩)) rfl (fun u w' L V hT hh => ⟨rfl, by go_simp⟩) ?_
    refine Par.soft rfl rfl (.int .i64 a) rfl (fun u w' L V hT hh => ⟨rfl, by have d49 : u 49 = .pointer (some ⟨g5, 1, none⟩) := hh.val 2 _ rfl rfl; rw [d49]; have m0 := hT.2.1.c0; have m1 := hT.2.1.c1; have m2 := hT.2.1.c2; go_simp⟩) ?_
    refine Par.hard rfl (fun u w' L V hT hh => ?_) ?_
    · have d48 : u 48 = p := hh.val 1 _ rfl rfl; have d50 : u 50 = .int .i64 a := hh.val 3 _ rfl rfl
      rw [d48, d50]
      obtain ⟨t7, t5, t6a, t6b, tqa, tqb, tO, tr, tr5⟩ := hT
      have hL := hh.not_ 4 rfl
      have hL9 := hh.not_ 9 rfl
      have HK := K.text a w' (tqa hL)
      rw [HN.out] at HK
      simp only at HK
      have hgx := HB.out
      refine StepP.of rfl (StepC.call 25 #[p, .int .i64 a] rfl (by go_simp) (HK.mono ?_))
      rintro z wz ⟨A9, c9, rfl, r9, hf9, q, h0⟩
      have hlow : Below B0 w' wz := h0.low (Nat.le_trans (by omega) tO.size) hgx.1
      have hsz := tO.size
      refine ⟨_, rfl, fun c hc => by simp at hc, OwnF.outb t7 h0 (by have := HG.out; omega), OwnF.outb t5 h0 (by omega), fun _ => OwnF.outb (t6a hL9) h0 (by omega), fun h => absurd h (by rw [show lset L 4 9 = L 9 from rfl, hL9]; decide), fun h => absurd h (by simp [lset]), fun _ => ⟨q, A9, c9, rfl, r9, fun ad had => by have hlt := (t6a hL9).lt; rcases hf9 ad had with h | h <;> omega⟩, tO.trans h0, tr.keep hlow, tr5.keep hlow⟩
    refine Par.soft rfl rfl (.string ⟨t.toArray⟩) rfl (fun u w' L V hT hh => ?_) ?_
    · obtain ⟨_, A9, c9, e9, r9, _⟩ := hT.2.2.2.2.2.1 (hh.been 4 rfl rfl)
      rw [hh.hv 4 rfl] at e9
      replace e9 : u 51 = .slice A9 t.length c9 := e9
      rw [e9]
      exact ⟨rfl, run_conv rfl rfl (str13 w' rfl r9)⟩
    refine Par.soft rfl rfl (.slice A5 t.length c5) rfl (fun u w' L V hT hh => ⟨rfl, by go_simp⟩) ?_
    refine Par.soft rfl rfl (.string ⟨t.toArray⟩) rfl (fun u w' L V hT hh => ⟨rfl, by have d53 : u 53 = .slice A5 t.length c5 := hh.val 6 _ rfl rfl; rw [d53]; exact run_conv rfl rfl (str13 w' rfl (hT.2.2.2.2.2.2.2.2.mono (Nat.le_trans HB.out.2.2.1 hT.2.2.2.2.2.2.1.size)))⟩) ?_
    refine Par.soft rfl rfl (.bool true) rfl (fun u w' L V hT hh => ⟨rfl, by have d52 : u 52 = .string ⟨t.toArray⟩ := hh.val 5 _ rfl rfl; have d54 : u 54 = .string ⟨t.toArray⟩ := hh.val 7 _ rfl rfl; rw [d52, d54]; go_simp⟩) ?_
    refine Par.hard rfl (fun u w' L V hT hh => ?_) Par.nil
    have d47 : u 47 = atV A2 rs.length c2 e2 := hh.val 0 _ rfl rfl
    rw [d47]
    obtain ⟨t7, t5, t6a, t6b, tqa, tqb, tO, tr, tr5⟩ := hT
    have hL := hh.not_ 9 rfl
    have hLc := hh.been 4 rfl rfl
    have oz := t6a hL
    have z0 := oz.c0
    have z1 := oz.c1
    have f0 := oz.f0
    have f1 := oz.f1
    have hgx := HB.out
    have ho := setAt_only w' g6 A2 rs.length c2 e2
    have hlow : Below B0 w' (setAt w' g6 A2 rs.length c2 e2) := ho.below (by omega)
    refine StepP.store (setAt w' g6 A2 rs.length c2 e2) rfl rfl (by unfold setAt; go_simp) ⟨fun c hc => by simp at hc, OwnF.only t7 ho (by have := HG.out; omega), OwnF.only t5 ho (by have := HG5.out; omega), fun h => absurd h (by simp [lset]), fun _ => oz.set_ _ _ _ _, fun h => absurd h (by rw [show lset L 9 4 = L 4 from rfl, hLc]; decide), fun _ => ?_, tO.only ho (by omega), tr.keep hlow, tr5.keep hlow⟩
    obtain ⟨q, A9, c9, e9, r9, hf9⟩ := tqb hLc
    exact ⟨R_only K q ho (by omega), A9, c9, e9, (r9.only13 ho hf9).mono (Nat.le_of_eq ho.size.symm), hf9⟩
  · rintro u v4 hv ⟨L, V, ⟨t7, t5, t6a, t6b, tqa, tqb, tO, tr, tr5⟩, hl⟩
    have d55 : u 55 = .bool true := hv 8 _ (by decide) rfl
    rw [d55]
    have oz := t6b (hl 9 (by decide) rfl).1
    have q := tqb (hl 4 (by decide) rfl).1
    have HF := Lib.hid (And.intro oz (And.intro tr (And.intro q.1 tO)))
    clear oz q t7 t5 t6a t6b tqa tqb tO tr tr5 hv hl d55 o5 o6 o7 r2 r5
    simp only [List.drop_succ_cons, List.drop_zero]
    go_wp2_with fail
    exact bodyPost_ret (at_results2 Try.results19 _ HF.out.1 rfl rfl) rfl ⟨A2, c2, rfl, HF.out.2.1, HF.out.2.2.1, HF.out.2.2.2⟩
set_option maxHeartbeats 6400000 in
theorem asked_fixed {A : Option Addr} {B C B0 c : Nat} {p : Value} {bs rs : List UInt8} {e a b e2 : Int} {t : List UInt8} (w : World) (hN : fixR bs e a = (rs, e2, t)) (hq : R w B C p bs e) (hr : Rd w B0 A c bs) (hB : B0 ≤ B) :
    Calls Try.prog 19 #[p, atV A bs.length c e, kv 2 a b] w fun x w' => ∃ A' c', x = .returned (.tuple #[atV A' rs.length c' e2, .bool true]) ∧ Rd w' B0 A' c' rs ∧ R w' B C p rs e2 ∧ OutB B C w w' := by
  obtain ⟨n, en⟩ : ∃ n, n = bs.length := ⟨_, rfl⟩
  obtain ⟨v1, g4, g5, g6, e1, eg4, eg5, eg6, o4, o5, o6, hc⟩ := at_three w A n c e 2 a b
  have hBC := K.le hq
  have hBw : B0 ≤ w.heap.size := by omega
  have hr1 := hr.keep (hc.mono hBw)
  have KD := Lib.hid (rfixA_any e a v1 hr1 (Nat.le_trans hBw hc.size))
  rw [hN] at KD
  simp only at KD
  rw [← en] at KD ⊢
  have HQ := Lib.hid (K.next hq hc)
  have HB := Lib.hid (And.intro hB (And.intro hBC (And.intro hBw (And.intro (show w.heap.size ≤ g4 by omega) (And.intro (show w.heap.size ≤ g5 by omega) (show w.heap.size ≤ g6 by omega))))))
  have HN := Lib.hid hN
  have HO := Lib.hid (OutB.of (B := B) (C := C) hc)
  clear hN hr hr1 hB hBC hBw hq en
  go_enter Try.func19, Try.ntmps19
  go_wp2_with fail
  rw [← e1, ← eg6, ← eg5, ← eg4]
  have hg56 : g5 < g6 := by omega
  clear e1 eg4 eg5 eg6
  go_at_call 34
  refine KD.out.mono ?_
  rintro z v2 ⟨A2, c2, A5, c5, rfl, r2, r5, h0⟩
  replace o5 : OAsk v2 w.heap.size g5 2 a b := OwnF.keep o5 h0
  replace o6 := o6.keep h0
  have HQ2 := Lib.hid (K.next HQ.out h0)
  have HO2 := Lib.hid (HO.out.next h0)
  clear KD h0 o4 HQ HO hc
  have h3 : Below v2.heap.size v2 (v2.alloc (.cells (atC A2 rs.length c2 e2) 34)) := (Below.refl _ _).alloc (Nat.le_refl _) _
  have o7 := OAt.newz (w := v2) (B := w.heap.size) HO2.out.size A2 rs.length c2 e2
  obtain ⟨v3, e3⟩ : ∃ v, v = v2.alloc (.cells (atC A2 rs.length c2 e2) 34) := ⟨_, rfl⟩
  obtain ⟨g7, eg7⟩ : ∃ g, g = v2.heap.size := ⟨_, rfl⟩
  rw [← e3] at h3 o7
  rw [← eg7] at o7
  have hg7 : w.heap.size ≤ g7 := by rw [eg7]; exact HO2.out.size
  have hg67 : g6 < g7 := by rw [eg7]; exact o6.lt
  replace o5 : OAsk v3 w.heap.size g5 2 a b := OwnF.keep o5 h3
  replace o6 := o6.keep h3
  have hlow := h3.mono (Nat.le_trans HB.out.2.2.1 HO2.out.size)
  replace r2 := r2.keep hlow
  replace r5 := r5.keep hlow
  have HQ3 := Lib.hid (K.next HQ2.out h3)
  have HO3 := Lib.hid (HO2.out.next h3)
  have HG := Lib.hid (And.intro hg7 hg67)
  have HG5 := Lib.hid hg56
  clear h3 hlow HQ2 HO2 hg7 hg67 hg56
  go_upto_region 10 with fail
  rw [← e3, ← eg7]
  clear e3 eg7
  refine wp_region_par 10 8 [some 65, some 66, some 67, some 68, some 69, some 70, some 71, some 72, some 73, none] [4, 9] [some (atV A2 rs.length c2 e2), some (p), some (.pointer (some ⟨g5, 1, none⟩)), some (.int .i64 a), none, some (.string ⟨t.toArray⟩), some (.slice A5 t.length c5), some (.string ⟨t.toArray⟩), some (.bool true), none]
    (fun L V wz => OAt wz w.heap.size g7 A2 rs.length c2 e2 ∧ OAsk wz w.heap.size g5 2 a b ∧ (L 9 = false → OAt wz w.heap.size g6 none 0 0 0) ∧ (L 9 = true → OAt wz w.heap.size g6 A2 rs.length c2 e2) ∧ (L 4 = false → R wz B C p bs e) ∧ (L 4 = true → R wz B C p rs e2 ∧ ∃ A c, V 4 = .slice A t.length c ∧ Rd wz wz.heap.size A c t ∧ ∀ ad, A = some ad → ad.block ≠ g6) ∧ OutB B C w wz ∧ Rd wz B0 A2 c2 rs ∧ Rd wz B0 A5 c5 t) (by kernel_rfl) (by kernel_rfl)
    (fun V => ⟨OwnF.keep o7 (Below.refl _ _).drew, OwnF.keep o5 (Below.refl _ _).drew, fun _ => OwnF.keep o6 (Below.refl _ _).drew, fun h => absurd h (by decide), fun _ => K.next HQ3.out (Below.refl _ _).drew, fun h => absurd h (by decide), HO3.out.next (Below.refl _ _).drew, r2.keep (Below.refl _ _).drew, r5.keep (Below.refl _ _).drew⟩)
    (fun u => by simp only [List.filterMap_cons, List.filterMap_nil, puts, List.foldl_cons, List.foldl_nil]; go_simp; exact rfl) ?_ ?_
  · simp only [List.take_succ_cons, List.take_zero]
    refine Par.soft rfl rfl (atV A2 rs.length c2 e2) rfl (fun u w' L V hT hh => ⟨rfl, by have m0 := hT.1.c0; have m1 := hT.1.c1; go_simp⟩) ?_
    refine Par.soft rfl rfl (p) rfl (fun u w' L V hT hh => ⟨rfl, by go_simp⟩) ?_
    refine Par.soft rfl rfl (.pointer (some ⟨g5, 1, none⟩)) rfl (fun u w' L V hT hh => ⟨rfl, by go_simp⟩) ?_
    refine Par.soft rfl rfl (.int .i64 a) rfl (fun u w' L V hT hh => ⟨rfl, by have d67 : u 67 = .pointer (some ⟨g5, 1, none⟩) := hh.val 2 _ rfl rfl; rw [d67]; have m0 := hT.2.1.c0; have m1 := hT.2.1.c1; have m2 := hT.2.1.c2; go_simp⟩) ?_
    refine Par.hard rfl (fun u w' L V hT hh => ?_) ?_
    · have d66 : u 66 = p := hh.val 1 _ rfl rfl; have d68 : u 68 = .int .i64 a := hh.val 3 _ rfl rfl
      rw [d66, d68]
      obtain ⟨t7, t5, t6a, t6b, tqa, tqb, tO, tr, tr5⟩ := hT
      have hL := hh.not_ 4 rfl
      have hL9 := hh.not_ 9 rfl
      have HK := K.fixed a w' (tqa hL)
      rw [HN.out] at HK
      simp only at HK
      have hgx := HB.out
      refine StepP.of rfl (StepC.call 28 #[p, .int .i64 a] rfl (by go_simp) (HK.mono ?_))
      rintro z wz ⟨A9, c9, rfl, r9, hf9, q, h0⟩
      have hlow : Below B0 w' wz := h0.low (Nat.le_trans (by omega) tO.size) hgx.1
      have hsz := tO.size
      refine ⟨_, rfl, fun c hc => by simp at hc, OwnF.outb t7 h0 (by have := HG.out; omega), OwnF.outb t5 h0 (by omega), fun _ => OwnF.outb (t6a hL9) h0 (by omega), fun h => absurd h (by rw [show lset L 4 9 = L 9 from rfl, hL9]; decide), fun h => absurd h (by simp [lset]), fun _ => ⟨q, A9, c9, rfl, r9, fun ad had => by have hlt := (t6a hL9).lt; rcases hf9 ad had with h | h <;> omega⟩, tO.trans h0, tr.keep hlow, tr5.keep hlow⟩
    refine Par.soft rfl rfl (.string ⟨t.toArray⟩) rfl (fun u w' L V hT hh => ?_) ?_
    · obtain ⟨_, A9, c9, e9, r9, _⟩ := hT.2.2.2.2.2.1 (hh.been 4 rfl rfl)
      rw [hh.hv 4 rfl] at e9
      replace e9 : u 69 = .slice A9 t.length c9 := e9
      rw [e9]
      exact ⟨rfl, run_conv rfl rfl (str13 w' rfl r9)⟩
    refine Par.soft rfl rfl (.slice A5 t.length c5) rfl (fun u w' L V hT hh => ⟨rfl, by go_simp⟩) ?_
    refine Par.soft rfl rfl (.string ⟨t.toArray⟩) rfl (fun u w' L V hT hh => ⟨rfl, by have d71 : u 71 = .slice A5 t.length c5 := hh.val 6 _ rfl rfl; rw [d71]; exact run_conv rfl rfl (str13 w' rfl (hT.2.2.2.2.2.2.2.2.mono (Nat.le_trans HB.out.2.2.1 hT.2.2.2.2.2.2.1.size)))⟩) ?_
    refine Par.soft rfl rfl (.bool true) rfl (fun u w' L V hT hh => ⟨rfl, by have d70 : u 70 = .string ⟨t.toArray⟩ := hh.val 5 _ rfl rfl; have d72 : u 72 = .string ⟨t.toArray⟩ := hh.val 7 _ rfl rfl; rw [d70, d72]; go_simp⟩) ?_
    refine Par.hard rfl (fun u w' L V hT hh => ?_) Par.nil
    have d65 : u 65 = atV A2 rs.length c2 e2 := hh.val 0 _ rfl rfl
    rw [d65]
    obtain ⟨t7, t5, t6a, t6b, tqa, tqb, tO, tr, tr5⟩ := hT
    have hL := hh.not_ 9 rfl
    have hLc := hh.been 4 rfl rfl
    have oz := t6a hL
    have z0 := oz.c0
    have z1 := oz.c1
    have f0 := oz.f0
    have f1 := oz.f1
    have hgx := HB.out
    have ho := setAt_only w' g6 A2 rs.length c2 e2
    have hlow : Below B0 w' (setAt w' g6 A2 rs.length c2 e2) := ho.below (by omega)
    refine StepP.store (setAt w' g6 A2 rs.length c2 e2) rfl rfl (by unfold setAt; go_simp) ⟨fun c hc => by simp at hc, OwnF.only t7 ho (by have := HG.out; omega), OwnF.only t5 ho (by have := HG5.out; omega), fun h => absurd h (by simp [lset]), fun _ => oz.set_ _ _ _ _, fun h => absurd h (by rw [show lset L 9 4 = L 4 from rfl, hLc]; decide), fun _ => ?_, tO.only ho (by omega), tr.keep hlow, tr5.keep hlow⟩
    obtain ⟨q, A9, c9, e9, r9, hf9⟩ := tqb hLc
    exact ⟨R_only K q ho (by omega), A9, c9, e9, (r9.only13 ho hf9).mono (Nat.le_of_eq ho.size.symm), hf9⟩
  · rintro u v4 hv ⟨L, V, ⟨t7, t5, t6a, t6b, tqa, tqb, tO, tr, tr5⟩, hl⟩
    have d73 : u 73 = .bool true := hv 8 _ (by decide) rfl
    rw [d73]
    have oz := t6b (hl 9 (by decide) rfl).1
    have q := tqb (hl 4 (by decide) rfl).1
    have HF := Lib.hid (And.intro oz (And.intro tr (And.intro q.1 tO)))
    clear oz q t7 t5 t6a t6b tqa tqb tO tr tr5 hv hl d73 o5 o6 o7 r2 r5
    simp only [List.drop_succ_cons, List.drop_zero]
    go_wp2_with fail
    exact bodyPost_ret (at_results2 Try.results19 _ HF.out.1 rfl rfl) rfl ⟨A2, c2, rfl, HF.out.2.1, HF.out.2.2.1, HF.out.2.2.2⟩
set_option maxHeartbeats 6400000 in
theorem asked_flag {A : Option Addr} {B C B0 c : Nat} {p : Value} {bs rs : List UInt8} {e a b e2 : Int} {t : Bool} (w : World) (hN : flagR bs e = (rs, e2, t)) (hq : R w B C p bs e) (hr : Rd w B0 A c bs) (hB : B0 ≤ B) :
    Calls Try.prog 19 #[p, atV A bs.length c e, kv 3 a b] w fun x w' => ∃ A' c', x = .returned (.tuple #[atV A' rs.length c' e2, .bool true]) ∧ Rd w' B0 A' c' rs ∧ R w' B C p rs e2 ∧ OutB B C w w' := by
  obtain ⟨n, en⟩ : ∃ n, n = bs.length := ⟨_, rfl⟩
  obtain ⟨v1, g4, g5, g6, e1, eg4, eg5, eg6, o4, o5, o6, hc⟩ := at_three w A n c e 3 a b
  have hBC := K.le hq
  have hBw : B0 ≤ w.heap.size := by omega
  have hr1 := hr.keep (hc.mono hBw)
  have KD := Lib.hid (rflagA_any e v1 hr1 (Nat.le_trans hBw hc.size))
  rw [hN] at KD
  simp only at KD
  rw [← en] at KD ⊢
  have HQ := Lib.hid (K.next hq hc)
  have HB := Lib.hid (And.intro hB (And.intro hBC (And.intro hBw (And.intro (show w.heap.size ≤ g4 by omega) (And.intro (show w.heap.size ≤ g5 by omega) (show w.heap.size ≤ g6 by omega))))))
  have HN := Lib.hid hN
  have HO := Lib.hid (OutB.of (B := B) (C := C) hc)
  clear hN hr hr1 hB hBC hBw hq en
  go_enter Try.func19, Try.ntmps19
  go_wp2_with fail
  rw [← e1, ← eg6, ← eg5, ← eg4]
  have hg56 : g5 < g6 := by omega
  clear e1 eg4 eg5 eg6
  go_at_call 35
  refine KD.out.mono ?_
  rintro z v2 ⟨A2, c2, rfl, r2, h0⟩
  replace o5 : OAsk v2 w.heap.size g5 3 a b := OwnF.keep o5 h0
  replace o6 := o6.keep h0
  have HQ2 := Lib.hid (K.next HQ.out h0)
  have HO2 := Lib.hid (HO.out.next h0)
  clear KD h0 o4 HQ HO hc
  have h3 : Below v2.heap.size v2 (v2.alloc (.cells (atC A2 rs.length c2 e2) 34)) := (Below.refl _ _).alloc (Nat.le_refl _) _
  have o7 := OAt.newz (w := v2) (B := w.heap.size) HO2.out.size A2 rs.length c2 e2
  obtain ⟨v3, e3⟩ : ∃ v, v = v2.alloc (.cells (atC A2 rs.length c2 e2) 34) := ⟨_, rfl⟩
  obtain ⟨g7, eg7⟩ : ∃ g, g = v2.heap.size := ⟨_, rfl⟩
  rw [← e3] at h3 o7
  rw [← eg7] at o7
  have hg7 : w.heap.size ≤ g7 := by rw [eg7]; exact HO2.out.size
  have hg67 : g6 < g7 := by rw [eg7]; exact o6.lt
  replace o5 : OAsk v3 w.heap.size g5 3 a b := OwnF.keep o5 h3
  replace o6 := o6.keep h3
  have hlow := h3.mono (Nat.le_trans HB.out.2.2.1 HO2.out.size)
  replace r2 := r2.keep hlow
  have HQ3 := Lib.hid (K.next HQ2.out h3)
  have HO3 := Lib.hid (HO2.out.next h3)
  have HG := Lib.hid (And.intro hg7 hg67)
  have HG5 := Lib.hid hg56
  clear h3 hlow HQ2 HO2 hg7 hg67 hg56
  go_upto_region 13 with fail
  rw [← e3, ← eg7]
  clear e3 eg7
  refine wp_region_par 6 8 [some 81, some 82, some 83, some 84, some 85, none] [2, 5] [some (atV A2 rs.length c2 e2), some (p), some (.bool t), some (.bool t), some (.bool true), none]
    (fun L V wz => OAt wz w.heap.size g7 A2 rs.length c2 e2 ∧ OAsk wz w.heap.size g5 3 a b ∧ (L 5 = false → OAt wz w.heap.size g6 none 0 0 0) ∧ (L 5 = true → OAt wz w.heap.size g6 A2 rs.length c2 e2) ∧ (L 2 = false → R wz B C p bs e) ∧ (L 2 = true → R wz B C p rs e2) ∧ OutB B C w wz ∧ Rd wz B0 A2 c2 rs) (by kernel_rfl) (by kernel_rfl)
    (fun V => ⟨OwnF.keep o7 (Below.refl _ _).drew, OwnF.keep o5 (Below.refl _ _).drew, fun _ => OwnF.keep o6 (Below.refl _ _).drew, fun h => absurd h (by decide), fun _ => K.next HQ3.out (Below.refl _ _).drew, fun h => absurd h (by decide), HO3.out.next (Below.refl _ _).drew, r2.keep (Below.refl _ _).drew⟩)
    (fun u => by simp only [List.filterMap_cons, List.filterMap_nil, puts, List.foldl_cons, List.foldl_nil]; go_simp; exact rfl) ?_ ?_
  · simp only [List.take_succ_cons, List.take_zero]
    refine Par.soft rfl rfl (atV A2 rs.length c2 e2) rfl (fun u w' L V hT hh => ⟨rfl, by have m0 := hT.1.c0; have m1 := hT.1.c1; go_simp⟩) ?_
    refine Par.soft rfl rfl (p) rfl (fun u w' L V hT hh => ⟨rfl, by go_simp⟩) ?_
    refine Par.hard rfl (fun u w' L V hT hh => ?_) ?_
    · have d82 : u 82 = p := hh.val 1 _ rfl rfl
      rw [d82]
      obtain ⟨t7, t5, t6a, t6b, tqa, tqb, tO, tr⟩ := hT
      have hL := hh.not_ 2 rfl
      have hL9 := hh.not_ 5 rfl
      have HK := K.flag w' (tqa hL)
      rw [HN.out] at HK
      simp only at HK
      have hgx := HB.out
      refine StepP.of rfl (StepC.call 26 #[p] rfl (by go_simp) (HK.mono ?_))
      rintro z wz ⟨rfl, q, h0⟩
      have hlow : Below B0 w' wz := h0.low (Nat.le_trans (by omega) tO.size) hgx.1
      have hsz := tO.size
      refine ⟨_, rfl, fun c hc => (Option.some.inj hc), OwnF.outb t7 h0 (by have := HG.out; omega), OwnF.outb t5 h0 (by omega), fun _ => OwnF.outb (t6a hL9) h0 (by omega), fun h => absurd h (by rw [show lset L 2 5 = L 5 from rfl, hL9]; decide), fun h => absurd h (by simp [lset]), fun _ => q, tO.trans h0, tr.keep hlow⟩
    refine Par.soft rfl rfl (.bool t) rfl (fun u w' L V hT hh => ⟨rfl, by go_simp⟩) ?_
    refine Par.soft rfl rfl (.bool true) rfl (fun u w' L V hT hh => ⟨rfl, by have d83 : u 83 = .bool t := hh.val 2 _ rfl rfl; have d84 : u 84 = .bool t := hh.val 3 _ rfl rfl; rw [d83, d84]; go_simp⟩) ?_
    refine Par.hard rfl (fun u w' L V hT hh => ?_) Par.nil
    have d81 : u 81 = atV A2 rs.length c2 e2 := hh.val 0 _ rfl rfl
    rw [d81]
    obtain ⟨t7, t5, t6a, t6b, tqa, tqb, tO, tr⟩ := hT
    have hL := hh.not_ 5 rfl
    have hLc := hh.been 2 rfl rfl
    have oz := t6a hL
    have z0 := oz.c0
    have z1 := oz.c1
    have f0 := oz.f0
    have f1 := oz.f1
    have hgx := HB.out
    have ho := setAt_only w' g6 A2 rs.length c2 e2
    have hlow : Below B0 w' (setAt w' g6 A2 rs.length c2 e2) := ho.below (by omega)
    refine StepP.store (setAt w' g6 A2 rs.length c2 e2) rfl rfl (by unfold setAt; go_simp) ⟨fun c hc => by simp at hc, OwnF.only t7 ho (by have := HG.out; omega), OwnF.only t5 ho (by have := HG5.out; omega), fun h => absurd h (by simp [lset]), fun _ => oz.set_ _ _ _ _, fun h => absurd h (by rw [show lset L 5 2 = L 2 from rfl, hLc]; decide), fun _ => R_only K (tqb hLc) ho (by omega), tO.only ho (by omega), tr.keep hlow⟩
  · rintro u v4 hv ⟨L, V, ⟨t7, t5, t6a, t6b, tqa, tqb, tO, tr⟩, hl⟩
    have d85 : u 85 = .bool true := hv 4 _ (by decide) rfl
    rw [d85]
    have oz := t6b (hl 5 (by decide) rfl).1
    have q := tqb (hl 2 (by decide) rfl).1
    have HF := Lib.hid (And.intro oz (And.intro tr (And.intro q tO)))
    clear oz q t7 t5 t6a t6b tqa tqb tO tr hv hl d85 o5 o6 o7 r2
    simp only [List.drop_succ_cons, List.drop_zero]
    go_wp2_with fail
    exact bodyPost_ret (at_results2 Try.results19 _ HF.out.1 rfl rfl) rfl ⟨A2, c2, rfl, HF.out.2.1, HF.out.2.2.1, HF.out.2.2.2⟩
set_option maxHeartbeats 3200000 in
theorem asked_else {A : Option Addr} {B C B0 c : Nat} {p : Value} {bs : List UInt8} {e a b kd : Int} (hk : kd ≠ 0 ∧ kd ≠ 1 ∧ kd ≠ 2 ∧ kd ≠ 3 ∧ kd ≠ 4) (w : World) (hq : R w B C p bs e) (hr : Rd w B0 A c bs) (hB : B0 ≤ B) :
    Calls Try.prog 19 #[p, atV A bs.length c e, kv kd a b] w fun x w' => ∃ A' c', x = .returned (.tuple #[atV A' bs.length c' e, .bool true]) ∧ Rd w' B0 A' c' bs ∧ R w' B C p bs e ∧ OutB B C w w' := by
  have q0 : (kd == 0) = false := by simp; omega
  have q1 : (kd == 1) = false := by simp; omega
  have q2 : (kd == 2) = false := by simp; omega
  have q3 : (kd == 3) = false := by simp; omega
  have q4 : (kd == 4) = false := by simp; omega
  obtain ⟨n, en⟩ : ∃ n, n = bs.length := ⟨_, rfl⟩
  obtain ⟨v1, g4, g5, g6, e1, eg4, eg5, eg6, o4, o5, o6, hc⟩ := at_three w A n c e kd a b
  have hBC := K.le hq
  have hr1 := hr.keep (hc.mono (by omega))
  have o2 := o6.set_ A n c e
  have hb2 := (OutB.of (B := B) (C := C) hc).only (setAt_only v1 g6 A n c e) (by omega)
  have hq2 := R_only K (K.next hq hc) (setAt_only v1 g6 A n c e) (by omega)
  have hr2 := hr1.keep ((setAt_only v1 g6 A n c e).below (B := B0) (by omega))
  have k0 := o4.c0
  have k1 := o4.c1
  have m0 := o5.c0
  have z0 := o6.c0
  have z1 := o6.c1
  have f0 := o6.f0
  have f1 := o6.f1
  have HF := Lib.hid (And.intro o2 (And.intro hr2 (And.intro hq2 hb2)))
  have E := Lib.hid (And.intro e1 (And.intro eg4 (And.intro eg5 eg6)))
  rw [← en]
  clear hk hBC hr1 hr hq o2 hb2 hq2 hr2 o4 o5 o6 hc e1 eg4 eg5 eg6 en hB
  go_enter Try.func19, Try.ntmps19
  go_upto_region 1 with fail
  rw [← E.out.1, ← E.out.2.2.2, ← E.out.2.2.1, ← E.out.2.1]
  clear E
  go_wp2_with fail
  exact bodyPost_ret (at_results2 Try.results19 _ HF.out.1 rfl rfl) rfl ⟨A, c, rfl, HF.out.2.1, HF.out.2.2.1, HF.out.2.2.2⟩
set_option maxHeartbeats 3200000 in
theorem asked_fail {A : Option Addr} {B C B0 c : Nat} {p : Value} {bs : List UInt8} {e a b : Int} (w : World) (hq : R w B C p bs e) (hr : Rd w B0 A c bs) (hB : B0 ≤ B) :
    Calls Try.prog 19 #[p, atV A bs.length c e, kv 4 a b] w fun x w' => ∃ A' c', x = .returned (.tuple #[atV A' bs.length c' (if e = 0 then a else e), .bool true]) ∧ Rd w' B0 A' c' bs ∧ R w' B C p bs (if e = 0 then a else e) ∧ OutB B C w w' := by
  obtain ⟨n, en⟩ : ∃ n, n = bs.length := ⟨_, rfl⟩
  obtain ⟨v1, g4, g5, g6, e1, eg4, eg5, eg6, o4, o5, o6, hc⟩ := at_three w A n c e 4 a b
  have hBC := K.le hq
  have hr1 := hr.keep (hc.mono (by omega))
  have HK := Lib.hid (K.fail a v1 (K.next hq hc))
  have m0 := o5.c0
  have m1 := o5.c1
  have HO5 := Lib.hid o5
  have HS := Lib.hid (And.intro o4 (And.intro o6 (And.intro hr1 (OutB.of (B := B) (C := C) hc))))
  have HG := Lib.hid (show B0 ≤ B ∧ B ≤ C ∧ C ≤ w.heap.size ∧ w.heap.size ≤ g4 ∧ w.heap.size ≤ g5 ∧ w.heap.size ≤ g6 ∧ g4 ≠ g6 ∧ w.heap.size ≤ v1.heap.size from ⟨hB, hBC.1, hBC.2, by omega, by omega, by omega, by omega, hc.size⟩)
  have E := Lib.hid (And.intro e1 (And.intro eg4 (And.intro eg5 eg6)))
  rw [← en]
  clear hBC hr1 hr hq o4 o5 o6 hc e1 eg4 eg5 eg6 en hB
  go_enter Try.func19, Try.ntmps19
  go_upto_region 1 with fail
  rw [← E.out.1, ← E.out.2.2.2, ← E.out.2.2.1, ← E.out.2.1]
  clear E
  go_wp2_with fail
  go_at_call 27
  refine HK.out.mono ?_
  rintro z v2 ⟨⟨y, rfl⟩, hq, h0⟩
  clear m0 m1 HK
  obtain ⟨o4, o6, hr1, hO⟩ := HS.out
  have hgx := HG.out
  replace hr1 := hr1.keep (h0.low (by omega) hgx.1)
  have o5' : OAsk v2 w.heap.size g5 4 a b := OwnF.outb HO5.out h0 (by omega)
  have o4' : OAt v2 w.heap.size g4 A n c e := OwnF.outb o4 h0 (by omega)
  have o6' : OAt v2 w.heap.size g6 none 0 0 0 := OwnF.outb o6 h0 (by omega)
  replace hO := hO.trans h0
  have m1 := o5'.c1
  clear h0 o4 o6 HS o5' HO5
  have k0 := o4'.c0
  have k1 := o4'.c1
  have fk := o4'.f1
  by_cases he : e = 0
  · subst he
    rw [if_pos rfl] at hq
    have ho1 := Only.setCell v2 ⟨g4, 1, none⟩ (.int .i64 a)
    have o5 : OAt (v2.setCell ⟨g4, 1, none⟩ (.int .i64 a)) w.heap.size g4 A n c a := OwnF.congr (OwnF.set_ o4' 1 (.int .i64 a)) fun i hi => by
      have : i = 0 ∨ i = 1 := by omega
      rcases this with rfl | rfl <;> rfl
    obtain ⟨v3, e3⟩ : ∃ v, v = v2.setCell ⟨g4, 1, none⟩ (.int .i64 a) := ⟨_, rfl⟩
    rw [← e3] at ho1 o5
    have o7 : OAt v3 w.heap.size g6 none 0 0 0 := OwnF.only o6' ho1 hgx.2.2.2.2.2.2.1
    replace hq := R_only K hq ho1 (by show C ≤ g4; omega)
    replace hr1 := hr1.keep (ho1.below (B := B0) (by show B0 ≤ g4; omega))
    replace hO := hO.only ho1 (by show w.heap.size ≤ g4; omega)
    have ho2 := setAt_only v3 g6 A n c a
    have HF := Lib.hid (And.intro (o7.set_ A n c a) (And.intro (hr1.keep (ho2.below (B := B0) (by omega))) (And.intro (R_only K hq ho2 (by omega)) (hO.only ho2 (by omega)))))
    have E3 := Lib.hid e3
    have HK5 := Lib.hid o5
    have HK7 := Lib.hid o7
    clear e3 ho1 o5 o7 hq hr1 hO ho2 o4' o6' hgx HG
    go_upto_region 18 with fail
    rw [← E3.out]
    clear E3 k0 k1 fk m1
    have k0 := HK5.out.c0
    have k1 := HK5.out.c1
    have z0 := HK7.out.c0
    have z1 := HK7.out.c1
    have f0 := HK7.out.f0
    have f1 := HK7.out.f1
    go_wp2_with fail
    exact bodyPost_ret (at_results2 Try.results19 _ HF.out.1 rfl rfl) rfl ⟨A, c, rfl, HF.out.2.1, HF.out.2.2.1, HF.out.2.2.2⟩
  · rw [if_neg he] at hq
    have g1 : (e == 0) = false := by simp [he]
    have ho2 := setAt_only v2 g6 A n c e
    have HF := Lib.hid (And.intro (o6'.set_ A n c e) (And.intro (hr1.keep (ho2.below (B := B0) (by omega))) (And.intro (R_only K hq ho2 (by omega)) (hO.only ho2 (by omega)))))
    have z0 := o6'.c0
    have z1 := o6'.c1
    have f0 := o6'.f0
    have f1 := o6'.f1
    clear hq hr1 hO ho2 o4' o6' hgx HG
    go_wp2_with fail
    refine bodyPost_ret (at_results2 Try.results19 _ HF.out.1 rfl rfl) rfl ?_
    exact ⟨A, c, rfl, HF.out.2.1, HF.out.2.2.1, HF.out.2.2.2⟩
/-- What a reader tells behind a question. -/
def askR (bs : List UInt8) (e k a b : Int) : List UInt8 × Int :=
  if k = 0 then ((numR bs e a b).1, (numR bs e a b).2.1) else if k = 1 then ((textR bs e a).1, (textR bs e a).2.1) else if k = 2 then ((fixR bs e a).1, (fixR bs e a).2.1) else if k = 3 then ((flagR bs e).1, (flagR bs e).2.1)
  else if k = 4 then (bs, if e = 0 then a else e) else (bs, e)
theorem asked_any {A : Option Addr} {B C B0 c n : Nat} {p : Value} {bs : List UInt8} {e k a b : Int} (hn : bs.length = n) (w : World) (hq : R w B C p bs e) (hr : Rd w B0 A c bs) (hB : B0 ≤ B) :
    Calls Try.prog 19 #[p, atV A n c e, kv k a b] w fun x w' => ∃ A' c', x = .returned (.tuple #[atV A' (askR bs e k a b).1.length c' (askR bs e k a b).2, .bool true]) ∧ Rd w' B0 A' c' (askR bs e k a b).1 ∧ R w' B C p (askR bs e k a b).1 (askR bs e k a b).2 ∧ OutB B C w w' := by
  subst hn
  unfold askR
  by_cases k0 : k = 0
  · subst k0
    exact asked_num K (t := (numR bs e a b).2.2) w rfl hq hr hB
  · rw [if_neg k0]
    by_cases k1 : k = 1
    · subst k1
      exact asked_text K (t := (textR bs e a).2.2) w rfl hq hr hB
    · rw [if_neg k1]
      by_cases k2 : k = 2
      · subst k2
        exact asked_fixed K (t := (fixR bs e a).2.2) w rfl hq hr hB
      · rw [if_neg k2]
        by_cases k3 : k = 3
        · subst k3
          exact asked_flag K (t := (flagR bs e).2.2) w rfl hq hr hB
        · rw [if_neg k3]
          by_cases k4 : k = 4
          · subst k4
            exact asked_fail K w hq hr hB
          · rw [if_neg k4]
            exact asked_else K ⟨k0, k1, k2, k3, k4⟩ w hq hr hB
end
end Go.Proofs.Ytonfdnihllhcbaa
