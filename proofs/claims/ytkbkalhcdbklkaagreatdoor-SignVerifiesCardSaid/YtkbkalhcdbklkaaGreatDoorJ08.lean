/-
  The document's numbers, Small, Great, Sum256, Sum512 (layer 6). By an AI agent. (and more)
-/
import Derived.Test.YtkbkalhcdbklkaaGreatDoorN11
import Derived.Test.YtkbkalhcdbklkaaGreatDoorJ07
import Derived.Test.YtkbkalhcdbklkaaGreatDoorJ04
import Derived.Test.YtkbkalhcdbklkaaGreatDoorJ06
namespace Go.Proofs.YtkbkalhcdbklkaaGreatDoor
section
open Go Go.RowKit
def numv (e bits p : Nat) : Nat := if bits = 32 then gr p e 80 % 18446744073709551616 / 4294967296 else gr p e 80 % 18446744073709551616
theorem numv_lt (e p : Nat) {bits : Nat} (hb : bits = 32 ∨ bits = 64) : numv e bits p < 2 ^ bits := by
 unfold numv
 rcases hb with rfl | rfl
 ·rw [if_pos rfl]; omega
 ·rw [if_neg (by decide)]; omega
theorem map_at (L : List Nat) (f : Nat → Nat) {k : Nat} (h : k < L.length) : (L.map f).getD k 0 = f (L.getD k 0) := by
 simp [List.getD, h]
theorem pr_small {s k : Nat} (hs : s ≤ 1000) (hk : k < (pr s).length) : (pr s).getD k 0 < 65536 := by
 have := pr_mem s ((pr s).getD k 0) (by rw [List.getD_eq_getElem?_getD, List.getElem?_eq_getElem hk]; exact List.getElem_mem hk)
 omega
attribute [local irreducible] gr pr
set_option maxRecDepth 20000
set_option maxHeartbeats 1600000 in
theorem numbers_any {n s e bits : Nat} (hs : (pr s).length = n) (hlt : ∀ t, t < s → (pr t).length < n) (hs1 : s ≤ 1000) (he : e = 2 ∨ e = 3) (hb : bits = 32 ∨ bits = 64) (w : World) :
  Calls Tryz.prog 123 #[.int .i64 (n : Int), .int .i64 (e : Int), .int .i64 (bits : Int)] w fun en w' => ∃ A c, en = .returned (.slice A n c) ∧ OwnF w' w.heap.size 33 A c n (uv ((pr s).map (numv e bits))) ∧ Below w.heap.size w w' := by
 obtain ⟨i0, hi, hz0, hz1, hz2⟩ := info_parts infoU64
 have KP := Lib.hid (fun w => primes_any hs hlt hs1 w)
 have hps := fun k hk => pr_small (s := s) (k := k) hs1 hk
 rw [hs] at hps
 have HPS := Lib.hid hps
 have hmp : ∀ k, k < n → ((pr s).map (numv e bits)).getD k 0 = numv e bits ((pr s).getD k 0) := fun k hk => map_at _ _ (by omega)
 have HMP := Lib.hid hmp
 have hn1 : n ≤ 1000 := by have := pr_len_le s; omega
 clear hs hlt hps hmp
 go_enter Tryz.func123, Tryz.ntmps123
 go_wp2_with fail
 go_at_call 140
 refine (KP.out _).mono ?_
 rintro en v1 ⟨A1, c1, rfl, o1, hc⟩
 have r1 := o1.rd
 clear o1 KP
 go_wp2_with fail
 go_loopw [7, 9] (fun v i wr => ∃ k : Nat, k ≤ n ∧ i = .int .i64 (k : Int) ∧ (∃ A c, v = .slice A k c ∧ OwnF wr v1.heap.size 33 A c k (uv ((pr s).map (numv e bits)))) ∧ Below v1.heap.size v1 wr)
  (fun _ i _ => n - (intOf i).toNat)
 case atStart => exact ⟨0, by omega, rfl, ⟨none, 0, rfl, OwnF.nothing _ _ _ _⟩, Below.refl _ _⟩
 case round =>
  obtain ⟨k, hk, rfl, ⟨A, c, rfl, os⟩, hb1⟩ := hrel
  have hws : v1.heap.size ≤ wr.heap.size := hb1.size
  by_cases hkn : k < n
  ·have g1 : (k : Int) < (n : Int) := by omega
   obtain ⟨b1, o1, rfl, _, cc⟩ := (r1.keep hb1).at_ hkn
   unfold iv at cc
   have hp := HPS.out k hkn
   have hv := HMP.out k hkn
   generalize (pr s).getD k 0 = p at *
   have KR := Lib.hid (fun w => root_any hp he w)
   have hv2 : Value.int .u64 ((numv e bits p : Nat) : Int) = uv ((pr s).map (numv e bits)) k := by unfold uv; rw [hv]
   have HV := Lib.hid hv2
   have hnb := numv_lt e p hb
   have hnum : numv e bits p = if bits = 32 then gr p e 80 % 18446744073709551616 / 4294967296 else gr p e 80 % 18446744073709551616 := rfl
   generalize gr p e 80 % 18446744073709551616 = x at *
   clear hv hv2 hp
   go_wp2_with fail
   go_at_call 141
   refine (KR.out _).mono ?_
   rintro en w2 ⟨rfl, h0⟩
   have os2 := OwnF.keep os (h0.mono (Nat.le_refl _))
   have hb2 := bnx hb1 h0
   have hws2 := Nat.le_trans hws h0.size
   clear KR os
   by_cases h32 : bits = 32
   ·rw [if_pos h32] at hnum
    have g3 : ((bits : Int) == 32) = true := by rw [h32]; rfl
    have hx : (x : Int) / 4294967296 = (numv e bits p : Int) := by omega
    have hx' : (x : Int).tdiv 4294967296 = (numv e bits p : Int) := by rw [Int.tdiv_eq_ediv_of_nonneg (by omega), hx]
    have hxw : IntKind.u64.wrap (numv e bits p : Int) = (numv e bits p : Int) := by
     rw [h32] at hnb ⊢; rw [IntKind.wrap_u64]; omega
    generalize numv e bits p = r at *
    clear hnum h32 hnb
    go_wp2_with (at_builtin; refine wpList_appF1 _ rfl (.tmp 29) (.tmp 31) _ rfl v1.heap.size 33 i0 _ Tryz.underlying117 hi hz0 hz1 hz2 (by decide) rfl rfl os2 HV.out rfl rfl (by omega) (by omega) hws2 ?_; intro A' c' w' ho' hb')
    exact ⟨⟨k + 1, by omega, by go_num, ⟨A', c', rfl, ho'⟩, hb2.trans hb'⟩, by simp [intOf]; omega⟩
   ·rw [if_neg h32] at hnum
    have g3 : ((bits : Int) == 32) = false := by simp; omega
    rw [hnum] at HV
    clear h32 hnb
    go_wp2_with (at_builtin; refine wpList_appF1 _ rfl (.tmp 29) (.tmp 31) _ rfl v1.heap.size 33 i0 _ Tryz.underlying117 hi hz0 hz1 hz2 (by decide) rfl rfl os2 HV.out rfl rfl (by omega) (by omega) hws2 ?_; intro A' c' w' ho' hb')
    exact ⟨⟨k + 1, by omega, by go_num, ⟨A', c', rfl, ho'⟩, hb2.trans hb'⟩, by simp [intOf]; omega⟩
  ·obtain rfl : k = n := by omega
   have g1 : ¬ (k : Int) < (k : Int) := by omega
   go_wp2_with fail
   go_ret
   exact ⟨A, c, rfl, os.mono hc.size, bnx hc hb1⟩
def smallS : Ks := ⟨32, 64, (2, 13, 22), (6, 11, 25), (7, 18, 3), (17, 19, 10), (pr 310).map (numv 3 32), (pr 18).map (numv 2 32)⟩
def greatS : Ks := ⟨64, 80, (28, 34, 39), (14, 18, 41), (1, 8, 7), (19, 61, 6), (pr 408).map (numv 3 64), (pr 18).map (numv 2 64)⟩
theorem map_lt (L : List Nat) (f : Nat → Nat) {b : Nat} (hf : ∀ p, f p < b) (hb : 0 < b) (k : Nat) : (L.map f).getD k 0 < b := by
 by_cases h : k < L.length
 ·rw [map_at L f h]; exact hf _
 ·simp [List.getD, Nat.le_of_not_lt h, hb]
theorem len80 : (pr 408).length = 80 ∧ ∀ t, t < 408 → (pr t).length < 80 := by decide +kernel
theorem len8 : (pr 18).length = 8 ∧ ∀ t, t < 18 → (pr t).length < 8 := by decide +kernel
theorem greatOk : Kok greatS := ⟨.inr rfl, by decide, by decide, by decide, by decide, by decide, ⟨by rw [show greatS.keys = (pr 408).map (numv 3 64) from rfl, List.length_map]; exact len80.1, map_lt _ _ (fun p => numv_lt 3 p (.inr rfl)) (by decide)⟩, ⟨by rw [show greatS.first = (pr 18).map (numv 2 64) from rfl, List.length_map]; exact len8.1, map_lt _ _ (fun p => numv_lt 2 p (.inr rfl)) (by decide)⟩⟩
end
section
open Go Go.RowKit
set_option maxRecDepth 20000
section
variable {w : World} {B g : Nat}
theorem OwnF.there6 {e : TypeId} {c n : Nat} {f : Nat → Value} (h : OwnF w B e (some ⟨g, 0, none⟩) c n f) : w.there g 0 n := fun j hj => by
 rw [Nat.zero_add, OwnF.cell h hj]
 exact ⟨rfl, OwnF.free h j⟩
theorem OwnF.sets6 {e : TypeId} {c n : Nat} : ∀ (vs : List Value) (o : Nat) (w : World) (f : Nat → Value), OwnF w B e (some ⟨g, 0, none⟩) c n f → OwnF (w.setCells g o vs) B e (some ⟨g, 0, none⟩) c n (fun j => if o ≤ j then (vs[j - o]?).getD (f j) else f j)
 | [], o, w, f, h => h.congr fun j _ => by simp
 | v :: r, o, w, f, h => by
  have h1 := OwnF.sets6 r (o + 1) _ _ (OwnF.set_ h o v)
  refine OwnF.congr h1 fun j _ => ?_
  by_cases h2 : o + 1 ≤ j
  ·have h3 : j ≠ o := by omega
   have h4 : o ≤ j := by omega
   have h5 : j - o = j - (o + 1) + 1 := by omega
   simp only [h2, h3, h4, h5, if_true, if_false, List.getElem?_cons_succ]
  ·rw [if_neg h2]
   by_cases h3 : j = o
   ·subst h3; simp
   ·rw [if_neg h3, if_neg (by omega)]
theorem sets_below6 (g : Nat) : ∀ (vs : List Value) (o : Nat) (w : World), Below g w (w.setCells g o vs)
 | [], _, w => Below.refl _ w
 | v :: r, o, w => ((Below.refl g w).setCell (p := ⟨g, o, none⟩) (Nat.le_refl g) v).trans (sets_below6 g r (o + 1) _)
theorem OwnF.sets_other6 {e : TypeId} {c n g' : Nat} {f : Nat → Value} (hg : g' ≠ g) : ∀ (vs : List Value) (o : Nat) (w : World), OwnF w B e (some ⟨g, 0, none⟩) c n f → OwnF (w.setCells g' o vs) B e (some ⟨g, 0, none⟩) c n f
 | [], _, _, h => h
 | v :: r, o, _, h => OwnF.sets_other6 hg r (o + 1) _ (OwnF.other h (p := ⟨g', o, none⟩) hg v)
end
theorem OwnF.ptr6 {w : World} {B : Nat} {e : TypeId} {A : Option Addr} {c n : Nat} {f : Nat → Value} (h : OwnF w B e A c n f) (hn : 0 < n) : ∃ g, A = some ⟨g, 0, none⟩ := by
 obtain ⟨_, h2⟩ := h
 rcases h2 with ⟨_, h0⟩ | ⟨g, cap, cur, hv, _⟩
 ·omega
 ·simp only [Value.slice.injEq] at hv
  exact ⟨g, hv.1⟩
theorem kres {fn : Func} {p : Tmp} (h : fn.results = #[.cell p 120]) (tmps : Array Value) {w : World} {B g : Nat} {K : Kd} (o : OK w B g K) (hp : tmps.getD p undef = .pointer (some ⟨g, 0, none⟩)) : (results fn tmps).run Tryz.prog w = .ok (kv K) w := by
 have hp' : tmps[p]?.getD undef = .pointer (some ⟨g, 0, none⟩) := by simpa using hp
 have h2 := run_loadVar_mid (P := Tryz.prog) w g 0 120 K.cells _ (OwnF.rng o (by rw [K.len]; exact Nat.le_refl _) fun k hk => K.get (by rwa [K.len] at hk)) Tryz.underlying120 rfl (by rw [K.len]; exact k_info)
 simp [results, h, hp', asAddr, h2]
def setKw (w : World) (g : Nat) (K : Kd) : World := w.setCells g 0 K.cells
theorem setKw_other {w : World} {B g b c n : Nat} {e : TypeId} {f : Nat → Value} (hg : g ≠ b) (h : OwnF w B e (some ⟨b, 0, none⟩) c n f) (K : Kd) : OwnF (setKw w g K) B e (some ⟨b, 0, none⟩) c n f := OwnF.sets_other6 hg K.cells 0 _ h
theorem setKw_below (w : World) (g : Nat) (K : Kd) : Below g w (setKw w g K) := sets_below6 g K.cells 0 w
theorem k_put {w : World} {B g : Nat} {f : Nat → Value} (h : OwnF w B 120 (some ⟨g, 0, none⟩) 16 16 f) (K : Kd)  : OK (setKw w g K) B g K :=
 OwnF.congr (OwnF.sets6 K.cells 0 w f h) fun k hk => by rw [if_pos (Nat.zero_le _), Nat.sub_zero, K.get hk]; rfl
theorem k_one (K : Kd) : K.cells.toArray.all (·.oneCell') = true := all_oneCell_toArray fun v hv => by
 simp only [Kd.cells, List.mem_cons, List.mem_nil_iff, or_false] at hv
 rcases hv with rfl | rfl | rfl | rfl | rfl | rfl | rfl | rfl | rfl | rfl | rfl | rfl | rfl | rfl | rfl | rfl <;> rfl
section
variable {ops : Array Oper} {rest : List Oper} {a : Act} {w : World} {Q : Exit → Act → World → Prop} {B g : Nat} {dst : Option Nat} {tp : TypeId} {ps : String} {af : Array Edge} {x y : Operand}
theorem k_store {f : Nat → Value} (o : OwnF w B 120 (some ⟨g, 0, none⟩) 16 16 f) (K : Kd) (hx : a.eval x = .pointer (some ⟨g, 0, none⟩)) (hy : a.eval y = kv K) (h : wpList Tryz.prog ops Q rest (a.put dst undef) (setKw w g K)) : wpList Tryz.prog ops Q (⟨dst, .store 120 x y, tp, ps, af, none⟩ :: rest) a w :=
 wpList_store_mid rfl _ x y rfl g 0 K.cells.toArray hx hy (by rw [List.size_toArray, K.len]; exact OwnF.there6 o) (by rw [List.size_toArray, K.len]; exact k_info) (k_one K) h
end
section
attribute [local irreducible] setKw Kd.cells
end
theorem great_cells (A1 A2 : Option Addr) (c1 c2 : Nat) : (Kd.mk greatS A1 c1 A2 c2).cells = [.int .i64 64, .int .i64 80, .int .i64 28, .int .i64 34, .int .i64 39, .int .i64 14, .int .i64 18, .int .i64 41, .int .i64 1, .int .i64 8, .int .i64 7, .int .i64 19, .int .i64 61, .int .i64 6, .slice A1 80 c1, .slice A2 8 c2] := by
 show [Value.int .i64 ((64 : Nat) : Int), _, _, _, _, _, _, _, _, _, _, _, _, _, .slice A1 greatS.keys.length c1, .slice A2 greatS.first.length c2] = _
 rw [greatOk.keys.1, greatOk.first.1]
 rfl
section
attribute [local irreducible] setKw Kd.cells
set_option maxHeartbeats 1600000 in
theorem great_any (w : World) : Calls Tryz.prog 89 #[] w fun en w' => ∃ K : Kd, K.toKs = greatS ∧ en = .returned (kv K) ∧ RdF w' w'.heap.size K.ka K.kc K.rounds (uv K.keys) ∧ RdF w' w'.heap.size K.fa K.fc 8 (uv K.first) ∧ Below w.heap.size w w' := by
 have oz := OwnF.lit (w := w) (B := w.heap.size) 120 (Nat.le_refl _) #[.int .i64 0, .int .i64 0, .int .i64 0, .int .i64 0, .int .i64 0, .int .i64 0, .int .i64 0, .int .i64 0, .int .i64 0, .int .i64 0, .int .i64 0, .int .i64 0, .int .i64 0, .int .i64 0, .slice none 0 0, .slice none 0 0] 16 (fun k => ([.int .i64 0, .int .i64 0, .int .i64 0, .int .i64 0, .int .i64 0, .int .i64 0, .int .i64 0, .int .i64 0, .int .i64 0, .int .i64 0, .int .i64 0, .int .i64 0, .int .i64 0, .int .i64 0, .slice none 0 0, .slice none 0 0] : List Value).getD k undef) (by decide) rfl
 have hc := (Below.refl w.heap.size w).alloc (Nat.le_refl _) (.cells #[.int .i64 0, .int .i64 0, .int .i64 0, .int .i64 0, .int .i64 0, .int .i64 0, .int .i64 0, .int .i64 0, .int .i64 0, .int .i64 0, .int .i64 0, .int .i64 0, .int .i64 0, .int .i64 0, .slice none 0 0, .slice none 0 0] 120)
 have ka : ∀ w, Calls Tryz.prog 123 #[.int .i64 80, .int .i64 3, .int .i64 64] w fun en w' => ∃ A c, en = .returned (.slice A 80 c) ∧ OwnF w' w.heap.size 33 A c 80 (uv greatS.keys) ∧ Below w.heap.size w w' := fun w => numbers_any (n := 80) (s := 408) (e := 3) (bits := 64) len80.1 len80.2 (by decide) (.inr rfl) (.inr rfl) w
 have kb : ∀ w, Calls Tryz.prog 123 #[.int .i64 8, .int .i64 2, .int .i64 64] w fun en w' => ∃ A c, en = .returned (.slice A 8 c) ∧ OwnF w' w.heap.size 33 A c 8 (uv greatS.first) ∧ Below w.heap.size w w' := fun w => numbers_any (n := 8) (s := 18) (e := 2) (bits := 64) len8.1 len8.2 (by decide) (.inl rfl) (.inr rfl) w
 have KA := Lib.hid ka
 have KB := Lib.hid kb
 clear ka kb
 generalize hz : (fun k => ([.int .i64 0, .int .i64 0, .int .i64 0, .int .i64 0, .int .i64 0, .int .i64 0, .int .i64 0, .int .i64 0, .int .i64 0, .int .i64 0, .int .i64 0, .int .i64 0, .int .i64 0, .int .i64 0, .slice none 0 0, .slice none 0 0] : List Value).getD k undef) = fz at oz
 clear hz
 go_enter Tryz.func89, Tryz.ntmps89
 go_wp2_with fail
 obtain ⟨v0, e0⟩ : ∃ v, v = w.alloc (.cells #[.int .i64 0, .int .i64 0, .int .i64 0, .int .i64 0, .int .i64 0, .int .i64 0, .int .i64 0, .int .i64 0, .int .i64 0, .int .i64 0, .int .i64 0, .int .i64 0, .int .i64 0, .int .i64 0, .slice none 0 0, .slice none 0 0] 120) := ⟨_, rfl⟩
 rw [← e0] at oz hc ⊢
 obtain ⟨g, eg⟩ : ∃ g, g = w.heap.size := ⟨_, rfl⟩
 have ozg : OwnF v0 w.heap.size 120 (some ⟨g, 0, none⟩) 16 16 fz := by rw [eg]; exact oz
 rw [show (Value.pointer (some ⟨w.heap.size, 0, none⟩)) = .pointer (some ⟨g, 0, none⟩) by rw [eg]]
 clear oz eg e0
 have hgl := ozg.lt
 go_at_call 123
 refine (KA.out _).mono ?_
 rintro en v1 ⟨A1, c1, rfl, o1, h0⟩
 replace ozg := OwnF.keep ozg h0
 replace hc := bnx hc h0
 have hs1 := h0.size
 clear h0 KA
 go_wp2_with fail
 go_at_call 123
 refine (KB.out _).mono ?_
 rintro en v2 ⟨A2, c2, rfl, o2, h0⟩
 replace ozg := OwnF.keep ozg h0
 replace o1 := OwnF.keep o1 h0
 replace hc := bnx hc h0
 clear h0 KB
 obtain ⟨b1, rfl⟩ := OwnF.ptr6 o1 (by decide)
 obtain ⟨b2, rfl⟩ := OwnF.ptr6 o2 (by decide)
 have n1 : g ≠ b1 := by have := o1.ge; omega
 have n2 : g ≠ b2 := by have := o2.ge; omega
 have ok := k_put ozg (Kd.mk greatS (some ⟨b1, 0, none⟩) c1 (some ⟨b2, 0, none⟩) c2)
 have q1 := setKw_other n1 o1 (Kd.mk greatS (some ⟨b1, 0, none⟩) c1 (some ⟨b2, 0, none⟩) c2)
 have q2 := setKw_other n2 o2 (Kd.mk greatS (some ⟨b1, 0, none⟩) c1 (some ⟨b2, 0, none⟩) c2)
 have hb := hc.trans ((setKw_below v2 g (Kd.mk greatS (some ⟨b1, 0, none⟩) c1 (some ⟨b2, 0, none⟩) c2)).mono ozg.ge)
 go_wp2_with ((with_reducible refine k_store ozg (Kd.mk greatS (some ⟨b1, 0, none⟩) c1 (some ⟨b2, 0, none⟩) c2) ?_ ?_ ?_); rfl; (show _ = Value.agg (Kd.cells _).toArray; rw [great_cells]; rfl))
 exact bodyPost_ret (kres Tryz.results89 _ ok rfl) rfl ⟨_, rfl, rfl, q1.rd, q2.rd, hb⟩
end
theorem sum512_any {A0 : Option Addr} {B c0 : Nat} {bs : List UInt8} (hlen : bs.length ≤ 1000000) (w : World) (hr : Rd w B A0 c0 bs) (hB : B ≤ w.heap.size) :
  Calls Tryz.prog 46 #[.slice A0 bs.length c0] w fun en w' => ∃ A c, en = .returned (.slice A 64 c) ∧ Own w' w.heap.size 5 A c (sumN greatS bs) ∧ Below w.heap.size w w' := by
 have KS := Lib.hid great_any
 have KM := Lib.hid (fun (K : Kd) (hK : Kok K.toKs) w hk hf hr hB => ksum_any hK (A0 := A0) (B := w.heap.size) (c0 := c0) hlen w hk hf hr hB)
 go_enter Tryz.func46, Tryz.ntmps46
 go_wp2_with fail
 go_at_call 89
 refine (KS.out _).mono ?_
 rintro en v1 ⟨K, hK, rfl, hk, hf, hc⟩
 go_wp2_with fail
 go_at_call 90
 refine (KM.out K (by rw [hK]; exact greatOk) _ hk hf ((hr.keep (hc.mono hB)).mono (Nat.le_trans hB hc.size)) (Nat.le_refl _)).mono ?_
 rintro en v2 ⟨A, c, rfl, ho, h0⟩
 have hbits : K.bits = 64 := by rw [hK]; rfl
 rw [hK] at ho
 have HBI := Lib.hid hbits
 clear hbits
 go_wp2_with fail
 go_ret
 exact ⟨A, c, rfl, ho.mono hc.size, bnx hc h0⟩
end
section
open Go Go.RowKit
def glbN : Nat := max (1 + 1) (max (4 + 1) (5 + 1))
structure GlbS (w : World) : Prop where
 b : ∀ k, k < 8 → w.cell? ⟨1, k, none⟩ = some (.int .u64 ((fst greatS k : Nat) : Int))
 c : ∀ k, k < 64 → w.cell? ⟨4, k, none⟩ = some (.int .u32 ((smallS.keys.getD k 0 : Nat) : Int))
 d : ∀ k, k < 80 → w.cell? ⟨5, k, none⟩ = some (.int .u64 ((greatS.keys.getD k 0 : Nat) : Int))
theorem GlbS.four {w : World} (h : GlbS w) : glbN ≤ w.heap.size := by
 have h1 := World.block_lt_of_cell? w ⟨1, 0, none⟩ (h.b 0 (by decide))
 have h2 := World.block_lt_of_cell? w ⟨4, 0, none⟩ (h.c 0 (by decide))
 have h3 := World.block_lt_of_cell? w ⟨5, 0, none⟩ (h.d 0 (by decide))
 unfold glbN
 simp only at h1 h2 h3
 omega
theorem GlbS.keep {w w' : World} (h : GlbS w) {B : Nat} (hb : Below B w w') (hB : glbN ≤ B) : GlbS w' := by
 unfold glbN at hB
 exact ⟨fun k hk => (hb.cell (p := ⟨1, k, none⟩) (show 1 < B by omega)).trans (h.b k hk), fun k hk => (hb.cell (p := ⟨4, k, none⟩) (show 4 < B by omega)).trans (h.c k hk), fun k hk => (hb.cell (p := ⟨5, k, none⟩) (show 5 < B by omega)).trans (h.d k hk)⟩
theorem GlbS.next {w w' : World} (h : GlbS w) (hb : Below w.heap.size w w') : GlbS w' := h.keep hb h.four
end
section
open Go Go.RowKit
set_option maxRecDepth 20000
def bb (x i : Nat) : Nat := x / 2 ^ (8 * i) % 256
def bput (f : Nat → Value) (o s x i : Nat) (j : Nat) : Value := if o + s ≤ j + i ∧ j < o + s then .int .u8 ((bb x (o + s - 1 - j) : Nat) : Int) else f j
theorem bput_zero (f : Nat → Value) (o s x : Nat) : bput f o s x 0 = f := by
 funext j
 unfold bput
 rw [if_neg (by omega)]
theorem bput_succ (f : Nat → Value) (o s x : Nat) {i m : Nat} (hi : i < s) (hm : m = s - 1 - i) (j : Nat) : (if j = o + m then Value.int .u8 ((bb x i : Nat) : Int) else bput f o s x i j) = bput f o s x (i + 1) j := by
 unfold bput
 by_cases h : j = o + m
 ·rw [if_pos h, if_pos (by omega), show o + s - 1 - j = i by omega]
 ·rw [if_neg h]
  by_cases h2 : o + s ≤ j + i ∧ j < o + s
  ·rw [if_pos h2, if_pos (by omega)]
  ·rw [if_neg h2, if_neg (by omega)]
theorem be_or {x c : Nat} (hc : c < 256) : (x * 256) ||| c = x * 256 + c := by
 rw [Nat.mul_comm, show (256 : Nat) = 2 ^ 8 by decide]
 exact (Nat.two_pow_add_eq_or_of_lt (i := 8) (b := c) (by omega) x).symm
set_option maxHeartbeats 1600000 in
theorem number_64 {t : Nat} (ht : t < 80) (w : World) (hG : GlbS w) : Calls Tryz.prog 149 #[.int .i64 (t : Int)] w fun e w' => e = .returned (.int .u64 ((greatS.keys.getD t 0 : Nat) : Int)) ∧ w' = w := by
 have hc := hG.d t ht
 generalize greatS.keys.getD t 0 = r at *
 have h1 : (t : Int) < 80 := by omega
 have h2 : (0 : Int) ≤ (t : Int) := by omega
 clear hG
 go_enter Tryz.func149, Tryz.ntmps149
 go_wp2_with fail
 go_at_call 158
 refine (small_64 _).mono ?_
 rintro e v1 ⟨rfl, rfl⟩
 go_wp2_with fail
 go_ret
 exact ⟨rfl, rfl⟩
theorem be_fit_64 {y : Nat → Nat} (hy : ∀ i, y i < 256) (p : Nat) {k : Nat} (hk : k < 8) : be y p k < 72057594037927936 := Nat.lt_of_lt_of_le (be_lt hy p k) (Nat.le_trans (Nat.pow_le_pow_right (by decide) (show k ≤ 8 - 1 by omega)) (by decide))
set_option maxHeartbeats 1600000 in
theorem get_64 {y : Nat → Nat} (hy : ∀ i, y i < 256) {b o p c : Nat} (w : World) (hr : ∀ k, k < 8 → w.cell? ⟨b, o + k, none⟩ = some (.int .u8 ((y (p + k) : Nat) : Int))) :
  Calls Tryz.prog 155 #[.slice (some ⟨b, o, none⟩) 8 c] w fun e w' => e = .returned (.int .u64 ((be y p 8 : Nat) : Int)) ∧ w' = w := by
 have HR := Lib.hid hr
 have HY := Lib.hid hy
 have HB := Lib.hid (fun k hk => be_fit_64 hy p (k := k) hk)
 clear hr hy
 go_enter Tryz.func155, Tryz.ntmps155
 go_wp2_with fail
 go_loop [3, 7] (fun v i => ∃ k : Nat, k ≤ 8 ∧ i = .int .i64 (k : Int) ∧ v = .int .u64 ((be y p k : Nat) : Int))
  (fun _ i => 8 - (intOf i).toNat)
 case atStart => exact ⟨0, by omega, rfl, by rw [be_zero]; rfl⟩
 case round =>
  obtain ⟨k, hk, rfl, rfl⟩ := hrel
  by_cases hlt : k < 8
  ·have g1 : (k : Int) < 8 := by omega
   have cc := HR.out k hlt
   have hs := be_succ y p k
   have hb := HB.out k hlt
   have hy := HY.out (p + k)
   generalize y (p + k) = c2 at *
   rw [← be_or hy] at hs
   have e1 : IntKind.u64.wrap (be y p k * 256 : Int) = ((be y p k * 256 : Nat) : Int) := by rw [IntKind.wrap_u64]; omega
   have e2 : IntKind.u64.wrap (c2 : Int) = (c2 : Int) := by rw [IntKind.wrap_u64]; omega
   have e3 := bits_or_u64_nat (be y p k * 256) c2 (by omega) (by omega)
   rw [← hs] at e3
   generalize hz : be y p (k + 1) = z at *
   have HZ := Lib.hid hz
   generalize hx : be y p k = x at *
   generalize hx2 : x * 256 = x2 at *
   clear hs hx hz hy hb hx2
   go_wp2_with fail
   go_round
   case rel => exact ⟨k + 1, by omega, by go_num, by rw [HZ.out]⟩
   case measure => simp [intOf]; omega
  ·obtain rfl : k = 8 := by omega
   simp only [Int.cast_ofNat_Int]
   go_wp2_with fail
   go_ret
   exact ⟨rfl, rfl⟩
set_option maxHeartbeats 1600000 in
theorem put_64 {B g o N C cap x : Nat} {f : Nat → Value} {e0 : TypeId} (ho : o + 8 ≤ N) (w : World) (ow : OwnF w B e0 (some ⟨g, 0, none⟩) C N f) :
  Calls Tryz.prog 122 #[.slice (some ⟨g, o, none⟩) 8 cap, .int .u64 (x : Int)] w fun e w' => e = .returned (.tuple #[]) ∧ OwnF w' B e0 (some ⟨g, 0, none⟩) C N (bput f o 8 x 8) ∧ Only g w w' := by
 go_enter Tryz.func122, Tryz.ntmps122
 go_wp2_with fail
 go_loopw [7] (fun i wr => ∃ k : Nat, k ≤ 8 ∧ i = .int .i64 (k : Int) ∧ OwnF wr B e0 (some ⟨g, 0, none⟩) C N (bput f o 8 x k) ∧ Only g w wr)
  (fun i _ => 8 - (intOf i).toNat)
 case atStart => exact ⟨0, by omega, rfl, by rw [bput_zero]; exact ow, Only.refl _ _⟩
 case round =>
  clear ow
  obtain ⟨k, hk, rfl, ow, hb⟩ := hrel
  by_cases hlt : k < 8
  ·have g1 : (k : Int) < 8 := by omega
   obtain ⟨m, hm⟩ : ∃ m, m = 8 - 1 - k := ⟨_, rfl⟩
   have cc := ow.cell (k := o + m) (by omega)
   have ff := ow.free (o + m)
   have e1 : IntKind.i64.wrap (7 - (k : Int)) = (m : Int) := by rw [IntKind.wrap_i64]; omega
   have e2 : IntKind.i64.wrap (8 * (k : Int)) = ((8 * k : Nat) : Int) := by rw [IntKind.wrap_i64]; omega
   have e3 : (x : Int) / 2 ^ min (8 * k) 64 = ((x / 2 ^ (8 * k) : Nat) : Int) := by rw [Nat.min_eq_left (by omega)]; simp
   have hzb : bb x k = x / 2 ^ (8 * k) % 256 := rfl
   generalize hz : x / 2 ^ (8 * k) = z at *
   have e4 : IntKind.u8.wrap (z : Int) = ((bb x k : Nat) : Int) := by rw [IntKind.wrap_u8]; omega
   have h1 : (0 : Int) ≤ (m : Int) := by omega
   have h2 : (m : Int) < 8 := by omega
   have hset := ow.set_ (o + m) (.int .u8 ((bb x k : Nat) : Int))
   have hcg := Lib.hid (OwnF.congr hset fun j _ => bput_succ f o 8 x hlt hm j)
   have ho2 := Lib.hid (hb.trans (Only.setCell wr ⟨g, o + m, none⟩ (.int .u8 ((bb x k : Nat) : Int))))
   generalize bb x k = zb at *
   generalize h8 : 8 * k = k8 at *
   have g8 : (0 : Int) ≤ (k8 : Int) := by omega
   clear hzb hm hset ow hb hz h8
   go_wp2_with fail
   exact ⟨⟨k + 1, by omega, by go_num, hcg.out, ho2.out⟩, by simp [intOf]; omega⟩
  ·obtain rfl : k = 8 := by omega
   simp only [Int.cast_ofNat_Int]
   go_wp2_with fail
   exact bodyPost_end (v := .tuple #[]) (by simp [results, Tryz.results122, go_sem]) rfl ⟨rfl, ow, hb⟩
end
end Go.Proofs.YtkbkalhcdbklkaaGreatDoor
