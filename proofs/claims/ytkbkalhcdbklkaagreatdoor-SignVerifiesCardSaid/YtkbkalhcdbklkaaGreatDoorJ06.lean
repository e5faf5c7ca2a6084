/-
  The document's primes and numbers (layer 6). By an AI agent. (and more)
-/
import Derived.Test.YtkbkalhcdbklkaaGreatDoorN3
import Derived.Deep.MidRow
import Derived.Test.YtkbkalhcdbklkaaGreatDoorJ03
import Derived.Laws.BitsAllLaws
namespace Go.Proofs.YtkbkalhcdbklkaaGreatDoor
section
open Go Go.RowKit
def pr : Nat → List Nat
 | 0 => []
 | n + 1 => if (pr n).all (fun d => (n + 2) % d != 0) then pr n ++ [n + 2] else pr n
theorem pr_mem : ∀ (n : Nat), ∀ d ∈ pr n, 2 ≤ d ∧ d < n + 2
 | 0, d, h => by simp [pr] at h
 | n + 1, d, h => by
  unfold pr at h
  split at h
  ·rcases List.mem_append.1 h with h | h
   ·have := pr_mem n d h; omega
   ·simp at h; omega
  ·have := pr_mem n d h; omega
theorem pr_pre : ∀ (n m : Nat), ∃ l, pr (n + m) = pr n ++ l
 | n, 0 => ⟨[], by simp⟩
 | n, m + 1 => by
  obtain ⟨l, h⟩ := pr_pre n m
  have e : pr (n + (m + 1)) = if (pr (n + m)).all (fun d => (n + m + 2) % d != 0) then pr (n + m) ++ [n + m + 2] else pr (n + m) := rfl
  rw [e]
  split
  ·exact ⟨l ++ [n + m + 2], by rw [h, List.append_assoc]⟩
  ·exact ⟨l, h⟩
theorem pr_at {n s k : Nat} (h : n ≤ s) (hk : k < (pr n).length) : (pr s).getD k 0 = (pr n).getD k 0 := by
 obtain ⟨l, hl⟩ := pr_pre n (s - n)
 rw [show n + (s - n) = s by omega] at hl
 rw [hl]
 simp [List.getD, List.getElem?_append_left hk]
theorem pr_len_le (n : Nat) : (pr n).length ≤ n := by
 induction n with
 | zero => simp [pr]
 | succ n ih =>
  unfold pr
  split
  ·rw [List.length_append, List.length_singleton]; omega
  ·omega
def iv (L : List Nat) (k : Nat) : Value := .int .i64 ((L.getD k 0 : Nat) : Int)
def uv (L : List Nat) (k : Nat) : Value := .int .u64 ((L.getD k 0 : Nat) : Int)
set_option maxRecDepth 20000 in
set_option maxHeartbeats 1600000 in
theorem primes_any {n s : Nat} (hs : (pr s).length = n) (hlt : ∀ t, t < s → (pr t).length < n) (hs1 : s ≤ 1000) (w : World) :
  Calls Tryz.prog 140 #[.int .i64 (n : Int)] w fun en w' => ∃ A c, en = .returned (.slice A n c) ∧ OwnF w' w.heap.size 3 A c n (iv (pr s)) ∧ Below w.heap.size w w' := by
 obtain ⟨i0, hi, hz0, hz1, hz2⟩ := info_parts infoInt
 have HLT := Lib.hid hlt
 have HS := Lib.hid hs
 have hn1 := pr_len_le s
 rw [hs] at hn1
 clear hlt hs
 go_enter Tryz.func140, Tryz.ntmps140
 go_wp2_with fail
 go_loopw [3, 4] (fun v pp wr => ∃ t P : Nat, t ≤ s ∧ P = t + 2 ∧ pp = .int .i64 (P : Int) ∧ (∃ A c, v = .slice A (pr t).length c ∧ OwnF wr w.heap.size 3 A c (pr t).length (iv (pr s))) ∧ Below w.heap.size w wr)
  (fun _ pp _ => s + 2 - (intOf pp).toNat)
 case atStart => exact ⟨0, 2, by omega, rfl, rfl, ⟨none, 0, rfl, OwnF.nothing _ _ _ _⟩, Below.refl _ _⟩
 case round =>
  obtain ⟨t, P, ht, hP, rfl, ⟨A, c, rfl, os⟩, hb⟩ := hrel
  by_cases hts : t = s
  ·subst hts
   have hl := HS.out
   rw [hl] at os ⊢
   have g1 : ¬ (n : Int) < (n : Int) := by omega
   clear hP
   go_wp2_with fail
   go_ret
   exact ⟨A, c, rfl, os, hb⟩
  ·obtain ⟨ln, hln⟩ : ∃ l, l = (pr t).length := ⟨_, rfl⟩
   have hll : ln < n := by rw [hln]; exact HLT.out t (by omega)
   have hmem : ∀ k, k < ln → 2 ≤ (pr s).getD k 0 ∧ (pr s).getD k 0 < P := fun k hk => by
    rw [pr_at ht (by omega), hP]
    refine pr_mem t _ ?_
    rw [List.getD_eq_getElem?_getD, List.getElem?_eq_getElem (by omega)]
    exact List.getElem_mem _
   have hall : (pr t).all (fun d => P % d != 0) = true ↔ ∀ k, k < ln → P % (pr s).getD k 0 ≠ 0 := by
    rw [List.all_eq_true]
    constructor
    ·intro h k hk
     have := h ((pr t)[k]'(by omega)) (List.getElem_mem _)
     rw [pr_at ht (by omega), List.getD_eq_getElem?_getD, List.getElem?_eq_getElem (by omega)]
     simpa using this
    ·intro h d hd
     obtain ⟨k, hk, rfl⟩ := List.getElem_of_mem hd
     have := h k (by omega)
     rw [pr_at ht (by omega), List.getD_eq_getElem?_getD, List.getElem?_eq_getElem (by omega)] at this
     simpa using this
   have hsucc : pr (t + 1) = if (pr t).all (fun d => P % d != 0) then pr t ++ [P] else pr t := by rw [hP]; rfl
   have HM := Lib.hid hmem
   have HA := Lib.hid hall
   have HU := Lib.hid hsucc
   have HN := Lib.hid hln
   have HP := Lib.hid hP
   rw [← hln] at os ⊢
   clear hmem hall hsucc hln
   have g1 : (ln : Int) < (n : Int) := by omega
   have gi : IntKind.i64.wrap ((P : Int) + 1) = ((P + 1 : Nat) : Int) := by rw [IntKind.wrap_i64]; omega
   have hPs : P ≤ 1002 := by omega
   clear hP
   go_wp2_with fail
   obtain ⟨w0, e0⟩ : ∃ w0 : World, w0 = wr := ⟨_, rfl⟩
   subst e0
   go_loopw [5, 6] (fun le ii wz => ∃ k : Nat, k ≤ ln ∧ ii = .int .i64 (k : Int) ∧ (∃ l : Nat, le = .int .i64 (l : Int) ∧ ((l = P ∧ ∀ m, m < k → P % (pr s).getD m 0 ≠ 0) ∨ (l ≠ P ∧ ∃ m, m < ln ∧ P % (pr s).getD m 0 = 0))) ∧ wz = w0)
    (fun _ ii _ => ln - (intOf ii).toNat)
   case atStart => exact ⟨0, by omega, rfl, ⟨P, rfl, .inl ⟨rfl, fun m h => by omega⟩⟩, rfl⟩
   case round =>
    obtain ⟨k, hk, rfl, ⟨l, rfl, hl⟩, rfl⟩ := hrel
    by_cases hlP : l = P
    ·subst hlP
     have hl2 : ∀ m, m < k → l % (pr s).getD m 0 ≠ 0 := by
      rcases hl with h | h
      ·exact h.2
      ·exact absurd rfl h.1
     clear hl
     by_cases hkl : k < ln
     ·have g2 : (k : Int) < (ln : Int) := by omega
      obtain ⟨b1, o1, rfl, hb1, c1⟩ := os.rd.at_ hkl
      obtain ⟨hd1, hd2⟩ := HM.out k hkl
      unfold iv at c1
      have HL2 := Lib.hid hl2
      clear hl2
      obtain ⟨d, hd⟩ : ∃ d, d = (pr s).getD k 0 := ⟨_, rfl⟩
      rw [← hd] at c1 hd1 hd2
      have HD := Lib.hid hd
      clear hd
      have g3 : (l : Int).tmod (d : Int) = ((l % d : Nat) : Int) := by rw [Int.tmod_eq_emod_of_nonneg (by omega)]; exact (Int.natCast_emod _ _).symm
      have g4 : ((d : Int) == 0) = false := by simp; omega
      have g5 : ¬ (d : Int) = 0 := by omega
      by_cases h0 : l % d = 0
      ·have g6 : ((l % d : Nat) : Int) = 0 := by omega
       have H0 := Lib.hid h0
       clear h0
       go_wp2_with fail
       exact ⟨⟨k + 1, by omega, by go_num, ⟨d, rfl, .inr ⟨by omega, k, hkl, by rw [← HD.out]; exact H0.out⟩⟩, trivial⟩, by simp [intOf]; omega⟩
      ·have g6 : (((l % d : Nat) : Int) == 0) = false := by simp; omega
       have H0 := Lib.hid h0
       clear h0
       go_wp2_with fail
       exact ⟨⟨k + 1, by omega, by go_num, ⟨l, rfl, .inl ⟨rfl, fun m hm => by
        by_cases e : m = k
        ·subst e; rw [← HD.out]; exact H0.out
        ·exact HL2.out m (by omega)⟩⟩, trivial⟩, by simp [intOf]; omega⟩
     ·obtain rfl : k = ln := by omega
      have g2 : ¬ (k : Int) < (k : Int) := by omega
      have hnew : pr (t + 1) = pr t ++ [l] := by rw [HU.out, if_pos (HA.out.2 hl2)]
      have hv : Value.int .i64 (l : Int) = iv (pr s) k := by
       unfold iv
       rw [pr_at (n := t + 1) (by omega) (by rw [hnew, List.length_append, ← HN.out]; simp), hnew]
       simp [List.getD, HN.out]
      have hlen : (pr (t + 1)).length = k + 1 := by rw [hnew, List.length_append, ← HN.out]; rfl
      have HV := Lib.hid hv
      have HL := Lib.hid hlen
      clear hv hlen hnew hl2
      go_wp2_with (at_builtin; refine wpList_appF1 _ rfl (.tmp 39) (.tmp 41) _ rfl w.heap.size 3 i0 _ Tryz.underlying40 hi hz0 hz1 hz2 (by decide) rfl rfl os HV.out rfl rfl (by omega) (by omega) hb.size ?_; intro A' c' w' ho' hb')
      go_roundw
      case rel => exact ⟨t + 1, l + 1, by omega, by rw [HP.out], rfl, ⟨A', c', by rw [HL.out], by rw [HL.out]; exact ho'⟩, hb.trans hb'⟩
      case measure => simp [intOf]; have := HP.out; omega
    ·have hl2 : ∃ m, m < ln ∧ P % (pr s).getD m 0 = 0 := by
      rcases hl with h | h
      ·exact absurd h.1 hlP
      ·exact h.2
     have g7 : ((l : Int) == (P : Int)) = false := by simp; omega
     have hnew : pr (t + 1) = pr t := by
      rw [HU.out, if_neg]
      intro h
      obtain ⟨m, h1, h2⟩ := hl2
      exact HA.out.1 h m h1 h2
     have HW := Lib.hid hnew
     clear hl hl2 hnew hlP
     by_cases hkl : k < ln
     ·have g2 : (k : Int) < (ln : Int) := by omega
      go_wp2_with fail
      go_roundw
      case rel => exact ⟨t + 1, P + 1, by omega, by rw [HP.out], rfl, ⟨A, c, by rw [HW.out, ← HN.out], by rw [HW.out, ← HN.out]; exact os⟩, hb⟩
      case measure => simp [intOf]; have := HP.out; omega
     ·have g2 : ¬ (k : Int) < (ln : Int) := by omega
      go_wp2_with fail
      go_roundw
      case rel => exact ⟨t + 1, P + 1, by omega, by rw [HP.out], rfl, ⟨A, c, by rw [HW.out, ← HN.out], by rw [HW.out, ← HN.out]; exact os⟩, hb⟩
      case measure => simp [intOf]; have := HP.out; omega
end
section
open Go Go.RowKit
structure Ks where
 bits : Nat
 rounds : Nat
 u : Nat × Nat × Nat
 d : Nat × Nat × Nat
 e : Nat × Nat × Nat
 l : Nat × Nat × Nat
 keys : List Nat
 first : List Nat
structure Kd extends Ks where
 ka : Option Addr
 kc : Nat
 fa : Option Addr
 fc : Nat
def Kd.cells (K : Kd) : List Value := [.int .i64 (K.bits : Int), .int .i64 (K.rounds : Int), .int .i64 (K.u.1 : Int), .int .i64 (K.u.2.1 : Int), .int .i64 (K.u.2.2 : Int), .int .i64 (K.d.1 : Int), .int .i64 (K.d.2.1 : Int), .int .i64 (K.d.2.2 : Int),
 .int .i64 (K.e.1 : Int), .int .i64 (K.e.2.1 : Int), .int .i64 (K.e.2.2 : Int), .int .i64 (K.l.1 : Int), .int .i64 (K.l.2.1 : Int), .int .i64 (K.l.2.2 : Int), .slice K.ka K.keys.length K.kc, .slice K.fa K.first.length K.fc]
def kf (K : Kd) (i : Nat) : Value := K.cells.getD i undef
theorem Kd.len (K : Kd) : K.cells.length = 16 := rfl
theorem Kd.get (K : Kd) {i : Nat} (h : i < 16) : K.cells[i]? = some (kf K i) := by
 unfold kf
 rw [List.getD_eq_getElem?_getD, List.getElem?_eq_getElem (by rw [K.len]; exact h)]
 rfl
theorem Kd.map (K : Kd) : K.cells = (List.range 16).map (kf K) := rfl
abbrev kv (K : Kd) : Value := .agg K.cells.toArray
abbrev AK (K : Kd) : Obj := .cells K.cells.toArray 120
def OK (w : World) (B g : Nat) (K : Kd) : Prop := OwnF w B 120 (some ⟨g, 0, none⟩) 16 16 (kf K)
section
variable {w w' : World} {B g : Nat} {K : Kd}
theorem OK.keep (h : OK w B g K) (hb : Below w.heap.size w w') : OK w' B g K := OwnF.keep h hb
theorem OK.alloc (h : OK w B g K) (o : Obj) : OK (w.alloc o) B g K := OwnF.keep h ((Below.refl _ w).alloc (Nat.le_refl _) o)
theorem OK.new (hB : B ≤ w.heap.size) (K : Kd) : OK (w.alloc (AK K)) B w.heap.size K := OwnF.lit _ hB _ 16 _ (by decide) K.map
theorem OK.drew (h : OK w B g K) : OK w.drew B g K := OwnF.drew h
theorem OK.lt (h : OK w B g K) : g < w.heap.size := OwnF.lt h
theorem OK.mono {B' : Nat} (h : OK w B g K) (hb : B' ≤ B) : OK w B' g K := OwnF.mono h hb
theorem OK.cell_ (h : OK w B g K) {k : Nat} (hk : k < 16) : w.cell? ⟨g, k, none⟩ = some (kf K k) := OwnF.cell h hk
theorem OK.bits (h : OK w B g K) : w.cell? ⟨g, 0, none⟩ = some (.int .i64 (K.bits : Int)) := h.cell_ (by decide)
theorem OK.rounds (h : OK w B g K) : w.cell? ⟨g, 1, none⟩ = some (.int .i64 (K.rounds : Int)) := h.cell_ (by decide)
end
theorem OwnF.rng {w : World} {B g : Nat} {e : TypeId} {c n : Nat} {f : Nat → Value} (h : OwnF w B e (some ⟨g, 0, none⟩) c n f) {cs : List Value} (hl : cs.length ≤ n) (hc : ∀ k, k < cs.length → cs[k]? = some (f k)) : w.rangeAt g 0 cs := by
 intro j v hv
 have hj : j < cs.length := (List.getElem?_eq_some_iff.1 hv).1
 rw [hc j hj] at hv
 simp only [Option.some.injEq] at hv
 subst hv
 simpa using OwnF.cell h (k := j) (by omega)
theorem k_info : (Tryz.prog.info? 120).map (·.size) = some 16 := by kernel_rfl
section
variable {ops : Array Oper} {rest : List Oper} {a : Act} {w : World} {Q : Exit → Act → World → Prop} {B g : Nat} {K : Kd} {dst : Option Nat} {tp : TypeId} {ps : String} {af : Array Edge} {x y : Operand} {o : Oper}
theorem run_kload {s : Operand} (ho : o.op = .load 120 s) (h1 : a.eval s = .pointer (some ⟨g, 0, none⟩)) (h : OK w B g K) : (execOp a.eval o).run Tryz.prog w = .ok (.value (kv K)) w := by
 have h2 := run_loadAt_mid (P := Tryz.prog) w g 0 120 K.cells _ (OwnF.rng h (by rw [K.len]; exact Nat.le_refl _) fun k hk => K.get (by rwa [K.len] at hk)) Tryz.underlying120 rfl (by rw [K.len]; exact k_info)
 unfold execOp
 simp only [ho, h1, Sem.run_bind, h2, Result.andThen_ok, Sem.run_pure]
theorem k_load (h0 : OK w B g K) (hx : a.eval x = .pointer (some ⟨g, 0, none⟩)) (h : wpList Tryz.prog ops Q rest (a.put dst (kv K)) w) : wpList Tryz.prog ops Q (⟨dst, .load 120 x, tp, ps, af, none⟩ :: rest) a w :=
 wpList_load_mid rfl _ x rfl g 0 hx K.cells _ (OwnF.rng h0 (by rw [K.len]; exact Nat.le_refl _) fun k hk => K.get (by rwa [K.len] at hk)) Tryz.underlying120 rfl (by rw [K.len]; exact k_info) h
end
def cutN (K : Ks) (x : Nat) : Nat := if K.bits = 32 then x % 4294967296 else x
attribute [local irreducible] Kd.cells kf
set_option maxRecDepth 20000
theorem cut_any {K : Kd} {x : Nat} (w : World) : Calls Tryz.prog 144 #[kv K, .int .u64 (x : Int)] w fun en w' => en = .returned (.int .u64 ((cutN K.toKs x : Nat) : Int)) ∧ Below w.heap.size w w' := by
 obtain ⟨r, hr⟩ : ∃ r, r = cutN K.toKs x := ⟨_, rfl⟩
 rw [← hr]
 have ok := OK.new (w := w) (Nat.le_refl _) K
 have cb := ok.bits
 have hb := (Below.refl w.heap.size w).alloc (Nat.le_refl _) (AK K)
 unfold cutN at hr
 by_cases h32 : K.bits = 32
 ·rw [if_pos h32] at hr
  have g1 : ((K.bits : Int) == 32) = true := by rw [h32]; rfl
  have g2 : (x : Int).tmod 4294967296 = (r : Int) := by rw [Int.tmod_eq_emod_of_nonneg (by omega), hr]; omega
  have g3 : (x : Int) % 4294967296 = (r : Int) := by rw [hr]; omega
  clear h32 hr ok
  go_enter Tryz.func144, Tryz.ntmps144
  go_wp2_with fail
  go_ret
  exact ⟨rfl, hb⟩
 ·rw [if_neg h32] at hr
  have g1 : ((K.bits : Int) == 32) = false := by simp; omega
  subst hr
  clear h32 ok
  go_enter Tryz.func144, Tryz.ntmps144
  go_wp2_with fail
  go_ret
  exact ⟨rfl, hb⟩
end
section
open Go Go.RowKit
def rot1 (b x : Nat) : Nat := x / 2 + x % 2 * 2 ^ (b - 1)
def rotN (b x : Nat) : Nat → Nat
 | 0 => x
 | n + 1 => rot1 b (rotN b x n)
theorem rot1_lt {b x : Nat} (hb : 0 < b) (hx : x < 2 ^ b) : rot1 b x < 2 ^ b := by
 obtain ⟨c, rfl⟩ : ∃ c, b = c + 1 := ⟨b - 1, by omega⟩
 unfold rot1
 rw [Nat.add_sub_cancel]
 rw [Nat.pow_succ] at hx ⊢
 have h := Nat.mod_lt x (show 0 < 2 by decide)
 have : x % 2 = 0 ∨ x % 2 = 1 := by omega
 rcases this with h | h <;> rw [h] <;> omega
theorem rotN_lt {b x : Nat} (hb : 0 < b) (hx : x < 2 ^ b) : ∀ n, rotN b x n < 2 ^ b
 | 0 => hx
 | n + 1 => rot1_lt hb (rotN_lt hb hx n)
def hi2 (k : Nat) : Nat := 2 ^ (k - 1)
theorem hi2_one : hi2 1 = 1 := rfl
theorem hi2_step {k : Nat} (h : 1 ≤ k) : hi2 (k + 1) = hi2 k * 2 := by unfold hi2; rw [show k + 1 - 1 = (k - 1) + 1 by omega, Nat.pow_succ]
def sh2 (x k : Nat) : Nat := x / 2 ^ k
theorem rotN_zero (b x : Nat) : rotN b x 0 = x := rfl
theorem rotN_hi (b x m : Nat) : rotN b x (m + 1) = rotN b x m / 2 + rotN b x m % 2 * hi2 b := rfl
theorem sh2_zero (x : Nat) : sh2 x 0 = x := by simp [sh2]
theorem sh2_half (x k : Nat) : sh2 x k / 2 = sh2 x (k + 1) := by unfold sh2; rw [Nat.div_div_eq_div_mul, ← Nat.pow_succ]
theorem sh2_le (x k : Nat) : sh2 x k ≤ x := Nat.div_le_self _ _
attribute [local irreducible] Kd.cells kf hi2 sh2 rotN
set_option maxRecDepth 20000
theorem shift_gen {x n : Nat} (hx : x < 18446744073709551616) (hn : n ≤ 1000) (hs0 : sh2 x 0 = x) (hs : ∀ k, sh2 x k / 2 = sh2 x (k + 1)) (hle : ∀ k, sh2 x k ≤ x) (w : World) : Calls Tryz.prog 124 #[.int .u64 (x : Int), .int .i64 (n : Int)] w fun en w' => en = .returned (.int .u64 ((sh2 x n : Nat) : Int)) ∧ w' = w := by
 have HS := Lib.hid hs
 have HL := Lib.hid hle
 clear hs hle
 go_enter Tryz.func124, Tryz.ntmps124
 go_wp2_with fail
 go_loop [0, 5] (fun v i => ∃ k : Nat, k ≤ n ∧ i = .int .i64 (k : Int) ∧ v = .int .u64 ((sh2 x k : Nat) : Int))
  (fun _ i => n - (intOf i).toNat)
 case atStart => exact ⟨0, by omega, rfl, by rw [hs0]⟩
 case round =>
  obtain ⟨k, hk, rfl, rfl⟩ := hrel
  have e2 := HS.out k
  have hle := HL.out k
  by_cases hlt : k < n
  ·have g1 : (k : Int) < (n : Int) := by omega
   have g2 : (sh2 x k : Int) / 2 = (sh2 x (k + 1) : Int) := by omega
   have g3 : (sh2 x k : Int).tdiv 2 = (sh2 x (k + 1) : Int) := by rw [Int.tdiv_eq_ediv_of_nonneg (by omega), g2]
   have g4 : IntKind.u64.wrap (sh2 x (k + 1) : Int) = (sh2 x (k + 1) : Int) := by rw [IntKind.wrap_u64]; omega
   clear e2 hle hs0
   go_wp2_with fail
   go_round
   case rel => exact ⟨k + 1, by omega, by go_num, rfl⟩
   case measure => simp [intOf]; omega
  ·obtain rfl : k = n := by omega
   have g1 : ¬ (k : Int) < (k : Int) := by omega
   clear e2 hs0
   go_wp2_with fail
   go_ret
   exact ⟨rfl, rfl⟩
theorem shift_any {x n : Nat} (hx : x < 18446744073709551616) (hn : n ≤ 1000) (w : World) : Calls Tryz.prog 124 #[.int .u64 (x : Int), .int .i64 (n : Int)] w fun en w' => en = .returned (.int .u64 ((sh2 x n : Nat) : Int)) ∧ w' = w :=
 shift_gen hx hn (sh2_zero x) (sh2_half x) (sh2_le x) w
set_option maxHeartbeats 800000 in
theorem turn_any {K : Kd} {x n b : Nat} (hKb : K.bits = b) (hb : b = 32 ∨ b = 64) (hx : x < 2 ^ b) (hn : n ≤ 1000) (w : World) :
  Calls Tryz.prog 154 #[kv K, .int .u64 (x : Int), .int .i64 (n : Int)] w fun en w' => en = .returned (.int .u64 ((rotN b x n : Nat) : Int)) ∧ Below w.heap.size w w' := by
 have hb1 : 0 < b := by omega
 have hx0 := fun m => rotN_lt hb1 hx m
 have hb64 : 2 ^ b ≤ 18446744073709551616 := by rcases hb with rfl | rfl <;> decide
 have hhp : ∀ k, 1 ≤ k → k ≤ b → hi2 k * 2 ≤ 18446744073709551616 := fun k h1 h2 => by
  unfold hi2
  rw [← Nat.pow_succ, show (k - 1).succ = k by omega]
  exact Nat.le_trans (Nat.pow_le_pow_right (by decide) h2) hb64
 have HHP := Lib.hid hhp
 have HX := Lib.hid hx0
 clear hx0 hhp
 have ok := OK.new (w := w) (Nat.le_refl _) K
 have cb := ok.bits
 rw [hKb] at cb
 have hbb := (Below.refl w.heap.size w).alloc (Nat.le_refl _) (AK K)
 clear ok hKb
 go_enter Tryz.func154, Tryz.ntmps154
 go_wp2_with fail
 obtain ⟨w0, e0⟩ : ∃ v, v = w.alloc (AK K) := ⟨_, rfl⟩
 rw [← e0] at cb hbb ⊢
 clear e0
 go_loop [7, 8] (fun v i => ∃ k : Nat, 1 ≤ k ∧ k ≤ b ∧ i = .int .i64 (k : Int) ∧ v = .int .u64 ((hi2 k : Nat) : Int))
  (fun _ i => b - (intOf i).toNat)
 case atStart => exact ⟨1, by omega, by omega, rfl, by rw [hi2_one]; rfl⟩
 case round =>
  obtain ⟨k, hk1, hk, rfl, rfl⟩ := hrel
  by_cases hlt : k < b
  ·have g1 : (k : Int) < (b : Int) := by omega
   have hpow := HHP.out k hk1 hk
   have hst := hi2_step hk1
   have g2 : IntKind.u64.wrap ((hi2 k : Int) * 2) = (hi2 (k + 1) : Int) := by
    have := HHP.out (k + 1) (by omega) (by omega)
    rw [IntKind.wrap_u64]; omega
   clear hpow hst
   go_wp2_with fail
   go_round
   case rel => exact ⟨k + 1, by omega, by omega, by go_num, rfl⟩
   case measure => simp [intOf]; omega
  ·obtain rfl : k = b := by omega
   have g1 : ¬ (k : Int) < (k : Int) := by omega
   go_wp2_with fail
   go_loop [1, 9] (fun v i => ∃ m : Nat, m ≤ n ∧ i = .int .i64 (m : Int) ∧ v = .int .u64 ((rotN k x m : Nat) : Int))
    (fun _ i => n - (intOf i).toNat)
   case atStart => exact ⟨0, by omega, rfl, by rw [rotN_zero]⟩
   case round =>
    obtain ⟨m, hm, rfl, rfl⟩ := hrel
    have hy := HX.out m
    have hy2 := HX.out (m + 1)
    have hs := rotN_hi k x m
    generalize hh : hi2 k = h at *
    generalize hz : rotN k x (m + 1) = z at *
    generalize hyv : rotN k x m = y at *
    have HZ := Lib.hid hz
    have HY := Lib.hid hyv
    have HH := Lib.hid hh
    clear hz hyv hh
    by_cases hlt2 : m < n
    ·have g3 : (m : Int) < (n : Int) := by omega
     have hdm : y % 2 = 0 ∨ y % 2 = 1 := by omega
     have k1 : (y : Int) / 2 = ((y / 2 : Nat) : Int) := by omega
     have k1' : (y : Int).tdiv 2 = ((y / 2 : Nat) : Int) := by rw [Int.tdiv_eq_ediv_of_nonneg (by omega), k1]
     have k2 : (y : Int) % 2 = ((y % 2 : Nat) : Int) := by omega
     have k2' : (y : Int).tmod 2 = ((y % 2 : Nat) : Int) := by rw [Int.tmod_eq_emod_of_nonneg (by omega), k2]
     have hprod : y % 2 * h ≤ z := by rw [hs]; exact Nat.le_add_left _ _
     have k3 : ((y % 2 : Nat) : Int) * (h : Int) = ((y % 2 * h : Nat) : Int) := (Int.natCast_mul _ _).symm
     obtain ⟨pq, hpq⟩ : ∃ pq, pq = y % 2 * h := ⟨_, rfl⟩
     obtain ⟨yq, hyq⟩ : ∃ yq, yq = y / 2 := ⟨_, rfl⟩
     obtain ⟨ym, hym⟩ : ∃ ym, ym = y % 2 := ⟨_, rfl⟩
     rw [← hpq] at k3 hprod hs
     rw [← hyq] at k1 k1' hs
     rw [← hym] at k2 k2' k3
     have k4 : IntKind.u64.wrap (pq : Int) = (pq : Int) := by rw [IntKind.wrap_u64]; omega
     have k5 : IntKind.u64.wrap ((yq : Int) + (pq : Int)) = (z : Int) := by rw [IntKind.wrap_u64]; omega
     have k6 : IntKind.u64.wrap (yq : Int) = (yq : Int) := by rw [IntKind.wrap_u64]; omega
     have k7 : IntKind.u64.wrap (ym : Int) = (ym : Int) := by rw [IntKind.wrap_u64]; omega
     clear hs hprod hdm hpq hyq hym hy hy2
     go_wp2_with fail
     go_round
     case rel => exact ⟨m + 1, by omega, by go_num, by rw [HZ.out]⟩
     case measure => simp [intOf]; omega
    ·obtain rfl : m = n := by omega
     have g3 : ¬ (m : Int) < (m : Int) := by omega
     clear hs hy hy2
     rw [← HY.out] at *
     go_wp2_with fail
     go_ret
     exact ⟨rfl, hbb⟩
end
section
open Go Go.RowKit
abbrev tv (a b c : Nat) : Value := .agg #[.int .i64 (a : Int), .int .i64 (b : Int), .int .i64 (c : Int)]
theorem kt_start (K : Kd) (a b c : Nat) (w : World) : ∃ v, v = (w.alloc (AK K)).alloc (.cells #[.int .i64 (a : Int), .int .i64 (b : Int), .int .i64 (c : Int)] 118) ∧ OK v w.heap.size w.heap.size K ∧
  (∀ wz, Below v.heap.size v wz → wz.cell? ⟨w.heap.size + 1, 0, none⟩ = some (.int .i64 (a : Int)) ∧ wz.cell? ⟨w.heap.size + 1, 1, none⟩ = some (.int .i64 (b : Int)) ∧ wz.cell? ⟨w.heap.size + 1, 2, none⟩ = some (.int .i64 (c : Int))) ∧ Below w.heap.size w v := by
 have s1 : (w.alloc (AK K)).heap.size = w.heap.size + 1 := by simp
 have o := OwnF.lit (w := w.alloc (AK K)) (B := w.heap.size) 118 (by omega) #[.int .i64 (a : Int), .int .i64 (b : Int), .int .i64 (c : Int)] 3 (fun k => [Value.int .i64 (a : Int), .int .i64 (b : Int), .int .i64 (c : Int)].getD k undef) (by decide) rfl
 rw [s1] at o
 refine ⟨_, rfl, (OK.new (Nat.le_refl _) K).alloc _, fun wz hz => ?_, ((Below.refl _ w).alloc (Nat.le_refl _) _).alloc (by omega) _⟩
 have o2 := OwnF.keep o hz
 exact ⟨o2.cell (k := 0) (by decide), o2.cell (k := 1) (by decide), o2.cell (k := 2) (by decide)⟩
attribute [local irreducible] Kd.cells kf
set_option maxRecDepth 20000
set_option maxHeartbeats 1600000 in
theorem turned_gen {K : Kd} {x a b c ra rb rc rd re : Nat}
  (ka : ∀ w, Calls Tryz.prog 154 #[kv K, .int .u64 (x : Int), .int .i64 (a : Int)] w fun e w' => e = .returned (.int .u64 (ra : Int)) ∧ Below w.heap.size w w')
  (kb : ∀ w, Calls Tryz.prog 154 #[kv K, .int .u64 (x : Int), .int .i64 (b : Int)] w fun e w' => e = .returned (.int .u64 (rb : Int)) ∧ Below w.heap.size w w')
  (kc : ∀ w, Calls Tryz.prog 154 #[kv K, .int .u64 (x : Int), .int .i64 (c : Int)] w fun e w' => e = .returned (.int .u64 (rc : Int)) ∧ Below w.heap.size w w')
  (E1 : bits .xor .u64 (ra : Int) (rb : Int) = (rd : Int)) (E2 : bits .xor .u64 (rd : Int) (rc : Int) = (re : Int)) (w : World) :
  Calls Tryz.prog 143 #[kv K, .int .u64 (x : Int), tv a b c] w fun e w' => e = .returned (.int .u64 (re : Int)) ∧ Below w.heap.size w w' := by
 have KA := Lib.hid ka
 have KB := Lib.hid kb
 have KC := Lib.hid kc
 clear ka kb kc
 obtain ⟨v0, ev, o3, h5, hc⟩ := kt_start K a b c w
 have H5 := Lib.hid h5
 clear h5
 go_enter Tryz.func143, Tryz.ntmps143
 go_upto_region 1 with fail
 rw [← ev]
 obtain ⟨g3, eg3⟩ : ∃ g, g = w.heap.size := ⟨_, rfl⟩
 obtain ⟨g5, eg5⟩ : ∃ g, g = w.heap.size + 1 := ⟨_, rfl⟩
 rw [show (Value.pointer (some ⟨w.heap.size, 0, none⟩)) = .pointer (some ⟨g3, 0, none⟩) by rw [eg3], show (Value.pointer (some ⟨w.heap.size + 1, 0, none⟩)) = .pointer (some ⟨g5, 0, none⟩) by rw [eg5]]
 replace o3 : OK v0 w.heap.size g3 K := by rw [eg3]; exact o3
 rw [← eg5] at H5
 clear ev eg3 eg5
 refine wp_region_inv 17 [7, 8, 9, 10, 11, 12, 13, 14, 15, 16, 17, 18, 19, 20, 21, 22, 23] [.val (kv K), .val (.int .u64 (x : Int)), .val (.pointer (some ⟨g5, 0, none⟩)), .val (.int .i64 (a : Int)), .val (.int .u64 (ra : Int)), .val (kv K), .val (.int .u64 (x : Int)), .val (.pointer (some ⟨g5, 1, none⟩)), .val (.int .i64 (b : Int)), .val (.int .u64 (rb : Int)), .val (.int .u64 (rd : Int)), .val (kv K), .val (.int .u64 (x : Int)), .val (.pointer (some ⟨g5, 2, none⟩)), .val (.int .i64 (c : Int)), .val (.int .u64 (rc : Int)), .val (.int .u64 (re : Int))] (fun wz => Below v0.heap.size v0 wz) (by kernel_rfl) (by kernel_rfl) (fun wz wz' hz hb => bnx hz hb) ((Below.refl _ _).drew) (fun u => by simp only [puts, List.foldl_cons, List.foldl_nil]; go_simp; exact rfl) ?_ ?_
 ·simp only [List.take_succ_cons, List.take_zero]
  refine .cons (fun u w hS hd => ?_) ?_
  ·exact Gv.run (kv K) rfl (run_kload rfl rfl (o3.keep hS)) rfl
  refine .cons (fun u w hS hd => ?_) ?_
  ·exact Gv.run (.int .u64 (x : Int)) rfl (by go_simp) rfl
  refine .cons (fun u w hS hd => ?_) ?_
  ·exact Gv.run (.pointer (some ⟨g5, 0, none⟩)) rfl (by go_simp) rfl
  refine .cons (fun u w hS hd => ?_) ?_
  ·have d9 : u 9 = .pointer (some ⟨g5, 0, none⟩) := dep hd 2 rfl
   rw [d9]
   exact Gv.run (.int .i64 (a : Int)) rfl (by have hc := H5.out w hS; obtain ⟨c0, c1, c2⟩ := hc; go_simp) rfl
  refine .cons (fun u w hS hd => ?_) ?_
  ·have d7 : u 7 = kv K := dep hd 0 rfl
   have d8 : u 8 = .int .u64 (x : Int) := dep hd 1 rfl
   have d10 : u 10 = .int .i64 (a : Int) := dep hd 3 rfl
   rw [d7, d8, d10]
   refine Gv.call 154 #[kv K, .int .u64 (x : Int), .int .i64 (a : Int)] rfl (by go_simp) ((KA.out w).mono ?_)
   rintro e w' ⟨rfl, hb⟩
   exact ⟨_, rfl, rfl, hb⟩
  refine .cons (fun u w hS hd => ?_) ?_
  ·exact Gv.run (kv K) rfl (run_kload rfl rfl (o3.keep hS)) rfl
  refine .cons (fun u w hS hd => ?_) ?_
  ·exact Gv.run (.int .u64 (x : Int)) rfl (by go_simp) rfl
  refine .cons (fun u w hS hd => ?_) ?_
  ·exact Gv.run (.pointer (some ⟨g5, 1, none⟩)) rfl (by go_simp) rfl
  refine .cons (fun u w hS hd => ?_) ?_
  ·have d14 : u 14 = .pointer (some ⟨g5, 1, none⟩) := dep hd 7 rfl
   rw [d14]
   exact Gv.run (.int .i64 (b : Int)) rfl (by have hc := H5.out w hS; obtain ⟨c0, c1, c2⟩ := hc; go_simp) rfl
  refine .cons (fun u w hS hd => ?_) ?_
  ·have d12 : u 12 = kv K := dep hd 5 rfl
   have d13 : u 13 = .int .u64 (x : Int) := dep hd 6 rfl
   have d15 : u 15 = .int .i64 (b : Int) := dep hd 8 rfl
   rw [d12, d13, d15]
   refine Gv.call 154 #[kv K, .int .u64 (x : Int), .int .i64 (b : Int)] rfl (by go_simp) ((KB.out w).mono ?_)
   rintro e w' ⟨rfl, hb⟩
   exact ⟨_, rfl, rfl, hb⟩
  refine .cons (fun u w hS hd => ?_) ?_
  ·have d11 : u 11 = .int .u64 (ra : Int) := dep hd 4 rfl
   have d16 : u 16 = .int .u64 (rb : Int) := dep hd 9 rfl
   rw [d11, d16]
   have hx := E1
   exact Gv.run (.int .u64 (rd : Int)) rfl (by go_simp) rfl
  refine .cons (fun u w hS hd => ?_) ?_
  ·exact Gv.run (kv K) rfl (run_kload rfl rfl (o3.keep hS)) rfl
  refine .cons (fun u w hS hd => ?_) ?_
  ·exact Gv.run (.int .u64 (x : Int)) rfl (by go_simp) rfl
  refine .cons (fun u w hS hd => ?_) ?_
  ·exact Gv.run (.pointer (some ⟨g5, 2, none⟩)) rfl (by go_simp) rfl
  refine .cons (fun u w hS hd => ?_) ?_
  ·have d20 : u 20 = .pointer (some ⟨g5, 2, none⟩) := dep hd 13 rfl
   rw [d20]
   exact Gv.run (.int .i64 (c : Int)) rfl (by have hc := H5.out w hS; obtain ⟨c0, c1, c2⟩ := hc; go_simp) rfl
  refine .cons (fun u w hS hd => ?_) ?_
  ·have d18 : u 18 = kv K := dep hd 11 rfl
   have d19 : u 19 = .int .u64 (x : Int) := dep hd 12 rfl
   have d21 : u 21 = .int .i64 (c : Int) := dep hd 14 rfl
   rw [d18, d19, d21]
   refine Gv.call 154 #[kv K, .int .u64 (x : Int), .int .i64 (c : Int)] rfl (by go_simp) ((KC.out w).mono ?_)
   rintro e w' ⟨rfl, hb⟩
   exact ⟨_, rfl, rfl, hb⟩
  refine .cons (fun u w hS hd => ?_) ?_
  ·have d17 : u 17 = .int .u64 (rd : Int) := dep hd 10 rfl
   have d22 : u 22 = .int .u64 (rc : Int) := dep hd 15 rfl
   rw [d17, d22]
   have hx := E2
   exact Gv.run (.int .u64 (re : Int)) rfl (by go_simp) rfl
  exact Obs.nil
 intro u v1 hS hd
 have d23 : u 23 = .int .u64 (re : Int) := hd 16 (by decide)
 rw [d23]
 simp only [List.drop_succ_cons, List.drop_zero]
 go_wp2_with fail
 go_ret
 exact ⟨rfl, bnx hc hS⟩
set_option maxHeartbeats 1600000 in
theorem shifted_gen {K : Kd} {x a b c ra rb rc rd re : Nat}
  (ka : ∀ w, Calls Tryz.prog 154 #[kv K, .int .u64 (x : Int), .int .i64 (a : Int)] w fun e w' => e = .returned (.int .u64 (ra : Int)) ∧ Below w.heap.size w w')
  (kb : ∀ w, Calls Tryz.prog 154 #[kv K, .int .u64 (x : Int), .int .i64 (b : Int)] w fun e w' => e = .returned (.int .u64 (rb : Int)) ∧ Below w.heap.size w w')
  (kc : ∀ w, Calls Tryz.prog 124 #[.int .u64 (x : Int), .int .i64 (c : Int)] w fun e w' => e = .returned (.int .u64 (rc : Int)) ∧ Below w.heap.size w w')
  (E1 : bits .xor .u64 (ra : Int) (rb : Int) = (rd : Int)) (E2 : bits .xor .u64 (rd : Int) (rc : Int) = (re : Int)) (w : World) :
  Calls Tryz.prog 153 #[kv K, .int .u64 (x : Int), tv a b c] w fun e w' => e = .returned (.int .u64 (re : Int)) ∧ Below w.heap.size w w' := by
 have KA := Lib.hid ka
 have KB := Lib.hid kb
 have KC := Lib.hid kc
 clear ka kb kc
 obtain ⟨v0, ev, o3, h5, hc⟩ := kt_start K a b c w
 have H5 := Lib.hid h5
 clear h5
 go_enter Tryz.func153, Tryz.ntmps153
 go_upto_region 1 with fail
 rw [← ev]
 obtain ⟨g3, eg3⟩ : ∃ g, g = w.heap.size := ⟨_, rfl⟩
 obtain ⟨g5, eg5⟩ : ∃ g, g = w.heap.size + 1 := ⟨_, rfl⟩
 rw [show (Value.pointer (some ⟨w.heap.size, 0, none⟩)) = .pointer (some ⟨g3, 0, none⟩) by rw [eg3], show (Value.pointer (some ⟨w.heap.size + 1, 0, none⟩)) = .pointer (some ⟨g5, 0, none⟩) by rw [eg5]]
 replace o3 : OK v0 w.heap.size g3 K := by rw [eg3]; exact o3
 rw [← eg5] at H5
 clear ev eg3 eg5
 refine wp_region_inv 16 [7, 8, 9, 10, 11, 12, 13, 14, 15, 16, 17, 18, 19, 20, 21, 22] [.val (kv K), .val (.int .u64 (x : Int)), .val (.pointer (some ⟨g5, 0, none⟩)), .val (.int .i64 (a : Int)), .val (.int .u64 (ra : Int)), .val (kv K), .val (.int .u64 (x : Int)), .val (.pointer (some ⟨g5, 1, none⟩)), .val (.int .i64 (b : Int)), .val (.int .u64 (rb : Int)), .val (.int .u64 (rd : Int)), .val (.int .u64 (x : Int)), .val (.pointer (some ⟨g5, 2, none⟩)), .val (.int .i64 (c : Int)), .val (.int .u64 (rc : Int)), .val (.int .u64 (re : Int))] (fun wz => Below v0.heap.size v0 wz) (by kernel_rfl) (by kernel_rfl) (fun wz wz' hz hb => bnx hz hb) ((Below.refl _ _).drew) (fun u => by simp only [puts, List.foldl_cons, List.foldl_nil]; go_simp; exact rfl) ?_ ?_
 ·simp only [List.take_succ_cons, List.take_zero]
  refine .cons (fun u w hS hd => ?_) ?_
  ·exact Gv.run (kv K) rfl (run_kload rfl rfl (o3.keep hS)) rfl
  refine .cons (fun u w hS hd => ?_) ?_
  ·exact Gv.run (.int .u64 (x : Int)) rfl (by go_simp) rfl
  refine .cons (fun u w hS hd => ?_) ?_
  ·exact Gv.run (.pointer (some ⟨g5, 0, none⟩)) rfl (by go_simp) rfl
  refine .cons (fun u w hS hd => ?_) ?_
  ·have d9 : u 9 = .pointer (some ⟨g5, 0, none⟩) := dep hd 2 rfl
   rw [d9]
   exact Gv.run (.int .i64 (a : Int)) rfl (by have hc := H5.out w hS; obtain ⟨c0, c1, c2⟩ := hc; go_simp) rfl
  refine .cons (fun u w hS hd => ?_) ?_
  ·have d7 : u 7 = kv K := dep hd 0 rfl
   have d8 : u 8 = .int .u64 (x : Int) := dep hd 1 rfl
   have d10 : u 10 = .int .i64 (a : Int) := dep hd 3 rfl
   rw [d7, d8, d10]
   refine Gv.call 154 #[kv K, .int .u64 (x : Int), .int .i64 (a : Int)] rfl (by go_simp) ((KA.out w).mono ?_)
   rintro e w' ⟨rfl, hb⟩
   exact ⟨_, rfl, rfl, hb⟩
  refine .cons (fun u w hS hd => ?_) ?_
  ·exact Gv.run (kv K) rfl (run_kload rfl rfl (o3.keep hS)) rfl
  refine .cons (fun u w hS hd => ?_) ?_
  ·exact Gv.run (.int .u64 (x : Int)) rfl (by go_simp) rfl
  refine .cons (fun u w hS hd => ?_) ?_
  ·exact Gv.run (.pointer (some ⟨g5, 1, none⟩)) rfl (by go_simp) rfl
  refine .cons (fun u w hS hd => ?_) ?_
  ·have d14 : u 14 = .pointer (some ⟨g5, 1, none⟩) := dep hd 7 rfl
   rw [d14]
   exact Gv.run (.int .i64 (b : Int)) rfl (by have hc := H5.out w hS; obtain ⟨c0, c1, c2⟩ := hc; go_simp) rfl
  refine .cons (fun u w hS hd => ?_) ?_
  ·have d12 : u 12 = kv K := dep hd 5 rfl
   have d13 : u 13 = .int .u64 (x : Int) := dep hd 6 rfl
   have d15 : u 15 = .int .i64 (b : Int) := dep hd 8 rfl
   rw [d12, d13, d15]
   refine Gv.call 154 #[kv K, .int .u64 (x : Int), .int .i64 (b : Int)] rfl (by go_simp) ((KB.out w).mono ?_)
   rintro e w' ⟨rfl, hb⟩
   exact ⟨_, rfl, rfl, hb⟩
  refine .cons (fun u w hS hd => ?_) ?_
  ·have d11 : u 11 = .int .u64 (ra : Int) := dep hd 4 rfl
   have d16 : u 16 = .int .u64 (rb : Int) := dep hd 9 rfl
   rw [d11, d16]
   have hx := E1
   exact Gv.run (.int .u64 (rd : Int)) rfl (by go_simp) rfl
  refine .cons (fun u w hS hd => ?_) ?_
  ·exact Gv.run (.int .u64 (x : Int)) rfl (by go_simp) rfl
  refine .cons (fun u w hS hd => ?_) ?_
  ·exact Gv.run (.pointer (some ⟨g5, 2, none⟩)) rfl (by go_simp) rfl
  refine .cons (fun u w hS hd => ?_) ?_
  ·have d19 : u 19 = .pointer (some ⟨g5, 2, none⟩) := dep hd 12 rfl
   rw [d19]
   exact Gv.run (.int .i64 (c : Int)) rfl (by have hc := H5.out w hS; obtain ⟨c0, c1, c2⟩ := hc; go_simp) rfl
  refine .cons (fun u w hS hd => ?_) ?_
  ·have d18 : u 18 = .int .u64 (x : Int) := dep hd 11 rfl
   have d20 : u 20 = .int .i64 (c : Int) := dep hd 13 rfl
   rw [d18, d20]
   refine Gv.call 124 #[.int .u64 (x : Int), .int .i64 (c : Int)] rfl (by go_simp) ((KC.out w).mono ?_)
   rintro e w' ⟨rfl, hb⟩
   exact ⟨_, rfl, rfl, hb⟩
  refine .cons (fun u w hS hd => ?_) ?_
  ·have d17 : u 17 = .int .u64 (rd : Int) := dep hd 10 rfl
   have d21 : u 21 = .int .u64 (rc : Int) := dep hd 14 rfl
   rw [d17, d21]
   have hx := E2
   exact Gv.run (.int .u64 (re : Int)) rfl (by go_simp) rfl
  exact Obs.nil
 intro u v1 hS hd
 have d22 : u 22 = .int .u64 (re : Int) := hd 15 (by decide)
 rw [d22]
 simp only [List.drop_succ_cons, List.drop_zero]
 go_wp2_with fail
 go_ret
 exact ⟨rfl, bnx hc hS⟩
def turnedN (b x : Nat) (t : Nat × Nat × Nat) : Nat := (rotN b x t.1 ^^^ rotN b x t.2.1) ^^^ rotN b x t.2.2
def shiftedN (b x : Nat) (t : Nat × Nat × Nat) : Nat := (rotN b x t.1 ^^^ rotN b x t.2.1) ^^^ sh2 x t.2.2
theorem pow64 {b : Nat} (hb : b = 32 ∨ b = 64) : 2 ^ b ≤ 18446744073709551616 := by rcases hb with rfl | rfl <;> decide
theorem turned_any {K : Kd} {x b : Nat} {t : Nat × Nat × Nat} (hK : K.bits = b) (hb : b = 32 ∨ b = 64) (hx : x < 2 ^ b) (h1 : t.1 ≤ 1000) (h2 : t.2.1 ≤ 1000) (h3 : t.2.2 ≤ 1000) (w : World) :
  Calls Tryz.prog 143 #[kv K, .int .u64 (x : Int), tv t.1 t.2.1 t.2.2] w fun e w' => e = .returned (.int .u64 (turnedN b x t : Int)) ∧ Below w.heap.size w w' := by
 have l := fun n => Nat.lt_of_lt_of_le (rotN_lt (by omega) hx n) (pow64 hb)
 exact turned_gen (rd := rotN b x t.1 ^^^ rotN b x t.2.1) (re := turnedN b x t) (fun w => turn_any hK hb hx h1 w) (fun w => turn_any hK hb hx h2 w) (fun w => turn_any hK hb hx h3 w) (bits_xor_u64_nat _ _ (l _) (l _)) (bits_xor_u64_nat _ _ (Nat.xor_lt_two_pow (n := 64) (l _) (l _)) (l _)) w
theorem shifted_any {K : Kd} {x b : Nat} {t : Nat × Nat × Nat} (hK : K.bits = b) (hb : b = 32 ∨ b = 64) (hx : x < 2 ^ b) (h1 : t.1 ≤ 1000) (h2 : t.2.1 ≤ 1000) (h3 : t.2.2 ≤ 1000) (w : World) :
  Calls Tryz.prog 153 #[kv K, .int .u64 (x : Int), tv t.1 t.2.1 t.2.2] w fun e w' => e = .returned (.int .u64 (shiftedN b x t : Int)) ∧ Below w.heap.size w w' := by
 have l := fun n => Nat.lt_of_lt_of_le (rotN_lt (by omega) hx n) (pow64 hb)
 have hx64 := Nat.lt_of_lt_of_le hx (pow64 hb)
 have ls : sh2 x t.2.2 < 18446744073709551616 := Nat.lt_of_le_of_lt (sh2_le _ _) hx64
 exact shifted_gen (rd := rotN b x t.1 ^^^ rotN b x t.2.1) (re := shiftedN b x t) (fun w => turn_any hK hb hx h1 w) (fun w => turn_any hK hb hx h2 w) (fun w => (shift_any hx64 h3 w).mono fun e w' ⟨he, hw⟩ => ⟨he, by rw [hw]; exact Below.refl _ _⟩) (bits_xor_u64_nat _ _ (l _) (l _)) (bits_xor_u64_nat _ _ (Nat.xor_lt_two_pow (n := 64) (l _) (l _)) ls) w
theorem turnedN_lt {b x : Nat} (hb : 0 < b) (hx : x < 2 ^ b) (t : Nat × Nat × Nat) : turnedN b x t < 2 ^ b := Nat.xor_lt_two_pow (Nat.xor_lt_two_pow (rotN_lt hb hx _) (rotN_lt hb hx _)) (rotN_lt hb hx _)
theorem shiftedN_lt {b x : Nat} (hb : 0 < b) (hx : x < 2 ^ b) (t : Nat × Nat × Nat) : shiftedN b x t < 2 ^ b := Nat.xor_lt_two_pow (Nat.xor_lt_two_pow (rotN_lt hb hx _) (rotN_lt hb hx _)) (Nat.lt_of_le_of_lt (sh2_le _ _) hx)
end
section
theorem half_add (a c : Nat) : (a + 2 * c) / 2 = a / 2 + c ∧ (a + 2 * c) % 2 = a % 2 := by omega
theorem rotN_is {b x : Nat} : ∀ n, n ≤ b → rotN b x n = x / 2 ^ n + x % 2 ^ n * 2 ^ (b - n)
 | 0, _ => by rw [rotN_zero]; simp [Nat.mod_one]
 | n + 1, h => by
  rw [rotN_hi, rotN_is n (by omega)]
  obtain ⟨c, hc⟩ : ∃ c, b - n = c + 1 := ⟨b - n - 1, by omega⟩
  have e1 : b - (n + 1) = c := by omega
  have e2 : b - 1 = n + c := by omega
  have hh : hi2 b = 2 ^ n * 2 ^ c := by unfold hi2; rw [e2, Nat.pow_add]
  rw [hh, hc, e1, Nat.pow_succ 2 c]
  have e3 : x % 2 ^ n * (2 ^ c * 2) = 2 * (x % 2 ^ n * 2 ^ c) := by rw [← Nat.mul_assoc, Nat.mul_comm]
  rw [e3, (half_add _ _).1, (half_add _ _).2, Nat.div_div_eq_div_mul, ← Nat.pow_succ, Nat.mod_pow_succ, Nat.add_mul, Nat.mul_comm (2 ^ n) (x / 2 ^ n % 2), Nat.mul_assoc, Nat.add_assoc]
theorem rotN_or {b x n : Nat} (hx : x < 2 ^ b) (hn : n ≤ b) : rotN b x n = (x / 2 ^ n) ||| (x * 2 ^ (b - n) % 2 ^ b) := by
 have h1 : x * 2 ^ (b - n) % 2 ^ b = x % 2 ^ n * 2 ^ (b - n) := by
  rw [show (2 : Nat) ^ b = 2 ^ n * 2 ^ (b - n) by rw [← Nat.pow_add]; congr 1; omega, Nat.mul_mod_mul_right]
 have h2 : x / 2 ^ n < 2 ^ (b - n) := by
  refine Nat.div_lt_of_lt_mul ?_
  rw [← Nat.pow_add, show n + (b - n) = b by omega]
  exact hx
 rw [rotN_is n hn, h1, Nat.mul_comm (x % 2 ^ n), Nat.add_comm, Nat.two_pow_add_eq_or_of_lt h2, Nat.or_comm]
end
section
open Go Go.RowKit
set_option maxRecDepth 20000
set_option maxHeartbeats 1600000 in
theorem len64_32 (w : World) : Calls Tryz.prog 139 #[.int .u64 4294967295] w fun e w' => e = .returned (.int .i64 32) ∧ w' = w := by
 go_enter Tryz.func139, Tryz.ntmps139
 go_wp2_with fail
 go_ret
 exact ⟨by kernel_rfl, rfl⟩
set_option maxHeartbeats 1600000 in
theorem len64_64 (w : World) : Calls Tryz.prog 139 #[.int .u64 18446744073709551615] w fun e w' => e = .returned (.int .i64 64) ∧ w' = w := by
 go_enter Tryz.func139, Tryz.ntmps139
 go_wp2_with fail
 go_ret
 exact ⟨by kernel_rfl, rfl⟩
theorem size_64 (w : World) : Calls Tryz.prog 121 #[] w fun e w' => e = .returned (.int .i64 8) ∧ w' = w := by
 go_enter Tryz.func121, Tryz.ntmps121
 go_wp2_with fail
 go_at_call 139
 refine (len64_64 _).mono ?_
 rintro e v1 ⟨rfl, rfl⟩
 go_wp2_with fail
 go_ret
 exact ⟨rfl, rfl⟩
theorem size_64b (w : World) : Calls Tryz.prog 121 #[] w fun e w' => e = .returned (.int .i64 8) ∧ Below w.heap.size w w' :=
 (size_64 w).mono fun e w' h => ⟨h.1, by rw [h.2]; exact Below.refl _ _⟩
theorem small_64 (w : World) : Calls Tryz.prog 158 #[] w fun e w' => e = .returned (.bool false) ∧ w' = w := by
 go_enter Tryz.func158, Tryz.ntmps158
 go_wp2_with fail
 go_at_call 121
 refine (size_64 _).mono ?_
 rintro e v1 ⟨rfl, rfl⟩
 go_wp2_with fail
 go_ret
 exact ⟨rfl, rfl⟩
theorem rounds_64 (w : World) : Calls Tryz.prog 147 #[] w fun e w' => e = .returned (.int .i64 80) ∧ w' = w := by
 go_enter Tryz.func147, Tryz.ntmps147
 go_wp2_with fail
 go_at_call 158
 refine (small_64 _).mono ?_
 rintro e v1 ⟨rfl, rfl⟩
 go_wp2_with fail
 go_ret
 exact ⟨rfl, rfl⟩
theorem turn_nums_64 {x n : Nat} (hx : x < 18446744073709551616) (hn : n ≤ 64) : ∃ q r c z : Nat, z = rotN 64 x n ∧ (x : Int) / 2 ^ min n 64 = (q : Int) ∧ IntKind.i64.wrap (64 - (n : Int)) = (c : Int) ∧ IntKind.u64.wrap ((x : Int) * 2 ^ min c 64) = (r : Int) ∧ bits .or .u64 (q : Int) (r : Int) = (z : Int) := by
 refine ⟨x / 2 ^ n, x * 2 ^ (64 - n) % 2 ^ 64, 64 - n, rotN 64 x n, rfl, ?_, ?_, ?_, ?_⟩
 ·rw [Nat.min_eq_left hn]; simp
 ·rw [IntKind.wrap_i64]; omega
 ·rw [Nat.min_eq_left (by omega), IntKind.wrap_u64]
  have : (x : Int) * 2 ^ (64 - n) = ((x * 2 ^ (64 - n) : Nat) : Int) := by simp
  rw [this, show (2 : Nat) ^ 64 = 18446744073709551616 by decide]
  generalize x * 2 ^ (64 - n) = y
  omega
 ·rw [rotN_or (b := 64) hx hn]
  exact bits_or_u64_nat _ _ (Nat.lt_of_le_of_lt (Nat.div_le_self _ _) hx) (Nat.mod_lt _ (by decide))
set_option maxHeartbeats 1600000 in
theorem turn_64 {x n : Nat} (hx : x < 18446744073709551616) (hn : n ≤ 64) (w : World) : Calls Tryz.prog 159 #[.int .u64 (x : Int), .int .i64 (n : Int)] w fun e w' => e = .returned (.int .u64 ((rotN 64 x n : Nat) : Int)) ∧ Below w.heap.size w w' := by
 obtain ⟨q, r, c, z, hz, h1, h2, h3, h4⟩ := turn_nums_64 hx hn
 rw [← hz]
 have hn0 : 0 ≤ (n : Int) := by omega
 have H1 := Lib.hid h1
 have H2 := Lib.hid h2
 have H3 := Lib.hid h3
 have H4 := Lib.hid h4
 clear h1 h2 h3 h4 hz hx hn
 go_enter Tryz.func159, Tryz.ntmps159
 go_upto_region 1 with fail
 refine wp_region_inv 10 [5, 6, 7, 8, 9, 10, 11, 12, 13, 14] [.val (.int .u64 (x : Int)), .val (.int .i64 (n : Int)), .val (.int .u64 (q : Int)), .val (.int .u64 (x : Int)), .val (.int .i64 8), .val (.int .i64 64), .val (.int .i64 (n : Int)), .val (.int .i64 (c : Int)), .val (.int .u64 (r : Int)), .val (.int .u64 (z : Int))] (fun wz => Below w.heap.size w wz) (by kernel_rfl) (by kernel_rfl) (fun wz wz' hz hb => bnx hz hb) ((Below.refl _ _).drew) (fun u => by simp only [puts, List.foldl_cons, List.foldl_nil]; go_simp; exact rfl) ?_ ?_
 ·simp only [List.take_succ_cons, List.take_zero]
  refine .cons (fun u w hS hd => ?_) ?_
  ·exact Gv.run (.int .u64 (x : Int)) rfl (by go_simp) rfl
  refine .cons (fun u w hS hd => ?_) ?_
  ·exact Gv.run (.int .i64 (n : Int)) rfl (by go_simp) rfl
  refine .cons (fun u w hS hd => ?_) ?_
  ·have d5 : u 5 = .int .u64 (x : Int) := dep hd 0 rfl
   have d6 : u 6 = .int .i64 (n : Int) := dep hd 1 rfl
   rw [d5, d6]
   have hq := H1.out
   exact Gv.run (.int .u64 (q : Int)) rfl (by go_simp) rfl
  refine .cons (fun u w hS hd => ?_) ?_
  ·exact Gv.run (.int .u64 (x : Int)) rfl (by go_simp) rfl
  refine .cons (fun u w hS hd => ?_) ?_
  ·refine Gv.call 121 #[] rfl (by go_simp) ((size_64b w).mono ?_)
   rintro e w' ⟨rfl, hb⟩
   exact ⟨_, rfl, rfl, hb⟩
  refine .cons (fun u w hS hd => ?_) ?_
  ·have d9 : u 9 = .int .i64 8 := dep hd 4 rfl
   rw [d9]
   have hq : IntKind.i64.wrap 64 = 64 := rfl
   exact Gv.run (.int .i64 64) rfl (by go_simp) rfl
  refine .cons (fun u w hS hd => ?_) ?_
  ·exact Gv.run (.int .i64 (n : Int)) rfl (by go_simp) rfl
  refine .cons (fun u w hS hd => ?_) ?_
  ·have d10 : u 10 = .int .i64 64 := dep hd 5 rfl
   have d11 : u 11 = .int .i64 (n : Int) := dep hd 6 rfl
   rw [d10, d11]
   have hq := H2.out
   exact Gv.run (.int .i64 (c : Int)) rfl (by go_simp) rfl
  refine .cons (fun u w hS hd => ?_) ?_
  ·have d8 : u 8 = .int .u64 (x : Int) := dep hd 3 rfl
   have d12 : u 12 = .int .i64 (c : Int) := dep hd 7 rfl
   rw [d8, d12]
   have hq := H3.out
   exact Gv.run (.int .u64 (r : Int)) rfl (by go_simp) rfl
  refine .cons (fun u w hS hd => ?_) ?_
  ·have d7 : u 7 = .int .u64 (q : Int) := dep hd 2 rfl
   have d13 : u 13 = .int .u64 (r : Int) := dep hd 8 rfl
   rw [d7, d13]
   have hq := H4.out
   exact Gv.run (.int .u64 (z : Int)) rfl (by go_simp) rfl
  exact Obs.nil
 intro u wz hS hd
 have d14 : u 14 = .int .u64 (z : Int) := hd 9 (by decide)
 rw [d14]
 simp only [List.drop_succ_cons, List.drop_zero]
 go_wp2_with fail
 go_ret
 exact ⟨rfl, hS⟩
set_option maxHeartbeats 1600000 in
theorem upper0_64 {x : Nat} (hx : x < 18446744073709551616) (w : World) : Calls Tryz.prog 150 #[.int .u64 (x : Int)] w fun e w' => e = .returned (.int .u64 ((turnedN 64 x (28, 34, 39) : Nat) : Int)) ∧ Below w.heap.size w w' := by
 have ka : ∀ w, Calls Tryz.prog 159 #[.int .u64 (x : Int), .int .i64 28] w fun e w' => e = .returned (.int .u64 ((rotN 64 x 28 : Nat) : Int)) ∧ Below w.heap.size w w' := fun w => turn_64 (n := 28) hx (by decide) w
 have kb : ∀ w, Calls Tryz.prog 159 #[.int .u64 (x : Int), .int .i64 34] w fun e w' => e = .returned (.int .u64 ((rotN 64 x 34 : Nat) : Int)) ∧ Below w.heap.size w w' := fun w => turn_64 (n := 34) hx (by decide) w
 have kc : ∀ w, Calls Tryz.prog 159 #[.int .u64 (x : Int), .int .i64 39] w fun e w' => e = .returned (.int .u64 ((rotN 64 x 39 : Nat) : Int)) ∧ Below w.heap.size w w' := fun w => turn_64 (n := 39) hx (by decide) w
 have la : rotN 64 x 28 < 18446744073709551616 := rotN_lt (b := 64) (by decide) hx 28
 have lb : rotN 64 x 34 < 18446744073709551616 := rotN_lt (b := 64) (by decide) hx 34
 have lc : rotN 64 x 39 < 18446744073709551616 := rotN_lt (b := 64) (by decide) hx 39
 have hz : turnedN 64 x (28, 34, 39) = (rotN 64 x 28 ^^^ rotN 64 x 34) ^^^ rotN 64 x 39 := rfl
 rw [hz]
 generalize rotN 64 x 28 = a at *
 generalize rotN 64 x 34 = b at *
 generalize rotN 64 x 39 = c at *
 have E1 := bits_xor_u64_nat a b la lb
 have E2 := bits_xor_u64_nat (a ^^^ b) c (Nat.xor_lt_two_pow (n := 64) la lb) lc
 generalize a ^^^ b = d at *
 generalize d ^^^ c = z at *
 have KA := Lib.hid ka
 have KB := Lib.hid kb
 have KC := Lib.hid kc
 clear ka kb kc la lb lc hz hx
 go_enter Tryz.func150, Tryz.ntmps150
 go_wp2_with fail
 go_at_call 158
 refine (small_64 _).mono ?_
 rintro e v1 ⟨rfl, rfl⟩
 go_wp2_with fail
 go_at_call 159
 refine (KA.out _).mono ?_
 rintro e v2 ⟨rfl, hc⟩
 go_wp2_with fail
 go_at_call 159
 refine (KB.out _).mono ?_
 rintro e v3 ⟨rfl, hb⟩
 replace hc := bnx hc hb
 clear hb
 go_wp2_with fail
 go_at_call 159
 refine (KC.out _).mono ?_
 rintro e v4 ⟨rfl, hb⟩
 replace hc := bnx hc hb
 clear hb
 go_wp2_with fail
 go_ret
 exact ⟨rfl, hc⟩
set_option maxHeartbeats 1600000 in
theorem upper1_64 {x : Nat} (hx : x < 18446744073709551616) (w : World) : Calls Tryz.prog 148 #[.int .u64 (x : Int)] w fun e w' => e = .returned (.int .u64 ((turnedN 64 x (14, 18, 41) : Nat) : Int)) ∧ Below w.heap.size w w' := by
 have ka : ∀ w, Calls Tryz.prog 159 #[.int .u64 (x : Int), .int .i64 14] w fun e w' => e = .returned (.int .u64 ((rotN 64 x 14 : Nat) : Int)) ∧ Below w.heap.size w w' := fun w => turn_64 (n := 14) hx (by decide) w
 have kb : ∀ w, Calls Tryz.prog 159 #[.int .u64 (x : Int), .int .i64 18] w fun e w' => e = .returned (.int .u64 ((rotN 64 x 18 : Nat) : Int)) ∧ Below w.heap.size w w' := fun w => turn_64 (n := 18) hx (by decide) w
 have kc : ∀ w, Calls Tryz.prog 159 #[.int .u64 (x : Int), .int .i64 41] w fun e w' => e = .returned (.int .u64 ((rotN 64 x 41 : Nat) : Int)) ∧ Below w.heap.size w w' := fun w => turn_64 (n := 41) hx (by decide) w
 have la : rotN 64 x 14 < 18446744073709551616 := rotN_lt (b := 64) (by decide) hx 14
 have lb : rotN 64 x 18 < 18446744073709551616 := rotN_lt (b := 64) (by decide) hx 18
 have lc : rotN 64 x 41 < 18446744073709551616 := rotN_lt (b := 64) (by decide) hx 41
 have hz : turnedN 64 x (14, 18, 41) = (rotN 64 x 14 ^^^ rotN 64 x 18) ^^^ rotN 64 x 41 := rfl
 rw [hz]
 generalize rotN 64 x 14 = a at *
 generalize rotN 64 x 18 = b at *
 generalize rotN 64 x 41 = c at *
 have E1 := bits_xor_u64_nat a b la lb
 have E2 := bits_xor_u64_nat (a ^^^ b) c (Nat.xor_lt_two_pow (n := 64) la lb) lc
 generalize a ^^^ b = d at *
 generalize d ^^^ c = z at *
 have KA := Lib.hid ka
 have KB := Lib.hid kb
 have KC := Lib.hid kc
 clear ka kb kc la lb lc hz hx
 go_enter Tryz.func148, Tryz.ntmps148
 go_wp2_with fail
 go_at_call 158
 refine (small_64 _).mono ?_
 rintro e v1 ⟨rfl, rfl⟩
 go_wp2_with fail
 go_at_call 159
 refine (KA.out _).mono ?_
 rintro e v2 ⟨rfl, hc⟩
 go_wp2_with fail
 go_at_call 159
 refine (KB.out _).mono ?_
 rintro e v3 ⟨rfl, hb⟩
 replace hc := bnx hc hb
 clear hb
 go_wp2_with fail
 go_at_call 159
 refine (KC.out _).mono ?_
 rintro e v4 ⟨rfl, hb⟩
 replace hc := bnx hc hb
 clear hb
 go_wp2_with fail
 go_ret
 exact ⟨rfl, hc⟩
set_option maxHeartbeats 1600000 in
theorem lower0_64 {x : Nat} (hx : x < 18446744073709551616) (w : World) : Calls Tryz.prog 157 #[.int .u64 (x : Int)] w fun e w' => e = .returned (.int .u64 ((shiftedN 64 x (1, 8, 7) : Nat) : Int)) ∧ Below w.heap.size w w' := by
 have ka : ∀ w, Calls Tryz.prog 159 #[.int .u64 (x : Int), .int .i64 1] w fun e w' => e = .returned (.int .u64 ((rotN 64 x 1 : Nat) : Int)) ∧ Below w.heap.size w w' := fun w => turn_64 (n := 1) hx (by decide) w
 have kb : ∀ w, Calls Tryz.prog 159 #[.int .u64 (x : Int), .int .i64 8] w fun e w' => e = .returned (.int .u64 ((rotN 64 x 8 : Nat) : Int)) ∧ Below w.heap.size w w' := fun w => turn_64 (n := 8) hx (by decide) w
 have la : rotN 64 x 1 < 18446744073709551616 := rotN_lt (b := 64) (by decide) hx 1
 have lb : rotN 64 x 8 < 18446744073709551616 := rotN_lt (b := 64) (by decide) hx 8
 have lc : sh2 x 7 < 18446744073709551616 := Nat.lt_of_le_of_lt (sh2_le _ _) hx
 have hsc : sh2 x 7 = x / 128 := rfl
 have hz : shiftedN 64 x (1, 8, 7) = (rotN 64 x 1 ^^^ rotN 64 x 8) ^^^ sh2 x 7 := rfl
 rw [hz]
 generalize rotN 64 x 1 = a at *
 generalize rotN 64 x 8 = b at *
 generalize sh2 x 7 = c at *
 have E1 := bits_xor_u64_nat a b la lb
 have E2 := bits_xor_u64_nat (a ^^^ b) c (Nat.xor_lt_two_pow (n := 64) la lb) lc
 generalize a ^^^ b = d at *
 generalize d ^^^ c = z at *
 have hs : (x : Int) / 128 = (c : Int) := by omega
 clear hsc
 have KA := Lib.hid ka
 have KB := Lib.hid kb
 clear ka kb la lb lc hz hx
 go_enter Tryz.func157, Tryz.ntmps157
 go_wp2_with fail
 go_at_call 158
 refine (small_64 _).mono ?_
 rintro e v1 ⟨rfl, rfl⟩
 go_wp2_with fail
 go_at_call 159
 refine (KA.out _).mono ?_
 rintro e v2 ⟨rfl, hc⟩
 go_wp2_with fail
 go_at_call 159
 refine (KB.out _).mono ?_
 rintro e v3 ⟨rfl, hb⟩
 replace hc := bnx hc hb
 clear hb
 go_wp2_with fail
 go_ret
 exact ⟨rfl, hc⟩
set_option maxHeartbeats 1600000 in
theorem lower1_64 {x : Nat} (hx : x < 18446744073709551616) (w : World) : Calls Tryz.prog 156 #[.int .u64 (x : Int)] w fun e w' => e = .returned (.int .u64 ((shiftedN 64 x (19, 61, 6) : Nat) : Int)) ∧ Below w.heap.size w w' := by
 have ka : ∀ w, Calls Tryz.prog 159 #[.int .u64 (x : Int), .int .i64 19] w fun e w' => e = .returned (.int .u64 ((rotN 64 x 19 : Nat) : Int)) ∧ Below w.heap.size w w' := fun w => turn_64 (n := 19) hx (by decide) w
 have kb : ∀ w, Calls Tryz.prog 159 #[.int .u64 (x : Int), .int .i64 61] w fun e w' => e = .returned (.int .u64 ((rotN 64 x 61 : Nat) : Int)) ∧ Below w.heap.size w w' := fun w => turn_64 (n := 61) hx (by decide) w
 have la : rotN 64 x 19 < 18446744073709551616 := rotN_lt (b := 64) (by decide) hx 19
 have lb : rotN 64 x 61 < 18446744073709551616 := rotN_lt (b := 64) (by decide) hx 61
 have lc : sh2 x 6 < 18446744073709551616 := Nat.lt_of_le_of_lt (sh2_le _ _) hx
 have hsc : sh2 x 6 = x / 64 := rfl
 have hz : shiftedN 64 x (19, 61, 6) = (rotN 64 x 19 ^^^ rotN 64 x 61) ^^^ sh2 x 6 := rfl
 rw [hz]
 generalize rotN 64 x 19 = a at *
 generalize rotN 64 x 61 = b at *
 generalize sh2 x 6 = c at *
 have E1 := bits_xor_u64_nat a b la lb
 have E2 := bits_xor_u64_nat (a ^^^ b) c (Nat.xor_lt_two_pow (n := 64) la lb) lc
 generalize a ^^^ b = d at *
 generalize d ^^^ c = z at *
 have hs : (x : Int) / 64 = (c : Int) := by omega
 clear hsc
 have KA := Lib.hid ka
 have KB := Lib.hid kb
 clear ka kb la lb lc hz hx
 go_enter Tryz.func156, Tryz.ntmps156
 go_wp2_with fail
 go_at_call 158
 refine (small_64 _).mono ?_
 rintro e v1 ⟨rfl, rfl⟩
 go_wp2_with fail
 go_at_call 159
 refine (KA.out _).mono ?_
 rintro e v2 ⟨rfl, hc⟩
 go_wp2_with fail
 go_at_call 159
 refine (KB.out _).mono ?_
 rintro e v3 ⟨rfl, hb⟩
 replace hc := bnx hc hb
 clear hb
 go_wp2_with fail
 go_ret
 exact ⟨rfl, hc⟩
end
end Go.Proofs.YtkbkalhcdbklkaaGreatDoor
