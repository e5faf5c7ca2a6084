/-
  The document's words of a block (layer 6), over letters. Written by tools/gen_n8.py. By an AI agent.
-/
import Derived.Test.YtkbkalhcdbklkaaGreatDoorJ06
namespace Go.Proofs.YtkbkalhcdbklkaaGreatDoor
open Go Go.RowKit
theorem wpList_appG {P : Program} (w : World) {ops : Array Oper} {rest : List Oper} {o : Oper} {a : Act} {Q : Exit → Act → World → Prop} (hgd : o.guard = none) (s x : Operand) (t : TypeId)
  (ho : o.op = .call { callee := .builtin .append, args := #[s, x], argTypes := #[t, t] })
  (base : Nat) (e : TypeId) (i : TypeInfo) (z : Value) (ht : P.underlying t = some (.slice e)) (hi : P.info? e = some i) (hz : i.zero = some z)
  (hsize : i.size = 1) {by_ : Nat} (hby : i.bytes = by_) (hby0 : 0 < by_) (hzs : z.cells.size = 1) {As : Option Addr} {cs n : Nat} {f : Nat → Value} (hs : a.eval s = .slice As n cs) (hown : OwnF w base e As cs n f)
  {B c m : Nat} {A : Option Addr} {g : Nat → Value} (hx : a.eval x = .slice A m c) (hr : RdF w B A c m g) (hg : ∀ k, k < m → (g k).oneCell' = true) (hlen : n + m ≤ 140737488355328) (hbytes : (n + m) * by_ ≤ 140737488355328) (hbase : base ≤ w.heap.size)
  (h : ∀ A' c' w', OwnF w' base e A' c' (n + m) (fun k => if k < n then f k else g (k - n)) → Below base w w' → wpList P ops Q rest (a.put o.dst (.slice A' (n + m) c')) w') : wpList P ops Q (o :: rest) a w :=
 wpList_plain hgd fun _ hK => wp_appF w s x t ho base e i z ht hi hz hsize hby hby0 hzs hs hown hx hr hg hlen hbytes hbase fun A' c' w' h1 h2 => hK _ _ (h A' c' w' h1 h2)
def be (y : Nat → Nat) (o : Nat) : Nat → Nat
 | 0 => 0
 | k + 1 => be y o k * 256 + y (o + k)
theorem be_zero (y : Nat → Nat) (o : Nat) : be y o 0 = 0 := rfl
theorem be_succ (y : Nat → Nat) (o k : Nat) : be y o (k + 1) = be y o k * 256 + y (o + k) := rfl
theorem be_lt {y : Nat → Nat} (hy : ∀ i, y i < 256) (o : Nat) : ∀ k, be y o k < 256 ^ k
 | 0 => by simp [be]
 | k + 1 => by
  have h1 := be_lt hy o k
  have h2 := hy (o + k)
  unfold be
  rw [Nat.pow_succ]
  omega
def wnext (S : Ks) (y : Nat → Nat) (f : Nat → Nat) (n : Nat) : Nat :=
 if n < 16 then be y (n * (S.bits / 8)) (S.bits / 8) else (shiftedN S.bits (f (n - 2)) S.l + f (n - 7) + shiftedN S.bits (f (n - 15)) S.e + f (n - 16)) % 2 ^ S.bits
def wa (S : Ks) (y : Nat → Nat) : Nat → Nat → Nat
 | 0 => fun _ => 0
 | n + 1 => fun k => if k = n then wnext S y (wa S y n) n else wa S y n k
def wf (S : Ks) (y : Nat → Nat) (n : Nat) : Nat := wa S y (n + 1) n
theorem wa_at (S : Ks) (y : Nat → Nat) : ∀ n k, k < n → wa S y n k = wf S y k
 | 0, k, h => by omega
 | n + 1, k, h => by
  by_cases e : k = n
  ·subst e; rfl
  ·show (if k = n then _ else wa S y n k) = _
   rw [if_neg e]
   exact wa_at S y n k (by omega)
theorem wf_eq (S : Ks) (y : Nat → Nat) (n : Nat) : wf S y n = if n < 16 then be y (n * (S.bits / 8)) (S.bits / 8) else (shiftedN S.bits (wf S y (n - 2)) S.l + wf S y (n - 7) + shiftedN S.bits (wf S y (n - 15)) S.e + wf S y (n - 16)) % 2 ^ S.bits := by
 show (if n = n then wnext S y (wa S y n) n else wa S y n n) = _
 rw [if_pos rfl]
 unfold wnext
 by_cases h : n < 16
 ·rw [if_pos h, if_pos h]
 ·rw [if_neg h, if_neg h, wa_at S y n _ (by omega), wa_at S y n _ (by omega), wa_at S y n _ (by omega), wa_at S y n _ (by omega)]
theorem wf_lt {S : Ks} {y : Nat → Nat} (hb : S.bits = 32 ∨ S.bits = 64) (hy : ∀ i, y i < 256) (n : Nat) : wf S y n < 2 ^ S.bits := by
 rw [wf_eq]
 by_cases h : n < 16
 ·rw [if_pos h]
  refine Nat.lt_of_lt_of_le (be_lt hy _ _) ?_
  rcases hb with h | h <;> rw [h] <;> decide
 ·rw [if_neg h]
  exact Nat.mod_lt _ (Nat.pow_pos (by decide))
def wfv (S : Ks) (y : Nat → Nat) (k : Nat) : Value := .int .u64 ((wf S y k : Nat) : Int)
structure Kok (S : Ks) : Prop where
 bits : S.bits = 32 ∨ S.bits = 64
 rounds : 16 ≤ S.rounds ∧ S.rounds ≤ 80
 u : S.u.1 ≤ 1000 ∧ S.u.2.1 ≤ 1000 ∧ S.u.2.2 ≤ 1000
 d : S.d.1 ≤ 1000 ∧ S.d.2.1 ≤ 1000 ∧ S.d.2.2 ≤ 1000
 e : S.e.1 ≤ 1000 ∧ S.e.2.1 ≤ 1000 ∧ S.e.2.2 ≤ 1000
 l : S.l.1 ≤ 1000 ∧ S.l.2.1 ≤ 1000 ∧ S.l.2.2 ≤ 1000
 keys : S.keys.length = S.rounds ∧ ∀ k, S.keys.getD k 0 < 2 ^ S.bits
 first : S.first.length = 8 ∧ ∀ k, S.first.getD k 0 < 2 ^ S.bits
theorem cut_mod {S : Ks} (hb : S.bits = 32 ∨ S.bits = 64) (x : Nat) : cutN S (x % 18446744073709551616) = x % 2 ^ S.bits := by
 unfold cutN
 rcases hb with h | h <;> rw [h]
 ·rw [if_pos rfl]; omega
 ·rw [if_neg (by decide)]
theorem OK.tri {w : World} {B g : Nat} {K : Kd} (h : OK w B g K) : (w.cell? ⟨g, 2, none⟩ = some (.int .i64 (K.u.1 : Int)) ∧ w.cell? ⟨g, 3, none⟩ = some (.int .i64 (K.u.2.1 : Int)) ∧ w.cell? ⟨g, 4, none⟩ = some (.int .i64 (K.u.2.2 : Int))) ∧
  (w.cell? ⟨g, 5, none⟩ = some (.int .i64 (K.d.1 : Int)) ∧ w.cell? ⟨g, 6, none⟩ = some (.int .i64 (K.d.2.1 : Int)) ∧ w.cell? ⟨g, 7, none⟩ = some (.int .i64 (K.d.2.2 : Int))) ∧
  (w.cell? ⟨g, 8, none⟩ = some (.int .i64 (K.e.1 : Int)) ∧ w.cell? ⟨g, 9, none⟩ = some (.int .i64 (K.e.2.1 : Int)) ∧ w.cell? ⟨g, 10, none⟩ = some (.int .i64 (K.e.2.2 : Int))) ∧
  (w.cell? ⟨g, 11, none⟩ = some (.int .i64 (K.l.1 : Int)) ∧ w.cell? ⟨g, 12, none⟩ = some (.int .i64 (K.l.2.1 : Int)) ∧ w.cell? ⟨g, 13, none⟩ = some (.int .i64 (K.l.2.2 : Int))) :=
 ⟨⟨h.cell_ (by decide), h.cell_ (by decide), h.cell_ (by decide)⟩, ⟨h.cell_ (by decide), h.cell_ (by decide), h.cell_ (by decide)⟩, ⟨h.cell_ (by decide), h.cell_ (by decide), h.cell_ (by decide)⟩, ⟨h.cell_ (by decide), h.cell_ (by decide), h.cell_ (by decide)⟩⟩
attribute [local irreducible] Kd.cells kf wf be shiftedN
set_option maxRecDepth 20000
set_option maxHeartbeats 3200000 in
theorem kwords_any {K : Kd} (hK : Kok K.toKs) {A0 : Option Addr} {B c0 : Nat} {bs : List UInt8} (hbs : bs.length = 16 * (K.bits / 8)) (w : World) (hr : Rd w B A0 c0 bs) (hB : B ≤ w.heap.size) :
  Calls Tryz.prog 142 #[kv K, .slice A0 bs.length c0] w fun en w' => ∃ A c, en = .returned (.slice A K.rounds c) ∧ OwnF w' w.heap.size 33 A c K.rounds (wfv K.toKs (nth bs)) ∧ Below w.heap.size w w' := by
 obtain ⟨i0, hi, hz0, hz1, hz2⟩ := info_parts infoU64
 obtain ⟨sz, hsz⟩ : ∃ s, s = K.bits / 8 := ⟨_, rfl⟩
 have hsz8 : sz ≤ 8 := by rcases hK.bits with h | h <;> rw [hsz, h] <;> decide
 have hb8 : (K.bits : Int) / 8 = (sz : Int) := by omega
 have hb8' : (K.bits : Int).tdiv 8 = (sz : Int) := by rw [Int.tdiv_eq_ediv_of_nonneg (by omega), hb8]
 have hszw : IntKind.i64.wrap (sz : Int) = (sz : Int) := by rw [IntKind.wrap_i64]; omega
 rw [← hsz] at hbs
 obtain ⟨hr1, hr2⟩ := hK.rounds
 have hy := nth_lt bs
 have hbe : ∀ t j, j ≤ sz → be (nth bs) (t * sz) j < 18446744073709551616 := fun t j hj => Nat.lt_of_lt_of_le (be_lt hy _ _) (Nat.le_trans (Nat.pow_le_pow_right (by decide) (show j ≤ 8 by omega)) (by decide))
 have hbs' : ∀ t j, be (nth bs) (t * sz) (j + 1) = be (nth bs) (t * sz) j * 256 + nth bs (t * sz + j) := fun t j => be_succ _ _ _
 have hb0 : ∀ t, be (nth bs) (t * sz) 0 = 0 := fun t => be_zero _ _
 have hw16 : ∀ t, t < 16 → wf K.toKs (nth bs) t = be (nth bs) (t * sz) sz := fun t ht => by rw [wf_eq, if_pos ht, ← hsz]
 have hwn : ∀ t, ¬ t < 16 → wf K.toKs (nth bs) t = (shiftedN K.bits (wf K.toKs (nth bs) (t - 2)) K.l + wf K.toKs (nth bs) (t - 7) + shiftedN K.bits (wf K.toKs (nth bs) (t - 15)) K.e + wf K.toKs (nth bs) (t - 16)) % 2 ^ K.bits := fun t ht => by rw [wf_eq, if_neg ht]
 have hwl := fun t => wf_lt (S := K.toKs) hK.bits hy t
 have HBE := Lib.hid hbe
 have HBS := Lib.hid hbs'
 have HB0 := Lib.hid hb0
 have HW16 := Lib.hid hw16
 have HWN := Lib.hid hwn
 have HWL := Lib.hid hwl
 have HSZ := Lib.hid hsz
 have HBL := Lib.hid hbs
 clear hbe hbs' hb0 hw16 hwn hwl hsz hbs
 have ok := OK.new (w := w) (Nat.le_refl _) K
 have cb := ok.bits
 have hc := (Below.refl w.heap.size w).alloc (Nat.le_refl _) (AK K)
 have hr' := hr.keep ((Below.refl B w).alloc hB (AK K))
 clear hr
 go_enter Tryz.func142, Tryz.ntmps142
 go_wp2_with fail
 obtain ⟨v0, e0⟩ : ∃ v, v = w.alloc (AK K) := ⟨_, rfl⟩
 rw [← e0] at ok cb hc hr' ⊢
 obtain ⟨g2, eg2⟩ : ∃ g, g = w.heap.size := ⟨_, rfl⟩
 have hg2 : g2 + 1 ≤ v0.heap.size := by rw [eg2]; exact ok.lt
 replace ok : OK v0 w.heap.size g2 K := by rw [eg2]; exact ok
 rw [show (Value.pointer (some ⟨w.heap.size, 0, none⟩)) = .pointer (some ⟨g2, 0, none⟩) by rw [eg2]]
 have hBv : B ≤ v0.heap.size := Nat.le_trans hB hc.size
 have hwv : w.heap.size ≤ v0.heap.size := hc.size
 clear cb e0 eg2
 go_loopw [5, 7] (fun v i wr => ∃ t : Nat, t ≤ 16 ∧ i = .int .i64 (t : Int) ∧ (∃ A c, v = .slice A t c ∧ OwnF wr v0.heap.size 33 A c t (wfv K.toKs (nth bs))) ∧ Below v0.heap.size v0 wr)
  (fun _ i _ => 16 - (intOf i).toNat)
 case atStart => exact ⟨0, by omega, rfl, ⟨none, 0, rfl, OwnF.nothing _ _ _ _⟩, Below.refl _ _⟩
 case round =>
  obtain ⟨t, ht, rfl, ⟨A, c, rfl, os⟩, hb⟩ := hrel
  by_cases hlt : t < 16
  ·have g1 : (t : Int) < 16 := by omega
   have hts : IntKind.i64.wrap ((t : Int) * (sz : Int)) = ((t * sz : Nat) : Int) := by
    have : t * sz ≤ 15 * 8 := Nat.mul_le_mul (by omega) hsz8
    rw [IntKind.wrap_i64, ← Int.natCast_mul]; omega
   have htb : t * sz + sz ≤ 16 * sz := by rw [← Nat.succ_mul]; exact Nat.mul_le_mul_right _ hlt
   have htb2 : 16 * sz ≤ 128 := by omega
   obtain ⟨ts, hts0⟩ : ∃ x, x = t * sz := ⟨_, rfl⟩
   rw [← hts0] at hts htb
   have HT := Lib.hid hts0
   clear hts0
   go_wp2_with fail
   obtain ⟨w0, e0⟩ : ∃ w0 : World, w0 = wr := ⟨_, rfl⟩
   subst e0
   go_loopw [8, 9] (fun x j wz => ∃ k : Nat, k ≤ sz ∧ j = .int .i64 (k : Int) ∧ x = .int .u64 ((be (nth bs) ts k : Nat) : Int) ∧ wz = w0)
    (fun _ j _ => sz - (intOf j).toNat)
   case atStart => exact ⟨0, by omega, rfl, by rw [HT.out, HB0.out]; rfl, rfl⟩
   case round =>
    obtain ⟨k, hk, rfl, rfl, rfl⟩ := hrel
    by_cases hkl : k < sz
    ·have g2 : (k : Int) < (sz : Int) := by omega
     have hbl := HBL.out
     have q1 : IntKind.i64.wrap ((ts : Int) + (k : Int)) = ((ts + k : Nat) : Int) := by rw [IntKind.wrap_i64]; omega
     have q2 : ((ts + k : Nat) : Int) < (bs.length : Int) := by omega
     have q3 : (0 : Int) ≤ ((ts + k : Nat) : Int) := by omega
     obtain ⟨b1, o1, rfl, hb1, c1⟩ := (hr'.keep (hb.mono hBv)).at_ (k := ts + k) (by omega)
     have hbn := HBE.out t (k + 1) (by omega)
     have hbs := HBS.out t k
     rw [← HT.out] at hbn hbs
     have hby := nth_lt bs (ts + k)
     have q4 : IntKind.u64.wrap (nth bs (ts + k) : Int) = (nth bs (ts + k) : Int) := by rw [IntKind.wrap_u64]; omega
     have q5 : IntKind.u64.wrap ((be (nth bs) ts k : Int) * 256) = ((be (nth bs) ts k * 256 : Nat) : Int) := by rw [IntKind.wrap_u64]; omega
     have q6 : IntKind.u64.wrap (((be (nth bs) ts k * 256 : Nat) : Int) + (nth bs (ts + k) : Int)) = (be (nth bs) ts (k + 1) : Int) := by rw [hbs, IntKind.wrap_u64]; omega
     clear hbl hbn hbs hby
     generalize be (nth bs) ts k * 256 = p1 at *
     obtain ⟨tk, htk⟩ : ∃ x, x = ts + k := ⟨_, rfl⟩
     rw [← htk] at q1 q2 q3 c1 q4 q6
     clear htk
     go_wp2_with fail
     exact ⟨⟨k + 1, by omega, by go_num, rfl, trivial⟩, by simp [intOf]; omega⟩
    ·obtain rfl : k = sz := by omega
     have g2 : ¬ (k : Int) < (k : Int) := by omega
     have hv : Value.int .u64 ((be (nth bs) ts k : Nat) : Int) = wfv K.toKs (nth bs) t := by unfold wfv; rw [HW16.out t hlt, HT.out]
     have HV := Lib.hid hv
     clear hv
     go_wp2_with (at_builtin; refine wpList_appF1 _ rfl (.tmp 35) (.tmp 37) _ rfl v0.heap.size 33 i0 _ Tryz.underlying117 hi hz0 hz1 hz2 (by decide) rfl rfl os HV.out rfl rfl (by omega) (by omega) hb.size ?_; intro A' c' w' ho' hb')
     go_roundw
     case rel => exact ⟨t + 1, by omega, by go_num, ⟨A', c', rfl, ho'⟩, hb.trans hb'⟩
     case measure => simp [intOf]; omega
  ·obtain rfl : t = 16 := by omega
   have g1 : ¬ ((16 : Nat) : Int) < 16 := by decide
   simp only [Int.cast_ofNat_Int]
   go_wp2_with fail
   go_loopw [5, 10] (fun v i wr => ∃ t : Nat, 16 ≤ t ∧ t ≤ K.rounds ∧ i = .int .i64 (t : Int) ∧ (∃ A c, v = .slice A t c ∧ OwnF wr v0.heap.size 33 A c t (wfv K.toKs (nth bs))) ∧ Below v0.heap.size v0 wr)
    (fun _ i _ => K.rounds - (intOf i).toNat)
   case atStart => exact ⟨16, by omega, by omega, rfl, ⟨A, c, rfl, os⟩, hb⟩
   case round =>
    clear os hb
    obtain ⟨t, ht1, ht, rfl, ⟨A, c, rfl, os⟩, hb⟩ := hrel
    have okr : OK wr w.heap.size g2 K := OwnF.keepAt ok (hb.mono hg2)
    have crd := okr.rounds
    by_cases hlt : t < K.rounds
    ·have g1 : (t : Int) < (K.rounds : Int) := by omega
     have hwn := HWN.out t (by omega)
     have hwt := HWL.out t
     obtain ⟨b1, o1, rfl, _, _⟩ := os.rd.at_ (k := 0) (by omega)
     have hcell : ∀ m, m < t → ∀ wz, Below wr.heap.size wr wz → wz.cell? ⟨b1, o1 + m, none⟩ = some (.int .u64 ((wf K.toKs (nth bs) m : Nat) : Int)) := fun m hm wz hz => by
      obtain ⟨b2, o2, e2, _, c2⟩ := (OwnF.keep os hz).rd.at_ (k := m) hm
      simp only [Option.some.injEq, Addr.mk.injEq] at e2
      obtain ⟨rfl, rfl, _⟩ := e2
      exact c2
     obtain ⟨m2, hm2⟩ : ∃ m, m = t - 2 := ⟨_, rfl⟩
     have S2 := Lib.hid (show IntKind.i64.wrap ((t : Int) - 2) = (m2 : Int) by rw [IntKind.wrap_i64]; omega)
     have I2 := Lib.hid (show (0 : Int) ≤ (m2 : Int) ∧ (m2 : Int) < (t : Int) by omega)
     have l2 : m2 < t := by omega
     have hx2 := HWL.out m2
     obtain ⟨m7, hm7⟩ : ∃ m, m = t - 7 := ⟨_, rfl⟩
     have S7 := Lib.hid (show IntKind.i64.wrap ((t : Int) - 7) = (m7 : Int) by rw [IntKind.wrap_i64]; omega)
     have I7 := Lib.hid (show (0 : Int) ≤ (m7 : Int) ∧ (m7 : Int) < (t : Int) by omega)
     have l7 : m7 < t := by omega
     have hx7 := HWL.out m7
     obtain ⟨m15, hm15⟩ : ∃ m, m = t - 15 := ⟨_, rfl⟩
     have S15 := Lib.hid (show IntKind.i64.wrap ((t : Int) - 15) = (m15 : Int) by rw [IntKind.wrap_i64]; omega)
     have I15 := Lib.hid (show (0 : Int) ≤ (m15 : Int) ∧ (m15 : Int) < (t : Int) by omega)
     have l15 : m15 < t := by omega
     have hx15 := HWL.out m15
     obtain ⟨m16, hm16⟩ : ∃ m, m = t - 16 := ⟨_, rfl⟩
     have S16 := Lib.hid (show IntKind.i64.wrap ((t : Int) - 16) = (m16 : Int) by rw [IntKind.wrap_i64]; omega)
     have I16 := Lib.hid (show (0 : Int) ≤ (m16 : Int) ∧ (m16 : Int) < (t : Int) by omega)
     have l16 : m16 < t := by omega
     have hx16 := HWL.out m16
     rw [← hm2, ← hm7, ← hm15, ← hm16] at hwn
     have hcc : ∀ wz, Below wr.heap.size wr wz → wz.cell? ⟨b1, o1 + m2, none⟩ = some (.int .u64 ((wf K.toKs (nth bs) m2 : Nat) : Int)) ∧ wz.cell? ⟨b1, o1 + m7, none⟩ = some (.int .u64 ((wf K.toKs (nth bs) m7 : Nat) : Int)) ∧ wz.cell? ⟨b1, o1 + m15, none⟩ = some (.int .u64 ((wf K.toKs (nth bs) m15 : Nat) : Int)) ∧ wz.cell? ⟨b1, o1 + m16, none⟩ = some (.int .u64 ((wf K.toKs (nth bs) m16 : Nat) : Int)) :=
      fun wz hz => ⟨hcell _ l2 wz hz, hcell _ l7 wz hz, hcell _ l15 wz hz, hcell _ l16 wz hz⟩
     have HC := Lib.hid hcc
     clear hcc hcell hm2 hm7 hm15 hm16 l2 l7 l15 l16
     have hv : ∀ k, k < t + 1 → (if k < t then wfv K.toKs (nth bs) k else .int .u64 ((wf K.toKs (nth bs) t : Nat) : Int)) = wfv K.toKs (nth bs) k := fun k hk => by
      by_cases e : k < t
      ·rw [if_pos e]
      ·rw [if_neg e, show k = t by omega]; rfl
     have HV := Lib.hid hv
     clear hv
     have hb0 : 0 < K.bits := by rcases hK.bits with h | h <;> omega
     have q2 := shiftedN_lt hb0 hx2 K.l
     have q15 := shiftedN_lt hb0 hx15 K.e
     have p64 := pow64 hK.bits
     have KL := Lib.hid (fun w => shifted_any (K := K) rfl hK.bits hx2 hK.l.1 hK.l.2.1 hK.l.2.2 w)
     have KE := Lib.hid (fun w => shifted_any (K := K) rfl hK.bits hx15 hK.e.1 hK.e.2.1 hK.e.2.2 w)
     generalize wf K.toKs (nth bs) t = r at *
     generalize wf K.toKs (nth bs) m2 = x2 at *
     generalize wf K.toKs (nth bs) m7 = x7 at *
     generalize wf K.toKs (nth bs) m15 = x15 at *
     generalize wf K.toKs (nth bs) m16 = x16 at *
     generalize shiftedN K.bits x2 K.l = s2 at *
     generalize shiftedN K.bits x15 K.e = s15 at *
     obtain ⟨p1, hp1⟩ : ∃ p, p = (s2 + x7) % 18446744073709551616 := ⟨_, rfl⟩
     obtain ⟨p2, hp2⟩ : ∃ p, p = (p1 + s15) % 18446744073709551616 := ⟨_, rfl⟩
     obtain ⟨p3, hp3⟩ : ∃ p, p = (p2 + x16) % 18446744073709551616 := ⟨_, rfl⟩
     have A1 := Lib.hid (show IntKind.u64.wrap ((s2 : Int) + (x7 : Int)) = (p1 : Int) by rw [IntKind.wrap_u64]; omega)
     have A2 := Lib.hid (show IntKind.u64.wrap ((p1 : Int) + (s15 : Int)) = (p2 : Int) by rw [IntKind.wrap_u64]; omega)
     have A3 := Lib.hid (show IntKind.u64.wrap ((p2 : Int) + (x16 : Int)) = (p3 : Int) by rw [IntKind.wrap_u64]; omega)
     have hp : p3 = (s2 + x7 + s15 + x16) % 18446744073709551616 := by omega
     have hcut : cutN K.toKs p3 = r := by rw [hp, cut_mod hK.bits, hwn]
     have KC := Lib.hid (fun w => cut_any (K := K) (x := p3) w)
     rw [hcut] at KC
     clear hwn hwt hx2 hx7 hx15 hx16 hb0 q2 q15 p64 hp1 hp2 hp3 hp hcut
     go_upto_region 15 with fail
     refine wp_region_inv 35 [45, 46, 47, 48, 49, 50, 51, 52, 53, 54, 55, 56, 57, 58, 59, 60, 61, 62, 63, 64, 65, 66, 67, 68, 69, 70, 71, 72, 73, 74, 75, 76, 77, 78, 79] [.val (.slice (some ⟨b1, o1, none⟩) t c), .val (kv K), .val (kv K), .val (.slice (some ⟨b1, o1, none⟩) t c), .val (.int .i64 (t : Int)), .val (.int .i64 (m2 : Int)), .val (.pointer (some ⟨b1, o1 + m2, none⟩)), .val (.int .u64 (x2 : Int)), .val (.pointer (some ⟨g2, 11, none⟩)), .val (tv K.l.1 K.l.2.1 K.l.2.2), .val (.int .u64 (s2 : Int)), .val (.slice (some ⟨b1, o1, none⟩) t c), .val (.int .i64 (t : Int)), .val (.int .i64 (m7 : Int)), .val (.pointer (some ⟨b1, o1 + m7, none⟩)), .val (.int .u64 (x7 : Int)), .val (.int .u64 (p1 : Int)), .val (kv K), .val (.slice (some ⟨b1, o1, none⟩) t c), .val (.int .i64 (t : Int)), .val (.int .i64 (m15 : Int)), .val (.pointer (some ⟨b1, o1 + m15, none⟩)), .val (.int .u64 (x15 : Int)), .val (.pointer (some ⟨g2, 8, none⟩)), .val (tv K.e.1 K.e.2.1 K.e.2.2), .val (.int .u64 (s15 : Int)), .val (.int .u64 (p2 : Int)), .val (.slice (some ⟨b1, o1, none⟩) t c), .val (.int .i64 (t : Int)), .val (.int .i64 (m16 : Int)), .val (.pointer (some ⟨b1, o1 + m16, none⟩)), .val (.int .u64 (x16 : Int)), .val (.int .u64 (p3 : Int)), .val (.int .u64 (r : Int)), .one (.int .u64 (r : Int))] (fun wz => Below wr.heap.size wr wz) (by kernel_rfl) (by kernel_rfl) (fun wz wz' hz hb => bnx hz hb) ((Below.refl _ _).drew) (fun u => by simp only [puts, List.foldl_cons, List.foldl_nil]; go_simp; exact rfl) ?_ ?_
     ·simp only [List.take_succ_cons, List.take_zero]
      refine .cons (fun u w hS hd => ?_) ?_
      ·exact Gv.run (.slice (some ⟨b1, o1, none⟩) t c) rfl (by go_simp) rfl
      refine .cons (fun u w hS hd => ?_) ?_
      ·exact Gv.run (kv K) rfl (run_kload rfl rfl (okr.keep hS)) rfl
      refine .cons (fun u w hS hd => ?_) ?_
      ·exact Gv.run (kv K) rfl (run_kload rfl rfl (okr.keep hS)) rfl
      refine .cons (fun u w hS hd => ?_) ?_
      ·exact Gv.run (.slice (some ⟨b1, o1, none⟩) t c) rfl (by go_simp) rfl
      refine .cons (fun u w hS hd => ?_) ?_
      ·exact Gv.run (.int .i64 (t : Int)) rfl (by go_simp) rfl
      refine .cons (fun u w hS hd => ?_) ?_
      ·have d49 : u 49 = .int .i64 (t : Int) := dep hd 4 rfl
       rw [d49]
       have hq := S2.out
       exact Gv.run (.int .i64 (m2 : Int)) rfl (by go_simp) rfl
      refine .cons (fun u w hS hd => ?_) ?_
      ·have d48 : u 48 = .slice (some ⟨b1, o1, none⟩) t c := dep hd 3 rfl
       have d50 : u 50 = .int .i64 (m2 : Int) := dep hd 5 rfl
       rw [d48, d50]
       exact Gv.run (.pointer (some ⟨b1, o1 + m2, none⟩)) rfl (by obtain ⟨h1, h2⟩ := I2.out; go_simp) rfl
      refine .cons (fun u w hS hd => ?_) ?_
      ·have d51 : u 51 = .pointer (some ⟨b1, o1 + m2, none⟩) := dep hd 6 rfl
       rw [d51]
       exact Gv.run (.int .u64 (x2 : Int)) rfl (by obtain ⟨c2, c7, c15, c16⟩ := HC.out w hS; go_simp) rfl
      refine .cons (fun u w hS hd => ?_) ?_
      ·exact Gv.run (.pointer (some ⟨g2, 11, none⟩)) rfl (by go_simp) rfl
      refine .cons (fun u w hS hd => ?_) ?_
      ·have d53 : u 53 = .pointer (some ⟨g2, 11, none⟩) := dep hd 8 rfl
       rw [d53]
       exact Gv.run (tv K.l.1 K.l.2.1 K.l.2.2) rfl (by obtain ⟨-, -, -, h1, h2, h3⟩ := (okr.keep hS).tri; go_simp) rfl
      refine .cons (fun u w hS hd => ?_) ?_
      ·have d47 : u 47 = kv K := dep hd 2 rfl
       have d52 : u 52 = .int .u64 (x2 : Int) := dep hd 7 rfl
       have d54 : u 54 = tv K.l.1 K.l.2.1 K.l.2.2 := dep hd 9 rfl
       rw [d47, d52, d54]
       refine Gv.call 153 #[kv K, .int .u64 (x2 : Int), tv K.l.1 K.l.2.1 K.l.2.2] rfl (by go_simp) ((KL.out w).mono ?_)
       rintro e w' ⟨rfl, hb⟩
       exact ⟨_, rfl, rfl, hb⟩
      refine .cons (fun u w hS hd => ?_) ?_
      ·exact Gv.run (.slice (some ⟨b1, o1, none⟩) t c) rfl (by go_simp) rfl
      refine .cons (fun u w hS hd => ?_) ?_
      ·exact Gv.run (.int .i64 (t : Int)) rfl (by go_simp) rfl
      refine .cons (fun u w hS hd => ?_) ?_
      ·have d57 : u 57 = .int .i64 (t : Int) := dep hd 12 rfl
       rw [d57]
       have hq := S7.out
       exact Gv.run (.int .i64 (m7 : Int)) rfl (by go_simp) rfl
      refine .cons (fun u w hS hd => ?_) ?_
      ·have d56 : u 56 = .slice (some ⟨b1, o1, none⟩) t c := dep hd 11 rfl
       have d58 : u 58 = .int .i64 (m7 : Int) := dep hd 13 rfl
       rw [d56, d58]
       exact Gv.run (.pointer (some ⟨b1, o1 + m7, none⟩)) rfl (by obtain ⟨h1, h2⟩ := I7.out; go_simp) rfl
      refine .cons (fun u w hS hd => ?_) ?_
      ·have d59 : u 59 = .pointer (some ⟨b1, o1 + m7, none⟩) := dep hd 14 rfl
       rw [d59]
       exact Gv.run (.int .u64 (x7 : Int)) rfl (by obtain ⟨c2, c7, c15, c16⟩ := HC.out w hS; go_simp) rfl
      refine .cons (fun u w hS hd => ?_) ?_
      ·have d55 : u 55 = .int .u64 (s2 : Int) := dep hd 10 rfl
       have d60 : u 60 = .int .u64 (x7 : Int) := dep hd 15 rfl
       rw [d55, d60]
       have hq := A1.out
       exact Gv.run (.int .u64 (p1 : Int)) rfl (by go_simp) rfl
      refine .cons (fun u w hS hd => ?_) ?_
      ·exact Gv.run (kv K) rfl (run_kload rfl rfl (okr.keep hS)) rfl
      refine .cons (fun u w hS hd => ?_) ?_
      ·exact Gv.run (.slice (some ⟨b1, o1, none⟩) t c) rfl (by go_simp) rfl
      refine .cons (fun u w hS hd => ?_) ?_
      ·exact Gv.run (.int .i64 (t : Int)) rfl (by go_simp) rfl
      refine .cons (fun u w hS hd => ?_) ?_
      ·have d64 : u 64 = .int .i64 (t : Int) := dep hd 19 rfl
       rw [d64]
       have hq := S15.out
       exact Gv.run (.int .i64 (m15 : Int)) rfl (by go_simp) rfl
      refine .cons (fun u w hS hd => ?_) ?_
      ·have d63 : u 63 = .slice (some ⟨b1, o1, none⟩) t c := dep hd 18 rfl
       have d65 : u 65 = .int .i64 (m15 : Int) := dep hd 20 rfl
       rw [d63, d65]
       exact Gv.run (.pointer (some ⟨b1, o1 + m15, none⟩)) rfl (by obtain ⟨h1, h2⟩ := I15.out; go_simp) rfl
      refine .cons (fun u w hS hd => ?_) ?_
      ·have d66 : u 66 = .pointer (some ⟨b1, o1 + m15, none⟩) := dep hd 21 rfl
       rw [d66]
       exact Gv.run (.int .u64 (x15 : Int)) rfl (by obtain ⟨c2, c7, c15, c16⟩ := HC.out w hS; go_simp) rfl
      refine .cons (fun u w hS hd => ?_) ?_
      ·exact Gv.run (.pointer (some ⟨g2, 8, none⟩)) rfl (by go_simp) rfl
      refine .cons (fun u w hS hd => ?_) ?_
      ·have d68 : u 68 = .pointer (some ⟨g2, 8, none⟩) := dep hd 23 rfl
       rw [d68]
       exact Gv.run (tv K.e.1 K.e.2.1 K.e.2.2) rfl (by obtain ⟨-, -, ⟨h1, h2, h3⟩, -⟩ := (okr.keep hS).tri; go_simp) rfl
      refine .cons (fun u w hS hd => ?_) ?_
      ·have d62 : u 62 = kv K := dep hd 17 rfl
       have d67 : u 67 = .int .u64 (x15 : Int) := dep hd 22 rfl
       have d69 : u 69 = tv K.e.1 K.e.2.1 K.e.2.2 := dep hd 24 rfl
       rw [d62, d67, d69]
       refine Gv.call 153 #[kv K, .int .u64 (x15 : Int), tv K.e.1 K.e.2.1 K.e.2.2] rfl (by go_simp) ((KE.out w).mono ?_)
       rintro e w' ⟨rfl, hb⟩
       exact ⟨_, rfl, rfl, hb⟩
      refine .cons (fun u w hS hd => ?_) ?_
      ·have d61 : u 61 = .int .u64 (p1 : Int) := dep hd 16 rfl
       have d70 : u 70 = .int .u64 (s15 : Int) := dep hd 25 rfl
       rw [d61, d70]
       have hq := A2.out
       exact Gv.run (.int .u64 (p2 : Int)) rfl (by go_simp) rfl
      refine .cons (fun u w hS hd => ?_) ?_
      ·exact Gv.run (.slice (some ⟨b1, o1, none⟩) t c) rfl (by go_simp) rfl
      refine .cons (fun u w hS hd => ?_) ?_
      ·exact Gv.run (.int .i64 (t : Int)) rfl (by go_simp) rfl
      refine .cons (fun u w hS hd => ?_) ?_
      ·have d73 : u 73 = .int .i64 (t : Int) := dep hd 28 rfl
       rw [d73]
       have hq := S16.out
       exact Gv.run (.int .i64 (m16 : Int)) rfl (by go_simp) rfl
      refine .cons (fun u w hS hd => ?_) ?_
      ·have d72 : u 72 = .slice (some ⟨b1, o1, none⟩) t c := dep hd 27 rfl
       have d74 : u 74 = .int .i64 (m16 : Int) := dep hd 29 rfl
       rw [d72, d74]
       exact Gv.run (.pointer (some ⟨b1, o1 + m16, none⟩)) rfl (by obtain ⟨h1, h2⟩ := I16.out; go_simp) rfl
      refine .cons (fun u w hS hd => ?_) ?_
      ·have d75 : u 75 = .pointer (some ⟨b1, o1 + m16, none⟩) := dep hd 30 rfl
       rw [d75]
       exact Gv.run (.int .u64 (x16 : Int)) rfl (by obtain ⟨c2, c7, c15, c16⟩ := HC.out w hS; go_simp) rfl
      refine .cons (fun u w hS hd => ?_) ?_
      ·have d71 : u 71 = .int .u64 (p2 : Int) := dep hd 26 rfl
       have d76 : u 76 = .int .u64 (x16 : Int) := dep hd 31 rfl
       rw [d71, d76]
       have hq := A3.out
       exact Gv.run (.int .u64 (p3 : Int)) rfl (by go_simp) rfl
      refine .cons (fun u w hS hd => ?_) ?_
      ·have d46 : u 46 = kv K := dep hd 1 rfl
       have d77 : u 77 = .int .u64 (p3 : Int) := dep hd 32 rfl
       rw [d46, d77]
       refine Gv.call 144 #[kv K, .int .u64 (p3 : Int)] rfl (by go_simp) ((KC.out w).mono ?_)
       rintro e w' ⟨rfl, hb⟩
       exact ⟨_, rfl, rfl, hb⟩
      refine .cons (fun u w hS hd => ?_) ?_
      ·have d78 : u 78 = .int .u64 (r : Int) := dep hd 33 rfl
       rw [d78]
       refine Gv.make (.slice (some ⟨w.heap.size, 0, none⟩) 1 1) (w.alloc (.cells #[.int .u64 (r : Int)] 33)) rfl (by go_simp) ⟨_, rfl, ?_⟩ ((Below.refl _ w).alloc (Nat.le_refl _) _)
       exact (OwnF.lit (w := w) 33 (Nat.le_refl _) #[.int .u64 (r : Int)] 1 (fun _ => .int .u64 (r : Int)) (by decide) rfl).rd
      exact Obs.nil
     intro u wz hS hd
     have d45 : u 45 = .slice (some ⟨b1, o1, none⟩) t c := hd 0 (by decide)
     obtain ⟨A9, d79, r79⟩ : ∃ A, u 79 = .slice A 1 1 ∧ RdF wz wz.heap.size A 1 1 (fun _ => .int .u64 (r : Int)) := hd 34 (by decide)
     rw [d45, d79]
     clear hd d45 d79
     have os2 := OwnF.keep os hS
     have hbz := bnx hb hS
     simp only [List.drop_succ_cons, List.drop_zero]
     go_wp2_with (at_builtin; refine wpList_appG _ rfl (.tmp 45) (.tmp 79) _ rfl v0.heap.size 33 i0 _ Tryz.underlying117 hi hz0 hz1 hz2 (by decide) rfl rfl os2 rfl r79 (fun _ _ => rfl) (by omega) (by omega) hbz.size ?_; intro A' c' w' ho' hb')
     exact ⟨⟨t + 1, by omega, by omega, by go_num, ⟨A', c', rfl, OwnF.congr ho' fun k hk => HV.out k hk⟩, hbz.trans hb'⟩, by simp [intOf]; omega⟩
    ·obtain rfl : t = K.rounds := by omega
     have g1 : ¬ (K.rounds : Int) < (K.rounds : Int) := by omega
     go_wp2_with fail
     go_ret
     exact ⟨A, c, rfl, os.mono hwv, hc.trans (hb.mono hwv)⟩
end Go.Proofs.YtkbkalhcdbklkaaGreatDoor
