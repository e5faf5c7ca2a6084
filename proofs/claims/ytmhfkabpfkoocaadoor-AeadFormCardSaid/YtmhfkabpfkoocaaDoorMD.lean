import Derived.Test.YtmhfkabpfkoocaaDoorMC
namespace Go.Proofs.YtmhfkabpfkoocaaDoor
open Go Go.RowKit
def mT8 (x y i : Nat) : Nat := mT 256 x y i
def mS8 (x y i k : Nat) : Nat := mS 256 x y i k
def mO8 (x y i k : Nat) : Nat := mO 256 x y i k
/-- Byte j, when i bytes of x and k of y have been reckoned. -/
def mc8 (x y i k j : Nat) : Value := .int .i64 ((if j < i + k then by8 (mS8 x y i k) j else by8 (mT8 x y i) j : Nat) : Int)
def pd (x y i k : Nat) : Nat := by8 x i * by8 y k
def u1 (x y i k : Nat) : Nat := by8 (mT8 x y i) (i + k) + pd x y i k
def tt (x y i k : Nat) : Nat := u1 x y i k + mO8 x y i k
theorem mc8_start (x y i j : Nat) : mc8 x y i 0 j = dg8 (mT8 x y i) j := by
  unfold mc8 dg8
  by_cases h : j < i + 0
  · rw [if_pos h]
    unfold mS8 by8; rw [mS_zero, dgt_mod (n := i) _ h]; rfl
  · rw [if_neg h]
theorem mc8_at (x y i k : Nat) : mc8 x y i k (i + k) = .int .i64 (by8 (mT8 x y i) (i + k) : Int) := by
  unfold mc8; rw [if_neg (by omega)]
theorem mO8_lt (x y i k : Nat) : mO8 x y i k < 256 := mO_lt (by decide)
theorem tt_eq (x y i k : Nat) : tt x y i k = dgt 256 x i * dgt 256 y k + dgt 256 (mT 256 x y i) (i + k) + mO 256 x y i k := by
  unfold tt u1 pd by8 mT8 mO8; omega
theorem tt_div (x y i k : Nat) : tt x y i k / 256 = mO8 x y i (k + 1) := by
  rw [tt_eq]; exact (mO_succ (b := 256) (by decide)).symm
theorem tt_mod (x y i k : Nat) : tt x y i k % 256 = by8 (mS8 x y i (k + 1)) (i + k) := by
  rw [tt_eq]; exact (mS_new (b := 256) (by decide)).symm
theorem pd_le (x y i k : Nat) : pd x y i k ≤ 65025 := Nat.mul_le_mul (show by8 x i ≤ 255 by have := by8_lt x i; omega) (show by8 y k ≤ 255 by have := by8_lt y k; omega)
theorem mc8_set (x y i k j : Nat) : (if j = i + k then .int .i64 (by8 (mS8 x y i (k + 1)) (i + k) : Int) else mc8 x y i k j) = mc8 x y i (k + 1) j := by
  by_cases h : j = i + k
  · subst h
    rw [if_pos rfl]
    unfold mc8
    rw [if_pos (by omega)]
  · rw [if_neg h]
    unfold mc8
    by_cases h2 : j < i + k
    · rw [if_pos h2, if_pos (by omega), show by8 (mS8 x y i (k + 1)) j = by8 (mS8 x y i k) j from mS_old h2]
    · rw [if_neg h2, if_neg (by omega)]
theorem mS8_ge {x y i k n : Nat} (hy : y < 256 ^ n) (hk : n ≤ k) : mS8 x y i k = mT8 x y (i + 1) :=
  mS_full (by decide) (Nat.lt_of_lt_of_le hy (Nat.pow_le_pow_right (by decide) hk))
theorem mT8_lt {x y i n : Nat} (hy : y < 256 ^ n) : mT8 x y i < 256 ^ (i + n) := mT_lt (by decide) hy
theorem mO8_top {x y i k n : Nat} (hy : y < 256 ^ n) (hk : n < k) : mO8 x y i k = 0 := by
  have h : mO8 x y i k = mS8 x y i k / 256 ^ (i + k) := rfl
  rw [h, mS8_ge hy (by omega)]
  exact Nat.div_eq_of_lt (Nat.lt_of_lt_of_le (mT8_lt (i := i + 1) hy) (Nat.pow_le_pow_right (by decide) (by omega)))
theorem mc8_end {x y i k n : Nat} (hy : y < 256 ^ n) (hk : n ≤ k) (h0 : mO8 x y i k = 0) (j : Nat) : mc8 x y i k j = dg8 (mT8 x y (i + 1)) j := by
  have h : mO8 x y i k = mS8 x y i k / 256 ^ (i + k) := rfl
  rw [h, mS8_ge hy hk] at h0
  have hl : mT8 x y (i + 1) < 256 ^ (i + k) := by
    rcases Nat.div_eq_zero_iff.1 h0 with h2 | h2
    · exact absurd h2 (Nat.ne_of_gt (Nat.pow_pos (by decide)))
    · exact h2
  unfold mc8 dg8
  by_cases h2 : j < i + k
  · rw [if_pos h2, mS8_ge hy hk]
  · rw [if_neg h2, by8_top hl (by omega), by8_top (Nat.lt_of_lt_of_le (mT8_lt (i := i) hy) (Nat.pow_le_pow_right (by decide) (show i + n ≤ i + k by omega))) (by omega)]
theorem mT8_zero (x y : Nat) : mT8 x y 0 = 0 := mT_zero _ _ _
theorem mT8_full {x n : Nat} (y : Nat) (hx : x < 256 ^ n) : mT8 x y n = x * y := mT_full hx
theorem dg8_zero (j : Nat) : dg8 0 j = .int .i64 0 := by unfold dg8 by8 dgt; simp
theorem wrapT (x y i k : Nat) : IntKind.i64.wrap ((by8 x i : Int) * (by8 y k : Int)) = (pd x y i k : Int) ∧ IntKind.i64.wrap ((by8 (mT8 x y i) (i + k) : Int) + (pd x y i k : Int)) = (u1 x y i k : Int) ∧
    IntKind.i64.wrap ((u1 x y i k : Int) + (mO8 x y i k : Int)) = (tt x y i k : Int) := by
  have h1 := pd_le x y i k
  have h2 := by8_lt (mT8 x y i) (i + k)
  have h3 := mO8_lt x y i k
  have e1 : (by8 x i : Int) * (by8 y k : Int) = (pd x y i k : Int) := by unfold pd; rw [Int.natCast_mul]
  rw [e1]
  unfold tt u1
  generalize pd x y i k = p at *
  generalize by8 (mT8 x y i) (i + k) = q at *
  generalize mO8 x y i k = r at *
  refine ⟨?_, ?_, ?_⟩ <;> (rw [IntKind.wrap_i64]; omega)
theorem mO8_wrap (x y i k : Nat) : wrap64 (mO8 x y i k : Int) = (mO8 x y i k : Int) := by
  have h := mO8_lt x y i k
  generalize mO8 x y i k = a at *
  unfold wrap64
  omega
end Go.Proofs.YtmhfkabpfkoocaaDoor

namespace Go.Proofs.YtmhfkabpfkoocaaDoor
open Go Go.RowKit
set_option maxRecDepth 20000 in
set_option maxHeartbeats 800000 in
theorem times_any {A A' : Option Addr} {B c c' n n' x y : Nat} (w : World) (h : Dig w B A c n x) (h' : Dig w B A' c' n' y) (hB : B ≤ w.heap.size) (hn : n ≤ 1000) (hn' : n' ≤ 1000) :
    Calls Tryd.prog 38 #[.slice A n c, .slice A' n' c'] w fun e w' => ∃ A c n, e = .returned (.slice A n c) ∧ DOwn w' w.heap.size A c n (x * y) ∧ Below w.heap.size w w' := by
  obtain ⟨i0, hi, hz0, hz1, hz2⟩ := info_parts infoInt
  obtain ⟨L, hL⟩ : ∃ L, L = n + n' + 1 := ⟨_, rfl⟩
  have hl1 : IntKind.i64.wrap ((n : Int) + (n' : Int)) = (n : Int) + (n' : Int) := by rw [IntKind.wrap_i64]; omega
  have hl2 : IntKind.i64.wrap ((n : Int) + (n' : Int) + 1) = (L : Int) := by rw [IntKind.wrap_i64]; omega
  have hLb : L ≤ 2001 := by omega
  have hmk := run_mkF (P := Tryd.prog) 53 3 i0 Tryd.underlying53 hi hz0 rfl hz1 hz2 (l := (L : Int)) (n := L) rfl (by omega) (by omega)
  have hm := OwnF.made (w := w) (B := w.heap.size) 3 (.int .i64 0) (n := L) (Nat.le_refl _) (by unfold maxLen; omega)
  have hb0 : Below w.heap.size w (w.alloc (.cells (madeCells #[.int .i64 0] L) 3)) := (Below.refl _ w).alloc (Nat.le_refl _) _
  have HL := Lib.hid hL
  clear hL
  go_enter Tryd.func38, Tryd.ntmps38
  go_wp2_with fail
  go_loopw [6] (fun i wr => ∃ k : Nat, k ≤ n ∧ i = .int .i64 k ∧ OwnF wr w.heap.size 3 (some ⟨w.heap.size, 0, none⟩) L L (dg8 (mT8 x y k)) ∧ Below w.heap.size w wr)
    (fun i _ => n - (intOf i).toNat)
  case atStart => exact ⟨0, by omega, rfl, hm.congr (fun j _ => by rw [mT8_zero, dg8_zero]), hb0⟩
  case round =>
    obtain ⟨i, hi', rfl, os, hb⟩ := hrel
    clear hmk hm hb0
    by_cases hlt : i < n
    · have g1 : (i : Int) < (n : Int) := by omega
      go_wp2_with fail
      obtain ⟨w0, e0⟩ : ∃ w0 : World, w0 = wr := ⟨_, rfl⟩
      subst e0
      go_loopw [7, 8] (fun cc kk wr => ∃ k : Nat, k ≤ n' + 1 ∧ kk = .int .i64 k ∧ cc = .int .i64 (mO8 x y i k : Int) ∧ OwnF wr w.heap.size 3 (some ⟨w.heap.size, 0, none⟩) L L (mc8 x y i k) ∧ Below w.heap.size w wr)
        (fun _ kk _ => n' + 1 - (intOf kk).toNat)
      case atStart => exact ⟨0, by omega, rfl, by rw [show mO8 x y i 0 = 0 from mO_zero (by decide)]; rfl, os.congr (fun j _ => (mc8_start _ _ _ _).symm), hb⟩
      case round =>
        clear os hb
        obtain ⟨k, hk, rfl, rfl, os, hb⟩ := hrel
        by_cases hgo : k < n' ∨ mO8 x y i k ≠ 0
        · have hkn : k ≤ n' := by
            rcases hgo with h1 | h1
            · omega
            · refine Nat.le_of_not_lt fun h2 => h1 (mO8_top h'.lt h2)
          have hguard : (k : Int) < (n' : Int) ∨ (¬ (k : Int) < (n' : Int) ∧ (0 : Int) < (mO8 x y i k : Int)) := by omega
          have ha := h.keep (hb.mono hB)
          have ha' := h'.keep (hb.mono hB)
          obtain ⟨b1, o1, rfl, hb1, c1⟩ := ha.rd.at_ hlt
          unfold dg8 at c1
          have c2 := os.cell (k := i + k) (by have := HL.out; omega)
          rw [mc8_at] at c2
          have f2 := os.free (i + k)
          have q1 : IntKind.i64.wrap ((i : Int) + (k : Int)) = (i : Int) + (k : Int) := by rw [IntKind.wrap_i64]; omega
          have q2 : (i : Int) + (k : Int) < (L : Int) := by have := HL.out; omega
          have q3 : 0 ≤ (i : Int) + (k : Int) := by omega
          have q4 : ((i : Int) + (k : Int)).toNat = i + k := by omega
          obtain ⟨p1, p2, p3⟩ := wrapT x y i k
          obtain ⟨e1, e1'⟩ := nmod (tt_mod x y i k)
          obtain ⟨e2, e2'⟩ := ndiv (tt_div x y i k)
          have hset : ∀ w1 : World, Below w.heap.size w1 (w1.setCell ⟨w.heap.size, i + k, none⟩ (.int .i64 (by8 (mS8 x y i (k + 1)) (i + k) : Int))) := fun w1 => (Below.refl w.heap.size w1).setCell (Nat.le_refl w.heap.size) _
          have os1 := os.drew
          have hb1' := hb.drew
          have HS := Lib.hid hset
          have hwr := Lib.hid (mO8_wrap x y i (k + 1))
          clear hset
          rcases hguard with g2 | ⟨g2, g3⟩
          all_goals
            go_wp2_with fail
            refine wp_region_still_lit (by kernel_rfl) (by kernel_rfl) ?_
            repeat (first | still_step | still_call (at_any _ ha'.drew k))
            refine wpStill_nil ?_
            have ew : ({ heap := wr.heap, tape := wr.tape, drawn := wr.drawn + 1, os := wr.os, output := wr.output } : World) = wr.drew := rfl
            rw [ew]
            obtain ⟨w1, hw1⟩ : ∃ w1, w1 = wr.drew := ⟨_, rfl⟩
            rw [← hw1] at os1 hb1' ⊢
            clear os hb c1 c2 f2 ew hw1 hb1
            have c2 := os1.cell (k := i + k) (by have := HL.out; omega)
            rw [mc8_at] at c2
            have f2 := os1.free (i + k)
            go_wp2_with fail
            refine ⟨⟨k + 1, by omega, by go_num, by rw [hwr.out], ?_, hb1'.trans (HS.out w1)⟩, by simp [intOf]; omega⟩
            exact (os1.set_ (i + k) (.int .i64 (by8 (mS8 x y i (k + 1)) (i + k) : Int))).congr fun j _ => mc8_set _ _ _ _ _
        · have g2 : ¬ (k : Int) < (n' : Int) := by omega
          have h0 : mO8 x y i k = 0 := by omega
          have g3 : (mO8 x y i k : Int) = 0 := by omega
          have H0 := Lib.hid h0
          clear hgo h0
          have hkn : n' ≤ k := by omega
          have os' := os.congr (g := dg8 (mT8 x y (i + 1))) fun j _ => mc8_end h'.lt hkn H0.out j
          go_wp2_with fail
          go_roundw
          case rel => exact ⟨i + 1, by omega, by go_num, os', hb⟩
          case measure => simp [intOf]; omega
    · have hk' : i = n := by omega
      subst hk'
      rw [mT8_full y h.lt] at os
      have hlx : x * y < 256 ^ L := by
        rw [HL.out, Nat.add_assoc, Nat.pow_add]
        exact Nat.mul_lt_mul_of_lt_of_le h.lt (Nat.le_trans (Nat.le_of_lt h'.lt) (Nat.pow_le_pow_right (by decide) (by omega))) (Nat.pow_pos (by decide))
      go_wp2_with fail
      go_at_call 52
      refine (trim_any (x := x * y) _ ⟨os.rd, hlx⟩ (by omega)).mono ?_
      rintro e w1 ⟨n2, hn2, rfl, hx', hc, rfl⟩
      go_wp2
      go_ret
      exact ⟨_, L, n2, rfl, DOwn.trim os (Nat.le_refl _) hn2 hx' hc, hb⟩
end Go.Proofs.YtmhfkabpfkoocaaDoor

namespace Go.Proofs.YtmhfkabpfkoocaaDoor
open Go Go.RowKit
/-- What n digits are worth. -/
def vsum : Nat → (Nat → Nat) → Nat
  | 0, _ => 0
  | n + 1, f => vsum n f + f n * 256 ^ n
theorem vsum_dig (x : Nat) : ∀ n, vsum n (by8 x) = x % 256 ^ n
  | 0 => by simp [vsum, Nat.mod_one]
  | n + 1 => by rw [vsum, vsum_dig x n, mod_pow_succ', Nat.mul_comm (256 ^ n)]; rfl
def celln (w : World) (ad : Addr) (k : Nat) : Nat := match w.cell? ⟨ad.block, ad.off + k, none⟩ with | some (.int _ z) => z.toNat | _ => 0
/-- What a slice of ints is worth, read as digits. -/
def meas (v : Value) (w : World) : Nat := match v with
  | .slice (some ad) n _ => vsum n (celln w ad)
  | _ => 0
theorem vsum_congr {f g : Nat → Nat} : ∀ n, (∀ k, k < n → f k = g k) → vsum n f = vsum n g
  | 0, _ => rfl
  | n + 1, h => by rw [vsum, vsum, vsum_congr n fun k hk => h k (by omega), h n (by omega)]
theorem meas_dig {w : World} {B c n x : Nat} {A : Option Addr} (h : Dig w B A c n x) : meas (.slice A n c) w = x := by
  rcases A with _ | ad
  · obtain ⟨rfl, _⟩ := h.rd.nil rfl
    have := h.lt
    simp at this
    subst this
    rfl
  · unfold meas
    simp only
    rw [vsum_congr n (g := by8 x), vsum_dig, Nat.mod_eq_of_lt h.lt]
    intro k hk
    obtain ⟨b, o, e, _, hc⟩ := h.rd.at_ hk
    obtain rfl := Option.some.inj e
    unfold celln
    rw [hc]
    simp [dg8]
theorem by8_cons0 {d z : Nat} (hd : d < 256) : by8 (d + 256 * z) 0 = d := by unfold by8 dgt; simp; omega
theorem by8_cons {d z : Nat} (hd : d < 256) (k : Nat) : by8 (d + 256 * z) (k + 1) = by8 z k := by
  unfold by8 dgt
  rw [Nat.pow_succ, Nat.mul_comm (256 ^ k), ← Nat.div_div_eq_div_mul, show (d + 256 * z) / 256 = z by omega]
theorem wpList_appF {P : Program} (w : World) {ops : Array Oper} {rest : List Oper} {o : Oper} {a : Act} {Q : Exit → Act → World → Prop} (hgd : o.guard = none) (s x : Operand) (t : TypeId)
    (ho : o.op = .call { callee := .builtin .append, args := #[s, x], argTypes := #[t, t] })
    (base : Nat) (e : TypeId) (i : TypeInfo) (z : Value) (ht : P.underlying t = some (.slice e)) (hi : P.info? e = some i) (hz : i.zero = some z)
    (hsize : i.size = 1) {by_ : Nat} (hby : i.bytes = by_) (hby0 : 0 < by_) (hzs : z.cells.size = 1) {As : Option Addr} {cs n : Nat} {f : Nat → Value} (hs : a.eval s = .slice As n cs) (hown : OwnF w base e As cs n f)
    {B c m : Nat} {A : Option Addr} {g : Nat → Value} (hx : a.eval x = .slice A m c) (hr : RdF w B A c m g) (hg : ∀ k, k < m → (g k).oneCell' = true) (hlen : n + m ≤ 140737488355328) (hbytes : (n + m) * by_ ≤ 140737488355328) (hbase : base ≤ w.heap.size)
    (h : ∀ A' c' w', OwnF w' base e A' c' (n + m) (fun k => if k < n then f k else g (k - n)) → Below base w w' → wpList P ops Q rest (a.put o.dst (.slice A' (n + m) c')) w') : wpList P ops Q (o :: rest) a w :=
  wpList_plain hgd fun _ hK => wp_appF w s x t ho base e i z ht hi hz hsize hby hby0 hzs hs hown hx hr hg hlen hbytes hbase fun A' c' w' h1 h2 => hK _ _ (h A' c' w' h1 h2)
def hd (x s : Nat) : Nat := x / 256 ^ s
theorem hd_step (x s : Nat) : hd x s = 256 * hd x (s + 1) + by8 x s := top_step x s
theorem hd_mod (x y s : Nat) : (by8 x s + 256 * (hd x (s + 1) % y)) % y = hd x s % y := by
  rw [hd_step x s, Nat.add_comm, Nat.add_mod, Nat.mul_mod, Nat.mod_mod, ← Nat.mul_mod, ← Nat.add_mod]
theorem DOwn.nothing (w : World) (B : Nat) : DOwn w B none 0 0 0 := ⟨OwnF.nothing _ _ _ _, by decide, fun k _ => Nat.zero_le k⟩
theorem DOwn.next {w w' : World} {B c n x : Nat} {A : Option Addr} (h : DOwn w B A c n x) (hb : Below w.heap.size w w') : DOwn w' B A c n x := h.keep hb
set_option maxRecDepth 20000 in
set_option maxHeartbeats 800000 in
theorem left_any {A A' : Option Addr} {B c c' n n' x y : Nat} (w : World) (h : Dig w B A c n x) (h' : Dig w B A' c' n' y) (hB : B ≤ w.heap.size) (hn : n ≤ 1000) (hn' : n' ≤ 500) (hy : 0 < y) :
    Calls Tryd.prog 37 #[.slice A n c, .slice A' n' c'] w fun e w' => ∃ A c n, e = .returned (.slice A n c) ∧ DOwn w' w.heap.size A c n (x % y) ∧ Below w.heap.size w w' := by
  obtain ⟨i0, hi, hz0, hz1, hz2⟩ := info_parts infoInt
  have hl1 : IntKind.i64.wrap ((n : Int) - 1) = (n : Int) - 1 := by rw [IntKind.wrap_i64]; omega
  go_enter Tryd.func37, Tryd.ntmps37
  go_wp2_with fail
  go_loopw [5, 6] (fun v i wr => ∃ r : Nat, r ≤ n ∧ i = .int .i64 ((r : Int) - 1) ∧ (∃ A c m, v = .slice A m c ∧ DOwn wr w.heap.size A c m (hd x r % y)) ∧ Below w.heap.size w wr)
    (fun _ i _ => (intOf i + 1).toNat)
  case atStart => exact ⟨n, Nat.le_refl _, rfl, ⟨none, 0, 0, rfl, by rw [show hd x n = 0 from Nat.div_eq_of_lt h.lt, Nat.zero_mod]; exact DOwn.nothing _ _⟩, Below.refl _ _⟩
  case round =>
    obtain ⟨r, hr, rfl, ⟨Ao, co, mo, rfl, od⟩, hb⟩ := hrel
    by_cases h0 : r = 0
    · subst h0
      rw [show hd x 0 = x by simp [hd]] at od
      go_wp2_with fail
      go_ret
      exact ⟨Ao, co, mo, rfl, od, hb⟩
    · obtain ⟨s, rfl⟩ : ∃ s, r = s + 1 := ⟨r - 1, by omega⟩
      have gs : ((s + 1 : Nat) : Int) - 1 = (s : Int) := by omega
      rw [gs]
      have g0 : (0 : Int) ≤ (s : Int) := by omega
      have gn : (s : Int) < (n : Int) := by omega
      have gw : IntKind.i64.wrap ((s : Int) - 1) = (s : Int) - 1 := by rw [IntKind.wrap_i64]; omega
      have hdl := by8_lt x s
      have ha := h.keep (hb.mono hB)
      have ha' := h'.keep (hb.mono hB)
      obtain ⟨b1, o1, rfl, hb1, c1⟩ := ha.rd.at_ (k := s) (by omega)
      unfold dg8 at c1
      have hzy : hd x (s + 1) % y < y := Nat.mod_lt _ hy
      have hmo : mo ≤ n' := od.can n' (Nat.lt_trans hzy h'.lt)
      have hX := hd_mod x y s
      obtain ⟨z, hz⟩ : ∃ z, z = hd x (s + 1) % y := ⟨_, rfl⟩
      rw [← hz] at hX od hzy
      clear hz
      have hHX := Lib.hid hX
      clear hX
      have bl : Below wr.heap.size wr (wr.alloc (.cells #[.int .i64 (by8 x s : Int)] 3)) := (Below.refl _ wr).alloc (Nat.le_refl _) _
      have ol : OwnF (wr.alloc (.cells #[.int .i64 (by8 x s : Int)] 3)) w.heap.size 3 (some ⟨wr.heap.size, 0, none⟩) 1 1 (fun _ => .int .i64 (by8 x s : Int)) := OwnF.lit _ hb.size _ 1 _ (by decide) rfl
      have rl := od.own.rd.keep bl
      have hsz : w.heap.size ≤ (wr.alloc (.cells #[.int .i64 (by8 x s : Int)] 3)).heap.size := Nat.le_trans hb.size bl.size
      go_wp2_with (at_builtin; refine wpList_appF _ rfl (.tmp 18) (.tmp 19) _ rfl w.heap.size 3 i0 _ Tryd.underlying53 hi hz0 hz1 hz2 (by decide) rfl rfl ol rfl rl (fun _ _ => rfl) (by omega) (by omega) hsz ?_; intro A2 c2 w2 ho2 hb2)
      obtain ⟨X, hXe⟩ : ∃ X, X = by8 x s + 256 * z := ⟨_, rfl⟩
      have hXl : X < 256 ^ (1 + mo) := by
        have := od.lt
        rw [Nat.add_comm, Nat.pow_succ]
        omega
      have hXy : X < 256 ^ (n' + 1) := by
        have := h'.lt
        rw [Nat.pow_succ]
        omega
      have ho3 := ho2.congr (g := dg8 X) fun k hk => by
        unfold dg8
        rw [hXe]
        by_cases h1 : k < 1
        · obtain rfl : k = 0 := by omega
          rw [if_pos h1, by8_cons0 hdl]
        · obtain ⟨j, rfl⟩ : ∃ j, k = j + 1 := ⟨k - 1, by omega⟩
          rw [if_neg h1, by8_cons hdl, Nat.add_sub_cancel]
      have hHX2 : X % y = hd x s % y := by rw [hXe]; exact hHX.out
      have HX := Lib.hid hHX2
      clear hHX hHX2 hXe ho2 rl ol bl c1 od
      refine (trim_any (x := X) _ ⟨ho3.rd, hXl⟩ (by omega)).mono ?_
      rintro e w3 ⟨n2, hn2, rfl, hx2, hc2, rfl⟩
      have hb3 := (hb.alloc hb.size (.cells #[.int .i64 (by8 x s : Int)] 3)).trans hb2
      have dX := DOwn.trim ho3 (Nat.le_refl _) hn2 hx2 hc2
      clear ho3 hb2 hx2 hc2
      go_wp2_with fail
      clear hb ha ha'
      obtain ⟨w0, e0⟩ : ∃ w0 : World, w0 = wr := ⟨_, rfl⟩
      subst e0
      go_loopw [5] (fun v wr => ∃ A c m V, v = .slice A m c ∧ DOwn wr w.heap.size A c m V ∧ V ≤ X ∧ V % y = X % y ∧ Below w.heap.size w wr)
        (fun v w => meas v w)
      case atStart => exact ⟨_, _, _, X, rfl, dX, Nat.le_refl _, rfl, hb3⟩
      case round =>
        clear dX hb3
        obtain ⟨Av, cv, m, V, rfl, dV, hVX, hVm, hb⟩ := hrel
        have ha' := h'.keep (hb.mono hB)
        have hm : m ≤ n' + 1 := dV.can _ (Nat.lt_of_le_of_lt hVX hXy)
        have hmeas := meas_dig dV.dig
        by_cases hlt : V < y
        · have hd1 : decide (V < y) = true := decide_eq_true hlt
          have hV : V = hd x s % y := by rw [← HX.out, ← hVm, Nat.mod_eq_of_lt hlt]
          subst hV
          clear hlt hmeas
          have HV := Lib.hid hVm
          clear hVm
          go_wp2_with fail
          go_at_call 54
          refine (less_any _ (dV.dig.mono (Nat.le_refl _)) (ha'.mono (by have := hb.size; omega)) (by omega) (by omega)).mono ?_
          rintro e w4 ⟨rfl, rfl⟩
          go_wp2_with fail
          refine ⟨⟨s, by omega, by go_num, ⟨Av, cv, m, rfl, dV⟩, hb⟩, by simp [intOf]⟩
        · have hd1 : decide (V < y) = false := decide_eq_false hlt
          have hyV : y ≤ V := by omega
          have hVs : (V - y) % y = X % y := by rw [← hVm, Nat.mod_eq_sub_mod hyV]
          have HV := Lib.hid hVs
          have HM := Lib.hid hmeas
          clear hVs hmeas hVm
          go_wp2_with fail
          go_at_call 54
          refine (less_any _ (dV.dig.mono (Nat.le_refl _)) (ha'.mono (by have := hb.size; omega)) (by omega) (by omega)).mono ?_
          rintro e w4 ⟨rfl, rfl⟩
          go_wp2_with fail
          go_at_call 55
          refine (minus_any _ (dV.dig.mono (Nat.le_refl _)) (ha'.mono (by have := hb.size; omega)) (Nat.le_refl _) (by omega) hyV).mono ?_
          rintro e w5 ⟨A5, c5, m5, rfl, d5, hb5⟩
          go_wp2_with fail
          have hm5 := meas_dig d5.dig
          refine ⟨⟨A5, c5, m5, V - y, rfl, d5.mono hb.size, by omega, HV.out, hb.trans (hb5.mono hb.size)⟩, ?_⟩
          show meas (.slice A5 m5 c5) w5 < meas (.slice Av m cv) w4
          rw [hm5, HM.out]
          omega
end Go.Proofs.YtmhfkabpfkoocaaDoor

namespace Go.Proofs.YtmhfkabpfkoocaaDoor
open Go Go.RowKit
abbrev dvs (lo hi : Nat) : Value := .agg #[.int .u64 (wd lo 0 : Int), .int .u64 (wd lo 1 : Int), .int .u64 (wd lo 2 : Int), .int .u64 (wd lo 3 : Int), .int .u64 (wd hi 0 : Int), .int .u64 (wd hi 1 : Int), .int .u64 (wd hi 2 : Int), .int .u64 (wd hi 3 : Int)]
theorem wd_hi (x k : Nat) : wd (x / W4) k = wd x (4 + k) := by
  unfold wd dgt W4
  rw [Nat.div_div_eq_div_mul, ← Nat.pow_add]
theorem dv_split (a : Nat) : dv a = dvs (a % W4) (a / W4) := by
  unfold dv dvs
  rw [wd_mod a (by decide : 0 < 4), wd_mod a (by decide : 1 < 4), wd_mod a (by decide : 2 < 4), wd_mod a (by decide : 3 < 4), wd_hi, wd_hi, wd_hi, wd_hi]
abbrev A8s (lo hi : Nat) : Obj := .cells #[.int .u64 (wd lo 0 : Int), .int .u64 (wd lo 1 : Int), .int .u64 (wd lo 2 : Int), .int .u64 (wd lo 3 : Int), .int .u64 (wd hi 0 : Int), .int .u64 (wd hi 1 : Int), .int .u64 (wd hi 2 : Int), .int .u64 (wd hi 3 : Int)] 83
theorem by8_lohi_lo {lo hi k : Nat} (hk : k < 32) : by8 (lo + W4 * hi) k = by8 lo k := by
  rw [W4_256]; exact dgt_add_mul _ _ hk
theorem by8_lohi_hi {lo hi : Nat} (hl : lo < W4) (j : Nat) : by8 (lo + W4 * hi) (32 + j) = by8 hi j := by
  unfold by8 dgt
  rw [Nat.pow_add, ← Nat.div_div_eq_div_mul, ← W4_256, Nat.add_mul_div_left _ _ W4_pos, Nat.div_eq_of_lt hl, Nat.zero_add]
theorem can_lohi {lo hi n : Nat} (h0 : 0 < hi) (hc : Can n hi) : Can (32 + n) (lo + W4 * hi) := by
  intro k hk
  by_cases h : k < 32
  · have h1 : 256 ^ k ≤ W4 := by rw [W4_256]; exact Nat.pow_le_pow_right (by decide) (by omega)
    have h2 : W4 * 1 ≤ W4 * hi := Nat.mul_le_mul_left _ h0
    omega
  · obtain ⟨j, rfl⟩ : ∃ j, k = 32 + j := ⟨k - 32, by omega⟩
    have : hi < 256 ^ j := by
      refine Nat.lt_of_not_le fun hle => ?_
      rw [Nat.pow_add, ← W4_256] at hk
      have := Nat.mul_le_mul_left W4 hle
      omega
    have := hc j this
    omega
theorem lt_lohi {lo hi n : Nat} (hl : lo < W4) (hh : hi < 256 ^ n) : lo + W4 * hi < 256 ^ (32 + n) := by
  rw [Nat.pow_add, ← W4_256]
  have : W4 * (hi + 1) ≤ W4 * 256 ^ n := Nat.mul_le_mul_left _ hh
  rw [Nat.mul_add] at this
  omega
def lenOf : Value → Nat
  | .slice _ n _ => n
  | _ => 0
end Go.Proofs.YtmhfkabpfkoocaaDoor

namespace Go.Proofs.YtmhfkabpfkoocaaDoor
open Go Go.RowKit
theorem by8_W4 {k : Nat} (hk : k < 33) : by8 W4 k = if k < 32 then 0 else 1 := by
  rw [W4_256]
  by_cases h : k < 32
  · rw [if_pos h]
    have := dgt_add_mul (b := 256) 0 1 h
    rw [Nat.zero_add, Nat.mul_one] at this
    exact this.trans (by simp [dgt])
  · obtain rfl : k = 32 := by omega
    decide +kernel
theorem vk_dig (bs : List UInt8) (i : Nat) : ∀ n, i < n → by8 (vk bs n) i = nth bs i
  | 0, h => absurd h (by omega)
  | n + 1, h => by
    rw [vk, Nat.mul_comm]
    by_cases h1 : i < n
    · rw [show by8 (vk bs n + 256 ^ n * nth bs n) i = by8 (vk bs n) i from dgt_add_mul _ _ h1, vk_dig bs i n h1]
    · obtain rfl : i = n := by omega
      unfold by8 dgt
      rw [Nat.add_mul_div_left _ _ (Nat.pow_pos (by decide)), Nat.div_eq_of_lt (vk_lt bs i), Nat.zero_add, Nat.mod_eq_of_lt (nth_lt bs i)]
theorem read_all {A : Option Addr} {B c : Nat} {bs : List UInt8} (w : World) (h : Rd w B A c bs) (hB : B ≤ w.heap.size) (hn : bs.length ≤ 17592186044416) :
    Calls Tryd.prog 35 #[.slice A bs.length c] w fun e w' => ∃ A c n, e = .returned (.slice A n c) ∧ DOwn w' w.heap.size A c n (vb bs) ∧ Below w.heap.size w w' := by
  obtain ⟨i0, hi, hz0, hz1, hz2⟩ := info_parts infoInt
  go_enter Tryd.func35, Tryd.ntmps35
  go_wp2_with fail
  go_loopw [3, 4] (fun v i wr => ∃ k : Nat, k ≤ bs.length ∧ i = .int .i64 k ∧ (∃ A c, v = .slice A k c ∧ OwnF wr w.heap.size 3 A c k (dg8 (vb bs))) ∧ Below w.heap.size w wr)
    (fun _ i _ => bs.length - (intOf i).toNat)
  case atStart => exact ⟨0, by omega, rfl, ⟨none, 0, rfl, OwnF.nothing _ _ _ _⟩, Below.refl _ _⟩
  case round =>
    obtain ⟨k, hk, rfl, ⟨Av, cv, rfl, ow⟩, hb⟩ := hrel
    by_cases hlt : k < bs.length
    · have g1 : (k : Int) < (bs.length : Int) := by omega
      have ha := h.keep (hb.mono hB)
      obtain ⟨b1, o1, rfl, hb1, c1⟩ := ha.at_ hlt
      have e1 : IntKind.i64.wrap (nth bs k : Int) = (nth bs k : Int) := by have := nth_lt bs k; rw [IntKind.wrap_i64]; omega
      have HV : Hid (Value.int .i64 (nth bs k : Int) = dg8 (vb bs) k) := Lib.hid (by unfold dg8 vb; rw [vk_dig bs k _ hlt])
      go_wp2_with (at_builtin; refine wpList_appF1 _ rfl (.tmp 11) (.tmp 17) _ rfl w.heap.size 3 i0 _ Tryd.underlying53 hi hz0 hz1 hz2 (by decide) rfl rfl ow HV.out rfl rfl (by omega) (by omega) hb.size ?_; intro A' c' w' ho' hb')
      refine ⟨⟨k + 1, by omega, by go_num, ⟨A', c', rfl, ho'⟩, hb.trans hb'⟩, by simp [intOf]; omega⟩
    · have hk' : k = bs.length := by omega
      subst hk'
      go_wp2_with fail
      go_at_call 52
      refine (trim_any (x := vb bs) _ ⟨ow.rd, vk_lt bs _⟩ (by omega)).mono ?_
      rintro e w1 ⟨n', hn', rfl, hx', hc, rfl⟩
      go_wp2
      go_ret
      exact ⟨Av, cv, n', rfl, DOwn.trim ow (Nat.le_refl _) hn' hx' hc, hb⟩
theorem read_any {A : Option Addr} {B c : Nat} {bs : List UInt8} (w : World) (h : Rd w B A c bs) (hB : B ≤ w.heap.size) (hn : bs.length ≤ 1000) :
    Calls Tryd.prog 35 #[.slice A bs.length c] w fun e w' => ∃ A c n, e = .returned (.slice A n c) ∧ DOwn w' w.heap.size A c n (vb bs) ∧ Below w.heap.size w w' := read_all w h hB (Nat.le_trans hn (by decide))
theorem told_any {A : Option Addr} {B c n x : Nat} (w : World) (h : Dig w B A c n x) (hB : B ≤ w.heap.size) :
    Calls Tryd.prog 40 #[.slice A n c, .int .i64 32] w fun e w' => ∃ A c, e = .returned (.slice A 32 c) ∧ Own w' w.heap.size 5 A c (gen (bf x) 32) ∧ Below w.heap.size w w' := by
  obtain ⟨i0, hi, hz0, hz1, hz2⟩ := info_parts infoByte
  go_enter Tryd.func40, Tryd.ntmps40
  go_wp2_with fail
  go_loopw [5, 6] (fun v i wr => ∃ k : Nat, k ≤ 32 ∧ i = .int .i64 k ∧ (∃ A c, v = .slice A k c ∧ Own wr w.heap.size 5 A c (gen (bf x) k)) ∧ Below w.heap.size w wr)
    (fun _ i _ => 32 - (intOf i).toNat)
  case atStart => exact ⟨0, by omega, rfl, ⟨none, 0, rfl, World.ownsRow_nil _ _ _ _⟩, Below.refl _ _⟩
  case round =>
    obtain ⟨k, hk, rfl, ⟨Av, cv, rfl, ow⟩, hb⟩ := hrel
    by_cases hlt : k < 32
    · have g1 : (k : Int) < 32 := by omega
      have ha := h.keep (hb.mono hB)
      have e1 : IntKind.u8.wrap (by8 x k : Int) = ((bf x k).toNat : Int) := by have := by8_lt x k; rw [bf_nat, IntKind.wrap_u8]; omega
      have HA := Lib.hid ha
      clear ha
      go_wp2_with (first | (go_at_call 53; refine (at_any _ HA.out k).mono ?_; rintro e w' ⟨rfl, rfl⟩) | (at_builtin; refine wpList_app1 _ rfl (.tmp 12) (.tmp 17) _ rfl w.heap.size 5 i0 _ Tryd.underlying22 hi hz0 hz1 hz2 rfl rfl (gen_length _ _).symm ow rfl (bf x k) rfl (by omega) hb.size ?_; intro A' c' w' ho' hb'))
      refine ⟨⟨k + 1, by omega, by go_num, ⟨A', c', rfl, by rw [gen_succ]; exact ho'⟩, hb.trans hb'⟩, by simp [intOf]; omega⟩
    · have hk' : k = 32 := by omega
      subst hk'
      go_wp2_with fail
      go_ret
      exact ⟨Av, cv, rfl, ow, hb⟩
end Go.Proofs.YtmhfkabpfkoocaaDoor
