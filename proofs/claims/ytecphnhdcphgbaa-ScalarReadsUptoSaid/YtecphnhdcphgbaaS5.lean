import Derived.Test.YtecphnhdcphgbaaS4
import Derived.Test.YtecphnhdcphgbaaEqO
namespace Go.Proofs.Ytecphnhdcphgbaa
open Go Go.RowKit
theorem eq4S (x y : Nat) (hx : x < W4) (hy : y < W4) (w : World) : (Op.equalIn 10000 25 (nv x) (nv y)).run Try.prog w = .ok (decide (x = y)) w := by
  obtain ⟨i0, hi⟩ : ∃ i, Try.prog.info? 23 = some i := by
    have := infoU64
    cases h : Try.prog.info? 23 with
    | none => rw [h] at this; simp at this
    | some i => exact ⟨i, rfl⟩
  rw [run_equalIn_array (P := Try.prog) (w := w) 9999 _ _ Try.underlying25 hi, items_u64 _ _ (fun i => (wd x i : Int)) (fun i => (wd y i : Int)) w (List.range 4), eqw x y 4 hx hy]
  intro i hi
  have : i = 0 ∨ i = 1 ∨ i = 2 ∨ i = 3 := by have hi' : i < 4 := (by simpa using hi); omega
  rcases this with rfl | rfl | rfl | rfl <;> exact ⟨rfl, rfl⟩
theorem guardS (s1 s2 : Operand) (xs ys : Array Value) (w : World) : (eqGuard .eql 25 s1 s2 (.agg xs) (.agg ys)).run Try.prog w = .ok () w := by
  unfold eqGuard; simp [go_sem]
theorem guardSn (s1 s2 : Operand) (xs ys : Array Value) (w : World) : (eqGuard .neq 25 s1 s2 (.agg xs) (.agg ys)).run Try.prog w = .ok () w := by
  unfold eqGuard; simp [go_sem]
section
variable {a : Act} {o : Oper}
theorem run_eqS {s1 s2 : Operand} {ty : TypeId} {x y : Nat} {r : Bool} (ho : o.op = .binOp .eql 25 s1 s2 ty) (h1 : a.eval s1 = nv x) (h2 : a.eval s2 = nv y) (hx : x < W4) (hy : y < W4) (hr : decide (x = y) = r) (w : World) :
    (execOp a.eval o).run Try.prog w = .ok (.value (.bool r)) w := by
  subst hr
  unfold execOp
  simp only [ho, h1, h2, Sem.run_bind, guardS, Result.andThen_ok, run_eql_struct, eq4S x y hx hy, Sem.run_pure]
theorem run_neS {s1 s2 : Operand} {ty : TypeId} {x y : Nat} {r : Bool} (ho : o.op = .binOp .neq 25 s1 s2 ty) (h1 : a.eval s1 = nv x) (h2 : a.eval s2 = nv y) (hx : x < W4) (hy : y < W4) (hr : (!decide (x = y)) = r) (w : World) :
    (execOp a.eval o).run Try.prog w = .ok (.value (.bool r)) w := by
  subst hr
  unfold execOp
  simp only [ho, h1, h2, Sem.run_bind, guardSn, Result.andThen_ok, run_neq_struct, eq4S x y hx hy, Sem.run_pure]
end
theorem vb_gen {x : Nat} (hx : x < W4) : vb (gen (bf x) 32) = x := by
  have hl : (gen (bf x) 32).length = 32 := gen_length _ _
  unfold vb
  rw [hl]
  refine dgt_ext (b := 256) (n := 32) (vk_lt _ _) (by rw [← W4_256]; exact hx) fun i hi => ?_
  rw [show dgt 256 (vk (gen (bf x) 32) 32) i = nth (gen (bf x) 32) i from vk_dig _ i 32 hi, nth_gen hi, bf_nat]
  rfl
theorem gen_vb {bs : List UInt8} (hl : bs.length = 32) : gen (bf (vb bs)) 32 = bs := by
  refine nth_ext (by rw [gen_length, hl]) fun k hk => ?_
  rw [gen_length] at hk
  rw [nth_gen hk, bf_nat]
  have h := vk_dig bs k 32 hk
  unfold vb
  rw [hl]
  exact h
theorem str32 (w : World) {B c : Nat} {A : Option Addr} {bs : List UInt8} (hl : bs.length = 32) (hr : Rd w B A c bs) : (convert 22 9 (.slice A 32 c)).run Try.prog w = .ok (.string ⟨bs.toArray⟩) w := by
  have h := run_str (P := Try.prog) w 22 5 Try.underlying22 Try.underlying5 (dst := 9) Try.underlying9 hr
  rw [hl] at h
  exact h
theorem tdec_gen {x : Nat} (hx : x < W4) (w : World) {B c : Nat} {A : Option Addr} (hr : Rd w B A c (gen (bf x) 32)) (hB : B ≤ w.heap.size) :
    Calls Try.prog 12 #[.slice A 32 c] w fun e w' => e = .returned (.tuple #[nv (if x < LL then x else 0), .int .i64 (if x < LL then 0 else 6)]) ∧ Below w.heap.size w w' := by
  have h := tdecode_any w hr hB (gen_length _ _)
  rw [gen_length, vb_gen hx] at h
  exact h
theorem fw24 : foldM (fun k => k + 2) 3 = 24 := by decide +kernel
theorem wd_few {x : Nat} (h : x < 18446744073709551616) : wd x 0 = x ∧ wd x 1 = 0 ∧ wd x 2 = 0 ∧ wd x 3 = 0 := by
  have h0 : wd x 0 = x := by unfold wd dgt; rw [Nat.pow_zero, Nat.div_one, Nat.mod_eq_of_lt h]
  have hk : ∀ k, 1 ≤ k → wd x k = 0 := fun k hk => dgt_zero_of_lt (Nat.lt_of_lt_of_le h (by have := Nat.pow_le_pow_right (n := 18446744073709551616) (by decide) hk; rwa [Nat.pow_one] at this))
  exact ⟨h0, hk 1 (by decide), hk 2 (by decide), hk 3 (by decide)⟩
def lit12 (k : Nat) : Value := .int .u64 (wd (k / 4 + 2) (k % 4) : Int)
theorem rd_three {w : World} : RdS (w.alloc (.cells #[.int .u64 2, .int .u64 0, .int .u64 0, .int .u64 0, .int .u64 3, .int .u64 0, .int .u64 0, .int .u64 0, .int .u64 4, .int .u64 0, .int .u64 0, .int .u64 0] 25)) (w.heap.size + 1) (some ⟨w.heap.size, 0, none⟩) 3 (fun k => k + 2) := by
  have o := OwnF.lit (w := w) (B := w.heap.size) 25 (Nat.le_refl _) #[.int .u64 2, .int .u64 0, .int .u64 0, .int .u64 0, .int .u64 3, .int .u64 0, .int .u64 0, .int .u64 0, .int .u64 4, .int .u64 0, .int .u64 0, .int .u64 0] 12 lit12 (by decide) (by kernel_rfl)
  refine ⟨fun h => (nomatch h), fun _ => ⟨w.heap.size, 0, rfl, by omega, fun k hk j hj => ?_⟩⟩
  rw [Nat.zero_add, OwnF.cell o (by omega)]
  unfold lit12
  rw [show (k * 4 + j) / 4 = k by omega, show (k * 4 + j) % 4 = j by omega]
attribute [local irreducible] wd by8
set_option maxRecDepth 20000
theorem rest_any {a : Nat} (ha : a < W4) (w : World) :
    Calls Try.prog 27 #[nv a] w fun e w' => ∃ A c n, e = .returned (.slice A n c) ∧ DOwn w' w.heap.size A c n (a % LL) ∧ Below w.heap.size w w' := by
  have hc := (Below.refl w.heap.size w).alloc (Nat.le_refl _) (AE 25 a)
  have HX : a < 256 ^ 32 := by rw [← W4_256]; exact ha
  have KD := Lib.hid (fun w => digits_any ha w)
  clear ha
  unfold nv
  go_enter Try.func27, Try.ntmps27
  go_wp2_with fail
  go_at_call 17
  refine (KD.out _).mono ?_
  rintro e v1 ⟨A1, c1, n1, rfl, d1, h0⟩
  replace hc := hc.trans (h0.mono hc.size)
  have KL := Lib.hid (rleft_any v1 d1.dig (Nat.le_refl _) (Nat.le_trans (d1.few HX) (by decide)))
  clear d1 h0
  go_wp2_with fail
  go_at_call 16
  refine KL.out.mono ?_
  rintro e v2 ⟨A2, c2, n2, rfl, d2, h1⟩
  clear KL
  go_wp2_with fail
  go_ret
  exact ⟨A2, c2, n2, rfl, d2.mono hc.size, hc.trans (h1.mono hc.size)⟩
set_option maxHeartbeats 400000 in
theorem is_any {A : Option Addr} {B c n a x : Nat} (ha : a < W4) (hx : x < W4) (w : World) (h : Dig w B A c n x) (hB : B ≤ w.heap.size) :
    Calls Try.prog 14 #[nv a, .slice A n c] w fun e w' => e = .returned (.bool (decide (a = x))) ∧ Below w.heap.size w w' := by
  obtain ⟨q, hq⟩ : ∃ q, decide (a = x) = q := ⟨_, rfl⟩
  have oa := T4.new (w := w) (B := w.heap.size) (Nat.le_refl _) 25 a
  have hc := (Below.refl w.heap.size w).alloc (Nat.le_refl _) (AE 25 a)
  have hd := h.keep (hc.mono hB)
  obtain ⟨v2, e2⟩ : ∃ v, v = w.alloc (AE 25 a) := ⟨_, rfl⟩
  rw [← e2] at oa hc hd
  have hs := hc.size
  have HS := Lib.hid (tkeep4 oa)
  have KO := Lib.hid (fun wz (hz : Below v2.heap.size v2 wz) => of_any wz (hd.keep (hz.mono (Nat.le_trans hB hs))) (Nat.le_trans hB (Nat.le_trans hs hz.size)))
  rw [hq]
  clear h oa hd
  unfold nv
  go_enter Try.func14, Try.ntmps14
  go_upto_region 1 with fail
  rw [← e2]
  clear e2
  refine wp_region_seq 4 (fun wz => Below v2.heap.size v2 wz) (by kernel_rfl) (by kernel_rfl) (Below.refl _ v2).drew ?_
  simp only [List.take_succ_cons, List.take_zero, List.drop_succ_cons, List.drop_zero]
  refine Seq.run (nv a) rfl (fun wz hz => by obtain ⟨a0, a1, a2, a3⟩ := HS.out wz hz; go_simp) ?_
  go_simp
  refine Seq.run (.slice A n c) rfl (fun wz hz => by go_simp) ?_
  go_simp
  refine Seq.call (nv x) 20 #[.slice A n c] rfl (fun wz hz => by go_simp) (fun wz hz => (KO.out wz hz).mono fun e w' ⟨he, h1⟩ => ⟨he, hz.trans (h1.mono hz.size)⟩) ?_
  go_simp
  refine Seq.run (.bool q) rfl (fun wz hz => run_eq4 rfl rfl rfl ha hx hq wz) ?_
  go_simp
  refine Seq.nil fun wz hd => ?_
  go_wp2_with fail
  go_ret
  exact ⟨rfl, hc.trans (hd.mono hs)⟩
theorem rof_bad {A : Option Addr} {n c : Nat} (hn : 64 < n) (w : World) :
    Calls Try.prog 11 #[.slice A n c] w fun e w' => e = .returned (.tuple #[.slice none 0 0, .int .i64 2]) ∧ Below w.heap.size w w' := by
  have g1 : (64 : Int) < (n : Int) := by omega
  go_enter Try.func11, Try.ntmps11
  go_wp2_with fail
  refine bodyPost_ret (v := .tuple #[.slice none 0 0, .int .i64 2]) (by simp [results, Try.results11, go_sem]) rfl ⟨rfl, Below.refl _ _⟩

theorem rof_good {B c : Nat} {A : Option Addr} {bs : List UInt8} (w : World) (hr : Rd w B A c bs) (hB : B ≤ w.heap.size) (hl : bs.length ≤ 64) :
    Calls Try.prog 11 #[.slice A bs.length c] w fun e w' => ∃ A c n, e = .returned (.tuple #[.slice A n c, .int .i64 0]) ∧ DOwn w' w.heap.size A c n (vb bs % LL) ∧ Below w.heap.size w w' := by
  have g1 : ¬ (64 : Int) < (bs.length : Int) := by omega
  have HX : vb bs < 256 ^ 64 := by have := vb_W8 hl; rwa [W8_256] at this
  have KR := Lib.hid (read_any w hr hB (by omega))
  clear hr
  go_enter Try.func11, Try.ntmps11
  go_wp2_with fail
  go_at_call 35
  refine KR.out.mono ?_
  rintro e v1 ⟨A1, c1, n1, rfl, d1, h0⟩
  have KL := Lib.hid (rleft_any v1 d1.dig (Nat.le_refl _) (Nat.le_trans (d1.few HX) (by decide)))
  clear d1 KR
  go_wp2_with fail
  go_at_call 16
  refine KL.out.mono ?_
  rintro e v2 ⟨A2, c2, n2, rfl, d2, h1⟩
  clear KL
  go_wp2_with fail
  refine bodyPost_ret (v := .tuple #[.slice A2 n2 c2, .int .i64 0]) (by simp [results, Try.results11, go_sem]) rfl ⟨A2, c2, n2, rfl, d2.mono h0.size, h0.trans (h1.mono h0.size)⟩

theorem rdec_len {B c : Nat} {A : Option Addr} {bs : List UInt8} (w : World) (hr : Rd w B A c bs) (hB : B ≤ w.heap.size) (hl : bs.length ≤ 17592186044416) (hn : bs.length ≠ 32) :
    Calls Try.prog 13 #[.slice A bs.length c] w fun e w' => e = .returned (.tuple #[.slice none 0 0, .int .i64 1]) ∧ Below w.heap.size w w' := by
  have g1 : ((bs.length : Int) == 32) = false := by simp; omega
  have g2 : ((bs.length : Int) != 32) = true := by simp; omega
  have KR := Lib.hid (read_all w hr hB hl)
  clear hr hn
  go_enter Try.func13, Try.ntmps13
  go_wp2_with fail
  go_at_call 35
  refine KR.out.mono ?_
  rintro e v1 ⟨A1, c1, n1, rfl, d1, h0⟩
  clear KR d1
  go_wp2_with fail
  refine bodyPost_ret (v := .tuple #[.slice none 0 0, .int .i64 1]) (by simp [results, Try.results13, go_sem]) rfl ⟨rfl, h0⟩

theorem rdec_any {B c : Nat} {A : Option Addr} {bs : List UInt8} (w : World) (hr : Rd w B A c bs) (hB : B ≤ w.heap.size) (hl : bs.length = 32) :
    Calls Try.prog 13 #[.slice A bs.length c] w fun e w' => ∃ A c n, e = .returned (.tuple #[.slice A n c, .int .i64 (if vb bs < LL then 0 else 6)]) ∧ DOwn w' w.heap.size A c n (if vb bs < LL then vb bs else 0) ∧ Below w.heap.size w w' := by
  have hv : vb bs < 256 ^ 32 := by rw [← W4_256]; exact vb_lt hl
  have KR := read_any w hr hB (by omega)
  rw [hl] at KR ⊢
  clear hr
  generalize vb bs = x at *
  have KR := Lib.hid KR
  have KO := Lib.hid rorder_any
  by_cases hx : x < LL
  · rw [if_pos hx, if_pos hx]
    have hq : decide (x < LL) = true := decide_eq_true hx
    go_enter Try.func13, Try.ntmps13
    go_wp2_with fail
    go_at_call 35
    refine KR.out.mono ?_
    rintro e v1 ⟨A1, c1, n1, rfl, d1, h0⟩
    clear KR
    go_wp2_with fail
    go_at_call 24
    refine (KO.out _).mono ?_
    rintro e v2 ⟨A2, c2, rfl, d2, h1⟩
    have KL := less_any v2 (d1.dig.next h1) d2.dig (Nat.le_trans (d1.few hv) (by decide)) (by decide)
    replace d1 := d1.keep h1
    replace h0 := h0.trans (h1.mono h0.size)
    rw [hq] at KL
    replace KL := Lib.hid KL
    clear d2
    go_wp2_with fail
    go_at_call 38
    refine KL.out.mono ?_
    rintro e v3 ⟨rfl, rfl⟩
    clear KL
    go_wp2_with fail
    refine bodyPost_ret (v := .tuple #[.slice A1 n1 c1, .int .i64 0]) (by simp [results, Try.results13, go_sem]) rfl ⟨A1, c1, n1, rfl, d1, h0⟩
  · rw [if_neg hx, if_neg hx]
    have hq : decide (x < LL) = false := decide_eq_false hx
    go_enter Try.func13, Try.ntmps13
    go_wp2_with fail
    go_at_call 35
    refine KR.out.mono ?_
    rintro e v1 ⟨A1, c1, n1, rfl, d1, h0⟩
    clear KR
    go_wp2_with fail
    go_at_call 24
    refine (KO.out _).mono ?_
    rintro e v2 ⟨A2, c2, rfl, d2, h1⟩
    have KL := less_any v2 (d1.dig.next h1) d2.dig (Nat.le_trans (d1.few hv) (by decide)) (by decide)
    replace h0 := h0.trans (h1.mono h0.size)
    rw [hq] at KL
    replace KL := Lib.hid KL
    clear d2 d1
    go_wp2_with fail
    go_at_call 38
    refine KL.out.mono ?_
    rintro e v3 ⟨rfl, rfl⟩
    clear KL
    go_wp2_with fail
    refine bodyPost_ret (v := .tuple #[.slice none 0 0, .int .i64 6]) (by simp [results, Try.results13, go_sem]) rfl ⟨none, 0, 0, rfl, DOwn.nothing _ _, h0⟩
end Go.Proofs.Ytecphnhdcphgbaa
