/-
  The ladder's Mult, Public, Shared (layer 5). By an AI agent.
-/
import Derived.Test.YtojggpiolgcjeaaK2
import Derived.Test.YtojggpiolgcjeaaK3
import Derived.Test.YtojggpiolgcjeaaK8
import Derived.Test.YtojggpiolgcjeaaD3
namespace Go.Proofs.Ytojggpiolgcjeaa
open Go Go.RowKit
/-! '==' over arrays of 32 bytes. -/
def bag (L : List UInt8) : Value := .agg (L.map bv).toArray
theorem part_u8 (xs : Array Value) (i : Nat) (v : Value) (h : xs[i]? = some v) (w : World) : (part 5 xs (i * Try.prog.cellsOf 5)).run Try.prog w = .ok v w := by
  have e : Try.prog.cellsOf 5 = 1 := by kernel_rfl
  rw [e, Nat.mul_one]
  simp [part, go_sem, h]
theorem items_u8 (xs ys : Array Value) (a b : Nat → Int) (w : World) : ∀ is : List Nat, (∀ i ∈ is, xs[i]? = some (.int .u8 (a i)) ∧ ys[i]? = some (.int .u8 (b i))) →
    (Op.eqItems 9999 5 (Try.prog.cellsOf 5) xs ys is).run Try.prog w = .ok (is.all fun i => a i == b i) w
  | [], _ => rfl
  | i :: is, h => by
    have h0 := h i (by simp)
    have ih := items_u8 xs ys a b w is (fun j hj => h j (by simp [hj]))
    simp only [Op.eqItems, Sem.run_bind, part_u8 _ _ _ h0.1, part_u8 _ _ _ h0.2, Result.andThen_ok, run_equalIn_int w 9998 5 .u8 .u8 (a i) (b i) Try.underlying5, List.all_cons]
    cases he : (a i == b i)
    · simp
    · simpa using ih
theorem bag_get {L : List UInt8} {i : Nat} (h : i < L.length) : (L.map bv).toArray[i]? = some (.int .u8 (nth L i : Int)) := by
  simp [nth, bv, List.getElem?_eq_getElem h]
theorem eqb (L L' : List UInt8) (h : L.length = 32) (h' : L'.length = 32) : ((List.range 32).all fun i => ((nth L i : Nat) : Int) == ((nth L' i : Nat) : Int)) = decide (L = L') := by
  by_cases e : L = L'
  · subst e; simp
  · rw [decide_eq_false e]
    cases hb : (List.range 32).all fun i => ((nth L i : Nat) : Int) == ((nth L' i : Nat) : Int)
    · rfl
    · refine absurd (nth_ext (by rw [h, h']) fun i hi => ?_) e
      have := List.all_eq_true.1 hb i (by simpa [h] using hi)
      have : ((nth L i : Nat) : Int) = ((nth L' i : Nat) : Int) := by simpa using this
      exact Int.ofNat.inj this
theorem eqB (L L' : List UInt8) (h : L.length = 32) (h' : L'.length = 32) (w : World) : (Op.equalIn 10000 51 (bag L) (bag L')).run Try.prog w = .ok (decide (L = L')) w := by
  obtain ⟨i0, hi, _⟩ := info_parts infoByte
  unfold bag
  rw [run_equalIn_array (P := Try.prog) (w := w) 9999 _ _ Try.underlying51 hi, items_u8 _ _ (fun i => (nth L i : Int)) (fun i => (nth L' i : Int)) w (List.range 32), eqb L L' h h']
  intro i hi
  have hi' : i < 32 := by simpa using hi
  exact ⟨bag_get (by omega), bag_get (by omega)⟩
theorem guardB (s1 s2 : Operand) (xs ys : Array Value) (w : World) : (eqGuard .eql 51 s1 s2 (.agg xs) (.agg ys)).run Try.prog w = .ok () w := by
  unfold eqGuard; simp [go_sem]
section
variable {ops : Array Oper} {rest : List Oper} {a : Act} {w : World} {Q : Exit → Act → World → Prop} {dst : Option Nat} {tp : TypeId} {ps : String} {af : Array Edge} {x y : Operand}
theorem b_load {L : List UInt8} {b o c : Nat} {B : Nat} (hl : L.length = 32) (hr : Rd w B (some ⟨b, o, none⟩) c L) (hx : a.eval x = .pointer (some ⟨b, o, none⟩)) (h : wpList Try.prog ops Q rest (a.put dst (bag L)) w) : wpList Try.prog ops Q (⟨dst, .load 51 x, tp, ps, af, none⟩ :: rest) a w :=
  wpList_load_mid rfl _ x rfl b o hx (L.map bv) _ (fun j v hv => by
    have h1 := hr.cells rfl j v hv
    by_cases e : j = 0
    · subst e; simpa [Addr.add] using h1
    · simpa [Addr.add, e] using h1) Try.underlying51 rfl (by rw [List.length_map, hl]; kernel_rfl) h
theorem b_zero (h : wpList Try.prog ops Q rest (a.put dst (bag zer)) w) : wpList Try.prog ops Q (⟨dst, .build 51 #[], tp, ps, af, none⟩ :: rest) a w :=
  read_to (bag zer) rfl (by unfold execOp bag zer; go_simp) h
theorem b_eql {L L' : List UInt8} (hl : L.length = 32) (hl' : L'.length = 32) {ty : TypeId} (h1 : a.eval x = bag L) (h2 : a.eval y = bag L') (h : wpList Try.prog ops Q rest (a.put dst (.bool (decide (L = L')))) w) : wpList Try.prog ops Q (⟨dst, .binOp .eql 51 x y ty, tp, ps, af, none⟩ :: rest) a w :=
  wpList_eqlA 51 ty x y rfl rfl h1 h2 (guardB _ _ _ _ _) (eqB L L' hl hl' w) h
end
theorem b_arr (b o c : Nat) (w : World) : (Instr.arrayAt 51 (.slice (some ⟨b, o, none⟩) 32 c)).run Try.prog w = .ok (.pointer (some ⟨b, o, none⟩)) w := by
  simp [Instr.arrayAt, run_underlying Try.underlying51]
theorem gen_zero {Y : Nat} (hY : Y < W4) : decide (gen (bf Y) 32 = zer) = decide (Y = 0) := by
  by_cases h : Y = 0
  · subst h
    rw [decide_eq_true rfl]
    decide +kernel
  · rw [decide_eq_false h]
    refine decide_eq_false fun e => h ?_
    have h2 := congrArg vb e
    rw [vb_of hY] at h2
    rw [h2]
    decide +kernel
attribute [local irreducible] wd by8 set4w set8p clam ladderN vk bag
set_option maxRecDepth 20000
theorem gmult_len1 {A A' : Option Addr} {n n' c c' : Nat} (hn : n' ≠ 32) (w : World) :
    Calls Try.prog 13 #[.slice A n c, .slice A' n' c'] w fun e w' => e = .returned (.tuple #[.slice none 0 0, .int .i64 1]) ∧ Below w.heap.size w w' := by
  have g1 : ((n' : Int) == 32) = false := by simp; omega
  have g2 : ((n' : Int) != 32) = true := by simp; omega
  clear hn
  go_enter Try.func13, Try.ntmps13
  go_wp2_with fail
  refine bodyPost_ret (v := .tuple #[.slice none 0 0, .int .i64 1]) (by simp [results, Try.results13, go_sem]) rfl ⟨rfl, Below.refl _ _⟩
theorem gmult_len2 {A A' : Option Addr} {n c c' : Nat} (hn : n ≠ 32) (w : World) :
    Calls Try.prog 13 #[.slice A n c, .slice A' 32 c'] w fun e w' => e = .returned (.tuple #[.slice none 0 0, .int .i64 1]) ∧ Below w.heap.size w w' := by
  have KC := Lib.hid (fun w => gclamp_len (A := A) (c := c) hn w)
  clear hn
  go_enter Try.func13, Try.ntmps13
  go_wp2_with fail
  go_at_call 10
  refine (KC.out _).mono ?_
  rintro e v1 ⟨rfl, hc⟩
  go_wp2_with fail
  refine bodyPost_ret (v := .tuple #[.slice none 0 0, .int .i64 1]) (by simp [results, Try.results13, go_sem]) rfl ⟨rfl, hc⟩
theorem H25_pow : H25 = 2 ^ 255 := by decide +kernel
set_option maxHeartbeats 800000 in
theorem gmult_any {A A' : Option Addr} {B c c' : Nat} {ks us : List UInt8} (h32 : ks.length = 32) (u32 : us.length = 32) (w : World) (hr : Rd w B A c ks) (hu : Rd w B A' c' us) (hB : B ≤ w.heap.size) :
    Calls Try.prog 13 #[.slice A 32 c, .slice A' 32 c'] w fun e w' => ∃ A c, e = .returned (.tuple #[.slice A 32 c, .int .i64 0]) ∧ Rd w' w'.heap.size A c (gen (bf (multN ks us)) 32) ∧ Below w.heap.size w w' := by
  have KC := Lib.hid (gclamp_any h32 w hr hB)
  have hy : vb us % H25 < W4 := Nat.lt_trans (Nat.mod_lt _ (by decide +kernel)) (by decide +kernel)
  have kn : ∀ w, Rd w B A' c' us → B ≤ w.heap.size → Calls Try.prog 22 #[.slice A' 32 c'] w fun e w' => e = .returned (nv (vb us % H25)) ∧ Below w.heap.size w w' := fun w hu hB => by
    have h := number_any u32 w hu hB
    rwa [u32] at h
  have kl : ∀ (A : Option Addr) (B c : Nat) (w : World), Rd w B A c (gen (bf (clam (vb ks))) 32) → B ≤ w.heap.size → Calls Try.prog 21 #[.slice A 32 c, nv (vb us % H25)] w fun e w' => e = .returned (nv (multN ks us)) ∧ Below w.heap.size w w' := fun A B c w hr hB => by
    have h := climb_any (K := clam (vb ks)) (fun a ha => low_null ha) hy w hr hB
    unfold multN
    rw [← H25_pow]
    exact h
  have hm := multN_lt ks us
  have ke : ∀ w, Calls Try.prog 20 #[nv (multN ks us)] w fun e w' => ∃ A c, e = .returned (.slice A 32 c) ∧ Own w' w.heap.size 5 A c (gen (bf (multN ks us)) 32) ∧ Below w.heap.size w w' := fun w => by
    have h := encode_any (Nat.lt_trans hm P25_W4) w
    rwa [Nat.mod_eq_of_lt hm] at h
  have KN := Lib.hid kn
  have KL := Lib.hid kl
  have KE := Lib.hid ke
  clear kn kl ke hm hy h32 hr u32
  generalize multN ks us = Y at *
  generalize vb us % H25 = y at *
  generalize clam (vb ks) = K at *
  go_enter Try.func13, Try.ntmps13
  go_wp2_with fail
  go_at_call 10
  refine KC.out.mono ?_
  rintro e v1 ⟨A1, c1, rfl, ho, hc⟩
  clear KC
  replace hu := hu.keep (hc.mono hB)
  go_wp2_with fail
  go_at_call 22
  refine (KN.out _ hu (Nat.le_trans hB hc.size)).mono ?_
  rintro e v2 ⟨rfl, h0⟩
  replace ho := ho.keep h0
  replace hc := hc.trans (h0.mono hc.size)
  clear h0 hu KN
  go_wp2_with fail
  go_at_call 21
  refine (KL.out _ _ _ _ ho.rd (Nat.le_refl _)).mono ?_
  rintro e v3 ⟨rfl, h0⟩
  replace hc := hc.trans (h0.mono hc.size)
  clear h0 ho KL
  go_wp2_with fail
  go_at_call 20
  refine (KE.out _).mono ?_
  rintro e v4 ⟨A4, c4, rfl, ho, h0⟩
  go_wp2_with fail
  refine bodyPost_ret (v := .tuple #[.slice A4 32 c4, .int .i64 0]) (by simp [results, Try.results13, go_sem]) rfl ⟨_, _, rfl, ho.rd, hc.trans (h0.mono hc.size)⟩
theorem gmultA (ks us : List UInt8) (A A' : Option Addr) (c c' : Nat) (w : World) (h : Rd w w.heap.size A c ks) (h' : Rd w w.heap.size A' c' us) :
    Calls Try.prog 13 #[.slice A ks.length c, .slice A' us.length c'] w fun e w' => Ans (multL ks us) (multZ ks us) e w' ∧ Below w.heap.size w w' := by
  unfold multL multZ
  by_cases hu : us.length = 32
  · by_cases hk : ks.length = 32
    · rw [if_pos ⟨hk, hu⟩, if_pos ⟨hk, hu⟩, hk, hu]
      exact (gmult_any hk hu w h h' (Nat.le_refl _)).mono fun e w' ⟨A, c, he, ho, hb⟩ => ⟨⟨A, c, by rw [gen_length]; exact he, ho⟩, hb⟩
    · rw [if_neg (fun h => hk h.1), if_neg (fun h => hk h.1), hu]
      exact (gmult_len2 hk w).mono fun e w' ⟨he, hb⟩ => ⟨⟨none, 0, he, rd_none _ _⟩, hb⟩
  · rw [if_neg (fun h => hu h.2), if_neg (fun h => hu h.2)]
    exact (gmult_len1 hu w).mono fun e w' ⟨he, hb⟩ => ⟨⟨none, 0, he, rd_none _ _⟩, hb⟩
theorem nine_enc (w : World) : Calls Try.prog 20 #[lit4 9 0 0 0] w fun e w' => ∃ A c, e = .returned (.slice A 32 c) ∧ Own w' w.heap.size 5 A c nineL ∧ Below w.heap.size w w' := by
  have h := encode_any (a := 9) (by decide +kernel) w
  rw [nv_small (x := 9) (by decide), show 9 % P25 = 9 by decide +kernel] at h
  exact h
theorem gpublicA (ks : List UInt8) (A : Option Addr) (c : Nat) (w : World) (h : Rd w w.heap.size A c ks) :
    Calls Try.prog 15 #[.slice A ks.length c] w fun e w' => Ans (multL ks nineL) (multZ ks nineL) e w' ∧ Below w.heap.size w w' := by
  have KE := Lib.hid nine_enc
  have KM := Lib.hid (fun A A' c c' w h h' => gmultA ks nineL A A' c c' w h h')
  rw [nine_len] at KM
  generalize multL ks nineL = L at *
  generalize multZ ks nineL = z at *
  generalize nineL = N9 at *
  go_enter Try.func15, Try.ntmps15
  go_wp2_with fail
  go_at_call 20
  refine (KE.out _).mono ?_
  rintro e v1 ⟨A1, c1, rfl, ho, hc⟩
  go_wp2_with fail
  go_at_call 13
  refine (KM.out _ _ _ _ _ ((h.keep hc).mono hc.size) ho.rd).mono ?_
  rintro e v2 ⟨⟨A2, c2, rfl, hr⟩, h0⟩
  go_wp2_with fail
  refine bodyPost_ret (v := .tuple #[.slice A2 L.length c2, .int .i64 z]) (by simp [results, Try.results15, go_sem]) rfl ⟨⟨_, _, rfl, hr⟩, hc.trans (h0.mono hc.size)⟩
set_option maxHeartbeats 800000 in
theorem gshared_bad {ks us : List UInt8} (hb : ¬ (ks.length = 32 ∧ us.length = 32)) (A A' : Option Addr) (c c' : Nat) (w : World) (h : Rd w w.heap.size A c ks) (h' : Rd w w.heap.size A' c' us) :
    Calls Try.prog 17 #[.slice A ks.length c, .slice A' us.length c'] w fun e w' => e = .returned (.tuple #[.slice none 0 0, .int .i64 1]) ∧ Below w.heap.size w w' := by
  have km := gmultA ks us A A' c c' w h h'
  rw [show multZ ks us = 1 from if_neg hb] at km
  have KM := Lib.hid km
  clear km hb
  generalize multL ks us = L at *
  go_enter Try.func17, Try.ntmps17
  go_wp2_with fail
  go_at_call 13
  refine KM.out.mono ?_
  rintro e v2 ⟨⟨A2, c2, rfl, hr⟩, h0⟩
  go_wp2_with fail
  refine bodyPost_ret (v := .tuple #[.slice none 0 0, .int .i64 1]) (by simp [results, Try.results17, go_sem]) rfl ⟨rfl, h0⟩
set_option maxHeartbeats 800000 in
theorem gshared_good {ks us : List UInt8} (hk : ks.length = 32) (hu : us.length = 32) (A A' : Option Addr) (c c' : Nat) (w : World) (h : Rd w w.heap.size A c ks) (h' : Rd w w.heap.size A' c' us) :
    Calls Try.prog 17 #[.slice A 32 c, .slice A' 32 c'] w fun e w' => Ans (if multN ks us = 0 then [] else gen (bf (multN ks us)) 32) (if multN ks us = 0 then 8 else 0) e w' ∧ Below w.heap.size w w' := by
  have KM := Lib.hid (gmult_any hk hu w h h' (Nat.le_refl _))
  have hgz := gen_zero (Nat.lt_trans (multN_lt ks us) P25_W4)
  have hgl : (gen (bf (multN ks us)) 32).length = 32 := gen_length _ _
  generalize multN ks us = Y at *
  generalize gen (bf Y) 32 = L at *
  clear hk hu h h'
  by_cases hY : Y = 0
  · have hd : decide (L = zer) = true := by rw [hgz, decide_eq_true hY]
    rw [if_pos hY, if_pos hY]
    clear hY hgz
    go_enter Try.func17, Try.ntmps17
    go_wp2_with fail
    go_at_call 13
    refine KM.out.mono ?_
    rintro e v2 ⟨A2, c2, rfl, hr, h0⟩
    clear KM
    obtain ⟨b, o, rfl, _, _⟩ := hr.at_ (k := 0) (by omega)
    have hba := b_arr b o c2
    go_wp2_with (first | ((with_reducible refine b_load hgl hr ?_ ?_); rfl) | (with_reducible refine b_zero ?_) | ((with_reducible refine b_eql hgl zer_len ?_ ?_ ?_); rfl; rfl; rw [hd]))
    refine bodyPost_ret (v := .tuple #[.slice none 0 0, .int .i64 8]) (by simp [results, Try.results17, go_sem]) rfl ⟨⟨_, _, rfl, rd_none _ _⟩, h0⟩
  · have hd : decide (L = zer) = false := by rw [hgz, decide_eq_false hY]
    rw [if_neg hY, if_neg hY]
    clear hY hgz
    go_enter Try.func17, Try.ntmps17
    go_wp2_with fail
    go_at_call 13
    refine KM.out.mono ?_
    rintro e v2 ⟨A2, c2, rfl, hr, h0⟩
    clear KM
    obtain ⟨b, o, rfl, _, _⟩ := hr.at_ (k := 0) (by omega)
    have hba := b_arr b o c2
    go_wp2_with (first | ((with_reducible refine b_load hgl hr ?_ ?_); rfl) | (with_reducible refine b_zero ?_) | ((with_reducible refine b_eql hgl zer_len ?_ ?_ ?_); rfl; rfl; rw [hd]))
    refine bodyPost_ret (v := .tuple #[.slice (some ⟨b, o, none⟩) 32 c2, .int .i64 0]) (by simp [results, Try.results17, go_sem]) rfl ⟨⟨_, _, by rw [hgl], hr⟩, h0⟩
theorem gsharedA (ks us : List UInt8) (A A' : Option Addr) (c c' : Nat) (w : World) (h : Rd w w.heap.size A c ks) (h' : Rd w w.heap.size A' c' us) :
    Calls Try.prog 17 #[.slice A ks.length c, .slice A' us.length c'] w fun e w' => Ans (sharedL ks us) (sharedZ ks us) e w' ∧ Below w.heap.size w w' := by
  unfold sharedL sharedZ
  by_cases hl : ks.length = 32 ∧ us.length = 32
  · rw [if_pos hl, hl.1, hl.2]
    have h9 := gshared_good hl.1 hl.2 A A' c c' w h h'
    by_cases h0 : multN ks us = 0
    · rw [if_pos h0, if_pos h0] at h9
      rw [if_pos h0, if_neg (fun h => h.2.2 h0)]
      exact h9
    · rw [if_neg h0, if_neg h0] at h9
      rw [if_neg h0, if_pos ⟨rfl, rfl, h0⟩]
      exact h9
  · rw [if_neg hl, if_neg (fun h => hl ⟨h.1, h.2.1⟩)]
    exact (gshared_bad hl A A' c c' w h h').mono fun e w' ⟨he, hb⟩ => ⟨⟨none, 0, he, rd_none _ _⟩, hb⟩
theorem gclampA {bs : List UInt8} (A : Option Addr) (c : Nat) (w : World) (h : Rd w w.heap.size A c bs) :
    Calls Try.prog 10 #[.slice A bs.length c] w fun e w' => Ans (clampL bs) (clampZ bs) e w' ∧ Below w.heap.size w w' := by
  unfold clampL clampZ
  by_cases hl : bs.length = 32
  · rw [if_pos hl, if_pos hl, hl]
    exact (gclamp_any hl w h (Nat.le_refl _)).mono fun e w' ⟨A', c', he, ho, hb⟩ => ⟨⟨A', c', by rw [gen_length]; exact he, ho.rd⟩, hb⟩
  · rw [if_neg hl, if_neg hl]
    exact (gclamp_len hl w).mono fun e w' ⟨he, hb⟩ => ⟨⟨none, 0, he, rd_none _ _⟩, hb⟩
end Go.Proofs.Ytojggpiolgcjeaa
