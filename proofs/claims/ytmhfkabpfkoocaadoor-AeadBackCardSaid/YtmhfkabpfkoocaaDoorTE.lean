/-
  The document's Seal (layer 12). By an AI agent. The document's Open (layer 12). By an AI agent. Layer 12: what Seal and Open answer, in lists; the document's. By an AI agent.
-/
import Derived.Test.YtmhfkabpfkoocaaDoorAe1
import Derived.Test.YtmhfkabpfkoocaaDoorXr
import Derived.Test.YtmhfkabpfkoocaaDoorPo3
import Derived.Test.YtmhfkabpfkoocaaDoorCv
namespace Go.Proofs.YtmhfkabpfkoocaaDoor
open Go Go.RowKit
set_option maxRecDepth 20000
/-- append of bytes, by whatever name their numbers go. -/
theorem wpList_appN {P : Program} (w : World) {ops : Array Oper} {rest : List Oper} {o : Oper} {a : Act} {Q : Exit → Act → World → Prop} (hgd : o.guard = none) (s x : Operand) (t : TypeId)
    (ho : o.op = .call { callee := .builtin .append, args := #[s, x], argTypes := #[t, t] })
    (base : Nat) (e : TypeId) (i : TypeInfo) (z : Value) (ht : P.underlying t = some (.slice e)) (hi : P.info? e = some i) (hz : i.zero = some z)
    (hsize : i.size = 1) (hby : i.bytes = 1) (hzs : z.cells.size = 1) {As : Option Addr} {cs n m l : Nat} {xs : List UInt8} (hs : a.eval s = .slice As n cs) (hn : xs.length = n) (hown : Own w base e As cs xs)
    {B c : Nat} {A : Option Addr} {bs : List UInt8} (hx : a.eval x = .slice A m c) (hm : bs.length = m) (hr : Rd w B A c bs) (hl : n + m = l) (hbytes : l ≤ 140737488355328) (hbase : base ≤ w.heap.size)
    (h : ∀ A' c' w', Own w' base e A' c' (xs ++ bs) → Below base w w' → wpList P ops Q rest (a.put o.dst (.slice A' l c')) w') : wpList P ops Q (o :: rest) a w := by
  subst hn hm hl
  refine wpList_app w hgd s x t ho base e i z ht hi hz hsize hby hzs hs hown hx hr hbytes hbase fun A' c' w' h1 h2 => ?_
  rw [List.length_append]
  exact h A' c' w' h1 h2
/-- What the tag is of; the tag; the box. -/
def macL (other c : List UInt8) : List UInt8 := fillL other ++ fillL c ++ gen (bf other.length) 8 ++ gen (bf c.length) 8
def sTag (key nonce other c : List UInt8) : List UInt8 := tagN ((blkB key nonce 0).take 32) (macL other c)
def boxL (key nonce other text : List UInt8) : List UInt8 := xrN key nonce 1 text ++ sTag key nonce other (xrN key nonce 1 text)
theorem sTag_len (key nonce other c : List UInt8) : (sTag key nonce other c).length = 16 := tagN_len _ _
theorem boxL_len (key nonce other text : List UInt8) : (boxL key nonce other text).length = text.length + 16 := by unfold boxL; rw [List.length_append, xrN_len, sTag_len]
theorem macL_len (other c : List UInt8) : (macL other c).length = other.length + pad16 other.length + (c.length + pad16 c.length) + 8 + 8 := by
  unfold macL
  rw [List.length_append, List.length_append, List.length_append, fillL_len, fillL_len, gen_length, gen_length]
theorem nblk_small {n : Nat} (h : n ≤ 100000) : nblk n ≤ 4294967296 - 1 := by unfold nblk; split <;> omega
theorem filled_len {A : Option Addr} {B c n : Nat} {bs : List UInt8} (hn : bs.length = n) (w : World) (hr : Rd w B A c bs) (hB : B ≤ w.heap.size) (hl : n ≤ 1000000) :
    Calls Tryd.prog 20 #[.slice A n c] w fun e w' => ∃ A' c', e = .returned (.slice A' (n + pad16 n) c') ∧ Own w' w.heap.size 5 A' c' (fillL bs) ∧ Below w.heap.size w w' := by
  subst hn
  exact filled_any w hr hB hl
theorem rtag_len {key bs : List UInt8} {n : Nat} (hn : bs.length = n) (hk : key.length = 32) (hl : n ≤ 1000000) {A0 A1 : Option Addr} {B k0 c1 : Nat} (w : World) (r0 : Rd w B A0 k0 key) (r1 : Rd w B A1 c1 bs) (hB : B ≤ w.heap.size) :
    Calls Tryd.prog 23 #[.slice A0 32 k0, .slice A1 n c1] w fun e w' => ∃ A c, e = .returned (.tuple #[.slice A 16 c, .int .i64 0]) ∧ Own w' w.heap.size 5 A c (tagN key bs) ∧ Below w.heap.size w w' := by
  subst hn
  exact rtag_any hk hl w r0 r1 hB
theorem rseal_bad {kl nl k0 k1 n m c2 c3 : Nat} (h : kl ≠ 32 ∨ nl ≠ 12) {A0 A1 A2 A3 : Option Addr} (w : World) :
    Calls Tryd.prog 10 #[.slice A0 kl k0, .slice A1 nl k1, .slice A2 n c2, .slice A3 m c3] w fun e w' => e = .returned (.tuple #[.slice none 0 0, .int .i64 1]) ∧ Below w.heap.size w w' := by
  have hcond : ((kl : Int) != 32) = true ∨ (((kl : Int) != 32) = false ∧ ((nl : Int) != 12) = true) := by
    by_cases h1 : kl = 32
    · right; constructor <;> simp <;> omega
    · left; simp; omega
  clear h
  rcases hcond with g1 | ⟨g1, g2⟩
  · go_enter Tryd.func10, Tryd.ntmps10
    go_wp2_with fail
    go_returns
    exact ⟨rfl, Below.refl _ _⟩
  · go_enter Tryd.func10, Tryd.ntmps10
    go_wp2_with fail
    go_returns
    exact ⟨rfl, Below.refl _ _⟩
section
attribute [local irreducible] xrN fillL tagN blkB pad16 gen
set_option maxHeartbeats 6400000 in
theorem rseal_any {key nonce other text : List UInt8} (hk : key.length = 32) (hn : nonce.length = 12) (hol : other.length ≤ 100000) (htl : text.length ≤ 100000) {A0 A1 A2 A3 : Option Addr} {B k0 k1 c2 c3 : Nat} (w : World) (r0 : Rd w B A0 k0 key) (r1 : Rd w B A1 k1 nonce) (r2 : Rd w B A2 c2 other) (r3 : Rd w B A3 c3 text) (hB : B ≤ w.heap.size) :
    Calls Tryd.prog 10 #[.slice A0 32 k0, .slice A1 12 k1, .slice A2 other.length c2, .slice A3 text.length c3] w fun e w' => ∃ A c, e = .returned (.tuple #[.slice A (text.length + 16) c, .int .i64 0]) ∧ Own w' w.heap.size 5 A c (boxL key nonce other text) ∧ Below w.heap.size w w' := by
  obtain ⟨i0, hi, hz0, hz1, hz2⟩ := info_parts infoByte
  have KX := Lib.hid (rxor_any (ctr := 1) hk hn (by decide) (nblk_small htl) htl w r0 r1 r3 hB)
  have KB := Lib.hid (fun v (hv : Below w.heap.size w v) => block_any (ctr := 0) hk hn (by decide) v (r0.keep (hv.mono hB)) (r1.keep (hv.mono hB)) (Nat.le_trans hB hv.size))
  have hCl := xrN_len key nonce 1 text
  have hBX : boxL key nonce other text = xrN key nonce 1 text ++ sTag key nonce other (xrN key nonce 1 text) := rfl
  rw [hBX]
  obtain ⟨C, eC⟩ : ∃ C, C = xrN key nonce 1 text := ⟨_, rfl⟩
  rw [← eC] at KX hCl ⊢
  clear hBX eC
  obtain ⟨no, eno⟩ : ∃ n, n = other.length := ⟨_, rfl⟩
  obtain ⟨nt, ent⟩ : ∃ n, n = text.length := ⟨_, rfl⟩
  have hM := macL_len other C
  have hT : sTag key nonce other C = tagN ((blkB key nonce 0).take 32) (macL other C) := rfl
  have hMd : macL other C = fillL other ++ fillL C ++ gen (bf no) 8 ++ gen (bf nt) 8 := by rw [eno, ent, ← hCl]; rfl
  have hFo : (fillL other).length = no + pad16 no := by rw [fillL_len, eno]
  have hFc : (fillL C).length = nt + pad16 nt := by rw [fillL_len, hCl, ent]
  have hbl : (blkB key nonce 0).length = 64 := blkB_len _ _ _
  rw [← ent] at KX hCl htl ⊢
  rw [← eno] at hol ⊢
  rw [hT]
  have p1 := pad16_lt no
  have p2 := pad16_lt nt
  obtain ⟨lo, elo⟩ : ∃ l, l = no + pad16 no := ⟨_, rfl⟩
  obtain ⟨lc, elc⟩ : ∃ l, l = nt + pad16 nt := ⟨_, rfl⟩
  obtain ⟨l1, el1⟩ : ∃ l, l = lo + lc := ⟨_, rfl⟩
  obtain ⟨l2, el2⟩ : ∃ l, l = l1 + 8 := ⟨_, rfl⟩
  obtain ⟨l3, el3⟩ : ∃ l, l = l2 + 8 := ⟨_, rfl⟩
  have w1 : IntKind.u64.wrap (no : Int) = (no : Int) := by rw [IntKind.wrap_u64]; omega
  have w2 : IntKind.u64.wrap (nt : Int) = (nt : Int) := by rw [IntKind.wrap_u64]; omega
  have KF := Lib.hid (fun (A : Option Addr) (c : Nat) (v : World) (h : Rd v v.heap.size A c other) => filled_len (n := no) eno.symm v h (Nat.le_refl _) (by omega))
  have KG := Lib.hid (fun (A : Option Addr) (c : Nat) (v : World) (h : Rd v v.heap.size A c C) => filled_len (n := nt) hCl v h (Nat.le_refl _) (by omega))
  rw [← elo] at KF hFo
  rw [← elc] at KG hFc
  have HFo := Lib.hid hFo
  have HFc := Lib.hid hFc
  have H1 := Lib.hid el1.symm
  have H2 := Lib.hid el2.symm
  have H3 := Lib.hid el3.symm
  have HS := Lib.hid (show l1 ≤ 140737488355328 ∧ l2 ≤ 140737488355328 ∧ l3 ≤ 1000000 ∧ no < 18446744073709551616 ∧ nt < 18446744073709551616 ∧ nt + 16 ≤ 140737488355328 by omega)
  have HL1 := Lib.hid (show (fillL other ++ fillL C).length = l1 by rw [List.length_append, hFo, hFc, el1])
  have HL2 := Lib.hid (show (fillL other ++ fillL C ++ gen (bf no) 8).length = l2 by rw [List.length_append, HL1.out, gen_length, el2])
  have HL3 := Lib.hid (show (macL other C).length = l3 by rw [hMd, List.length_append, HL2.out, gen_length, el3])
  have HMD := Lib.hid hMd
  have HCl := Lib.hid hCl
  have HBL := Lib.hid hbl
  have hc := Below.refl w.heap.size w
  clear hM hT hMd hFo hFc elo elc el1 el2 el3 p1 p2 hCl hbl r0 r1 r3 hk hn htl hol eno ent
  go_enter Tryd.func10, Tryd.ntmps10
  go_wp2_with fail
  go_at_call 19
  refine KX.out.mono ?_
  rintro e v1 ⟨Ac, cc, rfl, oc, h0⟩
  replace r2 := (r2.keep (h0.mono hB)).mono (Nat.le_trans hB h0.size)
  replace hc := h0
  clear KX h0
  go_wp2_with fail
  go_at_call 20
  refine (KF.out _ _ v1 r2).mono ?_
  rintro e v2 ⟨Ao, co, rfl, oo, hq⟩
  clear KF r2
  go_wp2_with fail
  go_at_call 20
  refine (KG.out _ _ v2 (oc.keep hq).rd).mono ?_
  rintro e v3 ⟨Af, cf, rfl, of, h0⟩
  replace oo := oo.keep h0
  replace hq := hq.trans (h0.mono hq.size)
  clear KG h0
  go_upto_region 5 with (at_builtin; refine wpList_appN _ rfl (.tmp 32) (.tmp 34) _ rfl v1.heap.size 5 i0 _ Tryd.underlying22 hi hz0 hz1 hz2 rfl rfl HFo.out oo rfl HFc.out of.rd H1.out HS.out.1 hq.size ?_; intro A4 c4 v4 o4 h0)
  replace hq := hq.trans h0
  clear of oo h0
  go_wp2_with fail
  go_at_call 21
  refine (low8_any HS.out.2.2.2.1 v4).mono ?_
  rintro e v5 ⟨A5, c5, rfl, o5, h0⟩
  replace o4 := o4.keep h0
  replace hq := hq.trans (h0.mono hq.size)
  clear h0
  go_upto_region 6 with (at_builtin; refine wpList_appN _ rfl (.tmp 36) (.tmp 40) _ rfl v1.heap.size 5 i0 _ Tryd.underlying22 hi hz0 hz1 hz2 rfl rfl HL1.out o4 rfl (gen_length _ _) o5.rd H2.out HS.out.2.1 hq.size ?_; intro A6 c6 v6 o6 h0)
  replace hq := hq.trans h0
  clear o4 o5 h0
  go_wp2_with fail
  go_at_call 21
  refine (low8_any HS.out.2.2.2.2.1 v6).mono ?_
  rintro e v7 ⟨A7, c7, rfl, o7, h0⟩
  replace o6 := o6.keep h0
  replace hq := hq.trans (h0.mono hq.size)
  clear h0
  go_upto_region 7 with (at_builtin; refine wpList_appN _ rfl (.tmp 42) (.tmp 46) _ rfl v1.heap.size 5 i0 _ Tryd.underlying22 hi hz0 hz1 hz2 rfl rfl HL2.out o6 rfl (gen_length _ _) o7.rd H3.out (Nat.le_trans HS.out.2.2.1 (by decide)) hq.size ?_; intro A8 c8 v8 o8 h0)
  replace hq := hq.trans h0
  rw [← HMD.out] at o8
  clear o6 o7 h0
  go_wp2_with fail
  go_at_call 22
  refine (KB.out v8 (hc.trans (hq.mono hc.size))).mono ?_
  rintro e v9 ⟨A9, c9, rfl, o9, h0⟩
  replace o8 := o8.keep h0
  replace hq := hq.trans (h0.mono hq.size)
  obtain ⟨g9, rfl⟩ := p_at0 (p_toF o9) (by rw [HBL.out]; decide)
  have r9 := o9.rd.pre (n := 32) (by rw [HBL.out]; decide) (by decide)
  have g32 : 32 ≤ c9 := Nat.le_trans (by rw [HBL.out]; decide) o9.rd.cap
  clear h0 o9 KB
  go_wp2_with fail
  go_at_call 23
  refine (rtag_len HL3.out (by rw [List.length_take, HBL.out]; decide) HS.out.2.2.1 v9 r9 o8.rd (Nat.le_refl _)).mono ?_
  rintro e v10 ⟨Aa, ca, rfl, oa, h0⟩
  replace hq := hq.trans (h0.mono hq.size)
  clear o8 r9 h0 g32
  replace oc := oc.keep hq
  replace hc := hc.trans (hq.mono hc.size)
  clear hq
  go_wp2_with (at_builtin; refine wpList_appN _ rfl (.tmp 58) (.tmp 59) _ rfl w.heap.size 5 i0 _ Tryd.underlying22 hi hz0 hz1 hz2 rfl rfl HCl.out oc rfl (tagN_len _ _) oa.rd rfl HS.out.2.2.2.2.2 hc.size ?_; intro Ab cb vb' ob h0)
  go_returns
  exact ⟨_, _, rfl, ob, hc.trans h0⟩
end
end Go.Proofs.YtmhfkabpfkoocaaDoor
namespace Go.Proofs.YtmhfkabpfkoocaaDoor
open Go Go.RowKit
set_option maxRecDepth 20000
/-- The first bytes, if none, too. -/
theorem Rd.pre0 {w : World} {B c n : Nat} {A : Option Addr} {bs : List UInt8} (h : Rd w B A c bs) (hn : n ≤ bs.length) : Rd w B A c (bs.take n) := by
  rcases Nat.eq_zero_or_pos n with h0 | h0
  · subst h0
    rw [List.take_zero]
    exact ⟨Nat.zero_le _, fun e => ⟨rfl, (h.nil e).2⟩, fun e => absurd rfl e⟩
  · exact h.pre hn h0
theorem cv_len {ops : Array Oper} {rest : List Oper} {a : Act} {w : World} {Q : Exit → Act → World → Prop} {dst : Option Nat} {tp : TypeId} {ps : String} {af : Array Edge} {x : Operand} {A : Option Addr} {c B n : Nat} {bs : List UInt8} (hr : Rd w B A c bs) (hB : B ≤ w.heap.size) (hn : bs.length = n) (e1 : a.eval x = .slice A n c)
    (h : wpList Tryd.prog ops Q rest (a.put dst (.string ⟨bs.toArray⟩)) w) : wpList Tryd.prog ops Q (⟨dst, .convert 22 9 x, tp, ps, af, none⟩ :: rest) a w := by
  subst hn
  exact cv_arm hr hB e1 h
theorem rxor_len {key nonce bs : List UInt8} {n : Nat} (hl : bs.length = n) (hk : key.length = 32) (hn : nonce.length = 12) (hm : n ≤ 100000) {A0 A1 A2 : Option Addr} {B k0 k1 c2 : Nat} (w : World) (r0 : Rd w B A0 k0 key) (r1 : Rd w B A1 k1 nonce) (r2 : Rd w B A2 c2 bs) (hB : B ≤ w.heap.size) :
    Calls Tryd.prog 19 #[.slice A0 32 k0, .slice A1 12 k1, .int .u32 1, .slice A2 n c2] w fun e w' => ∃ A c, e = .returned (.tuple #[.slice A n c, .int .i64 0]) ∧ Own w' w.heap.size 5 A c (xrN key nonce 1 bs) ∧ Below w.heap.size w w' := by
  subst hl
  exact rxor_any (ctr := 1) hk hn (by decide) (nblk_small hm) hm w r0 r1 r2 hB
theorem rseal_len {key nonce other text : List UInt8} {n : Nat} (hl : text.length = n) (hk : key.length = 32) (hn : nonce.length = 12) (hol : other.length ≤ 100000) (htl : n ≤ 100000) {A0 A1 A2 A3 : Option Addr} {B k0 k1 c2 c3 : Nat} (w : World) (r0 : Rd w B A0 k0 key) (r1 : Rd w B A1 k1 nonce) (r2 : Rd w B A2 c2 other) (r3 : Rd w B A3 c3 text) (hB : B ≤ w.heap.size) :
    Calls Tryd.prog 10 #[.slice A0 32 k0, .slice A1 12 k1, .slice A2 other.length c2, .slice A3 n c3] w fun e w' => ∃ A c, e = .returned (.tuple #[.slice A (n + 16) c, .int .i64 0]) ∧ Own w' w.heap.size 5 A c (boxL key nonce other text) ∧ Below w.heap.size w w' := by
  subst hl
  exact rseal_any hk hn hol htl w r0 r1 r2 r3 hB
theorem ropen_bad {kl nl k0 k1 n m c2 c3 : Nat} (h : kl ≠ 32 ∨ nl ≠ 12) {A0 A1 A2 A3 : Option Addr} (w : World) :
    Calls Tryd.prog 13 #[.slice A0 kl k0, .slice A1 nl k1, .slice A2 n c2, .slice A3 m c3] w fun e w' => e = .returned (.tuple #[.slice none 0 0, .int .i64 1]) ∧ Below w.heap.size w w' := by
  have hcond : ((kl : Int) != 32) = true ∨ (((kl : Int) != 32) = false ∧ ((nl : Int) != 12) = true) := by
    by_cases h1 : kl = 32
    · right; constructor <;> simp <;> omega
    · left; simp; omega
  clear h
  rcases hcond with g1 | ⟨g1, g2⟩
  · go_enter Tryd.func13, Tryd.ntmps13
    go_wp2_with fail
    go_returns
    exact ⟨rfl, Below.refl _ _⟩
  · go_enter Tryd.func13, Tryd.ntmps13
    go_wp2_with fail
    go_returns
    exact ⟨rfl, Below.refl _ _⟩
theorem ropen_short {k0 k1 n m c2 c3 : Nat} (h : m < 16) {A0 A1 A2 A3 : Option Addr} (w : World) :
    Calls Tryd.prog 13 #[.slice A0 32 k0, .slice A1 12 k1, .slice A2 n c2, .slice A3 m c3] w fun e w' => e = .returned (.tuple #[.slice none 0 0, .int .i64 3]) ∧ Below w.heap.size w w' := by
  have g1 : (m : Int) < 16 := by omega
  go_enter Tryd.func13, Tryd.ntmps13
  go_wp2_with fail
  go_returns
  exact ⟨rfl, Below.refl _ _⟩
section
attribute [local irreducible] xrN boxL
set_option maxHeartbeats 6400000 in
theorem ropen_yes {key nonce other box : List UInt8} {m : Nat} (hbl : box.length = m + 16) (hX : boxL key nonce other (xrN key nonce 1 (box.take m)) = box) (hk : key.length = 32) (hn : nonce.length = 12) (hol : other.length ≤ 100000) (htl : m ≤ 100000) {A0 A1 A2 A3 : Option Addr} {B k0 k1 c2 c3 : Nat} (w : World) (r0 : Rd w B A0 k0 key) (r1 : Rd w B A1 k1 nonce) (r2 : Rd w B A2 c2 other) (r3 : Rd w B A3 c3 box) (hB : B ≤ w.heap.size) :
    Calls Tryd.prog 13 #[.slice A0 32 k0, .slice A1 12 k1, .slice A2 other.length c2, .slice A3 box.length c3] w fun e w' => ∃ A c, e = .returned (.tuple #[.slice A m c, .int .i64 0]) ∧ Own w' w.heap.size 5 A c (xrN key nonce 1 (box.take m)) ∧ Below w.heap.size w w' := by
  have hml : (box.take m).length = m := by rw [List.length_take]; omega
  have r3t := r3.pre0 (n := m) (by omega)
  have KX := Lib.hid (rxor_len hml hk hn htl w r0 r1 r3t hB)
  have hTl : (xrN key nonce 1 (box.take m)).length = m := by rw [xrN_len, hml]
  obtain ⟨T, eT⟩ : ∃ T, T = xrN key nonce 1 (box.take m) := ⟨_, rfl⟩
  rw [← eT] at KX hTl hX ⊢
  have KS := Lib.hid (fun (A : Option Addr) (c : Nat) (v : World) (hv : Below w.heap.size w v) (h : Rd v v.heap.size A c T) => rseal_len hTl hk hn hol htl v ((r0.keep (hv.mono hB)).mono (Nat.le_trans hB hv.size)) ((r1.keep (hv.mono hB)).mono (Nat.le_trans hB hv.size)) ((r2.keep (hv.mono hB)).mono (Nat.le_trans hB hv.size)) h (Nat.le_refl _))
  have hXl := boxL_len key nonce other T
  rw [hTl] at hXl
  obtain ⟨X, eX⟩ : ∃ X, X = boxL key nonce other T := ⟨_, rfl⟩
  rw [← eX] at KS hXl hX
  have hcap := r3.cap
  obtain ⟨n, en⟩ : ∃ n, n = box.length := ⟨_, rfl⟩
  rw [← en] at hcap hbl ⊢
  have g1 : ¬ (n : Int) < 16 := by omega
  have w1 : IntKind.i64.wrap ((n : Int) - 16) = (m : Int) := by rw [IntKind.wrap_i64]; omega
  have g2 : m ≤ c3 := by omega
  have HXL := Lib.hid hXl
  have HN := Lib.hid en.symm
  have HX := Lib.hid hX
  clear hX eT eX hTl hXl hml hcap hbl en r0 r1 r2 r3t hk hn hol htl
  go_enter Tryd.func13, Tryd.ntmps13
  go_wp2_with fail
  go_at_call 19
  refine KX.out.mono ?_
  rintro e v1 ⟨At, ct, rfl, ot, hc⟩
  clear g1 w1 g2 KX
  replace r3 := r3.keep (hc.mono hB)
  go_wp2_with fail
  go_at_call 10
  refine (KS.out _ _ v1 hc ot.rd).mono ?_
  rintro e v2 ⟨Ax, cx, rfl, ox, h0⟩
  replace r3 := r3.keep (h0.mono (Nat.le_trans hB hc.size))
  replace ot := ot.keep h0
  replace hc := hc.trans (h0.mono hc.size)
  have rx := ox.rd
  clear h0 KS ox
  have hB2 := Nat.le_trans hB hc.size
  have HB2 := Lib.hid hB2
  go_upto_if 48 with (first | ((with_reducible refine cv_len rx (Nat.le_refl _) HXL.out ?_ ?_); rfl) | ((with_reducible refine cv_len r3 HB2.out HN.out ?_ ?_); rfl))
  have hb' : (!(X == box)) = false := by rw [HX.out]; simp
  rw [hb']
  clear hb' HX
  go_wp2_with fail
  go_returns
  exact ⟨At, ct, rfl, ot, hc⟩
set_option maxHeartbeats 6400000 in
theorem ropen_no {key nonce other box : List UInt8} {m : Nat} (hbl : box.length = m + 16) (hX : boxL key nonce other (xrN key nonce 1 (box.take m)) ≠ box) (hk : key.length = 32) (hn : nonce.length = 12) (hol : other.length ≤ 100000) (htl : m ≤ 100000) {A0 A1 A2 A3 : Option Addr} {B k0 k1 c2 c3 : Nat} (w : World) (r0 : Rd w B A0 k0 key) (r1 : Rd w B A1 k1 nonce) (r2 : Rd w B A2 c2 other) (r3 : Rd w B A3 c3 box) (hB : B ≤ w.heap.size) :
    Calls Tryd.prog 13 #[.slice A0 32 k0, .slice A1 12 k1, .slice A2 other.length c2, .slice A3 box.length c3] w fun e w' => e = .returned (.tuple #[.slice none 0 0, .int .i64 9]) ∧ Below w.heap.size w w' := by
  have hml : (box.take m).length = m := by rw [List.length_take]; omega
  have r3t := r3.pre0 (n := m) (by omega)
  have KX := Lib.hid (rxor_len hml hk hn htl w r0 r1 r3t hB)
  have hTl : (xrN key nonce 1 (box.take m)).length = m := by rw [xrN_len, hml]
  obtain ⟨T, eT⟩ : ∃ T, T = xrN key nonce 1 (box.take m) := ⟨_, rfl⟩
  rw [← eT] at KX hTl hX
  have KS := Lib.hid (fun (A : Option Addr) (c : Nat) (v : World) (hv : Below w.heap.size w v) (h : Rd v v.heap.size A c T) => rseal_len hTl hk hn hol htl v ((r0.keep (hv.mono hB)).mono (Nat.le_trans hB hv.size)) ((r1.keep (hv.mono hB)).mono (Nat.le_trans hB hv.size)) ((r2.keep (hv.mono hB)).mono (Nat.le_trans hB hv.size)) h (Nat.le_refl _))
  have hXl := boxL_len key nonce other T
  rw [hTl] at hXl
  obtain ⟨X, eX⟩ : ∃ X, X = boxL key nonce other T := ⟨_, rfl⟩
  rw [← eX] at KS hXl hX
  have hcap := r3.cap
  obtain ⟨n, en⟩ : ∃ n, n = box.length := ⟨_, rfl⟩
  rw [← en] at hcap hbl ⊢
  have g1 : ¬ (n : Int) < 16 := by omega
  have w1 : IntKind.i64.wrap ((n : Int) - 16) = (m : Int) := by rw [IntKind.wrap_i64]; omega
  have g2 : m ≤ c3 := by omega
  have HXL := Lib.hid hXl
  have HN := Lib.hid en.symm
  have HX := Lib.hid hX
  clear hX eT eX hTl hXl hml hcap hbl en r0 r1 r2 r3t hk hn hol htl
  go_enter Tryd.func13, Tryd.ntmps13
  go_wp2_with fail
  go_at_call 19
  refine KX.out.mono ?_
  rintro e v1 ⟨At, ct, rfl, ot, hc⟩
  clear g1 w1 g2 KX
  replace r3 := r3.keep (hc.mono hB)
  go_wp2_with fail
  go_at_call 10
  refine (KS.out _ _ v1 hc ot.rd).mono ?_
  rintro e v2 ⟨Ax, cx, rfl, ox, h0⟩
  replace r3 := r3.keep (h0.mono (Nat.le_trans hB hc.size))
  replace ot := ot.keep h0
  replace hc := hc.trans (h0.mono hc.size)
  have rx := ox.rd
  clear h0 KS ox
  have hB2 := Nat.le_trans hB hc.size
  have HB2 := Lib.hid hB2
  go_upto_if 48 with (first | ((with_reducible refine cv_len rx (Nat.le_refl _) HXL.out ?_ ?_); rfl) | ((with_reducible refine cv_len r3 HB2.out HN.out ?_ ?_); rfl))
  have hb' : (!(X == box)) = true := by simp [HX.out]
  rw [hb']
  clear hb' HX
  go_wp2_with fail
  go_returns
  exact ⟨rfl, hc⟩
end
end Go.Proofs.YtmhfkabpfkoocaaDoor
namespace Go.Proofs.YtmhfkabpfkoocaaDoor
open Go Go.RowKit
set_option maxRecDepth 20000
def sealA (key nonce other text : List UInt8) : List UInt8 := if key.length = 32 ∧ nonce.length = 12 then boxL key nonce other text else []
def sealE (key nonce : List UInt8) : Nat := if key.length = 32 ∧ nonce.length = 12 then 0 else 1
def openE (key nonce other box : List UInt8) : Nat :=
  if key.length = 32 ∧ nonce.length = 12 then (if box.length < 16 then 3 else if boxL key nonce other (xrN key nonce 1 (box.take (box.length - 16))) = box then 0 else 9) else 1
def openA (key nonce other box : List UInt8) : List UInt8 := if openE key nonce other box = 0 then xrN key nonce 1 (box.take (box.length - 16)) else []
theorem open_seal {key nonce : List UInt8} (hk : key.length = 32) (hn : nonce.length = 12) (other text : List UInt8) : openE key nonce other (boxL key nonce other text) = 0 ∧ openA key nonce other (boxL key nonce other text) = text := by
  have hl := boxL_len key nonce other text
  have ht : (boxL key nonce other text).take ((boxL key nonce other text).length - 16) = xrN key nonce 1 text := by
    rw [hl, Nat.add_sub_cancel]
    unfold boxL
    rw [List.take_left' (xrN_len _ _ _ _)]
  have h0 : openE key nonce other (boxL key nonce other text) = 0 := by
    unfold openE
    rw [if_pos ⟨hk, hn⟩, if_neg (by rw [hl]; omega), ht, xr_twice, if_pos rfl]
  refine ⟨h0, ?_⟩
  unfold openA
  rw [if_pos h0, ht, xr_twice]
theorem seal_open {key nonce other box : List UInt8} (h : openE key nonce other box = 0) : key.length = 32 ∧ nonce.length = 12 ∧ 16 ≤ box.length ∧ boxL key nonce other (openA key nonce other box) = box := by
  have h2 : openA key nonce other box = xrN key nonce 1 (box.take (box.length - 16)) := by unfold openA; rw [if_pos h]
  rw [h2]
  unfold openE at h
  by_cases h1 : key.length = 32 ∧ nonce.length = 12
  · rw [if_pos h1] at h
    by_cases h3 : box.length < 16
    · rw [if_pos h3] at h; omega
    · rw [if_neg h3] at h
      by_cases h4 : boxL key nonce other (xrN key nonce 1 (box.take (box.length - 16))) = box
      · exact ⟨h1.1, h1.2, by omega, h4⟩
      · rw [if_neg h4] at h; omega
  · rw [if_neg h1] at h; omega
theorem openA_no {key nonce other box : List UInt8} (h : openE key nonce other box ≠ 0) : openA key nonce other box = [] := by unfold openA; rw [if_neg h]
theorem openA_le (key nonce other box : List UInt8) : (openA key nonce other box).length ≤ box.length := by
  unfold openA
  split
  · rw [xrN_len, List.length_take]; omega
  · exact Nat.zero_le _
/-- What is asked of a Seal and an Open, in worlds that are so. -/
def CSealP (G : World → Prop) (f : FuncId) : Prop := ∀ (key nonce other text : List UInt8) (A0 A1 A2 A3 : Option Addr) (c0 c1 c2 c3 : Nat) (w : World), other.length ≤ 1000 → text.length ≤ 2016 → G w → Rd w w.heap.size A0 c0 key → Rd w w.heap.size A1 c1 nonce → Rd w w.heap.size A2 c2 other → Rd w w.heap.size A3 c3 text →
  Calls Tryd.prog f #[.slice A0 key.length c0, .slice A1 nonce.length c1, .slice A2 other.length c2, .slice A3 text.length c3] w fun e w' => ∃ A c, e = .returned (.tuple #[.slice A (sealA key nonce other text).length c, .int .i64 (sealE key nonce : Int)]) ∧ Rd w' w'.heap.size A c (sealA key nonce other text) ∧ Below w.heap.size w w'
def COpenP (G : World → Prop) (f : FuncId) : Prop := ∀ (key nonce other box : List UInt8) (A0 A1 A2 A3 : Option Addr) (c0 c1 c2 c3 : Nat) (w : World), other.length ≤ 1000 → box.length ≤ 2016 → G w → Rd w w.heap.size A0 c0 key → Rd w w.heap.size A1 c1 nonce → Rd w w.heap.size A2 c2 other → Rd w w.heap.size A3 c3 box →
  Calls Tryd.prog f #[.slice A0 key.length c0, .slice A1 nonce.length c1, .slice A2 other.length c2, .slice A3 box.length c3] w fun e w' => ∃ A c, e = .returned (.tuple #[.slice A (openA key nonce other box).length c, .int .i64 (openE key nonce other box : Int)]) ∧ Rd w' w'.heap.size A c (openA key nonce other box) ∧ Below w.heap.size w w'
theorem rd_nil12 (w : World) (B : Nat) : Rd w B none 0 [] := ⟨Nat.le_refl _, fun _ => ⟨rfl, rfl⟩, fun h => absurd rfl h⟩
theorem rSealP (G : World → Prop) : CSealP G 10 := by
  intro key nonce other text A0 A1 A2 A3 c0 c1 c2 c3 w ho ht _ r0 r1 r2 r3
  unfold sealA sealE
  by_cases h : key.length = 32 ∧ nonce.length = 12
  · rw [if_pos h, if_pos h, h.1, h.2, boxL_len]
    exact (rseal_any h.1 h.2 (by omega) (by omega) w r0 r1 r2 r3 (Nat.le_refl _)).mono fun _ _ ⟨A, c, he, o, hb⟩ => ⟨A, c, he, o.rd, hb⟩
  · rw [if_neg h, if_neg h]
    exact (rseal_bad (by omega) w).mono fun _ _ ⟨he, hb⟩ => ⟨none, 0, he, rd_nil12 _ _, hb⟩
theorem rOpenP (G : World → Prop) : COpenP G 13 := by
  intro key nonce other box A0 A1 A2 A3 c0 c1 c2 c3 w ho ht _ r0 r1 r2 r3
  by_cases h : key.length = 32 ∧ nonce.length = 12
  · by_cases h3 : box.length < 16
    · have e : openE key nonce other box = 3 := by unfold openE; rw [if_pos h, if_pos h3]
      rw [openA_no (by rw [e]; decide), e, h.1, h.2]
      exact (ropen_short h3 w).mono fun _ _ ⟨he, hb⟩ => ⟨none, 0, he, rd_nil12 _ _, hb⟩
    · have hbl : box.length = box.length - 16 + 16 := by omega
      by_cases h4 : boxL key nonce other (xrN key nonce 1 (box.take (box.length - 16))) = box
      · have e : openE key nonce other box = 0 := by unfold openE; rw [if_pos h, if_neg h3, if_pos h4]
        have e2 : openA key nonce other box = xrN key nonce 1 (box.take (box.length - 16)) := by unfold openA; rw [if_pos e]
        have e3 : (xrN key nonce 1 (box.take (box.length - 16))).length = box.length - 16 := by rw [xrN_len, List.length_take]; omega
        rw [e2, e, e3, h.1, h.2]
        exact (ropen_yes hbl h4 h.1 h.2 (by omega) (by omega) w r0 r1 r2 r3 (Nat.le_refl _)).mono fun _ _ ⟨A, c, he, o, hb⟩ => ⟨A, c, he, o.rd, hb⟩
      · have e : openE key nonce other box = 9 := by unfold openE; rw [if_pos h, if_neg h3, if_neg h4]
        rw [openA_no (by rw [e]; decide), e, h.1, h.2]
        exact (ropen_no hbl h4 h.1 h.2 (by omega) (by omega) w r0 r1 r2 r3 (Nat.le_refl _)).mono fun _ _ ⟨he, hb⟩ => ⟨none, 0, he, rd_nil12 _ _, hb⟩
  · have e : openE key nonce other box = 1 := by unfold openE; rw [if_neg h]
    rw [openA_no (by rw [e]; decide), e]
    exact (ropen_bad (by omega) w).mono fun _ _ ⟨he, hb⟩ => ⟨none, 0, he, rd_nil12 _ _, hb⟩
end Go.Proofs.YtmhfkabpfkoocaaDoor
