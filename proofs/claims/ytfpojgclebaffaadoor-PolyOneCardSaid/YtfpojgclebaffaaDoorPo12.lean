/-
  Layer 11's laws: PolyBits. Written by tools/gen_po10.py. By an AI agent.
-/
import Derived.Test.YtfpojgclebaffaaDoorPo9
import Derived.Test.YtfpojgclebaffaaDoorSeq
import Derived.Test.YtfpojgclebaffaaDoorMut
namespace Go.Proofs.YtfpojgclebaffaaDoor
open Go Go.RowKit
set_option maxRecDepth 20000
theorem p_str (w : World) {n : Nat} {bs : List UInt8} (hl : bs.length = n) {A : Option Addr} {c : Nat} (hr : Rd w w.heap.size A c bs) : (convert 22 9 (.slice A n c)).run Tryd.prog w = .ok (.string ⟨bs.toArray⟩) w := by
  subst hl
  exact run_str (P := Tryd.prog) w 22 5 Tryd.underlying22 Tryd.underlying5 (dst := 9) Tryd.underlying9 hr
theorem own11_len {bs : List UInt8} {n : Nat} (hn : bs.length = n) (A : Option Addr) (c : Nat) (w : World) (hl : n ≤ 140737488355328) (hr : Rd w w.heap.size A c bs) :
    Calls Tryd.prog 7 #[.slice A n c] w fun e w' => ∃ A' c', e = .returned (.slice A' n c') ∧ Own w' w.heap.size 5 A' c' bs ∧ Below w.heap.size w w' := by
  subst hn
  exact own11_any w hr (Nat.le_refl _) hl
/-- A slice of bytes and no error. -/
def tupP (S : List UInt8) (v : Value) (w : World) : Prop := ∃ A c, v = .tuple #[.slice A 16 c, .int .i64 0] ∧ Rd w w.heap.size A c S
theorem tupP_keep {S : List UInt8} (v : Value) (w w' : World) (h : tupP S v w) (hb : Below w.heap.size w w') : tupP S v w' := by
  obtain ⟨A, c, e, r⟩ := h
  exact ⟨A, c, e, (r.keep hb).mono hb.size⟩
theorem mut_appS {ops : Array Oper} {o : Oper} {a : Act} {w : World} {s x : Operand} {B0 B c c2 : Nat} {A A2 : Option Addr} {xs ys : List UInt8} {p : Value → World → Prop} (hw : Region.wanted o (yielded ops a.tmps) = true) (ho : o.op = .call { callee := .builtin .append, args := #[s, x], argTypes := #[22, 22] })
    {n m : Nat} (hs : a.eval s = .slice A n c) (hn : xs.length = n) (hown : Own w B0 5 A c xs) (hx : a.eval x = .slice A2 m c2) (hm : ys.length = m) (hr : Rd w B A2 c2 ys) (hl : n + m ≤ 140737488355328) (hB : B0 ≤ w.heap.size)
    (hp : ∀ A' c' w', Own w' B0 5 A' c' (xs ++ ys) → Below B0 w w' → p (.slice A' (xs ++ ys).length c') w') :
    Region.wanted o (yielded ops a.tmps) = true ∧ ∃ v w', (execOp a.eval o).run Tryd.prog w = .ok (.value v) w' ∧ p v w' := by
  subst hn hm
  obtain ⟨i0, hi, hz0, hz1, hz2⟩ := info_parts infoByte
  obtain ⟨v', w', hrun, h2, h3⟩ := run_app (P := Tryd.prog) w B0 22 o.type 5 i0 _ Tryd.underlying22 hi hz0 hz1 hz2 rfl hown hr hl hB
  rw [← List.map_append, ← List.length_append] at h2
  obtain ⟨A', c', rfl, h4⟩ := owned_shape h2
  refine ⟨hw, _, w', ?_, hp A' c' w' h4 ((Below.refl _ _).grown h3 hB fun k hk => (World.ownsRow.lt hown k hk).1)⟩
  unfold execOp
  simp only [ho, resolve, invoke, builtin, Sem.run_bind, Sem.run_pure, Result.andThen_ok, List.map_toArray, List.map_cons, List.map_nil, hs, hx, hrun]
theorem cutL_cut (r : List UInt8) : cutL (cutL r) = cutL r := by
  refine nth_ext (by rw [cutL_len, cutL_len]) fun k hk => ?_
  rw [cutL_len] at hk
  rw [cutL_nth _ hk, cutL_nth r hk]
  unfold cutn
  rw [cutL_nth r hk]
  unfold cutn
  split
  · omega
  · split <;> omega
theorem tagN_cut (key b : List UInt8) : tagN (cutL (key.take 16) ++ key.drop 16) b = tagN key b := by
  unfold tagN
  rw [List.take_append_of_le_length (by rw [cutL_len]; omega), List.take_of_length_le (by rw [cutL_len]; omega), cutL_cut, List.drop_append, List.drop_eq_nil_of_le (by rw [cutL_len]; omega), cutL_len, Nat.sub_self, List.drop_zero, List.nil_append]
theorem bits_much {A B : Option Addr} {n m c d : Nat} (hm : 2000 < m) (w : World) (hG : GlbP w) :
    Calls Tryd.prog 5 #[.slice A n c, .slice B m d] w fun e w' => e = .returned (.bool true) ∧ Below w.heap.size w w' := by
  have g1 : (2000 : Int) < (m : Int) := by omega
  go_enter Tryd.func5, Tryd.ntmps5
  go_wp2_with fail
  go_at_call 10
  refine (awake11 w hG).mono ?_
  rintro e v1 ⟨rfl, hc⟩
  go_wp2_with fail
  go_ret
  exact ⟨rfl, hc⟩
set_option maxHeartbeats 3200000 in
theorem bits_bad {A B : Option Addr} {c d : Nat} {key b : List UInt8} (hl : key.length ≤ 140737488355328) (hk : key.length ≠ 32) (hb : b.length ≤ 2000) (w : World) (hG : GlbP w) (r0 : Rd w w.heap.size A c key) (q0 : Rd w w.heap.size B d b) :
    Calls Tryd.prog 5 #[.slice A key.length c, .slice B b.length d] w fun e w' => e = .returned (.bool true) ∧ Below w.heap.size w w' := by
  have HL := Lib.hid hl
  have HM := Lib.hid (show b.length ≤ 140737488355328 by omega)
  have HK := Lib.hid hk
  have g1 : ¬ (2000 : Int) < (b.length : Int) := by omega
  have g2 : ((key.length : Int) != 32) = true := by simp; omega
  clear hl hb hk
  have hc := Below.refl w.heap.size w
  go_enter Tryd.func5, Tryd.ntmps5
  go_wp2_with fail
  go_at_call 7
  refine (own11_rd key _ _ _ HL.out r0).mono ?_
  rintro e y1 ⟨A1, c1, rfl, r1, h0⟩
  replace q0 := (q0.keep h0).mono h0.size
  replace hc := hc.trans (h0.mono hc.size)
  clear h0 r0
  go_wp2_with fail
  go_at_call 7
  refine (own11_rd b _ _ _ HM.out q0).mono ?_
  rintro e y2 ⟨A2, c2, rfl, r2, h0⟩
  replace hc := hc.trans (h0.mono hc.size)
  clear h0
  go_wp2_with fail
  go_at_call 11
  refine (ctag_bad HK.out y2).mono ?_
  rintro e y3 ⟨rfl, h0⟩
  replace hc := hc.trans (h0.mono hc.size)
  clear h0
  go_wp2_with fail
  go_at_call 10
  refine (awake11 y3 (hG.next hc)).mono ?_
  rintro e y4 ⟨rfl, h0⟩
  replace hc := hc.trans (h0.mono hc.size)
  clear h0
  go_wp2_with fail
  go_ret
  exact ⟨rfl, hc⟩
/-- What is known of the operations of PolyBits' region with the append. -/
def DP (Ac B1 : Option Addr) (cc d1 b0 o0 k0 B0 : Nat) (b C H T : List UInt8) : Nat → Bool → Value → World → Prop
  | 0, _, v, w => v = .slice Ac 16 cc ∧ B0 ≤ w.heap.size ∧ Rd w B0 Ac cc C
  | 1, bb, v, w => bb = true ∨ ∃ A c, v = .slice A 16 c ∧ Own w B0 5 A c C
  | 2, _, v, _ => v = .slice (some ⟨b0, o0, none⟩) 32 k0
  | 3, _, v, _ => v = .slice (some ⟨b0, o0 + 16, none⟩) 16 (k0 - 16)
  | 4, _, v, w => ∃ A c, v = .slice A (C ++ H).length c ∧ Rd w w.heap.size A c (C ++ H)
  | 5, _, v, _ => v = .slice B1 b.length d1
  | 6, bb, v, w => bb = true ∧ ∃ A c, v = .slice A b.length c ∧ Rd w w.heap.size A c b
  | 7, bb, v, w => bb = true ∧ tupP T v w
  | 8, bb, v, w => bb = true ∧ tupP T v w
  | 9, bb, v, w => bb = true ∧ ∃ A c, v = .slice A 16 c ∧ Rd w w.heap.size A c T
  | 10, _, v, _ => v = .int .i64 0
  | 11, bb, v, w => bb = true ∧ ∃ A c, v = .slice A 16 c ∧ Rd w w.heap.size A c T
  | _, _, _, _ => True
theorem DP_keep {Ac B1 : Option Addr} {cc d1 b0 o0 k0 B0 : Nat} {b C H T : List UInt8} (k : Nat) (bb : Bool) (v : Value) (w w' : World) (h : DP Ac B1 cc d1 b0 o0 k0 B0 b C H T k bb v w) (hb : Below w.heap.size w w') : DP Ac B1 cc d1 b0 o0 k0 B0 b C H T k bb v w' := by
  match k, h with
  | 0, h => exact ⟨h.1, Nat.le_trans h.2.1 hb.size, h.2.2.keep (hb.mono h.2.1)⟩
  | 1, h => exact h.imp id fun ⟨A, c, e, o⟩ => ⟨A, c, e, o.keep hb⟩
  | 2, h => exact h
  | 3, h => exact h
  | 4, h => obtain ⟨A, c, e, r⟩ := h; exact ⟨A, c, e, (r.keep hb).mono hb.size⟩
  | 5, h => exact h
  | 6, h => obtain ⟨h0, A, c, e, r⟩ := h; exact ⟨h0, A, c, e, (r.keep hb).mono hb.size⟩
  | 7, h => exact ⟨h.1, tupP_keep _ _ _ h.2 hb⟩
  | 8, h => exact ⟨h.1, tupP_keep _ _ _ h.2 hb⟩
  | 9, h => obtain ⟨h0, A, c, e, r⟩ := h; exact ⟨h0, A, c, e, (r.keep hb).mono hb.size⟩
  | 10, h => exact h
  | 11, h => obtain ⟨h0, A, c, e, r⟩ := h; exact ⟨h0, A, c, e, (r.keep hb).mono hb.size⟩
  | k + 12, _ => trivial
theorem DP_turn {Ac B1 : Option Addr} {cc d1 b0 o0 k0 B0 : Nat} {b C H T : List UInt8} (w w' : World) (j : Nat) (hj : j ≠ 4) (x : Value) (h : DP Ac B1 cc d1 b0 o0 k0 B0 b C H T j false x w) (hb : Below B0 w w') : DP Ac B1 cc d1 b0 o0 k0 B0 b C H T j true x w' := by
  match j, h with
  | 0, h => exact ⟨h.1, Nat.le_trans h.2.1 hb.size, h.2.2.keep hb⟩
  | 1, _ => exact .inl rfl
  | 2, h => exact h
  | 3, h => exact h
  | 4, _ => exact absurd rfl hj
  | 5, h => exact h
  | 6, h => exact absurd h.1 (by decide)
  | 7, h => exact absurd h.1 (by decide)
  | 8, h => exact absurd h.1 (by decide)
  | 9, h => exact absurd h.1 (by decide)
  | 10, h => exact h
  | 11, h => exact absurd h.1 (by decide)
  | k + 12, _ => trivial
section
attribute [local irreducible] tagN cutL
set_option maxHeartbeats 6400000 in
theorem bits_good {A B : Option Addr} {k0 d : Nat} {key b : List UInt8} (hk : key.length = 32) (hb : b.length ≤ 2000) (w : World) (hG : GlbP w) (r0 : Rd w w.heap.size A k0 key) (q0 : Rd w w.heap.size B d b) :
    Calls Tryd.prog 5 #[.slice A 32 k0, .slice B b.length d] w fun e w' => e = .returned (.bool true) ∧ Below w.heap.size w w' := by
  have hTl := tagN_len key b
  have kg := fun (A B : Option Addr) (c d : Nat) (w : World) hG hr hq => ctag_any (A0 := A) (A1 := B) (k0 := c) (c1 := d) (key := key) (bs := b) hk w hG hr hq
  have ku := fun (A B : Option Addr) (c d : Nat) (w : World) hG hr hq => ctag_any (A0 := A) (A1 := B) (k0 := c) (c1 := d) (key := cutL (key.take 16) ++ key.drop 16) (bs := b) (by rw [List.length_append, cutL_len, List.length_drop]; omega) w hG hr hq
  have kz := fun (A : Option Addr) (c : Nat) (w : World) hG hr => ctag_any (A0 := A) (A1 := none) (k0 := c) (c1 := 0) (key := key) (bs := []) hk w hG hr (rd_none w w.heap.size)
  have hCl := cutL_len (key.take 16)
  have kc := fun (A : Option Addr) (c : Nat) (w : World) hG hr => ccut_any (A := A) (c := c) (bs := key.take 16) (by rw [List.length_take]; omega) w hG hr
  rw [tagN_cut] at ku
  rw [tagN_none hk] at kz
  have hHl : (key.drop 16).length = 16 := by rw [List.length_drop]; omega
  have htl : (key.take 16).length = 16 := by rw [List.length_take]; omega
  obtain ⟨T, eT⟩ : ∃ T, T = tagN key b := ⟨_, rfl⟩
  rw [← eT] at kg ku hTl
  obtain ⟨C, eC⟩ : ∃ C, C = cutL (key.take 16) := ⟨_, rfl⟩
  rw [← eC] at ku kc hCl
  have HKL := Lib.hid hk
  have KG := Lib.hid kg
  have KZ := Lib.hid kz
  have KU := Lib.hid ku
  have KC := Lib.hid kc
  have HT := Lib.hid hTl
  have HC := Lib.hid hCl
  have HTK := Lib.hid htl
  have HM := Lib.hid (show b.length ≤ 140737488355328 by omega)
  have g1 : ¬ (2000 : Int) < (b.length : Int) := by omega
  clear eT eC kg ku kz kc hTl hCl htl hb
  obtain ⟨H, eH⟩ : ∃ H, H = key.drop 16 := ⟨_, rfl⟩
  rw [← eH] at KZ KU hHl
  have HH := Lib.hid hHl
  have hc := Below.refl w.heap.size w
  obtain ⟨b0, o0, rfl, hk0, _, rh, rt⟩ := p_half r0 hk
  rw [← eH] at rt
  have g16 : 16 ≤ k0 := by omega
  have gne : ¬ k0 = 16 := by omega
  clear hk0 eH hHl hk
  go_enter Tryd.func5, Tryd.ntmps5
  go_wp2_with fail
  go_at_call 7
  refine (own11_len HKL.out _ _ _ (by decide) r0).mono ?_
  rintro e y1 ⟨A1, c1, rfl, o1, h0⟩
  have r1 := o1.rd
  clear o1
  replace r0 := (r0.keep h0).mono h0.size
  replace q0 := (q0.keep h0).mono h0.size
  replace rh := (rh.keep h0).mono h0.size
  replace rt := (rt.keep h0).mono h0.size
  replace hc := hc.trans (h0.mono hc.size)
  clear h0
  go_wp2_with fail
  go_at_call 7
  refine (own11_rd b _ _ _ HM.out q0).mono ?_
  rintro e y2 ⟨A2, c2, rfl, r2, h0⟩
  replace r0 := (r0.keep h0).mono h0.size
  replace q0 := (q0.keep h0).mono h0.size
  replace rh := (rh.keep h0).mono h0.size
  replace rt := (rt.keep h0).mono h0.size
  replace r1 := (r1.keep h0).mono h0.size
  replace hc := hc.trans (h0.mono hc.size)
  clear h0
  go_wp2_with fail
  go_at_call 11
  refine (KG.out _ _ _ _ y2 (hG.next hc) r1 r2).mono ?_
  rintro e y3 ⟨A5, c5, rfl, o5, h0⟩
  have r5 := o5.rd
  clear o5 r1 r2
  replace r0 := (r0.keep h0).mono h0.size
  replace q0 := (q0.keep h0).mono h0.size
  replace rh := (rh.keep h0).mono h0.size
  replace rt := (rt.keep h0).mono h0.size
  replace hc := hc.trans (h0.mono hc.size)
  clear h0
  clear KG
  go_upto_region 6 with fail
  go_wp2_with fail
  go_at_call 7
  refine (own11_len HTK.out _ _ _ (by decide) rh).mono ?_
  rintro e y4 ⟨A4, c4, rfl, o4, h0⟩
  have r4 := o4.rd
  clear o4
  replace r0 := (r0.keep h0).mono h0.size
  replace q0 := (q0.keep h0).mono h0.size
  replace rt := (rt.keep h0).mono h0.size
  replace r5 := (r5.keep h0).mono h0.size
  replace hc := hc.trans (h0.mono hc.size)
  clear h0
  go_wp2_with fail
  go_at_call 8
  refine (KC.out _ _ y4 (hG.next hc) r4).mono ?_
  rintro e y5 ⟨Ac, cc, rfl, oc, h0⟩
  have rc := oc.rd
  clear oc r4 rh
  replace r0 := (r0.keep h0).mono h0.size
  replace q0 := (q0.keep h0).mono h0.size
  replace rt := (rt.keep h0).mono h0.size
  replace r5 := (r5.keep h0).mono h0.size
  replace hc := hc.trans (h0.mono hc.size)
  clear h0
  clear KC
  have HG := Lib.hid (fun wz (hz : Below y5.heap.size y5 wz) => hG.next (hc.trans (hz.mono hc.size)))
  go_upto_region 7 with fail
  refine wp_region_mut 12 4 [.pre, .pre, .pre, .pre, .pre, .late, .post, .post, .late, .late, .late, .late] [46, 47, 48, 49, 50, 51, 52, 53, 45, 54, 55, 9] (DP Ac B cc d b0 o0 k0 y5.heap.size b C H T) (fun _ wz => Below y5.heap.size y5 wz) (by kernel_rfl) (by kernel_rfl) (fun _ wz wz' hz hb => hz.trans (hb.mono hz.size)) DP_keep ((Below.refl _ _).drew) (fun u => by simp only [puts, List.foldl_cons, List.foldl_nil]; go_simp; exact rfl) ?_ ?_
  · simp only [List.take_succ_cons, List.take_zero]
    refine ObsM.cons (by decide) ?_ ?_
    · intro bb hbb u w hS hd
      exact GvM.run (.slice Ac 16 cc) rfl (by go_simp) ⟨rfl, hS.size, rc.keep hS⟩
    refine ObsM.cons (by decide) ?_ ?_
    · intro bb hbb u w hS hd
      obtain ⟨d46, k1, g46⟩ : u 46 = .slice Ac 16 cc ∧ y5.heap.size ≤ w.heap.size ∧ Rd w y5.heap.size Ac cc C := depM hd 0 rfl
      rw [d46]
      refine GvM.call 7 #[.slice Ac 16 cc] rfl (by go_simp) ((own11_len HC.out _ _ w (by decide) (g46.mono k1)).mono ?_)
      rintro e w' ⟨A, c, rfl, o, hb⟩
      exact ⟨_, rfl, .inr ⟨A, c, rfl, o.mono hS.size⟩, hb⟩
    refine ObsM.cons (by decide) ?_ ?_
    · intro bb hbb u w hS hd
      exact GvM.run (.slice (some ⟨b0, o0, none⟩) 32 k0) rfl (by go_simp) rfl
    refine ObsM.cons (by decide) ?_ ?_
    · intro bb hbb u w hS hd
      have d48 : u 48 = .slice (some ⟨b0, o0, none⟩) 32 k0 := depM hd 2 rfl
      rw [d48]
      exact GvM.run (.slice (some ⟨b0, o0 + 16, none⟩) 16 (k0 - 16)) rfl (by go_simp) rfl
    refine ObsM.mut ?_ ?_
    · intro u w hS hd
      have d47 : DP Ac B cc d b0 o0 k0 y5.heap.size b C H T 1 false (u 47) w := depM hd 1 rfl
      have d49 : u 49 = .slice (some ⟨b0, o0 + 16, none⟩) 16 (k0 - 16) := depM hd 3 rfl
      obtain ⟨A3, c3, e47, o3⟩ := d47.resolve_left (by decide)
      rw [e47, d49]
      exact mut_appS (A := A3) (c := c3) (n := 16) (m := 16) (xs := C) (ys := H) (s := .tmp 47) (x := .tmp 49) rfl rfl rfl HC.out o3 rfl HH.out ((rt.keep hS).mono hS.size) (by decide) hS.size (fun A5 c5 w5 o5 hb5 => ⟨hS.trans hb5, ⟨A5, c5, rfl, o5.rd⟩, fun j hj x hx => DP_turn w w5 j hj x hx hb5⟩)
    refine ObsM.cons (by decide) ?_ ?_
    · intro bb hbb u w hS hd
      exact GvM.run (.slice B b.length d) rfl (by go_simp) rfl
    refine ObsM.cons (by decide) ?_ ?_
    · intro bb hbb u w hS hd
      have hb' : bb = true := hbb
      subst hb'
      have d51 : u 51 = .slice B b.length d := depM hd 5 rfl
      rw [d51]
      refine GvM.call 7 #[.slice B b.length d] rfl (by go_simp) ((own11_rd b _ _ w HM.out ((q0.keep hS).mono hS.size)).mono ?_)
      rintro e w' ⟨A, c, rfl, o, hb⟩
      exact ⟨_, rfl, ⟨rfl, A, c, rfl, o⟩, hb⟩
    refine ObsM.cons (by decide) ?_ ?_
    · intro bb hbb u w hS hd
      have hb' : bb = true := hbb
      subst hb'
      obtain ⟨A3, c3, d50, g50⟩ : ∃ A c, u 50 = .slice A (C ++ H).length c ∧ Rd w w.heap.size A c (C ++ H) := depM hd 4 rfl
      obtain ⟨_, A4, c4, d52, g52⟩ : true = true ∧ ∃ A c, u 52 = .slice A b.length c ∧ Rd w w.heap.size A c b := depM hd 6 rfl
      rw [show (C ++ H).length = 32 by rw [List.length_append, HC.out, HH.out]] at d50
      rw [d50, d52]
      refine GvM.call 11 #[.slice A3 32 c3, .slice A4 b.length c4] rfl (by go_simp) ((KU.out _ _ _ _ w (HG.out w hS) g50 g52).mono ?_)
      rintro e w' ⟨A, c, rfl, o, hb⟩
      exact ⟨_, rfl, ⟨rfl, A, c, rfl, o.rd⟩, hb⟩
    refine ObsM.cons (by decide) ?_ ?_
    · intro bb hbb u w hS hd
      obtain ⟨hb', A4, c4, d53, g53⟩ : bb = true ∧ tupP T (u 53) w := depM hd 7 rfl
      rw [d53]
      exact GvM.run (.tuple #[.slice A4 16 c4, .int .i64 0]) rfl (by go_simp) ⟨hb', A4, c4, rfl, g53⟩
    refine ObsM.cons (by decide) ?_ ?_
    · intro bb hbb u w hS hd
      obtain ⟨hb', A4, c4, d45, g45⟩ : bb = true ∧ tupP T (u 45) w := depM hd 8 rfl
      rw [d45]
      exact GvM.run (.slice A4 16 c4) rfl (by go_simp) ⟨hb', A4, c4, rfl, g45⟩
    refine ObsM.cons (by decide) ?_ ?_
    · intro bb hbb u w hS hd
      obtain ⟨hb', A4, c4, d45, g45⟩ : bb = true ∧ tupP T (u 45) w := depM hd 8 rfl
      rw [d45]
      exact GvM.run (.int .i64 0) rfl (by go_simp) rfl
    refine ObsM.cons (by decide) ?_ ?_
    · intro bb hbb u w hS hd
      obtain ⟨hb', A4, c4, d54, g54⟩ : bb = true ∧ ∃ A c, u 54 = .slice A 16 c ∧ Rd w w.heap.size A c T := depM hd 9 rfl
      rw [d54]
      exact GvM.run (.slice A4 16 c4) rfl (by go_simp) ⟨hb', A4, c4, rfl, g54⟩
    exact trivial
  intro u wz hS hd
  obtain ⟨_, A9, c9, d9, r9⟩ : true = true ∧ ∃ A c, u 9 = .slice A 16 c ∧ Rd wz wz.heap.size A c T := hd 11 (by decide)
  have d55 : u 55 = .int .i64 0 := hd 10 (by decide)
  rw [d9, d55]
  clear hd d9 d55 rc
  simp only [List.drop_succ_cons, List.drop_zero]
  obtain ⟨y6, ey⟩ : ∃ v, v = wz := ⟨_, rfl⟩
  rw [← ey] at hS r9 ⊢
  clear ey wz
  have h0 := hS
  replace r0 := (r0.keep h0).mono h0.size
  replace q0 := (q0.keep h0).mono h0.size
  replace rt := (rt.keep h0).mono h0.size
  replace r5 := (r5.keep h0).mono h0.size
  replace hc := hc.trans (h0.mono hc.size)
  clear h0 hS HG
  go_wp2_with fail
  go_at_call 7
  refine (own11_len HKL.out _ _ _ (by decide) r0).mono ?_
  rintro e y7 ⟨A7, c7, rfl, o7, h0⟩
  have r7 := o7.rd
  clear o7
  replace r0 := (r0.keep h0).mono h0.size
  replace rt := (rt.keep h0).mono h0.size
  replace r5 := (r5.keep h0).mono h0.size
  replace r9 := (r9.keep h0).mono h0.size
  replace hc := hc.trans (h0.mono hc.size)
  clear h0
  go_wp2_with fail
  go_at_call 11
  refine (KZ.out _ _ y7 (hG.next hc) r7).mono ?_
  rintro e y8 ⟨A11, c11, rfl, o11, h0⟩
  have r11 := o11.rd
  clear o11 r7
  replace r0 := (r0.keep h0).mono h0.size
  replace rt := (rt.keep h0).mono h0.size
  replace r5 := (r5.keep h0).mono h0.size
  replace r9 := (r9.keep h0).mono h0.size
  replace hc := hc.trans (h0.mono hc.size)
  clear h0
  have HG := Lib.hid (fun wz (hz : Below y8.heap.size y8 wz) => hG.next (hc.trans (hz.mono hc.size)))
  clear KZ KU g1
  go_upto_region 9 with fail
  refine wp_region_inv 37 [62, 63, 64, 65, 66, 67, 68, 69, 70, 71, 72, 73, 74, 75, 76, 77, 78, 79, 80, 81, 82, 83, 84, 85, 86, 87, 88, 89, 90, 91, 92, 93, 94, 95, 96, 97, 98] [.val (.int .i64 0), .val (.bool true), .val (.bool true), .val (.int .i64 0), .val (.bool true), .val (.bool true), .val (.bool true), .val (.int .i64 0), .val (.bool true), .val (.bool true), .val (.bool true), .val (.int .i64 0), .val (.bool true), .val (.bool true), .val (.bool true), .byt T, .val (.int .i64 16), .val (.bool true), .val (.bool true), .val (.bool true), .byt T, .val (.string ⟨T.toArray⟩), .byt T, .val (.string ⟨T.toArray⟩), .val (.bool true), .val (.bool true), .val (.bool true), .byt H, .val (.string ⟨H.toArray⟩), .val (.slice (some ⟨b0, o0, none⟩) 32 k0), .byt H, .val (.string ⟨H.toArray⟩), .val (.bool true), .val (.bool true), .val (.bool true), .val (.bool true), .val (.bool true)] (fun wz => Below y8.heap.size y8 wz) (by kernel_rfl) (by kernel_rfl) (fun wz wz' hz hb => hz.trans (hb.mono hz.size)) ((Below.refl _ _).drew) (fun u => by simp only [puts, List.foldl_cons, List.foldl_nil]; go_simp; exact rfl) ?_ ?_
  · simp only [List.take_succ_cons, List.take_zero]
    refine Obs.cons (fun u w hS hd => ?_) ?_
    · exact Gv.run (.int .i64 0) rfl (by go_simp) rfl
    refine Obs.cons (fun u w hS hd => ?_) ?_
    · have d62 : u 62 = .int .i64 0 := dep hd 0 rfl
      rw [d62]
      exact Gv.run (.bool true) rfl (by go_simp) rfl
    refine Obs.cons (fun u w hS hd => ?_) ?_
    · have d63 : u 63 = .bool true := dep hd 1 rfl
      rw [d63]
      exact Gv.run (.bool true) rfl (by go_simp) rfl
    refine Obs.cons (fun u w hS hd => ?_) ?_
    · have d64 : u 64 = .bool true := dep hd 2 rfl
      rw [d64]
      exact Gv.run (.int .i64 0) rfl (by go_simp) rfl
    refine Obs.cons (fun u w hS hd => ?_) ?_
    · have d64 : u 64 = .bool true := dep hd 2 rfl
      rw [d64]
      have d65 : u 65 = .int .i64 0 := dep hd 3 rfl
      rw [d65]
      exact Gv.run (.bool true) rfl (by go_simp) rfl
    refine Obs.cons (fun u w hS hd => ?_) ?_
    · have d64 : u 64 = .bool true := dep hd 2 rfl
      rw [d64]
      have d66 : u 66 = .bool true := dep hd 4 rfl
      rw [d66]
      exact Gv.run (.bool true) rfl (by go_simp) rfl
    refine Obs.cons (fun u w hS hd => ?_) ?_
    · have d67 : u 67 = .bool true := dep hd 5 rfl
      rw [d67]
      exact Gv.run (.bool true) rfl (by go_simp) rfl
    refine Obs.cons (fun u w hS hd => ?_) ?_
    · have d68 : u 68 = .bool true := dep hd 6 rfl
      rw [d68]
      exact Gv.run (.int .i64 0) rfl (by go_simp) rfl
    refine Obs.cons (fun u w hS hd => ?_) ?_
    · have d68 : u 68 = .bool true := dep hd 6 rfl
      rw [d68]
      have d69 : u 69 = .int .i64 0 := dep hd 7 rfl
      rw [d69]
      exact Gv.run (.bool true) rfl (by go_simp) rfl
    refine Obs.cons (fun u w hS hd => ?_) ?_
    · have d68 : u 68 = .bool true := dep hd 6 rfl
      rw [d68]
      have d70 : u 70 = .bool true := dep hd 8 rfl
      rw [d70]
      exact Gv.run (.bool true) rfl (by go_simp) rfl
    refine Obs.cons (fun u w hS hd => ?_) ?_
    · have d71 : u 71 = .bool true := dep hd 9 rfl
      rw [d71]
      exact Gv.run (.bool true) rfl (by go_simp) rfl
    refine Obs.cons (fun u w hS hd => ?_) ?_
    · have d72 : u 72 = .bool true := dep hd 10 rfl
      rw [d72]
      exact Gv.run (.int .i64 0) rfl (by go_simp) rfl
    refine Obs.cons (fun u w hS hd => ?_) ?_
    · have d72 : u 72 = .bool true := dep hd 10 rfl
      rw [d72]
      have d73 : u 73 = .int .i64 0 := dep hd 11 rfl
      rw [d73]
      exact Gv.run (.bool true) rfl (by go_simp) rfl
    refine Obs.cons (fun u w hS hd => ?_) ?_
    · have d72 : u 72 = .bool true := dep hd 10 rfl
      rw [d72]
      have d74 : u 74 = .bool true := dep hd 12 rfl
      rw [d74]
      exact Gv.run (.bool true) rfl (by go_simp) rfl
    refine Obs.cons (fun u w hS hd => ?_) ?_
    · have d75 : u 75 = .bool true := dep hd 13 rfl
      rw [d75]
      exact Gv.run (.bool true) rfl (by go_simp) rfl
    refine Obs.cons (fun u w hS hd => ?_) ?_
    · have d76 : u 76 = .bool true := dep hd 14 rfl
      rw [d76]
      exact Gv.run (.slice A5 16 c5) rfl (by go_simp) (⟨_, _, by rw [HT.out], (r5.keep hS).mono hS.size⟩)
    refine Obs.cons (fun u w hS hd => ?_) ?_
    · have d76 : u 76 = .bool true := dep hd 14 rfl
      rw [d76]
      obtain ⟨A77, c77, d77, g77⟩ : (Know.byt T).ok (u 77) w := dep hd 15 rfl
      rw [HT.out] at d77
      rw [d77]
      exact Gv.run (.int .i64 16) rfl (by go_simp) rfl
    refine Obs.cons (fun u w hS hd => ?_) ?_
    · have d76 : u 76 = .bool true := dep hd 14 rfl
      rw [d76]
      have d78 : u 78 = .int .i64 16 := dep hd 16 rfl
      rw [d78]
      exact Gv.run (.bool true) rfl (by go_simp) rfl
    refine Obs.cons (fun u w hS hd => ?_) ?_
    · have d76 : u 76 = .bool true := dep hd 14 rfl
      rw [d76]
      have d79 : u 79 = .bool true := dep hd 17 rfl
      rw [d79]
      exact Gv.run (.bool true) rfl (by go_simp) rfl
    refine Obs.cons (fun u w hS hd => ?_) ?_
    · have d80 : u 80 = .bool true := dep hd 18 rfl
      rw [d80]
      exact Gv.run (.bool true) rfl (by go_simp) rfl
    refine Obs.cons (fun u w hS hd => ?_) ?_
    · have d81 : u 81 = .bool true := dep hd 19 rfl
      rw [d81]
      exact Gv.run (.slice A5 16 c5) rfl (by go_simp) (⟨_, _, by rw [HT.out], (r5.keep hS).mono hS.size⟩)
    refine Obs.cons (fun u w hS hd => ?_) ?_
    · have d81 : u 81 = .bool true := dep hd 19 rfl
      rw [d81]
      obtain ⟨A82, c82, d82, g82⟩ : (Know.byt T).ok (u 82) w := dep hd 20 rfl
      rw [HT.out] at d82
      rw [d82]
      exact Gv.run (.string ⟨T.toArray⟩) rfl (run_conv rfl rfl (p_str w HT.out g82)) rfl
    refine Obs.cons (fun u w hS hd => ?_) ?_
    · have d81 : u 81 = .bool true := dep hd 19 rfl
      rw [d81]
      exact Gv.run (.slice A9 16 c9) rfl (by go_simp) (⟨_, _, by rw [HT.out], (r9.keep hS).mono hS.size⟩)
    refine Obs.cons (fun u w hS hd => ?_) ?_
    · have d81 : u 81 = .bool true := dep hd 19 rfl
      rw [d81]
      obtain ⟨A84, c84, d84, g84⟩ : (Know.byt T).ok (u 84) w := dep hd 22 rfl
      rw [HT.out] at d84
      rw [d84]
      exact Gv.run (.string ⟨T.toArray⟩) rfl (run_conv rfl rfl (p_str w HT.out g84)) rfl
    refine Obs.cons (fun u w hS hd => ?_) ?_
    · have d81 : u 81 = .bool true := dep hd 19 rfl
      rw [d81]
      have d83 : u 83 = .string ⟨T.toArray⟩ := dep hd 21 rfl
      rw [d83]
      have d85 : u 85 = .string ⟨T.toArray⟩ := dep hd 23 rfl
      rw [d85]
      exact Gv.run (.bool true) rfl (by go_simp) rfl
    refine Obs.cons (fun u w hS hd => ?_) ?_
    · have d81 : u 81 = .bool true := dep hd 19 rfl
      rw [d81]
      have d86 : u 86 = .bool true := dep hd 24 rfl
      rw [d86]
      exact Gv.run (.bool true) rfl (by go_simp) rfl
    refine Obs.cons (fun u w hS hd => ?_) ?_
    · have d87 : u 87 = .bool true := dep hd 25 rfl
      rw [d87]
      exact Gv.run (.bool true) rfl (by go_simp) rfl
    refine Obs.cons (fun u w hS hd => ?_) ?_
    · have d88 : u 88 = .bool true := dep hd 26 rfl
      rw [d88]
      exact Gv.run (.slice A11 16 c11) rfl (by go_simp) (⟨_, _, by rw [HH.out], (r11.keep hS).mono hS.size⟩)
    refine Obs.cons (fun u w hS hd => ?_) ?_
    · have d88 : u 88 = .bool true := dep hd 26 rfl
      rw [d88]
      obtain ⟨A89, c89, d89, g89⟩ : (Know.byt H).ok (u 89) w := dep hd 27 rfl
      rw [HH.out] at d89
      rw [d89]
      exact Gv.run (.string ⟨H.toArray⟩) rfl (run_conv rfl rfl (p_str w HH.out g89)) rfl
    refine Obs.cons (fun u w hS hd => ?_) ?_
    · have d88 : u 88 = .bool true := dep hd 26 rfl
      rw [d88]
      exact Gv.run (.slice (some ⟨b0, o0, none⟩) 32 k0) rfl (by go_simp) rfl
    refine Obs.cons (fun u w hS hd => ?_) ?_
    · have d88 : u 88 = .bool true := dep hd 26 rfl
      rw [d88]
      have d91 : u 91 = .slice (some ⟨b0, o0, none⟩) 32 k0 := dep hd 29 rfl
      rw [d91]
      exact Gv.run (.slice (some ⟨b0, o0 + 16, none⟩) 16 (k0 - 16)) rfl (by go_simp) ⟨_, _, by rw [HH.out], (rt.keep hS).mono hS.size⟩
    refine Obs.cons (fun u w hS hd => ?_) ?_
    · have d88 : u 88 = .bool true := dep hd 26 rfl
      rw [d88]
      obtain ⟨A92, c92, d92, g92⟩ : (Know.byt H).ok (u 92) w := dep hd 30 rfl
      rw [HH.out] at d92
      rw [d92]
      exact Gv.run (.string ⟨H.toArray⟩) rfl (run_conv rfl rfl (p_str w HH.out g92)) rfl
    refine Obs.cons (fun u w hS hd => ?_) ?_
    · have d88 : u 88 = .bool true := dep hd 26 rfl
      rw [d88]
      have d90 : u 90 = .string ⟨H.toArray⟩ := dep hd 28 rfl
      rw [d90]
      have d93 : u 93 = .string ⟨H.toArray⟩ := dep hd 31 rfl
      rw [d93]
      exact Gv.run (.bool true) rfl (by go_simp) rfl
    refine Obs.cons (fun u w hS hd => ?_) ?_
    · have d88 : u 88 = .bool true := dep hd 26 rfl
      rw [d88]
      have d94 : u 94 = .bool true := dep hd 32 rfl
      rw [d94]
      exact Gv.run (.bool true) rfl (by go_simp) rfl
    refine Obs.cons (fun u w hS hd => ?_) ?_
    · have d95 : u 95 = .bool true := dep hd 33 rfl
      rw [d95]
      exact Gv.run (.bool true) rfl (by go_simp) rfl
    refine Obs.cons (fun u w hS hd => ?_) ?_
    · have d96 : u 96 = .bool true := dep hd 34 rfl
      rw [d96]
      refine Gv.call 10 #[] rfl (by go_simp) ((awake11 w (HG.out w hS)).mono ?_)
      rintro e w' ⟨rfl, hb⟩
      exact ⟨_, rfl, rfl, hb⟩
    refine Obs.cons (fun u w hS hd => ?_) ?_
    · have d96 : u 96 = .bool true := dep hd 34 rfl
      rw [d96]
      have d97 : u 97 = .bool true := dep hd 35 rfl
      rw [d97]
      exact Gv.run (.bool true) rfl (by go_simp) rfl
    exact Obs.nil
  intro u wz hS hd
  have d98 : u 98 = .bool true := hd 36 (by decide)
  rw [d98]
  clear hd d98
  simp only [List.drop_succ_cons, List.drop_zero]
  have hfin := hc.trans (hS.mono hc.size)
  go_wp2_with fail
  go_ret
  exact ⟨rfl, hfin⟩
end
theorem bits_w (w : World) (hG : GlbP w) {A B : Option Addr} {c d : Nat} {key b : List UInt8} (r0 : Rd w w.heap.size A c key) (hl : key.length ≤ 140737488351232) (q0 : Rd w w.heap.size B d b) (_ : b.length ≤ 140737488351232) :
    Calls Tryd.prog 5 #[.slice A key.length c, .slice B b.length d] w fun e w' => e = .returned (.bool true) ∧ Below w.heap.size w w' := by
  by_cases h : b.length ≤ 2000
  · by_cases hk : key.length = 32
    · rw [hk]; exact bits_good hk h w hG r0 q0
    · exact bits_bad (by omega) hk h w hG r0 q0
  · exact bits_much (by omega) w hG
end Go.Proofs.YtfpojgclebaffaaDoor
