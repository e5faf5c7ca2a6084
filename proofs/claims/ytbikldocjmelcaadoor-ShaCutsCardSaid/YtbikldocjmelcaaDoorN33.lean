/-
  Layer 6's laws ShaCuts, ShaClones, walked whole. Written by tools/gen_n33.py. By an AI agent.
-/
import Derived.Test.YtbikldocjmelcaaDoorN31
namespace Go.Proofs.YtbikldocjmelcaaDoor
open Go Go.RowKit
set_option maxRecDepth 20000
theorem slice_run_hi (w : World) {A : Option Addr} {n c h : Nat} (h1 : h ≤ c) : (Instr.slice 22 (.slice A n c) none (some (.int .i64 (h : Int))) none).run Tryd.prog w = .ok (.slice (subA A c 0) h c) w := by
  unfold Instr.slice Instr.sliceBounds Instr.sliceBound subA
  simp [Sem.run_bind, asIntOf, run_underlying Tryd.underlying22 w, size_u8 w, h1]
theorem slice_arm_hi {ops : Array Oper} {rest : List Oper} {a : Act} {w : World} {Q : Exit → Act → World → Prop} {dst : Option Nat} {tp : TypeId} {ps : String} {af : Array Edge} {x hi : Operand} {A : Option Addr} {n c : Nat} (h : Nat) (h1 : h ≤ c) (e1 : a.eval x = .slice A n c) (e2 : a.eval hi = .int .i64 (h : Int))
    (hh : wpList Tryd.prog ops Q rest (a.put dst (.slice (subA A c 0) h c)) w) : wpList Tryd.prog ops Q (⟨dst, .slice 22 x none (some hi) none, tp, ps, af, none⟩ :: rest) a w :=
  wpList_plain rfl fun _ hK => by
    unfold Oper.wp execOp
    simp only [e1, e2, Option.map_some, Option.map_none, Instr.sliceAt, Sem.run_bind, run_underlying Tryd.underlying22 w, slice_run_hi w h1, Result.andThen_ok, Sem.run_pure]
    exact hK _ _ hh
theorem Own.off {w : World} {B g : Nat} {e : TypeId} {A : Option Addr} {c : Nat} {bs : List UInt8} (h : Own w B e A c bs) (hg : g < B) : Off g A := by
  obtain ⟨_, h2⟩ := h
  rcases h2 with ⟨hv, h0⟩ | ⟨g1, cap, cur, hv, hB, _⟩
  · simp only [Value.slice.injEq] at hv
    intro ad had
    rw [hv.1] at had
    simp at had
  · simp only [Value.slice.injEq] at hv
    intro ad had
    rw [hv.1, Option.some.injEq] at had
    rw [← had]
    show g1 ≠ g
    omega
/-- own, and Write of what it makes: the Hash has been written to; of what was there nothing else has changed. -/
theorem own_any {A : Option Addr} {B c : Nat} {bs : List UInt8} (w : World) (hr : Rd w B A c bs) (hB : B ≤ w.heap.size) (hl : bs.length ≤ 140737488355328) :
    Calls Tryd.prog 10 #[.slice A bs.length c] w fun e w' => ∃ A' c', e = .returned (.slice A' bs.length c') ∧ Own w' w.heap.size 5 A' c' bs ∧ Below w.heap.size w w' := own6_any w hr hB hl
theorem own_rd (bs : List UInt8) (A : Option Addr) (c : Nat) (w : World) (hl : bs.length ≤ 140737488355328) (hr : Rd w w.heap.size A c bs) :
    Calls Tryd.prog 10 #[.slice A bs.length c] w fun e w' => ∃ A' c', e = .returned (.slice A' bs.length c') ∧ Rd w' w'.heap.size A' c' bs ∧ Below w.heap.size w w' :=
  (own6_any w hr (Nat.le_refl _) hl).mono fun _ _ ⟨A, c, he, ho, hb⟩ => ⟨A, c, he, ho.rd, hb⟩
theorem hsum_rd {B g : Nat} {bs : List UInt8} (hlen : bs.length ≤ 140737488355328) (w : World) (hG : Glb w) (hs : Hs w B g bs) :
    Calls Tryd.prog 17 #[.pointer (some ⟨g, 0, none⟩)] w fun e w' => ∃ A' c', e = .returned (.slice A' 32 c') ∧ Rd w' w'.heap.size A' c' (sumN smallS bs) ∧ Below w.heap.size w w' :=
  (hsum hlen w hG hs).mono fun _ _ ⟨_, he, o, hb⟩ => ⟨_, _, he, bvf_rd o (sumN_len smallS bs) (Nat.le_refl _), hb⟩
theorem cut_nums {i : Int} {n : Nat} (hn : n ≤ 4000) : ∃ ua n1 k : Nat, k ≤ n ∧ n1 = n + 1 ∧ IntKind.u64.wrap i = (ua : Int) ∧ IntKind.i64.wrap ((n : Int) + 1) = (n1 : Int) ∧ IntKind.u64.wrap (n1 : Int) = (n1 : Int) ∧ (ua : Int) % (n1 : Int) = (k : Int) ∧ (ua : Int).tmod (n1 : Int) = (k : Int) ∧ IntKind.i64.wrap (k : Int) = (k : Int) := by
  obtain ⟨ua, hua⟩ : ∃ ua : Nat, i % 18446744073709551616 = (ua : Int) := ⟨(i % 18446744073709551616).toNat, by omega⟩
  have hk : ua % (n + 1) ≤ n := Nat.le_of_lt_succ (Nat.mod_lt _ (by omega))
  have e1 : (ua : Int) % ((n + 1 : Nat) : Int) = ((ua % (n + 1) : Nat) : Int) := (Int.natCast_emod _ _).symm
  refine ⟨ua, n + 1, ua % (n + 1), hk, rfl, by rw [IntKind.wrap_u64]; exact hua, by rw [IntKind.wrap_i64]; omega, by rw [IntKind.wrap_u64]; omega, e1, by rw [Int.tmod_eq_emod_of_nonneg (by omega)]; exact e1, by rw [IntKind.wrap_i64]; omega⟩
section
attribute [local irreducible] subA sumN
set_option maxHeartbeats 3200000 in
theorem cuts_walk {A0 : Option Addr} {c0 : Nat} {bs : List UInt8} {i : Int} {w0 : World} (hr : Rd w0 w0.heap.size A0 c0 bs) (w : World) (hw : w = w0) (hG : Glb w) :
    Calls Tryd.prog 7 #[.slice A0 bs.length c0, .int .i64 i] w fun e w' => e = .returned (.bool true) ∧ Below w.heap.size w w' := by
  subst hw
  by_cases hn : bs.length ≤ 4000
  · obtain ⟨ua, n1, k, hk, hn1, f1, f2, f3, f4, f5, f6⟩ := cut_nums (i := i) hn
    have g1 : ¬ (4000 : Int) < (bs.length : Int) := by omega
    have g2 : ¬ (n1 : Int) = 0 := by omega
    have g3 : ((n1 : Int) == 0) = false := beq_eq_false_iff_ne.2 g2
    have hcap := hr.cap
    have h4 := hG.four
    have HK := Lib.hid hk
    have HKC := Lib.hid (show k ≤ c0 by omega)
    have hd1 : ((bs.drop 0).take k).length = k := by rw [List.drop_zero, List.length_take]; omega
    have hd2 : (bs.drop k).length = bs.length - k := List.length_drop
    have hcut : (bs.drop 0).take k ++ bs.drop k = bs := by rw [List.drop_zero]; exact List.take_append_drop _ _
    clear hn1
    go_enter Tryd.func7, Tryd.ntmps7
    go_wp2_with fail
    go_at_call 15
    refine (hnew _).mono ?_
    rintro e v1 ⟨g, rfl, hs, hc⟩
    have hgB := hs.ge
    have h1 := (hr.keep hc).sub_ (l := 0) (n := k) (by omega)
    have hx := own6_any v1 h1 hc.size (by rw [hd1]; omega)
    rw [hd1, Nat.sub_zero] at hx
    have KX := Lib.hid hx
    clear hx h1
    go_wp2_with ((with_reducible refine slice_arm_hi (A := A0) (n := bs.length) (c := c0) k HKC.out ?_ ?_ ?_); rfl; rfl)
    go_at_call 10
    refine KX.out.mono ?_
    rintro e v2 ⟨A1, c1, rfl, o1, hb⟩
    have hs2 := hs.keep hb
    have hc2 := hc.trans (hb.mono hc.size)
    have hwr := hwrite (A := A1) (c := c1) (bs := []) (b := (bs.drop 0).take k) (by rw [hd1]; simp; omega) h4 v2 (hG.next hc2) hs2 o1.rd (o1.off (by have := hs.lt; omega))
    rw [hd1] at hwr
    have KW := Lib.hid hwr
    clear hwr KX hs hc hb
    go_wp2_with fail
    go_at_call 16
    refine KW.out.mono ?_
    rintro e v3 ⟨rfl, hs3, hx3⟩
    have hc3 := hc2.trans (hx3.below hgB (hc2.size))
    clear KW hs2 o1 hc2 hx3
    have h2 := (hr.keep hc3).drop_ (l := k) HK.out
    have hx := own6_any v3 h2 hc3.size (by rw [hd2]; omega)
    rw [hd2] at hx
    have KX := Lib.hid hx
    clear hx h2
    go_wp2_with ((with_reducible refine slice_arm_lo (A := A0) (n := bs.length) (c := c0) k HK.out ?_ ?_ ?_); rfl; rfl)
    go_at_call 10
    refine KX.out.mono ?_
    rintro e v4 ⟨A2, c2, rfl, o2, hb⟩
    have hs4 := hs3.keep hb
    have hc4 := hc3.trans (hb.mono hc3.size)
    have hwr := hwrite (A := A2) (c := c2) (bs := [] ++ (bs.drop 0).take k) (b := bs.drop k) (by rw [List.nil_append, hd1, hd2]; omega) h4 v4 (hG.next hc4) hs4 o2.rd (o2.off (by have := hs3.lt; omega))
    rw [hd2, List.nil_append, hcut] at hwr
    have KW := Lib.hid hwr
    clear hwr KX hs3 hc3 hb
    go_wp2_with fail
    go_at_call 16
    refine KW.out.mono ?_
    rintro e v5 ⟨rfl, hs5, hx5⟩
    have hc5 := hc4.trans (hx5.below hgB (hc4.size))
    clear KW hs4 o2 hc4 hx5
    have h0 := (hr.keep hc5).mono hc5.size
    obtain ⟨S, hS⟩ : ∃ S, S = sumN smallS bs := ⟨_, rfl⟩
    have hSl : S.length = 32 := by rw [hS]; exact sumN_len smallS bs
    have KS := Lib.hid (fun wz (hz : Below v5.heap.size v5 wz) => hsum_rd (by omega) wz (hG.next (hc5.trans (hz.mono hc5.size))) (hs5.keep hz))
    have KO := Lib.hid (fun A c wz (h : Rd wz wz.heap.size A c bs) => own_rd bs A c wz (by omega) h)
    have KG := Lib.hid (fun A c wz (hz : Below v5.heap.size v5 wz) (h : Rd wz wz.heap.size A c bs) => c256 bs A c wz (by omega) (hG.next (hc5.trans (hz.mono hc5.size))) h)
    rw [← hS] at KS KG
    have KA := Lib.hid (fun wz (hz : Below v5.heap.size v5 wz) => awakeC wz (hG.next (hc5.trans (hz.mono hc5.size))))
    clear hS hs5 hr hG f1 f2 f3 f4 f5 f6 g1 g2 g3 hcut hd1 hd2
    go_upto_region 7 with fail
    refine wp_region_inv 11 [32, 33, 34, 35, 36, 37, 38, 39, 40, 41, 42] [.val (.pointer (some ⟨g, 0, none⟩)), .byt S, .val (.string ⟨S.toArray⟩), .byt bs, .byt bs, .byt S, .val (.string ⟨S.toArray⟩), .val (.bool true), .val (.bool true), .val (.bool true), .val (.bool true)] (fun wz => Below v5.heap.size v5 wz) (by kernel_rfl) (by kernel_rfl) (fun wz wz' hz hb => hz.trans (hb.mono hz.size)) ((Below.refl _ _).drew) (fun u => by simp only [puts, List.foldl_cons, List.foldl_nil]; go_simp; exact rfl) ?_ ?_
    · simp only [List.take_succ_cons, List.take_zero]
      refine Obs.cons (fun u w hS hd => ?_) ?_
      · exact Gv.run (.pointer (some ⟨g, 0, none⟩)) rfl (by go_simp) rfl
      refine Obs.cons (fun u w hS hd => ?_) ?_
      · have d32 : u 32 = .pointer (some ⟨g, 0, none⟩) := dep hd 0 rfl
        rw [d32]
        refine Gv.call 17 #[.pointer (some ⟨g, 0, none⟩)] rfl (by go_simp) ((KS.out w hS).mono ?_)
        rintro e w' ⟨A, c, rfl, R, hb⟩
        exact ⟨_, rfl, ⟨A, c, by rw [hSl], R⟩, hb⟩
      refine Obs.cons (fun u w hS hd => ?_) ?_
      · obtain ⟨A33, c33, d33, g33⟩ : (Know.byt S).ok (u 33) w := dep hd 1 rfl
        rw [hSl] at d33
        rw [d33]
        exact Gv.run (.string ⟨S.toArray⟩) rfl (run_conv rfl rfl (str6 w hSl g33)) rfl
      refine Obs.cons (fun u w hS hd => ?_) ?_
      · exact Gv.run (.slice A0 bs.length c0) rfl (by go_simp) (⟨_, _, rfl, (h0.keep hS).mono hS.size⟩)
      refine Obs.cons (fun u w hS hd => ?_) ?_
      · obtain ⟨A35, c35, d35, g35⟩ : (Know.byt bs).ok (u 35) w := dep hd 3 rfl
        rw [d35]
        refine Gv.call 10 #[.slice A35 bs.length c35] rfl (by go_simp) ((KO.out _ _ w g35).mono ?_)
        rintro e w' ⟨A, c, rfl, R, hb⟩
        exact ⟨_, rfl, ⟨A, c, rfl, R⟩, hb⟩
      refine Obs.cons (fun u w hS hd => ?_) ?_
      · obtain ⟨A36, c36, d36, g36⟩ : (Know.byt bs).ok (u 36) w := dep hd 4 rfl
        rw [d36]
        refine Gv.call 11 #[.slice A36 bs.length c36] rfl (by go_simp) ((KG.out _ _ w hS g36).mono ?_)
        rintro e w' ⟨A, c, rfl, R, hb⟩
        exact ⟨_, rfl, ⟨A, c, by rw [hSl], R⟩, hb⟩
      refine Obs.cons (fun u w hS hd => ?_) ?_
      · obtain ⟨A37, c37, d37, g37⟩ : (Know.byt S).ok (u 37) w := dep hd 5 rfl
        rw [hSl] at d37
        rw [d37]
        exact Gv.run (.string ⟨S.toArray⟩) rfl (run_conv rfl rfl (str6 w hSl g37)) rfl
      refine Obs.cons (fun u w hS hd => ?_) ?_
      · have d34 : u 34 = .string ⟨S.toArray⟩ := dep hd 2 rfl
        rw [d34]
        have d38 : u 38 = .string ⟨S.toArray⟩ := dep hd 6 rfl
        rw [d38]
        exact Gv.run (.bool true) rfl (by go_simp) rfl
      refine Obs.cons (fun u w hS hd => ?_) ?_
      · have d39 : u 39 = .bool true := dep hd 7 rfl
        rw [d39]
        exact Gv.run (.bool true) rfl (by go_simp) rfl
      refine Obs.cons (fun u w hS hd => ?_) ?_
      · have d40 : u 40 = .bool true := dep hd 8 rfl
        rw [d40]
        refine Gv.call 9 #[] rfl (by go_simp) ((KA.out w hS).mono ?_)
        rintro e w' ⟨rfl, hb⟩
        exact ⟨_, rfl, rfl, hb⟩
      refine Obs.cons (fun u w hS hd => ?_) ?_
      · have d40 : u 40 = .bool true := dep hd 8 rfl
        rw [d40]
        have d41 : u 41 = .bool true := dep hd 9 rfl
        rw [d41]
        exact Gv.run (.bool true) rfl (by go_simp) rfl
      exact Obs.nil
    intro u wz hS hd
    have d42 : u 42 = .bool true := hd 10 (by decide)
    rw [d42]
    simp only [List.drop_succ_cons, List.drop_zero]
    go_wp2_with fail
    go_ret
    exact ⟨rfl, hc5.trans (hS.mono hc5.size)⟩
  · have g1 : (4000 : Int) < (bs.length : Int) := by omega
    have KA := Lib.hid (awakeC w hG)
    clear hn hr hG
    go_enter Tryd.func7, Tryd.ntmps7
    go_wp2_with fail
    go_at_call 9
    refine KA.out.mono ?_
    rintro e v1 ⟨rfl, hc⟩
    go_wp2_with fail
    go_ret
    exact ⟨rfl, hc⟩
theorem cuts_all {A0 : Option Addr} {c0 : Nat} {bs : List UInt8} {i : Int} {w0 : World} {p : Prop} (hr : Rd w0 w0.heap.size A0 c0 bs) (_l : bs.length ≤ 140737488351232) (_p : p) (w : World) (hw : w = w0) (hG : Glb w) :
    Calls Tryd.prog 7 #[.slice A0 bs.length c0, .int .i64 i] w fun e w' => e = .returned (.bool true) ∧ Below w.heap.size w w' := cuts_walk hr w hw hG
end
end Go.Proofs.YtbikldocjmelcaaDoor
