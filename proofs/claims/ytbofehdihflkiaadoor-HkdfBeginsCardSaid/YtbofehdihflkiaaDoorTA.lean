/-
  The code's masked, newCoder (layer 7). By an AI agent. The code's newCoder, mac (layer 7). By an AI agent. The code's mac (layer 7). By an AI agent. The code's Mac, Extract (layer 7). By an AI agent.
-/
import Derived.Test.YtbofehdihflkiaaDoorH1
import Derived.Test.YtbofehdihflkiaaDoorN30
import Derived.Laws.BitsAllLaws
import Derived.Test.YtbofehdihflkiaaDoorRds
import Derived.Deep.RegionWith
import Derived.Deep.DeepCutAuto
import Derived.Test.YtbofehdihflkiaaDoorSh
import Derived.Laws.OwnMore
namespace Go.Proofs.YtbofehdihflkiaaDoor
open Go Go.RowKit
set_option maxRecDepth 20000
theorem nth_xk {key : List UInt8} {v : UInt8} {j : Nat} (h : j < 64) : nth (xk key v) j = ((key[j]?.getD 0) ^^^ v).toNat := by
  unfold xk
  rw [nth_gen h]
/-- A key with noughts behind it, the first t of them masked. -/
def mk8 (key : List UInt8) (v : UInt8) (t j : Nat) : Value := .int .u8 ((if j < t then nth (xk key v) j else nth key j : Nat) : Int)
theorem mk8_succ (key : List UInt8) (v : UInt8) (t j : Nat) : (if j = t then Value.int .u8 ((nth (xk key v) t : Nat) : Int) else mk8 key v t j) = mk8 key v (t + 1) j := by
  unfold mk8
  by_cases h : j = t
  · subst h
    rw [if_pos rfl, if_pos (by omega)]
  · rw [if_neg h]
    by_cases h1 : j < t
    · rw [if_pos h1, if_pos (by omega)]
    · rw [if_neg h1, if_neg (by omega)]
theorem mk8_zero (key : List UInt8) (v : UInt8) (j : Nat) : fput (fun _ => Value.int .u8 0) 0 key.length (bvf key) j = mk8 key v 0 j := by
  unfold fput mk8 bvf
  rw [if_neg (by omega : ¬ j < 0)]
  by_cases h : j < key.length
  · rw [if_pos (by omega), Nat.sub_zero]
  · rw [if_neg (by omega)]
    unfold nth
    rw [List.getElem?_eq_none (by omega)]
    rfl
theorem mk8_xor (key : List UInt8) (v : UInt8) {t : Nat} (ht : t < 64) : bits .xor .u8 ((nth key t : Nat) : Int) ((v.toNat : Nat) : Int) = ((nth (xk key v) t : Nat) : Int) := by
  have h1 := UInt8.toNat_lt (key[t]?.getD 0)
  have h2 := UInt8.toNat_lt v
  rw [nth_xk ht, UInt8.toNat_xor]
  unfold nth
  rw [u8_xor _ _ (by omega) (by omega) (by omega) (by omega)]
  simp
theorem Hs.mono {w : World} {B B' b : Nat} {bs : List UInt8} (h : Hs w B b bs) (hB : B' ≤ B) : Hs w B' b bs := by
  obtain ⟨V, rb, o, r⟩ := h
  exact ⟨V, rb, o.mono hB, r⟩
abbrev Z64 : Array Value := #[.int .u8 0, .int .u8 0, .int .u8 0, .int .u8 0, .int .u8 0, .int .u8 0, .int .u8 0, .int .u8 0, .int .u8 0, .int .u8 0, .int .u8 0, .int .u8 0, .int .u8 0, .int .u8 0, .int .u8 0, .int .u8 0, .int .u8 0, .int .u8 0, .int .u8 0, .int .u8 0, .int .u8 0, .int .u8 0, .int .u8 0, .int .u8 0, .int .u8 0, .int .u8 0, .int .u8 0, .int .u8 0, .int .u8 0, .int .u8 0, .int .u8 0, .int .u8 0, .int .u8 0, .int .u8 0, .int .u8 0, .int .u8 0, .int .u8 0, .int .u8 0, .int .u8 0, .int .u8 0, .int .u8 0, .int .u8 0, .int .u8 0, .int .u8 0, .int .u8 0, .int .u8 0, .int .u8 0, .int .u8 0, .int .u8 0, .int .u8 0, .int .u8 0, .int .u8 0, .int .u8 0, .int .u8 0, .int .u8 0, .int .u8 0, .int .u8 0, .int .u8 0, .int .u8 0, .int .u8 0, .int .u8 0, .int .u8 0, .int .u8 0, .int .u8 0]
section
attribute [local irreducible] rl setA bvf mk8 xk sumN
set_option maxHeartbeats 1600000 in
theorem masked_any {A : Option Addr} {B c : Nat} {key : List UInt8} (v : UInt8) (hkl : key.length ≤ 64) (w : World) (hG : Glb w) (hr : Rd w B A c key) (hB : B ≤ w.heap.size) :
    Calls Tryd.prog 27 #[.slice A key.length c, .int .u8 ((v.toNat : Nat) : Int)] w fun e w' => ∃ g, e = .returned (.pointer (some ⟨g, 0, none⟩)) ∧ Hs w' w.heap.size g (xk key v) ∧ Below w.heap.size w w' := by
  have HX := Lib.hid (fun t (ht : t < 64) => mk8_xor key v ht)
  have HKL := Lib.hid hkl
  have hz := mk8_zero key v
  have o1 := OwnF.lit (w := w) (B := w.heap.size) 60 (Nat.le_refl _) Z64 64 (fun _ => .int .u8 0) (by decide) (by kernel_rfl)
  have hc := (Below.refl w.heap.size w).alloc (Nat.le_refl _) (.cells Z64 60)
  have hr1 := hr.keep ((Below.refl B w).alloc hB (.cells Z64 60))
  generalize hvm : v.toNat = vm
  go_enter Tryd.func27, Tryd.ntmps27
  go_upto_region 2 with fail
  obtain ⟨v1, e1⟩ : ∃ v, v = w.alloc (.cells Z64 60) := ⟨_, rfl⟩
  rw [← e1] at o1 hc hr1 ⊢
  obtain ⟨g, eg⟩ : ∃ g, g = w.heap.size := ⟨_, rfl⟩
  replace o1 : OwnF v1 w.heap.size 60 (some ⟨g, 0, none⟩) 64 64 (fun _ => .int .u8 0) := by rw [eg]; exact o1
  rw [show Value.pointer (some ⟨w.heap.size, 0, none⟩) = .pointer (some ⟨g, 0, none⟩) by rw [eg]]
  clear e1 eg
  have o2 := OwnF.congr (av_put o1 0 key.length (bvf key)) fun j _ => hz j
  have hb2 := hc.trans ((av_only v1 g 0 key.length (bvf key)).below (OwnF.ge o1))
  have HM := Lib.hid (show key.length = Nat.min key.length 64 from (Nat.min_eq_left hkl).symm)
  have HF := Lib.hid (show 0 + key.length ≤ 64 by omega)
  have HCP := Lib.hid (fun (ops : Array Oper) (rest2 : List Oper) (a : Act) (Q : Exit → Act → World → Prop) (d s : Operand) (dst : Option Nat) (tp : TypeId) (ps : String) (af : Array Edge) => copy_to (ops := ops) (rest := rest2) (a := a) (Q := Q) (d := d) (s := s) (dst := dst) (tp := tp) (ps := ps) (af := af) (off := 0) (dl := 64) (dc := 64) o1 hr1 HM.out HF.out)
  have HG := hG.four
  have HO2 := Lib.hid o2
  have HB2 := Lib.hid hb2
  clear hr hr1 hz hkl o2 hb2 hc hB
  go_upto_region 3 with (first | ((with_reducible refine sliceA_arm_all g 0 ?_ ?_); rfl) | ((refine HCP.out _ _ _ _ _ _ _ _ _ _ ?_ ?_ ?_); rfl; rfl))
  obtain ⟨v2, e2⟩ : ∃ v, v = setA v1 g 0 key.length (bvf key) := ⟨_, rfl⟩
  have o2 := HO2.out
  have hb2 := HB2.out
  rw [← e2] at o2 hb2 ⊢
  clear e2 HO2 HB2 HCP o1 HM HF
  go_wp2_with fail
  go_loopw [11] (fun i wr => ∃ t : Nat, t ≤ 64 ∧ i = .int .i64 (t : Int) ∧ OwnF wr w.heap.size 60 (some ⟨g, 0, none⟩) 64 64 (mk8 key v t) ∧ Below w.heap.size w wr)
    (fun i _ => 64 - (intOf i).toNat)
  case atStart => exact ⟨0, by omega, rfl, o2, hb2⟩
  case round =>
    clear o2 hb2
    obtain ⟨t, ht, rfl, ow, hb⟩ := hrel
    by_cases hlt : t < 64
    · have g1 : (t : Int) < 64 := by omega
      have cc := ow.cell (k := t) (by omega)
      have ff := ow.free t
      have hx := HX.out t hlt
      have hset := Lib.hid (OwnF.congr (OwnF.set_ ow t (.int .u8 ((nth (xk key v) t : Nat) : Int))) fun j _ => mk8_succ key v t j)
      have hbel := Lib.hid (hb.trans ((Only.setCell wr ⟨g, t, none⟩ (.int .u8 ((nth (xk key v) t : Nat) : Int))).below (OwnF.ge ow)))
      rw [show mk8 key v t t = .int .u8 ((nth key t : Nat) : Int) by unfold mk8; rw [if_neg (by omega)]] at cc
      rw [hvm] at hx
      generalize nth (xk key v) t = zt at *
      generalize nth key t = kt at *
      clear ow hb
      go_wp2_with fail
      exact ⟨⟨t + 1, by omega, by go_num, hset.out, hbel.out⟩, by simp [intOf]; omega⟩
    · obtain rfl : t = 64 := by omega
      have g1 : ¬ ((64 : Nat) : Int) < 64 := by decide
      obtain ⟨v3, e3⟩ : ∃ v, v = wr := ⟨_, rfl⟩
      rw [← e3] at ow hb ⊢
      clear e3
      have OW := Lib.hid ow
      clear ow
      go_wp2_with fail
      go_at_call 35
      refine (hnew v3).mono ?_
      rintro e v4 ⟨g4, rfl, hs4, hb4⟩
      have hr4 := (rd_own (P := xk key v) OW.out (xk_len key v) (by decide) (fun k hk => by unfold mk8; rw [if_pos hk])).keep hb4
      have hof : Off g4 (some ⟨g, 0, none⟩) := fun ad e => by
        have h1 := hs4.ge
        have h2 := OwnF.lt OW.out
        cases e
        show g ≠ g4
        omega
      have hG4 := hG.keep (hb.trans (hb4.mono hb.size)) HG
      have hW := hwrite (B := v3.heap.size) (g := g4) (A := some ⟨g, 0, none⟩) (c := 64) (bs := []) (b := xk key v) (by rw [xk_len]; decide) (Nat.le_trans HG hb.size) v4 hG4 hs4 (hr4.mono hb4.size) hof
      rw [xk_len, List.nil_append] at hW
      have KW := Lib.hid hW
      clear hW hr4 hof hG4 hG
      go_wp2_with ((with_reducible refine sliceA_arm_all g 0 ?_ ?_); rfl)
      go_at_call 29
      refine KW.out.mono ?_
      rintro e v5 ⟨rfl, hs5, hx5⟩
      have hb5 := hx5.below hs4.ge hb4.size
      go_wp2_with fail
      go_ret
      exact ⟨g4, rfl, hs5.mono hb.size, hb.trans ((hb4.trans hb5).mono hb.size)⟩
/-- Two values. -/
def pr2 (a b : Value) (k : Nat) : Value := if k = 0 then a else b
theorem pr2_one {a b : Value} (ha : a.oneCell' = true) (hb : b.oneCell' = true) (k : Nat) : (pr2 a b k).oneCell' = true := by unfold pr2; split <;> assumption
abbrev hp (g : Nat) : Value := .pointer (some ⟨g, 0, none⟩)
theorem tyCoder : ATy 39 2 := ⟨⟨_, Tryd.underlying39, rfl⟩, by kernel_rfl⟩
theorem sum256_rd {A : Option Addr} {B c : Nat} {bs : List UInt8} (hlen : bs.length ≤ 140737488355328) (w : World) (hG : Glb w) (hr : Rd w B A c bs) (hB : B ≤ w.heap.size) :
    Calls Tryd.prog 26 #[.slice A bs.length c] w fun e w' => ∃ A2 c2, e = .returned (.slice A2 32 c2) ∧ Rd w' w'.heap.size A2 c2 (sumN smallS bs) ∧ Below w.heap.size w w' :=
  (code256 hlen w hG hr hB).mono fun _ _ ⟨g, he, o, hb⟩ => ⟨some ⟨g, 0, none⟩, 32, he, rd_own o (sumN_len7 _ _) (Nat.le_refl _) (fun k _ => by with_unfolding_all rfl), hb⟩
end
end Go.Proofs.YtbofehdihflkiaaDoor
namespace Go.Proofs.YtbofehdihflkiaaDoor
open Go Go.RowKit
set_option maxRecDepth 20000
theorem Rd.offE {w : World} {B g c : Nat} {A : Option Addr} {bs : List UInt8} (h : Rd w B A c bs) (hg : B ≤ g) : OffE g A bs := fun hn ad e => by
  obtain ⟨b, o, e2, hlt, _⟩ := h.some_ hn
  rw [e] at e2
  simp only [Option.some.injEq] at e2
  subst e2
  show b ≠ g
  omega
theorem masked54 {A : Option Addr} {B c : Nat} {key : List UInt8} (hkl : key.length ≤ 64) (w : World) (hG : Glb w) (hr : Rd w B A c key) (hB : B ≤ w.heap.size) :
    Calls Tryd.prog 27 #[.slice A key.length c, .int .u8 54] w fun e w' => ∃ g, e = .returned (.pointer (some ⟨g, 0, none⟩)) ∧ Hs w' w.heap.size g (xk key 54) ∧ Below w.heap.size w w' := masked_any 54 hkl w hG hr hB
theorem masked92 {A : Option Addr} {B c : Nat} {key : List UInt8} (hkl : key.length ≤ 64) (w : World) (hG : Glb w) (hr : Rd w B A c key) (hB : B ≤ w.heap.size) :
    Calls Tryd.prog 27 #[.slice A key.length c, .int .u8 92] w fun e w' => ∃ g, e = .returned (.pointer (some ⟨g, 0, none⟩)) ∧ Hs w' w.heap.size g (xk key 92) ∧ Below w.heap.size w w' := masked_any 92 hkl w hG hr hB
abbrev CoderO : Obj := .cells #[.pointer none, .pointer none] 39
section
attribute [local irreducible] rl setA bvf xk sumN
/-- newCoder's rest, behind the choice of the key. -/
theorem coder_end {w0 v1 : World} {g0 : Nat} (o0 : OwnF v1 w0.heap.size 39 (some ⟨g0, 0, none⟩) 2 2 (pr2 (.pointer none) (.pointer none))) (hc : Below w0.heap.size w0 v1)
    {v2 v3 : World} {g1 g2 : Nat} {k1 k2 : List UInt8} (h1 : Hs v2 v1.heap.size g1 k1) (b1 : Below v1.heap.size v1 v2) (h2 : Hs v3 v2.heap.size g2 k2) (b2 : Below v2.heap.size v2 v3) :
    OwnF v3 w0.heap.size 39 (some ⟨g0, 0, none⟩) 2 2 (pr2 (.pointer none) (.pointer none)) ∧ Hs (setA v3 g0 0 2 (pr2 (hp g1) (hp g2))) w0.heap.size g1 k1 ∧ Hs (setA v3 g0 0 2 (pr2 (hp g1) (hp g2))) w0.heap.size g2 k2 ∧ Below w0.heap.size w0 (setA v3 g0 0 2 (pr2 (hp g1) (hp g2))) ∧
    Cl (setA v3 g0 0 2 (pr2 (hp g1) (hp g2))) g0 0 2 (pr2 (hp g1) (hp g2)) := by
  have o1 := OwnF.keep o0 b1
  have o2 := OwnF.keep o1 b2
  have x := Ex.of_only (av_only v3 g0 0 2 (pr2 (hp g1) (hp g2)))
  have hlt := OwnF.lt o0
  have hge := OwnF.ge o0
  have g1l := h1.ge
  have g2l := h2.ge
  have s1 := hc.size
  have s2 := b1.size
  have s3 := b2.size
  refine ⟨o2, (((h1.keep b2).ex x (by omega)).mono (by omega)), ((h2.ex x (by omega)).mono (by omega)), (hc.trans ((b1.trans (b2.mono b1.size)).mono hc.size)).trans (x.below hge (by omega)), ?_⟩
  exact OwnF.cl (av_all o2 (pr2 (hp g1) (hp g2))) (by decide) (fun k hk => by rw [Nat.zero_add])
set_option maxHeartbeats 3200000 in
theorem coder_any {A : Option Addr} {B c : Nat} {key : List UInt8} (hlen : key.length ≤ 140737488355328) (w : World) (hG : Glb w) (hr : Rd w B A c key) (hB : B ≤ w.heap.size) :
    Calls Tryd.prog 20 #[.slice A key.length c] w fun e w' => ∃ g1 g2, e = .returned (.agg #[hp g1, hp g2]) ∧ Hs w' w.heap.size g1 (xk (keyN key) 54) ∧ Hs w' w.heap.size g2 (xk (keyN key) 92) ∧ Below w.heap.size w w' := by
  have o0 := OwnF.lit (w := w) (B := w.heap.size) 39 (Nat.le_refl _) #[.pointer none, .pointer none] 2 (pr2 (.pointer none) (.pointer none)) (by decide) (by kernel_rfl)
  have hc := (Below.refl w.heap.size w).alloc (Nat.le_refl _) CoderO
  have hr1 := hr.keep ((Below.refl B w).alloc hB CoderO)
  have hG1 := hG.next hc
  obtain ⟨kk, ekk⟩ : ∃ kk, kk = keyN key := ⟨_, rfl⟩
  rw [← ekk]
  have EKK := Lib.hid ekk
  clear ekk
  by_cases h64 : 64 < key.length
  · have g0 : (64 : Int) < (key.length : Int) := by omega
    go_enter Tryd.func20, Tryd.ntmps20
    go_upto_region 1 with fail
    obtain ⟨v1, e1⟩ : ∃ v, v = w.alloc CoderO := ⟨_, rfl⟩
    obtain ⟨g, eg⟩ : ∃ g, g = w.heap.size := ⟨_, rfl⟩
    rw [← e1] at o0 hc hr1 hG1 ⊢
    replace o0 : OwnF v1 w.heap.size 39 (some ⟨g, 0, none⟩) 2 2 (pr2 (.pointer none) (.pointer none)) := by rw [eg]; exact o0
    rw [show Value.pointer (some ⟨w.heap.size, 0, none⟩) = .pointer (some ⟨g, 0, none⟩) by rw [eg]]
    have KS := Lib.hid (sum256_rd hlen v1 hG1 hr1 (Nat.le_trans hB hc.size))
    clear e1 eg hr1 hr hG
    go_wp2_with fail
    go_at_call 26
    refine KS.out.mono ?_
    rintro e v2 ⟨Ak, ck, rfl, hrk, hb⟩
    have hG2 := hG1.next hb
    replace o0 := OwnF.keep o0 hb
    replace hc := hc.trans (hb.mono hc.size)
    have hkk : sumN smallS key = kk := by rw [EKK.out]; unfold keyN; rw [if_neg (by omega)]
    have hll := sumN_len7 smallS key
    rw [hkk] at hrk hll
    replace hll : kk.length = 32 := hll
    have K1 := fun v (hb : Below v2.heap.size v2 v) => masked54 (A := Ak) (c := ck) (key := kk) (by omega) v (hG2.next hb) (hrk.keep hb) hb.size
    have K2 := fun v (hb : Below v2.heap.size v2 v) => masked92 (A := Ak) (c := ck) (key := kk) (by omega) v (hG2.next hb) (hrk.keep hb) hb.size
    rw [hll] at K1 K2
    have KK1 := Lib.hid K1
    have KK2 := Lib.hid K2
    clear K1 K2 KS hkk hll hrk hG1 hb
    go_wp2_with fail
    go_at_call 27
    refine (KK1.out _ (Below.refl _ _)).mono ?_
    rintro e v3 ⟨g1, rfl, h1, b1⟩
    go_wp2_with fail
    go_at_call 27
    refine (KK2.out _ b1).mono ?_
    rintro e v4 ⟨g2, rfl, h2, b2⟩
    obtain ⟨o4, r1, r2, rb, rc⟩ := coder_end o0 hc h1 b1 h2 b2
    have R := Lib.hid (And.intro r1 (And.intro r2 rb))
    have RC := Lib.hid rc
    clear r1 r2 rb rc KK1 KK2 h1 h2 b1 b2 o0
    go_wp2_with ((with_reducible refine av_store (off := 0) o4 tyCoder (by decide) (pr2 (hp g1) (hp g2)) (fun k _ => pr2_one rfl rfl k) ?_ ?_ ?_); rfl; (with_unfolding_all rfl))
    exact bodyPost_ret (av_res Tryd.results20 _ RC.out tyCoder rfl) rfl ⟨g1, g2, by with_unfolding_all rfl, R.out.1, R.out.2.1, R.out.2.2⟩
  · have g0 : ¬ (64 : Int) < (key.length : Int) := by omega
    go_enter Tryd.func20, Tryd.ntmps20
    go_upto_region 1 with fail
    obtain ⟨v1, e1⟩ : ∃ v, v = w.alloc CoderO := ⟨_, rfl⟩
    obtain ⟨g, eg⟩ : ∃ g, g = w.heap.size := ⟨_, rfl⟩
    rw [← e1] at o0 hc hr1 hG1 ⊢
    replace o0 : OwnF v1 w.heap.size 39 (some ⟨g, 0, none⟩) 2 2 (pr2 (.pointer none) (.pointer none)) := by rw [eg]; exact o0
    rw [show Value.pointer (some ⟨w.heap.size, 0, none⟩) = .pointer (some ⟨g, 0, none⟩) by rw [eg]]
    have hkk : kk = key := by rw [EKK.out]; unfold keyN; rw [if_pos (by omega)]
    rw [← hkk] at hr1 h64 ⊢
    have K1 := fun v (hb : Below v1.heap.size v1 v) => masked54 (A := A) (B := B) (c := c) (key := kk) (by omega) v (hG1.next hb) (hr1.keep (hb.mono (Nat.le_trans hB hc.size))) (Nat.le_trans hB (Nat.le_trans hc.size hb.size))
    have K2 := fun v (hb : Below v1.heap.size v1 v) => masked92 (A := A) (B := B) (c := c) (key := kk) (by omega) v (hG1.next hb) (hr1.keep (hb.mono (Nat.le_trans hB hc.size))) (Nat.le_trans hB (Nat.le_trans hc.size hb.size))
    have KK1 := Lib.hid K1
    have KK2 := Lib.hid K2
    clear e1 eg hr1 hr hG K1 K2 hkk hG1
    go_wp2_with fail
    go_at_call 27
    refine (KK1.out _ (Below.refl _ _)).mono ?_
    rintro e v3 ⟨g1, rfl, h1, b1⟩
    go_wp2_with fail
    go_at_call 27
    refine (KK2.out _ b1).mono ?_
    rintro e v4 ⟨g2, rfl, h2, b2⟩
    obtain ⟨o4, r1, r2, rb, rc⟩ := coder_end o0 hc h1 b1 h2 b2
    have R := Lib.hid (And.intro r1 (And.intro r2 rb))
    have RC := Lib.hid rc
    clear r1 r2 rb rc KK1 KK2 h1 h2 b1 b2 o0
    go_wp2_with ((with_reducible refine av_store (off := 0) o4 tyCoder (by decide) (pr2 (hp g1) (hp g2)) (fun k _ => pr2_one rfl rfl k) ?_ ?_ ?_); rfl; (with_unfolding_all rfl))
    exact bodyPost_ret (av_res Tryd.results20 _ RC.out tyCoder rfl) rfl ⟨g1, g2, by with_unfolding_all rfl, R.out.1, R.out.2.1, R.out.2.2⟩
end
end Go.Proofs.YtbofehdihflkiaaDoor
namespace Go.Proofs.YtbofehdihflkiaaDoor
open Go Go.RowKit
set_option maxRecDepth 20000
theorem own_bvf {w : World} {B g n : Nat} {e : TypeId} {bs : List UInt8} (o : OwnF w B e (some ⟨g, 0, none⟩) n n (bvf bs)) (hl : bs.length = n) : Rd w w.heap.size (some ⟨g, 0, none⟩) n bs := rd_own o hl (Nat.le_refl _) fun _ _ => rfl
section
attribute [local irreducible] rl setA bvf xk sumN joinK
set_option maxHeartbeats 6400000 in
theorem cmac_any {B g1 g2 cl : Nat} {Al : Option Addr} {k1 k2 : List UInt8} {L : List (List UInt8)} (hLn : L.length ≤ 1000) (hlen : k1.length + (joinL L).length ≤ 140737488355328) (hlen2 : k2.length ≤ 140737488) (w : World) (hG : Glb w) (h1 : Hs w B g1 k1) (h2 : Hs w B g2 k2) (hl : Rds w w.heap.size Al cl L) :
    Calls Tryd.prog 21 #[.agg #[hp g1, hp g2], .slice Al L.length cl] w fun e w' => ∃ g', e = .returned (.slice (some ⟨g', 0, none⟩) 32 32) ∧ w.heap.size ≤ g' ∧ Rd w' w'.heap.size (some ⟨g', 0, none⟩) 32 (sumN smallS (k2 ++ sumN smallS (k1 ++ joinL L))) ∧ Below w.heap.size w w' := by
  have o0 := OwnF.lit (w := w) (B := w.heap.size) 39 (Nat.le_refl _) #[hp g1, hp g2] 2 (pr2 (hp g1) (hp g2)) (by decide) (by with_unfolding_all rfl)
  have hc := (Below.refl w.heap.size w).alloc (Nat.le_refl _) (.cells #[hp g1, hp g2] 39)
  have hl1 := (hl.keep hc).mono hc.size
  have h11 := h1.keep hc
  have h21 := h2.keep hc
  have hG1 := hG.next hc
  have HG4 := hG1.four
  obtain ⟨si, esi⟩ : ∃ si, si = sumN smallS (k1 ++ joinL L) := ⟨_, rfl⟩
  rw [← esi]
  have ESI := Lib.hid esi
  clear esi
  go_enter Tryd.func21, Tryd.ntmps21
  go_upto_region 1 with fail
  obtain ⟨v1, e1⟩ : ∃ v, v = w.alloc (.cells #[hp g1, hp g2] 39) := ⟨_, rfl⟩
  obtain ⟨g, eg⟩ : ∃ g, g = w.heap.size := ⟨_, rfl⟩
  rw [← e1] at o0 hc hl1 h11 h21 hG1 HG4 ⊢
  replace o0 : OwnF v1 w.heap.size 39 (some ⟨g, 0, none⟩) 2 2 (pr2 (hp g1) (hp g2)) := by rw [eg]; exact o0
  rw [show Value.pointer (some ⟨w.heap.size, 0, none⟩) = .pointer (some ⟨g, 0, none⟩) by rw [eg]]
  have HS := Lib.hid (fun wz (hz : Below v1.heap.size v1 wz) => show wz.cell? ⟨g, 0, none⟩ = some (hp g1) ∧ wz.cell? ⟨g, 1, none⟩ = some (hp g2) from ⟨OwnF.cell (OwnF.keep o0 hz) (k := 0) (by decide), OwnF.cell (OwnF.keep o0 hz) (k := 1) (by decide)⟩)
  have KC1 := Lib.hid (fun wz (hz : Below v1.heap.size v1 wz) => hclone wz (h11.keep hz))
  have KC2 := Lib.hid (fun wz (hz : Below v1.heap.size v1 wz) => hclone wz (h21.keep hz))
  clear e1 eg o0 h11 h21 h1 h2 hl hG
  go_cut [5, 6] from 9 to 14 (fun a b wx => ∃ ga gb, a = hp ga ∧ b = hp gb ∧ ga ≠ gb ∧ Hs wx v1.heap.size ga k1 ∧ Hs wx v1.heap.size gb k2 ∧ Below v1.heap.size v1 wx)
  case first =>
    have hc1 : Below v1.heap.size v1 v1.drew := (Below.refl _ v1).drew
    obtain ⟨x0, x1⟩ := HS.out v1 (Below.refl _ _)
    go_region_held3 (fun wz => wz.cell? ⟨g, 0, none⟩ = some (hp g1) ∧ wz.cell? ⟨g, 1, none⟩ = some (hp g2))
      (exact HS.out _ hc1)
      (first | (go_at_call 28; (with_reducible refine (KC1.out _ hc1).mono ?_); rintro e wa ⟨ga, rfl, ha, b1⟩; replace hc1 := hc1.trans (b1.mono hc1.size)) | (go_at_call 28; (with_reducible refine (KC2.out _ hc1).mono ?_); rintro e wb ⟨gb, rfl, hb, b2⟩; have hc2 := hc1.trans (b2.mono hc1.size); have hs1 := hc1.size; clear hc1; have hc1 := hc2) | fail)
    all_goals
      go_wp2_with fail
      go_meet
      have l1 := ha.lt
      have l2 := hb.ge
      exact ⟨ga, gb, rfl, rfl, by omega, (ha.keep b2).mono (by simp), hb.mono hs1, hc1⟩
  case rest =>
    obtain ⟨ga, gb, rfl, rfl, hne, ha, hb, hbv⟩ := hcut
    clear HS KC1 KC2
    have HL := Lib.hid hlen
    have HL2 := Lib.hid hlen2
    clear hlen hlen2
    go_wp2_with fail
    go_loopw [17] (fun i wr => ∃ k : Nat, k ≤ L.length ∧ i = .int .i64 (k : Int) ∧ Hs wr v1.heap.size ga (k1 ++ joinK L k) ∧ Hs wr v1.heap.size gb k2 ∧ Below v1.heap.size v1 wr) (fun i _ => L.length - (intOf i).toNat)
    case atStart => exact ⟨0, Nat.zero_le _, rfl, by rw [joinK_zero, List.append_nil]; exact ha, hb, hbv⟩
    case round =>
      clear ha hb hbv
      obtain ⟨k, hk, rfl, hA, hB2, hbr⟩ := hrel
      by_cases hlt : k < L.length
      · have g3 : (k : Int) < (L.length : Int) := by omega
        have g4 : (0 : Int) ≤ (k : Int) := by omega
        obtain ⟨bl, ol, rfl, hbl, Ak, ck, cc0, rk⟩ := hl1.at_ hlt
        have cc := (hbr.cell (p := ⟨bl, ol + k, none⟩) hbl).trans cc0
        have KW := Lib.hid (hwriteE (B := v1.heap.size) (g := ga) (bs := k1 ++ joinK L k) (b := row L k) (by rw [List.length_append]; have := row_le hlt; have := HL.out; omega) HG4 wr (hG1.next hbr) hA ((rk.keep hbr).mono hbr.size) (rk.offE hA.ge))
        have HLT := Lib.hid hlt
        have hkn : k < 1000 := by omega
        clear cc0
        go_wp2_with fail
        go_at_call 29
        refine KW.out.mono ?_
        rintro e v2 ⟨rfl, hA2, hx⟩
        have hb2 := hx.below hA.ge hbr.size
        go_wp2_with fail
        exact ⟨⟨k + 1, HLT.out, by go_num, by rw [joinK_succ HLT.out, ← List.append_assoc]; exact hA2, hB2.ex hx (Ne.symm hne), hbr.trans hb2⟩, by have := HLT.out; simp [intOf]; omega⟩
      · obtain rfl : k = L.length := by omega
        rw [joinK_full] at hA
        obtain ⟨v3, e3⟩ : ∃ v, v = wr := ⟨_, rfl⟩
        rw [← e3] at hA hB2 hbr ⊢
        clear e3 hl1
        have hG3 := hG1.next hbr
        have KS1 := Lib.hid (hsum (bs := k1 ++ joinL L) (by rw [List.length_append]; exact HL.out) v3 hG3 hA)
        go_wp2_with fail
        go_at_call 30
        refine KS1.out.mono ?_
        rintro e v4 ⟨gs, rfl, os, b4⟩
        have h4 := hB2.keep b4
        have hbr4 := hbr.trans (b4.mono hbr.size)
        have hll := sumN_len7 smallS (k1 ++ joinL L)
        rw [← ESI.out] at os hll
        have hrs := own_bvf os hll
        have hof : Off gb (some ⟨gs, 0, none⟩) := fun ad e => by
          have h1 := OwnF.ge os
          have h2 := hB2.lt
          cases e
          show gs ≠ gb
          omega
        replace hll : si.length = 32 := hll
        have hW := hwriteE (B := v1.heap.size) (g := gb) (A := some ⟨gs, 0, none⟩) (c := 32) (bs := k2) (b := si) (by rw [hll]; have := HL2.out; omega) HG4 v4 (hG3.next b4) h4 hrs hof.e
        rw [hll] at hW
        have KW := Lib.hid hW
        have HLL := Lib.hid hll
        clear hW hof hrs os hll KS1 hA hB2
        go_wp2_with fail
        go_at_call 29
        refine KW.out.mono ?_
        rintro e v5 ⟨rfl, h5, hx⟩
        have hbr5 := hbr4.trans (hx.below h4.ge hbr4.size)
        have KS2 := Lib.hid (hsum (bs := k2 ++ si) (by rw [List.length_append, HLL.out]; have := HL2.out; omega) v5 (hG1.next hbr5) h5)
        clear KW
        go_wp2_with fail
        go_at_call 30
        refine KS2.out.mono ?_
        rintro e v6 ⟨g6, rfl, o6, b6⟩
        have hr6 := own_bvf o6 (sumN_len7 smallS (k2 ++ si))
        have hg6 : w.heap.size ≤ g6 := by
          have := OwnF.ge o6
          have := hc.size
          have := hbr5.size
          omega
        have hfin := hc.trans ((hbr5.trans (b6.mono hbr5.size)).mono hc.size)
        clear o6 KS2 h5 h4
        go_wp2_with fail
        go_ret
        exact ⟨_, rfl, hg6, hr6, hfin⟩
end
end Go.Proofs.YtbofehdihflkiaaDoor
namespace Go.Proofs.YtbofehdihflkiaaDoor
open Go Go.RowKit
set_option maxRecDepth 20000
/-- append of a slice that reads as bytes onto a row of the call's own that has room for it. -/
theorem wpList_fit {P : Program} (w : World) {ops : Array Oper} {rest : List Oper} {o : Oper} {a : Act} {Q : Exit → Act → World → Prop} (hgd : o.guard = none) (s x : Operand) (t : TypeId)
    (ho : o.op = .call { callee := .builtin .append, args := #[s, x], argTypes := #[t, t] })
    (base : Nat) (e : TypeId) (i : TypeInfo) (ht : P.underlying t = some (.slice e)) (hi : P.info? e = some i) (hsize : i.size = 1) {g cs n m k : Nat} {xs bs : List UInt8} (hn : xs.length = n) (hm : bs.length = m) (hk : n + m = k) (hs : a.eval s = .slice (some ⟨g, 0, none⟩) n cs) (hown : Own w base e (some ⟨g, 0, none⟩) cs xs)
    {B c : Nat} {A : Option Addr} (hx : a.eval x = .slice A m c) (hr : Rd w B A c bs) (hroom : k ≤ cs)
    (h : ∀ w', Own w' base e (some ⟨g, 0, none⟩) cs (xs ++ bs) → Ex g w w' → wpList P ops Q rest (a.put o.dst (.slice (some ⟨g, 0, none⟩) k cs)) w') : wpList P ops Q (o :: rest) a w := by
  subst hk
  subst hn
  subst hm
  have key : ∃ w', (Builtin.append_ #[t, t] o.type #[.slice (some ⟨g, 0, none⟩) xs.length cs, .slice A bs.length c]).run P w = .ok (.slice (some ⟨g, 0, none⟩) (xs.length + bs.length) cs) w' ∧ Own w' base e (some ⟨g, 0, none⟩) cs (xs ++ bs) ∧ Ex g w w' := by
    rcases A with _ | ad
    · obtain ⟨rfl, rfl⟩ := hr.nil rfl
      refine ⟨w, ?_, by rw [List.append_nil]; exact hown, Ex.refl g w⟩
      exact run_append_owned_none (P := P) w base t o.type e i 1 ht hi _ _ _ hown
    · obtain ⟨w', hrun, h2, h3⟩ := run_append_fits (P := P) w base t o.type e i 1 ht hi hsize g xs.length cs (xs.map bv) hown ad bs.length c (bs.map bv) (by simp) (hr.cells rfl) (ones bs) hroom
      refine ⟨w', hrun, ?_, ⟨h3.os, h3.tape, h3.output, h3.size, fun k hk hne => h3.block k hk (by simpa using hne)⟩⟩
      unfold Own
      rw [List.length_append, List.map_append]
      exact h2
  obtain ⟨w', hrun, h2, h3⟩ := key
  refine wpList_plain hgd fun _ hK => ?_
  unfold Oper.wp execOp
  simp only [ho, resolve, invoke, builtin, Sem.run_bind, Sem.run_pure, Result.andThen_ok, List.map_toArray, List.map_cons, List.map_nil, hs, hx, hrun]
  exact hK _ _ (h w' h2 h3)
/-- 'make([]byte, 0, n)'. -/
theorem run_mk0 {P : Program} (t e : TypeId) (i : TypeInfo) (ht : P.underlying t = some (.slice e)) (hi : P.info? e = some i) (hz : i.zero = some (.int .u8 0))
    (hsize : i.size = 1) (hby : i.bytes = 1) {n : Nat} (hn : n ≤ 281474976710656) (w : World) :
    (Instr.makeSlice t (.int .i64 0) (.int .i64 (n : Int))).run P w = .ok (.slice (some ⟨w.heap.size, 0, none⟩) 0 n) (w.alloc (.cells (madeCells #[.int .u8 0] n) e)) := by
  have h := run_make (P := P) w t e i (.int .u8 0) ht hi hz .i64 .i64 0 n (by omega) (by omega) (by rw [hby]; omega) (by omega)
  simpa [hsize, Value.cells] using h
theorem Own.made0 {w : World} {B n : Nat} (e : TypeId) (hB : B ≤ w.heap.size) (hn : n ≤ maxLen) : Own (w.alloc (.cells (madeCells #[.int .u8 0] n) e)) B e (some ⟨w.heap.size, 0, none⟩) n [] :=
  World.ownsRow_made w _ n hB hn (by simp [madeCells])
theorem Own.ex {w w' : World} {B c b g : Nat} {e : TypeId} {bs : List UInt8} (h : Own w B e (some ⟨b, 0, none⟩) c bs) (hx : Ex g w w') (hlt : b < w.heap.size) (hne : b ≠ g) : Own w' B e (some ⟨b, 0, none⟩) c bs := by
  obtain ⟨hl, h2⟩ := h
  refine ⟨hl, ?_⟩
  rcases h2 with h | ⟨g1, cap, cur, hv, hB, hh, r⟩
  · exact .inl h
  · have e1 : b = g1 := by simp only [Value.slice.injEq, Option.some.injEq, Addr.mk.injEq] at hv; exact hv.1.1
    subst e1
    exact .inr ⟨b, cap, cur, hv, hB, (hx.block b hlt hne).trans hh, r⟩
theorem Own.lt {w : World} {B c b : Nat} {e : TypeId} {bs : List UInt8} (h : Own w B e (some ⟨b, 0, none⟩) c bs) : b < w.heap.size := (World.ownsRow.lt h b rfl).2
/-- Lists that have just been laid in a row. -/
theorem rds_lit {w : World} (ty : TypeId) (cs : Array Value) (L : List (List UInt8)) (h : ∀ k, k < L.length → ∃ Ak ck, cs[k]? = some (.slice Ak (row L k).length ck) ∧ Rd w w.heap.size Ak ck (row L k)) :
    Rds (w.alloc (.cells cs ty)) (w.alloc (.cells cs ty)).heap.size (some ⟨w.heap.size, 0, none⟩) L.length L := by
  have hx := (Below.refl w.heap.size w).alloc (Nat.le_refl _) (.cells cs ty)
  refine ⟨Nat.le_refl _, fun h => by simp at h, fun _ => ⟨w.heap.size, 0, rfl, by simp, fun k hk => ?_⟩⟩
  obtain ⟨Ak, ck, h1, h2⟩ := h k hk
  refine ⟨Ak, ck, ?_, (h2.keep hx).mono hx.size⟩
  have hb : (w.alloc (.cells cs ty)).heap[w.heap.size]? = some (.cells cs ty) := by
    show (w.heap.push (.cells cs ty))[w.heap.size]? = _
    simp
  unfold World.cell?
  simp only [hb, Nat.zero_add]
  exact h1
theorem rds_one {w : World} (ty : TypeId) {A : Option Addr} {c : Nat} {b : List UInt8} (h : Rd w w.heap.size A c b) : Rds (w.alloc (.cells #[.slice A b.length c] ty)) (w.alloc (.cells #[.slice A b.length c] ty)).heap.size (some ⟨w.heap.size, 0, none⟩) 1 [b] :=
  rds_lit ty #[.slice A b.length c] [b] fun k hk => by
    obtain rfl : k = 0 := by simp at hk; omega
    exact ⟨A, c, rfl, h⟩
theorem rds_three {w : World} (ty : TypeId) {A0 A1 A2 : Option Addr} {c0 c1 c2 : Nat} {b0 b1 b2 : List UInt8} (h0 : Rd w w.heap.size A0 c0 b0) (h1 : Rd w w.heap.size A1 c1 b1) (h2 : Rd w w.heap.size A2 c2 b2) :
    Rds (w.alloc (.cells #[.slice A0 b0.length c0, .slice A1 b1.length c1, .slice A2 b2.length c2] ty)) (w.alloc (.cells #[.slice A0 b0.length c0, .slice A1 b1.length c1, .slice A2 b2.length c2] ty)).heap.size (some ⟨w.heap.size, 0, none⟩) 3 [b0, b1, b2] :=
  rds_lit ty #[.slice A0 b0.length c0, .slice A1 b1.length c1, .slice A2 b2.length c2] [b0, b1, b2] fun k hk => by
    have hk' : k < 3 := hk
    match k, hk' with
    | 0, _ => exact ⟨A0, c0, rfl, h0⟩
    | 1, _ => exact ⟨A1, c1, rfl, h1⟩
    | 2, _ => exact ⟨A2, c2, rfl, h2⟩
theorem macN_eq (key b : List UInt8) : macN key b = sumN smallS (xk (keyN key) 92 ++ sumN smallS (xk (keyN key) 54 ++ b)) := rfl
theorem extN_eq (salt key : List UInt8) : extN salt key = macN salt key := by
  unfold extN
  by_cases h : salt.length = 0
  · obtain rfl : salt = [] := List.eq_nil_of_length_eq_zero h
    rw [if_pos (show ([] : List UInt8).length = 0 from rfl), macN_eq, macN_eq]
    have e1 : keyN (List.replicate 32 0) = [] ++ List.replicate 32 0 := rfl
    have e2 : keyN [] = [] := rfl
    rw [e1, e2, xk_noughts, xk_noughts]
  · rw [if_neg h]
section
attribute [local irreducible] rl setA bvf xk sumN macN
set_option maxHeartbeats 3200000 in
theorem codeMac_any {A A' : Option Addr} {c c' : Nat} {key b : List UInt8} (hkl : key.length ≤ 1000000) (hbl : b.length ≤ 1000000) (w : World) (hG : Glb w) (hr : Rd w w.heap.size A c key) (hs : Rd w w.heap.size A' c' b) :
    Calls Tryd.prog 11 #[.slice A key.length c, .slice A' b.length c'] w fun e w' => ∃ A2 c2, e = .returned (.slice A2 32 c2) ∧ Rd w' w'.heap.size A2 c2 (macN key b) ∧ Below w.heap.size w w' := by
  have KN := Lib.hid (coder_any (by omega) w hG hr (Nat.le_refl _))
  rw [macN_eq]
  obtain ⟨k1, e1⟩ : ∃ k, k = xk (keyN key) 54 := ⟨_, rfl⟩
  obtain ⟨k2, e2⟩ : ∃ k, k = xk (keyN key) 92 := ⟨_, rfl⟩
  have l1 : k1.length = 64 := by rw [e1]; exact xk_len _ _
  have l2 : k2.length = 64 := by rw [e2]; exact xk_len _ _
  rw [← e1, ← e2]
  rw [← e1, ← e2] at KN
  clear e1 e2
  go_enter Tryd.func11, Tryd.ntmps11
  go_wp2_with fail
  go_at_call 20
  refine KN.out.mono ?_
  rintro e v1 ⟨g1, g2, rfl, h1, h2, hc⟩
  have hs1 := (hs.keep hc).mono hc.size
  have hx := (Below.refl v1.heap.size v1).alloc (Nat.le_refl _) (.cells #[.slice A' b.length c'] 22)
  have hL := rds_one 22 hs1
  have KM := cmac_any (k1 := k1) (k2 := k2) (L := [b]) (show 1 ≤ 1000 by decide) (by simp [joinL]; omega) (by omega) _ ((hG.next hc).next hx) (h1.keep hx) (h2.keep hx) hL
  rw [show joinL [b] = b by simp [joinL]] at KM
  have KM2 := Lib.hid KM
  have hfin := hc.trans (hx.mono hc.size)
  clear KM hL hs1 h1 h2 KN hr hs hG
  go_wp2_with fail
  go_at_call 21
  refine KM2.out.mono ?_
  rintro e v3 ⟨g', rfl, _, r, hb⟩
  go_wp2_with fail
  go_ret
  exact ⟨_, _, rfl, r, hfin.trans (hb.mono hfin.size)⟩
set_option maxHeartbeats 3200000 in
theorem codeExtract_any {A A' : Option Addr} {c c' : Nat} {salt key : List UInt8} (hkl : salt.length ≤ 1000000) (hbl : key.length ≤ 1000000) (w : World) (hG : Glb w) (hr : Rd w w.heap.size A c salt) (hs : Rd w w.heap.size A' c' key) :
    Calls Tryd.prog 13 #[.slice A salt.length c, .slice A' key.length c'] w fun e w' => ∃ A2 c2, e = .returned (.slice A2 32 c2) ∧ Rd w' w'.heap.size A2 c2 (extN salt key) ∧ Below w.heap.size w w' := by
  have KM := Lib.hid (codeMac_any hkl hbl w hG hr hs)
  rw [extN_eq]
  go_enter Tryd.func13, Tryd.ntmps13
  go_wp2_with fail
  go_at_call 11
  refine KM.out.mono ?_
  rintro e v1 ⟨A2, c2, rfl, r, hb⟩
  go_wp2_with fail
  go_ret
  exact ⟨_, _, rfl, r, hb⟩
end
end Go.Proofs.YtbofehdihflkiaaDoor
