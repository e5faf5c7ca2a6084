/-
  Layer 14: what is asked of the landed code; own, awake; PadBuckets, PadPads, PadHides over that. By an AI agent.
-/
import Derived.Test.YthamhpgjjbiplaaDoorPd3
namespace Go.Proofs.YthamhpgjjbiplaaDoor
open Go Go.RowKit
set_option maxRecDepth 20000
/-- What is asked of the code, in worlds that are so. -/
structure PadC (G : World → Prop) : Prop where
  next : ∀ {w w'}, G w → Below w.heap.size w w' → G w'
  bucket : ∀ (n : Int) (w : World), G w → Calls Tryd.prog 8 #[.int .i64 n] w fun e w' => e = .returned (.tuple #[.int .i64 (bktA n : Int), .int .i64 (bktE n : Int)]) ∧ Below w.heap.size w w'
  pad : ∀ {A : Option Addr} {c : Nat} {b : List UInt8} (w : World), G w → Rd w w.heap.size A c b → Calls Tryd.prog 12 #[.slice A b.length c] w fun e w' => ∃ A' c', e = .returned (.tuple #[.slice A' (padA b).length c', .int .i64 (padE b : Int)]) ∧ Own w' w.heap.size 5 A' c' (padA b) ∧ Below w.heap.size w w'
  unpad : ∀ {A : Option Addr} {c : Nat} {b : List UInt8} (w : World), G w → Rd w w.heap.size A c b → Calls Tryd.prog 14 #[.slice A b.length c] w fun e w' => ∃ A' c', e = .returned (.tuple #[.slice A' (unA b).length c', .int .i64 (unE b : Int)]) ∧ Own w' w.heap.size 5 A' c' (unA b) ∧ Below w.heap.size w w'
theorem own14_any {A : Option Addr} {B c : Nat} {bs : List UInt8} (w : World) (hr : Rd w B A c bs) (hB : B ≤ w.heap.size) (hl : bs.length ≤ 140737488355328) :
    Calls Tryd.prog 11 #[.slice A bs.length c] w fun e w' => ∃ A' c', e = .returned (.slice A' bs.length c') ∧ Own w' w.heap.size 5 A' c' bs ∧ Below w.heap.size w w' := by
  obtain ⟨i0, hi, hz0, hz1, hz2⟩ := info_parts infoU8
  have h2 : Rd (w.alloc (.cells #[] 5)) B A c bs := hr.keep ((Below.refl B w).alloc hB _)
  have h3 : Own (w.alloc (.cells #[] 5)) w.heap.size 5 (some ⟨w.heap.size, 0, none⟩) 0 [] := World.ownsRow_made w #[] 0 (Nat.le_refl _) (by decide) (by decide)
  have h4 : Below w.heap.size w (w.alloc (.cells #[] 5)) := (Below.refl _ w).alloc (Nat.le_refl _) _
  go_enter Tryd.func11, Tryd.ntmps11
  go_wp2_with (at_builtin; refine wpList_app _ rfl (.tmp 3) (.tmp 4) _ rfl w.heap.size 5 i0 _ Tryd.underlying27 hi hz0 hz1 hz2 rfl (xs := []) rfl h3 rfl h2 (by simpa using hl) (by simp) ?_; intro A1 c1 v1 ho hb)
  replace ho : Own v1 w.heap.size 5 A1 c1 bs := ho
  go_ret
  exact ⟨A1, c1, rfl, ho, h4.trans hb⟩
theorem own14_len {A : Option Addr} {B c n : Nat} {bs : List UInt8} (hn : bs.length = n) (w : World) (hr : Rd w B A c bs) (hB : B ≤ w.heap.size) (hl : n ≤ 140737488355328) :
    Calls Tryd.prog 11 #[.slice A n c] w fun e w' => ∃ A' c', e = .returned (.slice A' n c') ∧ Own w' w.heap.size 5 A' c' bs ∧ Below w.heap.size w w' := by
  subst hn
  exact own14_any w hr hB hl
theorem own_at014 {w : World} {B c : Nat} {e : TypeId} {A : Option Addr} {bs : List UInt8} (h : Own w B e A c bs) (hn : bs ≠ []) : ∃ g, A = some ⟨g, 0, none⟩ := by
  obtain ⟨_, h2⟩ := h
  rcases h2 with ⟨hv, h0⟩ | ⟨g, cap, cur, hv, _⟩
  · have : bs = [] := by
      cases bs with
      | nil => rfl
      | cons x r => simp at h0
    exact absurd this hn
  · simp only [Value.slice.injEq] at hv
    exact ⟨g, hv.1⟩
theorem padL_nil : padL [] = 128 :: List.replicate 63 0 := rfl
theorem str14 {n : Nat} (w : World) {A : Option Addr} {c : Nat} {bs : List UInt8} (hl : bs.length = n) (h : Rd w w.heap.size A c bs) : (convert 27 9 (.slice A n c)).run Tryd.prog w = .ok (.string ⟨bs.toArray⟩) w := by
  subst hl
  exact run_str (P := Tryd.prog) w 27 5 Tryd.underlying27 Tryd.underlying5 (dst := 9) Tryd.underlying9 h
section
variable {G : World → Prop} (K : PadC G)
include K
theorem pc_pad {A : Option Addr} {c n m : Nat} {b P : List UInt8} (hn : b.length = n) (hP : padA b = P) (hm : P.length = m) (w : World) (hG : G w) (hr : Rd w w.heap.size A c b) : Calls Tryd.prog 12 #[.slice A n c] w fun e w' => ∃ A' c', e = .returned (.tuple #[.slice A' m c', .int .i64 (padE b : Int)]) ∧ Own w' w.heap.size 5 A' c' P ∧ Below w.heap.size w w' := by
  subst hn hP hm
  exact K.pad w hG hr
theorem pc_unpad {A : Option Addr} {c n m : Nat} {b U : List UInt8} (hn : b.length = n) (hU : unA b = U) (hm : U.length = m) (w : World) (hG : G w) (hr : Rd w w.heap.size A c b) : Calls Tryd.prog 14 #[.slice A n c] w fun e w' => ∃ A' c', e = .returned (.tuple #[.slice A' m c', .int .i64 (unE b : Int)]) ∧ Own w' w.heap.size 5 A' c' U ∧ Below w.heap.size w w' := by
  subst hn hU hm
  exact K.unpad w hG hr
set_option maxHeartbeats 1600000 in
theorem awake14 (w : World) (hG : G w) : Calls Tryd.prog 10 #[] w fun e w' => e = .returned (.bool true) ∧ Below w.heap.size w w' := by
  have KB := Lib.hid (K.bucket 64 w hG)
  rw [show bktA 64 = 128 from rfl, show bktE 64 = 0 from rfl] at KB
  have hp : padA [] = 128 :: List.replicate 63 0 := rfl
  have hu := un_pad (u := []) (by decide)
  rw [padL_nil] at hu
  have HU := Lib.hid hu
  have HP := Lib.hid hp
  clear hp hu
  go_enter Tryd.func10, Tryd.ntmps10
  go_wp2_with fail
  go_at_call 8
  refine KB.out.mono ?_
  rintro z v1 ⟨rfl, hc⟩
  replace hG := K.next hG hc
  clear KB
  have KP := Lib.hid (pc_pad K (m := 64) rfl HP.out rfl v1 hG (b := []) (A := none) (c := 0) ⟨Nat.le_refl _, fun _ => ⟨rfl, rfl⟩, fun h => absurd rfl h⟩)
  rw [show padE [] = 0 from rfl] at KP
  go_wp2_with fail
  go_at_call 12
  refine KP.out.mono ?_
  rintro z v2 ⟨Ap, cp, rfl, op, h0⟩
  replace hG := K.next hG h0
  replace hc := hc.trans (h0.mono hc.size)
  clear h0 KP
  obtain ⟨g, rfl⟩ := own_at014 op (by simp)
  have KU := Lib.hid (pc_unpad K (m := 0) rfl HU.out.1 rfl v2 hG op.rd)
  rw [HU.out.2] at KU
  go_wp2_with fail
  go_at_call 14
  refine KU.out.mono ?_
  rintro z v3 ⟨Au, cu, rfl, ou, h0⟩
  replace hG := K.next hG h0
  replace hc := hc.trans (h0.mono hc.size)
  replace op := op.keep h0
  have cl := op.cell (k := 0) (by simp)
  have e0 : ((nth (128 :: List.replicate 63 (0 : UInt8)) 0 : Nat) : Int) = 128 := rfl
  rw [e0] at cl
  have HC := Lib.hid hc
  clear h0 KU op ou hc e0 HU HP
  go_wp2_with fail
  go_ret
  exact ⟨rfl, HC.out⟩
set_option maxHeartbeats 1600000 in
theorem padbuckets_law {n : Int} (w : World) (hG : G w) : Calls Tryd.prog 3 #[.int .i64 n] w fun e w' => e = .returned (.bool true) ∧ Below w.heap.size w w' := by
  obtain ⟨a, ea⟩ : ∃ a, a = bktA n := ⟨_, rfl⟩
  obtain ⟨e, ee⟩ : ∃ e, e = bktE n := ⟨_, rfl⟩
  have KB := Lib.hid (K.bucket n w hG)
  have KR := Lib.hid (fun v => rbkt_any n v)
  rw [← ea, ← ee] at KB KR
  clear ea ee
  go_enter Tryd.func3, Tryd.ntmps3
  go_wp2_with fail
  go_at_call 8
  refine KB.out.mono ?_
  rintro z v1 ⟨rfl, hc⟩
  replace hG := K.next hG hc
  go_wp2_with fail
  go_at_call 9
  refine (KR.out v1).mono ?_
  rintro z v2 ⟨rfl, h0⟩
  replace hG := K.next hG h0
  replace hc := hc.trans (h0.mono hc.size)
  clear h0 KB KR
  go_wp2_with fail
  go_at_call 10
  refine (awake14 K v2 hG).mono ?_
  rintro z v3 ⟨rfl, h0⟩
  have HC := Lib.hid (hc.trans (h0.mono hc.size))
  clear h0 hc
  go_wp2_with fail
  go_ret
  exact ⟨rfl, HC.out⟩
set_option maxHeartbeats 3200000 in
theorem padpads_law {A : Option Addr} {c : Nat} {b : List UInt8} (hl : b.length ≤ 140737488351232) (w : World) (hG : G w) (hr : Rd w w.heap.size A c b) : Calls Tryd.prog 4 #[.slice A b.length c] w fun e w' => e = .returned (.bool true) ∧ Below w.heap.size w w' := by
  obtain ⟨n, en⟩ : ∃ n, n = b.length := ⟨_, rfl⟩
  obtain ⟨P, eP⟩ : ∃ P, P = padA b := ⟨_, rfl⟩
  obtain ⟨e, ee⟩ : ∃ e, e = padE b := ⟨_, rfl⟩
  obtain ⟨m, em⟩ : ∃ m, m = P.length := ⟨_, rfl⟩
  have KP := Lib.hid (fun (A : Option Addr) (c : Nat) (v : World) (hG : G v) (h : Rd v v.heap.size A c b) => pc_pad K en.symm eP.symm em.symm v hG h)
  have KR := Lib.hid (fun (A : Option Addr) (c : Nat) (v : World) (h : Rd v v.heap.size A c b) => rpad_len en.symm v h (Nat.le_refl _))
  rw [← ee] at KP KR
  rw [← eP, ← em] at KR
  rw [← en] at hl ⊢
  have HN := Lib.hid en.symm
  have HM := Lib.hid em.symm
  have HL := Lib.hid hl
  clear en eP ee em hl
  go_enter Tryd.func4, Tryd.ntmps4
  go_wp2_with fail
  go_at_call 11
  refine (own14_len HN.out w hr (Nat.le_refl _) (by have := HL.out; omega)).mono ?_
  rintro z v1 ⟨Ax, cx, rfl, ox, hc⟩
  replace hr := (hr.keep hc).mono hc.size
  replace hG := K.next hG hc
  have rx := ox.rd
  clear ox
  go_wp2_with fail
  go_at_call 12
  refine (KP.out _ _ v1 hG rx).mono ?_
  rintro z v2 ⟨Ap, cp, rfl, op, h0⟩
  replace hr := (hr.keep h0).mono h0.size
  replace rx := (rx.keep h0).mono h0.size
  replace hG := K.next hG h0
  replace hc := hc.trans (h0.mono hc.size)
  have rp := op.rd
  clear op h0
  go_wp2_with fail
  go_at_call 13
  refine (KR.out _ _ v2 hr).mono ?_
  rintro z v3 ⟨Aq, cq, rfl, oq, h0⟩
  replace hr := (hr.keep h0).mono h0.size
  replace rx := (rx.keep h0).mono h0.size
  replace rp := (rp.keep h0).mono h0.size
  replace hG := K.next hG h0
  replace hc := hc.trans (h0.mono hc.size)
  have rq := oq.rd
  have s1 := str14 v3 HM.out rp
  have s2 := str14 v3 HM.out rq
  have s3 := str14 v3 HN.out rx
  have s4 := str14 v3 HN.out hr
  have HG := Lib.hid hG
  clear oq h0 hr rx rp rq KP KR hG
  go_wp2_with fail
  go_at_call 10
  refine (awake14 K v3 HG.out).mono ?_
  rintro z v4 ⟨rfl, h0⟩
  have HC := Lib.hid (hc.trans (h0.mono hc.size))
  clear h0 hc
  go_wp2_with fail
  go_ret
  exact ⟨rfl, HC.out⟩
end
end Go.Proofs.YthamhpgjjbiplaaDoor
