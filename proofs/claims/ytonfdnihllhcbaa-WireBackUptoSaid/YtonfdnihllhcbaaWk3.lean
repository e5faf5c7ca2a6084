/-
  The landed reader of layer 13: what it stands for; Read, Left, Err, End, Fail. By an AI agent.
-/
import Derived.Test.YtonfdnihllhcbaaWk2
import Derived.Deep.QuietTactic
import Derived.BigQuiet
namespace Go.Proofs.Ytonfdnihllhcbaa
open Go Go.RowKit
set_option maxRecDepth 20000
section
variable {w w' : World} {B : Nat} {e : TypeId}
theorem OwnF.same {c n g : Nat} {f : Nat → Value} (h : OwnF w B e (some ⟨g, 0, none⟩) c n f) (hs : w'.heap[g]? = w.heap[g]?) : OwnF w' B e (some ⟨g, 0, none⟩) c n f := by
  obtain ⟨hl, h2⟩ := h
  refine ⟨hl, ?_⟩
  rcases h2 with h | ⟨g1, cap, cur, hv, hB, hh, r⟩
  · exact .inl h
  · have e1 : g = g1 := by simp only [Value.slice.injEq, Option.some.injEq, Addr.mk.injEq] at hv; exact hv.1.1
    subst e1
    exact .inr ⟨g, cap, cur, hv, hB, hs.trans hh, r⟩
theorem Own.same {A : Option Addr} {c : Nat} {bs : List UInt8} (h : Own w B e A c bs) (hs : ∀ ad, A = some ad → w'.heap[ad.block]? = w.heap[ad.block]?) : Own w' B e A c bs := by
  obtain ⟨hl, h2⟩ := h
  refine ⟨hl, ?_⟩
  rcases h2 with h | ⟨g1, cap, cur, hv, hB, hh, r⟩
  · exact .inl h
  · have e1 : A = some ⟨g1, 0, none⟩ := by simp only [Value.slice.injEq] at hv; exact hv.1
    exact .inr ⟨g1, cap, cur, hv, hB, (hs _ e1).trans hh, r⟩
end
/-- The four cells of a reader. -/
def rdV (A : Option Addr) (n c a : Nat) (e : Int) (k : Nat) : Value := if k = 0 then .slice A n c else if k = 1 then .int .i64 (a : Int) else if k = 2 then .bool true else .int .i64 e
abbrev ORd (w : World) (B g : Nat) (A : Option Addr) (n c a : Nat) (e : Int) : Prop := OwnF w B 52 (some ⟨g, 0, none⟩) 4 4 (rdV A n c a e)
section
variable {w w' : World} {B g n c a : Nat} {A : Option Addr} {e : Int}
theorem ORd.c0 (h : ORd w B g A n c a e) : w.cell? ⟨g, 0, none⟩ = some (.slice A n c) := OwnF.cell h (k := 0) (by decide)
theorem ORd.c1 (h : ORd w B g A n c a e) : w.cell? ⟨g, 1, none⟩ = some (.int .i64 (a : Int)) := OwnF.cell h (k := 1) (by decide)
theorem ORd.c2 (h : ORd w B g A n c a e) : w.cell? ⟨g, 2, none⟩ = some (.bool true) := OwnF.cell h (k := 2) (by decide)
theorem ORd.c3 (h : ORd w B g A n c a e) : w.cell? ⟨g, 3, none⟩ = some (.int .i64 e) := OwnF.cell h (k := 3) (by decide)
theorem ORd.setAt (h : ORd w B g A n c a e) (a2 : Nat) : ORd (w.setCell ⟨g, 1, none⟩ (.int .i64 (a2 : Int))) B g A n c a2 e := by
  refine OwnF.congr (OwnF.set_ h 1 (.int .i64 (a2 : Int))) fun k hk => ?_
  have : k = 0 ∨ k = 1 ∨ k = 2 ∨ k = 3 := by omega
  rcases this with rfl | rfl | rfl | rfl <;> rfl
theorem ORd.setErr (h : ORd w B g A n c a e) (e2 : Int) : ORd (w.setCell ⟨g, 3, none⟩ (.int .i64 e2)) B g A n c a e2 := by
  refine OwnF.congr (OwnF.set_ h 3 (.int .i64 e2)) fun k hk => ?_
  have : k = 0 ∨ k = 1 ∨ k = 2 ∨ k = 3 := by omega
  rcases this with rfl | rfl | rfl | rfl <;> rfl
theorem ORd.setPlace (h : ORd w B g A n c a e) (A2 : Option Addr) (n2 c2 a2 : Nat) : ORd ((w.setCell ⟨g, 0, none⟩ (.slice A2 n2 c2)).setCell ⟨g, 1, none⟩ (.int .i64 (a2 : Int))) B g A2 n2 c2 a2 e := by
  refine OwnF.congr (OwnF.set_ (OwnF.set_ h 0 (.slice A2 n2 c2)) 1 (.int .i64 (a2 : Int))) fun k hk => ?_
  have : k = 0 ∨ k = 1 ∨ k = 2 ∨ k = 3 := by omega
  rcases this with rfl | rfl | rfl | rfl <;> rfl
end
theorem OutB.one_ {B C g : Nat} {w w' : World} (h : Only g w w') (h1 : B ≤ g) (h2 : g < C) : OutB B C w w' :=
  ⟨h.os, h.tape, h.output, Nat.le_of_eq h.size.symm, fun k _ hn => h.block k (by rintro rfl; exact hn ⟨h1, h2⟩)⟩
/-- A reader at block g: its bytes are the row's at A, of which a stand ahead of it. -/
structure RdAt (w : World) (B C g : Nat) (A : Option Addr) (c : Nat) (all : List UInt8) (a : Nat) (e : Int) : Prop where
  lo : B ≤ g
  hi : g < C
  top : C ≤ w.heap.size
  cells : ORd w B g A all.length c a e
  row : Own w B 5 A c all
  apart : ∀ ad, A = some ad → B ≤ ad.block ∧ ad.block < C ∧ ad.block ≠ g
  at_ : a ≤ all.length
  few : all.length ≤ 140737488355328
def RdrW : RdrP := fun w B C p bs e => ∃ g A c all a, p = .pointer (some ⟨g, 0, none⟩) ∧ RdAt w B C g A c all a e ∧ bs = all.drop a
theorem RdAt.keep {w w' : World} {B C g c a : Nat} {A : Option Addr} {all : List UInt8} {e : Int} (h : RdAt w B C g A c all a e) (hk : ∀ k, B ≤ k → k < C → w'.heap[k]? = w.heap[k]?) (hs : w.heap.size ≤ w'.heap.size) : RdAt w' B C g A c all a e :=
  ⟨h.lo, h.hi, Nat.le_trans h.top hs, OwnF.same h.cells (hk g h.lo h.hi), Own.same h.row (fun ad hA => hk _ (h.apart ad hA).1 (h.apart ad hA).2.1), h.apart, h.at_, h.few⟩
theorem RdAt.next {w w' : World} {B C g c a : Nat} {A : Option Addr} {all : List UInt8} {e : Int} (h : RdAt w B C g A c all a e) (hb : Below w.heap.size w w') : RdAt w' B C g A c all a e :=
  h.keep (fun k _ hk => hb.block k (Nat.lt_of_lt_of_le hk h.top)) hb.size
theorem RdAt.other {w : World} {B C g c a : Nat} {A : Option Addr} {all : List UInt8} {e : Int} (h : RdAt w B C g A c all a e) (k : Nat) (v : Value) : Own (w.setCell ⟨g, k, none⟩ v) B 5 A c all :=
  Own.same h.row fun ad hA => (Only.setCell w ⟨g, k, none⟩ v).block _ (h.apart ad hA).2.2
theorem RdAt.setAt {w : World} {B C g c a : Nat} {A : Option Addr} {all : List UInt8} {e : Int} (h : RdAt w B C g A c all a e) {a2 : Nat} (ha : a2 ≤ all.length) : RdAt (w.setCell ⟨g, 1, none⟩ (.int .i64 (a2 : Int))) B C g A c all a2 e ∧ OutB B C w (w.setCell ⟨g, 1, none⟩ (.int .i64 (a2 : Int))) :=
  have o := Only.setCell w ⟨g, 1, none⟩ (.int .i64 (a2 : Int))
  ⟨⟨h.lo, h.hi, by rw [o.size]; exact h.top, ORd.setAt h.cells a2, h.other 1 _, h.apart, ha, h.few⟩, OutB.one_ o h.lo h.hi⟩
theorem RdAt.setErr {w : World} {B C g c a : Nat} {A : Option Addr} {all : List UInt8} {e : Int} (h : RdAt w B C g A c all a e) (e2 : Int) : RdAt (w.setCell ⟨g, 3, none⟩ (.int .i64 e2)) B C g A c all a e2 ∧ OutB B C w (w.setCell ⟨g, 3, none⟩ (.int .i64 e2)) :=
  have o := Only.setCell w ⟨g, 3, none⟩ (.int .i64 e2)
  ⟨⟨h.lo, h.hi, by rw [o.size]; exact h.top, ORd.setErr h.cells e2, h.other 3 _, h.apart, h.at_, h.few⟩, OutB.one_ o h.lo h.hi⟩
theorem RdAt.setPlace {w : World} {B C g c a : Nat} {A : Option Addr} {all : List UInt8} {e : Int} (h : RdAt w B C g A c all a e) {a2 : Nat} (ha : a2 ≤ all.length) : RdAt ((w.setCell ⟨g, 0, none⟩ (.slice A all.length c)).setCell ⟨g, 1, none⟩ (.int .i64 (a2 : Int))) B C g A c all a2 e ∧ OutB B C w ((w.setCell ⟨g, 0, none⟩ (.slice A all.length c)).setCell ⟨g, 1, none⟩ (.int .i64 (a2 : Int))) :=
  have o := (Only.setCell w ⟨g, 0, none⟩ (.slice A all.length c)).trans (Only.setCell _ ⟨g, 1, none⟩ (.int .i64 (a2 : Int)))
  ⟨⟨h.lo, h.hi, by rw [o.size]; exact h.top, ORd.setPlace h.cells A all.length c a2, Own.same h.row fun ad hA => o.block _ (h.apart ad hA).2.2, h.apart, ha, h.few⟩, OutB.one_ o h.lo h.hi⟩
theorem Own.addr {w : World} {B c : Nat} {e : TypeId} {A : Option Addr} {bs : List UInt8} (h : Own w B e A c bs) : ∀ ad, A = some ad → B ≤ ad.block ∧ ad.block < w.heap.size := by
  intro ad hA
  obtain ⟨hl, h2⟩ := h
  rcases h2 with ⟨h, _⟩ | ⟨g1, cap, cur, hv, hB, hh, r⟩
  · rw [hA] at h
    simp at h
  · have e1 : A = some ⟨g1, 0, none⟩ := by simp only [Value.slice.injEq] at hv; exact hv.1
    rw [hA] at e1
    obtain rfl := Option.some.inj e1
    exact ⟨hB, (Array.getElem?_eq_some_iff.1 hh).1⟩
theorem read_code {A : Option Addr} {c : Nat} {bs : List UInt8} (w : World) (hr : Rd w w.heap.size A c bs) (hl : bs.length ≤ 140737488355320) :
    Calls Try.prog 17 #[.slice A bs.length c] w fun x w' => ∃ p, x = .returned p ∧ RdrW w' w.heap.size w'.heap.size p bs 0 ∧ Below w.heap.size w w' := by
  have K1 := Lib.hid (room_any (m := 0) rfl w hr (Nat.le_refl _) (by omega))
  have HL := Lib.hid hl
  clear hr hl
  go_enter Try.func17, Try.ntmps17
  go_wp2_with fail
  go_at_call 30
  refine K1.out.mono ?_
  rintro e v1 ⟨A1, c1, rfl, o1, h1⟩
  have oz : ORd (v1.alloc (.cells #[.slice A1 bs.length c1, .int .i64 0, .bool true, .int .i64 0] 52)) w.heap.size v1.heap.size A1 bs.length c1 0 0 := OwnF.lit _ h1.size #[.slice A1 bs.length c1, .int .i64 0, .bool true, .int .i64 0] 4 (rdV A1 bs.length c1 0 0) (by decide) rfl
  have hb := (Below.refl v1.heap.size v1).alloc (Nat.le_refl _) (.cells #[.slice A1 bs.length c1, .int .i64 0, .bool true, .int .i64 0] 52)
  have hq : RdAt (v1.alloc (.cells #[.slice A1 bs.length c1, .int .i64 0, .bool true, .int .i64 0] 52)) w.heap.size (v1.heap.size + 1) v1.heap.size A1 c1 bs 0 0 :=
    ⟨h1.size, Nat.lt_succ_self _, by simp, oz, o1.keep hb, fun ad hA => by have := o1.addr ad hA; omega, Nat.zero_le _, by have := HL.out; omega⟩
  have HQ := Lib.hid (And.intro hq (h1.trans (hb.mono h1.size)))
  have hs : (v1.alloc (.cells #[.slice A1 bs.length c1, .int .i64 0, .bool true, .int .i64 0] 52)).heap.size = v1.heap.size + 1 := by simp
  have HS := Lib.hid hs
  clear oz hb hq o1 h1 hs
  go_wp2_with fail
  go_ret
  refine ⟨_, rfl, ?_, HQ.out.2⟩
  rw [HS.out]
  exact ⟨_, _, _, _, _, rfl, HQ.out.1, rfl⟩
theorem left_code {w : World} {B C g c a : Nat} {A : Option Addr} {all : List UInt8} {e : Int} (h : RdAt w B C g A c all a e) :
    Calls Try.prog 36 #[.pointer (some ⟨g, 0, none⟩)] w fun x w' => x = .returned (.int .i64 ((all.length - a : Nat) : Int)) ∧ Below w.heap.size w w' := by
  have c0 := ORd.c0 h.cells
  have c1 := ORd.c1 h.cells
  have l1 := h.at_
  have l2 := h.few
  obtain ⟨d, ed⟩ : ∃ d : Nat, d = all.length - a := ⟨_, rfl⟩
  have e1 : (all.length : Int) - (a : Int) = (d : Int) := by omega
  rw [← ed]
  have HH := Lib.hid l2
  clear ed l1 h
  go_enter Try.func36, Try.ntmps36
  go_upto_region 1 with fail
  go_quiet (fail)
  all_goals
    go_wp2_with fail
    go_ret
    exact ⟨rfl, below_drewN _ _⟩
theorem err_code {w : World} {B C g c a : Nat} {A : Option Addr} {all : List UInt8} {e : Int} (h : RdAt w B C g A c all a e) :
    Calls Try.prog 20 #[.pointer (some ⟨g, 0, none⟩)] w fun x w' => x = .returned (.int .i64 e) ∧ Below w.heap.size w w' := by
  have c2 := ORd.c2 h.cells
  have c3 := ORd.c3 h.cells
  clear h
  go_enter Try.func20, Try.ntmps20
  go_wp2_with fail
  go_ret
  exact ⟨rfl, Below.refl _ _⟩
theorem rleft_code {w : World} {B C g c a : Nat} {A : Option Addr} {all : List UInt8} {e : Int} (h : RdAt w B C g A c all a e) :
    Calls Try.prog 21 #[.pointer (some ⟨g, 0, none⟩)] w fun x w' => x = .returned (.int .i64 ((all.length - a : Nat) : Int)) ∧ Below w.heap.size w w' := by
  have KL := Lib.hid (left_code h)
  clear h
  go_enter Try.func21, Try.ntmps21
  go_wp2_with fail
  go_at_call 36
  refine KL.out.mono ?_
  rintro x v1 ⟨rfl, h1⟩
  go_wp2_with fail
  go_ret
  exact ⟨rfl, h1⟩
theorem rend_code {w : World} {B C g c a : Nat} {A : Option Addr} {all : List UInt8} {e : Int} (h : RdAt w B C g A c all a e) :
    Calls Try.prog 22 #[.pointer (some ⟨g, 0, none⟩)] w fun x w' => x = .returned (.int .i64 (if e = 0 ∧ 0 < all.length - a then 4 else e)) ∧ Below w.heap.size w w' := by
  have KE := Lib.hid (err_code h)
  have KL := Lib.hid (fun v (hb : Below w.heap.size w v) => left_code (h.next hb))
  clear h
  obtain ⟨d, ed⟩ : ∃ d : Nat, d = all.length - a := ⟨_, rfl⟩
  rw [← ed] at KL ⊢
  clear ed
  obtain ⟨q, hq⟩ : ∃ q : Int, q = (if e = 0 ∧ 0 < d then 4 else e) := ⟨_, rfl⟩
  rw [← hq]
  by_cases he : e = 0
  · subst he
    by_cases hd : 0 < d
    · have HR := Lib.hid (show q = 4 by rw [hq, if_pos ⟨rfl, hd⟩])
      have g1 : (0 : Int) < (d : Int) := by omega
      clear hd hq
      go_enter Try.func22, Try.ntmps22
      go_wp2_with fail
      go_at_call 20
      refine KE.out.mono ?_
      rintro x v1 ⟨rfl, h1⟩
      go_wp2_with fail
      go_at_call 36
      refine (KL.out v1 h1).mono ?_
      rintro x v2 ⟨rfl, h2⟩
      go_wp2_with fail
      go_ret
      rw [HR.out]
      exact ⟨rfl, h1.trans (h2.mono h1.size)⟩
    · have HR := Lib.hid (show q = 0 by rw [hq, if_neg (by omega)])
      obtain rfl : d = 0 := by omega
      clear hd hq
      go_enter Try.func22, Try.ntmps22
      go_wp2_with fail
      go_at_call 20
      refine KE.out.mono ?_
      rintro x v1 ⟨rfl, h1⟩
      go_wp2_with fail
      go_at_call 36
      refine (KL.out v1 h1).mono ?_
      rintro x v2 ⟨rfl, h2⟩
      go_wp2_with fail
      go_ret
      rw [HR.out]
      exact ⟨rfl, h1.trans (h2.mono h1.size)⟩
  · have HR := Lib.hid (show q = e by rw [hq, if_neg (fun h => he h.1)])
    have g1 : (e != 0) = true := by simp [he]
    clear hq
    go_enter Try.func22, Try.ntmps22
    go_wp2_with fail
    go_at_call 20
    refine KE.out.mono ?_
    rintro x v1 ⟨rfl, h1⟩
    go_wp2_with fail
    go_ret
    rw [HR.out]
    exact ⟨rfl, h1⟩
theorem fail_code {w : World} {B C g c a : Nat} {A : Option Addr} {all : List UInt8} {e : Int} (e2 : Int) (h : RdAt w B C g A c all a e) :
    Calls Try.prog 27 #[.pointer (some ⟨g, 0, none⟩), .int .i64 e2] w fun x w' => (∃ v, x = .returned v) ∧ RdAt w' B C g A c all a (if e = 0 then e2 else e) ∧ OutB B C w w' := by
  have KE := Lib.hid (err_code h)
  have HN := Lib.hid h
  clear h
  by_cases he : e = 0
  · subst he
    rw [if_pos rfl]
    go_enter Try.func27, Try.ntmps27
    go_wp2_with fail
    go_at_call 20
    refine KE.out.mono ?_
    rintro x v1 ⟨rfl, h1⟩
    have h2 := HN.out.next h1
    have c3 := ORd.c3 h2.cells
    have f3 := OwnF.free h2.cells 3
    have HS := Lib.hid (And.intro (h2.setErr e2).1 ((OutB.of h1).trans (h2.setErr e2).2))
    clear HN h2 h1
    go_wp2_with fail
    go_returns
    exact ⟨⟨_, rfl⟩, HS.out.1, HS.out.2⟩
  · rw [if_neg he]
    have g1 : (e == 0) = false := by simp [he]
    go_enter Try.func27, Try.ntmps27
    go_wp2_with fail
    go_at_call 20
    refine KE.out.mono ?_
    rintro x v1 ⟨rfl, h1⟩
    have h2 := HN.out.next h1
    have HS := Lib.hid (And.intro h2 (OutB.of (B := B) (C := C) h1))
    clear HN h2 h1
    go_wp2_with fail
    go_returns
    exact ⟨⟨_, rfl⟩, HS.out.1, HS.out.2⟩
end Go.Proofs.Ytonfdnihllhcbaa
