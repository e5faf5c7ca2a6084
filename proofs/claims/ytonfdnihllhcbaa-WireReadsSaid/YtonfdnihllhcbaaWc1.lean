/-
  Layer 13: what is asked of the landed code; own, awake over that. By an AI agent.
-/
import Derived.Test.YtonfdnihllhcbaaWi7
import Derived.Test.YtonfdnihllhcbaaCv
namespace Go.Proofs.Ytonfdnihllhcbaa
open Go Go.RowKit
set_option maxRecDepth 20000
/-- Outside the blocks B .. C nothing that was there is another one. -/
structure OutB (B C : Nat) (w w' : World) : Prop where
  os : w'.os = w.os
  tape : w'.tape = w.tape
  output : w'.output = w.output
  size : w.heap.size ≤ w'.heap.size
  block : ∀ k, k < w.heap.size → ¬ (B ≤ k ∧ k < C) → w'.heap[k]? = w.heap[k]?
theorem OutB.refl (B C : Nat) (w : World) : OutB B C w w := ⟨rfl, rfl, rfl, Nat.le_refl _, fun _ _ _ => rfl⟩
theorem OutB.trans {B C : Nat} {a b c : World} (h : OutB B C a b) (k : OutB B C b c) : OutB B C a c := ⟨k.os.trans h.os, k.tape.trans h.tape, k.output.trans h.output, Nat.le_trans h.size k.size, fun i hi hn => (k.block i (Nat.lt_of_lt_of_le hi h.size) hn).trans (h.block i hi hn)⟩
theorem OutB.of {B C : Nat} {w w' : World} (h : Below w.heap.size w w') : OutB B C w w' := ⟨h.os, h.tape, h.output, h.size, fun k hk _ => h.block k hk⟩
theorem OutB.below {B C : Nat} {w w' : World} (h : OutB B C w w') (hB : B ≤ w.heap.size) : Below B w w' := ⟨h.os, h.tape, h.output, h.size, fun k hk => h.block k (Nat.lt_of_lt_of_le hk hB) (by omega)⟩
/-- A row of one's own that lies outside is as it was. -/
theorem OwnF.outb {w w' : World} {B C B2 c n g : Nat} {e : TypeId} {f : Nat → Value} (h : OwnF w B2 e (some ⟨g, 0, none⟩) c n f) (ho : OutB B C w w') (hg : ¬ (B ≤ g ∧ g < C)) : OwnF w' B2 e (some ⟨g, 0, none⟩) c n f := by
  have hlt := OwnF.lt h
  obtain ⟨hl, h2⟩ := h
  refine ⟨hl, ?_⟩
  rcases h2 with h | ⟨g1, cap, cur, hv, hB, hh, r⟩
  · exact .inl h
  · have e1 : g = g1 := by simp only [Value.slice.injEq, Option.some.injEq, Addr.mk.injEq] at hv; exact hv.1.1
    subst e1
    exact .inr ⟨g, cap, cur, hv, hB, (ho.block g hlt hg).trans hh, r⟩
/-- A reader of the code: what stands ahead of it, its error, where its blocks lie. -/
abbrev RdrP := World → Nat → Nat → Value → List UInt8 → Int → Prop
/-- What is asked of the code. -/
structure WireC (R : RdrP) : Prop where
  keep : ∀ {w w' B C p bs e}, R w B C p bs e → (∀ k, B ≤ k → k < C → w'.heap[k]? = w.heap[k]?) → w.heap.size ≤ w'.heap.size → R w' B C p bs e
  le : ∀ {w B C p bs e}, R w B C p bs e → B ≤ C ∧ C ≤ w.heap.size
  read : ∀ {A : Option Addr} {c : Nat} {bs : List UInt8} (w : World), Rd w w.heap.size A c bs → bs.length ≤ 140737488355320 →
    Calls Try.prog 17 #[.slice A bs.length c] w fun x w' => ∃ p, x = .returned p ∧ R w' w.heap.size w'.heap.size p bs 0 ∧ Below w.heap.size w w'
  number : ∀ {B C : Nat} {p : Value} {bs : List UInt8} {e : Int} (least most : Int) (w : World), R w B C p bs e →
    Calls Try.prog 24 #[p, .int .i64 least, .int .i64 most] w fun x w' => x = .returned (.int .i64 ((numR bs e least most).2.2 : Int)) ∧ R w' B C p (numR bs e least most).1 (numR bs e least most).2.1 ∧ OutB B C w w'
  text : ∀ {B C : Nat} {p : Value} {bs : List UInt8} {e : Int} (most : Int) (w : World), R w B C p bs e →
    Calls Try.prog 25 #[p, .int .i64 most] w fun x w' => ∃ A c, x = .returned (.slice A (textR bs e most).2.2.length c) ∧ Rd w' w'.heap.size A c (textR bs e most).2.2 ∧ (∀ ad, A = some ad → (B ≤ ad.block ∧ ad.block < C) ∨ w.heap.size ≤ ad.block) ∧ R w' B C p (textR bs e most).1 (textR bs e most).2.1 ∧ OutB B C w w'
  fixed : ∀ {B C : Nat} {p : Value} {bs : List UInt8} {e : Int} (n : Int) (w : World), R w B C p bs e →
    Calls Try.prog 28 #[p, .int .i64 n] w fun x w' => ∃ A c, x = .returned (.slice A (fixR bs e n).2.2.length c) ∧ Rd w' w'.heap.size A c (fixR bs e n).2.2 ∧ (∀ ad, A = some ad → (B ≤ ad.block ∧ ad.block < C) ∨ w.heap.size ≤ ad.block) ∧ R w' B C p (fixR bs e n).1 (fixR bs e n).2.1 ∧ OutB B C w w'
  flag : ∀ {B C : Nat} {p : Value} {bs : List UInt8} {e : Int} (w : World), R w B C p bs e →
    Calls Try.prog 26 #[p] w fun x w' => x = .returned (.bool (flagR bs e).2.2) ∧ R w' B C p (flagR bs e).1 (flagR bs e).2.1 ∧ OutB B C w w'
  left : ∀ {B C : Nat} {p : Value} {bs : List UInt8} {e : Int} (w : World), R w B C p bs e →
    Calls Try.prog 21 #[p] w fun x w' => x = .returned (.int .i64 (bs.length : Int)) ∧ R w' B C p bs e ∧ Below w.heap.size w w'
  err : ∀ {B C : Nat} {p : Value} {bs : List UInt8} {e : Int} (w : World), R w B C p bs e →
    Calls Try.prog 20 #[p] w fun x w' => x = .returned (.int .i64 e) ∧ R w' B C p bs e ∧ Below w.heap.size w w'
  end_ : ∀ {B C : Nat} {p : Value} {bs : List UInt8} {e : Int} (w : World), R w B C p bs e →
    Calls Try.prog 22 #[p] w fun x w' => x = .returned (.int .i64 (endR bs e)) ∧ R w' B C p bs e ∧ Below w.heap.size w w'
  fail : ∀ {B C : Nat} {p : Value} {bs : List UInt8} {e : Int} (e2 : Int) (w : World), R w B C p bs e →
    Calls Try.prog 27 #[p, .int .i64 e2] w fun x w' => (∃ v, x = .returned v) ∧ R w' B C p bs (if e = 0 then e2 else e) ∧ OutB B C w w'
  puts : ∀ {A : Option Addr} {c : Nat} {b : List UInt8} (n : Int) (w : World), Rd w w.heap.size A c b → b.length ≤ 140737488355320 →
    Calls Try.prog 10 #[.slice A b.length c, .int .i64 n] w fun x w' => ∃ A' c', x = .returned (.slice A' (numL b n).length c') ∧ Own w' w.heap.size 5 A' c' (numL b n) ∧ Below w.heap.size w w'
  texts : ∀ {A A2 : Option Addr} {c c2 : Nat} {b s : List UInt8} (w : World), Rd w w.heap.size A c b → Rd w w.heap.size A2 c2 s → b.length + s.length ≤ 140737488355320 →
    Calls Try.prog 12 #[.slice A b.length c, .slice A2 s.length c2] w fun x w' => ∃ A' c', x = .returned (.slice A' (textL b s).length c') ∧ Own w' w.heap.size 5 A' c' (textL b s) ∧ Below w.heap.size w w'
  flags : ∀ {A : Option Addr} {c : Nat} {b : List UInt8} (y : Bool) (w : World), Rd w w.heap.size A c b → b.length ≤ 140737488355320 →
    Calls Try.prog 14 #[.slice A b.length c, .bool y] w fun x w' => ∃ A' c', x = .returned (.slice A' (flagL b y).length c') ∧ Own w' w.heap.size 5 A' c' (flagL b y) ∧ Below w.heap.size w w'
theorem WireC.next {R : RdrP} (K : WireC R) {w w' : World} {B C : Nat} {p : Value} {bs : List UInt8} {e : Int} (h : R w B C p bs e) (hb : Below w.heap.size w w') : R w' B C p bs e :=
  K.keep h (fun k _ hk => hb.block k (Nat.lt_of_lt_of_le hk (K.le h).2)) hb.size
theorem OutB.low {B C B0 : Nat} {w w' : World} (h : OutB B C w w') (hB : B ≤ w.heap.size) (h0 : B0 ≤ B) : Below B0 w w' := (h.below hB).mono h0
theorem rd_nil13 (w : World) (B : Nat) : Rd w B none 0 [] := ⟨Nat.le_refl _, fun _ => ⟨rfl, rfl⟩, fun h => absurd rfl h⟩
theorem own13_any {A : Option Addr} {B c : Nat} {bs : List UInt8} (w : World) (hr : Rd w B A c bs) (hB : B ≤ w.heap.size) (hl : bs.length ≤ 140737488355328) :
    Calls Try.prog 9 #[.slice A bs.length c] w fun e w' => ∃ A' c', e = .returned (.slice A' bs.length c') ∧ Own w' w.heap.size 5 A' c' bs ∧ Below w.heap.size w w' := by
  obtain ⟨i0, hi, hz0, hz1, hz2⟩ := info_parts infoU8
  have h2 : Rd (w.alloc (.cells #[] 5)) B A c bs := hr.keep ((Below.refl B w).alloc hB _)
  have h3 : Own (w.alloc (.cells #[] 5)) w.heap.size 5 (some ⟨w.heap.size, 0, none⟩) 0 [] := World.ownsRow_made w #[] 0 (Nat.le_refl _) (by decide) (by decide)
  have h4 : Below w.heap.size w (w.alloc (.cells #[] 5)) := (Below.refl _ w).alloc (Nat.le_refl _) _
  go_enter Try.func9, Try.ntmps9
  go_wp2_with (at_builtin; refine wpList_app _ rfl (.tmp 3) (.tmp 4) _ rfl w.heap.size 5 i0 _ Try.underlying22 hi hz0 hz1 hz2 rfl (xs := []) rfl h3 rfl h2 (by simpa using hl) (by simp) ?_; intro A1 c1 v1 ho hb)
  replace ho : Own v1 w.heap.size 5 A1 c1 bs := ho
  go_ret
  exact ⟨A1, c1, rfl, ho, h4.trans hb⟩
theorem str13 {n : Nat} (w : World) {A : Option Addr} {c : Nat} {bs : List UInt8} (hl : bs.length = n) (h : Rd w w.heap.size A c bs) : (convert 22 9 (.slice A n c)).run Try.prog w = .ok (.string ⟨bs.toArray⟩) w := by
  subst hl
  exact run_str (P := Try.prog) w 22 5 Try.underlying22 Try.underlying5 (dst := 9) Try.underlying9 h
theorem own13_len {A : Option Addr} {B c n : Nat} {bs : List UInt8} (hn : bs.length = n) (w : World) (hr : Rd w B A c bs) (hB : B ≤ w.heap.size) (hl : n ≤ 140737488355328) :
    Calls Try.prog 9 #[.slice A n c] w fun e w' => ∃ A' c', e = .returned (.slice A' n c') ∧ Own w' w.heap.size 5 A' c' bs ∧ Below w.heap.size w w' := by
  subst hn
  exact own13_any w hr hB hl
theorem nums_awake : numL [] 300 = [172, 2] ∧ numR [172, 2, 128, 0] 0 0 300 = ([128, 0], 0, 300) ∧ numR [128, 0] 0 0 300 = ([128, 0], 5, 0) := by decide +kernel
section
variable {R : RdrP} (K : WireC R)
include K
theorem wc_read {A : Option Addr} {c n : Nat} {bs : List UInt8} (hn : bs.length = n) (w : World) (hr : Rd w w.heap.size A c bs) (hl : n ≤ 140737488355320) :
    Calls Try.prog 17 #[.slice A n c] w fun x w' => ∃ p, x = .returned p ∧ R w' w.heap.size w'.heap.size p bs 0 ∧ Below w.heap.size w w' := by
  subst hn
  exact K.read w hr hl
theorem wc_err {B C : Nat} {p : Value} {bs : List UInt8} {e : Int} (w : World) (h : R w B C p bs e) : Calls Try.prog 20 #[p] w fun x w' => x = .returned (.int .i64 e) ∧ Below w.heap.size w w' := (K.err w h).mono fun _ _ ⟨a, _, b⟩ => ⟨a, b⟩
theorem wc_left {B C n : Nat} {p : Value} {bs : List UInt8} {e : Int} (hn : bs.length = n) (w : World) (h : R w B C p bs e) : Calls Try.prog 21 #[p] w fun x w' => x = .returned (.int .i64 (n : Int)) ∧ Below w.heap.size w w' := by
  subst hn
  exact (K.left w h).mono fun _ _ ⟨a, _, b⟩ => ⟨a, b⟩
theorem wc_end {B C : Nat} {p : Value} {bs : List UInt8} {e : Int} (w : World) (h : R w B C p bs e) : Calls Try.prog 22 #[p] w fun x w' => x = .returned (.int .i64 (endR bs e)) ∧ Below w.heap.size w w' := (K.end_ w h).mono fun _ _ ⟨a, _, b⟩ => ⟨a, b⟩
theorem wc_put {n m : Nat} {T : List UInt8} (hT : numL [] (n : Int) = T) (hm : T.length = m) (w : World) : Calls Try.prog 10 #[.slice none 0 0, .int .i64 (n : Int)] w fun x w' => ∃ A' c', x = .returned (.slice A' m c') ∧ Rd w' w'.heap.size A' c' T ∧ Below w.heap.size w w' := by
  subst hT hm
  exact (K.puts (b := []) (n : Int) w (rd_nil13 _ _) (by simp)).mono fun _ _ ⟨A', c', he, o, hb⟩ => ⟨A', c', he, o.rd, hb⟩
theorem wc_putI {n : Int} {m : Nat} {T : List UInt8} (hT : numL [] n = T) (hm : T.length = m) (w : World) : Calls Try.prog 10 #[.slice none 0 0, .int .i64 n] w fun x w' => ∃ A' c', x = .returned (.slice A' m c') ∧ Rd w' w'.heap.size A' c' T ∧ Below w.heap.size w w' := by
  subst hT hm
  exact (K.puts (b := []) n w (rd_nil13 _ _) (by simp)).mono fun _ _ ⟨A', c', he, o, hb⟩ => ⟨A', c', he, o.rd, hb⟩
theorem wc_text {k m c2 : Nat} {A2 : Option Addr} {s T : List UInt8} (hT : textL [] s = T) (hm : T.length = m) (hk : s.length = k) (hl : k ≤ 140737488355320) (w : World) (hr : Rd w w.heap.size A2 c2 s) : Calls Try.prog 12 #[.slice none 0 0, .slice A2 k c2] w fun x w' => ∃ A' c', x = .returned (.slice A' m c') ∧ Rd w' w'.heap.size A' c' T ∧ Below w.heap.size w w' := by
  subst hT hm hk
  exact (K.texts (b := []) w (rd_nil13 _ _) hr (by simpa using hl)).mono fun _ _ ⟨A', c', he, o, hb⟩ => ⟨A', c', he, o.rd, hb⟩
set_option maxHeartbeats 1600000 in
theorem awake13 (w : World) : Calls Try.prog 16 #[] w fun e w' => e = .returned (.bool true) ∧ Below w.heap.size w w' := by
  obtain ⟨a1, a2, a3⟩ := nums_awake
  have o1 : Own (w.alloc (.cells #[.int .u8 172, .int .u8 2, .int .u8 128, .int .u8 0] 5)) w.heap.size 5 (some ⟨w.heap.size, 0, none⟩) 4 [172, 2, 128, 0] := Own.lit 5 (Nat.le_refl _) #[.int .u8 172, .int .u8 2, .int .u8 128, .int .u8 0] [172, 2, 128, 0] (by simp [maxLen]) rfl
  have hc : Below w.heap.size w (w.alloc (.cells #[.int .u8 172, .int .u8 2, .int .u8 128, .int .u8 0] 5)) := (Below.refl _ _).alloc (Nat.le_refl _) _
  obtain ⟨v1, e1⟩ : ∃ v, v = w.alloc (.cells #[.int .u8 172, .int .u8 2, .int .u8 128, .int .u8 0] 5) := ⟨_, rfl⟩
  obtain ⟨g, eg⟩ : ∃ g, g = w.heap.size := ⟨_, rfl⟩
  have e1' := e1
  rw [← e1] at o1 hc
  have r1 : Rd v1 v1.heap.size (some ⟨g, 0, none⟩) 4 [172, 2, 128, 0] := by rw [eg]; exact o1.rd
  have KR := Lib.hid (K.read v1 r1 (by decide))
  have E1 := Lib.hid e1'
  clear e1'
  have KP := Lib.hid (fun v => K.puts (b := []) 300 v (rd_nil13 v _) (by decide))
  rw [a1] at KP
  clear o1 r1 a1
  go_enter Try.func16, Try.ntmps16
  go_wp2_with fail
  rw [← e1, show (Value.slice (some ⟨w.heap.size, 0, none⟩) 4 4) = .slice (some ⟨g, 0, none⟩) 4 4 by rw [eg]]
  clear e1 eg
  go_at_call 17
  refine KR.out.mono ?_
  rintro e v2 ⟨p, rfl, q2, h0⟩
  replace hc := hc.trans (h0.mono hc.size)
  clear h0 KR
  go_wp2_with fail
  go_at_call 10
  refine (KP.out v2).mono ?_
  rintro e v3 ⟨A3, c3, rfl, o3, h0⟩
  have r3 := o3.rd
  replace q2 := K.next q2 h0
  have hB1 : w.heap.size ≤ v1.heap.size := by rw [E1.out]; simp
  replace hc := hc.trans (h0.mono hc.size)
  clear h0 KP
  have HB1 := Lib.hid hB1
  have HQ := Lib.hid q2
  clear q2 hB1 E1
  have HL2 := Lib.hid (show ([172, 2] : List UInt8).length = 2 from rfl)
  go_wp2_with ((with_reducible refine cv_len r3 (Nat.le_refl _) HL2.out ?_ ?_); rfl)
  go_at_call 24
  refine (K.number 0 300 v3 HQ.out).mono ?_
  rintro e v4 ⟨rfl, q4, h0⟩
  rw [a2] at q4 ⊢
  have hb0 := h0.low (Nat.le_trans (K.le HQ.out).1 (K.le HQ.out).2) HB1.out
  replace hc := hc.trans hb0
  clear h0 hb0 HQ r3 o3
  have HQ := Lib.hid q4
  clear q4
  go_wp2_with fail
  go_at_call 24
  refine (K.number 0 300 v4 HQ.out).mono ?_
  rintro e v5 ⟨rfl, q4, h0⟩
  simp only [a3] at q4 ⊢
  have hb0 := h0.low (Nat.le_trans (K.le HQ.out).1 (K.le HQ.out).2) HB1.out
  replace hc := hc.trans hb0
  clear h0 hb0 HQ
  have HQ := Lib.hid q4
  clear q4
  go_wp2_with fail
  go_at_call 20
  refine (K.err v5 HQ.out).mono ?_
  rintro e v6 ⟨rfl, _, h0⟩
  have HC := Lib.hid (hc.trans (h0.mono hc.size))
  clear h0 HQ hc
  go_wp2_with fail
  go_ret
  exact ⟨rfl, HC.out⟩
end
end Go.Proofs.Ytonfdnihllhcbaa
