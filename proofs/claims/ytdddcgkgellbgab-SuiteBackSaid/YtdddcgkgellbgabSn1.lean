/-
  Layer 19: single questions where a law stands. By an AI agent.
-/
import Derived.Test.YtdddcgkgellbgabSm1
namespace Go.Proofs.Ytdddcgkgellbgab
open Go Go.RowKit
set_option maxRecDepth 20000
section
variable {R : IdlP} {w0 w : World} {p : Value} {L : List Trm} {D : Nat} {l : List RowA}
theorem sit_own (K : IdlC R) (h : Sit R w0 w p L D l) {A : Option Addr} {c n : Nat} {bs : List UInt8} (hn : n = bs.length) (hm : (A, c, bs) ∈ l) (hl : n ≤ 140737488355328) :
    Calls Try.prog 14 #[.slice A n c] w fun x w' => ∃ A' c', x = .returned (.slice A' n c') ∧ Sit R w0 w' p L D ((A', c', bs) :: l) := by
  subst hn
  refine (own19_any w (h.row hm) hl).mono ?_
  rintro x w' ⟨A', c', rfl, ho, hb⟩
  exact ⟨A', c', rfl, h.add K hb ho⟩
theorem sit_seal (C : SealC R) (h : Sit R w0 w p L D l) {A A2 A3 : Option Addr} {c n c2 n2 c3 n3 : Nat} {b o x : List UInt8} (k : Int) (e1 : n = b.length) (e2 : n2 = o.length) (e3 : n3 = x.length) (m1 : (A, c, b) ∈ l) (m2 : Rd w w.heap.size A2 c2 o) (m3 : Rd w w.heap.size A3 c3 x)
    (hL : L.length ≤ 1000000) (l1 : lenOk b) (l2 : lenOk o) (l3 : lenOk x) (hk : k < 9223372036854775808) :
    Calls Try.prog 15 #[p, .slice A n c, .int .i64 k, .slice A2 n2 c2, .slice A3 n3 c3] w fun y w' => ∃ A' c', y = .returned (.slice A' (sealA L b k o x).length c') ∧ Sit R w0 w' p (sealL L b k o x) D ((A', c', sealA L b k o x) :: l) := by
  subst e1 e2 e3
  exact sit_ask h fun F S hR => C k w hR hL (h.row m1) m2 m3 l1 l2 l3 hk
theorem sit_sign (C : SgnC R) (h : Sit R w0 w p L D l) {A A2 : Option Addr} {c n c2 n2 : Nat} {b o : List UInt8} (e1 : n = b.length) (e2 : n2 = o.length) (m1 : (A, c, b) ∈ l) (m2 : (A2, c2, o) ∈ l) (hL : L.length ≤ 1000000) (l1 : lenOk b) (l2 : lenOk o) :
    Calls Try.prog 16 #[p, .slice A n c, .slice A2 n2 c2] w fun y w' => ∃ A' c', y = .returned (.slice A' (ansK L (termG b o)).length c') ∧ Sit R w0 w' p (knowK L (termG b o)) D ((A', c', ansK L (termG b o)) :: l) := by
  subst e1 e2
  exact sit_ask h fun F S hR => C w hR hL (h.row m1) (h.row m2) l1 l2
theorem sit_derive (C : DerC R) (h : Sit R w0 w p L D l) {A A2 : Option Addr} {c n c2 n2 : Nat} {b o : List UInt8} (e1 : n = b.length) (e2 : n2 = o.length) (m1 : (A, c, b) ∈ l) (m2 : (A2, c2, o) ∈ l) (hL : L.length ≤ 1000000) (l1 : lenOk b) (l2 : lenOk o) :
    Calls Try.prog 24 #[p, .slice A n c, .slice A2 n2 c2] w fun y w' => ∃ A' c', y = .returned (.slice A' (ansK L (termK b o)).length c') ∧ Sit R w0 w' p (knowK L (termK b o)) D ((A', c', ansK L (termK b o)) :: l) := by
  subst e1 e2
  exact sit_ask h fun F S hR => C w hR hL (h.row m1) (h.row m2) l1 l2
theorem sit_signer (C : SgrC R) (h : Sit R w0 w p L D l) {A : Option Addr} {c n : Nat} {b : List UInt8} (e1 : n = b.length) (m1 : (A, c, b) ∈ l) (hL : L.length ≤ 1000000) (l1 : lenOk b) :
    Calls Try.prog 17 #[p, .slice A n c] w fun y w' => ∃ A' c', y = .returned (.slice A' (ansK L (termV b)).length c') ∧ Sit R w0 w' p (knowK L (termV b)) D ((A', c', ansK L (termV b)) :: l) := by
  subst e1
  exact sit_ask h fun F S hR => C w hR hL (h.row m1) l1
theorem sit_public (C : PubC R) (h : Sit R w0 w p L D l) {A : Option Addr} {c n : Nat} {b : List UInt8} (e1 : n = b.length) (m1 : (A, c, b) ∈ l) (hL : L.length ≤ 1000000) (l1 : lenOk b) :
    Calls Try.prog 23 #[p, .slice A n c] w fun y w' => ∃ A' c', y = .returned (.slice A' (ansK L (termP b)).length c') ∧ Sit R w0 w' p (knowK L (termP b)) D ((A', c', ansK L (termP b)) :: l) := by
  subst e1
  exact sit_ask h fun F S hR => C w hR hL (h.row m1) l1
theorem sit_shared (C : ShaC R) (h : Sit R w0 w p L D l) {A A2 : Option Addr} {c n c2 n2 : Nat} {b o : List UInt8} (e1 : n = b.length) (e2 : n2 = o.length) (m1 : (A, c, b) ∈ l) (m2 : (A2, c2, o) ∈ l) (hL : L.length ≤ 1000000) (l1 : lenOk b) (l2 : lenOk o) :
    Calls Try.prog 21 #[p, .slice A n c, .slice A2 n2 c2] w fun y w' => ∃ A' c', y = .returned (.tuple #[.slice A' (sharedA L b o).length c', .int .i64 (sharedE L b o)]) ∧ Sit R w0 w' p (sharedL L b o) D ((A', c', sharedA L b o) :: l) := by
  subst e1 e2
  have h1 := h.row m1
  have h2 := h.row m2
  obtain ⟨F, S, hR, hF, hb0, hr⟩ := h
  refine (C w hR hL h1 h2 l1 l2).mono ?_
  rintro x w' ⟨A', c', rfl, ht⟩
  exact ⟨A', c', rfl, Sit.told hF hb0 hr ht⟩
theorem sit_open (K : IdlC R) (C : OpnC R) (h : Sit R w0 w p L D l) {A A2 A3 : Option Addr} {c n c2 n2 c3 n3 : Nat} {b o x : List UInt8} (k : Int) (e1 : n = b.length) (e2 : n2 = o.length) (e3 : n3 = x.length) (m1 : (A, c, b) ∈ l) (m2 : (A2, c2, o) ∈ l) (m3 : (A3, c3, x) ∈ l) (hL : L.length ≤ 1000000) (hk : k < 9223372036854775808) :
    Calls Try.prog 18 #[p, .slice A n c, .int .i64 k, .slice A2 n2 c2, .slice A3 n3 c3] w fun y w' => ∃ A' c', y = .returned (.tuple #[.slice A' (openA L b k o x).length c', .int .i64 (openE L b k o x)]) ∧ Sit R w0 w' p L D ((A', c', openA L b k o x) :: l) := by
  subst e1 e2 e3
  refine (sit_use h fun F S hR => C k w hR hL (h.row m1) (h.row m2) (h.row m3) hk).mono ?_
  rintro y w' ⟨A', c', rfl, hr, hg, hb⟩
  exact ⟨A', c', rfl, h.put K hb hr hg⟩
theorem sit_awake (K : IdlC R) (aw : ∀ w, Calls Try.prog 8 #[] w fun e w' => e = .returned (.bool true) ∧ Below w.heap.size w w') (h : Sit R w0 w p L D l) : Calls Try.prog 8 #[] w fun e w' => e = .returned (.bool true) ∧ Sit R w0 w' p L D l := by
  refine (aw w).mono ?_
  rintro e w' ⟨rfl, hb⟩
  exact ⟨rfl, h.next K hb⟩
theorem sit_verify (K : IdlC R) (C : VerC R) (h : Sit R w0 w p L D l) {A A2 A3 : Option Addr} {c n c2 n2 c3 n3 : Nat} {b o x : List UInt8} (e1 : n = b.length) (e2 : n2 = o.length) (e3 : n3 = x.length) (m1 : (A, c, b) ∈ l) (m2 : (A2, c2, o) ∈ l) (m3 : (A3, c3, x) ∈ l) (hL : L.length ≤ 1000000) :
    Calls Try.prog 19 #[p, .slice A n c, .slice A2 n2 c2, .slice A3 n3 c3] w fun y w' => y = .returned (.bool (verifyT L b o x)) ∧ Sit R w0 w' p L D l := by
  subst e1 e2 e3
  refine (sit_use h fun F S hR => C w hR hL (h.row m1) (h.row m2) (h.row m3)).mono ?_
  rintro y w' ⟨rfl, hb⟩
  exact ⟨rfl, h.next K hb⟩
theorem ver_use {A A2 A3 : Option Addr} {c n c2 n2 c3 n3 : Nat} {b o x : List UInt8} (C : VerC R) (w : World) {F S : Nat → Prop} (hR : R w F S p L D) (hL : L.length ≤ 1000000) (e1 : n = b.length) (e2 : n2 = o.length) (e3 : n3 = x.length) (m1 : Rd w w.heap.size A c b) (m2 : Rd w w.heap.size A2 c2 o) (m3 : Rd w w.heap.size A3 c3 x) {r : Bool} (hr : verifyT L b o x = r) :
    Calls Try.prog 19 #[p, .slice A n c, .slice A2 n2 c2, .slice A3 n3 c3] w fun y w' => y = .returned (.bool r) ∧ Below w.heap.size w w' := by
  subst e1 e2 e3 hr
  exact C w hR hL m1 m2 m3
theorem own_use {A : Option Addr} {c n : Nat} {bs : List UInt8} (hn : n = bs.length) (w : World) (hr : Rd w w.heap.size A c bs) (hl : n ≤ 140737488355328) :
    Calls Try.prog 14 #[.slice A n c] w fun e w' => ∃ A' c', e = .returned (.slice A' bs.length c') ∧ Own w' w.heap.size 5 A' c' bs ∧ Below w.heap.size w w' := by
  subst hn
  exact own19_any w hr hl
theorem hash_use {A : Option Addr} {c : Nat} {b : List UInt8} (C : HashC R) (w : World) {F S : Nat → Prop} (hR : R w F S p L D) (hL : L.length ≤ 1000000) (m1 : Rd w w.heap.size A c b) (hl : lenOk b) : AskQ R 13 #[p, .slice A b.length c] w F S p (knowT L (termH b)) D (calledT (termH b) (numT L (termH b))) := C w hR hL m1 hl
end
end Go.Proofs.Ytdddcgkgellbgab
