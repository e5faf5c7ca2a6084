/-
  Layer 19: what is asked of the landed ideal suite. By an AI agent.
-/
import Derived.Test.YtdddcgkgellbgabSu2
import Derived.Test.YtdddcgkgellbgabOf
namespace Go.Proofs.Ytdddcgkgellbgab
open Go Go.RowKit
set_option maxRecDepth 20000
/-- So many parts has a kind. -/
def arT (k : UInt8) : Nat := if k = 98 then 4 else if k = 103 ∨ k = 107 ∨ k = 100 then 2 else 1
structure okT (t : Trm) : Prop where
  ar : t.parts.length = arT t.kind
  fit : ∀ p ∈ t.parts, p.length ≤ 1099511627776
theorem okT.fits {t : Trm} (h : okT t) : fitT t := fun p hp => by have := h.fit p hp; omega
abbrev lenOk (b : List UInt8) : Prop := b.length ≤ 1099511627776
/-- An ideal suite of the code: the blocks that it writes, those that it only reads, its pointer, the terms that it knows, how many secrets were drawn. -/
abbrev IdlP := World → (Nat → Prop) → (Nat → Prop) → Value → List Trm → Nat → Prop
/-- What a question leaves: these terms, so many drawn, and this answer in a row of the call's own. -/
def Told (R : IdlP) (w : World) (F S : Nat → Prop) (p : Value) (L' : List Trm) (D' : Nat) (A : Option Addr) (c : Nat) (ans : List UInt8) (w' : World) : Prop :=
  Own w' w.heap.size 5 A c ans ∧ OutF F w w' ∧ ∃ F' S' : Nat → Prop, R w' F' S' p L' D' ∧ (∀ k, F' k → F k ∨ w.heap.size ≤ k) ∧ (∀ k, S' k → S k ∨ w.heap.size ≤ k) ∧ ∀ ad, A = some ad → ¬ F' ad.block ∧ ¬ S' ad.block
/-- A question that answers bytes. -/
abbrev AskQ (R : IdlP) (f : FuncId) (args : Array Value) (w : World) (F S : Nat → Prop) (p : Value) (L' : List Trm) (D' : Nat) (ans : List UInt8) : Prop :=
  Calls Try.prog f args w fun x w' => ∃ A c, x = .returned (.slice A ans.length c) ∧ Told R w F S p L' D' A c ans w'
structure IdlC (R : IdlP) : Prop where
  keep : ∀ {w w' F S p L D}, R w F S p L D → (∀ k, F k ∨ S k → w'.heap[k]? = w.heap[k]?) → R w' F S p L D
  lt : ∀ {w F S p L D}, R w F S p L D → ∀ k, F k ∨ S k → k < w.heap.size
  apart : ∀ {w F S p L D}, R w F S p L D → ∀ k, S k → ¬ F k
  good : ∀ {w F S p L D}, R w F S p L D → L.Nodup ∧ ∀ t ∈ L, okT t
  ptr : ∀ {w F S p L D}, R w F S p L D → ∃ g, p = .pointer (some ⟨g, 0, none⟩)
def NewC (R : IdlP) : Prop := ∀ w : World, Calls Try.prog 9 #[] w fun x w' => ∃ p F S, x = .returned p ∧ R w' F S p [] 0 ∧ (∀ k, F k ∨ S k → w.heap.size ≤ k) ∧ Below w.heap.size w w'
def DrawC (R : IdlP) : Prop := ∀ {F S p L D} (w : World), R w F S p L D → D ≤ 1000000 → L.length ≤ 1000000 →
  AskQ R 22 #[p] w F S p (knowT L (termS D)) (D + 1) (calledT (termS D) (numT L (termS D)))
def HashC (R : IdlP) : Prop := ∀ {F S p L D} {A : Option Addr} {c : Nat} {b : List UInt8} (w : World), R w F S p L D → L.length ≤ 1000000 → Rd w w.heap.size A c b → lenOk b →
  AskQ R 13 #[p, .slice A b.length c] w F S p (knowT L (termH b)) D (calledT (termH b) (numT L (termH b)))
def PubC (R : IdlP) : Prop := ∀ {F S p L D} {A : Option Addr} {c : Nat} {b : List UInt8} (w : World), R w F S p L D → L.length ≤ 1000000 → Rd w w.heap.size A c b → lenOk b →
  AskQ R 23 #[p, .slice A b.length c] w F S p (knowK L (termP b)) D (ansK L (termP b))
def SgrC (R : IdlP) : Prop := ∀ {F S p L D} {A : Option Addr} {c : Nat} {b : List UInt8} (w : World), R w F S p L D → L.length ≤ 1000000 → Rd w w.heap.size A c b → lenOk b →
  AskQ R 17 #[p, .slice A b.length c] w F S p (knowK L (termV b)) D (ansK L (termV b))
def DerC (R : IdlP) : Prop := ∀ {F S p L D} {A A2 : Option Addr} {c c2 : Nat} {b i : List UInt8} (w : World), R w F S p L D → L.length ≤ 1000000 → Rd w w.heap.size A c b → Rd w w.heap.size A2 c2 i → lenOk b → lenOk i →
  AskQ R 24 #[p, .slice A b.length c, .slice A2 i.length c2] w F S p (knowK L (termK b i)) D (ansK L (termK b i))
def SgnC (R : IdlP) : Prop := ∀ {F S p L D} {A A2 : Option Addr} {c c2 : Nat} {b i : List UInt8} (w : World), R w F S p L D → L.length ≤ 1000000 → Rd w w.heap.size A c b → Rd w w.heap.size A2 c2 i → lenOk b → lenOk i →
  AskQ R 16 #[p, .slice A b.length c, .slice A2 i.length c2] w F S p (knowK L (termG b i)) D (ansK L (termG b i))
def SealC (R : IdlP) : Prop := ∀ {F S p L D} {A A2 A3 : Option Addr} {c c2 c3 : Nat} {b o x : List UInt8} (n : Int) (w : World), R w F S p L D → L.length ≤ 1000000 → Rd w w.heap.size A c b → Rd w w.heap.size A2 c2 o → Rd w w.heap.size A3 c3 x → lenOk b → lenOk o → lenOk x → n < 9223372036854775808 →
  AskQ R 15 #[p, .slice A b.length c, .int .i64 n, .slice A2 o.length c2, .slice A3 x.length c3] w F S p (sealL L b n o x) D (sealA L b n o x)
def ShaC (R : IdlP) : Prop := ∀ {F S p L D} {A A2 : Option Addr} {c c2 : Nat} {b i : List UInt8} (w : World), R w F S p L D → L.length ≤ 1000000 → Rd w w.heap.size A c b → Rd w w.heap.size A2 c2 i → lenOk b → lenOk i →
  Calls Try.prog 21 #[p, .slice A b.length c, .slice A2 i.length c2] w fun x w' => ∃ A c, x = .returned (.tuple #[.slice A (sharedA L b i).length c, .int .i64 (sharedE L b i)]) ∧ Told R w F S p (sharedL L b i) D A c (sharedA L b i) w'
def VerC (R : IdlP) : Prop := ∀ {F S p L D} {A A2 A3 : Option Addr} {c c2 c3 : Nat} {k b g : List UInt8} (w : World), R w F S p L D → L.length ≤ 1000000 → Rd w w.heap.size A c k → Rd w w.heap.size A2 c2 b → Rd w w.heap.size A3 c3 g →
  Calls Try.prog 19 #[p, .slice A k.length c, .slice A2 b.length c2, .slice A3 g.length c3] w fun x w' => x = .returned (.bool (verifyT L k b g)) ∧ Below w.heap.size w w'
def OpnC (R : IdlP) : Prop := ∀ {F S p L D} {A A2 A3 : Option Addr} {c c2 c3 : Nat} {k o b : List UInt8} (n : Int) (w : World), R w F S p L D → L.length ≤ 1000000 → Rd w w.heap.size A c k → Rd w w.heap.size A2 c2 o → Rd w w.heap.size A3 c3 b → n < 9223372036854775808 →
  Calls Try.prog 18 #[p, .slice A k.length c, .int .i64 n, .slice A2 o.length c2, .slice A3 b.length c3] w fun x w' => ∃ A c, x = .returned (.tuple #[.slice A (openA L k n o b).length c, .int .i64 (openE L k n o b)]) ∧ Rd w' w'.heap.size A c (openA L k n o b) ∧ (∀ ad, A = some ad → w.heap.size ≤ ad.block) ∧ Below w.heap.size w w'
def LenC (R : IdlP) : Prop := ∀ {F S p L D} (w : World), R w F S p L D → Calls Try.prog 12 #[p] w fun x w' => x = .returned (.int .i64 (L.length : Int)) ∧ Below w.heap.size w w'
end Go.Proofs.Ytdddcgkgellbgab
