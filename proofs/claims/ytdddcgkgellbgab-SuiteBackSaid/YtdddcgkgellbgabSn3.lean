/-
  An ideal suite, and a box beside it that it does not write. By an AI agent.
-/
import Derived.Test.YtdddcgkgellbgabSn2
namespace Go.Proofs.Ytdddcgkgellbgab
open Go Go.RowKit
set_option maxRecDepth 20000
def Rbox (R : IdlP) (g : Nat) (o : Obj) : IdlP := fun w F S p L D => ∃ S0, R w F S0 p L D ∧ (∀ k, S k ↔ S0 k ∨ k = g) ∧ w.heap[g]? = some o ∧ ¬ F g
section
variable {R : IdlP} {g : Nat} {o : Obj}
theorem Rbox.idl (K : IdlC R) : IdlC (Rbox R g o) where
  keep := fun ⟨S0, h, hS, hg, hn⟩ hk => ⟨S0, K.keep h fun k hq => hk k (hq.imp id fun h => (hS k).2 (.inl h)), hS, (hk g (.inr ((hS g).2 (.inr rfl)))).trans hg, hn⟩
  lt := fun ⟨S0, h, hS, hg, _⟩ k hk => by
    rcases hk with hk | hk
    · exact K.lt h k (.inl hk)
    · rcases (hS k).1 hk with hk | rfl
      · exact K.lt h k (.inr hk)
      · exact (Array.getElem?_eq_some_iff.1 hg).1
  apart := fun ⟨S0, h, hS, _, hn⟩ k hk => by
    rcases (hS k).1 hk with hk | rfl
    · exact K.apart h k hk
    · exact hn
  good := fun ⟨_, h, _⟩ => K.good h
  ptr := fun ⟨_, h, _⟩ => K.ptr h
theorem told_box {w w' : World} {F S S0 : Nat → Prop} {p : Value} {L' : List Trm} {D' c : Nat} {A : Option Addr} {ans : List UInt8} (hS : ∀ k, S k ↔ S0 k ∨ k = g) (hg : w.heap[g]? = some o) (hn : ¬ F g) (hA : ∀ ad, A = some ad → w.heap.size ≤ ad.block) (h : Told R w F S0 p L' D' A c ans w') : Told (Rbox R g o) w F S p L' D' A c ans w' := by
  obtain ⟨own, ho, F5, S5, hR, h1, h2, h3⟩ := h
  have hlt := (Array.getElem?_eq_some_iff.1 hg).1
  refine ⟨own, ho, F5, fun k => S5 k ∨ k = g, ⟨S5, hR, fun _ => Iff.rfl, (ho.block g hlt hn).trans hg, fun hq => ?_⟩, h1, fun k hk => ?_, fun ad ea => ⟨(h3 ad ea).1, fun hq => ?_⟩⟩
  · rcases h1 g hq with h | h
    · exact hn h
    · omega
  · rcases hk with hk | rfl
    · exact (h2 k hk).imp (fun h => (hS k).2 (.inl h)) id
    · exact .inl ((hS k).2 (.inr rfl))
  · rcases hq with hq | hq
    · exact (h3 ad ea).2 hq
    · have := hA ad ea; omega
theorem ask_box {f : FuncId} {args : Array Value} {w : World} {F S S0 : Nat → Prop} {p : Value} {L' : List Trm} {D' : Nat} {ans : List UInt8} (hS : ∀ k, S k ↔ S0 k ∨ k = g) (hg : w.heap[g]? = some o) (hn : ¬ F g) (h : AskQ R f args w F S0 p L' D' ans) : AskQ (Rbox R g o) f args w F S p L' D' ans := by
  refine h.mono ?_
  rintro x w' ⟨A, c, rfl, ht⟩
  exact ⟨A, c, rfl, told_box hS hg hn (fun ad ea => ht.1.ge_ ad ea) ht⟩
theorem Rbox.draw (C : DrawC R) : DrawC (Rbox R g o) := fun w ⟨_, h, hS, hg, hn⟩ hD hL => ask_box hS hg hn (C w h hD hL)
theorem Rbox.pub (C : PubC R) : PubC (Rbox R g o) := fun w ⟨_, h, hS, hg, hn⟩ hL hr hl => ask_box hS hg hn (C w h hL hr hl)
theorem Rbox.sgr (C : SgrC R) : SgrC (Rbox R g o) := fun w ⟨_, h, hS, hg, hn⟩ hL hr hl => ask_box hS hg hn (C w h hL hr hl)
theorem Rbox.der (C : DerC R) : DerC (Rbox R g o) := fun w ⟨_, h, hS, hg, hn⟩ hL hr hr2 hl hl2 => ask_box hS hg hn (C w h hL hr hr2 hl hl2)
theorem Rbox.sgn (C : SgnC R) : SgnC (Rbox R g o) := fun w ⟨_, h, hS, hg, hn⟩ hL hr hr2 hl hl2 => ask_box hS hg hn (C w h hL hr hr2 hl hl2)
theorem Rbox.seal (C : SealC R) : SealC (Rbox R g o) := fun n w ⟨_, h, hS, hg, hn⟩ hL hr hr2 hr3 hl hl2 hl3 hk => ask_box hS hg hn (C n w h hL hr hr2 hr3 hl hl2 hl3 hk)
theorem Rbox.sha (C : ShaC R) : ShaC (Rbox R g o) := fun w ⟨_, h, hS, hg, hn⟩ hL hr hr2 hl hl2 => by
  refine (C w h hL hr hr2 hl hl2).mono ?_
  rintro x w' ⟨A, c, rfl, ht⟩
  exact ⟨A, c, rfl, told_box hS hg hn (fun ad ea => ht.1.ge_ ad ea) ht⟩
theorem Rbox.ver (C : VerC R) : VerC (Rbox R g o) := fun w ⟨_, h, _, _, _⟩ hL h1 h2 h3 => C w h hL h1 h2 h3
theorem Rbox.opn (C : OpnC R) : OpnC (Rbox R g o) := fun n w ⟨_, h, _, _, _⟩ hL h1 h2 h3 hk => C n w h hL h1 h2 h3 hk
/-- From now on with a new box beside it. -/
theorem Sit.box {w0 w w' : World} {p : Value} {L : List Trm} {D : Nat} {l : List RowA} (K : IdlC R) (h : Sit R w0 w p L D l) (hb : Below w.heap.size w w') (hg : w'.heap[g]? = some o) (hn : w.heap.size ≤ g) : Sit (Rbox R g o) w0 w' p L D l := by
  obtain ⟨F, S, hR, hF, hb0, hr⟩ := h
  exact ⟨F, fun k => S k ∨ k = g, ⟨S, K.keep hR fun k hk => hb.block k (K.lt hR k hk), fun _ => Iff.rfl, hg, fun hf => by have := K.lt hR g (.inl hf); omega⟩, hF, hb0.trans (hb.mono hb0.size), fun x hx => ⟨((hr x hx).1.keep hb).mono hb.size, (hr x hx).2⟩⟩
theorem Sit.at_box {w0 w : World} {p : Value} {L : List Trm} {D : Nat} {l : List RowA} (h : Sit (Rbox R g o) w0 w p L D l) : w.heap[g]? = some o := by
  obtain ⟨F, S, ⟨_, _, _, hg, _⟩, _⟩ := h
  exact hg
theorem SitT.at_box {w0 wz : World} {p : Value} {l0 : List RowA} {s0 : List Trm × Nat} {sts : List (Nat × (List Trm × Nat))} {rows : List (Nat × List UInt8)} {Lb : Nat → Bool} {Vb : Nat → Value} (h : SitT (Rbox R g o) w0 p l0 s0 sts rows Lb Vb wz) : wz.heap[g]? = some o := by
  obtain ⟨l, hs, _⟩ := h
  exact hs.at_box
theorem SitT.done {w0 wz : World} {p : Value} {l0 : List RowA} {s0 : List Trm × Nat} {sts : List (Nat × (List Trm × Nat))} {rows : List (Nat × List UInt8)} {Lb : Nat → Bool} {Vb : Nat → Value} {L : List Trm} {D i : Nat} {bs : List UInt8} (h : SitT R w0 p l0 s0 sts rows Lb Vb wz) (h0 : stOf Lb s0 sts = (L, D)) (hm : (i, bs) ∈ rows) (hl : Lb i = true) :
    ∃ A c, Vb i = .slice A bs.length c ∧ Sit R w0 wz p L D ((A, c, bs) :: l0) := by
  obtain ⟨l, hs, hin, hr⟩ := h
  obtain ⟨A, c, e, hm'⟩ := hr _ hm hl
  rw [h0] at hs
  exact ⟨A, c, e, hs.sub fun x hx => by
    rcases List.mem_cons.1 hx with rfl | hx
    · exact hm'
    · exact hin x hx⟩
end
theorem hmk19 (fn : Fn) (first cap : Array Value) (w : World) : (Instr.makeFunc fn first cap).run Try.prog w = .ok (.func fn first cap) w := rfl
section
variable (gp : Nat) (w : World)
theorem meth_Draw : (method 215 25 (.pointer (some ⟨gp, 0, none⟩)) "Draw").run Try.prog w = .ok (22, .pointer (some ⟨gp, 0, none⟩)) w := by kernel_rfl
theorem meth_Public : (method 215 25 (.pointer (some ⟨gp, 0, none⟩)) "Public").run Try.prog w = .ok (23, .pointer (some ⟨gp, 0, none⟩)) w := by kernel_rfl
theorem meth_Shared : (method 215 25 (.pointer (some ⟨gp, 0, none⟩)) "Shared").run Try.prog w = .ok (21, .pointer (some ⟨gp, 0, none⟩)) w := by kernel_rfl
theorem meth_Derive : (method 215 25 (.pointer (some ⟨gp, 0, none⟩)) "Derive").run Try.prog w = .ok (24, .pointer (some ⟨gp, 0, none⟩)) w := by kernel_rfl
theorem meth_Signer : (method 215 25 (.pointer (some ⟨gp, 0, none⟩)) "Signer").run Try.prog w = .ok (17, .pointer (some ⟨gp, 0, none⟩)) w := by kernel_rfl
theorem meth_Sign : (method 215 25 (.pointer (some ⟨gp, 0, none⟩)) "Sign").run Try.prog w = .ok (16, .pointer (some ⟨gp, 0, none⟩)) w := by kernel_rfl
theorem meth_Verify : (method 215 25 (.pointer (some ⟨gp, 0, none⟩)) "Verify").run Try.prog w = .ok (19, .pointer (some ⟨gp, 0, none⟩)) w := by kernel_rfl
theorem meth_Seal : (method 215 25 (.pointer (some ⟨gp, 0, none⟩)) "Seal").run Try.prog w = .ok (15, .pointer (some ⟨gp, 0, none⟩)) w := by kernel_rfl
theorem meth_Open : (method 215 25 (.pointer (some ⟨gp, 0, none⟩)) "Open").run Try.prog w = .ok (18, .pointer (some ⟨gp, 0, none⟩)) w := by kernel_rfl
theorem nila_Shared : (nilAhead 215 25 (.pointer (some ⟨gp, 0, none⟩)) "Shared").run Try.prog w = .ok (some false) w := by kernel_rfl
theorem nila_Derive : (nilAhead 215 25 (.pointer (some ⟨gp, 0, none⟩)) "Derive").run Try.prog w = .ok (some false) w := by kernel_rfl
theorem nila_Seal : (nilAhead 215 25 (.pointer (some ⟨gp, 0, none⟩)) "Seal").run Try.prog w = .ok (some false) w := by kernel_rfl
theorem nila_Open : (nilAhead 215 25 (.pointer (some ⟨gp, 0, none⟩)) "Open").run Try.prog w = .ok (some false) w := by kernel_rfl
theorem nila_Sign : (nilAhead 215 25 (.pointer (some ⟨gp, 0, none⟩)) "Sign").run Try.prog w = .ok (some false) w := by kernel_rfl
theorem nila_Verify : (nilAhead 215 25 (.pointer (some ⟨gp, 0, none⟩)) "Verify").run Try.prog w = .ok (some false) w := by kernel_rfl
end
end Go.Proofs.Ytdddcgkgellbgab
