/-
  Layer 16: runs, cut where the style turns. By an AI agent.
-/
import Derived.Test.YtpjeggbkhbghaaaTN
import Derived.Laws.Cover4
namespace Go.Proofs.Ytpjeggbkhbghaaa
open Go Go.RowKit
def textV (V : List (Int × Sty)) : ByteArray := runesBytes (V.map Prod.fst)
theorem textV_snoc (V : List (Int × Sty)) (x : Int × Sty) : textV (V ++ [x]) = textV V ++ Utf8.encode x.1 := by unfold textV runesBytes; rw [List.map_append, List.foldl_append]; rfl
theorem ba_nil_append (b : ByteArray) : ByteArray.empty ++ b = b := by
  obtain ⟨⟨l⟩⟩ := b
  apply ByteArray.ext
  simp
theorem textV_one (x : Int × Sty) : textV [x] = Utf8.encode x.1 := by
  show ByteArray.empty ++ Utf8.encode x.1 = _
  exact ba_nil_append _
/-- Behind the first i of those that are there: what has been cut off, where the last run begins. -/
structure CutI (V : List (Int × Sty)) (o : List Rn) (f i : Nat) : Prop where
  next : ∀ x, V[i]? = some x → runS (runsV (V.take i)) x = o ++ [⟨textV ((V.take (i + 1)).drop f), x.2⟩]
  last : i = V.length → runsV V = o
theorem cut_zero (V : List (Int × Sty)) : CutI V [] 0 0 := by
  refine ⟨fun x hx => ?_, fun h => ?_⟩
  · have e : V.take (0 + 1) = [x] := by rw [take_snoc hx]; rfl
    rw [e, List.drop_zero, textV_one]
    rfl
  · rw [List.eq_nil_of_length_eq_zero h.symm]
    rfl
theorem cut_off {V : List (Int × Sty)} {o : List Rn} {f i : Nat} {x : Int × Sty} (h : CutI V o f i) (hx : V[i]? = some x) (hn : ∀ y, V[i + 1]? = some y → y.2 ≠ x.2) : CutI V (o ++ [⟨textV ((V.take (i + 1)).drop f), x.2⟩]) (i + 1) (i + 1) := by
  have hi := (List.getElem?_eq_some_iff.1 hx).1
  have hr : runsV (V.take (i + 1)) = o ++ [⟨textV ((V.take (i + 1)).drop f), x.2⟩] := by
    rw [← h.next x hx, ← runsV_snoc, ← take_snoc hx]
  refine ⟨fun y hy => ?_, fun he => ?_⟩
  · have e : (V.take (i + 1 + 1)).drop (i + 1) = [y] := by
      rw [take_snoc hy]
      have hl : (V.take (i + 1)).length = i + 1 := by rw [List.length_take]; omega
      rw [List.drop_append_of_le_length (by omega), List.drop_of_length_le (by omega)]
      rfl
    rw [hr, runS_other _ _ _ (fun e => hn y hy e.symm), e, textV_one]
  · rw [← hr, he, List.take_length]
theorem cut_go {V : List (Int × Sty)} {o : List Rn} {f i : Nat} {x y : Int × Sty} (h : CutI V o f i) (hf : f ≤ i) (hx : V[i]? = some x) (hy : V[i + 1]? = some y) (he : y.2 = x.2) : CutI V o f (i + 1) := by
  have hi := (List.getElem?_eq_some_iff.1 hy).1
  have hr : runsV (V.take (i + 1)) = o ++ [⟨textV ((V.take (i + 1)).drop f), x.2⟩] := by
    rw [← h.next x hx, ← runsV_snoc, ← take_snoc hx]
  refine ⟨fun z hz => ?_, fun e => ?_⟩
  · rw [hy] at hz
    obtain rfl := Option.some.inj hz
    have hl : (V.take (i + 1)).length = i + 1 := by rw [List.length_take]; omega
    rw [hr, ← he, runS_same, take_snoc hy, List.drop_append_of_le_length (by omega), textV_snoc]
  · omega
def runeE : Enc Int := ⟨fun x => [.int .i32 x], 1, fun _ => rfl, fun x v h => by simp at h; rcases h with rfl; rfl, by decide⟩
theorem infoRune : (Try.prog.info? 21).map (fun i => (i.zero, i.size, i.bytes)) = some (some (.int .i32 0), 1, 4) := by kernel_rfl
/-- A stretch of runes as a text. -/
theorem conv_runes {w : World} {B c : Nat} {b o : Nat} {L : List Int} (r : RdR runeE w B (some ⟨b, o, none⟩) c L) {f t : Nat} (hft : f ≤ t) (ht : t ≤ L.length) (cap : Nat) :
    (convert 98 9 (.slice (some ⟨b, o + f, none⟩) (t - f) cap)).run Try.prog w = .ok (.string (runesBytes ((L.take t).drop f))) w := by
  have h := run_convert_runes (P := Try.prog) w 98 9 21 ⟨b, o + f, none⟩ (t - f) cap (L.drop f) (by rw [List.length_drop]; omega) Try.underlying98 Try.underlying21 Try.underlying9 (fun j hj => by
    rw [Addr.add_lit, Nat.add_assoc]
    rw [List.length_drop] at hj
    obtain ⟨b', o', e', _, hc⟩ := r.at_ (k := f + j) (x := L[f + j]) (List.getElem?_eq_getElem (by omega))
    simp only [Option.some.injEq, Addr.mk.injEq, and_true] at e'
    obtain ⟨rfl, rfl⟩ := e'
    have := hc 0 _ rfl
    rw [show o + (f + j) * runeE.size + 0 = o + (f + j) from by show o + (f + j) * 1 + 0 = _; omega] at this
    rw [this]
    simp [List.getD, List.getElem?_drop, List.getElem?_eq_getElem (show f + j < L.length by omega)])
  rw [h, List.drop_take]
end Go.Proofs.Ytpjeggbkhbghaaa
