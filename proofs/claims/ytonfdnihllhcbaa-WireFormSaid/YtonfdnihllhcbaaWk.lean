/-
  The landed code of layer 13 is as asked. By an AI agent.
-/
import Derived.Test.YtonfdnihllhcbaaWk8
namespace Go.Proofs.Ytonfdnihllhcbaa
open Go Go.RowKit
theorem landed : WireC RdrW where
  keep := by
    rintro w w' B C p bs e ⟨g, A, c, all, a, rfl, h, rfl⟩ hk hs
    exact ⟨g, A, c, all, a, rfl, h.keep hk hs, rfl⟩
  le := by
    rintro w B C p bs e ⟨g, A, c, all, a, rfl, h, rfl⟩
    exact ⟨Nat.le_trans h.lo (Nat.le_of_lt h.hi), h.top⟩
  read := fun w hr hl => read_code w hr hl
  number := by
    rintro B C p bs e least most w ⟨g, A, c, all, a, rfl, h, rfl⟩
    exact (rnumber_code least most h).mono fun x w' ⟨hx, a2, q, hd, ho⟩ => ⟨hx, ⟨g, A, c, all, a2, rfl, q, hd⟩, ho⟩
  text := by
    rintro B C p bs e most w ⟨g, A, c, all, a, rfl, h, rfl⟩
    exact (rtext_code most h).mono fun x w' ⟨A', c', hx, r, ha, ⟨a2, q, hd⟩, ho⟩ => ⟨A', c', hx, r, fun ad hA => .inr (ha ad hA), ⟨g, A, c, all, a2, rfl, q, hd⟩, ho⟩
  fixed := by
    rintro B C p bs e n w ⟨g, A, c, all, a, rfl, h, rfl⟩
    exact (rfixed_code n h).mono fun x w' ⟨A', c', hx, r, ha, ⟨a2, q, hd⟩, ho⟩ => ⟨A', c', hx, r, fun ad hA => .inr (ha ad hA), ⟨g, A, c, all, a2, rfl, q, hd⟩, ho⟩
  flag := by
    rintro B C p bs e w ⟨g, A, c, all, a, rfl, h, rfl⟩
    exact (rflag_code h).mono fun x w' ⟨hx, ⟨a2, q, hd⟩, ho⟩ => ⟨hx, ⟨g, A, c, all, a2, rfl, q, hd⟩, ho⟩
  left := by
    rintro B C p bs e w ⟨g, A, c, all, a, rfl, h, rfl⟩
    exact (rleft_code h).mono fun x w' ⟨hx, hb⟩ => ⟨by rw [hx, List.length_drop], ⟨g, A, c, all, a, rfl, h.next hb, rfl⟩, hb⟩
  err := by
    rintro B C p bs e w ⟨g, A, c, all, a, rfl, h, rfl⟩
    exact (err_code h).mono fun x w' ⟨hx, hb⟩ => ⟨hx, ⟨g, A, c, all, a, rfl, h.next hb, rfl⟩, hb⟩
  end_ := by
    rintro B C p bs e w ⟨g, A, c, all, a, rfl, h, rfl⟩
    exact (rend_code h).mono fun x w' ⟨hx, hb⟩ => ⟨by rw [hx, endR, List.length_drop], ⟨g, A, c, all, a, rfl, h.next hb, rfl⟩, hb⟩
  fail := by
    rintro B C p bs e e2 w ⟨g, A, c, all, a, rfl, h, rfl⟩
    exact (fail_code e2 h).mono fun x w' ⟨hx, q, ho⟩ => ⟨hx, ⟨g, A, c, all, a, rfl, q, rfl⟩, ho⟩
  puts := fun n w hr hl => puts_code n w hr hl
  texts := fun w hr hr2 hl => texts_code w hr hr2 hl
  flags := fun y w hr hl => flags_code y w hr hl
end Go.Proofs.Ytonfdnihllhcbaa
