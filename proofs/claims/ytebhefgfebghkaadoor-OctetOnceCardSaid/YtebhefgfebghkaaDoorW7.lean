import Derived.Test.YtebhefgfebghkaaDoorW4
import Derived.Test.YtebhefgfebghkaaDoorW6
namespace Go.Proofs.YtebhefgfebghkaaDoor
open Go Go.RowKit

theorem equal_b {A1 A2 : Option Addr} {c1 c2 B1 B2: Nat} {xs ys : List UInt8} (w : World) (h1 : Rd w B1 A1 c1 xs) (h2 : Rd w B2 A2 c2 ys) (hl : xs.length ≤ 140737488355328) :
    Calls Tryd.prog 12 #[.slice A1 xs.length c1, .slice A2 ys.length c2] w fun e w' => e = .returned (.bool (sameB xs ys)) ∧ Below w.heap.size w w' :=
  (equal_any w h1 h2 hl).mono fun _ _ ⟨he, n, hw⟩ => ⟨he, hw ▸ below_drewN _ n⟩

theorem unhex_awake (w : World) : Calls Tryd.prog 22 #[.string ⟨#[48, 48, 97, 98]⟩] w fun e w' => ∃ g c', e = .returned (.tuple #[.slice (some ⟨g, 0, none⟩) 2 c', .int .i64 0]) ∧
    w'.cell? ⟨g, 1, none⟩ = some (.int .u8 171) ∧ Rd w' w'.heap.size (some ⟨g, 0, none⟩) c' [0, 171] ∧ Below w.heap.size w w' := by
  refine (unhex_any w ⟨#[48, 48, 97, 98]⟩ (by decide)).mono fun e w' ⟨hb, h⟩ => ?_
  rcases h with ⟨_, A', c', he, ho⟩ | ⟨h, _⟩
  · have e1 : unhL [48, 48, 97, 98] = [0, 171] := by decide
    rw [show (⟨#[48, 48, 97, 98]⟩ : ByteArray).data.toList = [48, 48, 97, 98] from rfl, e1] at ho
    obtain ⟨g, cap, cur, hv, _⟩ := ho.2.resolve_left (by simp)
    simp only [Value.slice.injEq, true_and] at hv
    obtain ⟨rfl, rfl⟩ := hv
    exact ⟨g, c', he, ho.cell (k := 1) (by decide), ho.rd, hb⟩
  · exact absurd h (by decide)
theorem hex_awake {A : Option Addr} {c B : Nat} (w : World) (h1 : Rd w B A c [0, 171]) (hB : B ≤ w.heap.size) (hT : Tab w) :
    Calls Tryd.prog 24 #[.slice A 2 c] w fun e w' => e = .returned (.string ⟨#[48, 48, 97, 98]⟩) ∧ Below w.heap.size w w' :=
  (hex_any w h1 hB hT (by decide)).mono fun _ _ ⟨he, hb⟩ => ⟨by rw [he, show hexL [0, 171] = [48, 48, 97, 98] by decide], hb⟩
theorem equal_awake {A1 A2 : Option Addr} {c1 c2 B1 B2: Nat} (w : World) (h1 : Rd w B1 A1 c1 [0, 171]) (h2 : Rd w B2 A2 c2 [0, 171]) :
    Calls Tryd.prog 12 #[.slice A1 2 c1, .slice A2 2 c2] w fun e w' => e = .returned (.bool true) ∧ Below w.heap.size w w' :=
  equal_b w h1 h2 (by decide)
theorem bytes_awake (w : World) : Calls Tryd.prog 28 #[.int .u64 256, .int .i64 1] w fun e w' => e = .returned (.tuple #[.slice none 0 0, .int .i64 6]) ∧ w = w' :=
  bytes_range w 256 1 (by decide) (by decide)

set_option maxHeartbeats 800000 in
theorem awake_any (w : World) (hT : Tab w) : Calls Tryd.prog 15 #[] w fun e w' => e = .returned (.bool true) ∧ Below w.heap.size w w' := by
  go_enter Tryd.func15, Tryd.ntmps15
  go_wp2_with fail
  refine (unhex_awake w).mono ?_
  rintro e w1 ⟨g, c', rfl, h1, h2, hb1⟩
  have hT1 := hT.keep hb1 hT.pos
  go_wp2_with fail
  refine (bytes_awake _).mono ?_
  rintro e w2 ⟨rfl, rfl⟩
  go_wp2_with fail
  refine (hex_awake _ h2 (Nat.le_refl _) hT1).mono ?_
  rintro e w2 ⟨rfl, hb2⟩
  go_wp2_with fail
  have hl := (Own.lit (w := w2) 5 (Nat.le_refl _) #[.int .u8 0, .int .u8 171] [0, 171] (by decide) rfl).rd
  refine (equal_awake _ ((h2.keep hb2).keep ((Below.refl _ _).alloc hb2.size _)) hl).mono ?_
  rintro e w3 ⟨rfl, hb3⟩
  go_wp2_with fail
  go_ret
  exact ⟨rfl, hb1.trans ((hb2.mono hb1.size).trans (((Below.refl _ _).alloc (Nat.le_trans hb1.size hb2.size) _).trans (hb3.mono (by simp; have := hb1.size; have := hb2.size; omega))))⟩
end Go.Proofs.YtebhefgfebghkaaDoor
