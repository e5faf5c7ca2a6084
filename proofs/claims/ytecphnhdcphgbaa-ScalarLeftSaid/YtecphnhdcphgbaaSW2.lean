import Derived.Test.YtecphnhdcphgbaaSL2
import Derived.Test.YtecphnhdcphgbaaSW
namespace Go.Proofs.Ytecphnhdcphgbaa
open Go Go.RowKit
theorem left_law {a : Nat} (ha : a < W4) (w : World) : Calls Try.prog 4 #[nv a] w fun e w' => e = .returned (.bool true) ∧ Below w.heap.size w w' := by
  have hx : a < 256 ^ 32 := by rw [← W4_256]; exact ha
  refine sleft_gen (d := a % LL) (P := LL) (bs := gen (bf (a % LL)) 32) (LL_lt _) LL_W4 (gen_length _ _) (fun w => digits_any ha w) (fun w A c n h hc => rleft_any w h (Nat.le_refl _) (can32 hc hx)) (fun w => treduce_any ha w) (is_same (LL_lt _)) (fun w => tnum_any ha w)
    (fun w A c n h _ => of_any w h (Nat.le_refl _)) (fun w => ?_) (fun w A c n h _ => ?_) (fun w => order_any w) (fun w => ?_) (fun w A c n h _ => of_any w h (Nat.le_refl _)) w
  · exact (tbytes_any ha w).mono fun e w' ⟨A, c, he, ho, hb⟩ => ⟨A, c, he, ho.rd, hb⟩
  · exact (told_any w h (Nat.le_refl _)).mono fun e w' ⟨A, c, he, ho, hb⟩ => ⟨A, c, he, ho.rd, hb⟩
  · exact (rorder_any w).mono fun e w' ⟨A, c, he, ho, hb⟩ => ⟨A, c, 32, he, ho, hb⟩
end Go.Proofs.Ytecphnhdcphgbaa
