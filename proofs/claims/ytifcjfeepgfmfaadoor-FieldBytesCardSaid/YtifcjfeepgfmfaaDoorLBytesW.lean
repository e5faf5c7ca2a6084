import Derived.Test.YtifcjfeepgfmfaaDoorLBytes
namespace Go.Proofs.YtifcjfeepgfmfaaDoor
open Go Go.RowKit
theorem bytes_law {a c : Nat} {A : Option Addr} {bs : List UInt8} {w0 : World} (hr : Rd w0 w0.heap.size A c bs) (hl : bs.length ≤ 140737488351232) (ha : a < W4) (_w : World) (hG : Glb w0) :
    Calls Tryd.prog 8 #[.slice A bs.length c, nv a] w0 fun e w' => e = .returned (.bool true) ∧ Below w0.heap.size w0 w' := by
  have hl' : bs.length ≤ 140737488355328 := by omega
  by_cases h : bs.length = 32
  · by_cases h2 : vb bs < P25
    · refine bytes_gen (x := a % P25) (m := vb bs) (E := 0) (vb_lt h) (red_W4 _) w0 (fun B c A w hr hB => ?_) (fun c A w hr => ?_) (fun w => encode_any ha w) (fun w => rof_any ha w) hr hl' hG
      · have h3 := decode_any w hr hB h
        rw [decide_eq_true h2] at h3
        exact h3
      · have h3 := rdec_walk (q := true) h w hr (decide_eq_true h2)
        rw [← h] at h3
        exact h3
    · refine bytes_gen (x := a % P25) (m := 0) (E := 6) W4_pos (red_W4 _) w0 (fun B c A w hr hB => ?_) (fun c A w hr => ?_) (fun w => encode_any ha w) (fun w => rof_any ha w) hr hl' hG
      · have h3 := decode_any w hr hB h
        rw [decide_eq_false h2] at h3
        exact h3
      · have h3 := rdec_walk (q := false) h w hr (decide_eq_false h2)
        rw [← h] at h3
        exact h3
  · exact bytes_gen (x := a % P25) (m := 0) (E := 1) W4_pos (red_W4 _) w0 (fun B c A w hr hB => decode_len h w) (fun c A w hr => rdec_len h w) (fun w => encode_any ha w) (fun w => rof_any ha w) hr hl' hG
end Go.Proofs.YtifcjfeepgfmfaaDoor
