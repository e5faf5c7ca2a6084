import Derived.Test.YtifcjfeepgfmfaaDoorR10
import Derived.Test.YtifcjfeepgfmfaaDoorLaw3
namespace Go.Proofs.YtifcjfeepgfmfaaDoor
open Go Go.RowKit
attribute [local irreducible] wd by8 d16 set16w fl
set_option maxRecDepth 20000
set_option warningAsError false in
set_option maxHeartbeats 6400000 in
theorem powers_law {a e : Nat} (ha : a < W4) (he : e < W4) (w : World) (hG : Glb w) :
    Calls Tryd.prog 5 #[nv a, nv e] w fun r w' => r = .returned (.bool true) ∧ Below w.heap.size w w' := by
  obtain ⟨r, hr⟩ : ∃ r, r = a ^ e % P25 := ⟨_, rfl⟩
  have hrW : r < W4 := by rw [hr]; exact red_W4 _
  have k1 := fun w => fpower_any ha he w
  rw [← hr] at k1
  have K1 := Lib.hid k1
  have K2 := Lib.hid (fun w => rof_any ha w)
  have K3 := Lib.hid (fun w => digits_any he w)
  have K4 : Hid (∀ (A : Option Addr) (c n : Nat) (w : World), Dig w w.heap.size A c n e → n ≤ 32 → Calls Tryd.prog 29 #[fv (a % P25), .slice A n c] w fun r' w' => r' = .returned (fv r) ∧ Below w.heap.size w w') := Lib.hid (fun A c n w h hn => by
    have h1 := rpower_any (Nat.mod_lt a P25_pos) (by omega) w h (Nat.le_refl _)
    rw [← Nat.pow_mod, ← hr] at h1
    exact h1)
  have K5 := Lib.hid (fun w => rnum_any hrW w)
  have KL := Lib.hid (fun n (hn : Can n e) => Can.le32 hn he)
  have q := eq4_self r
  unfold nv at q
  have Q := Lib.hid q
  obtain ⟨v2, e2, oa, oe, hc⟩ := two a e w
  have hG2 := hG.keep hc hG.pos
  have HGG := Lib.hid (fun wz (hz : Below v2.heap.size v2 wz) => hG2.next hz)
  clear hr hrW k1 q hG hG2 ha he
  generalize a % P25 = x at *
  unfold nv
  go_enter Tryd.func5, Tryd.ntmps5
  go_upto_region 1 with fail
  rw [← e2]
  clear e2
  have HS := Lib.hid (keep44 oa oe)
  have hs := hc.size
  obtain ⟨s0, s1, s2, s3, t0, t1, t2, t3⟩ := HS.out v2 (Below.refl _ _)
  have hd : Below v2.heap.size v2 v2.drew := (Below.refl _ v2).drew
  have hund : undef = Value.tuple #[] := rfl
  clear oa oe
  have q := Q.out
  first
    | (go_region_held3 (fun wz => wz.cell? ⟨w.heap.size, 0, none⟩ = some (.int .u64 (wd a 0 : Int)) ∧ wz.cell? ⟨w.heap.size, 1, none⟩ = some (.int .u64 (wd a 1 : Int)) ∧ wz.cell? ⟨w.heap.size, 2, none⟩ = some (.int .u64 (wd a 2 : Int)) ∧ wz.cell? ⟨w.heap.size, 3, none⟩ = some (.int .u64 (wd a 3 : Int)) ∧ wz.cell? ⟨w.heap.size + 1, 0, none⟩ = some (.int .u64 (wd e 0 : Int)) ∧ wz.cell? ⟨w.heap.size + 1, 1, none⟩ = some (.int .u64 (wd e 1 : Int)) ∧ wz.cell? ⟨w.heap.size + 1, 2, none⟩ = some (.int .u64 (wd e 2 : Int)) ∧ wz.cell? ⟨w.heap.size + 1, 3, none⟩ = some (.int .u64 (wd e 3 : Int)))
        (exact HS.out _ hd)
        (first | (go_at_call 28; (with_reducible refine (K1.out _).mono ?_); rintro e' wn ⟨rfl, h9⟩; (try replace p1 := p1.next h9); replace hd := hd.trans (h9.mono hd.size)) | (go_at_call 13; (with_reducible refine (K2.out _).mono ?_); rintro e' wo ⟨rfl, h9⟩; (try replace p1 := p1.next h9); replace hd := hd.trans (h9.mono hd.size)) | (go_at_call 30; (with_reducible refine (K3.out _).mono ?_); rintro e' wt ⟨At, ct, nt, rfl, dt, h9⟩; have p1 := dt.dig; have l1 := KL.out _ dt.can; replace hd := hd.trans (h9.mono hd.size); clear dt) | (go_at_call 29; (with_reducible refine (K4.out _ _ _ _ p1 l1).mono ?_); rintro e' wx ⟨rfl, h9⟩; (try replace p1 := p1.next h9); replace hd := hd.trans (h9.mono hd.size)) | (go_at_call 17; (with_reducible refine (K5.out _).mono ?_); rintro e' wy ⟨rfl, h9⟩; (try replace p1 := p1.next h9); replace hd := hd.trans (h9.mono hd.size)) | (go_at_call 25; (with_reducible refine (awake_any _ (HGG.out _ hd)).mono ?_); rintro e' wa ⟨rfl, h9⟩; (try replace p1 := p1.next h9); replace hd := hd.trans (h9.mono hd.size)) | ((with_reducible refine gate_list .eql 24 ?_); refine wpList_eqlA 24 _ _ _ rfl rfl rfl rfl (guard4 _ _ _ _ _) (by first | with_reducible exact Q.out _) ?_) | ((with_reducible refine gate_wp .eql 24 ?_); refine wp_eqlA 24 _ _ _ rfl rfl rfl (guard4 _ _ _ _ _) (by first | with_reducible exact Q.out _) ?_)))
    | fail
  all_goals
    go_wp2_with fail
    go_ret
    exact ⟨rfl, hc.trans (hd.mono hs)⟩
end Go.Proofs.YtifcjfeepgfmfaaDoor
