import Derived.Test.YtifcjfeepgfmfaaDoorR4
import Derived.Test.YtifcjfeepgfmfaaDoorLForm
namespace Go.Proofs.YtifcjfeepgfmfaaDoor
open Go Go.RowKit
theorem Rd.nxt {w w' : World} {A : Option Addr} {c : Nat} {bs : List UInt8} (h : Rd w w.heap.size A c bs) (hb : Below w.heap.size w w') : Rd w' w'.heap.size A c bs := (h.keep hb).mono hb.size
theorem strn (w : World) {B c : Nat} {A : Option Addr} {bs : List UInt8} (hr : Rd w B A c bs) : (convert 44 9 (.slice A bs.length c)).run Tryd.prog w = .ok (.string ⟨bs.toArray⟩) w :=
  run_str (P := Tryd.prog) w 44 5 Tryd.underlying44 Tryd.underlying5 (dst := 9) Tryd.underlying9 hr
attribute [local irreducible] wd by8 d16 set16w fl
set_option maxRecDepth 20000
set_option warningAsError false in
set_option maxHeartbeats 6400000 in
theorem bytes_gen {a x m c : Nat} {A : Option Addr} {bs : List UInt8} {E : Int} (hm : m < W4) (hx : x < W4) (w : World)
    (kd : ∀ (B c : Nat) (A : Option Addr) (w : World), Rd w B A c bs → B ≤ w.heap.size → Calls Tryd.prog 36 #[.slice A bs.length c] w fun e w' => e = .returned (.tuple #[nv m, .int .i64 E]) ∧ Below w.heap.size w w')
    (kr : ∀ (c : Nat) (A : Option Addr) (w : World), Rd w w.heap.size A c bs → Calls Tryd.prog 37 #[.slice A bs.length c] w fun e w' => e = .returned (.tuple #[fv m, .int .i64 E]) ∧ Below w.heap.size w w')
    (ke : ∀ w, Calls Tryd.prog 38 #[nv a] w fun e w' => ∃ A c, e = .returned (.slice A 32 c) ∧ Own w' w.heap.size 5 A c (gen (bf x) 32) ∧ Below w.heap.size w w')
    (ko : ∀ w, Calls Tryd.prog 13 #[nv a] w fun e w' => e = .returned (fv x) ∧ Below w.heap.size w w')
    (hr : Rd w w.heap.size A c bs) (hl : bs.length ≤ 140737488355328) (hG : Glb w) :
    Calls Tryd.prog 8 #[.slice A bs.length c, nv a] w fun e w' => e = .returned (.bool true) ∧ Below w.heap.size w w' := by
  obtain ⟨i0, hi, hz0, hz1, hz2⟩ := info_parts infoByte
  have KD := Lib.hid kd
  have KR := Lib.hid kr
  have KE := Lib.hid ke
  have KO := Lib.hid ko
  have KN := Lib.hid (fun w => rnum_any hm w)
  have KX := Lib.hid (fun w => rencode_any hx w)
  have HG := Lib.hid hG
  have q := eq4_self m
  obtain ⟨g, hg⟩ : ∃ g, g = gen (bf x) 32 := ⟨_, rfl⟩
  have hgl : g.length = 32 := by rw [hg]; exact gen_length _ _
  rw [← hg] at KE
  have KX' := Lib.hid (fun w => by have h := KX.out w; rw [← hg] at h; exact h)
  have HGL := Lib.hid hgl
  clear kd kr ke ko hG KX hg hgl
  unfold nv at q
  have Q := Lib.hid q
  clear q
  obtain ⟨v0, e0⟩ : ∃ v, v = w.alloc (A4 a) := ⟨_, rfl⟩
  have oa : O4 v0 w.heap.size w.heap.size a := by rw [e0]; exact O4.new (Nat.le_refl _) a
  have hc : Below w.heap.size w v0 := by rw [e0]; exact (Below.refl _ w).alloc (Nat.le_refl _) _
  have rb := hr.keep hc
  have h2 : Rd (v0.alloc (.cells #[] 5)) w.heap.size A c bs := rb.keep ((Below.refl _ v0).alloc hc.size _)
  have h3 : Own (v0.alloc (.cells #[] 5)) v0.heap.size 5 (some ⟨v0.heap.size, 0, none⟩) 0 [] := World.ownsRow_made v0 #[] 0 (Nat.le_refl _) (by decide) (by decide)
  have h4 : Below v0.heap.size v0 (v0.alloc (.cells #[] 5)) := (Below.refl _ v0).alloc (Nat.le_refl _) _
  have hr0 := hr
  clear hr rb
  unfold nv
  have hs1 : v0.heap.size = w.heap.size + 1 := by rw [e0]; simp
  rw [hs1] at h3 h4
  have hs1' := Lib.hid hs1
  clear hs1
  rw [e0] at h2 h3 h4
  go_enter Tryd.func8, Tryd.ntmps8
  go_wp2_with (at_builtin; refine wpList_app _ rfl (.tmp 10) (.tmp 11) _ rfl (w.heap.size + 1) 5 i0 _ Tryd.underlying44 hi hz0 hz1 hz2 rfl (xs := []) rfl h3 rfl h2 (by simpa using hl) (by simp) ?_; intro A' c' v1 ho hb)
  replace ho : Own v1 (w.heap.size + 1) 5 A' c' bs := ho
  have hb1 := h4.trans hb
  rw [← e0] at hb1
  rw [← hs1'.out] at hb1
  replace oa := oa.keep hb1
  replace hc := hc.trans (hb1.mono hc.size)
  clear h2 h3 h4 hb hb1 e0
  have ro := ho.rd
  clear ho
  go_at_call 36
  refine (KD.out _ _ _ _ ro (Nat.le_refl _)).mono ?_
  rintro e v2 ⟨rfl, h0⟩
  replace oa := oa.keep h0
  replace ro := ro.nxt h0
  replace hc := hc.trans (h0.mono hc.size)
  clear h0
  have om := O4.new (w := v2) hc.size m
  have hbm := (Below.refl v2.heap.size v2).alloc (Nat.le_refl _) (A4 m)
  replace oa := oa.keep hbm
  replace ro := ro.nxt hbm
  replace hc := hc.trans (hbm.mono hc.size)
  clear hbm
  go_wp2_with fail
  go_at_call 37
  refine (KR.out _ _ _ ((hr0.keep hc).mono hc.size)).mono ?_
  rintro e v3 ⟨rfl, h0⟩
  replace oa := oa.keep h0
  replace om := om.keep h0
  replace ro := ro.nxt h0
  replace hc := hc.trans (h0.mono hc.size)
  clear h0
  have oz := O16.zero (own_Z16 (w := v3) (B := w.heap.size) hc.size)
  have hb3 : Below v3.heap.size v3 (set16w (v3.alloc Z16) v3.heap.size m) := ((Below.refl v3.heap.size v3).alloc (Nat.le_refl _) Z16).trans ((O16.zero (own_Z16 (w := v3) (Nat.le_refl _))).below m)
  have ow := oz.put m
  go_upto_region 4 with ((with_reducible refine fl_store oz m ?_ ?_ ?_); rfl; rfl)
  obtain ⟨v4, e4⟩ : ∃ v, v = set16w (v3.alloc Z16) v3.heap.size m := ⟨_, rfl⟩
  rw [← e4] at hb3 ow ⊢
  clear e4 oz
  replace oa := oa.keep hb3
  replace om := om.keep hb3
  replace ro := ro.nxt hb3
  replace hc := hc.trans (hb3.mono hc.size)
  clear hb3
  have rb : Rd v4 v4.heap.size A c bs := (hr0.keep hc).mono hc.size
  clear hr0
  have hs := hc.size
  have hG4 := HG.out.keep hc HG.out.pos
  have HGG := Lib.hid (fun wz (hz : Below v4.heap.size v4 wz) => hG4.next hz)
  have farr := f_arr
  have finf : (Tryd.prog.info? 26).map (·.size) = some (fl m).length := by rw [fl_len]; exact f_info
  have flen := fl_len m
  have fone : ∀ v ∈ fl m, v.oneCell' = true := fun v hv => by
    have h := fl_one m
    rw [Array.all_eq_true_iff_forall_mem] at h
    exact h v (by simpa using hv)
  have HC : ∀ wz, Below v4.heap.size v4 wz → wz.cell? ⟨v2.heap.size, 0, none⟩ = some (.int .u64 (wd m 0 : Int)) ∧ wz.cell? ⟨v2.heap.size, 1, none⟩ = some (.int .u64 (wd m 1 : Int)) ∧ wz.cell? ⟨v2.heap.size, 2, none⟩ = some (.int .u64 (wd m 2 : Int)) ∧ wz.cell? ⟨v2.heap.size, 3, none⟩ = some (.int .u64 (wd m 3 : Int)) ∧ wz.rangeAt v3.heap.size 0 (fl m) ∧ wz.cell? ⟨w.heap.size, 0, none⟩ = some (.int .u64 (wd a 0 : Int)) ∧ wz.cell? ⟨w.heap.size, 1, none⟩ = some (.int .u64 (wd a 1 : Int)) ∧ wz.cell? ⟨w.heap.size, 2, none⟩ = some (.int .u64 (wd a 2 : Int)) ∧ wz.cell? ⟨w.heap.size, 3, none⟩ = some (.int .u64 (wd a 3 : Int)) ∧ (convert 44 9 (.slice A' bs.length c')).run Tryd.prog wz = .ok (.string ⟨bs.toArray⟩) wz ∧ (convert 44 9 (.slice A bs.length c)).run Tryd.prog wz = .ok (.string ⟨bs.toArray⟩) wz := fun wz hz => by
    obtain ⟨b0, b1, b2, b3⟩ := (om.keep hz).c4
    obtain ⟨a0, a1, a2, a3⟩ := (oa.keep hz).c4
    exact ⟨b0, b1, b2, b3, OwnF.range (ow.keep hz) (by rw [fl_len]; exact Nat.le_refl _) (fun k hk => fl_get (by rwa [fl_len] at hk)), a0, a1, a2, a3, strn wz (ro.nxt hz), strn wz (rb.nxt hz)⟩
  have HS := Lib.hid HC
  clear HC hG4 oa om ow ro rb
  obtain ⟨s0, s1, s2, s3, sr, t0, t1, t2, t3, so, sb⟩ := HS.out v4 (Below.refl _ _)
  have hd : Below v4.heap.size v4 v4.drew := (Below.refl _ v4).drew
  have hund : undef = Value.tuple #[] := rfl
  have q := Q.out
  first
    | (go_region_held3 (fun wz => wz.cell? ⟨v2.heap.size, 0, none⟩ = some (.int .u64 (wd m 0 : Int)) ∧ wz.cell? ⟨v2.heap.size, 1, none⟩ = some (.int .u64 (wd m 1 : Int)) ∧ wz.cell? ⟨v2.heap.size, 2, none⟩ = some (.int .u64 (wd m 2 : Int)) ∧ wz.cell? ⟨v2.heap.size, 3, none⟩ = some (.int .u64 (wd m 3 : Int)) ∧ wz.rangeAt v3.heap.size 0 (fl m) ∧ wz.cell? ⟨w.heap.size, 0, none⟩ = some (.int .u64 (wd a 0 : Int)) ∧ wz.cell? ⟨w.heap.size, 1, none⟩ = some (.int .u64 (wd a 1 : Int)) ∧ wz.cell? ⟨w.heap.size, 2, none⟩ = some (.int .u64 (wd a 2 : Int)) ∧ wz.cell? ⟨w.heap.size, 3, none⟩ = some (.int .u64 (wd a 3 : Int)) ∧ (convert 44 9 (.slice A' bs.length c')).run Tryd.prog wz = .ok (.string ⟨bs.toArray⟩) wz ∧ (convert 44 9 (.slice A bs.length c)).run Tryd.prog wz = .ok (.string ⟨bs.toArray⟩) wz)
        (exact HS.out _ hd)
        (first | (go_at_call 17; (with_reducible refine (KN.out _).mono ?_); rintro e wn ⟨rfl, h9⟩; (try (replace r1 := r1.nxt h9; replace u1 := str32 _ HGL.out r1)); (try (replace r2 := r2.nxt h9; replace u2 := str32 _ HGL.out r2)); replace hd := hd.trans (h9.mono hd.size)) | (go_at_call 38; (with_reducible refine (KE.out _).mono ?_); rintro e wt ⟨At, ct, rfl, ot, h9⟩; (try (replace r2 := r2.nxt h9; replace u2 := str32 _ HGL.out r2)); have r1 := ot.rd; have u1 := str32 wt HGL.out r1; replace hd := hd.trans (h9.mono hd.size); clear ot) | (go_at_call 13; (with_reducible refine (KO.out _).mono ?_); rintro e wo ⟨rfl, h9⟩; (try (replace r1 := r1.nxt h9; replace u1 := str32 _ HGL.out r1)); replace hd := hd.trans (h9.mono hd.size)) | (go_at_call 39; (with_reducible refine (KX'.out _).mono ?_); rintro e wx ⟨Ax, cx, rfl, oxx, h9⟩; (try (replace r1 := r1.nxt h9; replace u1 := str32 _ HGL.out r1)); have r2 := oxx.rd; have u2 := str32 wx HGL.out r2; replace hd := hd.trans (h9.mono hd.size); clear oxx) | (go_at_call 25; (with_reducible refine (awake_any _ (HGG.out _ hd)).mono ?_); rintro e wa ⟨rfl, h9⟩; replace hd := hd.trans (h9.mono hd.size)) | ((with_reducible refine gate_list .eql 24 ?_); refine wpList_eqlA 24 _ _ _ rfl rfl rfl rfl (guard4 _ _ _ _ _) (by first | with_reducible exact Q.out _) ?_) | ((with_reducible refine gate_wp .eql 24 ?_); refine wp_eqlA 24 _ _ _ rfl rfl rfl (guard4 _ _ _ _ _) (by first | with_reducible exact Q.out _) ?_)))
    | fail
  all_goals
    go_wp2_with fail
    go_ret
    exact ⟨rfl, hc.trans (hd.mono hs)⟩
end Go.Proofs.YtifcjfeepgfmfaaDoor
