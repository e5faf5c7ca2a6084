import Derived.Test.YtifcjfeepgfmfaaDoorLUndone
namespace Go.Proofs.YtifcjfeepgfmfaaDoor
open Go Go.RowKit
theorem vb_gen {x : Nat} (hx : x < W4) : vb (gen (bf x) 32) = x := by
  have hl : (gen (bf x) 32).length = 32 := gen_length _ _
  unfold vb
  rw [hl]
  refine dgt_ext (b := 256) (n := 32) (vk_lt _ _) (by rw [← W4_256]; exact hx) fun i hi => ?_
  rw [show dgt 256 (vk (gen (bf x) 32) 32) i = nth (gen (bf x) 32) i from vk_dig _ i 32 hi, nth_gen hi, bf_nat]
  rfl
theorem gen_vb {bs : List UInt8} (hl : bs.length = 32) : gen (bf (vb bs)) 32 = bs := by
  refine nth_ext (by rw [gen_length, hl]) fun k hk => ?_
  rw [gen_length] at hk
  rw [nth_gen hk, bf_nat]
  have h := vk_dig bs k 32 hk
  unfold vb
  rw [hl]
  exact h
theorem str32 (w : World) {B c : Nat} {A : Option Addr} {bs : List UInt8} (hl : bs.length = 32) (hr : Rd w B A c bs) : (convert 44 9 (.slice A 32 c)).run Tryd.prog w = .ok (.string ⟨bs.toArray⟩) w := by
  have h := run_str (P := Tryd.prog) w 44 5 Tryd.underlying44 Tryd.underlying5 (dst := 9) Tryd.underlying9 hr
  rw [hl] at h
  exact h
theorem dec_tells {x : Nat} (hx : x < P25) (w : World) {B c : Nat} {A : Option Addr} (hr : Rd w B A c (gen (bf x) 32)) (hB : B ≤ w.heap.size) :
    Calls Tryd.prog 36 #[.slice A 32 c] w fun e w' => e = .returned (.tuple #[nv x, .int .i64 0]) ∧ Below w.heap.size w w' := by
  have h := decode_any w hr hB (gen_length _ _)
  rw [gen_length, vb_gen (Nat.lt_trans hx P25_W4), decide_eq_true hx] at h
  exact h
attribute [local irreducible] wd by8
set_option maxRecDepth 20000
set_option maxHeartbeats 3200000 in
theorem form_bad {a x z c : Nat} {A : Option Addr} {bs : List UInt8} {E : Int} (hx : x < P25) (hzz : z = 0) (hE : (E == 0) = false) (hE' : (E != 0) = true)
    (ke : ∀ w, Calls Tryd.prog 38 #[nv a] w fun e w' => ∃ A c, e = .returned (.slice A 32 c) ∧ Own w' w.heap.size 5 A c (gen (bf x) 32) ∧ Below w.heap.size w w')
    (kr : ∀ w, Calls Tryd.prog 16 #[nv a] w fun e w' => e = .returned (nv x) ∧ Below w.heap.size w w')
    (kd : ∀ (B c : Nat) (A : Option Addr) (w : World), Rd w B A c bs → B ≤ w.heap.size → Calls Tryd.prog 36 #[.slice A bs.length c] w fun e w' => e = .returned (.tuple #[nv z, .int .i64 E]) ∧ Below w.heap.size w w')
    (w : World) (hr : Rd w w.heap.size A c bs) (hl : bs.length ≤ 140737488355328) (hG : Glb w) :
    Calls Tryd.prog 12 #[nv a, .slice A bs.length c] w fun e w' => e = .returned (.bool true) ∧ Below w.heap.size w w' := by
  have HZ := Lib.hid hzz
  have H1 := Lib.hid hE
  have H2 := Lib.hid hE'
  clear hzz hE hE'
  obtain ⟨i0, hi, hz0, hz1, hz2⟩ := info_parts infoByte
  have hxW : x < W4 := Nat.lt_trans hx P25_W4
  have hbx := hxW
  obtain ⟨v0, e0⟩ : ∃ v, v = w.alloc (A4 a) := ⟨_, rfl⟩
  have oa : O4 v0 w.heap.size w.heap.size a := by rw [e0]; exact O4.new (Nat.le_refl _) a
  have hc : Below w.heap.size w v0 := by rw [e0]; exact (Below.refl _ w).alloc (Nat.le_refl _) _
  have KE := Lib.hid ke
  have KR := Lib.hid kr
  have KD := Lib.hid kd
  have HG := Lib.hid hG
  have HX := Lib.hid hx
  clear ke kr kd hG hx hxW
  unfold nv
  go_enter Tryd.func12, Tryd.ntmps12
  go_wp2_with fail
  rw [← e0]
  clear e0
  go_at_call 38
  refine (KE.out _).mono ?_
  rintro e v1 ⟨A1, c1, rfl, o1, h0⟩
  replace oa := oa.keep h0
  replace hc := hc.trans (h0.mono hc.size)
  clear h0
  go_wp2_with fail
  go_at_call 36
  refine (dec_tells HX.out _ o1.rd (Nat.le_refl _)).mono ?_
  rintro e v2 ⟨rfl, h0⟩
  clear o1
  replace oa := oa.keep h0
  replace hc := hc.trans (h0.mono hc.size)
  clear h0
  have ox := O4.new (w := v2) hc.size x
  replace oa := oa.alloc (A4 x)
  replace hc := hc.alloc hc.size (A4 x)
  go_upto_region 2 with fail
  obtain ⟨v3, e3⟩ : ∃ v, v = v2.alloc (A4 x) := ⟨_, rfl⟩
  rw [← e3] at oa ox hc ⊢
  clear e3
  have HS := Lib.hid (keep44 oa ox)
  have hs := hc.size
  refine wp_region_seq 7 (fun wz => Below v3.heap.size v3 wz) (by kernel_rfl) (by kernel_rfl) (Below.refl _ v3).drew ?_
  simp only [List.take_succ_cons, List.take_zero, List.drop_succ_cons, List.drop_zero]
  refine Seq.run (nv x) rfl (fun wz hz => by obtain ⟨-, -, -, -, s0, s1, s2, s3⟩ := HS.out wz hz; go_simp) ?_
  go_simp
  refine Seq.run (nv a) rfl (fun wz hz => by obtain ⟨s0, s1, s2, s3, -⟩ := HS.out wz hz; go_simp) ?_
  go_simp
  refine Seq.call (nv x) 16 #[nv a] rfl (fun wz hz => by go_simp) (fun wz hz => (KR.out wz).mono fun e w' ⟨he, h1⟩ => ⟨he, hz.trans (h1.mono hz.size)⟩) ?_
  go_simp
  refine Seq.run (.bool false) rfl (fun wz hz => run_ne4 rfl rfl rfl hbx hbx (by simp) wz) ?_
  go_simp
  refine Seq.run (.bool false) rfl (fun wz hz => by go_simp) ?_
  go_simp
  refine Seq.runG (.int .i64 0) (by rfl) (fun wz hz => by go_simp) ?_
  go_simp
  refine Seq.runG (.bool false) (by rfl) (fun wz hz => by go_simp) ?_
  go_simp
  refine Seq.nil fun v4 hd => ?_
  replace hc := hc.trans (hd.mono hs)
  clear hd HS hs ox oa
  have hrb := hr.keep hc
  have h2 : Rd (v4.alloc (.cells #[] 5)) w.heap.size A c bs := hrb.keep ((Below.refl _ v4).alloc hc.size _)
  have h3 : Own (v4.alloc (.cells #[] 5)) v4.heap.size 5 (some ⟨v4.heap.size, 0, none⟩) 0 [] := World.ownsRow_made v4 #[] 0 (Nat.le_refl _) (by decide) (by decide)
  have h4 : Below v4.heap.size v4 (v4.alloc (.cells #[] 5)) := (Below.refl _ v4).alloc (Nat.le_refl _) _
  go_wp2_with (at_builtin; refine wpList_app _ rfl (.tmp 24) (.tmp 25) _ rfl v4.heap.size 5 i0 _ Tryd.underlying44 hi hz0 hz1 hz2 rfl (xs := []) rfl h3 rfl h2 (by simpa using hl) (by simp) ?_; intro A' c' w' ho hb)
  replace ho : Own w' v4.heap.size 5 A' c' bs := ho
  replace hc := hc.trans ((h4.trans hb).mono hc.size)
  clear h2 h3 h4 hb hrb
  go_at_call 36
  refine (KD.out _ _ _ _ ho.rd (Nat.le_refl _)).mono ?_
  rintro e v5 ⟨rfl, h0⟩
  replace hc := hc.trans (h0.mono hc.size)
  clear h0 ho
  have om := O4.new (w := v5) hc.size z
  replace hc := hc.alloc hc.size (A4 z)
  go_upto_region 5 with fail
  obtain ⟨v6, e6⟩ : ∃ v, v = v5.alloc (A4 z) := ⟨_, rfl⟩
  rw [← e6] at om hc ⊢
  clear e6
  have hs := hc.size
  have hG6 := HG.out.keep hc HG.out.pos
  have HGG := Lib.hid (fun wz (hz : Below v6.heap.size v6 wz) => hG6.next hz)
  clear hG6
  have HS := Lib.hid (keep4 om)
  have hbz : z < W4 := by rw [HZ.out]; exact W4_pos
  have hz0' : decide (z = 0) = true := decide_eq_true HZ.out
  have hE := H1.out
  have hE' := H2.out
  refine wp_region_seq 22 (fun wz => Below v6.heap.size v6 wz) (by kernel_rfl) (by kernel_rfl) (Below.refl _ v6).drew ?_
  simp only [List.take_succ_cons, List.take_zero, List.drop_succ_cons, List.drop_zero]
  refine Seq.run (.int .i64 E) rfl (fun wz hz => by go_simp) ?_
  go_simp
  refine Seq.run (.bool true) rfl (fun wz hz => by go_simp) ?_
  go_simp
  refine Seq.run (.bool true) rfl (fun wz hz => by go_simp) ?_
  go_simp
  refine Seq.runG (nv z) (by rfl) (fun wz hz => by obtain ⟨s0, s1, s2, s3⟩ := HS.out wz hz; go_simp) ?_
  go_simp
  refine Seq.runG (lit4 0 0 0 0) (by rfl) (fun wz hz => by go_simp) ?_
  go_simp
  refine Seq.runG (.bool true) (by rfl) (fun wz hz => run_eq4 rfl rfl (by exact nv_z.symm) (x := z) (y := 0) hbz W4_pos hz0' wz) ?_
  go_simp
  refine Seq.run (.bool true) rfl (fun wz hz => by go_simp) ?_
  go_simp
  refine Seq.run (.bool true) rfl (fun wz hz => by go_simp) ?_
  go_simp
  refine Seq.skip (by rfl) ?_
  go_simp
  refine Seq.skip (by rfl) ?_
  go_simp
  refine Seq.skip (by rfl) ?_
  go_simp
  refine Seq.skip (by rfl) ?_
  go_simp
  refine Seq.skip (by rfl) ?_
  go_simp
  refine Seq.skip (by rfl) ?_
  go_simp
  refine Seq.skip (by rfl) ?_
  go_simp
  refine Seq.skip (by rfl) ?_
  go_simp
  refine Seq.skip (by rfl) ?_
  go_simp
  refine Seq.skip (by rfl) ?_
  go_simp
  refine Seq.run (.bool true) rfl (fun wz hz => by go_simp) ?_
  go_simp
  refine Seq.run (.bool true) rfl (fun wz hz => by go_simp) ?_
  go_simp
  refine Seq.callG (.bool true) 25 #[] (by rfl) (fun wz hz => by go_simp) (fun wz hz => (awake_any wz (HGG.out wz hz)).mono fun e w' ⟨he, h1⟩ => ⟨he, hz.trans (h1.mono hz.size)⟩) ?_
  go_simp
  refine Seq.run (.bool true) rfl (fun wz hz => by go_simp) ?_
  go_simp
  refine Seq.nil fun v7 hd => ?_
  go_wp2_with fail
  go_ret
  exact ⟨rfl, hc.trans (hd.mono hs)⟩
set_option warningAsError false in
set_option maxHeartbeats 3200000 in
theorem form_good {a x m c : Nat} {A : Option Addr} {bs : List UInt8} (hx : x < P25) (h32 : bs.length = 32)
    (km : ∀ w, Calls Tryd.prog 38 #[nv m] w fun e w' => ∃ A c, e = .returned (.slice A 32 c) ∧ Own w' w.heap.size 5 A c bs ∧ Below w.heap.size w w')
    (ke : ∀ w, Calls Tryd.prog 38 #[nv a] w fun e w' => ∃ A c, e = .returned (.slice A 32 c) ∧ Own w' w.heap.size 5 A c (gen (bf x) 32) ∧ Below w.heap.size w w')
    (kr : ∀ w, Calls Tryd.prog 16 #[nv a] w fun e w' => e = .returned (nv x) ∧ Below w.heap.size w w')
    (kd : ∀ (B c : Nat) (A : Option Addr) (w : World), Rd w B A c bs → B ≤ w.heap.size → Calls Tryd.prog 36 #[.slice A bs.length c] w fun e w' => e = .returned (.tuple #[nv m, .int .i64 0]) ∧ Below w.heap.size w w')
    (w : World) (hr : Rd w w.heap.size A c bs) (hl : bs.length ≤ 140737488355328) (hG : Glb w) :
    Calls Tryd.prog 12 #[nv a, .slice A bs.length c] w fun e w' => e = .returned (.bool true) ∧ Below w.heap.size w w' := by
  have KM := Lib.hid km
  have HL := Lib.hid h32
  clear km h32
  obtain ⟨i0, hi, hz0, hz1, hz2⟩ := info_parts infoByte
  have hxW : x < W4 := Nat.lt_trans hx P25_W4
  have hbx := hxW
  obtain ⟨v0, e0⟩ : ∃ v, v = w.alloc (A4 a) := ⟨_, rfl⟩
  have oa : O4 v0 w.heap.size w.heap.size a := by rw [e0]; exact O4.new (Nat.le_refl _) a
  have hc : Below w.heap.size w v0 := by rw [e0]; exact (Below.refl _ w).alloc (Nat.le_refl _) _
  have KE := Lib.hid ke
  have KR := Lib.hid kr
  have KD := Lib.hid kd
  have HG := Lib.hid hG
  have HX := Lib.hid hx
  clear ke kr kd hG hx hxW
  unfold nv
  go_enter Tryd.func12, Tryd.ntmps12
  go_wp2_with fail
  rw [← e0]
  clear e0
  go_at_call 38
  refine (KE.out _).mono ?_
  rintro e v1 ⟨A1, c1, rfl, o1, h0⟩
  replace oa := oa.keep h0
  replace hc := hc.trans (h0.mono hc.size)
  clear h0
  go_wp2_with fail
  go_at_call 36
  refine (dec_tells HX.out _ o1.rd (Nat.le_refl _)).mono ?_
  rintro e v2 ⟨rfl, h0⟩
  clear o1
  replace oa := oa.keep h0
  replace hc := hc.trans (h0.mono hc.size)
  clear h0
  have ox := O4.new (w := v2) hc.size x
  replace oa := oa.alloc (A4 x)
  replace hc := hc.alloc hc.size (A4 x)
  go_upto_region 2 with fail
  obtain ⟨v3, e3⟩ : ∃ v, v = v2.alloc (A4 x) := ⟨_, rfl⟩
  rw [← e3] at oa ox hc ⊢
  clear e3
  have HS := Lib.hid (keep44 oa ox)
  have hs := hc.size
  refine wp_region_seq 7 (fun wz => Below v3.heap.size v3 wz) (by kernel_rfl) (by kernel_rfl) (Below.refl _ v3).drew ?_
  simp only [List.take_succ_cons, List.take_zero, List.drop_succ_cons, List.drop_zero]
  refine Seq.run (nv x) rfl (fun wz hz => by obtain ⟨-, -, -, -, s0, s1, s2, s3⟩ := HS.out wz hz; go_simp) ?_
  go_simp
  refine Seq.run (nv a) rfl (fun wz hz => by obtain ⟨s0, s1, s2, s3, -⟩ := HS.out wz hz; go_simp) ?_
  go_simp
  refine Seq.call (nv x) 16 #[nv a] rfl (fun wz hz => by go_simp) (fun wz hz => (KR.out wz).mono fun e w' ⟨he, h1⟩ => ⟨he, hz.trans (h1.mono hz.size)⟩) ?_
  go_simp
  refine Seq.run (.bool false) rfl (fun wz hz => run_ne4 rfl rfl rfl hbx hbx (by simp) wz) ?_
  go_simp
  refine Seq.run (.bool false) rfl (fun wz hz => by go_simp) ?_
  go_simp
  refine Seq.runG (.int .i64 0) (by rfl) (fun wz hz => by go_simp) ?_
  go_simp
  refine Seq.runG (.bool false) (by rfl) (fun wz hz => by go_simp) ?_
  go_simp
  refine Seq.nil fun v4 hd => ?_
  replace hc := hc.trans (hd.mono hs)
  clear hd HS hs ox oa
  have hrb := hr.keep hc
  have h2 : Rd (v4.alloc (.cells #[] 5)) w.heap.size A c bs := hrb.keep ((Below.refl _ v4).alloc hc.size _)
  have h3 : Own (v4.alloc (.cells #[] 5)) v4.heap.size 5 (some ⟨v4.heap.size, 0, none⟩) 0 [] := World.ownsRow_made v4 #[] 0 (Nat.le_refl _) (by decide) (by decide)
  have h4 : Below v4.heap.size v4 (v4.alloc (.cells #[] 5)) := (Below.refl _ v4).alloc (Nat.le_refl _) _
  go_wp2_with (at_builtin; refine wpList_app _ rfl (.tmp 24) (.tmp 25) _ rfl v4.heap.size 5 i0 _ Tryd.underlying44 hi hz0 hz1 hz2 rfl (xs := []) rfl h3 rfl h2 (by simpa using hl) (by simp) ?_; intro A' c' w' ho hb)
  replace ho : Own w' v4.heap.size 5 A' c' bs := ho
  replace hc := hc.trans ((h4.trans hb).mono hc.size)
  clear h2 h3 h4 hb hrb
  go_at_call 36
  refine (KD.out _ _ _ _ ho.rd (Nat.le_refl _)).mono ?_
  rintro e v5 ⟨rfl, h0⟩
  replace hc := hc.trans (h0.mono hc.size)
  clear h0 ho
  have om := O4.new (w := v5) hc.size m
  replace hc := hc.alloc hc.size (A4 m)
  go_upto_region 5 with fail
  obtain ⟨v6, e6⟩ : ∃ v, v = v5.alloc (A4 m) := ⟨_, rfl⟩
  rw [← e6] at om hc ⊢
  clear e6
  have hs := hc.size
  have hG6 := HG.out.keep hc HG.out.pos
  have HGG := Lib.hid (fun wz (hz : Below v6.heap.size v6 wz) => hG6.next hz)
  clear hG6
  have hrb := hr.keep hc
  have h32 := HL.out
  have HC : ∀ wz, Below v6.heap.size v6 wz → wz.cell? ⟨v5.heap.size, 0, none⟩ = some (.int .u64 (wd m 0 : Int)) ∧ wz.cell? ⟨v5.heap.size, 1, none⟩ = some (.int .u64 (wd m 1 : Int)) ∧ wz.cell? ⟨v5.heap.size, 2, none⟩ = some (.int .u64 (wd m 2 : Int)) ∧ wz.cell? ⟨v5.heap.size, 3, none⟩ = some (.int .u64 (wd m 3 : Int)) ∧ (convert 44 9 (.slice A bs.length c)).run Tryd.prog wz = .ok (.string ⟨bs.toArray⟩) wz := fun wz hz => by
    obtain ⟨b0, b1, b2, b3⟩ := (om.keep hz).c4
    refine ⟨b0, b1, b2, b3, ?_⟩
    have h := str32 wz h32 (hrb.keep (hz.mono hs))
    rw [← h32] at h
    exact h
  have HS := Lib.hid HC
  clear HC hrb h32
  obtain ⟨s0, s1, s2, s3, sb⟩ := HS.out v6 (Below.refl _ _)
  have hd : Below v6.heap.size v6 v6.drew := (Below.refl _ v6).drew
  have hund : undef = Value.tuple #[] := rfl
  first
    | (go_region_held3 (fun wz => wz.cell? ⟨v5.heap.size, 0, none⟩ = some (.int .u64 (wd m 0 : Int)) ∧ wz.cell? ⟨v5.heap.size, 1, none⟩ = some (.int .u64 (wd m 1 : Int)) ∧ wz.cell? ⟨v5.heap.size, 2, none⟩ = some (.int .u64 (wd m 2 : Int)) ∧ wz.cell? ⟨v5.heap.size, 3, none⟩ = some (.int .u64 (wd m 3 : Int)) ∧ (convert 44 9 (.slice A bs.length c)).run Tryd.prog wz = .ok (.string ⟨bs.toArray⟩) wz)
        (exact HS.out _ hd)
        (first | (go_at_call 38; (with_reducible refine (KM.out _).mono ?_); rintro e wt ⟨At, ct, rfl, ot, h9⟩; have hst := str32 wt HL.out ot.rd; replace hd := hd.trans (h9.mono hd.size); clear ot) | (go_at_call 25; (with_reducible refine (awake_any _ (HGG.out _ hd)).mono ?_); rintro e wa ⟨rfl, h9⟩; replace hd := hd.trans (h9.mono hd.size))))
    | fail
  all_goals
    go_wp2_with fail
    go_ret
    exact ⟨rfl, hc.trans (hd.mono hs)⟩
theorem form_walk {a c : Nat} {A : Option Addr} {bs : List UInt8} {w0 : World} (ha : a < W4) (hr : Rd w0 w0.heap.size A c bs) (hl : bs.length ≤ 140737488355328) (w : World) (hw : w = w0) (hG : Glb w) :
    Calls Tryd.prog 12 #[nv a, .slice A bs.length c] w fun e w' => e = .returned (.bool true) ∧ Below w.heap.size w w' := by
  subst hw
  by_cases h : bs.length = 32
  · by_cases h2 : vb bs < P25
    · refine form_good (m := vb bs) (Nat.mod_lt a P25_pos) h (fun w => ?_) (fun w => encode_any ha w) (fun w => reduce_any ha w) (fun B c A w hr hB => ?_) w hr hl hG
      · have h3 := encode_any (vb_lt h) w
        rw [Nat.mod_eq_of_lt h2, gen_vb h] at h3
        exact h3
      · have h3 := decode_any w hr hB h
        rw [decide_eq_true h2] at h3
        exact h3
    · refine form_bad (z := 0) (E := 6) (Nat.mod_lt a P25_pos) rfl rfl rfl (fun w => encode_any ha w) (fun w => reduce_any ha w) (fun B c A w hr hB => ?_) w hr hl hG
      have h3 := decode_any w hr hB h
      rw [decide_eq_false h2] at h3
      exact h3
  · exact form_bad (z := 0) (E := 1) (Nat.mod_lt a P25_pos) rfl rfl rfl (fun w => encode_any ha w) (fun w => reduce_any ha w) (fun B c A w hr hB => decode_len h w) w hr hl hG
end Go.Proofs.YtifcjfeepgfmfaaDoor
