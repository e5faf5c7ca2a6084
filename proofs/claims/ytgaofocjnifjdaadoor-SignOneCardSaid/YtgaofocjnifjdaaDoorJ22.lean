/-
  The code's digest and times (layer 9). By an AI agent. The code's grow and Public (layer 9). By an AI agent.
-/
import Derived.Test.YtgaofocjnifjdaaDoorJ19
import Derived.Test.YtgaofocjnifjdaaDoorJ20
import Derived.Test.YtgaofocjnifjdaaDoorJ21
import Derived.Test.YtgaofocjnifjdaaDoorJ17
import Derived.Test.YtgaofocjnifjdaaDoorK2
import Derived.Test.YtgaofocjnifjdaaDoorJ18
namespace Go.Proofs.YtgaofocjnifjdaaDoor
open Go Go.RowKit
set_option maxRecDepth 20000
theorem own9_of {w : World} {B c n : Nat} {e : TypeId} {A : Option Addr} {S : List UInt8} (h : OwnF w B e A c n (bvf S)) (hl : S.length = n) : Own w B e A c S := by
  unfold OwnF at h
  unfold Own
  have : (List.range n).map (bvf S) = S.map bv := by
    refine List.ext_getElem (by simp [hl]) fun i h1 h2 => ?_
    have hi : i < S.length := by simpa using h2
    simp only [List.getElem_map, List.getElem_range, bvf, bv]
    rw [nth_get hi]
  rw [hl, ← this]
  exact h
theorem code_hsh {A : Option Addr} {B c : Nat} {bs : List UInt8} (hl : bs.length ≤ 140737488355328) (w : World) (hG : GlbS w) (hr : Rd w B A c bs) (hB : B ≤ w.heap.size) :
    Calls Tryd.prog 24 #[.slice A bs.length c] w fun e w' => ∃ A1 c1, e = .returned (.slice A1 64 c1) ∧ Own w' w.heap.size 5 A1 c1 (hsh bs) ∧ Below w.heap.size w w' :=
  (code512 hl w hG hr hB).mono fun _ _ ⟨_, he, ho, hb⟩ => ⟨_, _, he, own9_of ho (hsh_len bs), hb⟩
theorem code_of {A : Option Addr} {c : Nat} {bs : List UInt8} (w : World) (hr : Rd w w.heap.size A c (hsh bs)) :
    Calls Tryd.prog 27 #[.slice A 64 c] w fun e w' => e = .returned (.tuple #[nv (lefN bs), .int .i64 0]) ∧ Below w.heap.size w w' := by
  have h := tof_good w hr (Nat.le_refl _) (by rw [hsh_len]; decide)
  rw [hsh_len] at h
  exact h
section
attribute [local irreducible] wd by8 d16 set16w set4w set8p set6 gw gz fl rl setA t3f ivN mlN adN sbN hsh lefN clam
set_option maxHeartbeats 800000 in
theorem digest_any {A : Option Addr} {B c n : Nat} {L : List (List UInt8)} (hn : L.length = n) (h6 : n ≤ 1048576) (hs : (joinL L).length ≤ 1048576) (w : World) (hG : GlbS w) (hr : Rds w B A c L) (hB : B ≤ w.heap.size) :
    Calls Tryd.prog 11 #[.slice A n c] w fun e w' => e = .returned (nv (lefN (joinL L))) ∧ Below w.heap.size w w' := by
  subst hn
  obtain ⟨v0, ev⟩ : ∃ v, v = w.alloc Zs := ⟨_, rfl⟩
  have b0 : Below w.heap.size w v0 := by rw [ev]; exact (Below.refl _ _).alloc (Nat.le_refl _) _
  obtain ⟨g0, eg⟩ : ∃ g, g = w.heap.size := ⟨_, rfl⟩
  have o0 : Osc v0 w.heap.size g0 0 := by rw [eg, ev]; exact Osc.newz (Nat.le_refl _)
  have KJ := Lib.hid (join_code v0 (hr.keep (b0.mono hB)) (Nat.le_trans hB b0.size) hs h6)
  have HS := Lib.hid hs
  have HG := Lib.hid hG
  obtain ⟨x, hx⟩ : ∃ x, x = lefN (joinL L) := ⟨_, rfl⟩
  rw [← hx]
  have HX := Lib.hid hx
  clear hs hr hG h6 hx
  go_enter Tryd.func11, Tryd.ntmps11
  go_upto_region 1 with fail
  rw [← ev]
  rw [show Value.pointer (some ⟨w.heap.size, 0, none⟩) = .pointer (some ⟨g0, 0, none⟩) by rw [eg]]
  clear ev eg
  go_wp2_with fail
  go_at_call 17
  refine KJ.out.mono ?_
  rintro e v1 ⟨A1, c1, rfl, ho, hb⟩
  have hc := b0.trans (hb.mono b0.size)
  replace o0 := o0.keep hb
  have KS := Lib.hid (code_hsh (Nat.le_trans HS.out (by decide)) v1 (HG.out.next hc) ho.rd (Nat.le_refl _))
  clear hb ho KJ b0
  go_wp2_with fail
  go_at_call 24
  refine KS.out.mono ?_
  rintro e v2 ⟨A2, c2, rfl, rd, hb⟩
  replace o0 := o0.keep hb
  replace hc := hc.trans (hb.mono hc.size)
  have ko := code_of v2 rd.rd
  rw [← HX.out] at ko
  have KO := Lib.hid ko
  clear hb rd KS ko
  go_wp2_with fail
  go_at_call 27
  refine KO.out.mono ?_
  rintro e v3 ⟨rfl, hb⟩
  replace o0 := o0.keep hb
  replace hc := hc.trans (hb.mono hc.size)
  clear hb KO
  have on0 := Osc.newz (w := v3) (B := v3.heap.size) (Nat.le_refl _)
  have o1 := on0.put x
  have hbz := ((Below.refl _ v3).alloc (Nat.le_refl _) Zs).trans (on0.below x)
  replace o0 := o0.keep hbz
  replace hc := hc.trans (hbz.mono hc.size)
  clear hbz
  go_upto_region 2 with ((with_reducible refine sc_store on0 x ?_ ?_ ?_); rfl; rfl)
  obtain ⟨v4, ev⟩ : ∃ v, v = set4w (v3.alloc Zs) v3.heap.size x := ⟨_, rfl⟩
  obtain ⟨g1, eg⟩ : ∃ g, g = v3.heap.size := ⟨_, rfl⟩
  rw [← ev] at o0 o1 hc ⊢
  rw [← eg] at o1 ⊢
  clear ev eg on0
  have HR := Lib.hid (o0.put x)
  have HC := Lib.hid (hc.trans (o0.below x))
  go_wp2_with (first | ((with_reducible refine sc_load o1 ?_ ?_); rfl) | ((with_reducible refine sc_store o0 x ?_ ?_ ?_); rfl; rfl))
  exact bodyPost_ret (scres Tryd.results11 _ HR.out rfl) rfl ⟨rfl, HC.out⟩
set_option maxHeartbeats 800000 in
theorem timesc_any {n : Nat} (hn : n < W4) (w : World) (hG : G8 w) :
    Calls Tryd.prog 12 #[nv n] w fun e w' => ∃ A c, e = .returned (.slice A 32 c) ∧ Own w' w.heap.size 5 A c (encP (B25.mul n)) ∧ Below w.heap.size w w' := by
  have hx : bx = B25.x.val ∧ by_ = B25.y.val := ⟨(Nat.mod_eq_of_lt bx_lt).symm, (Nat.mod_eq_of_lt by_lt).symm⟩
  have kb := cBase_any
  rw [hx.1, hx.2] at kb
  have km := fun v => cMult_pt (i := n) hn B25 v
  have ke := cEncode_pt (B25.mul n)
  obtain ⟨x, ex⟩ : ∃ x, x = (B25.mul n).x.val := ⟨_, rfl⟩
  obtain ⟨y, ey⟩ : ∃ x, x = (B25.mul n).y.val := ⟨_, rfl⟩
  obtain ⟨E, eE⟩ : ∃ E, E = encP (B25.mul n) := ⟨_, rfl⟩
  rw [show encN (B25.mul n).x.val (B25.mul n).y.val = E from eE.symm, ← ex, ← ey] at ke
  rw [← ex, ← ey] at km
  rw [← eE]
  obtain ⟨p, ep⟩ : ∃ x, x = B25.x.val := ⟨_, rfl⟩
  obtain ⟨q, eq⟩ : ∃ x, x = B25.y.val := ⟨_, rfl⟩
  rw [← ep, ← eq] at kb km
  have KB := Lib.hid kb
  have KM := Lib.hid km
  have KE := Lib.hid ke
  have HG := Lib.hid hG
  clear kb km ke hx ex ey eE ep eq hn hG
  obtain ⟨v0, ev⟩ : ∃ v, v = w.alloc (A4 n) := ⟨_, rfl⟩
  have hc : Below w.heap.size w v0 := by rw [ev]; exact (Below.refl _ _).alloc (Nat.le_refl _) _
  obtain ⟨g0, eg⟩ : ∃ g, g = w.heap.size := ⟨_, rfl⟩
  have o0 : O4 v0 w.heap.size g0 n := by rw [eg, ev]; exact O4.new (Nat.le_refl _) n
  replace HG := Lib.hid (HG.out.next hc)
  go_enter Tryd.func12, Tryd.ntmps12
  go_upto_region 1 with fail
  rw [← ev]
  rw [show Value.pointer (some ⟨w.heap.size, 0, none⟩) = .pointer (some ⟨g0, 0, none⟩) by rw [eg]]
  clear ev eg
  refine wp_region_box 9 [some 8, some 9, some 10, some 7, some 11, some 12, some 3, none, some 4] [.val (nv n), .val (prv p q), .val (.tuple #[prv x y, .int .i64 0]), .val (.tuple #[prv x y, .int .i64 0]), .val (prv x y), .val (.int .i64 0), .box 50 8, .holds 6 50 8 (pw x y), .val (.int .i64 0)] v0.heap.size (fun wz => Below v0.heap.size v0 wz) (by kernel_rfl) (by kernel_rfl)
    (fun _ _ h _ hb => h.trans hb) ((Below.refl _ _).drew) (Nat.le_refl _) (fun u => by simp only [List.filterMap_cons, List.filterMap_nil, id, puts, List.foldl_cons, List.foldl_nil]; go_simp; exact rfl) ?_ ?_
  · simp only [List.take_succ_cons, List.take_zero]
    refine ObsB.cons (fun u w L hL hS hBw hd => ?_) ?_
    · exact GB.run 8 rfl (nv n) rfl (run_nload rfl rfl (O4.keep o0 hS)) rfl rfl
    refine ObsB.cons (fun u w L hL hS hBw hd => ?_) ?_
    · refine GB.call 9 rfl 23 #[] rfl (by go_simp) rfl ((KB.out w).mono ?_)
      rintro e w' ⟨rfl, hb⟩
      exact ⟨_, rfl, rfl, hb⟩
    refine ObsB.cons (fun u w L hL hS hBw hd => ?_) ?_
    · have d8 : u 8 = nv n := depB hd 0 rfl
      rw [d8]
      have d9 : u 9 = prv p q := depB hd 1 rfl
      rw [d9]
      refine GB.call 10 rfl 28 #[nv n, prv p q] rfl (by go_simp) rfl ((KM.out w (HG.out.next hS)).mono ?_)
      rintro e w' ⟨rfl, hb⟩
      exact ⟨_, rfl, rfl, hb⟩
    refine ObsB.cons (fun u w L hL hS hBw hd => ?_) ?_
    · have d10 : u 10 = .tuple #[prv x y, .int .i64 0] := depB hd 2 rfl
      rw [d10]
      exact GB.run 7 rfl (.tuple #[prv x y, .int .i64 0]) rfl (by go_simp) rfl rfl
    refine ObsB.cons (fun u w L hL hS hBw hd => ?_) ?_
    · have d7 : u 7 = .tuple #[prv x y, .int .i64 0] := depB hd 3 rfl
      rw [d7]
      exact GB.run 11 rfl (prv x y) rfl (by go_simp) rfl rfl
    refine ObsB.cons (fun u w L hL hS hBw hd => ?_) ?_
    · have d7 : u 7 = .tuple #[prv x y, .int .i64 0] := depB hd 3 rfl
      rw [d7]
      exact GB.run 12 rfl (.int .i64 0) rfl (by go_simp) rfl rfl
    refine ObsB.cons (fun u w L hL hS hBw hd => ?_) ?_
    · exact GB.alloc 3 rfl rfl #[.int .u64 0, .int .u64 0, .int .u64 0, .int .u64 0, .int .u64 0, .int .u64 0, .int .u64 0, .int .u64 0] 50 8 (fun _ => .int .u64 0) rfl rfl (by go_simp) hBw (by decide) rfl
    refine ObsB.cons (fun u w L hL hS hBw hd => ?_) ?_
    · have d11 : u 11 = prv x y := depB hd 4 rfl
      obtain ⟨g, fg, e3, o3⟩ : (Fact.box 50 8).ok v0.heap.size [some 8, some 9, some 10, some 7, some 11, some 12, some 3, none, some 4] 6 u w L := depB hd 6 rfl
      exact GB.store rfl 6 g 50 8 (pw x y) rfl rfl rfl e3 (run_pstore rfl (by exact e3) (by exact d11) o3) (only8p w g x y) (put8p o3 x y)
    refine ObsB.cons (fun u w L hL hS hBw hd => ?_) ?_
    · have d12 : u 12 = .int .i64 0 := depB hd 5 rfl
      rw [d12]
      exact GB.run 4 rfl (.int .i64 0) rfl (by go_simp) rfl rfl
    exact ObsB.nil
  intro u1 v1 hS hd
  obtain ⟨g3, e3, o3⟩ : (Fact.holds 6 50 8 (pw x y)).ok v0.heap.size [some 8, some 9, some 10, some 7, some 11, some 12, some 3, none, some 4] 7 u1 v1 (fun _ => true) := hd 7 (by decide)
  replace e3 : u1 3 = .pointer (some ⟨g3, 0, none⟩) := e3
  replace o3 : O8 v1 v0.heap.size g3 x y := o3
  replace hc := hc.trans (hS.mono hc.size)
  have KE1 := Lib.hid (KE.out v1)
  rw [e3]
  clear hS hd e3 KE KM KB HG o0
  simp only [List.drop_succ_cons, List.drop_zero]
  go_wp2_with ((with_reducible refine p_load o3 ?_ ?_); rfl)
  go_at_call 29
  refine KE1.out.mono ?_
  rintro e v2 ⟨A, c, rfl, ho, hb⟩
  replace ho := ho.mono hc.size
  replace hc := hc.trans (hb.mono hc.size)
  clear hb KE1 o3
  go_wp2_with fail
  go_ret
  exact ⟨A, c, rfl, ho, hc⟩
end
end Go.Proofs.YtgaofocjnifjdaaDoor
namespace Go.Proofs.YtgaofocjnifjdaaDoor
open Go Go.RowKit
set_option maxRecDepth 20000
/-- What the walks of this layer ask of a world: the curve's constants, the root of -1, the tables of SHA-512. -/
def G9w (w : World) : Prop := G8 w ∧ Glb w ∧ GlbS w
theorem g9n : ∀ w w', G9w w → Below w.heap.size w w' → G9w w' := fun _ _ h hb => ⟨h.1.next hb, h.2.1.next hb, h.2.2.next hb⟩
theorem grow_no {A : Option Addr} {n c : Nat} (hn : n ≠ 32) (w : World) :
    Calls Tryd.prog 10 #[.slice A n c] w fun e w' => e = .returned (.tuple #[.agg #[.int .u64 0, .int .u64 0, .int .u64 0, .int .u64 0, .slice none 0 0, .slice none 0 0], .int .i64 1]) ∧ Below w.heap.size w w' := by
  have g1 : ((n : Int) == 32) = false := by simp; omega
  have g2 : ((n : Int) != 32) = true := by simp; omega
  clear hn
  go_enter Tryd.func10, Tryd.ntmps10
  go_wp2_with fail
  refine bodyPost_ret (v := .tuple #[.agg #[.int .u64 0, .int .u64 0, .int .u64 0, .int .u64 0, .slice none 0 0, .slice none 0 0], .int .i64 1]) (by simp [results, Tryd.results10, go_sem]) rfl ⟨rfl, (Below.refl _ w).alloc (Nat.le_refl _) _⟩
theorem cver_len {A A1 A2 : Option Addr} {n0 n1 n2 c0 c1 c2 : Nat} (h : ¬ (n0 = 32 ∧ n2 = 64)) (w : World) : Calls Tryd.prog 9 #[.slice A n0 c0, .slice A1 n1 c1, .slice A2 n2 c2] w fun e w' => e = .returned (.int .i64 1) ∧ Below w.heap.size w w' := by
  by_cases h0 : n0 = 32
  · have h2 : n2 ≠ 64 := fun e => h ⟨h0, e⟩
    subst h0
    have g1 : ((n2 : Int) == 64) = false := by simp; omega
    have g2 : ((n2 : Int) != 64) = true := by simp; omega
    clear h h2
    go_enter Tryd.func9, Tryd.ntmps9
    go_wp2_with fail
    go_ret
    exact ⟨rfl, Below.refl _ _⟩
  · have g1 : ((n0 : Int) == 32) = false := by simp; omega
    have g2 : ((n0 : Int) != 32) = true := by simp; omega
    clear h h0
    go_enter Tryd.func9, Tryd.ntmps9
    go_wp2_with fail
    go_ret
    exact ⟨rfl, Below.refl _ _⟩
theorem cver0_any : CVer0 G9w := fun _ _ w _ => cver_len (by rintro ⟨_, h⟩; exact absurd h (by decide)) w
theorem from32 {bs : List UInt8} (hl : bs.length = 32) {A : Option Addr} {c : Nat} (w : World) (hr : Rd w w.heap.size A c bs) :
    Calls Tryd.prog 26 #[.slice A 32 c] w fun e w' => e = .returned (.tuple #[nv (vb bs), .int .i64 0]) ∧ Below w.heap.size w w' := by
  have h := from_good w hr (Nat.le_refl _) (Nat.le_of_eq hl)
  rwa [hl] at h
section
attribute [local irreducible] wd by8 d16 set16w set4w set8p set6 gw gz fl rl setA t3f ivN mlN adN sbN hsh lefN clam
set_option maxHeartbeats 1600000 in
theorem grow_any {A : Option Addr} {c : Nat} {seed : List UInt8} (h32 : seed.length = 32) (w : World) (hG : G9w w) (hr : Rd w w.heap.size A c seed) :
    Calls Tryd.prog 10 #[.slice A 32 c] w fun e w' => ∃ A1 c1 A2 c2, e = .returned (.tuple #[gv (secN seed) A1 32 c1 A2 32 c2, .int .i64 0]) ∧ Rd w' w'.heap.size A1 c1 (preB seed) ∧ Rd w' w'.heap.size A2 c2 (pubB seed) ∧ Below w.heap.size w w' := by
  obtain ⟨v0, ev⟩ : ∃ v, v = w.alloc Zg := ⟨_, rfl⟩
  have hc : Below w.heap.size w v0 := by rw [ev]; exact (Below.refl _ _).alloc (Nat.le_refl _) _
  obtain ⟨g0, eg⟩ : ∃ g, g = w.heap.size := ⟨_, rfl⟩
  have o0 : OwnF v0 w.heap.size 36 (some ⟨g0, 0, none⟩) 6 6 gz := by rw [eg, ev]; exact g6_newz (Nat.le_refl _)
  have HG := Lib.hid (g9n _ _ hG hc)
  have r0 : Rd v0 v0.heap.size A c seed := (hr.keep hc).mono hc.size
  have ks := code_hsh (bs := seed) (by rw [h32]; decide) v0 HG.out.2.2 r0 (Nat.le_refl _)
  rw [h32] at ks
  have KS := Lib.hid ks
  obtain ⟨H, hH⟩ : ∃ H, H = hsh seed := ⟨_, rfl⟩
  have hHl : H.length = 64 := by rw [hH, hsh_len]
  obtain ⟨X, hX⟩ : ∃ X, X = secN seed := ⟨_, rfl⟩
  obtain ⟨Pb, hP⟩ : ∃ P, P = preB seed := ⟨_, rfl⟩
  have hPl : Pb.length = 32 := by rw [hP, preB_len]
  obtain ⟨PB, hB⟩ : ∃ P, P = pubB seed := ⟨_, rfl⟩
  have hBl : PB.length = 32 := by rw [hB, pubB_len]
  have kt : ∀ w, G8 w → Calls Tryd.prog 12 #[nv (secN seed)] w fun e w' => ∃ A c, e = .returned (.slice A 32 c) ∧ Own w' w.heap.size 5 A c (pubB seed) ∧ Below w.heap.size w w' := fun w h => timesc_any (clam_W4 _) w h
  rw [← hX, ← hB] at kt
  have KT := Lib.hid kt
  rw [← hX, ← hP, ← hB]
  replace hP := Lib.hid (show Pb = H.drop 32 by rw [hP, hH]; rfl)
  obtain ⟨L, hL⟩ : ∃ L, L = gen (bf (clam (vb (H.take 32)))) 32 := ⟨_, rfl⟩
  have hLl : L.length = 32 := by rw [hL, gen_length]
  have hXL : X = vb L := by rw [hL, vb_of (clam_W4 _), hX, hH]; rfl
  have HH := Lib.hid hH
  have HL := Lib.hid hL
  have HXL := Lib.hid hXL
  clear ks kt hX hB hH hL hXL hr r0 hG
  go_enter Tryd.func10, Tryd.ntmps10
  go_upto_region 1 with fail
  rw [← ev]
  rw [show Value.pointer (some ⟨w.heap.size, 0, none⟩) = .pointer (some ⟨g0, 0, none⟩) by rw [eg]]
  clear ev eg
  go_wp2_with fail
  go_at_call 24
  refine KS.out.mono ?_
  rintro e v1 ⟨A1, c1, rfl, ho1, hb⟩
  have f1 : Off g0 A1 := Off.own ho1 (OwnF.lt o0)
  have r1 := ho1.rd
  rw [← HH.out] at r1
  clear ho1
  replace o0 := OwnF.keep o0 hb
  replace HG := Lib.hid (g9n _ _ HG.out hb)
  replace hc := hc.trans (hb.mono hc.size)
  have hcap := r1.cap
  rw [hHl] at hcap
  have rl0 := r1.pre (n := 32) (by rw [hHl]; decide) (by decide)
  have kc := gclamp_any (by rw [List.length_take, hHl]; rfl) v1 rl0 (Nat.le_refl _)
  rw [← HL.out] at kc
  have KC := Lib.hid kc
  clear hb KS kc rl0
  go_wp2_with fail
  go_at_call 25
  refine KC.out.mono ?_
  rintro e v2 ⟨A2, c2, rfl, ho, hb⟩
  replace o0 := OwnF.keep o0 hb
  replace HG := Lib.hid (g9n _ _ HG.out hb)
  replace hc := hc.trans (hb.mono hc.size)
  replace r1 := (r1.keep hb).mono hb.size
  have kf := from32 hLl v2 ho.rd
  rw [← HXL.out] at kf
  have KF := Lib.hid kf
  clear ho hb KC hcap kf
  go_wp2_with fail
  go_at_call 26
  refine KF.out.mono ?_
  rintro e v3 ⟨rfl, hb⟩
  replace o0 := OwnF.keep o0 hb
  replace HG := Lib.hid (g9n _ _ HG.out hb)
  replace hc := hc.trans (hb.mono hc.size)
  replace r1 := (r1.keep hb).mono hb.size
  clear hb KF
  have on0 := O4.newz (w := v3) (B := v3.heap.size) (Nat.le_refl _)
  have o7 := (on0.put X).mono hc.size
  have hbz := ((Below.refl _ v3).alloc (Nat.le_refl _) Z4).trans ((set4w_below _ _ X).mono (O4.ge on0))
  replace o0 := OwnF.keep o0 hbz
  replace HG := Lib.hid (g9n _ _ HG.out hbz)
  replace hc := hc.trans (hbz.mono hc.size)
  replace r1 := (r1.keep hbz).mono hbz.size
  clear hbz
  go_upto_region 6 with ((with_reducible refine n_store on0 X ?_ ?_ ?_); rfl; rfl)
  obtain ⟨v4, ev⟩ : ∃ v, v = set4w (v3.alloc Z4) v3.heap.size X := ⟨_, rfl⟩
  obtain ⟨g7, eg⟩ : ∃ g, g = v3.heap.size := ⟨_, rfl⟩
  rw [← ev] at o0 r1 o7 hc HG ⊢
  rw [← eg] at o7 ⊢
  clear ev eg on0
  refine wp_region_inv 5 [26, 27, 28, 29, 30] [.val (nv X), .sat (Bo g0 64 H) (Bo.keep g0 64 H), .sat (Bo g0 32 Pb) (Bo.keep g0 32 Pb), .val (nv X), .sat (Bo g0 32 PB) (Bo.keep g0 32 PB)] (fun wz => Below v4.heap.size v4 wz) (by kernel_rfl) (by kernel_rfl) (fun wz wz' hz hb => hz.trans (hb.mono hz.size)) ((Below.refl _ _).drew) (fun u => by simp only [puts, List.foldl_cons, List.foldl_nil]; go_simp; exact rfl) ?_ ?_
  · simp only [List.take_succ_cons, List.take_zero]
    refine Obs.cons (fun u w hS hd => ?_) ?_
    · exact Gv.run (nv X) rfl (run_nload rfl rfl (O4.keep o7 hS)) rfl
    refine Obs.cons (fun u w hS hd => ?_) ?_
    · exact Gv.run (.slice A1 64 c1) rfl (by go_simp) ⟨_, _, rfl, (r1.keep hS).mono hS.size, f1⟩
    refine Obs.cons (fun u w hS hd => ?_) ?_
    · obtain ⟨A27, c27, d27, g27, f27⟩ : (Know.sat (Bo g0 64 H) (Bo.keep g0 64 H)).ok (u 27) w := dep hd 1 rfl
      rw [d27]
      exact Gv.run (.slice (subA A27 c27 32) 32 (c27 - 32)) rfl (slice_op_lo (n := 64) (l := 32) rfl rfl rfl (by decide)) ⟨_, _, rfl, by rw [hP.out]; exact g27.drop_ (by rw [hHl]; decide), f27.sub⟩
    refine Obs.cons (fun u w hS hd => ?_) ?_
    · exact Gv.run (nv X) rfl (run_nload rfl rfl (O4.keep o7 hS)) rfl
    refine Obs.cons (fun u w hS hd => ?_) ?_
    · have d29 : u 29 = nv X := dep hd 3 rfl
      rw [d29]
      refine Gv.call 12 #[nv X] rfl (by go_simp) ((KT.out w (g9n _ _ HG.out hS).1).mono ?_)
      rintro e w' ⟨A, c, rfl, ho, hb⟩
      exact ⟨_, rfl, ⟨A, c, rfl, ho.rd, Off.own ho (Nat.lt_of_lt_of_le (OwnF.lt o0) hS.size)⟩, hb⟩
    exact Obs.nil
  intro u1 v5 hS hd
  have d26 : u1 26 = nv X := hd 0 (by decide)
  obtain ⟨A8, c8, d28, g28, f28⟩ : (Know.sat (Bo g0 32 Pb) (Bo.keep g0 32 Pb)).ok (u1 28) v5 := hd 2 (by decide)
  obtain ⟨A9, c9, d30, g30, f30⟩ : (Know.sat (Bo g0 32 PB) (Bo.keep g0 32 PB)).ok (u1 30) v5 := hd 4 (by decide)
  rw [d26, d28, d30]
  replace o0 := OwnF.keep o0 hS
  replace hc := hc.trans (hS.mono hc.size)
  have HR := Lib.hid (put6 o0 X A8 32 c8 A9 32 c9)
  have hw := only6 v5 g0 X A8 32 c8 A9 32 c9
  have hb5 := hw.below (OwnF.ge o0)
  have H1 := Lib.hid ((g28.only hw f28).mono (Nat.le_of_eq hw.size.symm))
  have H2 := Lib.hid ((g30.only hw f30).mono (Nat.le_of_eq hw.size.symm))
  have HC := Lib.hid (hc.trans hb5)
  clear hS hd d26 d28 d30 g28 g30 f28 f30 hw hb5 hc r1 f1 o7 KT
  simp only [List.drop_succ_cons, List.drop_zero]
  go_wp2_with (first | ((with_reducible refine g_build X A8 32 c8 A9 32 c9 ?_ ?_ ?_ ?_); rfl; rfl; rfl) | ((with_reducible refine g_store o0 X A8 32 c8 A9 32 c9 ?_ ?_ ?_); rfl; rfl))
  exact bodyPost_ret (gres Tryd.results10 _ HR.out rfl rfl) rfl ⟨_, _, _, _, rfl, H1.out, H2.out, HC.out⟩
set_option maxHeartbeats 800000 in
theorem cpub_any : CPub G9w := by
  intro seed A c w hG hr
  by_cases h32 : seed.length = 32
  · obtain ⟨p1, p2, p3⟩ := pubL_yes h32
    rw [p2, p3, p1, h32]
    have KG := Lib.hid (grow_any h32 w hG hr)
    clear hG hr p1 p2 p3
    obtain ⟨PB, hB⟩ : ∃ P, P = pubB seed := ⟨_, rfl⟩
    rw [← hB] at KG ⊢
    obtain ⟨X, hX⟩ : ∃ X, X = secN seed := ⟨_, rfl⟩
    rw [← hX] at KG
    clear hB hX
    go_enter Tryd.func8, Tryd.ntmps8
    go_wp2_with fail
    go_at_call 10
    refine KG.out.mono ?_
    rintro e v1 ⟨A1, c1, A2, c2, rfl, -, r2, hb⟩
    have on0 := g6_newz (w := v1) (B := v1.heap.size) (Nat.le_refl _)
    have o4 := put6 on0 X A1 32 c1 A2 32 c2
    have hbz := ((Below.refl _ v1).alloc (Nat.le_refl _) Zg).trans ((only6 _ _ X A1 32 c1 A2 32 c2).below (OwnF.ge on0))
    replace r2 := (r2.keep hbz).mono hbz.size
    replace hb := hb.trans (hbz.mono hb.size)
    clear hbz KG
    go_upto_region 2 with ((with_reducible refine g_store on0 X A1 32 c1 A2 32 c2 ?_ ?_ ?_); rfl; rfl)
    obtain ⟨v2, ev⟩ : ∃ v, v = set6 (v1.alloc Zg) v1.heap.size X A1 32 c1 A2 32 c2 := ⟨_, rfl⟩
    obtain ⟨g4, eg⟩ : ∃ g, g = v1.heap.size := ⟨_, rfl⟩
    rw [← ev] at r2 hb o4 ⊢
    rw [← eg] at o4 ⊢
    clear ev eg on0
    have H2 := Lib.hid r2
    have HC := Lib.hid hb
    obtain ⟨t4, t5⟩ := o4.two
    clear r2 hb o4
    go_wp2_with fail
    go_returns
    exact ⟨_, _, rfl, H2.out, HC.out⟩
  · obtain ⟨p1, p3⟩ := pubL_no h32
    rw [p1, p3]
    have KG := Lib.hid (grow_no (A := A) (c := c) h32 w)
    obtain ⟨n, hn⟩ : ∃ n, n = seed.length := ⟨_, rfl⟩
    rw [← hn] at KG ⊢
    clear hn h32 hr hG p1 p3
    go_enter Tryd.func8, Tryd.ntmps8
    go_wp2_with fail
    go_at_call 10
    refine KG.out.mono ?_
    rintro e v1 ⟨rfl, hb⟩
    go_wp2_with fail
    go_returns
    exact ⟨none, 0, rfl, rd_nil9 _ _, hb.alloc hb.size _⟩
end
end Go.Proofs.YtgaofocjnifjdaaDoor
