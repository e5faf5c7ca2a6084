/-
  The document's Sum in bytes: padding, blocks, what is told (layer 6). By an AI agent. The document's right, Of, Point (layer 8), over letters. Written by tools/gen_e4.py. By an AI agent. The code's pick, put (layer 8), over letters. Written by tools/gen_u4.py. By an AI agent.
-/
import Derived.Test.YtkbkalhcdbklkaaGreatDoorN9
import Derived.Test.YtkbkalhcdbklkaaGreatDoorE3
import Derived.Test.YtkbkalhcdbklkaaGreatDoorJ09
import Derived.Test.YtkbkalhcdbklkaaGreatDoorJ11
import Derived.Test.YtkbkalhcdbklkaaGreatDoorU3
namespace Go.Proofs.YtkbkalhcdbklkaaGreatDoor
open Go Go.RowKit
/-- The noughts behind the byte 128, up to the length's first byte of eight. -/
def zc (S : Ks) (len : Nat) : Nat := (2 * S.bits - (len + 1 + S.bits / 4) % (2 * S.bits)) % (2 * S.bits)
def pz (bs : List UInt8) (n : Nat) : List UInt8 := bs ++ (128 : UInt8) :: List.replicate n 0
theorem pz_succ (bs : List UInt8) (n : Nat) : pz bs (n + 1) = pz bs n ++ [0] := by
  unfold pz
  rw [List.replicate_succ', ← List.cons_append, List.append_assoc]
theorem pz_length (bs : List UInt8) (n : Nat) : (pz bs n).length = bs.length + 1 + n := by
  unfold pz
  rw [List.length_append, List.length_cons, List.length_replicate]
  omega
/-- The bytes of the number of bits. -/
def lb (len : Nat) (k : Nat) : UInt8 := UInt8.ofNat (len * 8 / 2 ^ (8 * (7 - k)) % 256)
def padL (S : Ks) (bs : List UInt8) : List UInt8 := pz bs (zc S bs.length + (S.bits / 4 - 8)) ++ gen (lb bs.length) 8
/-- The words behind j blocks. -/
def sums (S : Ks) (P : List UInt8) : Nat → Nat → Nat
  | 0 => fun i => S.first.getD i 0
  | j + 1 => blN S (sums S P j) (nth ((P.drop (j * (2 * S.bits))).take (2 * S.bits)))
def outB (S : Ks) (V : Nat → Nat) (m : Nat) : UInt8 := UInt8.ofNat (V (m / (S.bits / 8)) / 2 ^ (S.bits - 8 - 8 * (m % (S.bits / 8))) % 256)
/-- The document's Sum. -/
def sumN (S : Ks) (bs : List UInt8) : List UInt8 := gen (outB S (sums S (padL S bs) ((padL S bs).length / (2 * S.bits)))) S.bits
theorem zc_at {S : Ks} (hb : S.bits = 32 ∨ S.bits = 64) (len n : Nat) (hn : n ≤ zc S len) : ((len + 1 + n + S.bits / 4) % (2 * S.bits) = 0 ↔ n = zc S len) := by
  unfold zc at *
  have e : len + 1 + n + S.bits / 4 = (len + 1 + S.bits / 4) + n := by omega
  rw [e]
  generalize len + 1 + S.bits / 4 = x at *
  generalize S.bits = b at *
  rcases hb with rfl | rfl
  · constructor <;> intro h1 <;> omega
  · constructor <;> intro h1 <;> omega
theorem zc_lt {S : Ks} (hb : S.bits = 32 ∨ S.bits = 64) (len : Nat) : zc S len < 2 * S.bits := by
  unfold zc
  exact Nat.mod_lt _ (by rcases hb with h | h <;> omega)
theorem padL_length {S : Ks} (hb : S.bits = 32 ∨ S.bits = 64) (bs : List UInt8) : (padL S bs).length % (2 * S.bits) = 0 ∧ (padL S bs).length = bs.length + 1 + zc S bs.length + S.bits / 4 := by
  have h := (zc_at hb bs.length (zc S bs.length) (Nat.le_refl _)).2 rfl
  have e : (padL S bs).length = bs.length + 1 + zc S bs.length + S.bits / 4 := by
    unfold padL
    rw [List.length_append, pz_length, gen_length]
    rcases hb with h | h <;> rw [h] <;> omega
  exact ⟨by rw [e]; exact h, e⟩
theorem sums_lt {S : Ks} (hS : Kok S) (P : List UInt8) : ∀ j i, sums S P j i < 2 ^ S.bits
  | 0, i => hS.first.2 i
  | j + 1, i => by
    show blN S _ _ i < _
    unfold blN
    exact Nat.mod_lt _ (Nat.pow_pos (by decide))
theorem sums_succ (S : Ks) (P : List UInt8) (j : Nat) : sums S P (j + 1) = blN S (sums S P j) (nth ((P.drop (j * (2 * S.bits))).take (2 * S.bits))) := rfl
theorem Rd.sub {w : World} {B c b o i n : Nat} {P : List UInt8} (h : Rd w B (some ⟨b, o, none⟩) c P) (hi : i + n ≤ P.length) : Rd w B (some ⟨b, o + i, none⟩) (c - i) ((P.drop i).take n) := by
  have hl : ((P.drop i).take n).length = n := by rw [List.length_take, List.length_drop]; omega
  refine ⟨by rw [hl]; have := h.cap; omega, fun h => by simp at h, fun hne => ⟨b, o + i, rfl, ?_, fun k hk => ?_⟩⟩
  · have hn : 0 < n := by
      refine Nat.pos_of_ne_zero fun h0 => hne ?_
      rw [h0, List.take_zero]
    obtain ⟨b1, o1, e, hb, _⟩ := h.at_ (k := i) (by omega)
    simp only [Option.some.injEq, Addr.mk.injEq] at e
    rw [e.1]
    exact hb
  · rw [hl] at hk
    obtain ⟨b1, o1, e, _, c1⟩ := h.at_ (k := i + k) (by omega)
    simp only [Option.some.injEq, Addr.mk.injEq] at e
    obtain ⟨rfl, rfl, _⟩ := e
    rw [Nat.add_assoc, c1]
    unfold nth
    rw [List.getElem?_take, if_pos hk, List.getElem?_drop]
theorem lb_nat {len k : Nat} : (lb len k).toNat = len * 8 / 2 ^ (8 * (7 - k)) % 256 := by unfold lb; rw [UInt8.toNat_ofNat']; omega
theorem outB_nat (S : Ks) (V : Nat → Nat) (m : Nat) : (outB S V m).toNat = V (m / (S.bits / 8)) / 2 ^ (S.bits - 8 - 8 * (m % (S.bits / 8))) % 256 := by unfold outB; rw [UInt8.toNat_ofNat']; omega
end Go.Proofs.YtkbkalhcdbklkaaGreatDoor
namespace Go.Proofs.YtkbkalhcdbklkaaGreatDoor
open Go Go.RowKit
section
attribute [local irreducible] wd by8 d16 set16w fl rl setA t3f set8p set4w
set_option maxRecDepth 20000
set_option maxHeartbeats 6400000 in
theorem Point_gen {t : Tr} {iv a b : Nat}
    (k1 : ∀ w, Calls Tryz.prog 84 #[fv t.z] w fun e w' => e = .returned (fv iv) ∧ Below w.heap.size w w')
    (k2 : ∀ w, Calls Tryz.prog 82 #[fv t.x, fv iv] w fun e w' => e = .returned (fv a) ∧ Below w.heap.size w w')
    (k3 : ∀ w, Calls Tryz.prog 85 #[fv a] w fun e w' => e = .returned (nv a) ∧ Below w.heap.size w w')
    (k4 : ∀ w, Calls Tryz.prog 82 #[fv t.y, fv iv] w fun e w' => e = .returned (fv b) ∧ Below w.heap.size w w')
    (k5 : ∀ w, Calls Tryz.prog 85 #[fv b] w fun e w' => e = .returned (nv b) ∧ Below w.heap.size w w')
    (w : World) : Calls Tryz.prog 42 #[t3v t] w fun e w' => e = .returned (prv a b) ∧ Below w.heap.size w w' := by
  have K1 := Lib.hid k1
  have K2 := Lib.hid k2
  have K3 := Lib.hid k3
  have K4 := Lib.hid k4
  have K5 := Lib.hid k5
  clear k1 k2 k3 k4 k5
  obtain ⟨v1, ev1⟩ : ∃ v, v = w.alloc (AP t) := ⟨_, rfl⟩
  have bv1 : Below w.heap.size w v1 := by rw [ev1]; exact (Below.refl _ _).alloc (Nat.le_refl _) _
  have sv1 : v1.heap.size = w.heap.size + 1 := by rw [ev1]; simp
  obtain ⟨g1, eg1⟩ : ∃ g, g = w.heap.size := ⟨_, rfl⟩
  have o1 : O48 v1 w.heap.size g1 t := by rw [eg1, ev1]; exact O48.new (Nat.le_refl _) t
  have hc := bv1
  have hs1 := hc.size
  obtain ⟨v2, ev2⟩ : ∃ v, v = v1.alloc (Z8p) := ⟨_, rfl⟩
  have bv2 : Below v1.heap.size v1 v2 := by rw [ev2]; exact (Below.refl _ _).alloc (Nat.le_refl _) _
  have sv2 : v2.heap.size = v1.heap.size + 1 := by rw [ev2]; simp
  obtain ⟨g2, eg2⟩ : ∃ g, g = v1.heap.size := ⟨_, rfl⟩
  have o2 : O8 v2 v1.heap.size g2 0 0 := by rw [eg2, ev2]; exact O8.newz (Nat.le_refl _)
  replace o1 := o1.keep bv2
  replace hc := hc.trans (bv2.mono hc.size)
  replace o2 := o2.mono hs1
  have hs2 := hc.size
  go_enter Tryz.func42, Tryz.ntmps42
  go_upto_region 1 with fail
  rw [← ev1, ← ev2]
  rw [show Value.pointer (some ⟨w.heap.size, 0, none⟩) = .pointer (some ⟨g1, 0, none⟩) by rw [eg1]]
  rw [show Value.pointer (some ⟨w.heap.size + 1, 0, none⟩) = .pointer (some ⟨g2, 0, none⟩) by rw [eg2, sv1]]
  clear ev1 bv1 sv1 ev2 bv2 sv2 eg1 eg2 hs1 hs2
  go_wp2_with (first | ((with_reducible refine t3x_load o1 ?_ ?_); rfl) | ((with_reducible refine t3y_load o1 ?_ ?_); rfl) | ((with_reducible refine t3z_load o1 ?_ ?_); rfl) | ((with_reducible refine t3_load o1 ?_ ?_); rfl))
  go_at_call 84
  refine (K1.out _).mono ?_
  rintro e y3 ⟨rfl, h0⟩
  replace o1 := O48.keep o1 h0
  replace o2 := O8.keep o2 h0
  replace hc := hc.trans (h0.mono hc.size)
  clear h0
  have on0 : O16 (y3.alloc Z16) y3.heap.size y3.heap.size 0 := O16.zero (own_Z16 (Nat.le_refl _))
  have o3 := on0.put iv
  have hbz := ((Below.refl _ y3).alloc (Nat.le_refl _) Z16).trans (on0.below iv)
  replace o1 := O48.keep o1 hbz
  replace o2 := O8.keep o2 hbz
  replace hc := hc.trans (hbz.mono hc.size)
  clear hbz
  go_upto_region 2 with ((with_reducible refine fl_store on0 iv ?_ ?_ ?_); rfl; rfl)
  obtain ⟨y4, ev⟩ : ∃ v, v = set16w (y3.alloc Z16) y3.heap.size iv := ⟨_, rfl⟩
  obtain ⟨g3, eg⟩ : ∃ g, g = y3.heap.size := ⟨_, rfl⟩
  rw [← ev] at o1 o2 o3 hc ⊢
  rw [← eg] at o3 ⊢
  clear ev eg on0
  refine wp_region_inv 11 [7, 8, 9, 10, 11, 12, 13, 14, 15, 16, 17] [.val (.pointer (some ⟨g1, 0, none⟩)), .val (fv t.x), .val (fv iv), .val (fv a), .val (nv a), .val (.pointer (some ⟨g1, 16, none⟩)), .val (fv t.y), .val (fv iv), .val (fv b), .val (nv b), .val (prv a b)] (fun wz => Below y4.heap.size y4 wz) (by kernel_rfl) (by kernel_rfl) (fun wz wz' hz hb => hz.trans (hb.mono hz.size)) ((Below.refl _ _).drew) (fun u => by simp only [puts, List.foldl_cons, List.foldl_nil]; go_simp; exact rfl) ?_ ?_
  · simp only [List.take_succ_cons, List.take_zero]
    refine Obs.cons (fun u w hS hd => ?_) ?_
    · exact Gv.run (.pointer (some ⟨g1, 0, none⟩)) rfl (by go_simp) rfl
    refine Obs.cons (fun u w hS hd => ?_) ?_
    · have d7 : u 7 = .pointer (some ⟨g1, 0, none⟩) := dep hd 0 rfl
      rw [d7]
      exact Gv.run (fv t.x) rfl (run_Px rfl rfl (O48.keep o1 hS)) rfl
    refine Obs.cons (fun u w hS hd => ?_) ?_
    · exact Gv.run (fv iv) rfl (run_fload rfl rfl (o3.keep hS)) rfl
    refine Obs.cons (fun u w hS hd => ?_) ?_
    · have d8 : u 8 = fv t.x := dep hd 1 rfl
      rw [d8]
      have d9 : u 9 = fv iv := dep hd 2 rfl
      rw [d9]
      refine Gv.call 82 #[fv t.x, fv iv] rfl (by go_simp) ((K2.out w).mono ?_)
      rintro e w' ⟨rfl, hb⟩
      exact ⟨_, rfl, rfl, hb⟩
    refine Obs.cons (fun u w hS hd => ?_) ?_
    · have d10 : u 10 = fv a := dep hd 3 rfl
      rw [d10]
      refine Gv.call 85 #[fv a] rfl (by go_simp) ((K3.out w).mono ?_)
      rintro e w' ⟨rfl, hb⟩
      exact ⟨_, rfl, rfl, hb⟩
    refine Obs.cons (fun u w hS hd => ?_) ?_
    · exact Gv.run (.pointer (some ⟨g1, 16, none⟩)) rfl (by go_simp) rfl
    refine Obs.cons (fun u w hS hd => ?_) ?_
    · have d12 : u 12 = .pointer (some ⟨g1, 16, none⟩) := dep hd 5 rfl
      rw [d12]
      exact Gv.run (fv t.y) rfl (run_Py rfl rfl (O48.keep o1 hS)) rfl
    refine Obs.cons (fun u w hS hd => ?_) ?_
    · exact Gv.run (fv iv) rfl (run_fload rfl rfl (o3.keep hS)) rfl
    refine Obs.cons (fun u w hS hd => ?_) ?_
    · have d13 : u 13 = fv t.y := dep hd 6 rfl
      rw [d13]
      have d14 : u 14 = fv iv := dep hd 7 rfl
      rw [d14]
      refine Gv.call 82 #[fv t.y, fv iv] rfl (by go_simp) ((K4.out w).mono ?_)
      rintro e w' ⟨rfl, hb⟩
      exact ⟨_, rfl, rfl, hb⟩
    refine Obs.cons (fun u w hS hd => ?_) ?_
    · have d15 : u 15 = fv b := dep hd 8 rfl
      rw [d15]
      refine Gv.call 85 #[fv b] rfl (by go_simp) ((K5.out w).mono ?_)
      rintro e w' ⟨rfl, hb⟩
      exact ⟨_, rfl, rfl, hb⟩
    refine Obs.cons (fun u w hS hd => ?_) ?_
    · have d11 : u 11 = nv a := dep hd 4 rfl
      rw [d11]
      have d16 : u 16 = nv b := dep hd 9 rfl
      rw [d16]
      exact Gv.run (prv a b) rfl (run_Tbuild rfl rfl rfl) rfl
    exact Obs.nil
  intro uy5 y5 hS hd
  have d17 : uy5 17 = prv a b := hd 10 (by decide)
  rw [d17]
  replace o1 := O48.keep o1 hS
  replace o2 := O8.keep o2 hS
  replace o3 := O16.keep o3 hS
  replace hc := hc.trans (hS.mono hc.size)
  clear hS hd d17
  simp only [List.drop_succ_cons, List.drop_zero]
  have hfb := Lib.hid (hc.trans (o2.below a b))
  have HR := Lib.hid (o2.put a b)
  go_wp2_with ((with_reducible refine p_store o2 a b ?_ ?_ ?_); rfl; rfl)
  exact bodyPost_ret (pres Tryz.results42 _ HR.out rfl) rfl ⟨rfl, hfb.out⟩
end
end Go.Proofs.YtkbkalhcdbklkaaGreatDoor
namespace Go.Proofs.YtkbkalhcdbklkaaGreatDoor
open Go Go.RowKit
/-- All blocks but one are as they were. -/
def Oth (B g : Nat) (w w' : World) : Prop := (∀ B' h e n c f, h ≠ g → OwnF w B' e (some ⟨h, 0, none⟩) c n f → OwnF w' B' e (some ⟨h, 0, none⟩) c n f) ∧ Below B w w' ∧ w.heap.size ≤ w'.heap.size
theorem Oth.refl (B g : Nat) (w : World) : Oth B g w w := ⟨fun _ _ _ _ _ _ _ h => h, Below.refl _ _, Nat.le_refl _⟩
theorem Oth.of_below {B g : Nat} {w w' : World} (hB : B ≤ w.heap.size) (h : Below w.heap.size w w') : Oth B g w w' := ⟨fun _ _ _ _ _ _ _ o => OwnF.keep o h, h.mono hB, h.size⟩
theorem Oth.only {B g : Nat} {w w' w'' : World} (h : Oth B g w w') (hg : B ≤ g) (ho : Only g w' w'') : Oth B g w w'' := ⟨fun _ _ _ _ _ _ hk o => OwnF.only (h.1 _ _ _ _ _ _ hk o) ho (Ne.symm hk), h.2.1.trans (ho.below hg), by rw [ho.size]; exact h.2.2⟩
theorem Oth.trans {B g : Nat} {w w' w'' : World} (h : Oth B g w w') (k : Oth B g w' w'') : Oth B g w w'' := ⟨fun _ _ _ _ _ _ hk o => k.1 _ _ _ _ _ _ hk (h.1 _ _ _ _ _ _ hk o), h.2.1.trans k.2.1, Nat.le_trans h.2.2 k.2.2⟩
section
attribute [local irreducible] wd by8 fl rl setA sf taf set8p set4w ed2
set_option maxRecDepth 20000
set_option maxHeartbeats 6400000 in
theorem pick_gen {i : Nat} {p q r : Sp}
    (kx : ∀ w, Calls Tryz.prog 132 #[.int .u64 (i : Int), nv p.x, nv q.x] w fun e w' => e = .returned (nv r.x) ∧ Below w.heap.size w w')
    (ky : ∀ w, Calls Tryz.prog 132 #[.int .u64 (i : Int), nv p.y, nv q.y] w fun e w' => e = .returned (nv r.y) ∧ Below w.heap.size w w')
    (kz : ∀ w, Calls Tryz.prog 132 #[.int .u64 (i : Int), nv p.z, nv q.z] w fun e w' => e = .returned (nv r.z) ∧ Below w.heap.size w w')
    (kt : ∀ w, Calls Tryz.prog 132 #[.int .u64 (i : Int), nv p.t, nv q.t] w fun e w' => e = .returned (nv r.t) ∧ Below w.heap.size w w')
    (w : World) : Calls Tryz.prog 107 #[.int .u64 (i : Int), sv p, sv q] w fun e w' => e = .returned (sv r) ∧ Below w.heap.size w w' := by
  have Kx := Lib.hid kx
  have Ky := Lib.hid ky
  have Kz := Lib.hid kz
  have Kt := Lib.hid kt
  clear kx ky kz kt
  obtain ⟨v1, ev1⟩ : ∃ v, v = w.alloc (AS p) := ⟨_, rfl⟩
  have bv1 : Below w.heap.size w v1 := by rw [ev1]; exact (Below.refl _ _).alloc (Nat.le_refl _) _
  have sv1 : v1.heap.size = w.heap.size + 1 := by rw [ev1]; simp
  obtain ⟨g4, eg4⟩ : ∃ g, g = w.heap.size := ⟨_, rfl⟩
  have o4 : OS v1 w.heap.size g4 p := by rw [eg4, ev1]; exact OS.new (Nat.le_refl _) p
  have hc := bv1
  have hs1 := hc.size
  obtain ⟨v2, ev2⟩ : ∃ v, v = v1.alloc (AS q) := ⟨_, rfl⟩
  have bv2 : Below v1.heap.size v1 v2 := by rw [ev2]; exact (Below.refl _ _).alloc (Nat.le_refl _) _
  have sv2 : v2.heap.size = v1.heap.size + 1 := by rw [ev2]; simp
  obtain ⟨g5, eg5⟩ : ∃ g, g = v1.heap.size := ⟨_, rfl⟩
  have o5 : OS v2 v1.heap.size g5 q := by rw [eg5, ev2]; exact OS.new (Nat.le_refl _) q
  replace o4 := o4.keep bv2
  replace hc := hc.trans (bv2.mono hc.size)
  replace o5 := o5.mono hs1
  have hs2 := hc.size
  obtain ⟨v3, ev3⟩ : ∃ v, v = v2.alloc (ZS) := ⟨_, rfl⟩
  have bv3 : Below v2.heap.size v2 v3 := by rw [ev3]; exact (Below.refl _ _).alloc (Nat.le_refl _) _
  have sv3 : v3.heap.size = v2.heap.size + 1 := by rw [ev3]; simp
  obtain ⟨g6, eg6⟩ : ∃ g, g = v2.heap.size := ⟨_, rfl⟩
  have o6 : OwnF v3 v2.heap.size 98 (some ⟨g6, 0, none⟩) 16 16 (fun _ => .int .u64 0) := by rw [eg6, ev3]; exact zS_new (Nat.le_refl _)
  replace o4 := o4.keep bv3
  replace o5 := o5.keep bv3
  replace hc := hc.trans (bv3.mono hc.size)
  replace o6 := o6.mono hs2
  have hs3 := hc.size
  go_enter Tryz.func107, Tryz.ntmps107
  go_upto_region 1 with fail
  rw [← ev1, ← ev2, ← ev3]
  rw [show Value.pointer (some ⟨w.heap.size, 0, none⟩) = .pointer (some ⟨g4, 0, none⟩) by rw [eg4]]
  rw [show Value.pointer (some ⟨w.heap.size + 1, 0, none⟩) = .pointer (some ⟨g5, 0, none⟩) by rw [eg5, sv1]]
  rw [show Value.pointer (some ⟨w.heap.size + 2, 0, none⟩) = .pointer (some ⟨g6, 0, none⟩) by rw [eg6, sv2, sv1]]
  clear ev1 bv1 sv1 ev2 bv2 sv2 ev3 bv3 sv3 eg4 eg5 eg6 hs1 hs2 hs3
  refine wp_region_inv 25 [7, 8, 9, 10, 11, 12, 13, 14, 15, 16, 17, 18, 19, 20, 21, 22, 23, 24, 25, 26, 27, 28, 29, 30, 31] [.val (.int .u64 (i : Int)), .val (.pointer (some ⟨g4, 0, none⟩)), .val (nv p.x), .val (.pointer (some ⟨g5, 0, none⟩)), .val (nv q.x), .val (nv r.x), .val (.int .u64 (i : Int)), .val (.pointer (some ⟨g4, 4, none⟩)), .val (nv p.y), .val (.pointer (some ⟨g5, 4, none⟩)), .val (nv q.y), .val (nv r.y), .val (.int .u64 (i : Int)), .val (.pointer (some ⟨g4, 8, none⟩)), .val (nv p.z), .val (.pointer (some ⟨g5, 8, none⟩)), .val (nv q.z), .val (nv r.z), .val (.int .u64 (i : Int)), .val (.pointer (some ⟨g4, 12, none⟩)), .val (nv p.t), .val (.pointer (some ⟨g5, 12, none⟩)), .val (nv q.t), .val (nv r.t), .val (sv ⟨r.x, r.y, r.z, r.t⟩)] (fun wz => Below v3.heap.size v3 wz) (by kernel_rfl) (by kernel_rfl) (fun wz wz' hz hb => hz.trans (hb.mono hz.size)) ((Below.refl _ _).drew) (fun u => by simp only [puts, List.foldl_cons, List.foldl_nil]; go_simp; exact rfl) ?_ ?_
  · simp only [List.take_succ_cons, List.take_zero]
    refine Obs.cons (fun u w hS hd => ?_) ?_
    · exact Gv.run (.int .u64 (i : Int)) rfl (by go_simp) rfl
    refine Obs.cons (fun u w hS hd => ?_) ?_
    · exact Gv.run (.pointer (some ⟨g4, 0, none⟩)) rfl (run_Sfield 0 (by decide) rfl rfl) rfl
    refine Obs.cons (fun u w hS hd => ?_) ?_
    · have d8 : u 8 = .pointer (some ⟨g4, 0, none⟩) := dep hd 1 rfl
      rw [d8]
      exact Gv.run (nv p.x) rfl (run_Sx rfl rfl (OS.keep o4 hS)) rfl
    refine Obs.cons (fun u w hS hd => ?_) ?_
    · exact Gv.run (.pointer (some ⟨g5, 0, none⟩)) rfl (run_Sfield 0 (by decide) rfl rfl) rfl
    refine Obs.cons (fun u w hS hd => ?_) ?_
    · have d10 : u 10 = .pointer (some ⟨g5, 0, none⟩) := dep hd 3 rfl
      rw [d10]
      exact Gv.run (nv q.x) rfl (run_Sx rfl rfl (OS.keep o5 hS)) rfl
    refine Obs.cons (fun u w hS hd => ?_) ?_
    · have d7 : u 7 = .int .u64 (i : Int) := dep hd 0 rfl
      rw [d7]
      have d9 : u 9 = nv p.x := dep hd 2 rfl
      rw [d9]
      have d11 : u 11 = nv q.x := dep hd 4 rfl
      rw [d11]
      refine Gv.call 132 #[.int .u64 (i : Int), nv p.x, nv q.x] rfl (by go_simp) ((Kx.out w).mono ?_)
      rintro e w' ⟨rfl, hb⟩
      exact ⟨_, rfl, rfl, hb⟩
    refine Obs.cons (fun u w hS hd => ?_) ?_
    · exact Gv.run (.int .u64 (i : Int)) rfl (by go_simp) rfl
    refine Obs.cons (fun u w hS hd => ?_) ?_
    · exact Gv.run (.pointer (some ⟨g4, 4, none⟩)) rfl (run_Sfield 1 (by decide) rfl rfl) rfl
    refine Obs.cons (fun u w hS hd => ?_) ?_
    · have d14 : u 14 = .pointer (some ⟨g4, 4, none⟩) := dep hd 7 rfl
      rw [d14]
      exact Gv.run (nv p.y) rfl (run_Sy rfl rfl (OS.keep o4 hS)) rfl
    refine Obs.cons (fun u w hS hd => ?_) ?_
    · exact Gv.run (.pointer (some ⟨g5, 4, none⟩)) rfl (run_Sfield 1 (by decide) rfl rfl) rfl
    refine Obs.cons (fun u w hS hd => ?_) ?_
    · have d16 : u 16 = .pointer (some ⟨g5, 4, none⟩) := dep hd 9 rfl
      rw [d16]
      exact Gv.run (nv q.y) rfl (run_Sy rfl rfl (OS.keep o5 hS)) rfl
    refine Obs.cons (fun u w hS hd => ?_) ?_
    · have d13 : u 13 = .int .u64 (i : Int) := dep hd 6 rfl
      rw [d13]
      have d15 : u 15 = nv p.y := dep hd 8 rfl
      rw [d15]
      have d17 : u 17 = nv q.y := dep hd 10 rfl
      rw [d17]
      refine Gv.call 132 #[.int .u64 (i : Int), nv p.y, nv q.y] rfl (by go_simp) ((Ky.out w).mono ?_)
      rintro e w' ⟨rfl, hb⟩
      exact ⟨_, rfl, rfl, hb⟩
    refine Obs.cons (fun u w hS hd => ?_) ?_
    · exact Gv.run (.int .u64 (i : Int)) rfl (by go_simp) rfl
    refine Obs.cons (fun u w hS hd => ?_) ?_
    · exact Gv.run (.pointer (some ⟨g4, 8, none⟩)) rfl (run_Sfield 2 (by decide) rfl rfl) rfl
    refine Obs.cons (fun u w hS hd => ?_) ?_
    · have d20 : u 20 = .pointer (some ⟨g4, 8, none⟩) := dep hd 13 rfl
      rw [d20]
      exact Gv.run (nv p.z) rfl (run_Sz rfl rfl (OS.keep o4 hS)) rfl
    refine Obs.cons (fun u w hS hd => ?_) ?_
    · exact Gv.run (.pointer (some ⟨g5, 8, none⟩)) rfl (run_Sfield 2 (by decide) rfl rfl) rfl
    refine Obs.cons (fun u w hS hd => ?_) ?_
    · have d22 : u 22 = .pointer (some ⟨g5, 8, none⟩) := dep hd 15 rfl
      rw [d22]
      exact Gv.run (nv q.z) rfl (run_Sz rfl rfl (OS.keep o5 hS)) rfl
    refine Obs.cons (fun u w hS hd => ?_) ?_
    · have d19 : u 19 = .int .u64 (i : Int) := dep hd 12 rfl
      rw [d19]
      have d21 : u 21 = nv p.z := dep hd 14 rfl
      rw [d21]
      have d23 : u 23 = nv q.z := dep hd 16 rfl
      rw [d23]
      refine Gv.call 132 #[.int .u64 (i : Int), nv p.z, nv q.z] rfl (by go_simp) ((Kz.out w).mono ?_)
      rintro e w' ⟨rfl, hb⟩
      exact ⟨_, rfl, rfl, hb⟩
    refine Obs.cons (fun u w hS hd => ?_) ?_
    · exact Gv.run (.int .u64 (i : Int)) rfl (by go_simp) rfl
    refine Obs.cons (fun u w hS hd => ?_) ?_
    · exact Gv.run (.pointer (some ⟨g4, 12, none⟩)) rfl (run_Sfield 3 (by decide) rfl rfl) rfl
    refine Obs.cons (fun u w hS hd => ?_) ?_
    · have d26 : u 26 = .pointer (some ⟨g4, 12, none⟩) := dep hd 19 rfl
      rw [d26]
      exact Gv.run (nv p.t) rfl (run_St rfl rfl (OS.keep o4 hS)) rfl
    refine Obs.cons (fun u w hS hd => ?_) ?_
    · exact Gv.run (.pointer (some ⟨g5, 12, none⟩)) rfl (run_Sfield 3 (by decide) rfl rfl) rfl
    refine Obs.cons (fun u w hS hd => ?_) ?_
    · have d28 : u 28 = .pointer (some ⟨g5, 12, none⟩) := dep hd 21 rfl
      rw [d28]
      exact Gv.run (nv q.t) rfl (run_St rfl rfl (OS.keep o5 hS)) rfl
    refine Obs.cons (fun u w hS hd => ?_) ?_
    · have d25 : u 25 = .int .u64 (i : Int) := dep hd 18 rfl
      rw [d25]
      have d27 : u 27 = nv p.t := dep hd 20 rfl
      rw [d27]
      have d29 : u 29 = nv q.t := dep hd 22 rfl
      rw [d29]
      refine Gv.call 132 #[.int .u64 (i : Int), nv p.t, nv q.t] rfl (by go_simp) ((Kt.out w).mono ?_)
      rintro e w' ⟨rfl, hb⟩
      exact ⟨_, rfl, rfl, hb⟩
    refine Obs.cons (fun u w hS hd => ?_) ?_
    · have d12 : u 12 = nv r.x := dep hd 5 rfl
      rw [d12]
      have d18 : u 18 = nv r.y := dep hd 11 rfl
      rw [d18]
      have d24 : u 24 = nv r.z := dep hd 17 rfl
      rw [d24]
      have d30 : u 30 = nv r.t := dep hd 23 rfl
      rw [d30]
      exact Gv.run (sv ⟨r.x, r.y, r.z, r.t⟩) rfl (run_Sbuild rfl rfl rfl rfl rfl) rfl
    exact Obs.nil
  intro uy4 y4 hS hd
  have d31 : uy4 31 = sv ⟨r.x, r.y, r.z, r.t⟩ := hd 24 (by decide)
  rw [d31]
  replace o4 := OS.keep o4 hS
  replace o5 := OS.keep o5 hS
  replace o6 := OwnF.keep o6 hS
  replace hc := hc.trans (hS.mono hc.size)
  clear hS hd d31
  simp only [List.drop_succ_cons, List.drop_zero]
  have hfb := Lib.hid (hc.trans (s_below o6 (r)))
  have HR := Lib.hid (s_put o6 (r))
  go_wp2_with ((with_reducible refine s_store o6 (r) ?_ ?_ ?_); rfl; rfl)
  exact bodyPost_ret (s_res Tryz.results107 _ HR.out rfl) rfl ⟨rfl, hfb.out⟩
set_option maxHeartbeats 6400000 in
theorem put_gen {B g i j : Nat} {t : Ta} {a1 a2 a3 a4 a5 : Sp}
    (k1 : ∀ w, Calls Tryz.prog 107 #[.int .u64 (i : Int), sv t.n, sv t.f] w fun e w' => e = .returned (sv a1) ∧ Below w.heap.size w w')
    (k2 : ∀ w, Calls Tryz.prog 107 #[.int .u64 (i : Int), sv t.h, sv t.b] w fun e w' => e = .returned (sv a2) ∧ Below w.heap.size w w')
    (k3 : ∀ w, Calls Tryz.prog 107 #[.int .u64 (j : Int), sv a1, sv a2] w fun e w' => e = .returned (sv a3) ∧ Below w.heap.size w w')
    (k4 : ∀ w, G8 w → Calls Tryz.prog 72 #[sv t.s, sv t.s] w fun e w' => e = .returned (sv a4) ∧ Below w.heap.size w w')
    (k5 : ∀ w, G8 w → Calls Tryz.prog 72 #[sv a4, sv a3] w fun e w' => e = .returned (sv a5) ∧ Below w.heap.size w w')
    (v0 : World) (hG : G8 v0) (hT : OTa v0 B g t) : Calls Tryz.prog 74 #[.pointer (some ⟨g, 0, none⟩), .int .u64 (i : Int), .int .u64 (j : Int)] v0 fun e w' => e = .returned (.tuple #[]) ∧ OTa w' B g ⟨a5, t.n, t.f, t.h, t.b⟩ ∧ Oth B g v0 w' := by
  have K1 := Lib.hid k1
  have K2 := Lib.hid k2
  have K3 := Lib.hid k3
  have K4 := Lib.hid k4
  have K5 := Lib.hid k5
  clear k1 k2 k3 k4 k5
  have HG := Lib.hid hG
  have HL := Lib.hid hT.lt
  have HT := Lib.hid hT
  clear hG hT
  go_enter Tryz.func74, Tryz.ntmps74
  go_upto_region 0 with fail
  have hc : Below v0.heap.size v0 v0 := Below.refl _ _
  refine wp_region_box 24 [some 7, some 8, some 9, some 10, some 11, some 12, some 13, some 14, some 15, some 16, some 17, some 18, some 19, some 20, some 21, some 22, some 23, some 24, some 25, some 26, some 27, some 28, some 6, none] [.val (.int .u64 (j : Int)), .val (.int .u64 (i : Int)), .val (.pointer (some ⟨g, 0, none⟩)), .val (.pointer (some ⟨g, 0, none⟩)), .val (.pointer (some ⟨g, 16, none⟩)), .val (sv t.n), .val (.pointer (some ⟨g, 0, none⟩)), .val (.pointer (some ⟨g, 0, none⟩)), .val (.pointer (some ⟨g, 32, none⟩)), .val (sv t.f), .val (sv a1), .val (.int .u64 (i : Int)), .val (.pointer (some ⟨g, 0, none⟩)), .val (.pointer (some ⟨g, 0, none⟩)), .val (.pointer (some ⟨g, 48, none⟩)), .val (sv t.h), .val (.pointer (some ⟨g, 0, none⟩)), .val (.pointer (some ⟨g, 0, none⟩)), .val (.pointer (some ⟨g, 64, none⟩)), .val (sv t.b), .val (sv a2), .val (sv a3), .box 98 16, .holds 22 98 16 (sf a3)] v0.heap.size (fun wz => Below v0.heap.size v0 wz) (by kernel_rfl) (by kernel_rfl)
    (fun _ _ h _ hb => h.trans hb) ((Below.refl _ _).drew) (Nat.le_refl _) (fun u => by simp only [List.filterMap_cons, List.filterMap_nil, id, puts, List.foldl_cons, List.foldl_nil]; go_simp; exact rfl) ?_ ?_
  · simp only [List.take_succ_cons, List.take_zero]
    refine ObsB.cons (fun u w L hL hS hBw hd => ?_) ?_
    · exact GB.run 7 rfl (.int .u64 (j : Int)) rfl (by go_simp) rfl rfl
    refine ObsB.cons (fun u w L hL hS hBw hd => ?_) ?_
    · exact GB.run 8 rfl (.int .u64 (i : Int)) rfl (by go_simp) rfl rfl
    refine ObsB.cons (fun u w L hL hS hBw hd => ?_) ?_
    · exact GB.run 9 rfl (.pointer (some ⟨g, 0, none⟩)) rfl (by go_simp) rfl rfl
    refine ObsB.cons (fun u w L hL hS hBw hd => ?_) ?_
    · have d9 : u 9 = .pointer (some ⟨g, 0, none⟩) := depB hd 2 rfl
      rw [d9]
      exact GB.run 10 rfl (.pointer (some ⟨g, 0, none⟩)) rfl (by go_simp) rfl rfl
    refine ObsB.cons (fun u w L hL hS hBw hd => ?_) ?_
    · have d10 : u 10 = .pointer (some ⟨g, 0, none⟩) := depB hd 3 rfl
      rw [d10]
      exact GB.run 11 rfl (.pointer (some ⟨g, 16, none⟩)) rfl (run_Tafield 1 (by decide) rfl rfl) rfl rfl
    refine ObsB.cons (fun u w L hL hS hBw hd => ?_) ?_
    · have d11 : u 11 = .pointer (some ⟨g, 16, none⟩) := depB hd 4 rfl
      rw [d11]
      exact GB.run 12 rfl (sv t.n) rfl (run_Ta 1 (by decide) rfl rfl (HT.out.keep hS)) rfl rfl
    refine ObsB.cons (fun u w L hL hS hBw hd => ?_) ?_
    · exact GB.run 13 rfl (.pointer (some ⟨g, 0, none⟩)) rfl (by go_simp) rfl rfl
    refine ObsB.cons (fun u w L hL hS hBw hd => ?_) ?_
    · have d13 : u 13 = .pointer (some ⟨g, 0, none⟩) := depB hd 6 rfl
      rw [d13]
      exact GB.run 14 rfl (.pointer (some ⟨g, 0, none⟩)) rfl (by go_simp) rfl rfl
    refine ObsB.cons (fun u w L hL hS hBw hd => ?_) ?_
    · have d14 : u 14 = .pointer (some ⟨g, 0, none⟩) := depB hd 7 rfl
      rw [d14]
      exact GB.run 15 rfl (.pointer (some ⟨g, 32, none⟩)) rfl (run_Tafield 2 (by decide) rfl rfl) rfl rfl
    refine ObsB.cons (fun u w L hL hS hBw hd => ?_) ?_
    · have d15 : u 15 = .pointer (some ⟨g, 32, none⟩) := depB hd 8 rfl
      rw [d15]
      exact GB.run 16 rfl (sv t.f) rfl (run_Ta 2 (by decide) rfl rfl (HT.out.keep hS)) rfl rfl
    refine ObsB.cons (fun u w L hL hS hBw hd => ?_) ?_
    · have d8 : u 8 = .int .u64 (i : Int) := depB hd 1 rfl
      rw [d8]
      have d12 : u 12 = sv t.n := depB hd 5 rfl
      rw [d12]
      have d16 : u 16 = sv t.f := depB hd 9 rfl
      rw [d16]
      refine GB.call 17 rfl 107 #[.int .u64 (i : Int), sv t.n, sv t.f] rfl (by go_simp) rfl ((K1.out w).mono ?_)
      rintro e w' ⟨rfl, hb⟩
      exact ⟨_, rfl, rfl, hb⟩
    refine ObsB.cons (fun u w L hL hS hBw hd => ?_) ?_
    · exact GB.run 18 rfl (.int .u64 (i : Int)) rfl (by go_simp) rfl rfl
    refine ObsB.cons (fun u w L hL hS hBw hd => ?_) ?_
    · exact GB.run 19 rfl (.pointer (some ⟨g, 0, none⟩)) rfl (by go_simp) rfl rfl
    refine ObsB.cons (fun u w L hL hS hBw hd => ?_) ?_
    · have d19 : u 19 = .pointer (some ⟨g, 0, none⟩) := depB hd 12 rfl
      rw [d19]
      exact GB.run 20 rfl (.pointer (some ⟨g, 0, none⟩)) rfl (by go_simp) rfl rfl
    refine ObsB.cons (fun u w L hL hS hBw hd => ?_) ?_
    · have d20 : u 20 = .pointer (some ⟨g, 0, none⟩) := depB hd 13 rfl
      rw [d20]
      exact GB.run 21 rfl (.pointer (some ⟨g, 48, none⟩)) rfl (run_Tafield 3 (by decide) rfl rfl) rfl rfl
    refine ObsB.cons (fun u w L hL hS hBw hd => ?_) ?_
    · have d21 : u 21 = .pointer (some ⟨g, 48, none⟩) := depB hd 14 rfl
      rw [d21]
      exact GB.run 22 rfl (sv t.h) rfl (run_Ta 3 (by decide) rfl rfl (HT.out.keep hS)) rfl rfl
    refine ObsB.cons (fun u w L hL hS hBw hd => ?_) ?_
    · exact GB.run 23 rfl (.pointer (some ⟨g, 0, none⟩)) rfl (by go_simp) rfl rfl
    refine ObsB.cons (fun u w L hL hS hBw hd => ?_) ?_
    · have d23 : u 23 = .pointer (some ⟨g, 0, none⟩) := depB hd 16 rfl
      rw [d23]
      exact GB.run 24 rfl (.pointer (some ⟨g, 0, none⟩)) rfl (by go_simp) rfl rfl
    refine ObsB.cons (fun u w L hL hS hBw hd => ?_) ?_
    · have d24 : u 24 = .pointer (some ⟨g, 0, none⟩) := depB hd 17 rfl
      rw [d24]
      exact GB.run 25 rfl (.pointer (some ⟨g, 64, none⟩)) rfl (run_Tafield 4 (by decide) rfl rfl) rfl rfl
    refine ObsB.cons (fun u w L hL hS hBw hd => ?_) ?_
    · have d25 : u 25 = .pointer (some ⟨g, 64, none⟩) := depB hd 18 rfl
      rw [d25]
      exact GB.run 26 rfl (sv t.b) rfl (run_Ta 4 (by decide) rfl rfl (HT.out.keep hS)) rfl rfl
    refine ObsB.cons (fun u w L hL hS hBw hd => ?_) ?_
    · have d18 : u 18 = .int .u64 (i : Int) := depB hd 11 rfl
      rw [d18]
      have d22 : u 22 = sv t.h := depB hd 15 rfl
      rw [d22]
      have d26 : u 26 = sv t.b := depB hd 19 rfl
      rw [d26]
      refine GB.call 27 rfl 107 #[.int .u64 (i : Int), sv t.h, sv t.b] rfl (by go_simp) rfl ((K2.out w).mono ?_)
      rintro e w' ⟨rfl, hb⟩
      exact ⟨_, rfl, rfl, hb⟩
    refine ObsB.cons (fun u w L hL hS hBw hd => ?_) ?_
    · have d7 : u 7 = .int .u64 (j : Int) := depB hd 0 rfl
      rw [d7]
      have d17 : u 17 = sv a1 := depB hd 10 rfl
      rw [d17]
      have d27 : u 27 = sv a2 := depB hd 20 rfl
      rw [d27]
      refine GB.call 28 rfl 107 #[.int .u64 (j : Int), sv a1, sv a2] rfl (by go_simp) rfl ((K3.out w).mono ?_)
      rintro e w' ⟨rfl, hb⟩
      exact ⟨_, rfl, rfl, hb⟩
    refine ObsB.cons (fun u w L hL hS hBw hd => ?_) ?_
    · exact GB.alloc 6 rfl rfl #[.int .u64 0, .int .u64 0, .int .u64 0, .int .u64 0, .int .u64 0, .int .u64 0, .int .u64 0, .int .u64 0, .int .u64 0, .int .u64 0, .int .u64 0, .int .u64 0, .int .u64 0, .int .u64 0, .int .u64 0, .int .u64 0] 98 16 (fun _ => .int .u64 0) rfl rfl (by go_simp) hBw (by decide) rfl
    refine ObsB.cons (fun u w L hL hS hBw hd => ?_) ?_
    · have d28 : u 28 = sv a3 := depB hd 21 rfl
      obtain ⟨g, fg, e6, o6⟩ : (Fact.box 98 16).ok v0.heap.size [some 7, some 8, some 9, some 10, some 11, some 12, some 13, some 14, some 15, some 16, some 17, some 18, some 19, some 20, some 21, some 22, some 23, some 24, some 25, some 26, some 27, some 28, some 6, none] 22 u w L := depB hd 22 rfl
      exact GB.store rfl 22 g 98 16 (sf a3) rfl rfl rfl e6 (run_sstore rfl (by exact e6) (by exact d28) o6) (s_only w g a3) (sput o6 a3)
    exact ObsB.nil
  intro uy1 y1 hS hd
  obtain ⟨g6, eg6, o6⟩ : (Fact.holds 22 98 16 (sf a3)).ok v0.heap.size [some 7, some 8, some 9, some 10, some 11, some 12, some 13, some 14, some 15, some 16, some 17, some 18, some 19, some 20, some 21, some 22, some 23, some 24, some 25, some 26, some 27, some 28, some 6, none] 23 uy1 y1 (fun _ => true) := hd 23 (by decide)
  replace eg6 : uy1 6 = .pointer (some ⟨g6, 0, none⟩) := eg6
  replace o6 : OS y1 v0.heap.size g6 a3 := o6
  replace o6 := o6.mono hc.size
  replace HG := Lib.hid (HG.out.next hS)
  replace hc := hc.trans (hS.mono hc.size)
  rw [eg6]
  replace HT := Lib.hid (HT.out.keep hS)
  clear hS hd eg6
  simp only [List.drop_succ_cons, List.drop_zero]
  go_upto_region 1 with fail
  refine wp_region_inv 12 [29, 30, 31, 32, 33, 34, 35, 36, 37, 38, 39, 40] [.val (.pointer (some ⟨g, 0, none⟩)), .val (.pointer (some ⟨g, 0, none⟩)), .val (.pointer (some ⟨g, 0, none⟩)), .val (.pointer (some ⟨g, 0, none⟩)), .val (sv t.s), .val (.pointer (some ⟨g, 0, none⟩)), .val (.pointer (some ⟨g, 0, none⟩)), .val (.pointer (some ⟨g, 0, none⟩)), .val (sv t.s), .val (sv a4), .val (sv a3), .val (sv a5)] (fun wz => Below y1.heap.size y1 wz) (by kernel_rfl) (by kernel_rfl) (fun wz wz' hz hb => hz.trans (hb.mono hz.size)) ((Below.refl _ _).drew) (fun u => by simp only [puts, List.foldl_cons, List.foldl_nil]; go_simp; exact rfl) ?_ ?_
  · simp only [List.take_succ_cons, List.take_zero]
    refine Obs.cons (fun u w hS hd => ?_) ?_
    · exact Gv.run (.pointer (some ⟨g, 0, none⟩)) rfl (by go_simp) rfl
    refine Obs.cons (fun u w hS hd => ?_) ?_
    · exact Gv.run (.pointer (some ⟨g, 0, none⟩)) rfl (by go_simp) rfl
    refine Obs.cons (fun u w hS hd => ?_) ?_
    · have d30 : u 30 = .pointer (some ⟨g, 0, none⟩) := dep hd 1 rfl
      rw [d30]
      exact Gv.run (.pointer (some ⟨g, 0, none⟩)) rfl (by go_simp) rfl
    refine Obs.cons (fun u w hS hd => ?_) ?_
    · have d31 : u 31 = .pointer (some ⟨g, 0, none⟩) := dep hd 2 rfl
      rw [d31]
      exact Gv.run (.pointer (some ⟨g, 0, none⟩)) rfl (run_Tafield 0 (by decide) rfl rfl) rfl
    refine Obs.cons (fun u w hS hd => ?_) ?_
    · have d32 : u 32 = .pointer (some ⟨g, 0, none⟩) := dep hd 3 rfl
      rw [d32]
      exact Gv.run (sv t.s) rfl (run_Ta 0 (by decide) rfl rfl (HT.out.keep hS)) rfl
    refine Obs.cons (fun u w hS hd => ?_) ?_
    · exact Gv.run (.pointer (some ⟨g, 0, none⟩)) rfl (by go_simp) rfl
    refine Obs.cons (fun u w hS hd => ?_) ?_
    · have d34 : u 34 = .pointer (some ⟨g, 0, none⟩) := dep hd 5 rfl
      rw [d34]
      exact Gv.run (.pointer (some ⟨g, 0, none⟩)) rfl (by go_simp) rfl
    refine Obs.cons (fun u w hS hd => ?_) ?_
    · have d35 : u 35 = .pointer (some ⟨g, 0, none⟩) := dep hd 6 rfl
      rw [d35]
      exact Gv.run (.pointer (some ⟨g, 0, none⟩)) rfl (run_Tafield 0 (by decide) rfl rfl) rfl
    refine Obs.cons (fun u w hS hd => ?_) ?_
    · have d36 : u 36 = .pointer (some ⟨g, 0, none⟩) := dep hd 7 rfl
      rw [d36]
      exact Gv.run (sv t.s) rfl (run_Ta 0 (by decide) rfl rfl (HT.out.keep hS)) rfl
    refine Obs.cons (fun u w hS hd => ?_) ?_
    · have d33 : u 33 = sv t.s := dep hd 4 rfl
      rw [d33]
      have d37 : u 37 = sv t.s := dep hd 8 rfl
      rw [d37]
      refine Gv.call 72 #[sv t.s, sv t.s] rfl (by go_simp) ((K4.out w (HG.out.next hS)).mono ?_)
      rintro e w' ⟨rfl, hb⟩
      exact ⟨_, rfl, rfl, hb⟩
    refine Obs.cons (fun u w hS hd => ?_) ?_
    · exact Gv.run (sv a3) rfl (run_Sload rfl rfl (OS.keep o6 hS)) rfl
    refine Obs.cons (fun u w hS hd => ?_) ?_
    · have d38 : u 38 = sv a4 := dep hd 9 rfl
      rw [d38]
      have d39 : u 39 = sv a3 := dep hd 10 rfl
      rw [d39]
      refine Gv.call 72 #[sv a4, sv a3] rfl (by go_simp) ((K5.out w (HG.out.next hS)).mono ?_)
      rintro e w' ⟨rfl, hb⟩
      exact ⟨_, rfl, rfl, hb⟩
    exact Obs.nil
  intro uy2 y2 hS hd
  have d29 : uy2 29 = .pointer (some ⟨g, 0, none⟩) := hd 0 (by decide)
  have d40 : uy2 40 = sv a5 := hd 11 (by decide)
  rw [d29, d40]
  replace o6 := OS.keep o6 hS
  replace HG := Lib.hid (HG.out.next hS)
  replace hc := hc.trans (hS.mono hc.size)
  replace HT := Lib.hid (HT.out.keep hS)
  clear hS hd d29 d40
  simp only [List.drop_succ_cons, List.drop_zero]
  have hq := HT.out
  have HF := Lib.hid ((Oth.of_below (B := B) (g := g) (Nat.le_trans hq.ge (Nat.le_of_lt HL.out)) hc).only hq.ge (s_only _ g a5))
  have HR := Lib.hid (hq.put0 a5)
  go_wp2_with ((with_reducible refine ta_store0 hq a5 ?_ ?_ ?_); rfl; rfl)
  go_returns
  exact ⟨rfl, HR.out, HF.out⟩
end
end Go.Proofs.YtkbkalhcdbklkaaGreatDoor
