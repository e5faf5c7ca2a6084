/-
  The document's Point of bytes (layer 8). By an AI agent. Layer 9 in lists of bytes and points: keys, signatures, whether one is verified; what is signed is verified, and nothing else with the same beginning. Of no program. By an AI agent. The code's On, Add, Neg (layer 8), over letters. Written by tools/gen_u4.py. By an AI agent.
-/
import Derived.Test.YtkbkalhcdbklkaaGreatDoorE14
import Derived.Test.YtkbkalhcdbklkaaGreatDoorJ13
import Derived.Test.YtkbkalhcdbklkaaGreatDoorJ03
import Derived.Test.YtkbkalhcdbklkaaGreatDoorJ11
import Derived.Test.YtkbkalhcdbklkaaGreatDoorN13
import Derived.Test.YtkbkalhcdbklkaaGreatDoorS3
import Derived.Test.YtkbkalhcdbklkaaGreatDoorJ05
import Derived.Test.YtkbkalhcdbklkaaGreatDoorJ02
namespace Go.Proofs.YtkbkalhcdbklkaaGreatDoor
open Go Go.RowKit
set_option maxRecDepth 20000
/-- The point that 32 bytes tell, as one number; nought and nought beside an error. -/
def decX (n : Nat) : Nat := if decE n = 0 then wxN (n % 2 ^ 255) (n / 2 ^ 255) else 0
def decY (n : Nat) : Nat := if decE n = 0 then n % 2 ^ 255 else 0
section
attribute [local irreducible] wd by8 d16 set16w fl rl setA t3f set8p set4w ivN mlN decT decE decX decY
end
end Go.Proofs.YtkbkalhcdbklkaaGreatDoor
namespace Go.Proofs.YtkbkalhcdbklkaaGreatDoor
/-- SHA-512. -/
def hsh (bs : List UInt8) : List UInt8 := sumN greatS bs
theorem hsh_len (bs : List UInt8) : (hsh bs).length = 64 := gen_length _ _
/-- A seed's secret number, its prefix; what is left of a sum. -/
def secN (seed : List UInt8) : Nat := clam (vb ((hsh seed).take 32))
def preB (seed : List UInt8) : List UInt8 := (hsh seed).drop 32
def lefN (bs : List UInt8) : Nat := vb (hsh bs) % LB
def encP (p : Pt E25) : List UInt8 := encN p.x.val p.y.val
theorem encP_len (p : Pt E25) : (encP p).length = 32 := encN_len _ _
theorem preB_len (seed : List UInt8) : (preB seed).length = 32 := by unfold preB; rw [List.length_drop, hsh_len]
theorem lefN_lt (bs : List UInt8) : lefN bs < LB := Nat.mod_lt _ LB_pos
def pubB (seed : List UInt8) : List UInt8 := encP (B25.mul (secN seed))
def rN9 (seed b : List UInt8) : Nat := lefN (preB seed ++ b)
def rB9 (seed b : List UInt8) : List UInt8 := encP (B25.mul (rN9 seed b))
def kN9 (seed b : List UInt8) : Nat := lefN (rB9 seed b ++ pubB seed ++ b)
def sN9 (seed b : List UInt8) : Nat := (rN9 seed b + kN9 seed b * (secN seed % LB) % LB) % LB
def sigB (seed b : List UInt8) : List UInt8 := rB9 seed b ++ gen (bf (sN9 seed b)) 32
theorem pubB_len (seed : List UInt8) : (pubB seed).length = 32 := encP_len _
theorem rB9_len (seed b : List UInt8) : (rB9 seed b).length = 32 := encP_len _
theorem sigB_len (seed b : List UInt8) : (sigB seed b).length = 64 := by unfold sigB; rw [List.length_append, rB9_len, gen_length]
/-- The point that a number tells (of bytes that tell one). -/
def ptD (n : Nat) : Pt E25 := if h : onN (decX n) (decY n) = true then ptN (decX n) (decY n) h else Pt.nought E25
def ptE (p q : Pt E25) : Bool := decide (p.x.val = q.x.val) && decide (p.y.val = q.y.val)
def smlP (p : Pt E25) : Bool := decide ((p.mul 8).x.val = 0) && decide ((p.mul 8).y.val = 1)
/-- Behind the decoding: is it a signature? -/
def endN (key b sig : List UInt8) : Nat := if ptE (B25.mul (vb (sig.drop 32))) ((ptD (vb (sig.take 32))).add ((ptD (vb key)).mul (lefN (sig.take 32 ++ key ++ b)))) = true then 0 else 10
/-- What Verify tells. -/
def verN (key b sig : List UInt8) : Nat :=
  if key.length = 32 ∧ sig.length = 64 then
    if vb (sig.drop 32) < LB then
      if decE (vb key) = 0 then
        if smlP (ptD (vb key)) = true then 7
        else if decE (vb (sig.take 32)) = 0 then endN key b sig else decE (vb (sig.take 32))
      else decE (vb key)
    else 6
  else 1
theorem LB_W4' : LB < W4 := by decide +kernel
end Go.Proofs.YtkbkalhcdbklkaaGreatDoor
namespace Go.Proofs.YtkbkalhcdbklkaaGreatDoor
open Go Go.RowKit
section
attribute [local irreducible] wd by8 fl rl setA sf taf set8p set4w ed2
set_option maxRecDepth 20000
set_option maxHeartbeats 6400000 in
theorem cOn_a {x y : Nat}
    (k1 : ∀ w, Calls Tryz.prog 67 #[nv x] w fun e w' => e = .returned (.bool false) ∧ Below w.heap.size w w')
    (w : World) : Calls Tryz.prog 70 #[prv x y] w fun e w' => e = .returned (.bool false) ∧ Below w.heap.size w w' := by
  have K1 := Lib.hid k1
  clear k1
  obtain ⟨v1, ev1⟩ : ∃ v, v = w.alloc (A8p x y) := ⟨_, rfl⟩
  have bv1 : Below w.heap.size w v1 := by rw [ev1]; exact (Below.refl _ _).alloc (Nat.le_refl _) _
  have sv1 : v1.heap.size = w.heap.size + 1 := by rw [ev1]; simp
  obtain ⟨g1, eg1⟩ : ∃ g, g = w.heap.size := ⟨_, rfl⟩
  have o1 : O8 v1 w.heap.size g1 x y := by rw [eg1, ev1]; exact O8.new (Nat.le_refl _) x y
  have hc := bv1
  have hs1 := hc.size
  go_enter Tryz.func70, Tryz.ntmps70
  go_upto_region 1 with fail
  rw [← ev1]
  rw [show Value.pointer (some ⟨w.heap.size, 0, none⟩) = .pointer (some ⟨g1, 0, none⟩) by rw [eg1]]
  clear ev1 bv1 sv1 eg1 hs1
  refine wp_region_obs 9 [5, 6, 7, 8, 9, 10, 11, 12, 13] [.val (.pointer (some ⟨g1, 0, none⟩)), .val (nv x), .val (.bool false), .val (.bool true), .val (.bool true), .val (undef), .val (undef), .val (undef), .val (undef)] (fun wz => Below v1.heap.size v1 wz) (by kernel_rfl) (fun wz wz' hz hb => hz.trans (hb.mono hz.size)) (Below.refl _ _) (fun u => by simp only [puts, List.foldl_cons, List.foldl_nil]; go_simp; exact rfl) ?_ ?_
  · simp only [List.take_succ_cons, List.take_zero]
    refine ObsS.cons (fun u w hS hd => ?_) ?_
    · exact Gv.run (.pointer (some ⟨g1, 0, none⟩)) rfl (run_pfield 0 (by decide) rfl rfl) rfl
    refine ObsS.cons (fun u w hS hd => ?_) ?_
    · have d5 : u 5 = .pointer (some ⟨g1, 0, none⟩) := hd 0 (by decide)
      rw [d5]
      exact Gv.run (nv x) rfl (run_xload rfl rfl (O8.keep o1 hS)) rfl
    refine ObsS.cons (fun u w hS hd => ?_) ?_
    · have d6 : u 6 = nv x := hd 1 (by decide)
      rw [d6]
      refine Gv.call 67 #[nv x] rfl (by go_simp) ((K1.out w).mono ?_)
      rintro e w' ⟨rfl, hb⟩
      exact ⟨_, rfl, rfl, hb⟩
    refine ObsS.cons (fun u w hS hd => ?_) ?_
    · have d7 : u 7 = .bool false := hd 2 (by decide)
      rw [d7]
      exact Gv.run (.bool true) rfl (by go_simp) rfl
    refine ObsS.cons (fun u w hS hd => ?_) ?_
    · have d8 : u 8 = .bool true := hd 3 (by decide)
      rw [d8]
      exact Gv.run (.bool true) rfl (by go_simp) rfl
    refine ObsS.cons (fun u w hS hd => ?_) ?_
    · have d9 : u 9 = .bool true := hd 4 (by decide)
      rw [d9]
      exact Gv.skip (by rfl) rfl
    refine ObsS.cons (fun u w hS hd => ?_) ?_
    · have d9 : u 9 = .bool true := hd 4 (by decide)
      rw [d9]
      exact Gv.skip (by rfl) rfl
    refine ObsS.cons (fun u w hS hd => ?_) ?_
    · have d9 : u 9 = .bool true := hd 4 (by decide)
      rw [d9]
      exact Gv.skip (by rfl) rfl
    refine ObsS.cons (fun u w hS hd => ?_) ?_
    · have d9 : u 9 = .bool true := hd 4 (by decide)
      rw [d9]
      exact Gv.skip (by rfl) rfl
    exact ObsS.nil
  intro uy2 y2 hS hd
  have d9 : uy2 9 = .bool true := hd 4 (by decide)
  have d13 : uy2 13 = undef := hd 8 (by decide)
  rw [d9, d13]
  replace o1 := O8.keep o1 hS
  replace hc := hc.trans (hS.mono hc.size)
  clear hS hd d9 d13
  simp only [List.drop_succ_cons, List.drop_zero]
  go_wp2_with fail
  go_ret
  exact ⟨rfl, hc⟩
set_option maxHeartbeats 6400000 in
theorem cOn_b {x y : Nat}
    (k1 : ∀ w, Calls Tryz.prog 67 #[nv x] w fun e w' => e = .returned (.bool true) ∧ Below w.heap.size w w')
    (k2 : ∀ w, Calls Tryz.prog 67 #[nv y] w fun e w' => e = .returned (.bool false) ∧ Below w.heap.size w w')
    (w : World) : Calls Tryz.prog 70 #[prv x y] w fun e w' => e = .returned (.bool false) ∧ Below w.heap.size w w' := by
  have K1 := Lib.hid k1
  have K2 := Lib.hid k2
  clear k1 k2
  obtain ⟨v1, ev1⟩ : ∃ v, v = w.alloc (A8p x y) := ⟨_, rfl⟩
  have bv1 : Below w.heap.size w v1 := by rw [ev1]; exact (Below.refl _ _).alloc (Nat.le_refl _) _
  have sv1 : v1.heap.size = w.heap.size + 1 := by rw [ev1]; simp
  obtain ⟨g1, eg1⟩ : ∃ g, g = w.heap.size := ⟨_, rfl⟩
  have o1 : O8 v1 w.heap.size g1 x y := by rw [eg1, ev1]; exact O8.new (Nat.le_refl _) x y
  have hc := bv1
  have hs1 := hc.size
  go_enter Tryz.func70, Tryz.ntmps70
  go_upto_region 1 with fail
  rw [← ev1]
  rw [show Value.pointer (some ⟨w.heap.size, 0, none⟩) = .pointer (some ⟨g1, 0, none⟩) by rw [eg1]]
  clear ev1 bv1 sv1 eg1 hs1
  refine wp_region_obs 9 [5, 6, 7, 8, 9, 10, 11, 12, 13] [.val (.pointer (some ⟨g1, 0, none⟩)), .val (nv x), .val (.bool true), .val (.bool false), .val (.bool false), .val (.pointer (some ⟨g1, 4, none⟩)), .val (nv y), .val (.bool false), .val (.bool true)] (fun wz => Below v1.heap.size v1 wz) (by kernel_rfl) (fun wz wz' hz hb => hz.trans (hb.mono hz.size)) (Below.refl _ _) (fun u => by simp only [puts, List.foldl_cons, List.foldl_nil]; go_simp; exact rfl) ?_ ?_
  · simp only [List.take_succ_cons, List.take_zero]
    refine ObsS.cons (fun u w hS hd => ?_) ?_
    · exact Gv.run (.pointer (some ⟨g1, 0, none⟩)) rfl (run_pfield 0 (by decide) rfl rfl) rfl
    refine ObsS.cons (fun u w hS hd => ?_) ?_
    · have d5 : u 5 = .pointer (some ⟨g1, 0, none⟩) := hd 0 (by decide)
      rw [d5]
      exact Gv.run (nv x) rfl (run_xload rfl rfl (O8.keep o1 hS)) rfl
    refine ObsS.cons (fun u w hS hd => ?_) ?_
    · have d6 : u 6 = nv x := hd 1 (by decide)
      rw [d6]
      refine Gv.call 67 #[nv x] rfl (by go_simp) ((K1.out w).mono ?_)
      rintro e w' ⟨rfl, hb⟩
      exact ⟨_, rfl, rfl, hb⟩
    refine ObsS.cons (fun u w hS hd => ?_) ?_
    · have d7 : u 7 = .bool true := hd 2 (by decide)
      rw [d7]
      exact Gv.run (.bool false) rfl (by go_simp) rfl
    refine ObsS.cons (fun u w hS hd => ?_) ?_
    · have d8 : u 8 = .bool false := hd 3 (by decide)
      rw [d8]
      exact Gv.run (.bool false) rfl (by go_simp) rfl
    refine ObsS.cons (fun u w hS hd => ?_) ?_
    · have d9 : u 9 = .bool false := hd 4 (by decide)
      rw [d9]
      exact Gv.run (.pointer (some ⟨g1, 4, none⟩)) (by rfl) (run_pfield 1 (by decide) rfl rfl) rfl
    refine ObsS.cons (fun u w hS hd => ?_) ?_
    · have d9 : u 9 = .bool false := hd 4 (by decide)
      rw [d9]
      have d10 : u 10 = .pointer (some ⟨g1, 4, none⟩) := hd 5 (by decide)
      rw [d10]
      exact Gv.run (nv y) (by rfl) (run_zload rfl rfl (O8.keep o1 hS)) rfl
    refine ObsS.cons (fun u w hS hd => ?_) ?_
    · have d9 : u 9 = .bool false := hd 4 (by decide)
      rw [d9]
      have d11 : u 11 = nv y := hd 6 (by decide)
      rw [d11]
      refine Gv.call 67 #[nv y] rfl (by go_simp) ((K2.out w).mono ?_)
      rintro e w' ⟨rfl, hb⟩
      exact ⟨_, rfl, rfl, hb⟩
    refine ObsS.cons (fun u w hS hd => ?_) ?_
    · have d9 : u 9 = .bool false := hd 4 (by decide)
      rw [d9]
      have d12 : u 12 = .bool false := hd 7 (by decide)
      rw [d12]
      exact Gv.run (.bool true) rfl (by go_simp) rfl
    exact ObsS.nil
  intro uy2 y2 hS hd
  have d9 : uy2 9 = .bool false := hd 4 (by decide)
  have d13 : uy2 13 = .bool true := hd 8 (by decide)
  rw [d9, d13]
  replace o1 := O8.keep o1 hS
  replace hc := hc.trans (hS.mono hc.size)
  clear hS hd d9 d13
  simp only [List.drop_succ_cons, List.drop_zero]
  go_wp2_with fail
  go_ret
  exact ⟨rfl, hc⟩
set_option maxHeartbeats 6400000 in
theorem cOn_c {x y xx yy s D xy dx r : Nat} {b : Bool} (hbs : s < W4) (hbr : r < W4) (hq : decide (s = r) = b)
    (k1 : ∀ w, Calls Tryz.prog 67 #[nv x] w fun e w' => e = .returned (.bool true) ∧ Below w.heap.size w w')
    (k2 : ∀ w, Calls Tryz.prog 67 #[nv y] w fun e w' => e = .returned (.bool true) ∧ Below w.heap.size w w')
    (k3 : ∀ w, Calls Tryz.prog 101 #[nv x, nv x] w fun e w' => e = .returned (nv xx) ∧ Below w.heap.size w w')
    (k4 : ∀ w, Calls Tryz.prog 101 #[nv y, nv y] w fun e w' => e = .returned (nv yy) ∧ Below w.heap.size w w')
    (k5 : ∀ w, Calls Tryz.prog 102 #[nv yy, nv xx] w fun e w' => e = .returned (nv s) ∧ Below w.heap.size w w')
    (k6 : ∀ w, Calls Tryz.prog 104 #[] w fun e w' => e = .returned (nv D) ∧ Below w.heap.size w w')
    (k7 : ∀ w, Calls Tryz.prog 101 #[nv xx, nv yy] w fun e w' => e = .returned (nv xy) ∧ Below w.heap.size w w')
    (k8 : ∀ w, Calls Tryz.prog 101 #[nv D, nv xy] w fun e w' => e = .returned (nv dx) ∧ Below w.heap.size w w')
    (k9 : ∀ w, Calls Tryz.prog 103 #[nv 1, nv dx] w fun e w' => e = .returned (nv r) ∧ Below w.heap.size w w')
    (w : World) : Calls Tryz.prog 70 #[prv x y] w fun e w' => e = .returned (.bool b) ∧ Below w.heap.size w w' := by
  have K1 := Lib.hid k1
  have K2 := Lib.hid k2
  have K3 := Lib.hid k3
  have K4 := Lib.hid k4
  have K5 := Lib.hid k5
  have K6 := Lib.hid k6
  have K7 := Lib.hid k7
  have K8 := Lib.hid k8
  have K9 := Lib.hid k9
  clear k1 k2 k3 k4 k5 k6 k7 k8 k9
  obtain ⟨v1, ev1⟩ : ∃ v, v = w.alloc (A8p x y) := ⟨_, rfl⟩
  have bv1 : Below w.heap.size w v1 := by rw [ev1]; exact (Below.refl _ _).alloc (Nat.le_refl _) _
  have sv1 : v1.heap.size = w.heap.size + 1 := by rw [ev1]; simp
  obtain ⟨g1, eg1⟩ : ∃ g, g = w.heap.size := ⟨_, rfl⟩
  have o1 : O8 v1 w.heap.size g1 x y := by rw [eg1, ev1]; exact O8.new (Nat.le_refl _) x y
  have hc := bv1
  have hs1 := hc.size
  go_enter Tryz.func70, Tryz.ntmps70
  go_upto_region 1 with fail
  rw [← ev1]
  rw [show Value.pointer (some ⟨w.heap.size, 0, none⟩) = .pointer (some ⟨g1, 0, none⟩) by rw [eg1]]
  clear ev1 bv1 sv1 eg1 hs1
  refine wp_region_obs 9 [5, 6, 7, 8, 9, 10, 11, 12, 13] [.val (.pointer (some ⟨g1, 0, none⟩)), .val (nv x), .val (.bool true), .val (.bool false), .val (.bool false), .val (.pointer (some ⟨g1, 4, none⟩)), .val (nv y), .val (.bool true), .val (.bool false)] (fun wz => Below v1.heap.size v1 wz) (by kernel_rfl) (fun wz wz' hz hb => hz.trans (hb.mono hz.size)) (Below.refl _ _) (fun u => by simp only [puts, List.foldl_cons, List.foldl_nil]; go_simp; exact rfl) ?_ ?_
  · simp only [List.take_succ_cons, List.take_zero]
    refine ObsS.cons (fun u w hS hd => ?_) ?_
    · exact Gv.run (.pointer (some ⟨g1, 0, none⟩)) rfl (run_pfield 0 (by decide) rfl rfl) rfl
    refine ObsS.cons (fun u w hS hd => ?_) ?_
    · have d5 : u 5 = .pointer (some ⟨g1, 0, none⟩) := hd 0 (by decide)
      rw [d5]
      exact Gv.run (nv x) rfl (run_xload rfl rfl (O8.keep o1 hS)) rfl
    refine ObsS.cons (fun u w hS hd => ?_) ?_
    · have d6 : u 6 = nv x := hd 1 (by decide)
      rw [d6]
      refine Gv.call 67 #[nv x] rfl (by go_simp) ((K1.out w).mono ?_)
      rintro e w' ⟨rfl, hb⟩
      exact ⟨_, rfl, rfl, hb⟩
    refine ObsS.cons (fun u w hS hd => ?_) ?_
    · have d7 : u 7 = .bool true := hd 2 (by decide)
      rw [d7]
      exact Gv.run (.bool false) rfl (by go_simp) rfl
    refine ObsS.cons (fun u w hS hd => ?_) ?_
    · have d8 : u 8 = .bool false := hd 3 (by decide)
      rw [d8]
      exact Gv.run (.bool false) rfl (by go_simp) rfl
    refine ObsS.cons (fun u w hS hd => ?_) ?_
    · have d9 : u 9 = .bool false := hd 4 (by decide)
      rw [d9]
      exact Gv.run (.pointer (some ⟨g1, 4, none⟩)) (by rfl) (run_pfield 1 (by decide) rfl rfl) rfl
    refine ObsS.cons (fun u w hS hd => ?_) ?_
    · have d9 : u 9 = .bool false := hd 4 (by decide)
      rw [d9]
      have d10 : u 10 = .pointer (some ⟨g1, 4, none⟩) := hd 5 (by decide)
      rw [d10]
      exact Gv.run (nv y) (by rfl) (run_zload rfl rfl (O8.keep o1 hS)) rfl
    refine ObsS.cons (fun u w hS hd => ?_) ?_
    · have d9 : u 9 = .bool false := hd 4 (by decide)
      rw [d9]
      have d11 : u 11 = nv y := hd 6 (by decide)
      rw [d11]
      refine Gv.call 67 #[nv y] rfl (by go_simp) ((K2.out w).mono ?_)
      rintro e w' ⟨rfl, hb⟩
      exact ⟨_, rfl, rfl, hb⟩
    refine ObsS.cons (fun u w hS hd => ?_) ?_
    · have d9 : u 9 = .bool false := hd 4 (by decide)
      rw [d9]
      have d12 : u 12 = .bool true := hd 7 (by decide)
      rw [d12]
      exact Gv.run (.bool false) rfl (by go_simp) rfl
    exact ObsS.nil
  intro uy2 y2 hS hd
  have d9 : uy2 9 = .bool false := hd 4 (by decide)
  have d13 : uy2 13 = .bool false := hd 8 (by decide)
  rw [d9, d13]
  replace o1 := O8.keep o1 hS
  replace hc := hc.trans (hS.mono hc.size)
  clear hS hd d9 d13
  simp only [List.drop_succ_cons, List.drop_zero]
  go_upto_region 3 with fail
  refine wp_region_box 14 [some 15, some 16, some 17, some 18, some 19, some 20, some 21, some 22, some 23, some 24, some 3, some 4, none, none] [.val (.pointer (some ⟨g1, 0, none⟩)), .val (nv x), .val (.pointer (some ⟨g1, 0, none⟩)), .val (nv x), .val (nv xx), .val (.pointer (some ⟨g1, 4, none⟩)), .val (nv y), .val (.pointer (some ⟨g1, 4, none⟩)), .val (nv y), .val (nv yy), .box 35 4, .box 35 4, .holds 10 35 4 (wv xx), .holds 11 35 4 (wv yy)] y2.heap.size (fun wz => Below y2.heap.size y2 wz) (by kernel_rfl) (by kernel_rfl)
    (fun _ _ h _ hb => h.trans hb) ((Below.refl _ _).drew) (Nat.le_refl _) (fun u => by simp only [List.filterMap_cons, List.filterMap_nil, id, puts, List.foldl_cons, List.foldl_nil]; go_simp; exact rfl) ?_ ?_
  · simp only [List.take_succ_cons, List.take_zero]
    refine ObsB.cons (fun u w L hL hS hBw hd => ?_) ?_
    · exact GB.run 15 rfl (.pointer (some ⟨g1, 0, none⟩)) rfl (run_pfield 0 (by decide) rfl rfl) rfl rfl
    refine ObsB.cons (fun u w L hL hS hBw hd => ?_) ?_
    · have d15 : u 15 = .pointer (some ⟨g1, 0, none⟩) := depB hd 0 rfl
      rw [d15]
      exact GB.run 16 rfl (nv x) rfl (run_xload rfl rfl (O8.keep o1 hS)) rfl rfl
    refine ObsB.cons (fun u w L hL hS hBw hd => ?_) ?_
    · exact GB.run 17 rfl (.pointer (some ⟨g1, 0, none⟩)) rfl (run_pfield 0 (by decide) rfl rfl) rfl rfl
    refine ObsB.cons (fun u w L hL hS hBw hd => ?_) ?_
    · have d17 : u 17 = .pointer (some ⟨g1, 0, none⟩) := depB hd 2 rfl
      rw [d17]
      exact GB.run 18 rfl (nv x) rfl (run_xload rfl rfl (O8.keep o1 hS)) rfl rfl
    refine ObsB.cons (fun u w L hL hS hBw hd => ?_) ?_
    · have d16 : u 16 = nv x := depB hd 1 rfl
      rw [d16]
      have d18 : u 18 = nv x := depB hd 3 rfl
      rw [d18]
      refine GB.call 19 rfl 101 #[nv x, nv x] rfl (by go_simp) rfl ((K3.out w).mono ?_)
      rintro e w' ⟨rfl, hb⟩
      exact ⟨_, rfl, rfl, hb⟩
    refine ObsB.cons (fun u w L hL hS hBw hd => ?_) ?_
    · exact GB.run 20 rfl (.pointer (some ⟨g1, 4, none⟩)) rfl (run_pfield 1 (by decide) rfl rfl) rfl rfl
    refine ObsB.cons (fun u w L hL hS hBw hd => ?_) ?_
    · have d20 : u 20 = .pointer (some ⟨g1, 4, none⟩) := depB hd 5 rfl
      rw [d20]
      exact GB.run 21 rfl (nv y) rfl (run_zload rfl rfl (O8.keep o1 hS)) rfl rfl
    refine ObsB.cons (fun u w L hL hS hBw hd => ?_) ?_
    · exact GB.run 22 rfl (.pointer (some ⟨g1, 4, none⟩)) rfl (run_pfield 1 (by decide) rfl rfl) rfl rfl
    refine ObsB.cons (fun u w L hL hS hBw hd => ?_) ?_
    · have d22 : u 22 = .pointer (some ⟨g1, 4, none⟩) := depB hd 7 rfl
      rw [d22]
      exact GB.run 23 rfl (nv y) rfl (run_zload rfl rfl (O8.keep o1 hS)) rfl rfl
    refine ObsB.cons (fun u w L hL hS hBw hd => ?_) ?_
    · have d21 : u 21 = nv y := depB hd 6 rfl
      rw [d21]
      have d23 : u 23 = nv y := depB hd 8 rfl
      rw [d23]
      refine GB.call 24 rfl 101 #[nv y, nv y] rfl (by go_simp) rfl ((K4.out w).mono ?_)
      rintro e w' ⟨rfl, hb⟩
      exact ⟨_, rfl, rfl, hb⟩
    refine ObsB.cons (fun u w L hL hS hBw hd => ?_) ?_
    · exact GB.alloc 3 rfl rfl #[.int .u64 0, .int .u64 0, .int .u64 0, .int .u64 0] 35 4 (fun _ => .int .u64 0) rfl rfl (by go_simp) hBw (by decide) rfl
    refine ObsB.cons (fun u w L hL hS hBw hd => ?_) ?_
    · exact GB.alloc 4 rfl rfl #[.int .u64 0, .int .u64 0, .int .u64 0, .int .u64 0] 35 4 (fun _ => .int .u64 0) rfl rfl (by go_simp) hBw (by decide) rfl
    refine ObsB.cons (fun u w L hL hS hBw hd => ?_) ?_
    · have d19 : u 19 = nv xx := depB hd 4 rfl
      obtain ⟨g, fg, e3, o3⟩ : (Fact.box 35 4).ok y2.heap.size [some 15, some 16, some 17, some 18, some 19, some 20, some 21, some 22, some 23, some 24, some 3, some 4, none, none] 10 u w L := depB hd 10 rfl
      exact GB.store rfl 10 g 35 4 (wv xx) rfl rfl rfl e3 (run_nstore rfl (by exact e3) (by exact d19) o3) (only4 w g xx) (put4o o3 xx)
    refine ObsB.cons (fun u w L hL hS hBw hd => ?_) ?_
    · have d24 : u 24 = nv yy := depB hd 9 rfl
      obtain ⟨g, fg, e4, o4⟩ : (Fact.box 35 4).ok y2.heap.size [some 15, some 16, some 17, some 18, some 19, some 20, some 21, some 22, some 23, some 24, some 3, some 4, none, none] 11 u w L := depB hd 11 rfl
      exact GB.store rfl 11 g 35 4 (wv yy) rfl rfl rfl e4 (run_nstore rfl (by exact e4) (by exact d24) o4) (only4 w g yy) (put4o o4 yy)
    exact ObsB.nil
  intro uy3 y3 hS hd
  obtain ⟨g3, eg3, o3⟩ : (Fact.holds 10 35 4 (wv xx)).ok y2.heap.size [some 15, some 16, some 17, some 18, some 19, some 20, some 21, some 22, some 23, some 24, some 3, some 4, none, none] 12 uy3 y3 (fun _ => true) := hd 12 (by decide)
  replace eg3 : uy3 3 = .pointer (some ⟨g3, 0, none⟩) := eg3
  replace o3 : O4 y3 y2.heap.size g3 xx := o3
  replace o3 := o3.mono hc.size
  obtain ⟨g4, eg4, o4⟩ : (Fact.holds 11 35 4 (wv yy)).ok y2.heap.size [some 15, some 16, some 17, some 18, some 19, some 20, some 21, some 22, some 23, some 24, some 3, some 4, none, none] 13 uy3 y3 (fun _ => true) := hd 13 (by decide)
  replace eg4 : uy3 4 = .pointer (some ⟨g4, 0, none⟩) := eg4
  replace o4 : O4 y3 y2.heap.size g4 yy := o4
  replace o4 := o4.mono hc.size
  replace o1 := O8.keep o1 hS
  replace hc := hc.trans (hS.mono hc.size)
  rw [eg3, eg4]
  clear hS hd eg3 eg4
  simp only [List.drop_succ_cons, List.drop_zero]
  go_upto_region 4 with fail
  refine wp_region_inv 11 [25, 26, 27, 28, 29, 30, 31, 32, 33, 34, 35] [.val (nv yy), .val (nv xx), .val (nv s), .val (nv 1), .val (nv D), .val (nv xx), .val (nv yy), .val (nv xy), .val (nv dx), .val (nv r), .val (.bool b)] (fun wz => Below y3.heap.size y3 wz) (by kernel_rfl) (by kernel_rfl) (fun wz wz' hz hb => hz.trans (hb.mono hz.size)) ((Below.refl _ _).drew) (fun u => by simp only [puts, List.foldl_cons, List.foldl_nil]; go_simp; exact rfl) ?_ ?_
  · simp only [List.take_succ_cons, List.take_zero]
    refine Obs.cons (fun u w hS hd => ?_) ?_
    · exact Gv.run (nv yy) rfl (run_nload rfl rfl (O4.keep o4 hS)) rfl
    refine Obs.cons (fun u w hS hd => ?_) ?_
    · exact Gv.run (nv xx) rfl (run_nload rfl rfl (O4.keep o3 hS)) rfl
    refine Obs.cons (fun u w hS hd => ?_) ?_
    · have d25 : u 25 = nv yy := dep hd 0 rfl
      rw [d25]
      have d26 : u 26 = nv xx := dep hd 1 rfl
      rw [d26]
      refine Gv.call 102 #[nv yy, nv xx] rfl (by go_simp) ((K5.out w).mono ?_)
      rintro e w' ⟨rfl, hb⟩
      exact ⟨_, rfl, rfl, hb⟩
    refine Obs.cons (fun u w hS hd => ?_) ?_
    · exact Gv.run (nv 1) rfl (run_one rfl w) rfl
    refine Obs.cons (fun u w hS hd => ?_) ?_
    · refine Gv.call 104 #[] rfl (by go_simp) ((K6.out w).mono ?_)
      rintro e w' ⟨rfl, hb⟩
      exact ⟨_, rfl, rfl, hb⟩
    refine Obs.cons (fun u w hS hd => ?_) ?_
    · exact Gv.run (nv xx) rfl (run_nload rfl rfl (O4.keep o3 hS)) rfl
    refine Obs.cons (fun u w hS hd => ?_) ?_
    · exact Gv.run (nv yy) rfl (run_nload rfl rfl (O4.keep o4 hS)) rfl
    refine Obs.cons (fun u w hS hd => ?_) ?_
    · have d30 : u 30 = nv xx := dep hd 5 rfl
      rw [d30]
      have d31 : u 31 = nv yy := dep hd 6 rfl
      rw [d31]
      refine Gv.call 101 #[nv xx, nv yy] rfl (by go_simp) ((K7.out w).mono ?_)
      rintro e w' ⟨rfl, hb⟩
      exact ⟨_, rfl, rfl, hb⟩
    refine Obs.cons (fun u w hS hd => ?_) ?_
    · have d29 : u 29 = nv D := dep hd 4 rfl
      rw [d29]
      have d32 : u 32 = nv xy := dep hd 7 rfl
      rw [d32]
      refine Gv.call 101 #[nv D, nv xy] rfl (by go_simp) ((K8.out w).mono ?_)
      rintro e w' ⟨rfl, hb⟩
      exact ⟨_, rfl, rfl, hb⟩
    refine Obs.cons (fun u w hS hd => ?_) ?_
    · have d28 : u 28 = nv 1 := dep hd 3 rfl
      rw [d28]
      have d33 : u 33 = nv dx := dep hd 8 rfl
      rw [d33]
      refine Gv.call 103 #[nv 1, nv dx] rfl (by go_simp) ((K9.out w).mono ?_)
      rintro e w' ⟨rfl, hb⟩
      exact ⟨_, rfl, rfl, hb⟩
    refine Obs.cons (fun u w hS hd => ?_) ?_
    · have d27 : u 27 = nv s := dep hd 2 rfl
      rw [d27]
      have d34 : u 34 = nv r := dep hd 9 rfl
      rw [d34]
      exact Gv.run (.bool b) rfl (run_eq4 rfl rfl rfl hbs hbr hq w) rfl
    exact Obs.nil
  intro uy4 y4 hS hd
  have d35 : uy4 35 = .bool b := hd 10 (by decide)
  rw [d35]
  replace o1 := O8.keep o1 hS
  replace o3 := O4.keep o3 hS
  replace o4 := O4.keep o4 hS
  replace hc := hc.trans (hS.mono hc.size)
  clear hS hd d35
  simp only [List.drop_succ_cons, List.drop_zero]
  go_wp2_with fail
  go_ret
  exact ⟨rfl, hc⟩
end
end Go.Proofs.YtkbkalhcdbklkaaGreatDoor
