/-
  ! The document's own answers. Layer 9 in lists of bytes and points: keys, signatures, whether one is verified; what is signed is verified, and nothing else with the same beginning. Of no program. By an AI agent.
-/
import Derived.Test.YtgaofocjnifjdaaDoorS1
import Derived.Test.YtgaofocjnifjdaaDoorS2
import Derived.Test.YtgaofocjnifjdaaDoorJ09
import Derived.Test.YtgaofocjnifjdaaDoorQ1
import Derived.Test.YtgaofocjnifjdaaDoorJ06
import Derived.Test.YtgaofocjnifjdaaDoorJ16
namespace Go.Proofs.YtgaofocjnifjdaaDoor
open Go Go.RowKit
attribute [local irreducible] wd by8
set_option maxRecDepth 20000
theorem tof_walk {A : Option Addr} {c x r n : Nat} (w : World) (kd : Calls Tryd.prog 51 #[.slice A n c] (w.alloc (ZE 39)) fun e w' => e = .returned (.tuple #[dv x, .int .i64 0]) ∧ Below (w.alloc (ZE 39)).heap.size (w.alloc (ZE 39)) w')
    (kset : ∀ w, Calls Tryd.prog 31 #[dv x] w fun e w' => e = .returned (nv r) ∧ Below w.heap.size w w') :
    Calls Tryd.prog 27 #[.slice A n c] w fun e w' => e = .returned (.tuple #[nv r, .int .i64 0]) ∧ Below w.heap.size w w' := by
  have KD := Lib.hid kd
  have KS := Lib.hid kset
  clear kd kset
  go_enter Tryd.func27, Tryd.ntmps27
  go_wp2_with fail
  go_at_call 51
  refine KD.out.mono ?_
  rintro e v1 ⟨rfl, h0⟩
  obtain ⟨oz, hc⟩ := tres1 h0
  have hne : v1.heap.size ≠ w.heap.size := Nat.ne_of_gt oz.lt
  have oa := own_A8 (w := v1) (B := w.heap.size) hc.size x
  replace oz := oz.alloc (A8 x)
  replace hc := hc.alloc hc.size (A8 x)
  obtain ⟨s0, s1, s2, s3, s4, s5, s6, s7⟩ := keep8 oa _ (Below.refl _ _)
  clear h0 oa KD
  go_wp2_with fail
  clear s0 s1 s2 s3 s4 s5 s6 s7
  go_at_call 31
  refine (KS.out _).mono ?_
  rintro e v2 ⟨rfl, h0⟩
  replace oz := oz.keep h0
  replace hc := hc.trans (h0.mono hc.size)
  clear h0
  obtain ⟨z0, z1, z2, z3⟩ := oz.c4
  obtain ⟨f0, f1, f2, f3⟩ := oz.f4
  obtain ⟨wz, ez, or, hbz, _⟩ := oz.out r
  obtain ⟨r0, r1, r2, r3⟩ := or.c4
  go_wp2_with fail
  rw [← ez]
  refine bodyPost_ret (v := .tuple #[nv r, .int .i64 0]) (by simp [results, Tryd.results27, go_sem, r0, r1, r2, r3]) rfl ⟨rfl, hc.trans hbz⟩
theorem vb_W8 {bs : List UInt8} (h : bs.length ≤ 64) : vb bs < W8 := by
  rw [W8_256]
  exact Nat.lt_of_lt_of_le (vk_lt bs _) (Nat.pow_le_pow_right (by decide) h)
theorem tof_good {B c : Nat} {A : Option Addr} {bs : List UInt8} (w : World) (hr : Rd w B A c bs) (hB : B ≤ w.heap.size) (hl : bs.length ≤ 64) :
    Calls Tryd.prog 27 #[.slice A bs.length c] w fun e w' => e = .returned (.tuple #[nv (vb bs % LL), .int .i64 0]) ∧ Below w.heap.size w w' :=
  tof_walk w (double_good (w.alloc (ZE 39)) (hr.keep ((Below.refl _ w).alloc hB (ZE 39))) (by simp; omega) hl) (fun w => tsettle_any (vb_W8 hl) w)
/-! The document's own answers. -/
end Go.Proofs.YtgaofocjnifjdaaDoor
namespace Go.Proofs.YtgaofocjnifjdaaDoor
/-- SHA-512. -/
def hsh (bs : List UInt8) : List UInt8 := sumN greatS bs
theorem hsh_len (bs : List UInt8) : (hsh bs).length = 64 := gen_length _ _
/-- A seed's secret number, its prefix; what is left of a sum. -/
def secN (seed : List UInt8) : Nat := clam (vb ((hsh seed).take 32))
def preB (seed : List UInt8) : List UInt8 := (hsh seed).drop 32
def lefN (bs : List UInt8) : Nat := vb (hsh bs) % LB
def encP (p : Pt E25) : List UInt8 := encN p.x.val p.y.val
theorem encP_len (p : Pt E25) : (encP p).length = 32 := encN_len _ _
theorem preB_len (seed : List UInt8) : (preB seed).length = 32 := by unfold preB; rw [List.length_drop, hsh_len]
theorem lefN_lt (bs : List UInt8) : lefN bs < LB := Nat.mod_lt _ LB_pos
def pubB (seed : List UInt8) : List UInt8 := encP (B25.mul (secN seed))
def rN9 (seed b : List UInt8) : Nat := lefN (preB seed ++ b)
def rB9 (seed b : List UInt8) : List UInt8 := encP (B25.mul (rN9 seed b))
def kN9 (seed b : List UInt8) : Nat := lefN (rB9 seed b ++ pubB seed ++ b)
def sN9 (seed b : List UInt8) : Nat := (rN9 seed b + kN9 seed b * (secN seed % LB) % LB) % LB
def sigB (seed b : List UInt8) : List UInt8 := rB9 seed b ++ gen (bf (sN9 seed b)) 32
theorem pubB_len (seed : List UInt8) : (pubB seed).length = 32 := encP_len _
theorem rB9_len (seed b : List UInt8) : (rB9 seed b).length = 32 := encP_len _
theorem sigB_len (seed b : List UInt8) : (sigB seed b).length = 64 := by unfold sigB; rw [List.length_append, rB9_len, gen_length]
/-- The point that a number tells (of bytes that tell one). -/
def ptD (n : Nat) : Pt E25 := if h : onN (decX n) (decY n) = true then ptN (decX n) (decY n) h else Pt.nought E25
def ptE (p q : Pt E25) : Bool := decide (p.x.val = q.x.val) && decide (p.y.val = q.y.val)
theorem ptE_iff {p q : Pt E25} : ptE p q = true ↔ p = q := by
  unfold ptE
  rw [Bool.and_eq_true, decide_eq_true_iff, decide_eq_true_iff]
  exact ⟨fun ⟨a, b⟩ => Pt.ext' (Fin.ext a) (Fin.ext b), fun h => by rw [h]; exact ⟨rfl, rfl⟩⟩
def smlP (p : Pt E25) : Bool := decide ((p.mul 8).x.val = 0) && decide ((p.mul 8).y.val = 1)
theorem smlP_iff {p : Pt E25} : smlP p = true ↔ p.mul 8 = Pt.nought E25 := by
  unfold smlP
  rw [Bool.and_eq_true, decide_eq_true_iff, decide_eq_true_iff]
  have e : (Pt.nought E25).x.val = 0 ∧ (Pt.nought E25).y.val = 1 := ⟨rfl, Nat.mod_eq_of_lt P25_one⟩
  constructor
  · intro ⟨a, b⟩
    exact Pt.ext' (Fin.ext (a.trans e.1.symm)) (Fin.ext (b.trans e.2.symm))
  · intro h
    rw [h]
    exact e
/-- Behind the decoding: is it a signature? -/
def endN (key b sig : List UInt8) : Nat := if ptE (B25.mul (vb (sig.drop 32))) ((ptD (vb (sig.take 32))).add ((ptD (vb key)).mul (lefN (sig.take 32 ++ key ++ b)))) = true then 0 else 10
/-- What Verify tells. -/
def verN (key b sig : List UInt8) : Nat :=
  if key.length = 32 ∧ sig.length = 64 then
    if vb (sig.drop 32) < LB then
      if decE (vb key) = 0 then
        if smlP (ptD (vb key)) = true then 7
        else if decE (vb (sig.take 32)) = 0 then endN key b sig else decE (vb (sig.take 32))
      else decE (vb key)
    else 6
  else 1
theorem dec_pt {n : Nat} (h : decE n = 0) (h2 : n / 2 ^ 255 < 2) : decX n = (ptD n).x.val ∧ decY n = (ptD n).y.val ∧ decT n = ⟨(ptD n).x.val, (ptD n).y.val, 1⟩ := by
  obtain ⟨t, a, b, o, _⟩ := dec_good h h2
  have e : ptD n = ptN (decX n) (decY n) o := by unfold ptD; rw [dif_pos o]
  have hv := pt_val a b o
  rw [e, hv.1, hv.2]
  exact ⟨rfl, rfl, t⟩
theorem W4_2 : W4 = 2 * 2 ^ 255 := by decide +kernel
theorem enc_pt (p : Pt E25) : decE (vb (encP p)) = 0 ∧ ptD (vb (encP p)) = p := by
  have hy5 : p.y.val < 2 ^ 255 := Nat.lt_trans p.y.isLt P25_half
  have hz : p.y.val + 2 ^ 255 * (p.x.val % 2) < W4 := by
    rw [W4_2]
    omega
  have hv : vb (encP p) = p.y.val + 2 ^ 255 * (p.x.val % 2) := vb_of hz
  have e1 : (p.y.val + 2 ^ 255 * (p.x.val % 2)) % 2 ^ 255 = p.y.val := by omega
  have e2 : (p.y.val + 2 ^ 255 * (p.x.val % 2)) / 2 ^ 255 = p.x.val % 2 := by omega
  have hk := on_wok p.x.isLt p.y.isLt (pt_on p)
  have hE : decE (p.y.val + 2 ^ 255 * (p.x.val % 2)) = 0 := by
    unfold decE
    rw [e1, e2, if_pos p.y.isLt, if_pos hk.1]
  have hX : decX (p.y.val + 2 ^ 255 * (p.x.val % 2)) = p.x.val := by
    unfold decX
    rw [if_pos hE, e1, e2, hk.2]
  have hY : decY (p.y.val + 2 ^ 255 * (p.x.val % 2)) = p.y.val := by
    unfold decY
    rw [if_pos hE, e1]
  rw [hv]
  refine ⟨hE, ?_⟩
  unfold ptD
  simp only [hX, hY]
  rw [dif_pos (pt_on p)]
  exact pt_self p
/-! What is signed is verified; and no other S. -/
theorem clam_facts (x : Nat) : clam x % 8 = 0 ∧ 0 < clam x ∧ clam x < 2 ^ 255 := by
  refine ⟨?_, ?_, clam_lt x⟩ <;> (unfold clam; omega)
theorem sN9_lt (seed b : List UInt8) : sN9 seed b < LB := Nat.mod_lt _ LB_pos
theorem LB_W4' : LB < W4 := by decide +kernel
theorem vb_gen9 {x : Nat} (hx : x < W4) : vb (gen (bf x) 32) = x := vb_of hx
theorem gen_vb9 {bs : List UInt8} (hl : bs.length = 32) : gen (bf (vb bs)) 32 = bs := by
  refine nth_ext (by rw [gen_length, hl]) fun k hk => ?_
  rw [gen_length] at hk
  rw [nth_gen hk, bf_nat]
  have h := vk_dig bs k 32 hk
  unfold vb
  rw [hl]
  exact h
theorem sum_left (seed b : List UInt8) : (B25.mul (rN9 seed b)).add ((B25.mul (secN seed)).mul (kN9 seed b)) = B25.mul (sN9 seed b) := by
  rw [Pt.mul_mul, ← Pt.mul_add]
  refine base_eq.2 ?_
  unfold sN9
  rw [Nat.mod_mod, ← Nat.add_mod_mod, Nat.mul_comm, ← Nat.mul_mod_mod, Nat.add_mod_mod]
/-- Of the seed's key, the text and that R, just one S is verified. -/
theorem ver_one (seed b other : List UInt8) (ho : other.length = 32) : verN (pubB seed) b (rB9 seed b ++ other) = 0 ↔ other = gen (bf (sN9 seed b)) 32 := by
  have ht : (rB9 seed b ++ other).take 32 = rB9 seed b := by rw [List.take_append_of_le_length (by rw [rB9_len]; exact Nat.le_refl _), List.take_of_length_le (by rw [rB9_len]; exact Nat.le_refl _)]
  have hd : (rB9 seed b ++ other).drop 32 = other := List.drop_left' (rB9_len seed b)
  obtain ⟨k1, k2⟩ := enc_pt (B25.mul (secN seed))
  obtain ⟨r1, r2⟩ := enc_pt (B25.mul (rN9 seed b))
  have hs : smlP (B25.mul (secN seed)) = false := Bool.eq_false_iff.2 fun h => by
    obtain ⟨a1, a2, a3⟩ := clam_facts (vb ((hsh seed).take 32))
    exact base_big a1 a2 a3 (smlP_iff.1 h)
  have hv : verN (pubB seed) b (rB9 seed b ++ other) = if vb other < LB then (if ptE (B25.mul (vb other)) (B25.mul (sN9 seed b)) = true then 0 else 10) else 6 := by
    unfold verN endN
    rw [ht, hd, if_pos ⟨pubB_len seed, by rw [List.length_append, rB9_len, ho]⟩]
    rw [show decE (vb (pubB seed)) = 0 from k1, show ptD (vb (pubB seed)) = B25.mul (secN seed) from k2, show decE (vb (rB9 seed b)) = 0 from r1, show ptD (vb (rB9 seed b)) = B25.mul (rN9 seed b) from r2, hs]
    by_cases h : vb other < LB
    · rw [if_pos h, if_pos h, if_pos rfl, if_neg (by decide), if_pos rfl, show lefN (rB9 seed b ++ pubB seed ++ b) = kN9 seed b from rfl, sum_left]
    · rw [if_neg h, if_neg h]
  rw [hv]
  constructor
  · intro h
    by_cases h1 : vb other < LB
    · rw [if_pos h1] at h
      by_cases h2 : ptE (B25.mul (vb other)) (B25.mul (sN9 seed b)) = true
      · have h3 := base_eq.1 (ptE_iff.1 h2)
        rw [Nat.mod_eq_of_lt h1, Nat.mod_eq_of_lt (sN9_lt seed b)] at h3
        rw [← h3, gen_vb9 ho]
      · rw [if_neg h2] at h
        exact absurd h (by decide)
    · rw [if_neg h1] at h
      exact absurd h (by decide)
  · intro h
    rw [h, vb_gen9 (Nat.lt_trans (sN9_lt seed b) LB_W4'), if_pos (sN9_lt seed b), if_pos (ptE_iff.2 rfl)]
theorem ver_back (seed b : List UInt8) : verN (pubB seed) b (sigB seed b) = 0 := (ver_one seed b _ (gen_length _ _)).2 rfl
theorem ver_short (key b sig : List UInt8) (h : ¬ (key.length = 32 ∧ sig.length = 64)) : verN key b sig = 1 := by unfold verN; rw [if_neg h]
end Go.Proofs.YtgaofocjnifjdaaDoor
