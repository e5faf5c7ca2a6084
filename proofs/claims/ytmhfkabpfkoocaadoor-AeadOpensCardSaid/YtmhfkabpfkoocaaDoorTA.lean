/-
  Layer 12's own, Parts.own, Parts.same. Written by tools/gen_ae4.py. By an AI agent. Layer 12's Parts.same. Written by tools/gen_ae4.py. By an AI agent.
-/
import Derived.Test.YtmhfkabpfkoocaaDoorPo1
import Derived.Test.YtmhfkabpfkoocaaDoorBox
import Derived.Test.YtmhfkabpfkoocaaDoorSeq
import Derived.Test.YtmhfkabpfkoocaaDoorCv
namespace Go.Proofs.YtmhfkabpfkoocaaDoor
open Go Go.RowKit
set_option maxRecDepth 20000
theorem own12_any {A : Option Addr} {B c : Nat} {bs : List UInt8} (w : World) (hr : Rd w B A c bs) (hB : B ≤ w.heap.size) (hl : bs.length ≤ 140737488355328) :
    Calls Tryd.prog 14 #[.slice A bs.length c] w fun e w' => ∃ A' c', e = .returned (.slice A' bs.length c') ∧ Own w' w.heap.size 5 A' c' bs ∧ Below w.heap.size w w' := by
  obtain ⟨i0, hi, hz0, hz1, hz2⟩ := info_parts infoByte
  have h2 : Rd (w.alloc (.cells #[] 5)) B A c bs := hr.keep ((Below.refl B w).alloc hB _)
  have h3 : Own (w.alloc (.cells #[] 5)) w.heap.size 5 (some ⟨w.heap.size, 0, none⟩) 0 [] := World.ownsRow_made w #[] 0 (Nat.le_refl _) (by decide) (by decide)
  have h4 : Below w.heap.size w (w.alloc (.cells #[] 5)) := (Below.refl _ w).alloc (Nat.le_refl _) _
  go_enter Tryd.func14, Tryd.ntmps14
  go_wp2_with (at_builtin; refine wpList_app _ rfl (.tmp 3) (.tmp 4) _ rfl w.heap.size 5 i0 _ Tryd.underlying22 hi hz0 hz1 hz2 rfl (xs := []) rfl h3 rfl h2 (by simpa using hl) (by simp) ?_; intro A1 c1 v1 ho hb)
  replace ho : Own v1 w.heap.size 5 A1 c1 bs := ho
  go_ret
  exact ⟨A1, c1, rfl, ho, h4.trans hb⟩
/-- A struct of four slices. -/
abbrev partsV (A0 : Option Addr) (n0 c0 : Nat) (A1 : Option Addr) (n1 c1 : Nat) (A2 : Option Addr) (n2 c2 : Nat) (A3 : Option Addr) (n3 c3 : Nat) : Array Value := #[.slice A0 n0 c0, .slice A1 n1 c1, .slice A2 n2 c2, .slice A3 n3 c3]
def partsF (A0 : Option Addr) (n0 c0 : Nat) (A1 : Option Addr) (n1 c1 : Nat) (A2 : Option Addr) (n2 c2 : Nat) (A3 : Option Addr) (n3 c3 : Nat) (k : Nat) : Value := ([.slice A0 n0 c0, .slice A1 n1 c1, .slice A2 n2 c2, .slice A3 n3 c3] : List Value).getD k undef
/-- A row of one's own that reads so. -/
def ownR (B : Nat) (S : List UInt8) (v : Value) (w : World) : Prop := ∃ A c, v = .slice A S.length c ∧ Own w B 5 A c S
theorem ownR_keep {B : Nat} {S : List UInt8} (v : Value) (w w' : World) (h : ownR B S v w) (hb : Below w.heap.size w w') : ownR B S v w' := by
  obtain ⟨A, c, e, o⟩ := h
  exact ⟨A, c, e, o.keep hb⟩
def partsR (B : Nat) (key nonce other b : List UInt8) (v : Value) (w : World) : Prop := ∃ B0 d0 B1 d1 B2 d2 B3 d3, v = .agg (partsV B0 key.length d0 B1 nonce.length d1 B2 other.length d2 B3 b.length d3) ∧ Own w B 5 B0 d0 key ∧ Own w B 5 B1 d1 nonce ∧ Own w B 5 B2 d2 other ∧ Own w B 5 B3 d3 b
theorem partsR_keep {B : Nat} {key nonce other b : List UInt8} (v : Value) (w w' : World) (h : partsR B key nonce other b v w) (hb : Below w.heap.size w w') : partsR B key nonce other b v w' := by
  obtain ⟨B0, d0, B1, d1, B2, d2, B3, d3, e, o0, o1, o2, o3⟩ := h
  exact ⟨B0, d0, B1, d1, B2, d2, B3, d3, e, o0.keep hb, o1.keep hb, o2.keep hb, o3.keep hb⟩
theorem own_only {w w' : World} {B c g : Nat} {e : TypeId} {A : Option Addr} {bs : List UInt8} (h : Own w B e A c bs) (ho : Only g w w') (hg : g < B) : Rd w' w'.heap.size A c bs := by
  rcases Nat.eq_zero_or_pos bs.length with h0 | h0
  · have hr := h.rd
    have e0 : bs = [] := List.length_eq_zero_iff.1 h0
    exact ⟨hr.cap, hr.nil, fun hn => absurd e0 hn⟩
  · obtain ⟨g', rfl⟩ := p_at0 (p_toF h) h0
    have hge := OwnF.ge (p_toF h)
    exact (p_ofF (OwnF.only (p_toF h) ho (by omega)) rfl fun _ _ => rfl : Own w' B e (some ⟨g', 0, none⟩) c bs).rd
section
set_option maxHeartbeats 6400000 in
theorem partsOwn {A0 A1 A2 A3 : Option Addr} {c0 c1 c2 c3 : Nat} {key nonce other b : List UInt8} (hl : key.length ≤ 140737488355328 ∧ nonce.length ≤ 140737488355328 ∧ other.length ≤ 140737488355328 ∧ b.length ≤ 140737488355328) (w : World) (r0 : Rd w w.heap.size A0 c0 key) (r1 : Rd w w.heap.size A1 c1 nonce) (r2 : Rd w w.heap.size A2 c2 other) (r3 : Rd w w.heap.size A3 c3 b) :
    Calls Tryd.prog 8 #[.agg (partsV A0 key.length c0 A1 nonce.length c1 A2 other.length c2 A3 b.length c3)] w fun e w' => ∃ B0 d0 B1 d1 B2 d2 B3 d3, e = .returned (.agg (partsV B0 key.length d0 B1 nonce.length d1 B2 other.length d2 B3 b.length d3)) ∧ Rd w' w'.heap.size B0 d0 key ∧ Rd w' w'.heap.size B1 d1 nonce ∧ Rd w' w'.heap.size B2 d2 other ∧ Rd w' w'.heap.size B3 d3 b ∧ Below w.heap.size w w' := by
  have HL := Lib.hid hl
  clear hl
  have ob := OwnF.lit (w := w) (B := w.heap.size) 24 (Nat.le_refl _) (partsV A0 key.length c0 A1 nonce.length c1 A2 other.length c2 A3 b.length c3) 4 (partsF A0 key.length c0 A1 nonce.length c1 A2 other.length c2 A3 b.length c3) (by decide) (by rfl)
  have s1 : (w.alloc (.cells (partsV A0 key.length c0 A1 nonce.length c1 A2 other.length c2 A3 b.length c3) 24)).heap.size = w.heap.size + 1 := by simp
  have oz := OwnF.lit (w := w.alloc (.cells (partsV A0 key.length c0 A1 nonce.length c1 A2 other.length c2 A3 b.length c3) 24)) (B := w.heap.size) 24 (by omega) #[.slice none 0 0, .slice none 0 0, .slice none 0 0, .slice none 0 0] 4 (fun _ => .slice none 0 0) (by decide) (by rfl)
  have h1 := (Below.refl w.heap.size w).alloc (Nat.le_refl _) (.cells (partsV A0 key.length c0 A1 nonce.length c1 A2 other.length c2 A3 b.length c3) 24)
  have h2 := (Below.refl (w.alloc (.cells (partsV A0 key.length c0 A1 nonce.length c1 A2 other.length c2 A3 b.length c3) 24)).heap.size (w.alloc (.cells (partsV A0 key.length c0 A1 nonce.length c1 A2 other.length c2 A3 b.length c3) 24))).alloc (Nat.le_refl _) (.cells #[.slice none 0 0, .slice none 0 0, .slice none 0 0, .slice none 0 0] 24)
  replace ob := OwnF.keep ob h2
  have hc := h1.trans (h2.mono (by omega))
  rw [s1] at oz
  have s2 : ((w.alloc (.cells (partsV A0 key.length c0 A1 nonce.length c1 A2 other.length c2 A3 b.length c3) 24)).alloc (.cells #[.slice none 0 0, .slice none 0 0, .slice none 0 0, .slice none 0 0] 24)).heap.size = w.heap.size + 2 := by simp
  clear h1 h2 s1
  go_enter Tryd.func8, Tryd.ntmps8
  go_upto_region 1 with fail
  obtain ⟨v1, e1⟩ : ∃ v, v = (w.alloc (.cells (partsV A0 key.length c0 A1 nonce.length c1 A2 other.length c2 A3 b.length c3) 24)).alloc (.cells #[.slice none 0 0, .slice none 0 0, .slice none 0 0, .slice none 0 0] 24) := ⟨_, rfl⟩
  obtain ⟨gk, f1⟩ : ∃ g, g = w.heap.size := ⟨_, rfl⟩
  obtain ⟨gz, f2⟩ : ∃ g, g = w.heap.size + 1 := ⟨_, rfl⟩
  rw [← e1] at ob oz hc s2 ⊢
  replace ob : OwnF v1 w.heap.size 24 (some ⟨gk, 0, none⟩) 4 4 (partsF A0 key.length c0 A1 nonce.length c1 A2 other.length c2 A3 b.length c3) := by rw [f1]; exact ob
  replace oz : OwnF v1 w.heap.size 24 (some ⟨gz, 0, none⟩) 4 4 (fun _ => .slice none 0 0) := by rw [f2]; exact oz
  rw [← f2, ← f1]
  have hgz := Lib.hid (show gz < v1.heap.size by omega)
  clear e1 f1 f2 s2
  replace r0 := (r0.keep hc).mono hc.size
  replace r1 := (r1.keep hc).mono hc.size
  replace r2 := (r2.keep hc).mono hc.size
  replace r3 := (r3.keep hc).mono hc.size
  have HB := Lib.hid (fun wz (hz : Below v1.heap.size v1 wz) => show wz.cell? ⟨gk, 0, none⟩ = some (.slice A0 key.length c0) ∧ wz.cell? ⟨gk, 1, none⟩ = some (.slice A1 nonce.length c1) ∧ wz.cell? ⟨gk, 2, none⟩ = some (.slice A2 other.length c2) ∧ wz.cell? ⟨gk, 3, none⟩ = some (.slice A3 b.length c3) from
    ⟨OwnF.cell (OwnF.keep ob hz) (k := 0) (by decide), OwnF.cell (OwnF.keep ob hz) (k := 1) (by decide), OwnF.cell (OwnF.keep ob hz) (k := 2) (by decide), OwnF.cell (OwnF.keep ob hz) (k := 3) (by decide)⟩)
  refine wp_region_inv 13 [3, 4, 5, 6, 7, 8, 9, 10, 11, 12, 13, 14, 15] [.val (.pointer (some ⟨gk, 0, none⟩)), .val (.slice A0 key.length c0), .sat (ownR v1.heap.size key) ownR_keep, .val (.pointer (some ⟨gk, 1, none⟩)), .val (.slice A1 nonce.length c1), .sat (ownR v1.heap.size nonce) ownR_keep, .val (.pointer (some ⟨gk, 2, none⟩)), .val (.slice A2 other.length c2), .sat (ownR v1.heap.size other) ownR_keep, .val (.pointer (some ⟨gk, 3, none⟩)), .val (.slice A3 b.length c3), .sat (ownR v1.heap.size b) ownR_keep, .sat (partsR v1.heap.size key nonce other b) partsR_keep] (fun wz => Below v1.heap.size v1 wz) (by kernel_rfl) (by kernel_rfl) (fun wz wz' hz hb => hz.trans (hb.mono hz.size)) ((Below.refl _ _).drew) (fun u => by simp only [puts, List.foldl_cons, List.foldl_nil]; go_simp; exact rfl) ?_ ?_
  · simp only [List.take_succ_cons, List.take_zero]
    refine Obs.cons (fun u w hS hd => ?_) ?_
    · exact Gv.run (.pointer (some ⟨gk, 0, none⟩)) rfl (by go_simp) rfl
    refine Obs.cons (fun u w hS hd => ?_) ?_
    · have d3 : u 3 = .pointer (some ⟨gk, 0, none⟩) := dep hd 0 rfl
      rw [d3]
      obtain ⟨k0, k1, k2, k3⟩ := HB.out w hS
      exact Gv.run (.slice A0 key.length c0) rfl (by go_simp) rfl
    refine Obs.cons (fun u w hS hd => ?_) ?_
    · have d4 : u 4 = .slice A0 key.length c0 := dep hd 1 rfl
      rw [d4]
      refine Gv.call 14 #[.slice A0 key.length c0] rfl (by go_simp) ((own12_any w ((r0.keep hS).mono hS.size) (Nat.le_refl _) HL.out.1).mono ?_)
      rintro e w' ⟨A, c, rfl, o, hb⟩
      exact ⟨_, rfl, ⟨A, c, rfl, o.mono hS.size⟩, hb⟩
    refine Obs.cons (fun u w hS hd => ?_) ?_
    · exact Gv.run (.pointer (some ⟨gk, 1, none⟩)) rfl (by go_simp) rfl
    refine Obs.cons (fun u w hS hd => ?_) ?_
    · have d6 : u 6 = .pointer (some ⟨gk, 1, none⟩) := dep hd 3 rfl
      rw [d6]
      obtain ⟨k0, k1, k2, k3⟩ := HB.out w hS
      exact Gv.run (.slice A1 nonce.length c1) rfl (by go_simp) rfl
    refine Obs.cons (fun u w hS hd => ?_) ?_
    · have d7 : u 7 = .slice A1 nonce.length c1 := dep hd 4 rfl
      rw [d7]
      refine Gv.call 14 #[.slice A1 nonce.length c1] rfl (by go_simp) ((own12_any w ((r1.keep hS).mono hS.size) (Nat.le_refl _) HL.out.2.1).mono ?_)
      rintro e w' ⟨A, c, rfl, o, hb⟩
      exact ⟨_, rfl, ⟨A, c, rfl, o.mono hS.size⟩, hb⟩
    refine Obs.cons (fun u w hS hd => ?_) ?_
    · exact Gv.run (.pointer (some ⟨gk, 2, none⟩)) rfl (by go_simp) rfl
    refine Obs.cons (fun u w hS hd => ?_) ?_
    · have d9 : u 9 = .pointer (some ⟨gk, 2, none⟩) := dep hd 6 rfl
      rw [d9]
      obtain ⟨k0, k1, k2, k3⟩ := HB.out w hS
      exact Gv.run (.slice A2 other.length c2) rfl (by go_simp) rfl
    refine Obs.cons (fun u w hS hd => ?_) ?_
    · have d10 : u 10 = .slice A2 other.length c2 := dep hd 7 rfl
      rw [d10]
      refine Gv.call 14 #[.slice A2 other.length c2] rfl (by go_simp) ((own12_any w ((r2.keep hS).mono hS.size) (Nat.le_refl _) HL.out.2.2.1).mono ?_)
      rintro e w' ⟨A, c, rfl, o, hb⟩
      exact ⟨_, rfl, ⟨A, c, rfl, o.mono hS.size⟩, hb⟩
    refine Obs.cons (fun u w hS hd => ?_) ?_
    · exact Gv.run (.pointer (some ⟨gk, 3, none⟩)) rfl (by go_simp) rfl
    refine Obs.cons (fun u w hS hd => ?_) ?_
    · have d12 : u 12 = .pointer (some ⟨gk, 3, none⟩) := dep hd 9 rfl
      rw [d12]
      obtain ⟨k0, k1, k2, k3⟩ := HB.out w hS
      exact Gv.run (.slice A3 b.length c3) rfl (by go_simp) rfl
    refine Obs.cons (fun u w hS hd => ?_) ?_
    · have d13 : u 13 = .slice A3 b.length c3 := dep hd 10 rfl
      rw [d13]
      refine Gv.call 14 #[.slice A3 b.length c3] rfl (by go_simp) ((own12_any w ((r3.keep hS).mono hS.size) (Nat.le_refl _) HL.out.2.2.2).mono ?_)
      rintro e w' ⟨A, c, rfl, o, hb⟩
      exact ⟨_, rfl, ⟨A, c, rfl, o.mono hS.size⟩, hb⟩
    refine Obs.cons (fun u w hS hd => ?_) ?_
    · obtain ⟨B0, d0, e5, o0⟩ : (Know.sat (ownR v1.heap.size key) ownR_keep).ok (u 5) w := dep hd 2 rfl
      obtain ⟨B1, d1, e8, o1⟩ : (Know.sat (ownR v1.heap.size nonce) ownR_keep).ok (u 8) w := dep hd 5 rfl
      obtain ⟨B2, d2, e11, o2⟩ : (Know.sat (ownR v1.heap.size other) ownR_keep).ok (u 11) w := dep hd 8 rfl
      obtain ⟨B3, d3, e14, o3⟩ : (Know.sat (ownR v1.heap.size b) ownR_keep).ok (u 14) w := dep hd 11 rfl
      rw [e5, e8, e11, e14]
      exact Gv.run (.agg (partsV B0 key.length d0 B1 nonce.length d1 B2 other.length d2 B3 b.length d3)) rfl (by go_simp) ⟨_, _, _, _, _, _, _, _, rfl, o0, o1, o2, o3⟩
    exact Obs.nil
  intro u v2 hS hd
  obtain ⟨B0, d0, B1, d1, B2, d2, B3, d3, e15, o0, o1, o2, o3⟩ : (Know.sat (partsR v1.heap.size key nonce other b) partsR_keep).ok (u 15) v2 := hd 12 (by decide)
  rw [e15]
  replace oz := OwnF.keep oz hS
  replace hc := hc.trans (hS.mono hc.size)
  have ho : Only gz v2 ((((v2.setCell ⟨gz, 0, none⟩ (.slice B0 key.length d0)).setCell ⟨gz, 1, none⟩ (.slice B1 nonce.length d1)).setCell ⟨gz, 2, none⟩ (.slice B2 other.length d2)).setCell ⟨gz, 3, none⟩ (.slice B3 b.length d3)) :=
    (((Only.setCell v2 ⟨gz, 0, none⟩ _).trans (Only.setCell _ ⟨gz, 1, none⟩ _)).trans (Only.setCell _ ⟨gz, 2, none⟩ _)).trans (Only.setCell _ ⟨gz, 3, none⟩ _)
  have z0 : v2.cell? ⟨gz, 0, none⟩ = some (.slice none 0 0) := OwnF.cell oz (k := 0) (by decide)
  have z1 : v2.cell? ⟨gz, 1, none⟩ = some (.slice none 0 0) := OwnF.cell oz (k := 1) (by decide)
  have z2 : v2.cell? ⟨gz, 2, none⟩ = some (.slice none 0 0) := OwnF.cell oz (k := 2) (by decide)
  have z3 : v2.cell? ⟨gz, 3, none⟩ = some (.slice none 0 0) := OwnF.cell oz (k := 3) (by decide)
  have f0 := OwnF.free oz 0
  have f1 := OwnF.free oz 1
  have f2 := OwnF.free oz 2
  have f3 := OwnF.free oz 3
  obtain ⟨wz, ez, p0, p1, p2, p3, hbz⟩ := set4 oz (.slice B0 key.length d0) (.slice B1 nonce.length d1) (.slice B2 other.length d2) (.slice B3 b.length d3)
  rw [← ez] at ho
  have q0 := own_only o0 ho hgz.out
  have q1 := own_only o1 ho hgz.out
  have q2 := own_only o2 ho hgz.out
  have q3 := own_only o3 ho hgz.out
  clear hd e15 o0 o1 o2 o3 HB ob oz ho r0 r1 r2 r3
  simp only [List.drop_succ_cons, List.drop_zero]
  go_wp2_with fail
  rw [← ez]
  refine bodyPost_ret (v := .agg (partsV B0 key.length d0 B1 nonce.length d1 B2 other.length d2 B3 b.length d3)) (by simp [results, Tryd.results8, go_sem, p0, p1, p2, p3]) rfl ⟨_, _, _, _, _, _, _, _, rfl, q0, q1, q2, q3, hc.trans hbz⟩
end
end Go.Proofs.YtmhfkabpfkoocaaDoor
namespace Go.Proofs.YtmhfkabpfkoocaaDoor
open Go Go.RowKit
set_option maxRecDepth 20000
section
set_option maxHeartbeats 6400000 in
theorem partsSame {A0 A1 A2 A3 : Option Addr} {c0 c1 c2 c3 : Nat} {B0 B1 B2 B3 : Option Addr} {d0 d1 d2 d3 : Nat} {key nonce other b : List UInt8} (w : World) (r0 : Rd w w.heap.size A0 c0 key) (r1 : Rd w w.heap.size A1 c1 nonce) (r2 : Rd w w.heap.size A2 c2 other) (r3 : Rd w w.heap.size A3 c3 b) (q0 : Rd w w.heap.size B0 d0 key) (q1 : Rd w w.heap.size B1 d1 nonce) (q2 : Rd w w.heap.size B2 d2 other) (q3 : Rd w w.heap.size B3 d3 b) :
    Calls Tryd.prog 11 #[.agg (partsV B0 key.length d0 B1 nonce.length d1 B2 other.length d2 B3 b.length d3), .agg (partsV A0 key.length c0 A1 nonce.length c1 A2 other.length c2 A3 b.length c3)] w fun e w' => e = .returned (.bool true) ∧ Below w.heap.size w w' := by
  have oq := OwnF.lit (w := w) (B := w.heap.size) 24 (Nat.le_refl _) (partsV B0 key.length d0 B1 nonce.length d1 B2 other.length d2 B3 b.length d3) 4 (partsF B0 key.length d0 B1 nonce.length d1 B2 other.length d2 B3 b.length d3) (by decide) (by rfl)
  have s1 : (w.alloc (.cells (partsV B0 key.length d0 B1 nonce.length d1 B2 other.length d2 B3 b.length d3) 24)).heap.size = w.heap.size + 1 := by simp
  have op := OwnF.lit (w := w.alloc (.cells (partsV B0 key.length d0 B1 nonce.length d1 B2 other.length d2 B3 b.length d3) 24)) (B := w.heap.size) 24 (by omega) (partsV A0 key.length c0 A1 nonce.length c1 A2 other.length c2 A3 b.length c3) 4 (partsF A0 key.length c0 A1 nonce.length c1 A2 other.length c2 A3 b.length c3) (by decide) (by rfl)
  have h1 := (Below.refl w.heap.size w).alloc (Nat.le_refl _) (.cells (partsV B0 key.length d0 B1 nonce.length d1 B2 other.length d2 B3 b.length d3) 24)
  have h2 := (Below.refl (w.alloc (.cells (partsV B0 key.length d0 B1 nonce.length d1 B2 other.length d2 B3 b.length d3) 24)).heap.size (w.alloc (.cells (partsV B0 key.length d0 B1 nonce.length d1 B2 other.length d2 B3 b.length d3) 24))).alloc (Nat.le_refl _) (.cells (partsV A0 key.length c0 A1 nonce.length c1 A2 other.length c2 A3 b.length c3) 24)
  replace oq := OwnF.keep oq h2
  have hc := h1.trans (h2.mono (by omega))
  rw [s1] at op
  clear h1 h2 s1
  go_enter Tryd.func11, Tryd.ntmps11
  go_upto_region 1 with fail
  obtain ⟨v1, e1⟩ : ∃ v, v = (w.alloc (.cells (partsV B0 key.length d0 B1 nonce.length d1 B2 other.length d2 B3 b.length d3) 24)).alloc (.cells (partsV A0 key.length c0 A1 nonce.length c1 A2 other.length c2 A3 b.length c3) 24) := ⟨_, rfl⟩
  obtain ⟨gq, f1⟩ : ∃ g, g = w.heap.size := ⟨_, rfl⟩
  obtain ⟨gp, f2⟩ : ∃ g, g = w.heap.size + 1 := ⟨_, rfl⟩
  rw [← e1] at oq op hc ⊢
  replace oq : OwnF v1 w.heap.size 24 (some ⟨gq, 0, none⟩) 4 4 (partsF B0 key.length d0 B1 nonce.length d1 B2 other.length d2 B3 b.length d3) := by rw [f1]; exact oq
  replace op : OwnF v1 w.heap.size 24 (some ⟨gp, 0, none⟩) 4 4 (partsF A0 key.length c0 A1 nonce.length c1 A2 other.length c2 A3 b.length c3) := by rw [f2]; exact op
  rw [← f2, ← f1]
  clear e1 f1 f2
  replace r0 := (r0.keep hc).mono hc.size
  replace r1 := (r1.keep hc).mono hc.size
  replace r2 := (r2.keep hc).mono hc.size
  replace r3 := (r3.keep hc).mono hc.size
  replace q0 := (q0.keep hc).mono hc.size
  replace q1 := (q1.keep hc).mono hc.size
  replace q2 := (q2.keep hc).mono hc.size
  replace q3 := (q3.keep hc).mono hc.size
  have HQ := Lib.hid (fun wz (hz : Below v1.heap.size v1 wz) => show wz.cell? ⟨gq, 0, none⟩ = some (.slice B0 key.length d0) ∧ wz.cell? ⟨gq, 1, none⟩ = some (.slice B1 nonce.length d1) ∧ wz.cell? ⟨gq, 2, none⟩ = some (.slice B2 other.length d2) ∧ wz.cell? ⟨gq, 3, none⟩ = some (.slice B3 b.length d3) from
    ⟨OwnF.cell (OwnF.keep oq hz) (k := 0) (by decide), OwnF.cell (OwnF.keep oq hz) (k := 1) (by decide), OwnF.cell (OwnF.keep oq hz) (k := 2) (by decide), OwnF.cell (OwnF.keep oq hz) (k := 3) (by decide)⟩)
  have HP := Lib.hid (fun wz (hz : Below v1.heap.size v1 wz) => show wz.cell? ⟨gp, 0, none⟩ = some (.slice A0 key.length c0) ∧ wz.cell? ⟨gp, 1, none⟩ = some (.slice A1 nonce.length c1) ∧ wz.cell? ⟨gp, 2, none⟩ = some (.slice A2 other.length c2) ∧ wz.cell? ⟨gp, 3, none⟩ = some (.slice A3 b.length c3) from
    ⟨OwnF.cell (OwnF.keep op hz) (k := 0) (by decide), OwnF.cell (OwnF.keep op hz) (k := 1) (by decide), OwnF.cell (OwnF.keep op hz) (k := 2) (by decide), OwnF.cell (OwnF.keep op hz) (k := 3) (by decide)⟩)
  clear oq op
  refine wp_region_obs 33 [5, 6, 7, 8, 9, 10, 11, 12, 13, 14, 15, 16, 17, 18, 19, 20, 21, 22, 23, 24, 25, 26, 27, 28, 29, 30, 31, 32, 33, 34, 35, 36, 37] [.val (.pointer (some ⟨gq, 0, none⟩)), .byt key, .val (.string ⟨key.toArray⟩), .val (.pointer (some ⟨gp, 0, none⟩)), .byt key, .val (.string ⟨key.toArray⟩), .val (.bool true), .val (.bool true), .val (.pointer (some ⟨gq, 1, none⟩)), .byt nonce, .val (.string ⟨nonce.toArray⟩), .val (.pointer (some ⟨gp, 1, none⟩)), .byt nonce, .val (.string ⟨nonce.toArray⟩), .val (.bool true), .val (.bool true), .val (.bool true), .val (.pointer (some ⟨gq, 2, none⟩)), .byt other, .val (.string ⟨other.toArray⟩), .val (.pointer (some ⟨gp, 2, none⟩)), .byt other, .val (.string ⟨other.toArray⟩), .val (.bool true), .val (.bool true), .val (.bool true), .val (.pointer (some ⟨gq, 3, none⟩)), .byt b, .val (.string ⟨b.toArray⟩), .val (.pointer (some ⟨gp, 3, none⟩)), .byt b, .val (.string ⟨b.toArray⟩), .val (.bool true)] (fun wz => Below v1.heap.size v1 wz) (by kernel_rfl) (fun wz wz' hz hb => hz.trans (hb.mono hz.size)) (Below.refl _ _) (fun u => by simp only [puts, List.foldl_cons, List.foldl_nil]; go_simp; exact rfl) ?_ ?_
  · simp only [List.take_succ_cons, List.take_zero]
    refine ObsS.cons (fun u w hS hd => ?_) ?_
    · exact Gv.run (.pointer (some ⟨gq, 0, none⟩)) rfl (by go_simp) rfl
    refine ObsS.cons (fun u w hS hd => ?_) ?_
    · have d5 : u 5 = .pointer (some ⟨gq, 0, none⟩) := hd 0 (by decide)
      rw [d5]
      obtain ⟨k0, k1, k2, k3⟩ := HQ.out w hS
      exact Gv.run (.slice B0 key.length d0) rfl (by go_simp) ⟨_, _, rfl, (q0.keep hS).mono hS.size⟩
    refine ObsS.cons (fun u w hS hd => ?_) ?_
    · obtain ⟨A6, c6, d6, g6⟩ : (Know.byt key).ok (u 6) w := hd 1 (by decide)
      rw [d6]
      exact Gv.run (.string ⟨key.toArray⟩) rfl (run_conv rfl rfl (run_str w 22 5 Tryd.underlying22 Tryd.underlying5 (dst := 9) Tryd.underlying9 g6)) rfl
    refine ObsS.cons (fun u w hS hd => ?_) ?_
    · exact Gv.run (.pointer (some ⟨gp, 0, none⟩)) rfl (by go_simp) rfl
    refine ObsS.cons (fun u w hS hd => ?_) ?_
    · have d8 : u 8 = .pointer (some ⟨gp, 0, none⟩) := hd 3 (by decide)
      rw [d8]
      obtain ⟨k0, k1, k2, k3⟩ := HP.out w hS
      exact Gv.run (.slice A0 key.length c0) rfl (by go_simp) ⟨_, _, rfl, (r0.keep hS).mono hS.size⟩
    refine ObsS.cons (fun u w hS hd => ?_) ?_
    · obtain ⟨A9, c9, d9, g9⟩ : (Know.byt key).ok (u 9) w := hd 4 (by decide)
      rw [d9]
      exact Gv.run (.string ⟨key.toArray⟩) rfl (run_conv rfl rfl (run_str w 22 5 Tryd.underlying22 Tryd.underlying5 (dst := 9) Tryd.underlying9 g9)) rfl
    refine ObsS.cons (fun u w hS hd => ?_) ?_
    · have d7 : u 7 = .string ⟨key.toArray⟩ := hd 2 (by decide)
      rw [d7]
      have d10 : u 10 = .string ⟨key.toArray⟩ := hd 5 (by decide)
      rw [d10]
      exact Gv.run (.bool true) rfl (by go_simp) rfl
    refine ObsS.cons (fun u w hS hd => ?_) ?_
    · have d11 : u 11 = .bool true := hd 6 (by decide)
      rw [d11]
      exact Gv.run (.bool true) rfl (by go_simp) rfl
    refine ObsS.cons (fun u w hS hd => ?_) ?_
    · have d12 : u 12 = .bool true := hd 7 (by decide)
      rw [d12]
      exact Gv.run (.pointer (some ⟨gq, 1, none⟩)) (by rfl) (by go_simp) rfl
    refine ObsS.cons (fun u w hS hd => ?_) ?_
    · have d12 : u 12 = .bool true := hd 7 (by decide)
      rw [d12]
      have d13 : u 13 = .pointer (some ⟨gq, 1, none⟩) := hd 8 (by decide)
      rw [d13]
      obtain ⟨k0, k1, k2, k3⟩ := HQ.out w hS
      exact Gv.run (.slice B1 nonce.length d1) (by rfl) (by go_simp) ⟨_, _, rfl, (q1.keep hS).mono hS.size⟩
    refine ObsS.cons (fun u w hS hd => ?_) ?_
    · have d12 : u 12 = .bool true := hd 7 (by decide)
      rw [d12]
      obtain ⟨A14, c14, d14, g14⟩ : (Know.byt nonce).ok (u 14) w := hd 9 (by decide)
      rw [d14]
      exact Gv.run (.string ⟨nonce.toArray⟩) rfl (run_conv rfl rfl (run_str w 22 5 Tryd.underlying22 Tryd.underlying5 (dst := 9) Tryd.underlying9 g14)) rfl
    refine ObsS.cons (fun u w hS hd => ?_) ?_
    · have d12 : u 12 = .bool true := hd 7 (by decide)
      rw [d12]
      exact Gv.run (.pointer (some ⟨gp, 1, none⟩)) (by rfl) (by go_simp) rfl
    refine ObsS.cons (fun u w hS hd => ?_) ?_
    · have d12 : u 12 = .bool true := hd 7 (by decide)
      rw [d12]
      have d16 : u 16 = .pointer (some ⟨gp, 1, none⟩) := hd 11 (by decide)
      rw [d16]
      obtain ⟨k0, k1, k2, k3⟩ := HP.out w hS
      exact Gv.run (.slice A1 nonce.length c1) (by rfl) (by go_simp) ⟨_, _, rfl, (r1.keep hS).mono hS.size⟩
    refine ObsS.cons (fun u w hS hd => ?_) ?_
    · have d12 : u 12 = .bool true := hd 7 (by decide)
      rw [d12]
      obtain ⟨A17, c17, d17, g17⟩ : (Know.byt nonce).ok (u 17) w := hd 12 (by decide)
      rw [d17]
      exact Gv.run (.string ⟨nonce.toArray⟩) rfl (run_conv rfl rfl (run_str w 22 5 Tryd.underlying22 Tryd.underlying5 (dst := 9) Tryd.underlying9 g17)) rfl
    refine ObsS.cons (fun u w hS hd => ?_) ?_
    · have d12 : u 12 = .bool true := hd 7 (by decide)
      rw [d12]
      have d15 : u 15 = .string ⟨nonce.toArray⟩ := hd 10 (by decide)
      rw [d15]
      have d18 : u 18 = .string ⟨nonce.toArray⟩ := hd 13 (by decide)
      rw [d18]
      exact Gv.run (.bool true) rfl (by go_simp) rfl
    refine ObsS.cons (fun u w hS hd => ?_) ?_
    · have d12 : u 12 = .bool true := hd 7 (by decide)
      rw [d12]
      have d19 : u 19 = .bool true := hd 14 (by decide)
      rw [d19]
      exact Gv.run (.bool true) rfl (by go_simp) rfl
    refine ObsS.cons (fun u w hS hd => ?_) ?_
    · have d20 : u 20 = .bool true := hd 15 (by decide)
      rw [d20]
      exact Gv.run (.bool true) rfl (by go_simp) rfl
    refine ObsS.cons (fun u w hS hd => ?_) ?_
    · have d21 : u 21 = .bool true := hd 16 (by decide)
      rw [d21]
      exact Gv.run (.pointer (some ⟨gq, 2, none⟩)) (by rfl) (by go_simp) rfl
    refine ObsS.cons (fun u w hS hd => ?_) ?_
    · have d21 : u 21 = .bool true := hd 16 (by decide)
      rw [d21]
      have d22 : u 22 = .pointer (some ⟨gq, 2, none⟩) := hd 17 (by decide)
      rw [d22]
      obtain ⟨k0, k1, k2, k3⟩ := HQ.out w hS
      exact Gv.run (.slice B2 other.length d2) (by rfl) (by go_simp) ⟨_, _, rfl, (q2.keep hS).mono hS.size⟩
    refine ObsS.cons (fun u w hS hd => ?_) ?_
    · have d21 : u 21 = .bool true := hd 16 (by decide)
      rw [d21]
      obtain ⟨A23, c23, d23, g23⟩ : (Know.byt other).ok (u 23) w := hd 18 (by decide)
      rw [d23]
      exact Gv.run (.string ⟨other.toArray⟩) rfl (run_conv rfl rfl (run_str w 22 5 Tryd.underlying22 Tryd.underlying5 (dst := 9) Tryd.underlying9 g23)) rfl
    refine ObsS.cons (fun u w hS hd => ?_) ?_
    · have d21 : u 21 = .bool true := hd 16 (by decide)
      rw [d21]
      exact Gv.run (.pointer (some ⟨gp, 2, none⟩)) (by rfl) (by go_simp) rfl
    refine ObsS.cons (fun u w hS hd => ?_) ?_
    · have d21 : u 21 = .bool true := hd 16 (by decide)
      rw [d21]
      have d25 : u 25 = .pointer (some ⟨gp, 2, none⟩) := hd 20 (by decide)
      rw [d25]
      obtain ⟨k0, k1, k2, k3⟩ := HP.out w hS
      exact Gv.run (.slice A2 other.length c2) (by rfl) (by go_simp) ⟨_, _, rfl, (r2.keep hS).mono hS.size⟩
    refine ObsS.cons (fun u w hS hd => ?_) ?_
    · have d21 : u 21 = .bool true := hd 16 (by decide)
      rw [d21]
      obtain ⟨A26, c26, d26, g26⟩ : (Know.byt other).ok (u 26) w := hd 21 (by decide)
      rw [d26]
      exact Gv.run (.string ⟨other.toArray⟩) rfl (run_conv rfl rfl (run_str w 22 5 Tryd.underlying22 Tryd.underlying5 (dst := 9) Tryd.underlying9 g26)) rfl
    refine ObsS.cons (fun u w hS hd => ?_) ?_
    · have d21 : u 21 = .bool true := hd 16 (by decide)
      rw [d21]
      have d24 : u 24 = .string ⟨other.toArray⟩ := hd 19 (by decide)
      rw [d24]
      have d27 : u 27 = .string ⟨other.toArray⟩ := hd 22 (by decide)
      rw [d27]
      exact Gv.run (.bool true) rfl (by go_simp) rfl
    refine ObsS.cons (fun u w hS hd => ?_) ?_
    · have d21 : u 21 = .bool true := hd 16 (by decide)
      rw [d21]
      have d28 : u 28 = .bool true := hd 23 (by decide)
      rw [d28]
      exact Gv.run (.bool true) rfl (by go_simp) rfl
    refine ObsS.cons (fun u w hS hd => ?_) ?_
    · have d29 : u 29 = .bool true := hd 24 (by decide)
      rw [d29]
      exact Gv.run (.bool true) rfl (by go_simp) rfl
    refine ObsS.cons (fun u w hS hd => ?_) ?_
    · have d30 : u 30 = .bool true := hd 25 (by decide)
      rw [d30]
      exact Gv.run (.pointer (some ⟨gq, 3, none⟩)) (by rfl) (by go_simp) rfl
    refine ObsS.cons (fun u w hS hd => ?_) ?_
    · have d30 : u 30 = .bool true := hd 25 (by decide)
      rw [d30]
      have d31 : u 31 = .pointer (some ⟨gq, 3, none⟩) := hd 26 (by decide)
      rw [d31]
      obtain ⟨k0, k1, k2, k3⟩ := HQ.out w hS
      exact Gv.run (.slice B3 b.length d3) (by rfl) (by go_simp) ⟨_, _, rfl, (q3.keep hS).mono hS.size⟩
    refine ObsS.cons (fun u w hS hd => ?_) ?_
    · have d30 : u 30 = .bool true := hd 25 (by decide)
      rw [d30]
      obtain ⟨A32, c32, d32, g32⟩ : (Know.byt b).ok (u 32) w := hd 27 (by decide)
      rw [d32]
      exact Gv.run (.string ⟨b.toArray⟩) rfl (run_conv rfl rfl (run_str w 22 5 Tryd.underlying22 Tryd.underlying5 (dst := 9) Tryd.underlying9 g32)) rfl
    refine ObsS.cons (fun u w hS hd => ?_) ?_
    · have d30 : u 30 = .bool true := hd 25 (by decide)
      rw [d30]
      exact Gv.run (.pointer (some ⟨gp, 3, none⟩)) (by rfl) (by go_simp) rfl
    refine ObsS.cons (fun u w hS hd => ?_) ?_
    · have d30 : u 30 = .bool true := hd 25 (by decide)
      rw [d30]
      have d34 : u 34 = .pointer (some ⟨gp, 3, none⟩) := hd 29 (by decide)
      rw [d34]
      obtain ⟨k0, k1, k2, k3⟩ := HP.out w hS
      exact Gv.run (.slice A3 b.length c3) (by rfl) (by go_simp) ⟨_, _, rfl, (r3.keep hS).mono hS.size⟩
    refine ObsS.cons (fun u w hS hd => ?_) ?_
    · have d30 : u 30 = .bool true := hd 25 (by decide)
      rw [d30]
      obtain ⟨A35, c35, d35, g35⟩ : (Know.byt b).ok (u 35) w := hd 30 (by decide)
      rw [d35]
      exact Gv.run (.string ⟨b.toArray⟩) rfl (run_conv rfl rfl (run_str w 22 5 Tryd.underlying22 Tryd.underlying5 (dst := 9) Tryd.underlying9 g35)) rfl
    refine ObsS.cons (fun u w hS hd => ?_) ?_
    · have d30 : u 30 = .bool true := hd 25 (by decide)
      rw [d30]
      have d33 : u 33 = .string ⟨b.toArray⟩ := hd 28 (by decide)
      rw [d33]
      have d36 : u 36 = .string ⟨b.toArray⟩ := hd 31 (by decide)
      rw [d36]
      exact Gv.run (.bool true) rfl (by go_simp) rfl
    exact ObsS.nil
  intro u wz hS hd
  have d30 : u 30 = .bool true := hd 25 (by decide)
  rw [d30]
  have d37 : u 37 = .bool true := hd 32 (by decide)
  rw [d37]
  clear hd d30 d37
  simp only [List.drop_succ_cons, List.drop_zero]
  have hfin := hc.trans (hS.mono hc.size)
  go_wp2_with fail
  go_ret
  exact ⟨rfl, hfin⟩
end
end Go.Proofs.YtmhfkabpfkoocaaDoor
