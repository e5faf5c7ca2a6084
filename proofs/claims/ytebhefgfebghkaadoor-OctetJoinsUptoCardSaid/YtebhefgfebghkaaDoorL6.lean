import Derived.Test.YtebhefgfebghkaaDoorJ2
namespace Go.Proofs.YtebhefgfebghkaaDoor
open Go Go.RowKit

/-- The first k lists of L, each in a row of the call's own, in a row of the call's own. -/
def MRow (w : World) (B : Nat) (v : Value) (k : Nat) (L : List (List UInt8)) : Prop :=
  ∃ vals : List Value, w.ownsRow B 22 1 v k vals ∧ ∀ j, j < k → ∃ A c, vals[j]? = some (.slice A (row L j).length c) ∧ Own w B 5 A c (row L j)
theorem grown_of_below {w w' : World} (h : Below w.heap.size w w') (r : Option Nat) : w.grownBy w' r := ⟨h.os, h.tape, h.output, h.size, fun k hk _ => h.block k hk⟩
theorem MRow.keep {w w' : World} {B k : Nat} {v : Value} {L : List (List UInt8)} (h : MRow w B v k L) (hb : Below w.heap.size w w') : MRow w' B v k L := by
  obtain ⟨vals, h1, h2⟩ := h
  refine ⟨vals, h1.kept (grown_of_below hb none) (by cases v.ownBlock <;> simp), fun j hj => ?_⟩
  obtain ⟨A, c, e, ho⟩ := h2 j hj
  exact ⟨A, c, e, ho.keep hb⟩
theorem own_grown {w w' : World} {B : Nat} {A : Option Addr} {c : Nat} {bs : List UInt8} (h : Own w B 5 A c bs) {B' n : Nat} {v : Value} {xs : List Value} (hv : w.ownsRow B' 22 1 v n xs) (hg : w.grownBy w' v.ownBlock) : Own w' B 5 A c bs := by
  refine World.ownsRow.kept h hg ?_
  rcases h.2 with ⟨h, _⟩ | ⟨g, cap, cur, hA, _, hh, _⟩
  · simp only [Value.slice.injEq] at h
    obtain ⟨rfl, _, _⟩ := h
    exact .inl rfl
  · simp only [Value.slice.injEq, true_and] at hA
    obtain ⟨rfl, _⟩ := hA
    refine .inr ?_
    rcases hv.2 with ⟨rfl, _⟩ | ⟨g', cap', cur', rfl, _, hh', _⟩
    · simp [Value.ownBlock]
    · simp only [Value.ownBlock]
      intro e
      injection e with e
      subst e
      rw [hh] at hh'
      simp at hh'
theorem MRow.push {w w1 : World} {B k : Nat} {v v' : Value} {L : List (List UInt8)} {vals : List Value} (h1 : w.ownsRow B 22 1 v k vals) (h2 : ∀ j, j < k → ∃ A c, vals[j]? = some (.slice A (row L j).length c) ∧ Own w B 5 A c (row L j))
    {A : Option Addr} {c : Nat} (ho : Own w B 5 A c (row L k)) {o : Obj} (h3 : w1.ownsRow B 22 1 v' (k + 1) (vals ++ [.slice A (row L k).length c])) (hg : (w.alloc o).grownBy w1 v.ownBlock) : MRow w1 B v' (k + 1) L := by
  have hal := (Below.refl w.heap.size w).alloc (Nat.le_refl _) o
  have hl : vals.length = k := by simpa using h1.1
  refine ⟨_, h3, fun j hj => ?_⟩
  by_cases hjk : j = k
  · subst hjk
    exact ⟨A, c, by rw [List.getElem?_append_right (by omega), hl]; simp, own_grown (ho.keep hal) (h1.alloc o) hg⟩
  · obtain ⟨A', c', e, ho'⟩ := h2 j (by omega)
    exact ⟨A', c', by rw [List.getElem?_append_left (by omega)]; exact e, own_grown (ho'.keep hal) (h1.alloc o) hg⟩
theorem MRow.rds {w : World} {B : Nat} {A : Option Addr} {c : Nat} {L : List (List UInt8)} (h : MRow w B (.slice A L.length c) L.length L) : Rds w w.heap.size A c L := by
  obtain ⟨vals, h1, h2⟩ := h
  rcases h1.2 with ⟨h, h0⟩ | ⟨g, cap, cur, hA, _, hh, hn, _, hs, ht⟩
  · have e0 : L = [] := List.eq_nil_of_length_eq_zero h0
    subst e0
    simp only [Value.slice.injEq] at h
    obtain ⟨rfl, _, rfl⟩ := h
    exact ⟨by simp, fun _ => ⟨rfl, rfl⟩, fun h => absurd rfl h⟩
  · simp only [Value.slice.injEq, true_and] at hA
    obtain ⟨rfl, rfl⟩ := hA
    refine ⟨hn, (fun h => nomatch h), fun _ => ⟨g, 0, rfl, (Array.getElem?_eq_some_iff.1 hh).1, fun k hk => ?_⟩⟩
    obtain ⟨Ak, ck, e, ho⟩ := h2 k hk
    refine ⟨Ak, ck, ?_, ho.rd⟩
    rw [Nat.zero_add, cell_of_row w g k cur 22 (0, 0) hh, ← e, ← ht, List.getElem?_take, if_pos (by omega)]
    simp
theorem Own.head {w : World} {B : Nat} {e : TypeId} {A : Option Addr} {c : Nat} {bs : List UInt8} (h : Own w B e A c bs) (hn : 0 < bs.length) : ∃ g, A = some ⟨g, 0, none⟩ ∧ B ≤ g := by
  rcases h.2 with ⟨_, h0⟩ | ⟨g, cap, cur, hA, hB, _⟩
  · omega
  · simp only [Value.slice.injEq, true_and] at hA
    exact ⟨g, hA.1, hB⟩
theorem one_cell (w : World) (v : Value) (e : TypeId) : ∀ j u, [v][j]? = some u → (w.alloc (.cells #[v] e)).cell? ((⟨w.heap.size, 0, none⟩ : Addr).add j) = some u := by
  intro j u hu
  match j, hu with
  | 0, hu =>
    simp at hu
    subst hu
    rw [Addr.add_lit]
    exact World.cell?_alloc_new w #[v] e 0
theorem row_shape {w : World} {B : Nat} {e : TypeId} {v : Value} {n : Nat} {xs : List Value} (h : w.ownsRow B e 1 v n xs) : ∃ A c, v = .slice A n c := by
  rcases h.2 with ⟨rfl, rfl⟩ | ⟨g, cap, cur, rfl, _⟩
  · exact ⟨_, _, rfl⟩
  · exact ⟨_, _, rfl⟩
theorem sameQ {A1 A2 : Option Addr} {c1 c2 B1 B2 : Nat} {xs : List UInt8} {w : World} {q m : Nat} (h1 : Rd w B1 A1 c1 xs) (h2 : Rd w B2 A2 c2 xs) :
    Calls Tryd.prog 14 #[.slice A1 xs.length c1, .slice A2 xs.length c2] (w.drewN (q + m)) fun e w'' => e = .returned (.bool true) ∧ ∃ k, w'' = w.drewN (q + k) :=
  (same_yes (w.drewN (q + m)) (h1.keep (below_drewN _ _)) (h2.keep (below_drewN _ _)) rfl rfl).mono fun _ _ ⟨he, hm⟩ => ⟨he, m, hm.symm⟩

set_option maxHeartbeats 2000000 in
theorem octetJoins_walk {A1 : Option Addr} {c1 : Nat} {L : List (List UInt8)} (w : World) (hT : Tab w) (h1 : Rds w w.heap.size A1 c1 L) (hs : (joinL L).length ≤ 1048576) (hn : L.length ≤ 1048576) :
    Calls Tryd.prog 6 #[.slice A1 L.length c1] w fun e w' => e = .returned (.bool true) ∧ Below w.heap.size w w' := by
  obtain ⟨i0, hi, hz0, hz1, hz2⟩ := info_parts infoSlice
  go_enter Tryd.func6, Tryd.ntmps6
  go_wp2_with fail
  go_loopw [3, 12] (fun v i wr => ∃ k : Nat, k ≤ L.length ∧ i = .int .i64 k ∧ (∃ A c, v = .slice A k c) ∧ MRow wr w.heap.size v k L ∧ Below w.heap.size w wr)
    (fun _ i _ => L.length - (intOf i).toNat)
  case atStart => exact ⟨0, Nat.zero_le _, rfl, ⟨none, 0, rfl⟩, ⟨[], World.ownsRow_nil _ _ _ _, fun j hj => absurd hj (by omega)⟩, Below.refl _ _⟩
  case round =>
    obtain ⟨k, hk, rfl, ⟨Av, cv, rfl⟩, hm, hb⟩ := hrel
    by_cases hlt : k < L.length
    · obtain ⟨b1, o1, rfl, hbb, Ak, ck, cc, rk⟩ := h1.at_ hlt
      have g1 : (k : Int) < (L.length : Int) := by omega
      have rl := row_le hlt
      have cc2 : wr.cell? ⟨b1, o1 + k, none⟩ = some (.slice Ak (row L k).length ck) := (hb.cell (p := ⟨b1, o1 + k, none⟩) hbb).trans cc
      have rk2 := (rk.keep hb).mono hb.size
      clear cc rk
      go_wp2_with fail
      refine (own_any _ rk2 (Nat.le_refl _) (by omega)).mono ?_
      rintro e w1 ⟨B1, d1, rfl, o1', b1'⟩
      have hbw1 := hb.trans (b1'.mono hb.size)
      obtain ⟨vals, m1, m2⟩ := hm.keep b1'
      have o1'' := o1'.mono hb.size
      go_wp2_with (at_builtin; refine wpList_append_own _ rfl (.tmp 16) (.tmp 19) 31 rfl w.heap.size 22 i0 (.slice none 0 0) 1 24 Tryd.underlying31 hi hz0 hz1 hz2 rfl (by decide) _ _ _ rfl (m1.alloc _) ⟨w1.heap.size, 0, none⟩ 1 1 [.slice B1 (row L k).length d1] rfl rfl (one_cell w1 _ _) (by intro u hu; simp at hu; subst hu; rfl) (by unfold maxLen; omega) (by omega) (by simp; have := hbw1.size; omega) ?_; intro v' w2 hown' hgrow _)
      have hm2 := MRow.push m1 m2 o1'' hown' hgrow
      obtain ⟨A2, c2, rfl⟩ := row_shape hown'
      have hb2 : Below w.heap.size w w2 := (hbw1.alloc hbw1.size _).grown hgrow (by simp; have := hbw1.size; omega) (fun g hg => (World.ownsRow.lt m1 g hg).1)
      go_wp2_with fail
      go_roundw
      case rel => exact ⟨k + 1, by omega, by go_num, ⟨A2, c2, rfl⟩, hm2, hb2⟩
      case measure => simp [intOf]; omega
    · have g1 : ¬ (k : Int) < (L.length : Int) := by omega
      have hk' : k = L.length := by omega
      subst hk'
      have rm := hm.rds
      clear hm
      go_wp2_with fail
      refine (join_any _ rm (Nat.le_refl _) hs hn).mono ?_
      rintro e w3 ⟨B3, d3, rfl, o3, b3⟩
      have b3' := Below.next hb b3
      have r3 := o3.rd
      go_wp2_with fail
      refine (rjoin_any _ (h1.next b3') (Nat.le_refl _) hs hn).mono ?_
      rintro e w4 ⟨B4, d4, rfl, o4, b4⟩
      have b4' := Below.next b3' b4
      go_wp2_with fail
      refine (same_yes _ (r3.next b4) o4.rd rfl rfl).mono ?_
      rintro e w4 ⟨rfl, rfl⟩
      go_wp2_with fail
      obtain ⟨w0, ew0⟩ : ∃ w0 : World, w0 = wr := ⟨_, rfl⟩
      subst ew0
      have o34 := o3.keep b4
      have b34 := b3.trans (b4.mono b3.size)
      go_loopw [32] (fun i wx => ∃ k : Nat, k ≤ (joinL L).length ∧ i = .int .i64 k ∧ (∃ bs : List UInt8, Hid (bs.length = (joinL L).length) ∧ wx.ownsRow w0.heap.size 5 1 (.slice B3 (joinL L).length d3) (joinL L).length (bs.map bv)) ∧ Below w0.heap.size w0 wx)
        (fun i _ => (joinL L).length - (intOf i).toNat)
      case atStart => exact ⟨0, Nat.zero_le _, rfl, ⟨joinL L, rfl, o34⟩, b34⟩
      case round =>
        obtain ⟨k, hk, rfl, ⟨bs, HB, ho⟩, hbx⟩ := hrel
        obtain ⟨wx, ewx⟩ : ∃ wx : World, wx = wr := ⟨_, rfl⟩
        subst ewx
        by_cases hlt : k < (joinL L).length
        · have g2 : (k : Int) < ((joinL L).length : Int) := by omega
          have hO : Own wx w0.heap.size 5 B3 d3 bs := by unfold Own; rw [HB.out]; exact ho
          obtain ⟨g, rfl, hg⟩ := hO.head (by rw [HB.out]; omega)
          have e1 : wx.cell? ⟨g, k, none⟩ = some (.int .u8 (nth bs k : Int)) := hO.cell (by rw [HB.out]; exact hlt)
          have e2 : wx.frozen? ⟨g, k, none⟩ = false := hO.free _
          have x0 := nth_lt bs k
          go_wp2_with fail
          go_roundw
          case rel =>
            refine ⟨k + 1, by omega, by go_num, ⟨bs.set k (UInt8.ofNat (nth bs k + 1)), ?_, ?_⟩, hbx.setCell hg _⟩
            · show (bs.set k _).length = _
              rw [List.length_set]; exact HB.out
            · have hv : ((nth bs k : Int) + 1) % 256 = ((UInt8.ofNat (nth bs k + 1)).toNat : Int) := by simp only [UInt8.toNat_ofNat']; omega
              rw [hv]
              have := hO.set_ k (UInt8.ofNat (nth bs k + 1))
              unfold Own at this
              rw [List.length_set, HB.out] at this
              exact this
          case measure => simp [intOf]; omega
        · have g2 : ¬ (k : Int) < ((joinL L).length : Int) := by omega
          have hbx' := hb.trans (hbx.mono hb.size)
          have rm2 := rm.next hbx
          have rl2 := h1.next hbx'
          clear g1
          go_wp2_with fail
          go_loopw [44] (fun i wq => ∃ k : Nat, k ≤ L.length ∧ i = .int .i64 k ∧ ∃ q, wq = wx.drewN q) (fun i _ => L.length - (intOf i).toNat)
          case atStart => exact ⟨0, Nat.zero_le _, rfl, 0, rfl⟩
          case round =>
            obtain ⟨k, hk, rfl, q, rfl⟩ := hrel
            by_cases hlt : k < L.length
            · have g3 : (k : Int) < (L.length : Int) := by omega
              obtain ⟨bm, om, rfl, _, Am, cm, em, rkm⟩ := rm2.at_ hlt
              obtain ⟨bl, ol, rfl, _, Al, cl, el, rkl⟩ := rl2.at_ hlt
              go_wp2_with fail
              go_quiet ((go_at_call 14; exact sameQ rkm rkl))
              go_wp2_with fail
              go_roundw
              case rel => exact ⟨k + 1, by omega, by go_num, _, rfl⟩
              case measure => simp [intOf]; omega
            · have g3 : ¬ (k : Int) < (L.length : Int) := by omega
              have hbq := Below.next hbx' (below_drewN wx.heap.size q)
              go_wp2_with fail
              refine (awake_any _ (hT.keep hbq hT.pos)).mono ?_
              rintro e w9 ⟨rfl, b9⟩
              go_wp2_with fail
              go_ret
              exact ⟨rfl, Below.next hbq b9⟩
end Go.Proofs.YtebhefgfebghkaaDoor
