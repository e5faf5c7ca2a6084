/-
  Layer 15: settled, over what is asked of the landed tree. By an AI agent.
-/
import Derived.Test.YtljciakgdpihdaaFl1
namespace Go.Proofs.Ytljciakgdpihdaa
open Go Go.RowKit
set_option maxRecDepth 20000
theorem rounds_next {ok : Ins → Bool} {l : List Act} : ∀ (n : Nat) (t : Txt), roundsT ok l (n + 1) t = roundT ok l (roundsT ok l n t)
  | 0, _ => rfl
  | n + 1, t => rounds_next n (roundT ok l t)
/-- Behind r rounds and k steps. -/
def setK (l : List Dot) (r k : Nat) : Txt := ((l.take k).map actOf).foldl (doT rightB) (roundsT rightB (l.map actOf) r ⟨[], []⟩)
theorem setK_zero (l : List Dot) : setK l 0 0 = ⟨[], []⟩ := rfl
theorem setK_succ {l : List Dot} {r k : Nat} {x : Dot} (h : l[k]? = some x) : setK l r (k + 1) = doT rightB (setK l r k) (actOf x) := by
  unfold setK
  rw [take_snoc h, List.map_append, List.foldl_append]
  rfl
theorem setK_round (l : List Dot) (r : Nat) : setK l r l.length = setK l (r + 1) 0 := by
  unfold setK
  rw [List.take_length, rounds_next]
  rfl
theorem setK_all (l : List Dot) : setK l (l.length + 1) 0 = settledT rightB (l.map actOf) := by
  unfold setK settledT
  rw [List.length_map]
  rfl
theorem setK_ok {l : List Dot} (r k : Nat) : Ok (setK l r k).L ∧ (setK l r k).L.length ≤ l.length := by
  have h : Came rightB (l.map actOf) (setK l r k) := by
    unfold setK
    refine Came.fold right_fair (fun a ha => ?_) (Came.rounds right_fair r ⟨.nil, (fun _ h => nomatch h), (fun _ h => nomatch h), by rw [List.length_nil, Nat.zero_add]; exact List.length_filter_le _ _⟩)
    obtain ⟨x, hx, rfl⟩ := List.mem_map.1 ha
    exact List.mem_map.2 ⟨x, List.mem_of_mem_take hx, rfl⟩
  refine ⟨h.fine, ?_⟩
  have := h.size
  rw [List.length_map] at this
  omega
/-- A tree that was made since. -/
def SetR (R : TreeP) (w0 : World) (p : Value) (t : Txt) (w : World) : Prop := ∃ F : Nat → Prop, R w F p t.L t.G ∧ (∀ b, F b → w0.heap.size ≤ b) ∧ Below w0.heap.size w0 w
section
variable {R : TreeP} (K : FugC R)
theorem SetR.base {w0 w : World} {p : Value} {t : Txt} (h : SetR R w0 p t w) : Below w0.heap.size w0 w := by
  obtain ⟨_, _, _, hb⟩ := h
  exact hb
include K
theorem SetR.keep {w0 w w' : World} {p : Value} {t : Txt} (h : SetR R w0 p t w) (hb : Below w.heap.size w w') : SetR R w0 p t w' := by
  obtain ⟨F, h1, h2, h3⟩ := h
  exact ⟨F, K.next h1 hb, h2, h3.trans (hb.mono h3.size)⟩
theorem set_drop {w0 w : World} {p : Value} {t : Txt} {x : Dot} (h : SetR R w0 p t w) (hok : Ok t.L) (hl : t.L.length ≤ 4096) (hk : x.kind = 0) :
    Calls Try.prog 33 #[p, idV x.drop] w fun e w' => (∃ i, e = .returned (.int .i64 i)) ∧ SetR R w0 p (doT rightB t (actOf x)) w' := by
  obtain ⟨F, h1, h2, h3⟩ := h
  refine (K.drop x.drop w h1 hok hl).mono ?_
  rintro e w' ⟨rfl, F', h4, h5, h6⟩
  refine ⟨⟨_, rfl⟩, F', ?_, fun b hb => ?_, h3.trans (OutF.below h6 h2 h3.size)⟩
  · rw [← stepT_do hl]
    unfold stepT
    rw [if_pos hk]
    exact h4
  · rcases h5 b hb with h | h
    · exact h2 b h
    · exact Nat.le_trans h3.size h
theorem set_add {w0 w : World} {p : Value} {t : Txt} {x : Dot} (h : SetR R w0 p t w) (hok : Ok t.L) (hl : t.L.length ≤ 4096) (hk : ¬ x.kind = 0) :
    Calls Try.prog 30 #[p, insV x.ins] w fun e w' => (∃ i, e = .returned (.int .i64 i)) ∧ SetR R w0 p (doT rightB t (actOf x)) w' := by
  obtain ⟨F, h1, h2, h3⟩ := h
  refine (K.add x.ins w h1 hok hl).mono ?_
  rintro e w' ⟨rfl, F', h4, h5, h6⟩
  refine ⟨⟨_, rfl⟩, F', ?_, fun b hb => ?_, h3.trans (OutF.below h6 h2 h3.size)⟩
  · rw [← stepT_do hl]
    unfold stepT
    rw [if_neg hk]
    exact h4
  · rcases h5 b hb with h | h
    · exact h2 b h
    · exact Nat.le_trans h3.size h
set_option maxHeartbeats 6400000 in
theorem settled_any {A : Option Addr} {c n : Nat} {l : List Dot} (hn : l.length = n) (hl : n ≤ 60) (w : World) (r : RdR doE w w.heap.size A c l) :
    Calls Try.prog 29 #[.slice A n c] w fun e w' => ∃ p, e = .returned p ∧ SetR R w p (settledT rightB (l.map actOf)) w' := by
  have HN := Lib.hid hn
  have HR := Lib.hid (fun wz (hz : Below w.heap.size w wz) => (r.keep hz : RdR doE wz w.heap.size A c l))
  have HK := Lib.hid (fun r k => show Ok (setK l r k).L ∧ (setK l r k).L.length ≤ 4096 from ⟨(setK_ok r k).1, Nat.le_trans (setK_ok (l := l) r k).2 (by omega)⟩)
  clear hn r
  go_enter Try.func29, Try.ntmps29
  go_wp2_with fail
  go_at_call 12
  refine (K.new w).mono ?_
  rintro e v1 ⟨p, F, rfl, h1, h2, h3⟩
  have HP := Lib.hid (show SetR R w p (setK l 0 0) v1 from ⟨F, h1, h2, h3⟩)
  clear h1 h2 h3
  go_wp2_with fail
  go_loopw [10] (fun i wr => ∃ q : Nat, q ≤ n + 1 ∧ i = .int .i64 (q : Int) ∧ SetR R w p (setK l q 0) wr) (fun i _ => n + 1 - (intF i).toNat)
  case atStart => exact ⟨0, Nat.zero_le _, rfl, HP.out⟩
  case round =>
    obtain ⟨q, hq, rfl, hp⟩ := hrel
    clear HP
    by_cases hlt : q < n + 1
    · have g2 : (q : Int) < (n : Int) + 1 := by omega
      have HQ := Lib.hid hlt
      have HP := Lib.hid hp
      clear hlt hp hq
      go_wp2_with fail
      go_loopw [14] (fun i wq => ∃ k : Nat, k ≤ n ∧ i = .int .i64 (k : Int) ∧ SetR R w p (setK l q k) wq) (fun i _ => n - (intF i).toNat)
      case atStart => exact ⟨0, Nat.zero_le _, rfl, HP.out⟩
      case round =>
        obtain ⟨k, hk, rfl, hp⟩ := hrel
        clear HP
        by_cases hkt : k < n
        · have g3 : (k : Int) < (n : Int) := by omega
          obtain ⟨x, hx⟩ := getD_of (L := l) (k := k) (by rw [HN.out]; exact hkt)
          obtain ⟨b, o, rfl, hbB, m0, m1, m2, m3, m4, m5, m6, m7, m8⟩ := do_at (HR.out wr hp.base) hx
          obtain ⟨v5, e5⟩ : ∃ v, v = wr.alloc (.cells (doC x) 35) := ⟨_, rfl⟩
          obtain ⟨g5, eg5⟩ : ∃ g, g = wr.heap.size := ⟨_, rfl⟩
          have hd : DoB v5 g5 x := by rw [e5, eg5]; exact do_box wr x
          have hp5 := SetR.keep K hp (w' := v5) (by rw [e5]; exact (Below.refl _ _).alloc (Nat.le_refl _) _)
          have HX := Lib.hid (setK_succ (r := q) hx)
          have HKT := Lib.hid hkt
          have HD := Lib.hid (And.intro hd hp5)
          have E5 := Lib.hid (And.intro e5 eg5)
          have hl9 := hl
          clear hd hp5 hx hkt hk e5 eg5 hp hbB
          go_upto_region 7 with fail
          rw [← E5.out.1, ← E5.out.2]
          clear E5 m0 m1 m2 m3 m4 m5 m6 m7 m8
          obtain ⟨⟨m0, m1, m2, m3, m4, m5, m6, m7, m8⟩, hp5⟩ := HD.out
          by_cases hz : x.kind = 0
          · have HC := Lib.hid (set_drop K hp5 (HK.out q k).1 (HK.out q k).2 hz)
            rw [hz] at m0
            clear hp5 HD hz
            go_wp2_with fail
            go_at_call 33
            refine HC.out.mono ?_
            rintro e v6 ⟨⟨i, rfl⟩, hp6⟩
            have HP6 := Lib.hid hp6
            clear hp6 HC m0 m1 m2 m3 m4 m5 m6 m7 m8
            go_wp2_with fail
            go_roundw
            case rel => exact ⟨k + 1, HKT.out, by go_num, by rw [HX.out]; exact HP6.out⟩
            case measure => simp [intF]; have := HKT.out; omega
          · have HC := Lib.hid (set_add K hp5 (HK.out q k).1 (HK.out q k).2 hz)
            clear hp5 HD
            go_wp2_with fail
            go_at_call 30
            refine HC.out.mono ?_
            rintro e v6 ⟨⟨i, rfl⟩, hp6⟩
            have HP6 := Lib.hid hp6
            clear hp6 HC m0 m1 m2 m3 m4 m5 m6 m7 m8
            go_wp2_with fail
            go_roundw
            case rel => exact ⟨k + 1, HKT.out, by go_num, by rw [HX.out]; exact HP6.out⟩
            case measure => simp [intF]; have := HKT.out; omega
        · obtain rfl : k = n := by omega
          have HP := Lib.hid (show SetR R w p (setK l (q + 1) 0) wr by rw [← setK_round, HN.out]; exact hp)
          clear hp hkt hk
          go_wp2_with fail
          go_roundw
          case rel => exact ⟨q + 1, by have := HQ.out; omega, by go_num, HP.out⟩
          case measure => simp [intF]; have := HQ.out; omega
    · obtain rfl : q = n + 1 := by omega
      have HP := Lib.hid (show SetR R w p (settledT rightB (l.map actOf)) wr by rw [← setK_all, HN.out]; exact hp)
      clear hp hlt hq
      go_wp2_with fail
      go_ret
      exact ⟨p, rfl, HP.out⟩
end
end Go.Proofs.Ytljciakgdpihdaa
