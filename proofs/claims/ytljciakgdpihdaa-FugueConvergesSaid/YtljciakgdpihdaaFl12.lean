/-
  Layer 15: FugueConverges. By an AI agent.
-/
import Derived.Test.YtljciakgdpihdaaFl11
import Derived.Test.YtljciakgdpihdaaOp15
namespace Go.Proofs.Ytljciakgdpihdaa
open Go Go.RowKit
set_option maxRecDepth 20000
theorem infoDo : (Try.prog.info? 35).map (fun i => (i.zero, i.size, i.bytes)) = some (some (.agg #[.int .i64 0, .int .i64 0, .int .i64 0, .int .i64 0, .int .i64 0, .bool false, .int .i32 0, .int .i64 0, .int .i64 0]), 9, 64) := by kernel_rfl
section
variable {R : TreeP} (K : FugC R)
include K
theorem fugueconverges_much {A A' : Option Addr} {c c' n n' : Nat} (hn : 40 < n ∨ 200 < n') (w : World) :
    Calls Try.prog 6 #[.slice A n c, .slice A' n' c'] w fun e w' => e = .returned (.bool true) ∧ Below w.heap.size w w' := by
  by_cases h1 : 40 < n
  · have g1 : (40 : Int) < (n : Int) := by omega
    clear hn h1
    go_enter Try.func6, Try.ntmps6
    go_wp2_with fail
    go_at_call 11
    refine (awake15 K w).mono ?_
    rintro z v9 ⟨rfl, h0⟩
    go_wp2_with fail
    go_ret
    exact ⟨rfl, h0⟩
  · have g1 : ¬ (40 : Int) < (n : Int) := by omega
    have g2 : (200 : Int) < (n' : Int) := by have := hn.resolve_left h1; omega
    clear hn h1
    go_enter Try.func6, Try.ntmps6
    go_wp2_with fail
    go_at_call 11
    refine (awake15 K w).mono ?_
    rintro z v9 ⟨rfl, h0⟩
    go_wp2_with fail
    go_ret
    exact ⟨rfl, h0⟩
set_option maxHeartbeats 25600000 in
theorem fugueconverges_law {A A' : Option Addr} {c c' n n' : Nat} {l : List Dot} {ts : List Int} (hn : l.length = n) (hl : n ≤ 40) (hn' : ts.length = n') (hl' : n' ≤ 200) (w : World) (r : RdR doE w w.heap.size A c l) (r' : RdR intE w w.heap.size A' c' ts) :
    Calls Try.prog 6 #[.slice A n c, .slice A' n' c'] w fun e w' => e = .returned (.bool true) ∧ Below w.heap.size w w' := by
  obtain ⟨i0, hi0, hz0, hz1, hz2⟩ := info_parts infoDo
  have HI := Lib.hid (And.intro hi0 (And.intro hz0 (And.intro hz1 hz2)))
  have g1 : ¬ (40 : Int) < (n : Int) := by omega
  have g1' : ¬ (200 : Int) < (n' : Int) := by omega
  have HN := Lib.hid hn
  have HN' := Lib.hid hn'
  have HL' := Lib.hid (And.intro hl hl')
  have HR := Lib.hid (fun wz (hz : Below w.heap.size w wz) => (r.keep hz : RdR doE wz w.heap.size A c l))
  have HR' := Lib.hid (fun wz (hz : Below w.heap.size w wz) => (r'.keep hz : RdR intE wz w.heap.size A' c' ts))
  clear hn r r' hn' hi0 hz0 hz1 hz2
  go_enter Try.func6, Try.ntmps6
  go_wp2_with fail
  go_loopw [5, 29] (fun v i wr => ∃ k : Nat, k ≤ n ∧ i = .int .i64 (k : Int) ∧ (∃ Ao co, v = .slice Ao (onceK l k).length co ∧ OwnR doE wr w.heap.size 35 Ao co (onceK l k)) ∧ Below w.heap.size w wr) (fun _ i _ => n - (intF i).toNat)
  case atStart => exact ⟨0, Nat.zero_le _, rfl, ⟨none, 0, rfl, OwnR.nothing _ _ _ _⟩, Below.refl _ _⟩
  case round =>
    obtain ⟨k, hk, rfl, ⟨Ao, co, rfl, oo⟩, hbr⟩ := hrel
    by_cases hlt : k < n
    · have g2 : (k : Int) < (n : Int) := by omega
      obtain ⟨x, hx⟩ := getD_of (L := l) (k := k) (by rw [HN.out]; exact hlt)
      obtain ⟨b, o, rfl, hbB, m0, m1, m2, m3, m4, m5, m6, m7, m8⟩ := do_at (HR.out wr hbr) hx
      obtain ⟨v5, e5⟩ : ∃ v, v = wr.alloc (.cells (doC x) 35) := ⟨_, rfl⟩
      obtain ⟨g5, eg5⟩ : ∃ g, g = wr.heap.size := ⟨_, rfl⟩
      have hb5 : Below wr.heap.size wr v5 := by rw [e5]; exact (Below.refl _ _).alloc (Nat.le_refl _) _
      have hd : DoB v5 g5 x ∧ g5 < v5.heap.size := ⟨by rw [e5, eg5]; exact do_box wr x, by rw [e5, eg5]; simp⟩
      obtain ⟨acc, eacc⟩ : ∃ a, a = onceK l k := ⟨_, rfl⟩
      have hak : acc.length ≤ k := by rw [eacc]; exact onceK_len l k
      have hak2 : acc.length ≤ 40 := by omega
      rw [← eacc] at oo
      rw [← eacc]
      have HX := Lib.hid (show onceK l (k + 1) = onceS acc x by rw [eacc]; exact onceK_succ hx)
      have HOO := Lib.hid (oo.keep hb5)
      have HB5 := Lib.hid (hbr.trans (hb5.mono hbr.size))
      have HK := Lib.hid hlt
      have HD := Lib.hid hd
      have E5 := Lib.hid (And.intro e5 eg5)
      obtain ⟨m, em⟩ : ∃ m, m = acc.length := ⟨_, rfl⟩
      have HM := Lib.hid em
      rw [← em] at hak2 ⊢
      have hm9 := hak2
      clear hd hb5 hx hlt hk e5 eg5 hbB hbr oo eacc hak em
      go_upto_region 7 with fail
      rw [← E5.out.1, ← E5.out.2]
      clear E5 m0 m1 m2 m3 m4 m5 m6 m7 m8
      go_wp2_with fail
      go_loopw [8, 35] (fun v i wr => ∃ j : Nat, j ≤ m ∧ i = .int .i64 (j : Int) ∧ v = .bool ((acc.take j).any (hitB x)) ∧ Below v5.heap.size v5 wr) (fun _ i _ => m - (intF i).toNat)
      case atStart => exact ⟨0, Nat.zero_le _, rfl, rfl, Below.refl _ _⟩
      case round =>
        obtain ⟨j, hj, rfl, rfl, hbr⟩ := hrel
        by_cases hjt : j < m
        · have g3 : (j : Int) < (m : Int) := by omega
          obtain ⟨y, hy⟩ := getD_of (L := acc) (k := j) (by rw [← HM.out]; exact hjt)
          obtain ⟨b2, o2, rfl, hbB, m0, m1, m2, m3, m4, m5, m6, m7, m8⟩ := do_at ((HOO.out.keep hbr).rd) hy
          obtain ⟨v10, e10⟩ : ∃ v, v = wr.alloc (.cells (doC y) 35) := ⟨_, rfl⟩
          obtain ⟨g10, eg10⟩ : ∃ g, g = wr.heap.size := ⟨_, rfl⟩
          have hb10 : Below wr.heap.size wr v10 := by rw [e10]; exact (Below.refl _ _).alloc (Nat.le_refl _) _
          have hd : DoB v10 g10 y := by rw [e10, eg10]; exact do_box wr y
          have hbv := hbr.trans (hb10.mono hbr.size)
          have hd5 : DoB v10 g5 x := by
            obtain ⟨⟨q0, q1, q2, q3, q4, q5, q6, q7, q8⟩, hlt⟩ := HD.out
            exact ⟨(hbv.cell (p := ⟨g5, 0, none⟩) hlt).trans q0, (hbv.cell (p := ⟨g5, 1, none⟩) hlt).trans q1, (hbv.cell (p := ⟨g5, 2, none⟩) hlt).trans q2, (hbv.cell (p := ⟨g5, 3, none⟩) hlt).trans q3, (hbv.cell (p := ⟨g5, 4, none⟩) hlt).trans q4, (hbv.cell (p := ⟨g5, 5, none⟩) hlt).trans q5, (hbv.cell (p := ⟨g5, 6, none⟩) hlt).trans q6, (hbv.cell (p := ⟨g5, 7, none⟩) hlt).trans q7, (hbv.cell (p := ⟨g5, 8, none⟩) hlt).trans q8⟩
          have HB10 := Lib.hid hbv
          have HJ := Lib.hid hjt
          have HDD := Lib.hid (And.intro hd hd5)
          have E10 := Lib.hid (And.intro e10 eg10)
          obtain ⟨tb, etb⟩ : ∃ t, t = (acc.take j).any (hitB x) := ⟨_, rfl⟩
          have HNX := Lib.hid (show (acc.take (j + 1)).any (hitB x) = (tb || hitB x y) by rw [etb]; exact any_take_succ _ hy)
          rw [← etb]
          have hm8 := hm9
          clear hy hbB e10 eg10 hb10 hd hbv hd5 hbr hjt hj etb
          go_upto_region 11 with fail
          rw [← E10.out.1, ← E10.out.2]
          clear E10 m0 m1 m2 m3 m4 m5 m6 m7 m8
          obtain ⟨⟨p0, p1, p2, p3, p4, p5, p6, p7, p8⟩, q0, q1, q2, q3, q4, q5, q6, q7, q8⟩ := HDD.out
          clear HDD
          cases tb with
          | true =>
              clear p0 p1 p2 p3 p4 p5 p6 p7 p8 q0 q1 q2 q3 q4 q5 q6 q7 q8
              go_wp2_with fail
              go_roundw
              case rel => exact ⟨j + 1, HJ.out, by go_num, by rw [HNX.out]; rfl, HB10.out⟩
              case measure => simp [intF]; have := HJ.out; omega
          | false =>
            by_cases hx0 : x.kind = 0
            · have hh : hitB x y = false := by unfold hitB; simp [hx0]
              rw [hx0] at q0
              go_wp2_with fail
              go_roundw
              case rel => exact ⟨j + 1, HJ.out, by go_num, by rw [HNX.out, hh]; first | rfl | simp [hx0, hy0], HB10.out⟩
              case measure => simp [intF]; have := HJ.out; omega
            · by_cases hy0 : y.kind = 0
              · have hh : hitB x y = false := by unfold hitB; simp [hy0]
                rw [hy0] at p0
                have hxk : ¬ (x.kind = 0) := hx0
                go_wp2_with fail
                go_roundw
                case rel => exact ⟨j + 1, HJ.out, by go_num, by rw [HNX.out, hh]; first | rfl | simp [hx0, hy0], HB10.out⟩
                case measure => simp [intF]; have := HJ.out; omega
              · by_cases hid : y.ins.id = x.ins.id
                · have hh : hitB x y = true := by unfold hitB; simp [hx0, hy0, hid]
                  rw [hid] at p1 p2
                  have hxk : ¬ (x.kind = 0) := hx0
                  go_wp2_with fail
                  go_roundw
                  case rel => exact ⟨j + 1, HJ.out, by go_num, by rw [HNX.out, hh]; first | rfl | simp [hx0, hy0], HB10.out⟩
                  case measure => simp [intF]; have := HJ.out; omega
                · have hh : hitB x y = false := by unfold hitB; simp [hid]
                  by_cases hi1 : y.ins.id.1 = x.ins.id.1
                  · have hi2 : ¬ (y.ins.id.2 = x.ins.id.2) := fun h => hid (Prod.ext hi1 h)
                    rw [hi1] at p1
                    have hxk : ¬ (x.kind = 0) := hx0
                    go_wp2_with fail
                    go_roundw
                    case rel => exact ⟨j + 1, HJ.out, by go_num, by rw [HNX.out, hh]; first | rfl | simp [hx0, hy0], HB10.out⟩
                    case measure => simp [intF]; have := HJ.out; omega
                  · skip
                    have hxk : ¬ (x.kind = 0) := hx0
                    go_wp2_with fail
                    go_roundw
                    case rel => exact ⟨j + 1, HJ.out, by go_num, by rw [HNX.out, hh]; first | rfl | simp [hx0, hy0], HB10.out⟩
                    case measure => simp [intF]; have := HJ.out; omega
        · obtain rfl : j = m := by omega
          obtain ⟨tb, etb⟩ : ∃ t, t = acc.any (hitB x) := ⟨_, rfl⟩
          have hall : (acc.take j).any (hitB x) = tb := by rw [HM.out, List.take_length, etb]
          rw [hall]
          have HT := Lib.hid etb
          have HB6 := Lib.hid (HB5.out.trans (hbr.mono HB5.out.size))
          have HO6 := Lib.hid (HOO.out.keep hbr)
          have hd5 : DoB wr g5 x := by
            obtain ⟨⟨q0, q1, q2, q3, q4, q5, q6, q7, q8⟩, hlt⟩ := HD.out
            exact ⟨(hbr.cell (p := ⟨g5, 0, none⟩) hlt).trans q0, (hbr.cell (p := ⟨g5, 1, none⟩) hlt).trans q1, (hbr.cell (p := ⟨g5, 2, none⟩) hlt).trans q2, (hbr.cell (p := ⟨g5, 3, none⟩) hlt).trans q3, (hbr.cell (p := ⟨g5, 4, none⟩) hlt).trans q4, (hbr.cell (p := ⟨g5, 5, none⟩) hlt).trans q5, (hbr.cell (p := ⟨g5, 6, none⟩) hlt).trans q6, (hbr.cell (p := ⟨g5, 7, none⟩) hlt).trans q7, (hbr.cell (p := ⟨g5, 8, none⟩) hlt).trans q8⟩
          obtain ⟨q0, q1, q2, q3, q4, q5, q6, q7, q8⟩ := hd5
          clear hbr HOO HB5 HD hall etb hjt hj
          cases tb with
          | true =>
            have HXX := Lib.hid (show onceK l (k + 1) = acc by rw [HX.out]; unfold onceS; rw [← HT.out, if_pos rfl])
            clear q0 q1 q2 q3 q4 q5 q6 q7 q8
            go_wp2_with fail
            go_roundw
            case rel => exact ⟨k + 1, HK.out, by go_num, ⟨Ao, co, by rw [HXX.out, HM.out], by rw [HXX.out]; exact HO6.out⟩, HB6.out⟩
            case measure => simp [intF]; have := HK.out; omega
          | false =>
            have HXX := Lib.hid (show onceK l (k + 1) = acc ++ [x] by rw [HX.out]; unfold onceS; rw [← HT.out, if_neg (by decide)])
            have HLN := Lib.hid (show j + 1 ≤ 140737488355328 ∧ (j + 1) * 64 ≤ 140737488355328 by omega)
            go_wp2_with (at_builtin; refine wpList_appR1 wr rfl (.tmp 62) (.tmp 64) _ rfl w.heap.size 35 i0 _ Try.underlying22 HI.out.1 HI.out.2.1 HI.out.2.2.1 HI.out.2.2.2 rfl HM.out.symm rfl HO6.out (y := x) rfl rfl HLN.out.1 HLN.out.2 HB6.out.size ?_; intro A8 c8 w8 o8 hb8 hg8; have HW8 := Lib.hid (And.intro o8 (HB6.out.trans hb8)); clear o8 hb8 hg8 q0 q1 q2 q3 q4 q5 q6 q7 q8)
            go_roundw
            case rel => exact ⟨k + 1, HK.out, by go_num, ⟨A8, c8, by rw [HXX.out, List.length_append, List.length_singleton, ← HM.out], by rw [HXX.out]; exact HW8.out.1⟩, HW8.out.2⟩
            case measure => simp [intF]; have := HK.out; omega
    · obtain rfl : k = n := by omega
      obtain ⟨vo, evo⟩ : ∃ v, v = wr := ⟨_, rfl⟩
      subst evo
      obtain ⟨O_, eO⟩ : ∃ a, a = onceK l k := ⟨_, rfl⟩
      have hap : Apart O_ := by rw [eO]; exact onceK_apart l k
      have hOl : O_.length ≤ 40 := by rw [eO]; exact Nat.le_trans (onceK_len l k) hl
      rw [← eO] at oo ⊢
      obtain ⟨N, eN⟩ : ∃ m, m = O_.length := ⟨_, rfl⟩
      rw [← eN] at hOl ⊢
      have HAP := Lib.hid (And.intro hap eN)
      have HON := Lib.hid (And.intro oo hbr)
      have HLN := Lib.hid (show 0 + N ≤ 140737488355328 ∧ (0 + N) * 64 ≤ 140737488355328 by omega)
      clear hap eN oo hbr eO hlt hk HR
      obtain ⟨ve, eve⟩ : ∃ v, v = vo.alloc (.cells #[] 35) := ⟨_, rfl⟩
      have hbe : Below vo.heap.size vo ve := by rw [eve]; exact (Below.refl _ _).alloc (Nat.le_refl _) _
      have HOE := Lib.hid (show OwnR doE ve vo.heap.size 35 (some ⟨vo.heap.size, 0, none⟩) 0 [] by rw [eve]; exact OwnR.lit _ (Nat.le_refl _) #[] ([] : List Dot) (Nat.zero_le _) rfl)
      have HO5 := Lib.hid (And.intro (HON.out.1.keep hbe) (And.intro (HON.out.2.trans (hbe.mono HON.out.2.size)) hbe.size))
      have E := Lib.hid eve
      clear eve hbe
      go_wp2_with (at_builtin; rw [← E.out]; refine wpList_appR ve rfl (.tmp 67) (.tmp 68) _ rfl vo.heap.size 35 i0 _ Try.underlying22 HI.out.1 HI.out.2.1 HI.out.2.2.1 HI.out.2.2.2 rfl (L := []) (n := 0) rfl rfl HOE.out HAP.out.2.symm rfl HO5.out.1.rd HLN.out.1 HLN.out.2 HO5.out.2.2 ?_; intro A8 c8 w8 o8 hb8 hg8; have HW8 := Lib.hid (And.intro o8 (And.intro hb8 hg8)); clear o8 hb8 hg8)
      have HMX := Lib.hid (show OwnR doE w8 vo.heap.size 35 A8 c8 O_ ∧ Below vo.heap.size vo w8 from ⟨HW8.out.1, (show Below vo.heap.size vo ve by rw [E.out]; exact (Below.refl _ _).alloc (Nat.le_refl _) _).trans HW8.out.2.1⟩)
      clear HW8 HOE HO5 E HI HLN
      go_loopw [72] (fun i wr => ∃ q : Nat, q ≤ n' ∧ i = .int .i64 (q : Int) ∧ ∃ M : List Dot, M.length = N ∧ (∀ a, a ∈ M ↔ a ∈ O_) ∧ OwnR doE wr vo.heap.size 35 A8 c8 M ∧ Below vo.heap.size vo wr) (fun i _ => n' - (intF i).toNat)
      case atStart => exact ⟨0, Nat.zero_le _, rfl, O_, HAP.out.2.symm, fun _ => Iff.rfl, HMX.out.1, HMX.out.2⟩
      case round =>
        obtain ⟨q, hq, rfl, M, hMN, hMO, hM, hbr⟩ := hrel
        clear HMX
        by_cases hlt : q < n'
        · have g2 : (q : Int) < (n' : Int) := by omega
          obtain ⟨zt, hzt⟩ := getD_of (L := ts) (k := q) (by rw [HN'.out]; exact hlt)
          obtain ⟨b, o, rfl, hbB, hc⟩ := (HR'.out wr (HON.out.2.trans (hbr.mono HON.out.2.size))).at_ hzt
          have c0 : wr.cell? ⟨b, o + q, none⟩ = some (.int .i64 zt) := by
            have h0 := hc 0 _ rfl
            rw [show o + q * intE.size + 0 = o + q by show o + q * 1 + 0 = o + q; omega] at h0
            exact h0
          have HM := Lib.hid (And.intro hM hbr)
          have HQ := Lib.hid (And.intro hlt (And.intro hMN hMO))
          clear hM hbr hlt hMO hc hbB hzt hq
          by_cases hN0 : N = 0
          · have g4 : ¬ (0 : Int) < (N : Int) := by omega
            clear hMN hN0
            go_wp2_with fail
            go_roundw
            case rel => exact ⟨q + 1, HQ.out.1, by go_num, M, HQ.out.2.1, HQ.out.2.2, HM.out.1, HM.out.2⟩
            case measure => simp [intF]; have := HQ.out.1; omega
          obtain ⟨g8, rfl⟩ := OwnR.ptr HM.out.1 (by omega)
          obtain ⟨P, U, Q, f1, f2, f3, f4, f5, hP, hQ⟩ := mix_nums (q := q) (N := N) (z := zt) (by omega) hOl
          obtain ⟨y, hy⟩ := getD_of (L := M) (k := P) (by omega)
          obtain ⟨z, hz⟩ := getD_of (L := M) (k := Q) (by omega)
          have HPQ := Lib.hid (And.intro hy (And.intro hz (And.intro (show P < M.length by omega) (show Q < M.length by omega))))
          have hPI : (P : Int) < (N : Int) := by omega
          have hQI : (Q : Int) < (N : Int) := by omega
          have g4 : (0 : Int) < (N : Int) := by omega
          have hNI : ¬ (N : Int) = 0 := by omega
          have hN9 := hOl
          obtain ⟨v1, ev1⟩ : ∃ v, v = wr := ⟨_, rfl⟩
          subst ev1
          clear hy hz hMN
          go_upto_region 21 with fail
          clear c0
          refine wp_region_inv 12 [80, 81, 82, 83, 84, 85, 86, 87, 88, 89, 90, 14] [.val (.int .i64 (q : Int)), .val (.slice (some ⟨g8, 0, none⟩) N c8), .val (.int .i64 (N : Int)), .val (.int .i64 (P : Int)), .val (.int .i64 zt), .val (.int .u64 (U : Int)), .val (.slice (some ⟨g8, 0, none⟩) N c8), .val (.int .i64 (N : Int)), .val (.int .u64 (N : Int)), .val (.int .u64 (Q : Int)), .val (.int .i64 (Q : Int)), .val (.int .i64 (P : Int))] (fun wz => Below v1.heap.size v1 wz) (by kernel_rfl) (by kernel_rfl) (fun wz wz' hz hb => hz.trans (hb.mono hz.size)) ((Below.refl _ _).drew) (fun u => by simp only [puts, List.foldl_cons, List.foldl_nil]; go_simp; exact rfl) ?_ ?_
          · simp only [List.take_succ_cons, List.take_zero]
            refine Obs.cons (fun u w hS hd => ?_) ?_
            · exact Gv.run (.int .i64 (q : Int)) rfl (by go_simp) rfl
            refine Obs.cons (fun u w hS hd => ?_) ?_
            · exact Gv.run (.slice (some ⟨g8, 0, none⟩) N c8) rfl (by go_simp) rfl
            refine Obs.cons (fun u w hS hd => ?_) ?_
            · have d81 : u 81 = .slice (some ⟨g8, 0, none⟩) N c8 := dep hd 1 rfl
              rw [d81]
              exact Gv.run (.int .i64 (N : Int)) rfl (by go_simp) rfl
            refine Obs.cons (fun u w hS hd => ?_) ?_
            · have d80 : u 80 = .int .i64 (q : Int) := dep hd 0 rfl
              have d82 : u 82 = .int .i64 (N : Int) := dep hd 2 rfl
              rw [d80, d82]
              exact Gv.run (.int .i64 (P : Int)) rfl (by go_simp) rfl
            refine Obs.cons (fun u w hS hd => ?_) ?_
            · exact Gv.run (.int .i64 zt) rfl (by go_simp) rfl
            refine Obs.cons (fun u w hS hd => ?_) ?_
            · have d84 : u 84 = .int .i64 zt := dep hd 4 rfl
              rw [d84]
              exact Gv.run (.int .u64 (U : Int)) rfl (by go_simp) rfl
            refine Obs.cons (fun u w hS hd => ?_) ?_
            · exact Gv.run (.slice (some ⟨g8, 0, none⟩) N c8) rfl (by go_simp) rfl
            refine Obs.cons (fun u w hS hd => ?_) ?_
            · have d86 : u 86 = .slice (some ⟨g8, 0, none⟩) N c8 := dep hd 6 rfl
              rw [d86]
              exact Gv.run (.int .i64 (N : Int)) rfl (by go_simp) rfl
            refine Obs.cons (fun u w hS hd => ?_) ?_
            · have d87 : u 87 = .int .i64 (N : Int) := dep hd 7 rfl
              rw [d87]
              exact Gv.run (.int .u64 (N : Int)) rfl (by go_simp) rfl
            refine Obs.cons (fun u w hS hd => ?_) ?_
            · have d85 : u 85 = .int .u64 (U : Int) := dep hd 5 rfl
              have d88 : u 88 = .int .u64 (N : Int) := dep hd 8 rfl
              rw [d85, d88]
              exact Gv.run (.int .u64 (Q : Int)) rfl (by go_simp) rfl
            refine Obs.cons (fun u w hS hd => ?_) ?_
            · have d89 : u 89 = .int .u64 (Q : Int) := dep hd 9 rfl
              rw [d89]
              exact Gv.run (.int .i64 (Q : Int)) rfl (by go_simp) rfl
            refine Obs.cons (fun u w hS hd => ?_) ?_
            · have d83 : u 83 = .int .i64 (P : Int) := dep hd 3 rfl
              rw [d83]
              exact Gv.run (.int .i64 (P : Int)) rfl (by go_simp) rfl
            exact Obs.nil
          intro u v2 hS hd
          have d90 : u 90 = .int .i64 (Q : Int) := hd 10 (by decide)
          have d14 : u 14 = .int .i64 (P : Int) := hd 11 (by decide)
          rw [d90]
          simp only [List.drop_succ_cons, List.drop_zero]
          have HM' := Lib.hid (And.intro (HM.out.1.keep hS) (HM.out.2.trans (hS.mono HM.out.2.size)))
          clear hS hd HM f1 f2 f3 f4 f5
          have HM := HM'
          clear HM'
          rw [d14]
          clear d90 d14
          go_upto_region 22 with fail
          refine wp_region_par 15 17 [some 91, some 92, some 93, some 94, some 95, some 96, some 97, some 98, some 99, some 100, some 101, some 102, some 103, none, some 104] [13] [some (.slice (some ⟨g8, 0, none⟩) N c8), some (.int .i64 (P : Int)), some (.slice (some ⟨g8, 0, none⟩) N c8), some (.int .i64 (Q : Int)), some (.slice (some ⟨g8, 0, none⟩) N c8), some (.int .i64 (Q : Int)), some (.pointer (some ⟨g8, Q * 9, none⟩)), some (.agg #[.int .i64 z.kind, .int .i64 z.ins.id.1, .int .i64 z.ins.id.2, .int .i64 z.ins.par.1, .int .i64 z.ins.par.2, .bool z.ins.right, .int .i32 z.ins.rune, .int .i64 z.drop.1, .int .i64 z.drop.2]), some (.slice (some ⟨g8, 0, none⟩) N c8), some (.int .i64 (P : Int)), some (.pointer (some ⟨g8, P * 9, none⟩)), some (.agg #[.int .i64 y.kind, .int .i64 y.ins.id.1, .int .i64 y.ins.id.2, .int .i64 y.ins.par.1, .int .i64 y.ins.par.2, .bool y.ins.right, .int .i32 y.ins.rune, .int .i64 y.drop.1, .int .i64 y.drop.2]), some (.pointer (some ⟨g8, P * 9, none⟩)), none, some (.pointer (some ⟨g8, Q * 9, none⟩))] (fun Lb _ wz => (Lb 13 = false → OwnR doE wz vo.heap.size 35 (some ⟨g8, 0, none⟩) c8 M) ∧ (Lb 13 = true → OwnR doE wz vo.heap.size 35 (some ⟨g8, 0, none⟩) c8 (M.set P z)) ∧ Below vo.heap.size vo wz) (by kernel_rfl) (by kernel_rfl)
            (fun _ => ⟨fun _ => HM.out.1, fun h => absurd h (by decide), HM.out.2.trans ((Below.refl vo.heap.size v2).drew)⟩) (fun u => by simp only [List.filterMap_cons, List.filterMap_nil, puts, List.foldl_cons, List.foldl_nil]; go_simp; exact rfl) ?_ ?_
          · simp only [List.take_succ_cons, List.take_zero]
            refine Par.soft rfl rfl (.slice (some ⟨g8, 0, none⟩) N c8) rfl (fun u w Lb Vb hT hh => ⟨rfl, by go_simp⟩) ?_
            refine Par.soft rfl rfl (.int .i64 (P : Int)) rfl (fun u w Lb Vb hT hh => ⟨rfl, by go_simp⟩) ?_
            refine Par.soft rfl rfl (.slice (some ⟨g8, 0, none⟩) N c8) rfl (fun u w Lb Vb hT hh => ⟨rfl, by go_simp⟩) ?_
            refine Par.soft rfl rfl (.int .i64 (Q : Int)) rfl (fun u w Lb Vb hT hh => ⟨rfl, by go_simp⟩) ?_
            refine Par.soft rfl rfl (.slice (some ⟨g8, 0, none⟩) N c8) rfl (fun u w Lb Vb hT hh => ⟨rfl, by go_simp⟩) ?_
            refine Par.soft rfl rfl (.int .i64 (Q : Int)) rfl (fun u w Lb Vb hT hh => ⟨rfl, by go_simp⟩) ?_
            refine Par.soft rfl rfl (.pointer (some ⟨g8, Q * 9, none⟩)) rfl (fun u w Lb Vb hT hh => ⟨rfl, by have d95 : u 95 = .slice (some ⟨g8, 0, none⟩) N c8 := hh.val 4 _ rfl rfl; have d96 : u 96 = .int .i64 (Q : Int) := hh.val 5 _ rfl rfl; rw [d95, d96]; go_simp⟩) ?_
            refine Par.soft rfl rfl (.agg #[.int .i64 z.kind, .int .i64 z.ins.id.1, .int .i64 z.ins.id.2, .int .i64 z.ins.par.1, .int .i64 z.ins.par.2, .bool z.ins.right, .int .i32 z.ins.rune, .int .i64 z.drop.1, .int .i64 z.drop.2]) rfl (fun u w Lb Vb hT hh => ⟨rfl, by have d97 : u 97 = .pointer (some ⟨g8, Q * 9, none⟩) := hh.val 6 _ rfl rfl; rw [d97]; obtain ⟨⟨k0, k1, k2, k3, k4, k5, k6, k7, k8⟩, _⟩ := (hT.1 (hh.not_ 13 (by rfl))).nine HPQ.out.2.1; go_simp⟩) ?_
            refine Par.soft rfl rfl (.slice (some ⟨g8, 0, none⟩) N c8) rfl (fun u w Lb Vb hT hh => ⟨rfl, by go_simp⟩) ?_
            refine Par.soft rfl rfl (.int .i64 (P : Int)) rfl (fun u w Lb Vb hT hh => ⟨rfl, by go_simp⟩) ?_
            refine Par.soft rfl rfl (.pointer (some ⟨g8, P * 9, none⟩)) rfl (fun u w Lb Vb hT hh => ⟨rfl, by have d99 : u 99 = .slice (some ⟨g8, 0, none⟩) N c8 := hh.val 8 _ rfl rfl; have d100 : u 100 = .int .i64 (P : Int) := hh.val 9 _ rfl rfl; rw [d99, d100]; go_simp⟩) ?_
            refine Par.soft rfl rfl (.agg #[.int .i64 y.kind, .int .i64 y.ins.id.1, .int .i64 y.ins.id.2, .int .i64 y.ins.par.1, .int .i64 y.ins.par.2, .bool y.ins.right, .int .i32 y.ins.rune, .int .i64 y.drop.1, .int .i64 y.drop.2]) rfl (fun u w Lb Vb hT hh => ⟨rfl, by have d101 : u 101 = .pointer (some ⟨g8, P * 9, none⟩) := hh.val 10 _ rfl rfl; rw [d101]; obtain ⟨⟨k0, k1, k2, k3, k4, k5, k6, k7, k8⟩, _⟩ := (hT.1 (hh.not_ 13 (by rfl))).nine HPQ.out.1; go_simp⟩) ?_
            refine Par.soft rfl rfl (.pointer (some ⟨g8, P * 9, none⟩)) rfl (fun u w Lb Vb hT hh => ⟨rfl, by have d91 : u 91 = .slice (some ⟨g8, 0, none⟩) N c8 := hh.val 0 _ rfl rfl; have d92 : u 92 = .int .i64 (P : Int) := hh.val 1 _ rfl rfl; rw [d91, d92]; go_simp⟩) ?_
            refine Par.hard rfl (fun u wz Lb Vb hT hh => ?_) ?_
            · have d103 : u 103 = .pointer (some ⟨g8, P * 9, none⟩) := hh.val 12 _ rfl rfl
              have d98 : u 98 = .agg #[.int .i64 z.kind, .int .i64 z.ins.id.1, .int .i64 z.ins.id.2, .int .i64 z.ins.par.1, .int .i64 z.ins.par.2, .bool z.ins.right, .int .i32 z.ins.rune, .int .i64 z.drop.1, .int .i64 z.drop.2] := hh.val 7 _ rfl rfl
              rw [d103, d98]
              have oz := hT.1 (by cases hb : Lb 13 with | false => rfl | true => exact absurd hb (by rw [hh.not_ 13 (by rfl)]; decide))
              obtain ⟨⟨k0, k1, k2, k3, k4, k5, k6, k7, k8⟩, fr⟩ := oz.nine HPQ.out.1
              obtain ⟨oput, bput⟩ := oz.put9 (p := P) HPQ.out.2.2.1 z
              refine StepP.store (set9 wz g8 (P * 9) z) rfl rfl (by unfold set9; go_simp) ⟨fun c hc => by simp at hc, fun h => absurd h (by simp [lset]), fun _ => oput, hT.2.2.trans (bput.mono (Nat.le_refl _))⟩
            refine Par.soft rfl rfl (.pointer (some ⟨g8, Q * 9, none⟩)) rfl (fun u w Lb Vb hT hh => ⟨rfl, by have d93 : u 93 = .slice (some ⟨g8, 0, none⟩) N c8 := hh.val 2 _ rfl rfl; have d94 : u 94 = .int .i64 (Q : Int) := hh.val 3 _ rfl rfl; rw [d93, d94]; go_simp⟩) Par.nil

          · rintro u v5 hv ⟨Lb, Vb, ⟨_, t1, t2⟩, hl⟩
            have oz := t1 (hl 13 (by decide) rfl).1
            have d104 : u 104 = .pointer (some ⟨g8, Q * 9, none⟩) := hv 14 _ (by decide) rfl
            have d102 : u 102 = .agg #[.int .i64 y.kind, .int .i64 y.ins.id.1, .int .i64 y.ins.id.2, .int .i64 y.ins.par.1, .int .i64 y.ins.par.2, .bool y.ins.right, .int .i32 y.ins.rune, .int .i64 y.drop.1, .int .i64 y.drop.2] := hv 11 _ (by decide) rfl
            rw [d104, d102]
            obtain ⟨⟨k0, k1, k2, k3, k4, k5, k6, k7, k8⟩, fr⟩ := oz.nine (p := Q) (x := z) (by
              rw [List.getElem?_set]
              by_cases hPQ : P = Q
              · rw [if_pos hPQ, if_pos HPQ.out.2.2.1]
              · rw [if_neg hPQ]; exact HPQ.out.2.1)
            have HZ := Lib.hid (oz.put9 (p := Q) (by rw [List.length_set]; exact HPQ.out.2.2.2) y)
            have HB2 := Lib.hid t2
            clear hv hl t1 t2 oz d104 d102
            simp only [List.drop_succ_cons, List.drop_zero]
            go_wp2_with fail
            go_roundw
            case rel => exact ⟨q + 1, HQ.out.1, by go_num, swapL M P Q y z, by rw [swap_len]; exact HQ.out.2.1, fun a => (swap_mem HPQ.out.1 HPQ.out.2.1 a).trans (HQ.out.2.2 a), HZ.out.1, HB2.out.trans HZ.out.2⟩
            case measure => simp [intF]; have := HQ.out.1; omega
        · obtain rfl : q = n' := by omega
          obtain ⟨vp, evp⟩ : ∃ v, v = wr := ⟨_, rfl⟩
          subst evp
          have hO : OwnR doE vp w.heap.size 35 Ao co O_ := OwnR.keep0 HON.out.1 (fun ad e => hbr.block _ (OwnR.blk HON.out.1 ad e).2)
          have HSA := Lib.hid (settled_any K HAP.out.2.symm (by omega) vp hO.rd)
          have HM := Lib.hid (And.intro hM (And.intro hMN hMO))
          have HB := Lib.hid (HON.out.2.trans (hbr.mono HON.out.2.size))
          clear hO hM hMN hMO hbr hlt hq HON HR'
          go_wp2_with fail
          go_at_call 29
          refine HSA.out.mono ?_
          rintro e v1 ⟨pa, rfl, ha⟩
          have HSB := Lib.hid (settled_any K HM.out.2.1 (by omega) v1 (HM.out.1.keep ha.base).rd)
          have HA := Lib.hid ha
          clear ha HSA
          go_wp2_with fail
          go_at_call 29
          refine HSB.out.mono ?_
          rintro e v2 ⟨pb, rfl, hb⟩
          obtain ⟨hne, hgo⟩ := settled_one right_fair (l := O_.map actOf) (m := M.map actOf) (fun a => by
            simp only [List.mem_map]
            exact ⟨fun ⟨x, h1, h2⟩ => ⟨x, (HM.out.2.2 x).2 h1, h2⟩, fun ⟨x, h1, h2⟩ => ⟨x, (HM.out.2.2 x).1 h1, h2⟩⟩) (apart_unlike HAP.out.1) (by rw [List.length_map, ← HAP.out.2]; omega) (by rw [List.length_map, HM.out.2.1]; omega)
          have hoa := setK_ok (l := O_) (O_.length + 1) 0
          have hob := setK_ok (l := M) (M.length + 1) 0
          rw [setK_all] at hoa hob
          rw [← HAP.out.2] at hoa
          rw [HM.out.2.1] at hob
          obtain ⟨ta, eta⟩ : ∃ t, t = settledT rightB (O_.map actOf) := ⟨_, rfl⟩
          obtain ⟨tb, etb⟩ : ∃ t, t = settledT rightB (M.map actOf) := ⟨_, rfl⟩
          have HA2 := SetR.keep K HA.out hb.base
          rw [← eta] at hne hgo hoa HA2
          rw [← etb] at hne hgo hob hb
          have hon : ∀ i, goneB tb.G i = goneB ta.G i := fun i => by rw [goneB_eq, goneB_eq]; exact decide_eq_decide.2 (hgo i).symm
          have hrows : (nodesL tb.L).map (nodeOf tb.G) = (nodesL ta.L).map (nodeOf ta.G) := by
            rw [← hne]
            exact List.map_congr_left fun x _ => by unfold nodeOf; rw [hon]
          have hlive : (liveL tb.G (nodesL tb.L)).map (nodeOf tb.G) = (liveL ta.G (nodesL ta.L)).map (nodeOf ta.G) := by
            rw [← live_nodes, ← live_nodes, hrows]
          obtain ⟨F1, a1, _, _⟩ := HA2
          obtain ⟨F2, a2, _, hb2⟩ := hb
          have hla : ta.L.length ≤ 4096 := by omega
          have hlb : tb.L.length ≤ 4096 := by omega
          obtain ⟨m, em⟩ : ∃ m, m = (nodesL ta.L).length := ⟨_, rfl⟩
          have hm4 : m ≤ 4096 := by rw [em]; exact Nat.le_trans (nodes_len hoa.1) hla
          obtain ⟨TX, eTX⟩ : ∃ t, t = textN ((liveL ta.G (nodesL ta.L)).map (nodeOf ta.G)) := ⟨_, rfl⟩
          have HNA := fun wz (hz : Below v2.heap.size v2 wz) => K.nodes wz (K.next a1 hz) hoa.1 hla
          have HNB := fun wz (hz : Below v2.heap.size v2 wz) => K.nodes wz (K.next a2 hz) hob.1 hlb
          have HTA := fun wz (hz : Below v2.heap.size v2 wz) => K.text wz (K.next a1 hz) hoa.1 hla
          have HTB := fun wz (hz : Below v2.heap.size v2 wz) => K.text wz (K.next a2 hz) hob.1 hlb
          rw [hrows, ← hne, ← em] at HNB
          rw [← em] at HNA
          rw [hlive, ← eTX] at HTB
          rw [← eTX] at HTA
          have HNA := Lib.hid HNA
          have HNB := Lib.hid HNB
          have HTA := Lib.hid HTA
          have HTB := Lib.hid HTB
          have HML := Lib.hid (show ((nodesL ta.L).map (nodeOf ta.G)).length = m by rw [List.length_map, em])
          have HB2 := Lib.hid (HB.out.trans ((HA.out.base.trans (hb2.mono HA.out.base.size)).mono HB.out.size))
          clear hne hgo hoa hob eta etb hon hrows hlive a1 a2 hb2 hla hlb em eTX HM HA HB HAP
          go_wp2_with fail
          go_at_call 15
          refine (HNA.out v2 (Below.refl _ _)).mono ?_
          rintro e v3 ⟨AA, cA, rfl, rA, _, h3⟩
          have H3 := Lib.hid (And.intro rA h3)
          clear rA h3 HNA
          go_wp2_with fail
          go_at_call 15
          refine (HNB.out v3 H3.out.2).mono ?_
          rintro e v4 ⟨AB, cB, rfl, rB, _, h4⟩
          have HSM := rsame_any v4 (H3.out.1.next h4) rB (Nat.le_refl _) (Nat.le_refl _) (by rw [HML.out]; exact Nat.le_trans hm4 (by decide))
          rw [HML.out, sameB_yes rfl] at HSM
          have HSM := Lib.hid HSM
          have H4 := Lib.hid (H3.out.2.trans (h4.mono H3.out.2.size))
          clear rB h4 HNB H3
          go_wp2_with fail
          go_at_call 14
          refine HSM.out.mono ?_
          rintro e v5 ⟨rfl, h5⟩
          have H5 := Lib.hid (H4.out.trans (h5.mono H4.out.size))
          clear h5 HSM H4
          go_wp2_with fail
          go_at_call 17
          refine (HTA.out v5 H5.out).mono ?_
          rintro e v6 ⟨rfl, h6⟩
          have H6 := Lib.hid (H5.out.trans (h6.mono H5.out.size))
          clear h6 HTA H5
          go_wp2_with fail
          go_at_call 17
          refine (HTB.out v6 H6.out).mono ?_
          rintro e v7 ⟨rfl, h7⟩
          have H7 := Lib.hid (H6.out.trans (h7.mono H6.out.size))
          clear h7 HTB H6
          go_wp2_with fail
          go_at_call 11
          refine (awake15 K v7).mono ?_
          rintro z v9 ⟨rfl, h0⟩
          have H9 := Lib.hid (HB2.out.trans ((H7.out.trans (h0.mono H7.out.size)).mono HB2.out.size))
          clear h0
          go_wp2_with fail
          go_ret
          exact ⟨rfl, H9.out⟩
end
end Go.Proofs.Ytljciakgdpihdaa
