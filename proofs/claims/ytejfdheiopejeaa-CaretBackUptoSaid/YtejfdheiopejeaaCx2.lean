/-
  Layer 17: the document's Width, Places. By an AI agent.
-/
import Derived.Test.YtejfdheiopejeaaCx1
import Derived.Test.YtejfdheiopejeaaFd1
namespace Go.Proofs.Ytejfdheiopejeaa
open Go Go.RowKit
set_option maxRecDepth 20000
theorem infoSpot : (Try.prog.info? 32).map (fun i => (i.zero, i.size, i.bytes)) = some (some (.agg #[.int .i64 0, .int .i64 0]), 2, 16) := by kernel_rfl
theorem rwidth_any (c : Int) (w : World) : Calls Try.prog 13 #[.int .i32 c] w fun e w' => e = .returned (.int .i64 (wdR c)) ∧ w' = w := by
  go_enter Try.func13, Try.ntmps13
  by_cases h1 : c = 10
  · subst h1
    go_wp2_with fail
    go_ret
    exact ⟨rfl, rfl⟩
  · by_cases h2 : 4352 ≤ c
    · have HE := Lib.hid (show wdR c = 2 by unfold wdR; rw [if_neg h1, if_pos h2])
      go_wp2_with fail
      go_ret
      exact ⟨by rw [HE.out]; rfl, rfl⟩
    · have HE := Lib.hid (show wdR c = 1 by unfold wdR; rw [if_neg h1, if_neg h2])
      go_wp2_with fail
      go_ret
      exact ⟨by rw [HE.out]; rfl, rfl⟩
set_option maxHeartbeats 6400000 in
theorem rplaces_bad {s : ByteArray} {k : Int} (h : k < 2 ∨ 200 < k) (w : World) :
    Calls Try.prog 9 #[.string s, .int .i64 k] w fun e w' => e = .returned (.tuple #[.slice none 0 0, .int .i64 6]) ∧ w' = w := by
  go_enter Try.func9, Try.ntmps9
  by_cases h1 : k < 2
  · clear h
    go_wp2_with fail
    go_returns
    exact ⟨rfl, rfl⟩
  · have h2 : 200 < k := h.resolve_left h1
    clear h
    go_wp2_with fail
    go_returns
    exact ⟨rfl, rfl⟩
set_option maxHeartbeats 12800000 in
theorem rplaces_any {s : ByteArray} {k : Int} (hk : 2 ≤ k ∧ k ≤ 200) (hs : s.size ≤ 1048576) (w : World) :
    Calls Try.prog 9 #[.string s, .int .i64 k] w fun e w' => ∃ A c, e = .returned (.tuple #[.slice A (spotsR k (runesFrom s 0) (0, 0)).length c, .int .i64 0]) ∧ OwnR idE w' w.heap.size 32 A c (spotsR k (runesFrom s 0) (0, 0)) ∧ Below w.heap.size w w' := by
  obtain ⟨i0, hi0, hz0, hz1, hz2⟩ := info_parts infoSpot
  have HI := Lib.hid (And.intro hi0 (And.intro hz0 (And.intro hz1 hz2)))
  obtain ⟨v1, ev⟩ : ∃ v, v = w.alloc (.stringIter s 0) := ⟨_, rfl⟩
  obtain ⟨gi, eg⟩ : ∃ g, g = w.heap.size := ⟨_, rfl⟩
  have hb : Below w.heap.size w v1 := by rw [ev]; exact (Below.refl _ _).alloc (Nat.le_refl _) _
  have hit : v1.heap[gi]? = some (.stringIter s 0) := by rw [ev, eg]; exact World.iter_heap w s 0
  have hg : gi < v1.heap.size := by rw [ev, eg]; simp
  have HG := Lib.hid hg
  have HG1 := Lib.hid (show w.heap.size ≤ v1.heap.size from hb.size)
  have HGW := Lib.hid (show w.heap.size ≤ gi by rw [eg]; exact Nat.le_refl _)
  have HB := Lib.hid (And.intro hit hb)
  have HV := Lib.hid (And.intro (show v1 = w.iter s 0 from ev) eg)
  have h1 : ¬ k < 2 := by omega
  have h2 : ¬ 200 < k := by omega
  have HK2 := Lib.hid hk
  have HS := Lib.hid hs
  clear hi0 hz0 hz1 hz2 ev eg hb hit hg hk
  go_enter Try.func9, Try.ntmps9
  go_upto_region 6 with fail
  rw [← HV.out.1, ← HV.out.2]
  clear HV
  go_loopg [6, 7, 8] (s.size) (fun m ov cv lv wr => ∃ p acc col line Ao co, s.size - p = m ∧ cv = .int .i64 col ∧ lv = .int .i64 line ∧ ov = .slice Ao acc.length co ∧ OwnR idE wr v1.heap.size 32 Ao co acc ∧ wr.heap[gi]? = some (.stringIter s p) ∧ v1.heap.size ≤ wr.heap.size ∧ Below w.heap.size w wr ∧ p ≤ s.size ∧ acc ++ spotsR k (runesFrom s p) (col, line) = spotsR k (runesFrom s 0) (0, 0) ∧ (0 ≤ col ∧ col ≤ k ∧ 0 ≤ line ∧ line ≤ 2 * (p : Int)) ∧ acc.length ≤ p)
  case atStart => exact ⟨0, [], 0, 0, none, 0, Nat.sub_zero _, rfl, rfl, rfl, OwnR.nothing _ _ _ _, HB.out.1, Nat.le_refl _, HB.out.2, Nat.zero_le _, rfl, ⟨Int.le_refl _, by have := HK2.out; omega, Int.le_refl _, Int.le_refl _⟩, Nat.zero_le _⟩
  case round =>
    obtain ⟨p, acc, col, line, Ao, co, hm, rfl, rfl, rfl, oo, hit, hsz, hbw, hps, hsp, ⟨hc0, hck, hl0, hlp⟩, hac⟩ := hrel
    clear HB
    by_cases hp : p < s.size
    · have hdw := dec_width s p
      have hcr := dec_rune s p
      have hrn := runes_next hp
      have hnx := fun ty => run_next_str (P := Try.prog) ty hit hp
      have hits := fun q => itS_at hit s q
      obtain ⟨d, ed⟩ : ∃ d, d = (Utf8.decode s p).2 := ⟨_, rfl⟩
      obtain ⟨c, ec⟩ : ∃ c, c = ((Utf8.decode s p).1 : Int) := ⟨_, rfl⟩
      rw [← ed, ← ec] at hnx hrn
      rw [← ed] at hdw
      have hc9 : 0 ≤ c ∧ c ≤ 1114111 := by rw [ec]; omega
      obtain ⟨v2, e2⟩ : ∃ v, v = itS wr gi s (p + d) := ⟨_, rfl⟩
      have hit2 := hits (p + d)
      rw [← e2] at hnx hit2
      have H2 := Lib.hid (And.intro (show OwnR idE v2 v1.heap.size 32 Ao co acc by rw [e2]; exact oo.keep0 fun ad e => itS_other wr (fun h => by have h1 := (OwnR.blk oo ad e).1; have h2 := HG.out; omega) s _) (And.intro hit2 (And.intro (show v1.heap.size ≤ v2.heap.size by rw [e2, itS_size]; exact hsz) (show Below w.heap.size w v2 by rw [e2]; exact hbw.trans (itS_below wr HGW.out s _)))))
      obtain ⟨wd, ewd⟩ : ∃ q, q = wdR c := ⟨_, rfl⟩
      have HWD := Lib.hid ewd.symm
      have hwd : 0 ≤ wd ∧ wd ≤ 2 := by rw [ewd]; exact wdR_le c
      obtain ⟨n, en⟩ : ∃ q, q = acc.length := ⟨_, rfl⟩
      rw [← en] at hac
      have HM := Lib.hid en.symm
      have hs9 := HS.out
      have hk9 := HK2.out
      have HLN := Lib.hid (show n + 1 ≤ 140737488355328 ∧ (n + 1) * 16 ≤ 140737488355328 by omega)
      have hpd : p + d ≤ s.size := by
        rw [ed]
        exact dec_in hp
      have HP := Lib.hid (show s.size - (p + d) < gk ∧ n ≤ p ∧ 1 ≤ d ∧ p + d ≤ s.size ∧ 0 ≤ col ∧ col ≤ k ∧ 0 ≤ line ∧ line ≤ 2 * (p : Int) ∧ 0 ≤ wd ∧ wd ≤ 2 ∧ 2 ≤ k by omega)
      have HC := Lib.hid (And.intro ec hrn)
      rw [← en]
      clear hit hits oo hsz hbw e2 ed hcr hrn hdw en hit2 hpd hp ec ewd
      by_cases hc : c = 10
      · obtain rfl : c = 10 := hc
        obtain rfl : wd = 0 := by rw [← HWD.out]; rfl
        have q1 : ¬ k < col := by omega
        have hcap : capR k (col, line) 10 = (col, line) := by unfold capR; rw [if_neg (fun h => h.2 rfl)]
        have hpen : penR k (col, line) 10 = (0, line + 1) := by unfold penR; rw [if_pos rfl, hcap]
        have HSP := Lib.hid (show acc ++ ((col, line) :: spotsR k (runesFrom s (p + d)) (0, line + 1)) = spotsR k (runesFrom s 0) (0, 0) by rw [← hsp, HC.out.2, spotsR, hcap, hpen])
        clear hsp hcap hpen
        go_wp2_with fail
        go_at_call 13
        refine (rwidth_any 10 v2).mono ?_
        rintro z wz ⟨rfl, hwz⟩
        rw [hwz, HWD.out]
        clear hwz wz
        go_upto_region 12 with (at_builtin; refine wpList_appR1 v2 rfl (.tmp 34) (.tmp 38) _ rfl v1.heap.size 32 i0 _ Try.underlying26 HI.out.1 HI.out.2.1 HI.out.2.2.1 HI.out.2.2.2 rfl HM.out rfl H2.out.1 (y := ((col, line) : IDt)) rfl rfl HLN.out.1 HLN.out.2 H2.out.2.2.1 ?_; intro A8 c8 w8 o8 hb8 hg8; have HW8 := Lib.hid (And.intro o8 (And.intro ((hb8.block gi HG.out).trans H2.out.2.1) (And.intro (Nat.le_trans H2.out.2.2.1 hb8.size) (H2.out.2.2.2.trans (hb8.mono HG1.out))))); clear o8 hb8 hg8)
        go_wp2_with fail
        go_at_call 13
        refine (rwidth_any 10 w8).mono ?_
        rintro z wz ⟨rfl, hwz⟩
        rw [hwz, HWD.out]
        clear hwz wz
        go_wp2_with fail
        go_roundg (s.size - (p + d))
        case measure => have := HP.out; omega
        case rel => exact ⟨p + d, acc ++ [((col, line) : IDt)], (0), (line + 1), A8, c8, rfl, by go_num, by go_num, by rw [List.length_append, List.length_singleton, HM.out], HW8.out.1, HW8.out.2.1, HW8.out.2.2.1, HW8.out.2.2.2, HP.out.2.2.2.1, by rw [List.append_assoc]; exact HSP.out, by have := HP.out; omega, by rw [List.length_append, List.length_singleton, HM.out]; have := HP.out; omega⟩
      · by_cases hq : k < col + wd
        · skip
          have hcap : capR k (col, line) c = (0, line + 1) := by unfold capR; rw [HWD.out, if_pos ⟨hq, hc⟩]
          have hpen : penR k (col, line) c = (wd, line + 1) := by unfold penR; rw [if_neg hc, hcap, HWD.out]; show (0 + wd, line + 1) = _; rw [Int.zero_add]
          have HSP := Lib.hid (show acc ++ ((0, line + 1) :: spotsR k (runesFrom s (p + d)) (wd, line + 1)) = spotsR k (runesFrom s 0) (0, 0) by rw [← hsp, HC.out.2, spotsR, hcap, hpen])
          clear hsp hcap hpen
          go_wp2_with fail
          go_at_call 13
          refine (rwidth_any c v2).mono ?_
          rintro z wz ⟨rfl, hwz⟩
          rw [hwz, HWD.out]
          clear hwz wz
          go_upto_region 12 with (at_builtin; refine wpList_appR1 v2 rfl (.tmp 34) (.tmp 38) _ rfl v1.heap.size 32 i0 _ Try.underlying26 HI.out.1 HI.out.2.1 HI.out.2.2.1 HI.out.2.2.2 rfl HM.out rfl H2.out.1 (y := ((0, line + 1) : IDt)) rfl rfl HLN.out.1 HLN.out.2 H2.out.2.2.1 ?_; intro A8 c8 w8 o8 hb8 hg8; have HW8 := Lib.hid (And.intro o8 (And.intro ((hb8.block gi HG.out).trans H2.out.2.1) (And.intro (Nat.le_trans H2.out.2.2.1 hb8.size) (H2.out.2.2.2.trans (hb8.mono HG1.out))))); clear o8 hb8 hg8)
          go_wp2_with fail
          go_at_call 13
          refine (rwidth_any c w8).mono ?_
          rintro z wz ⟨rfl, hwz⟩
          rw [hwz, HWD.out]
          clear hwz wz
          go_wp2_with fail
          go_roundg (s.size - (p + d))
          case measure => have := HP.out; omega
          case rel => exact ⟨p + d, acc ++ [((0, line + 1) : IDt)], (wd), (line + 1), A8, c8, rfl, by go_num, by go_num, by rw [List.length_append, List.length_singleton, HM.out], HW8.out.1, HW8.out.2.1, HW8.out.2.2.1, HW8.out.2.2.2, HP.out.2.2.2.1, by rw [List.append_assoc]; exact HSP.out, by have := HP.out; omega, by rw [List.length_append, List.length_singleton, HM.out]; have := HP.out; omega⟩
        · skip
          skip
          have hcap : capR k (col, line) c = (col, line) := by unfold capR; rw [HWD.out, if_neg (fun h => hq h.1)]
          have hpen : penR k (col, line) c = (col + wd, line) := by unfold penR; rw [if_neg hc, hcap, HWD.out]
          have HSP := Lib.hid (show acc ++ ((col, line) :: spotsR k (runesFrom s (p + d)) (col + wd, line)) = spotsR k (runesFrom s 0) (0, 0) by rw [← hsp, HC.out.2, spotsR, hcap, hpen])
          clear hsp hcap hpen
          go_wp2_with fail
          go_at_call 13
          refine (rwidth_any c v2).mono ?_
          rintro z wz ⟨rfl, hwz⟩
          rw [hwz, HWD.out]
          clear hwz wz
          go_upto_region 12 with (at_builtin; refine wpList_appR1 v2 rfl (.tmp 34) (.tmp 38) _ rfl v1.heap.size 32 i0 _ Try.underlying26 HI.out.1 HI.out.2.1 HI.out.2.2.1 HI.out.2.2.2 rfl HM.out rfl H2.out.1 (y := ((col, line) : IDt)) rfl rfl HLN.out.1 HLN.out.2 H2.out.2.2.1 ?_; intro A8 c8 w8 o8 hb8 hg8; have HW8 := Lib.hid (And.intro o8 (And.intro ((hb8.block gi HG.out).trans H2.out.2.1) (And.intro (Nat.le_trans H2.out.2.2.1 hb8.size) (H2.out.2.2.2.trans (hb8.mono HG1.out))))); clear o8 hb8 hg8)
          go_wp2_with fail
          go_at_call 13
          refine (rwidth_any c w8).mono ?_
          rintro z wz ⟨rfl, hwz⟩
          rw [hwz, HWD.out]
          clear hwz wz
          go_wp2_with fail
          go_roundg (s.size - (p + d))
          case measure => have := HP.out; omega
          case rel => exact ⟨p + d, acc ++ [((col, line) : IDt)], (col + wd), (line), A8, c8, rfl, by go_num, by go_num, by rw [List.length_append, List.length_singleton, HM.out], HW8.out.1, HW8.out.2.1, HW8.out.2.2.1, HW8.out.2.2.2, HP.out.2.2.2.1, by rw [List.append_assoc]; exact HSP.out, by have := HP.out; omega, by rw [List.length_append, List.length_singleton, HM.out]; have := HP.out; omega⟩
    · have hnx := fun ty => run_over_str (P := Try.prog) (w := wr) ty hit hp
      obtain ⟨n, en⟩ : ∃ q, q = acc.length := ⟨_, rfl⟩
      rw [← en] at hac
      have HM := Lib.hid en.symm
      have hend : acc ++ [((col, line) : IDt)] = spotsR k (runesFrom s 0) (0, 0) := by rw [← hsp, runes_end hp]; rfl
      have HE := Lib.hid (And.intro hend.symm (And.intro oo (And.intro hsz hbw)))
      have hs9 := HS.out
      have HLN := Lib.hid (show n + 1 ≤ 140737488355328 ∧ (n + 1) * 16 ≤ 140737488355328 by omega)
      rw [← en]
      clear hit oo hsz hbw en hsp hend hp hm
      go_wp2_with (at_builtin; refine wpList_appR1 wr rfl (.tmp 48) (.tmp 52) _ rfl v1.heap.size 32 i0 _ Try.underlying26 HI.out.1 HI.out.2.1 HI.out.2.2.1 HI.out.2.2.2 rfl HM.out rfl HE.out.2.1 (y := ((col, line) : IDt)) rfl rfl HLN.out.1 HLN.out.2 HE.out.2.2.1 ?_; intro A8 c8 w8 o8 hb8 hg8; have HW8 := Lib.hid (And.intro o8 (HE.out.2.2.2.trans (hb8.mono HG1.out))); clear o8 hb8 hg8)
      go_returns
      refine ⟨A8, c8, ?_, ?_, HW8.out.2⟩
      · rw [HE.out.1, List.length_append, List.length_singleton, HM.out]
        rfl
      · rw [HE.out.1]
        exact OwnR.mono HW8.out.1 HG1.out
end Go.Proofs.Ytejfdheiopejeaa
