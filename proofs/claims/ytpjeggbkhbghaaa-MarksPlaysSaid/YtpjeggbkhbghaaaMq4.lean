/-
  Layer 16: MarksPlays. By an AI agent.
-/
import Derived.Test.YtpjeggbkhbghaaaTP
import Derived.Test.YtpjeggbkhbghaaaTM
import Derived.Test.YtpjeggbkhbghaaaTR
import Derived.Test.YtpjeggbkhbghaaaChn
namespace Go.Proofs.Ytpjeggbkhbghaaa
open Go Go.RowKit
set_option maxRecDepth 20000
/-- The code's book at p stands for L, the document's row for L'; the box g is no part of either. -/
def BookG (B : BookP) (w0 : World) (g : Nat) (p : Value) (A : Option Addr) (c : Nat) (L L' : List Mrk) (w : World) : Prop :=
  ∃ F : Nat → Prop, B w F p L ∧ RdR mrkE w w.heap.size A c L' ∧ (∀ ad, A = some ad → ad.block < w.heap.size ∧ ¬ F ad.block) ∧ (∀ b, F b → w0.heap.size ≤ b ∧ b ≠ g) ∧ g < w.heap.size ∧ Below w0.heap.size w0 w
section
variable {B : BookP} (M : MarkC B)
include M
theorem BookG.keep {w0 w w' : World} {g : Nat} {p : Value} {A : Option Addr} {c : Nat} {L L' : List Mrk} (h : BookG B w0 g p A c L L' w) (hb : Below w.heap.size w w') : BookG B w0 g p A c L L' w' := by
  obtain ⟨F, h1, h2, h3, h4, h6, h5⟩ := h
  exact ⟨F, M.next h1 hb, h2.next hb, fun ad e => ⟨Nat.lt_of_lt_of_le (h3 ad e).1 hb.size, (h3 ad e).2⟩, h4, Nat.lt_of_lt_of_le h6 hb.size, h5.trans (hb.mono h5.size)⟩
omit M in
theorem BookG.both {w0 w : World} {g : Nat} {p : Value} {A : Option Addr} {c : Nat} {L : List Mrk} (h : BookG B w0 g p A c L L w) : BookBoth B w0 p A c L w := by
  obtain ⟨F, h1, h2, h3, h4, _, h5⟩ := h
  exact ⟨F, h1, h2, h3, fun b hb => (h4 b hb).1, h5⟩
theorem behind_add {w0 w : World} {g : Nat} {p : Value} {A : Option Addr} {c : Nat} {L L' : List Mrk} (h : BookG B w0 g p A c L L' w) (m : Mrk) (hm : MrkB w g m) :
    Calls Try.prog 15 #[p, mrkV m] w fun e w' => e = .returned (.int .i64 (maddR L m).2) ∧ BookG B w0 g p A c (maddR L m).1 L' w' ∧ MrkB w' g m ∧ w.heap.size ≤ w'.heap.size := by
  obtain ⟨F, h1, h2, h3, h4, h6, h5⟩ := h
  refine (M.add m w h1).mono ?_
  rintro e w' ⟨he, F', r, hF, ho⟩
  have hg : ¬ F g := fun hf => (h4 g hf).2 rfl
  refine ⟨he, ⟨F', r, h2.outf ho (fun ad e => (h3 ad e).2), fun ad ha => ⟨Nat.lt_of_lt_of_le (h3 ad ha).1 ho.size, fun hf => ?_⟩, fun b hb => ?_, Nat.lt_of_lt_of_le h6 ho.size, h5.trans (OutF.below ho (fun b hb => (h4 b hb).1) h5.size)⟩, ?_, ho.size⟩
  · rcases hF _ hf with h9 | h9
    · exact (h3 ad ha).2 h9
    · have := (h3 ad ha).1
      omega
  · rcases hF b hb with h9 | h9
    · exact h4 b h9
    · exact ⟨Nat.le_trans h5.size h9, by omega⟩
  · obtain ⟨m0, m1, m2, m3, m4, m5, m6, m7, m8, m9⟩ := hm
    exact ⟨ho.cell h6 hg m0, ho.cell h6 hg m1, ho.cell h6 hg m2, ho.cell h6 hg m3, ho.cell h6 hg m4, ho.cell h6 hg m5, ho.cell h6 hg m6, ho.cell h6 hg m7, ho.cell h6 hg m8, ho.cell h6 hg m9⟩
theorem both_radd {w0 wr w : World} {g : Nat} {p : Value} {A : Option Addr} {c : Nat} {L : List Mrk} (h : BookBoth B w0 p A c L wr) (hw : Below wr.heap.size wr w) (hg : wr.heap.size ≤ g ∧ g < w.heap.size) (m : Mrk) (hl : L.length ≤ 512) :
    Calls Try.prog 12 #[.slice A L.length c, mrkV m] w fun e w' => ∃ A' c', e = .returned (.tuple #[.slice A' (maddR L m).1.length c', .int .i64 (maddR L m).2]) ∧ BookG B w0 g p A' c' L (maddR L m).1 w' ∧ Below w.heap.size w w' := by
  obtain ⟨F, h1, h2, h3, h4, h5⟩ := h
  have hFl := M.le h1
  refine (madd_any m w (h2.next hw) (Nat.le_refl _) rfl hl).mono ?_
  rintro e w' ⟨A', c', he, r, hA, hb⟩
  refine ⟨A', c', he, ⟨F, M.next h1 (hw.trans (hb.mono hw.size)), r, fun ad ha => ?_, fun b hb' => ⟨h4 b hb', by have := hFl b hb'; omega⟩, Nat.lt_of_lt_of_le hg.2 hb.size, h5.trans ((hw.trans (hb.mono hw.size)).mono h5.size)⟩, hb⟩
  rcases hA ad ha with h9 | h9
  · exact ⟨Nat.lt_of_lt_of_le (h3 ad h9).1 (Nat.le_trans hw.size hb.size), (h3 ad h9).2⟩
  · exact ⟨h9.2, fun hf => by have := hFl _ hf; have := hw.size; omega⟩
end
section
variable {R : TreeP} (K : FugC R) {B : BookP} (M : MarkC B)
include K M
set_option maxHeartbeats 6400000 in
theorem marksplays_law {A : Option Addr} {c n : Nat} {ms : List Mrk} (ck au : Int) (w : World) (r : RdR mrkE w w.heap.size A c ms) (hn : ms.length = n) :
    Calls Try.prog 3 #[.slice A n c, .int .i64 ck, .int .i64 au] w fun e w' => e = .returned (.bool true) ∧ Below w.heap.size w w' := by
  have HG := Lib.hid (show n ≤ 60 → ∀ k, Good (maddsL [] (ms.take k)) ∧ (maddsL [] (ms.take k)).length ≤ 60 from fun h60 k => by
    obtain ⟨h1, h2, h3⟩ := maddsL_good (ms.take k) [] Good.nil (by decide)
    have h4 : (ms.take k).length ≤ n := by rw [List.length_take, hn]; exact Nat.min_le_right _ _
    exact ⟨h1, by rw [List.length_nil] at h2; omega⟩)
  have HN := Lib.hid hn
  have HR := Lib.hid (fun wz (hz : Below w.heap.size w wz) => (r.keep hz : RdR mrkE wz w.heap.size A c ms))
  clear r hn
  go_enter Try.func3, Try.ntmps3
  by_cases h60 : 60 < n
  · have g0 : (60 : Int) < (n : Int) := by omega
    clear h60
    go_wp2_with fail
    go_at_call 10
    refine (awake16 K M w).mono ?_
    rintro e v3 ⟨rfl, h3⟩
    have H3 := Lib.hid h3
    clear h3
    go_wp2_with fail
    go_ret
    exact ⟨rfl, H3.out⟩
  have g0 : ¬ (60 : Int) < (n : Int) := by omega
  have HG6 := Lib.hid (And.intro (HG.out (by omega)) (show n ≤ 60 by omega))
  clear h60 HG
  have HNW := Lib.hid (M.new w)
  go_wp2_with fail
  go_at_call 11
  refine HNW.out.mono ?_
  rintro z v1 ⟨p, F, rfl, hB0, hF0, h1⟩
  have HP := Lib.hid (show BookBoth B w p none 0 (maddsL [] (ms.take 0)) v1 from ⟨F, hB0, RdR.nothing mrkE _ _, fun ad h => (by cases h), hF0, h1⟩)
  clear hB0 hF0 h1 HNW g0
  go_wp2_with fail
  go_loopw [8, 20] (fun lv i wr => ∃ k : Nat, k ≤ n ∧ i = .int .i64 (k : Int) ∧ (∃ A c, lv = .slice A (maddsL [] (ms.take k)).length c ∧ BookBoth B w p A c (maddsL [] (ms.take k)) wr)) (fun _ i _ => n - (intF i).toNat)
  case atStart => exact ⟨0, Nat.zero_le _, rfl, none, 0, rfl, HP.out⟩
  case round =>
    obtain ⟨k, hk, rfl, A6, c6, rfl, hp⟩ := hrel
    clear HP
    have hgl := HG6.out.1 k
    have hbw : Below w.heap.size w wr := by obtain ⟨_, _, _, _, _, h⟩ := hp; exact h
    by_cases hlt : k < n
    · have g2 : (k : Int) < (n : Int) := by omega
      obtain ⟨x, hx⟩ := getD_of (L := ms) (k := k) (by rw [HN.out]; exact hlt)
      obtain ⟨b, o, rfl, hbB, m0, m1, m2, m3, m4, m5, m6, m7, m8, m9⟩ := mrk_at (HR.out wr hbw) hx
      obtain ⟨v5, e5⟩ : ∃ v, v = wr.alloc (.cells #[.int .i64 x.clock, .int .i64 x.author, .int .i64 x.from_.id.1, .int .i64 x.from_.id.2, .bool x.from_.behind, .int .i64 x.upto.id.1, .int .i64 x.upto.id.2, .bool x.upto.behind, .int .i64 x.name, .int .i64 x.value] 31) := ⟨_, rfl⟩
      obtain ⟨g5, eg5⟩ : ∃ g, g = wr.heap.size := ⟨_, rfl⟩
      have hb5 : Below wr.heap.size wr v5 := by rw [e5]; exact (Below.refl _ _).alloc (Nat.le_refl _) _
      have hd : g5 < v5.heap.size ∧ wr.heap.size ≤ g5 ∧ MrkB v5 g5 x := ⟨by rw [e5, eg5]; simp, by rw [eg5]; exact Nat.le_refl _, by rw [e5, eg5]; exact mrk_box wr x⟩
      obtain ⟨L0, eL0⟩ : ∃ l, l = maddsL [] (ms.take k) := ⟨_, rfl⟩
      have hst : maddsL [] (ms.take (k + 1)) = (maddR L0 x).1 := by rw [eL0, take_snoc hx, maddsL_snoc]
      have hg2 := HG6.out.1 (k + 1)
      rw [hst] at hg2
      rw [← eL0] at hp hgl ⊢
      have hA := both_radd M hp hb5 ⟨hd.2.1, hd.1⟩ x (Nat.le_trans hgl.2 (by decide))
      obtain ⟨N, eN⟩ : ∃ q, q = (maddR L0 x).1 := ⟨_, rfl⟩
      obtain ⟨E, eE⟩ : ∃ q, q = (maddR L0 x).2 := ⟨_, rfl⟩
      obtain ⟨n2, en2⟩ : ∃ q, q = N.length := ⟨_, rfl⟩
      obtain ⟨n0, en0⟩ : ∃ q, q = L0.length := ⟨_, rfl⟩
      obtain ⟨rt, ert⟩ : ∃ q, q = rightM x := ⟨_, rfl⟩
      obtain ⟨hb, ehb⟩ : ∃ q, q = mhasB N ck au := ⟨_, rfl⟩
      rw [← eN, ← eE, ← en2, ← en0] at hA
      rw [← eN] at hst hg2
      rw [← en0]
      have HA := Lib.hid hA
      have HT := Lib.hid (And.intro hg2.1 hst)
      have HL9 := Lib.hid (show N.length ≤ 1000000 from Nat.le_trans hg2.2 (by decide))
      have HEE := Lib.hid eE.symm
      have HNN := Lib.hid eN.symm
      have HLN := Lib.hid en2.symm
      have HRT := Lib.hid ert.symm
      have HHB := Lib.hid ehb.symm
      have E5 := Lib.hid (And.intro e5 eg5)
      have HDD := Lib.hid hd
      have HK := Lib.hid hlt
      clear hbB hb5 hd hp hgl hst hx hlt hk e5 eg5 eL0 hbw hA eN eE en2 en0 ert ehb hg2
      go_upto_region 8 with fail
      rw [← E5.out.1, ← E5.out.2]
      clear E5 m0 m1 m2 m3 m4 m5 m6 m7 m8 m9
      obtain ⟨_, _, m0, m1, m2, m3, m4, m5, m6, m7, m8, m9⟩ := HDD.out
      go_wp2_with fail
      go_at_call 12
      refine HA.out.mono ?_
      rintro z v6 ⟨A8, c8, rfl, hPG, h6⟩
      clear m0 m1 m2 m3 m4 m5 m6 m7 m8 m9
      have HB6 := Lib.hid hPG
      have HM6 := Lib.hid (And.intro (Nat.lt_of_lt_of_le HDD.out.1 h6.size) (HDD.out.2.2.keep h6 HDD.out.1))
      clear hPG h6 HA HDD
      go_upto_region 10 with fail
      refine wp_region_chain 29 8 [31, 32, 33, 34, 35, 36, 37, 38, 39, 40, 41, 42, 43, 44, 45, 46, 47, 48, 49, 50, 51, 52, 53, 54, 55, 56, 57, 58, 59] [1, 3, 8, 14, 16, 23, 27] [some (mrkV x), some (.bool rt), some (mrkV x), some (.bool rt), some (.bool false), some (.bool false), some (p), some (mrkV x), some (.int .i64 E), some (.int .i64 E), some (.bool false), some (.bool false), some (.bool false), some (p), none, some (.slice A8 n2 c8), some (.bool true), some (.bool false), some (.bool false), some (.bool false), some (p), some (.int .i64 ck), some (.int .i64 au), some (.bool hb), some (.slice A8 n2 c8), some (.int .i64 ck), some (.int .i64 au), some (.bool hb), some (.bool false)] (fun wz => MrkB wz g5 x ∧ g5 < wz.heap.size) (fun k v wz => match k with | 0 => BookG B w g5 p A8 c8 L0 N wz | 1 => BookG B w g5 p A8 c8 L0 N wz | 2 => BookG B w g5 p A8 c8 L0 N wz | 4 => BookG B w g5 p A8 c8 N N wz ∧ ∃ A c, v = .slice A n2 c ∧ RdR mrkE wz wz.heap.size A c N | _ => BookG B w g5 p A8 c8 N N wz) (by kernel_rfl) (by kernel_rfl) (⟨HM6.out.2.keep (Below.refl _ _).drew HM6.out.1, HM6.out.1⟩) (HB6.out.keep M (Below.refl _ _).drew) (fun u => by simp only [puts, List.foldl_cons, List.foldl_nil]; go_simp; exact rfl) ?_ ?_
      · simp only [List.take_succ_cons, List.take_zero]
        refine Chn.soft (by decide) (mrkV x) rfl (fun u w hS hd => ?_) ?_
        · exact ⟨rfl, by obtain ⟨m0, m1, m2, m3, m4, m5, m6, m7, m8, m9⟩ := hS.1; go_simp⟩
        refine Chn.hard rfl (fun u w hS HT hd => ?_) ?_
        · have d31 : u 31 = mrkV x := hd.at_ 0 _ rfl rfl
          rw [d31]
          have HC := M.right x w
          rw [HRT.out] at HC
          refine StepC.call 13 #[mrkV x] rfl (by go_simp) ((HC).mono ?_)
          rintro z wz ⟨rfl, h0⟩
          exact ⟨_, rfl, fun c hc => (Option.some.inj hc), ⟨hS.1.keep h0 hS.2, Nat.lt_of_lt_of_le hS.2 h0.size⟩, HT.keep M h0⟩
        refine Chn.soft (by decide) (mrkV x) rfl (fun u w hS hd => ?_) ?_
        · exact ⟨rfl, by obtain ⟨m0, m1, m2, m3, m4, m5, m6, m7, m8, m9⟩ := hS.1; go_simp⟩
        refine Chn.hard rfl (fun u w hS HT hd => ?_) ?_
        · have d33 : u 33 = mrkV x := hd.at_ 2 _ rfl rfl
          rw [d33]
          have HC := mright_any x w
          rw [HRT.out] at HC
          refine StepC.call 14 #[mrkV x] rfl (by go_simp) ((HC).mono ?_)
          rintro z wz ⟨rfl, h0⟩
          exact ⟨_, rfl, fun c hc => (Option.some.inj hc), ⟨hS.1.keep h0 hS.2, Nat.lt_of_lt_of_le hS.2 h0.size⟩, HT.keep M h0⟩
        refine Chn.soft (by decide) (.bool false) rfl (fun u w hS hd => ?_) ?_
        · have d32 : u 32 = .bool rt := hd.at_ 1 _ rfl rfl
          rw [d32]
          have d34 : u 34 = .bool rt := hd.at_ 3 _ rfl rfl
          rw [d34]
          exact ⟨rfl, by go_simp⟩
        refine Chn.soft (by decide) (.bool false) rfl (fun u w hS hd => ?_) ?_
        · have d35 : u 35 = .bool false := hd.at_ 4 _ rfl rfl
          rw [d35]
          exact ⟨rfl, by go_simp⟩
        refine Chn.soft (by decide) (p) rfl (fun u w hS hd => ?_) ?_
        · have d36 : u 36 = .bool false := hd.at_ 5 _ rfl rfl
          rw [d36]
          exact ⟨rfl, by go_simp⟩
        refine Chn.soft (by decide) (mrkV x) rfl (fun u w hS hd => ?_) ?_
        · have d36 : u 36 = .bool false := hd.at_ 5 _ rfl rfl
          rw [d36]
          exact ⟨rfl, by obtain ⟨m0, m1, m2, m3, m4, m5, m6, m7, m8, m9⟩ := hS.1; go_simp⟩
        refine Chn.hard rfl (fun u w hS HT hd => ?_) ?_
        · have d36 : u 36 = .bool false := hd.at_ 5 _ rfl rfl
          rw [d36]
          have d37 : u 37 = p := hd.at_ 6 _ rfl rfl
          rw [d37]
          have d38 : u 38 = mrkV x := hd.at_ 7 _ rfl rfl
          rw [d38]
          have HC := behind_add M HT x hS.1
          rw [HEE.out, HNN.out] at HC
          refine StepC.call 15 #[p, mrkV x] rfl (by go_simp) ((HC).mono ?_)
          rintro z wz ⟨rfl, hB, hM, hz⟩
          exact ⟨_, rfl, fun c hc => (Option.some.inj hc), ⟨hM, Nat.lt_of_lt_of_le hS.2 hz⟩, hB⟩
        refine Chn.soft (by decide) (.int .i64 E) rfl (fun u w hS hd => ?_) ?_
        · have d36 : u 36 = .bool false := hd.at_ 5 _ rfl rfl
          rw [d36]
          exact ⟨rfl, by go_simp⟩
        refine Chn.soft (by decide) (.bool false) rfl (fun u w hS hd => ?_) ?_
        · have d36 : u 36 = .bool false := hd.at_ 5 _ rfl rfl
          rw [d36]
          have d39 : u 39 = .int .i64 E := hd.at_ 8 _ rfl rfl
          rw [d39]
          have d40 : u 40 = .int .i64 E := hd.at_ 9 _ rfl rfl
          rw [d40]
          exact ⟨rfl, by go_simp⟩
        refine Chn.soft (by decide) (.bool false) rfl (fun u w hS hd => ?_) ?_
        · have d36 : u 36 = .bool false := hd.at_ 5 _ rfl rfl
          rw [d36]
          have d41 : u 41 = .bool false := hd.at_ 10 _ rfl rfl
          rw [d41]
          exact ⟨rfl, by go_simp⟩
        refine Chn.soft (by decide) (.bool false) rfl (fun u w hS hd => ?_) ?_
        · have d42 : u 42 = .bool false := hd.at_ 11 _ rfl rfl
          rw [d42]
          exact ⟨rfl, by go_simp⟩
        refine Chn.soft (by decide) (p) rfl (fun u w hS hd => ?_) ?_
        · have d43 : u 43 = .bool false := hd.at_ 12 _ rfl rfl
          rw [d43]
          exact ⟨rfl, by go_simp⟩
        refine Chn.hard rfl (fun u w hS HT hd => ?_) ?_
        · have d43 : u 43 = .bool false := hd.at_ 12 _ rfl rfl
          rw [d43]
          have d44 : u 44 = p := hd.at_ 13 _ rfl rfl
          rw [d44]
          have HT0 := HT
          obtain ⟨F9, q1, q2⟩ := HT
          have HC := M.list w q1
          rw [HLN.out] at HC
          refine StepC.call 17 #[p] rfl (by go_simp) ((HC).mono ?_)
          rintro z wz ⟨A9, c9, rfl, r9, h0⟩
          exact ⟨_, rfl, fun c hc => by simp at hc, ⟨hS.1.keep h0 hS.2, Nat.lt_of_lt_of_le hS.2 h0.size⟩, HT0.keep M h0, A9, c9, rfl, r9⟩
        refine Chn.soft (by decide) (.slice A8 n2 c8) rfl (fun u w hS hd => ?_) ?_
        · have d43 : u 43 = .bool false := hd.at_ 12 _ rfl rfl
          rw [d43]
          exact ⟨rfl, by go_simp⟩
        refine Chn.hard rfl (fun u w hS HT hd => ?_) ?_
        · have d43 : u 43 = .bool false := hd.at_ 12 _ rfl rfl
          rw [d43]
          have d46 : u 46 = .slice A8 n2 c8 := hd.at_ 15 _ rfl rfl
          rw [d46]
          obtain ⟨HT, A9, c9, e9, r9⟩ := HT
          replace e9 : u 45 = .slice A9 n2 c9 := e9
          rw [e9]
          have HT0 := HT
          obtain ⟨F9, q1, q2, q3⟩ := HT
          have HC := msame_any w r9 q2 (Nat.le_refl _) (Nat.le_refl _) HL9.out
          rw [oneB_yes rfl, HLN.out] at HC
          refine StepC.call 16 #[.slice A9 n2 c9, .slice A8 n2 c8] rfl (by go_simp) ((HC).mono ?_)
          rintro z wz ⟨rfl, h0⟩
          exact ⟨_, rfl, fun c hc => (Option.some.inj hc), ⟨hS.1.keep h0 hS.2, Nat.lt_of_lt_of_le hS.2 h0.size⟩, HT0.keep M h0⟩
        refine Chn.soft (by decide) (.bool false) rfl (fun u w hS hd => ?_) ?_
        · have d43 : u 43 = .bool false := hd.at_ 12 _ rfl rfl
          rw [d43]
          have d47 : u 47 = .bool true := hd.at_ 16 _ rfl rfl
          rw [d47]
          exact ⟨rfl, by go_simp⟩
        refine Chn.soft (by decide) (.bool false) rfl (fun u w hS hd => ?_) ?_
        · have d43 : u 43 = .bool false := hd.at_ 12 _ rfl rfl
          rw [d43]
          have d48 : u 48 = .bool false := hd.at_ 17 _ rfl rfl
          rw [d48]
          exact ⟨rfl, by go_simp⟩
        refine Chn.soft (by decide) (.bool false) rfl (fun u w hS hd => ?_) ?_
        · have d49 : u 49 = .bool false := hd.at_ 18 _ rfl rfl
          rw [d49]
          exact ⟨rfl, by go_simp⟩
        refine Chn.soft (by decide) (p) rfl (fun u w hS hd => ?_) ?_
        · have d50 : u 50 = .bool false := hd.at_ 19 _ rfl rfl
          rw [d50]
          exact ⟨rfl, by go_simp⟩
        refine Chn.soft (by decide) (.int .i64 ck) rfl (fun u w hS hd => ?_) ?_
        · have d50 : u 50 = .bool false := hd.at_ 19 _ rfl rfl
          rw [d50]
          exact ⟨rfl, by go_simp⟩
        refine Chn.soft (by decide) (.int .i64 au) rfl (fun u w hS hd => ?_) ?_
        · have d50 : u 50 = .bool false := hd.at_ 19 _ rfl rfl
          rw [d50]
          exact ⟨rfl, by go_simp⟩
        refine Chn.hard rfl (fun u w hS HT hd => ?_) ?_
        · have d50 : u 50 = .bool false := hd.at_ 19 _ rfl rfl
          rw [d50]
          have d51 : u 51 = p := hd.at_ 20 _ rfl rfl
          rw [d51]
          have d52 : u 52 = .int .i64 ck := hd.at_ 21 _ rfl rfl
          rw [d52]
          have d53 : u 53 = .int .i64 au := hd.at_ 22 _ rfl rfl
          rw [d53]
          have HT0 := HT
          obtain ⟨F9, q1, q2⟩ := HT
          have HC := M.has ck au w q1
          rw [HHB.out] at HC
          refine StepC.call 18 #[p, .int .i64 ck, .int .i64 au] rfl (by go_simp) ((HC).mono ?_)
          rintro z wz ⟨rfl, h0⟩
          exact ⟨_, rfl, fun c hc => (Option.some.inj hc), ⟨hS.1.keep h0 hS.2, Nat.lt_of_lt_of_le hS.2 h0.size⟩, HT0.keep M h0⟩
        refine Chn.soft (by decide) (.slice A8 n2 c8) rfl (fun u w hS hd => ?_) ?_
        · have d50 : u 50 = .bool false := hd.at_ 19 _ rfl rfl
          rw [d50]
          exact ⟨rfl, by go_simp⟩
        refine Chn.soft (by decide) (.int .i64 ck) rfl (fun u w hS hd => ?_) ?_
        · have d50 : u 50 = .bool false := hd.at_ 19 _ rfl rfl
          rw [d50]
          exact ⟨rfl, by go_simp⟩
        refine Chn.soft (by decide) (.int .i64 au) rfl (fun u w hS hd => ?_) ?_
        · have d50 : u 50 = .bool false := hd.at_ 19 _ rfl rfl
          rw [d50]
          exact ⟨rfl, by go_simp⟩
        refine Chn.hard rfl (fun u w hS HT hd => ?_) ?_
        · have d50 : u 50 = .bool false := hd.at_ 19 _ rfl rfl
          rw [d50]
          have d55 : u 55 = .slice A8 n2 c8 := hd.at_ 24 _ rfl rfl
          rw [d55]
          have d56 : u 56 = .int .i64 ck := hd.at_ 25 _ rfl rfl
          rw [d56]
          have d57 : u 57 = .int .i64 au := hd.at_ 26 _ rfl rfl
          rw [d57]
          have HT0 := HT
          obtain ⟨F9, q1, q2, q3⟩ := HT
          have HC := mhas_any ck au w q2 (Nat.le_refl _) HLN.out (by rw [← HLN.out]; exact HL9.out)
          rw [HHB.out] at HC
          refine StepC.call 19 #[.slice A8 n2 c8, .int .i64 ck, .int .i64 au] rfl (by go_simp) ((HC).mono ?_)
          rintro z wz ⟨rfl, h0⟩
          exact ⟨_, rfl, fun c hc => (Option.some.inj hc), ⟨hS.1.keep h0 hS.2, Nat.lt_of_lt_of_le hS.2 h0.size⟩, HT0.keep M h0⟩
        refine Chn.soft (by decide) (.bool false) rfl (fun u w hS hd => ?_) ?_
        · have d50 : u 50 = .bool false := hd.at_ 19 _ rfl rfl
          rw [d50]
          have d54 : u 54 = .bool hb := hd.at_ 23 _ rfl rfl
          rw [d54]
          have d58 : u 58 = .bool hb := hd.at_ 27 _ rfl rfl
          rw [d58]
          exact ⟨rfl, by go_simp⟩
        exact Chn.nil
      intro u v8 hS HT8 hd
      have d50 : u 50 = .bool false := hd 19 _ (by decide) rfl
      have d59 : u 59 = .bool false := hd 28 _ (by decide) rfl
      rw [d50, d59]
      have HB8 := Lib.hid (show BookBoth B w p A8 c8 N v8 from BookG.both HT8)
      have hls := fun wz (hz : Below v8.heap.size v8 wz) => show Calls Try.prog 20 #[p] wz fun e w' => e = .returned (.int .i64 (lastM N)) ∧ Below wz.heap.size wz w' from by
        obtain ⟨F9, q1, q2⟩ := HB8.out.keep M hz
        exact M.last wz q1
      clear hd d50 d59 hS HT8 HB6 HM6 HEE HNN HRT HHB
      simp only [List.drop_succ_cons, List.drop_zero]
      cases hn2 : n2 with
      | zero =>
        subst hn2
        have hN0 : N = [] := List.eq_nil_of_length_eq_zero HLN.out
        rw [show lastM N = 0 by rw [hN0]; rfl] at hls
        have HLS := Lib.hid hls
        clear hls hN0
        go_upto_region 12 with fail
        refine wp_region_inv 24 [61, 62, 63, 64, 65, 66, 67, 68, 69, 70, 71, 72, 73, 74, 75, 76, 77, 78, 79, 80, 81, 82, 83, 84] [.val (.slice A8 0 c8), .val (.int .i64 (0 : Int)), .val (.bool false), .val (.bool false), .val undef, .val undef, .val undef, .val undef, .val undef, .val undef, .val undef, .val undef, .val undef, .val undef, .val (.bool false), .val (.bool false), .val (.slice A8 0 c8), .val (.int .i64 (0 : Int)), .val (.bool true), .val (.bool true), .val (p), .val (.int .i64 0), .val (.bool false), .val (.bool false)] (fun wz => Below v8.heap.size v8 wz) (by kernel_rfl) (by kernel_rfl) (fun wz wz' hz hb => hz.trans (hb.mono hz.size)) ((Below.refl _ _).drew) (fun u => by simp only [puts, List.foldl_cons, List.foldl_nil]; go_simp; exact rfl) ?_ ?_
        · simp only [List.take_succ_cons, List.take_zero]
          refine Obs.cons (fun u w hS hd => ?_) ?_
          · exact Gv.run (.slice A8 0 c8) rfl (by go_simp) rfl
          refine Obs.cons (fun u w hS hd => ?_) ?_
          · have d61 : u 61 = .slice A8 0 c8 := dep hd 0 rfl
            rw [d61]
            exact Gv.run (.int .i64 (0 : Int)) rfl (by go_simp) rfl
          refine Obs.cons (fun u w hS hd => ?_) ?_
          · have d62 : u 62 = .int .i64 (0 : Int) := dep hd 1 rfl
            rw [d62]
            exact Gv.run (.bool false) rfl (by go_simp) rfl
          refine Obs.cons (fun u w hS hd => ?_) ?_
          · have d63 : u 63 = .bool false := dep hd 2 rfl
            rw [d63]
            exact Gv.run (.bool false) rfl (by go_simp) rfl
          refine Obs.cons (fun u w hS hd => ?_) ?_
          · have d64 : u 64 = .bool false := dep hd 3 rfl
            rw [d64]
            exact Gv.skip (by rfl) rfl
          refine Obs.cons (fun u w hS hd => ?_) ?_
          · have d65 : u 65 = undef := dep hd 4 rfl
            have d64 : u 64 = .bool false := dep hd 3 rfl
            rw [d65, d64]
            exact Gv.skip (by rfl) rfl
          refine Obs.cons (fun u w hS hd => ?_) ?_
          · have d64 : u 64 = .bool false := dep hd 3 rfl
            rw [d64]
            exact Gv.skip (by rfl) rfl
          refine Obs.cons (fun u w hS hd => ?_) ?_
          · have d64 : u 64 = .bool false := dep hd 3 rfl
            rw [d64]
            exact Gv.skip (by rfl) rfl
          refine Obs.cons (fun u w hS hd => ?_) ?_
          · have d68 : u 68 = undef := dep hd 7 rfl
            have d64 : u 64 = .bool false := dep hd 3 rfl
            rw [d68, d64]
            exact Gv.skip (by rfl) rfl
          refine Obs.cons (fun u w hS hd => ?_) ?_
          · have d69 : u 69 = undef := dep hd 8 rfl
            have d64 : u 64 = .bool false := dep hd 3 rfl
            rw [d69, d64]
            exact Gv.skip (by rfl) rfl
          refine Obs.cons (fun u w hS hd => ?_) ?_
          · have d67 : u 67 = undef := dep hd 6 rfl
            have d70 : u 70 = undef := dep hd 9 rfl
            have d64 : u 64 = .bool false := dep hd 3 rfl
            rw [d67, d70, d64]
            exact Gv.skip (by rfl) rfl
          refine Obs.cons (fun u w hS hd => ?_) ?_
          · have d71 : u 71 = undef := dep hd 10 rfl
            have d64 : u 64 = .bool false := dep hd 3 rfl
            rw [d71, d64]
            exact Gv.skip (by rfl) rfl
          refine Obs.cons (fun u w hS hd => ?_) ?_
          · have d72 : u 72 = undef := dep hd 11 rfl
            have d64 : u 64 = .bool false := dep hd 3 rfl
            rw [d72, d64]
            exact Gv.skip (by rfl) rfl
          refine Obs.cons (fun u w hS hd => ?_) ?_
          · have d66 : u 66 = undef := dep hd 5 rfl
            have d73 : u 73 = undef := dep hd 12 rfl
            have d64 : u 64 = .bool false := dep hd 3 rfl
            rw [d66, d73, d64]
            exact Gv.skip (by rfl) rfl
          refine Obs.cons (fun u w hS hd => ?_) ?_
          · have d64 : u 64 = .bool false := dep hd 3 rfl
            have d74 : u 74 = undef := dep hd 13 rfl
            rw [d64, d74]
            exact Gv.run (.bool false) rfl (by go_simp) rfl
          refine Obs.cons (fun u w hS hd => ?_) ?_
          · have d75 : u 75 = .bool false := dep hd 14 rfl
            rw [d75]
            exact Gv.run (.bool false) rfl (by go_simp) rfl
          refine Obs.cons (fun u w hS hd => ?_) ?_
          · have d76 : u 76 = .bool false := dep hd 15 rfl
            rw [d76]
            exact Gv.run (.slice A8 0 c8) rfl (by go_simp) rfl
          refine Obs.cons (fun u w hS hd => ?_) ?_
          · have d77 : u 77 = .slice A8 0 c8 := dep hd 16 rfl
            have d76 : u 76 = .bool false := dep hd 15 rfl
            rw [d77, d76]
            exact Gv.run (.int .i64 (0 : Int)) rfl (by go_simp) rfl
          refine Obs.cons (fun u w hS hd => ?_) ?_
          · have d78 : u 78 = .int .i64 (0 : Int) := dep hd 17 rfl
            have d76 : u 76 = .bool false := dep hd 15 rfl
            rw [d78, d76]
            exact Gv.run (.bool true) rfl (by go_simp) rfl
          refine Obs.cons (fun u w hS hd => ?_) ?_
          · have d79 : u 79 = .bool true := dep hd 18 rfl
            have d76 : u 76 = .bool false := dep hd 15 rfl
            rw [d79, d76]
            exact Gv.run (.bool true) rfl (by go_simp) rfl
          refine Obs.cons (fun u w hS hd => ?_) ?_
          · have d80 : u 80 = .bool true := dep hd 19 rfl
            rw [d80]
            exact Gv.run (p) rfl (by go_simp) rfl
          refine Obs.cons (fun u w hS hd => ?_) ?_
          · have d81 : u 81 = p := dep hd 20 rfl
            have d80 : u 80 = .bool true := dep hd 19 rfl
            rw [d81, d80]
            refine Gv.call 20 #[p] rfl (by go_simp) ((HLS.out w hS).mono ?_)
            rintro e w' ⟨rfl, hb⟩
            exact ⟨_, rfl, rfl, hb⟩
          refine Obs.cons (fun u w hS hd => ?_) ?_
          · have d82 : u 82 = .int .i64 0 := dep hd 21 rfl
            have d80 : u 80 = .bool true := dep hd 19 rfl
            rw [d82, d80]
            exact Gv.run (.bool false) rfl (by go_simp) rfl
          refine Obs.cons (fun u w hS hd => ?_) ?_
          · have d80 : u 80 = .bool true := dep hd 19 rfl
            have d83 : u 83 = .bool false := dep hd 22 rfl
            have d76 : u 76 = .bool false := dep hd 15 rfl
            rw [d80, d83, d76]
            exact Gv.run (.bool false) rfl (by go_simp) rfl
          exact Obs.nil
        intro u v9 hS hd
        have d76 : u 76 = .bool false := hd 15 (by decide)
        have d84 : u 84 = .bool false := hd 23 (by decide)
        rw [d76, d84]
        simp only [List.drop_succ_cons, List.drop_zero]
        have HS9 := Lib.hid (HB8.out.keep M hS)
        clear hS hd d76 d84
        have h98 := HK.out
        have h99 := HG6.out.2
        go_wp2_with fail
        go_roundw
        case rel => exact ⟨k + 1, HK.out, by go_num, A8, c8, by rw [HT.out.2, HLN.out], by rw [HT.out.2]; exact HS9.out⟩
        case measure => simp [intF]; have := HK.out; omega
      | succ lm =>
        rw [← hn2]
        obtain ⟨y, hy⟩ := getD_of (L := N) (k := lm) (by rw [HLN.out]; omega)
        have hly : lastM N = y.clock := by
          unfold lastM
          rw [List.getLast?_eq_getElem?, HLN.out, hn2, Nat.add_sub_cancel, hy]
        rw [hly] at hls
        obtain ⟨F9, q1, q2, q3⟩ := HB8.out
        obtain ⟨b8, o8, rfl, hb8, l0, l1, _⟩ := mrk_at q2 hy
        have HS := Lib.hid (fun wz (hz : Below v8.heap.size v8 wz) => And.intro ((hz.cell (p := ⟨b8, o8 + lm * 10, none⟩) hb8).trans l0) ((hz.cell (p := ⟨b8, o8 + lm * 10 + 1, none⟩) hb8).trans l1))
        have HLS := Lib.hid hls
        have G5 := Lib.hid (show 0 < n2 by omega)
        have g6 : IntKind.i64.wrap ((n2 : Int) - 1) = (lm : Int) := by rw [IntKind.wrap_i64]; have := HLN.out; have := HL9.out; omega
        have g7 : (lm : Int) < (n2 : Int) := by omega
        clear hls hly hy q1 q2 q3 hb8 l0 l1 hn2
        go_upto_region 12 with fail
        refine wp_region_inv 24 [61, 62, 63, 64, 65, 66, 67, 68, 69, 70, 71, 72, 73, 74, 75, 76, 77, 78, 79, 80, 81, 82, 83, 84] [.val (.slice (some ⟨b8, o8, none⟩) n2 c8), .val (.int .i64 (n2 : Int)), .val (.bool true), .val (.bool true), .val (p), .val (.int .i64 y.clock), .val (.slice (some ⟨b8, o8, none⟩) n2 c8), .val (.slice (some ⟨b8, o8, none⟩) n2 c8), .val (.int .i64 (n2 : Int)), .val (.int .i64 (lm : Int)), .val (.pointer (some ⟨b8, o8 + lm * 10, none⟩)), .val (.pointer (some ⟨b8, o8 + lm * 10, none⟩)), .val (.int .i64 y.clock), .val (.bool false), .val (.bool false), .val (.bool false), .val (.slice (some ⟨b8, o8, none⟩) n2 c8), .val (.int .i64 (n2 : Int)), .val (.bool false), .val (.bool false), .val undef, .val undef, .val undef, .val (.bool false)] (fun wz => Below v8.heap.size v8 wz) (by kernel_rfl) (by kernel_rfl) (fun wz wz' hz hb => hz.trans (hb.mono hz.size)) ((Below.refl _ _).drew) (fun u => by simp only [puts, List.foldl_cons, List.foldl_nil]; go_simp; exact rfl) ?_ ?_
        · simp only [List.take_succ_cons, List.take_zero]
          refine Obs.cons (fun u w hS hd => ?_) ?_
          · exact Gv.run (.slice (some ⟨b8, o8, none⟩) n2 c8) rfl (by go_simp) rfl
          refine Obs.cons (fun u w hS hd => ?_) ?_
          · have d61 : u 61 = .slice (some ⟨b8, o8, none⟩) n2 c8 := dep hd 0 rfl
            rw [d61]
            exact Gv.run (.int .i64 (n2 : Int)) rfl (by go_simp) rfl
          refine Obs.cons (fun u w hS hd => ?_) ?_
          · have d62 : u 62 = .int .i64 (n2 : Int) := dep hd 1 rfl
            rw [d62]
            exact Gv.run (.bool true) rfl (by go_simp; exact G5.out) rfl
          refine Obs.cons (fun u w hS hd => ?_) ?_
          · have d63 : u 63 = .bool true := dep hd 2 rfl
            rw [d63]
            exact Gv.run (.bool true) rfl (by go_simp) rfl
          refine Obs.cons (fun u w hS hd => ?_) ?_
          · have d64 : u 64 = .bool true := dep hd 3 rfl
            rw [d64]
            exact Gv.run (p) rfl (by go_simp) rfl
          refine Obs.cons (fun u w hS hd => ?_) ?_
          · have d65 : u 65 = p := dep hd 4 rfl
            have d64 : u 64 = .bool true := dep hd 3 rfl
            rw [d65, d64]
            refine Gv.call 20 #[p] rfl (by go_simp) ((HLS.out w hS).mono ?_)
            rintro e w' ⟨rfl, hb⟩
            exact ⟨_, rfl, rfl, hb⟩
          refine Obs.cons (fun u w hS hd => ?_) ?_
          · have d64 : u 64 = .bool true := dep hd 3 rfl
            rw [d64]
            exact Gv.run (.slice (some ⟨b8, o8, none⟩) n2 c8) rfl (by go_simp) rfl
          refine Obs.cons (fun u w hS hd => ?_) ?_
          · have d64 : u 64 = .bool true := dep hd 3 rfl
            rw [d64]
            exact Gv.run (.slice (some ⟨b8, o8, none⟩) n2 c8) rfl (by go_simp) rfl
          refine Obs.cons (fun u w hS hd => ?_) ?_
          · have d68 : u 68 = .slice (some ⟨b8, o8, none⟩) n2 c8 := dep hd 7 rfl
            have d64 : u 64 = .bool true := dep hd 3 rfl
            rw [d68, d64]
            exact Gv.run (.int .i64 (n2 : Int)) rfl (by go_simp) rfl
          refine Obs.cons (fun u w hS hd => ?_) ?_
          · have d69 : u 69 = .int .i64 (n2 : Int) := dep hd 8 rfl
            have d64 : u 64 = .bool true := dep hd 3 rfl
            rw [d69, d64]
            exact Gv.run (.int .i64 (lm : Int)) rfl (by go_simp) rfl
          refine Obs.cons (fun u w hS hd => ?_) ?_
          · have d67 : u 67 = .slice (some ⟨b8, o8, none⟩) n2 c8 := dep hd 6 rfl
            have d70 : u 70 = .int .i64 (lm : Int) := dep hd 9 rfl
            have d64 : u 64 = .bool true := dep hd 3 rfl
            rw [d67, d70, d64]
            exact Gv.run (.pointer (some ⟨b8, o8 + lm * 10, none⟩)) rfl (by go_simp) rfl
          refine Obs.cons (fun u w hS hd => ?_) ?_
          · have d71 : u 71 = .pointer (some ⟨b8, o8 + lm * 10, none⟩) := dep hd 10 rfl
            have d64 : u 64 = .bool true := dep hd 3 rfl
            rw [d71, d64]
            exact Gv.run (.pointer (some ⟨b8, o8 + lm * 10, none⟩)) rfl (by go_simp) rfl
          refine Obs.cons (fun u w hS hd => ?_) ?_
          · have d72 : u 72 = .pointer (some ⟨b8, o8 + lm * 10, none⟩) := dep hd 11 rfl
            have d64 : u 64 = .bool true := dep hd 3 rfl
            rw [d72, d64]
            exact Gv.run (.int .i64 y.clock) rfl (by obtain ⟨b0, b1⟩ := HS.out w hS; go_simp) rfl
          refine Obs.cons (fun u w hS hd => ?_) ?_
          · have d66 : u 66 = .int .i64 y.clock := dep hd 5 rfl
            have d73 : u 73 = .int .i64 y.clock := dep hd 12 rfl
            have d64 : u 64 = .bool true := dep hd 3 rfl
            rw [d66, d73, d64]
            exact Gv.run (.bool false) rfl (by go_simp) rfl
          refine Obs.cons (fun u w hS hd => ?_) ?_
          · have d64 : u 64 = .bool true := dep hd 3 rfl
            have d74 : u 74 = .bool false := dep hd 13 rfl
            rw [d64, d74]
            exact Gv.run (.bool false) rfl (by go_simp) rfl
          refine Obs.cons (fun u w hS hd => ?_) ?_
          · have d75 : u 75 = .bool false := dep hd 14 rfl
            rw [d75]
            exact Gv.run (.bool false) rfl (by go_simp) rfl
          refine Obs.cons (fun u w hS hd => ?_) ?_
          · have d76 : u 76 = .bool false := dep hd 15 rfl
            rw [d76]
            exact Gv.run (.slice (some ⟨b8, o8, none⟩) n2 c8) rfl (by go_simp) rfl
          refine Obs.cons (fun u w hS hd => ?_) ?_
          · have d77 : u 77 = .slice (some ⟨b8, o8, none⟩) n2 c8 := dep hd 16 rfl
            have d76 : u 76 = .bool false := dep hd 15 rfl
            rw [d77, d76]
            exact Gv.run (.int .i64 (n2 : Int)) rfl (by go_simp) rfl
          refine Obs.cons (fun u w hS hd => ?_) ?_
          · have d78 : u 78 = .int .i64 (n2 : Int) := dep hd 17 rfl
            have d76 : u 76 = .bool false := dep hd 15 rfl
            rw [d78, d76]
            exact Gv.run (.bool false) rfl (by go_simp; have := G5.out; omega) rfl
          refine Obs.cons (fun u w hS hd => ?_) ?_
          · have d79 : u 79 = .bool false := dep hd 18 rfl
            have d76 : u 76 = .bool false := dep hd 15 rfl
            rw [d79, d76]
            exact Gv.run (.bool false) rfl (by go_simp) rfl
          refine Obs.cons (fun u w hS hd => ?_) ?_
          · have d80 : u 80 = .bool false := dep hd 19 rfl
            rw [d80]
            exact Gv.skip (by rfl) rfl
          refine Obs.cons (fun u w hS hd => ?_) ?_
          · have d81 : u 81 = undef := dep hd 20 rfl
            have d80 : u 80 = .bool false := dep hd 19 rfl
            rw [d81, d80]
            exact Gv.skip (by rfl) rfl
          refine Obs.cons (fun u w hS hd => ?_) ?_
          · have d82 : u 82 = undef := dep hd 21 rfl
            have d80 : u 80 = .bool false := dep hd 19 rfl
            rw [d82, d80]
            exact Gv.skip (by rfl) rfl
          refine Obs.cons (fun u w hS hd => ?_) ?_
          · have d80 : u 80 = .bool false := dep hd 19 rfl
            have d83 : u 83 = undef := dep hd 22 rfl
            have d76 : u 76 = .bool false := dep hd 15 rfl
            rw [d80, d83, d76]
            exact Gv.run (.bool false) rfl (by go_simp) rfl
          exact Obs.nil
        intro u v9 hS hd
        have d76 : u 76 = .bool false := hd 15 (by decide)
        have d84 : u 84 = .bool false := hd 23 (by decide)
        rw [d76, d84]
        simp only [List.drop_succ_cons, List.drop_zero]
        have HS9 := Lib.hid (HB8.out.keep M hS)
        clear hS hd d76 d84
        have h98 := HK.out
        have h99 := HG6.out.2
        go_wp2_with fail
        go_roundw
        case rel => exact ⟨k + 1, HK.out, by go_num, _, c8, by rw [HT.out.2, HLN.out], by rw [HT.out.2]; exact HS9.out⟩
        case measure => simp [intF]; have := HK.out; omega
    · obtain rfl : n = k := by omega
      obtain ⟨vo, evo⟩ : ∃ v, v = wr := ⟨_, rfl⟩
      subst evo
      have HE6 := Lib.hid hbw
      obtain ⟨n0, en0⟩ : ∃ q, q = (maddsL [] (ms.take n)).length := ⟨_, rfl⟩
      rw [← en0]
      clear hbw hlt hk hgl hp en0
      go_wp2_with fail
      go_at_call 10
      refine (awake16 K M vo).mono ?_
      rintro e v9 ⟨rfl, h9⟩
      have H9 := Lib.hid (HE6.out.trans (h9.mono HE6.out.size))
      clear h9
      go_wp2_with fail
      go_ret
      exact ⟨rfl, H9.out⟩
end
end Go.Proofs.Ytpjeggbkhbghaaa
