/-
  Layer 19, the landed code: a term is named. By an AI agent.
-/
import Derived.Test.YtdddcgkgellbgabSu8
import Derived.Test.YtdddcgkgellbgabSu6
import Derived.Test.YtdddcgkgellbgabAr
namespace Go.Proofs.Ytdddcgkgellbgab
open Go Go.RowKit
set_option maxRecDepth 20000
attribute [local irreducible] e8 calledT
theorem infoTrm : (Try.prog.info? 75).map (fun i => (i.zero, i.size, i.bytes)) = some (some (.agg #[.int .u8 0, .slice none 0 0]), 2, 32) := by kernel_rfl
theorem under_num (w : World) : (underlying 60).run Try.prog w = .ok (.map 9 3) w := by kernel_rfl
theorem under_str (w : World) : (underlying 9).run Try.prog w = .ok .string w := by kernel_rfl
theorem zero_int (w : World) : (zeroValue 3).run Try.prog w = .ok (.int .i64 0) w := by kernel_rfl
theorem trm_cells {w : World} {B c : Nat} {A : Option Addr} {X : List TrmB} (h : RdR trmE w B A c X) {k : Nat} {x : TrmB} (hk : X[k]? = some x) : ∃ b o, A = some ⟨b, o, none⟩ ∧ b < B ∧ w.cell? ⟨b, o + k * 2, none⟩ = some (.int .u8 (x.1.kind.toNat : Int)) ∧ w.cell? ⟨b, o + k * 2 + 1, none⟩ = some (sliV x.2 x.1.parts.length) := by
  obtain ⟨b, o, e, hb, hc⟩ := h.at_ hk
  exact ⟨b, o, e, hb, hc 0 _ rfl, hc 1 _ rfl⟩
/-- What a table becomes when a term is named that it has not. -/
theorem TabH.named_new {w w' : World} {T M : Nat} {A A' : Option Addr} {c c' clk : Nat} {es : List EntS} {X : List TrmB} {D b : Nat} {t : Trm} (h : TabH w T M A c clk es X D) (ht : okT t) (hn : t ∉ X.map Prod.fst)
    (h1 : w'.heap[T]? = some (.cells #[.slice A' (X.length + 1) c', .map (some M), .int .i64 (D : Int)] 63))
    (h2 : w'.heap[M]? = some (mapV strV (es ++ [⟨⟨(formT t).toArray⟩, .int .i64 ((X.length + 1 : Nat) : Int), clk⟩]) (clk + 1)))
    (h3 : OwnR trmE w' 0 75 A' c' (X ++ [(t, b)])) (h4 : w'.heap[b]? = some (prtC t.parts)) (h5 : ∀ x ∈ X, w'.heap[x.2]? = w.heap[x.2]?) :
    TabH w' T M A' c' (clk + 1) (es ++ [⟨⟨(formT t).toArray⟩, .int .i64 ((X.length + 1 : Nat) : Int), clk⟩]) (X ++ [(t, b)]) D := by
  have hl0 := h.look t ht.fits
  rw [if_neg hn] at hl0
  refine ⟨by rw [h1, List.length_append]; rfl, h3, h2, fun u hu => ?_, fun x hx => ?_, fun x hx => ?_, ?_⟩
  · rw [lookV_app es _ _ _ hl0]
    rw [List.map_append, List.map_singleton]
    by_cases e : u = t
    · subst e
      rw [if_pos rfl, if_pos (by simp)]
      congr 2
      unfold numT
      rw [List.idxOf_append, if_neg hn]
      simp
    · rw [if_neg (fun q => e (formT_inj hu ht.fits (by have := congrArg (fun z => z.data.toList) q; simpa using this))), h.look u hu]
      by_cases hm : u ∈ X.map Prod.fst
      · rw [if_pos hm, if_pos (List.mem_append_left _ hm)]
        congr 2
        unfold numT
        rw [List.idxOf_append, if_pos hm]
      · rw [if_neg hm, if_neg (by simp [e]; intro b' hb'; exact hm (List.mem_map.2 ⟨(u, b'), hb', rfl⟩))]
  · rcases List.mem_append.1 hx with hx | hx
    · exact (h5 x hx).trans (h.parts x hx)
    · rw [List.mem_singleton.1 hx]; exact h4
  · rcases List.mem_append.1 hx with hx | hx
    · exact h.ok x hx
    · rw [List.mem_singleton.1 hx]; exact ht
  · rw [List.map_append, List.map_singleton, List.nodup_append]
    exact ⟨h.once, by simp, fun a ha q hq e => hn (by rw [List.mem_singleton] at hq; have hq' : q = t := hq; rw [← hq', ← e]; exact ha)⟩

/-- What a table leaves that was asked: as Told. -/
def ToldT (w : World) (F S : Nat → Prop) (T : Nat) (L' : List Trm) (D' : Nat) (A : Option Addr) (c : Nat) (ans : List UInt8) (w' : World) : Prop :=
  Own w' w.heap.size 5 A c ans ∧ OutF F w w' ∧ ∃ F' S' : Nat → Prop, TabR w' F' S' T L' D' ∧ (∀ k, F' k → F k ∨ w.heap.size ≤ k) ∧ (∀ k, S' k → S k ∨ w.heap.size ≤ k) ∧ ∀ ad, A = some ad → ¬ F' ad.block ∧ ¬ S' ad.block
theorem own_ge {w : World} {B c : Nat} {e : TypeId} {A : Option Addr} {bs : List UInt8} (h : Own w B e A c bs) : ∀ ad, A = some ad → B ≤ ad.block := by
  intro ad ea
  obtain ⟨_, h2⟩ := h
  rcases h2 with ⟨hv, _⟩ | ⟨g, cap, cur, hv, hB, _⟩
  · simp only [Value.slice.injEq] at hv
    rw [hv.1] at ea; cases ea
  · simp only [Value.slice.injEq] at hv
    rw [hv.1, Option.some.injEq] at ea
    subst ea
    exact hB
theorem told_at {w w5 w6 : World} {F S F5 S5 : Nat → Prop} {T : Nat} {L' : List Trm} {D' c : Nat} {A : Option Addr} {ans : List UInt8} (h5 : TabR w5 F5 S5 T L' D') (ho : OutF F w w5) (hF : ∀ k, F5 k → F k ∨ w.heap.size ≤ k) (hS : ∀ k, S5 k → S k ∨ w.heap.size ≤ k)
    (own : Own w6 w5.heap.size 5 A c ans) (hb : Below w5.heap.size w5 w6) : ToldT w F S T L' D' A c ans w6 :=
  ⟨own.mono ho.size, ⟨hb.os.trans ho.os, hb.tape.trans ho.tape, hb.output.trans ho.output, Nat.le_trans ho.size hb.size, fun k hk hn => (hb.block k (Nat.lt_of_lt_of_le hk ho.size)).trans (ho.block k hk hn)⟩, F5, S5, h5.keep fun k hk => hb.block k (h5.lt k hk), hF, hS, fun ad ea => by
    have h1 := own_ge own ad ea
    exact ⟨fun hf => by have := h5.lt _ (.inl hf); omega, fun hf => by have := h5.lt _ (.inr hf); omega⟩⟩
set_option maxHeartbeats 1600000 in
theorem name_any {F S : Nat → Prop} {T : Nat} {L : List Trm} {D c : Nat} {A : Option Addr} {k : UInt8} {P : List (List UInt8)} (w : World) (h : TabR w F S T L D) (hr : Rds w w.heap.size A c P) (ht : okT ⟨k, P⟩) (hL : L.length ≤ 1000000) :
    Calls Try.prog 40 #[ptB T, .int .u8 (k.toNat : Int), .slice A P.length c] w fun x w' => ∃ A c, x = .returned (.slice A (sizeT ⟨k, P⟩) c) ∧ ToldT w F S T (knowT L ⟨k, P⟩) D A c (calledT ⟨k, P⟩ (numT L ⟨k, P⟩)) w' := by
  obtain ⟨M, A0, c0, clk, es, X, H, rfl, hF, hS⟩ := id h
  obtain ⟨i0, hi0, hz0, hz1, hz2⟩ := info_parts infoTrm
  have HI := Lib.hid (And.intro hi0 (And.intro hz0 (And.intro hz1 hz2)))
  have hP4 : P.length ≤ 4 ∧ 0 < P.length := by
    have := ht.ar
    unfold arT at this
    dsimp only at this
    split at this <;> (try split at this) <;> omega
  have HTW := Lib.hid (w_lt H.table)
  have HMW := Lib.hid (w_lt H.map)
  have HFo := Lib.hid (fun v => form_any (k := k) (L := P) (A := A) (c := c) v)
  have HCu := Lib.hid (fun v => cut_any (k := k) (L := P) (A := A) (c := c) v)
  have HR := Lib.hid (And.intro hr (And.intro hP4 ht.fit))
  have HH := Lib.hid (And.intro h (And.intro H (And.intro hF hS)))
  have HT := Lib.hid ht
  have HLL := Lib.hid hL
  obtain ⟨fs, efs⟩ : ∃ s : ByteArray, s = ⟨(formT ⟨k, P⟩).toArray⟩ := ⟨_, rfl⟩
  have HFS := Lib.hid efs
  obtain ⟨n, en⟩ : ∃ n, n = X.length := ⟨_, rfl⟩
  have HN := Lib.hid en
  obtain ⟨pl, epl⟩ : ∃ n, n = P.length := ⟨_, rfl⟩
  have HPL := Lib.hid epl
  obtain ⟨κ, eκ⟩ : ∃ κ : Int, κ = (k.toNat : Int) := ⟨_, rfl⟩
  have HK := Lib.hid eκ
  have hcT : ∀ v, Below w.heap.size w v → v.cell? ⟨T, 0, none⟩ = some (.slice A0 n c0) ∧ v.cell? ⟨T, 1, none⟩ = some (.map (some M)) ∧ v.frozen? ⟨T, 0, none⟩ = false := by
    intro v hv
    have hq := (hv.block T HTW.out).trans H.table
    rw [← en] at hq
    refine ⟨?_, ?_, w_free hq 0⟩ <;> simp [World.cell?, hq]
  have HCT := Lib.hid hcT
  have hlk : ∀ v, Below w.heap.size w v → (Instr.lookup 60 (.map (some M)) (.string fs) false).run Try.prog v = .ok (.int .i64 (if (⟨k, P⟩ : Trm) ∈ X.map Prod.fst then (numT (X.map Prod.fst) ⟨k, P⟩ : Int) else 0)) v := by
    intro v hv
    have hm := (hv.block M HMW.out).trans H.map
    have h1 := slook under_str under_num zero_int hm fs
    rw [h1, efs, H.look _ ht.fits]
    split <;> rfl
  have HLK := Lib.hid hlk
  clear hlk hcT h H hF hS hr ht hL efs hP4 hi0 hz0 hz1 hz2 en
  rw [← epl, ← eκ]
  clear epl eκ
  go_enter Try.func40, Try.ntmps40
  go_wp2_with fail
  go_at_call 51
  rw [HPL.out, HK.out]
  refine (HFo.out w HR.out.1 HR.out.2.1.1 HR.out.2.2).mono ?_
  rintro e w1 ⟨rfl, h1⟩
  rw [← HPL.out, ← HK.out, ← HFS.out]
  obtain ⟨c1, c2, c3⟩ := HCT.out w1 h1
  have hl1 := HLK.out w1 h1
  have HW1 := Lib.hid h1
  clear h1 HCT HLK HFo
  by_cases hm : (⟨k, P⟩ : Trm) ∈ X.map Prod.fst
  · rw [if_pos hm] at hl1
    have HKn := Lib.hid (show knowT (X.map Prod.fst) ⟨k, P⟩ = X.map Prod.fst from if_pos hm)
    have hg := knowT_get (X.map Prod.fst) ⟨k, P⟩
    rw [HKn.out] at hg
    obtain ⟨m, em⟩ : ∃ m, numT (X.map Prod.fst) ⟨k, P⟩ = m + 1 := ⟨_, rfl⟩
    have HEM := Lib.hid em
    rw [em] at hl1 hg
    rw [Nat.add_sub_cancel, List.getElem?_map] at hg
    obtain ⟨x, hx, ex⟩ := Option.map_eq_some_iff.1 hg
    obtain ⟨tx, b⟩ := x
    have ex' : tx = ⟨k, P⟩ := ex
    subst ex'
    have h5 := HH.out.1.keep (w' := w1) fun q hq => HW1.out.block q (HH.out.1.lt q hq)
    have hH1 : TabH w1 T M A0 c0 clk es X D := HH.out.2.1.keep (HW1.out.block _ HTW.out) (HW1.out.block _ HMW.out) (fun ad ea => HW1.out.block _ (HH.out.2.1.rows.blk ad ea).2) (fun y hy => HW1.out.block _ (w_lt (HH.out.2.1.parts y hy)))
    obtain ⟨ba, oa, rfl, hba, q0, q1⟩ := trm_cells hH1.rows.rd hx
    have hpb := hH1.parts _ (List.mem_of_getElem? hx)
    have hlt := (List.getElem?_eq_some_iff.1 hx).1
    rw [← HN.out] at hlt
    dsimp only at q0 q1 hpb
    rw [← HK.out] at q0
    rw [← HPL.out] at q1
    have HP5 := Lib.hid (And.intro h5 hpb)
    have hm6 : m ≤ 1000000 := by have := HLL.out; rw [List.length_map, ← HN.out] at this; omega
    have g1 : (((m + 1 : Nat) : Int) == 0) = false := by rw [beq_eq_false_iff_ne]; omega
    have g2 : (m : Int) < (n : Int) := by omega
    clear em hg hx ex h5 hH1 hpb hm c3
    rw [Int.natCast_add] at hl1 g1
    go_wp2_with fail
    rw [HPL.out, HK.out, show ((m : Int) + 1) = ((m + 1 : Nat) : Int) from rfl]
    refine (termname_any HT.out (by omega) w1 HP5.out.2).mono ?_
    rintro e w2 ⟨Aq, cq, rfl, ho, hb⟩
    have HO2 := Lib.hid (And.intro ho hb)
    clear ho hb
    go_wp2_with fail
    go_ret
    rw [HKn.out, HEM.out]
    exact ⟨Aq, cq, rfl, told_at HP5.out.1 (OutF.of HW1.out) (fun _ h => .inl h) (fun _ h => .inl h) HO2.out.1 HO2.out.2⟩
  · rw [if_neg hm] at hl1
    have HM := Lib.hid hm
    have HKn := Lib.hid (show knowT (X.map Prod.fst) ⟨k, P⟩ = X.map Prod.fst ++ [⟨k, P⟩] from if_neg hm)
    have HNu := Lib.hid (show numT (X.map Prod.fst) ⟨k, P⟩ = n + 1 by unfold numT; rw [List.idxOf_eq_length hm, List.length_map, HN.out])
    have HC1 := Lib.hid (fun wz (hz : Below w1.heap.size w1 wz) => show wz.cell? ⟨T, 0, none⟩ = some (.slice A0 n c0) from (hz.cell (p := ⟨T, 0, none⟩) (Nat.lt_of_lt_of_le HTW.out HW1.out.size)).trans c1)
    have HR1 := Lib.hid (fun wz (hz : Below w1.heap.size w1 wz) => (HR.out.1.keep (HW1.out.trans (hz.mono HW1.out.size))).mono (B' := wz.heap.size) (Nat.le_trans HW1.out.size hz.size))
    have HOX := Lib.hid (fun wz (hz : Below w1.heap.size w1 wz) => HH.out.2.1.rows.keep0 (w' := wz) fun ad ea => (HW1.out.trans (hz.mono HW1.out.size)).block _ (HH.out.2.1.rows.blk ad ea).2)
    have hn6 : n ≤ 1000000 := by have := HLL.out; rw [List.length_map, ← HN.out] at this; exact this
    have g1 : ((0 : Int) == 0) = true := rfl
    have HAB := Lib.hid (fun (b : Nat) (hb : w1.heap.size ≤ b) => show ¬ ∃ ad, A0 = some ad ∧ ad.block = b from fun ⟨ad, ea, e⟩ => by have := (HH.out.2.1.rows.blk ad ea).2; have := HW1.out.size; omega)
    clear hm
    go_upto_region 4 with fail
    refine wp_region_par 12 16 [some 20, some 21, some 22, some 23, some 24, some 25, some 26, some 27, some 28, some 29, some 30, some 31] [8, 9, 10, 11] [some (ptB T), some (ptB T), some (ptB T), some (.pointer (some ⟨T, 0, none⟩)), some (.slice A0 n c0), some (.int .u8 κ), some (.string fs), some (.slice A pl c), none, none, none, none]
      (fun Lb Vb wz => (Lb 11 = false → Below w1.heap.size w1 wz) ∧ (Lb 8 = true → ∃ b, Vb 8 = sliV b pl ∧ w1.heap.size ≤ b ∧ wz.heap[b]? = some (prtC P) ∧ (Lb 9 = true → Vb 9 = .agg #[.int .u8 κ, sliV b pl]) ∧ (Lb 10 = true → Lb 11 = false → ∃ g, Vb 10 = .slice (some ⟨g, 0, none⟩) 1 1 ∧ wz.heap[g]? = some (.cells #[.int .u8 κ, sliV b pl] 75) ∧ w1.heap.size ≤ g) ∧ (Lb 11 = true → ∃ A' c', Vb 11 = .slice A' (n + 1) c' ∧ OwnR trmE wz 0 75 A' c' (X ++ [((⟨k, P⟩ : Trm), b)]) ∧ GrewS w1 wz A0 A'))) (by kernel_rfl) (by kernel_rfl)
      (fun _ => ⟨fun _ => (Below.refl _ _).drew, fun h => absurd h (by decide)⟩) (fun u => by simp only [List.filterMap_cons, List.filterMap_nil, puts, List.foldl_cons, List.foldl_nil]; go_simp; exact rfl) ?_ ?_
    · simp only [List.take_succ_cons, List.take_zero]
      refine Par.soft rfl rfl (ptB T) rfl (fun u wz Lb Vb hT hh => ⟨rfl, by go_simp⟩) ?_
      refine Par.soft rfl rfl (ptB T) rfl (fun u wz Lb Vb hT hh => ⟨rfl, by go_simp⟩) ?_
      refine Par.soft rfl rfl (ptB T) rfl (fun u wz Lb Vb hT hh => ⟨rfl, by have d21 : u 21 = ptB T := hh.val 1 _ rfl rfl; rw [d21]; go_simp⟩) ?_
      refine Par.soft rfl rfl (.pointer (some ⟨T, 0, none⟩)) rfl (fun u wz Lb Vb hT hh => ⟨rfl, by have d22 : u 22 = ptB T := hh.val 2 _ rfl rfl; rw [d22]; go_simp⟩) ?_
      refine Par.soft rfl rfl (.slice A0 n c0) rfl (fun u wz Lb Vb hT hh => ⟨rfl, by have d23 : u 23 = .pointer (some ⟨T, 0, none⟩) := hh.val 3 _ rfl rfl; rw [d23]; have q0 := HC1.out wz (hT.1 (hh.not_ 11 rfl)); go_simp⟩) ?_
      refine Par.soft rfl rfl (.int .u8 κ) rfl (fun u wz Lb Vb hT hh => ⟨rfl, by go_simp⟩) ?_
      refine Par.soft rfl rfl (.string fs) rfl (fun u wz Lb Vb hT hh => ⟨rfl, by go_simp⟩) ?_
      refine Par.soft rfl rfl (.slice A pl c) rfl (fun u wz Lb Vb hT hh => ⟨rfl, by go_simp⟩) ?_
      refine Par.hard rfl (fun u wz Lb Vb hT hh => ?_) ?_
      · have d26 : u 26 = .string fs := hh.val 6 _ rfl rfl
        have d27 : u 27 = .slice A pl c := hh.val 7 _ rfl rfl
        rw [d26, d27]
        have bz := hT.1 (hh.not_ 11 rfl)
        have hq := HCu.out wz (HR1.out wz bz) HR.out.2.1.1 HR.out.2.1.2 HR.out.2.2
        rw [← HFS.out, ← HPL.out] at hq
        refine StepP.of rfl (StepC.call 52 #[.string fs, .slice A pl c] rfl (by go_simp) (hq.mono ?_))
        rintro e w' ⟨b, rfl, hb1, hb2, hb3⟩
        refine ⟨_, rfl, fun c hc => by simp at hc, fun _ => bz.trans (hb3.mono bz.size), fun _ => ⟨b, by simp [vset], Nat.le_trans bz.size hb1, hb2, fun h => ?_, fun h => ?_, fun h => ?_⟩⟩
        · exact absurd h (by have := hh.not_ 9 rfl; simp [lset, this])
        · exact absurd h (by have := hh.not_ 10 rfl; simp [lset, this])
        · exact absurd h (by have := hh.not_ 11 rfl; simp [lset, this])
      refine Par.hard rfl (fun u wz Lb Vb hT hh => ?_) ?_
      · have d25 : u 25 = .int .u8 κ := hh.val 5 _ rfl rfl
        rw [d25]
        have bz := hT.1 (hh.not_ 11 rfl)
        obtain ⟨b, e8, hb1, hb2, _, _, _⟩ := hT.2 (hh.been 8 rfl rfl)
        have d28 : u 28 = sliV b pl := (hh.hv 8 rfl).symm.trans e8
        rw [d28]
        refine StepP.of rfl (StepC.run (.agg #[.int .u8 κ, sliV b pl]) wz rfl (by go_simp) ⟨fun c hc => by simp at hc, fun _ => bz, fun _ => ⟨b, by simpa [vset] using e8, hb1, hb2, fun _ => by simp [vset], fun h => ?_, fun h => ?_⟩⟩)
        · exact absurd h (by have := hh.not_ 10 rfl; simp [lset, this])
        · exact absurd h (by have := hh.not_ 11 rfl; simp [lset, this])
      refine Par.hard rfl (fun u wz Lb Vb hT hh => ?_) ?_
      · have bz := hT.1 (hh.not_ 11 rfl)
        obtain ⟨b, e8, hb1, hb2, h9, _, _⟩ := hT.2 (hh.been 8 (by rfl) rfl)
        have d29 : u 29 = .agg #[.int .u8 κ, sliV b pl] := (hh.hv 9 rfl).symm.trans (h9 (hh.been 9 (by rfl) rfl))
        rw [d29]
        have ha := (Below.refl wz.heap.size wz).alloc (Nat.le_refl _) (.cells #[.int .u8 κ, sliV b pl] 75)
        refine StepP.of rfl (StepC.run (.slice (some ⟨wz.heap.size, 0, none⟩) 1 1) (wz.alloc (.cells #[.int .u8 κ, sliV b pl] 75)) rfl (by go_simp) ⟨fun c hc => by simp at hc, fun _ => bz.trans (ha.mono bz.size), fun _ => ⟨b, by simpa [vset] using e8, hb1, (ha.block b (w_lt hb2)).trans hb2, fun _ => by have := h9 (hh.been 9 (by rfl) rfl); simpa [vset] using this, fun _ _ => ⟨wz.heap.size, by simp [vset], (MapKept.heap_alloc wz (.cells #[.int .u8 κ, sliV b pl] 75)).1, bz.size⟩, fun h => ?_⟩⟩)
        exact absurd h (by have := hh.not_ 11 rfl; simp [lset, this])
      refine Par.hard rfl (fun u wz Lb Vb hT hh => ?_) Par.nil
      · have d24 : u 24 = .slice A0 n c0 := hh.val 4 _ rfl rfl
        rw [d24]
        have bz := hT.1 (hh.not_ 11 rfl)
        obtain ⟨b, e8, hb1, hb2, h9, h10, _⟩ := hT.2 (hh.been 8 (by rfl) rfl)
        obtain ⟨g, e10, hg, hg1⟩ := h10 (hh.been 10 (by rfl) rfl) (hh.not_ 11 rfl)
        have d30 : u 30 = .slice (some ⟨g, 0, none⟩) 1 1 := (hh.hv 10 rfl).symm.trans e10
        rw [d30]
        have hx : RdR trmE wz wz.heap.size (some ⟨g, 0, none⟩) 1 [((⟨k, P⟩ : Trm), b)] := ⟨Nat.le_refl _, fun h => (nomatch h), fun _ => ⟨g, 0, rfl, w_lt hg, fun j v hj => by
          unfold World.cell?
          simp only [Nat.zero_add, hg]
          rw [HK.out, HPL.out]
          simpa [Enc.all, trmE] using hj⟩⟩
        refine StepP.of rfl (StepC.appR wz rfl (.tmp 24) (.tmp 30) 61 rfl 0 75 i0 _ Try.underlying61 HI.out.1 HI.out.2.1 HI.out.2.2.1 HI.out.2.2.2 rfl (n := n) HN.out.symm rfl (HOX.out wz bz) (m := 1) rfl rfl hx (by omega) (by omega) (Nat.zero_le _) fun A9 c9 w9 o9 _ hg9 => ⟨fun c hc => by simp at hc, fun h => absurd h (by simp [lset]), fun _ => ⟨b, by simpa [vset] using e8, hb1, ?_, fun _ => by have := h9 (hh.been 9 (by rfl) rfl); simpa [vset] using this, fun _ h => absurd h (by simp [lset]), fun _ => ⟨A9, c9, by simp [vset], o9, fun c n => ?_, fun ad e => ?_⟩⟩⟩)
        · exact (hg9.1 c0 n).block b (w_lt hb2) (fun he => HAB.out b hb1 (by cases A0 with | none => simp [Value.ownBlock] at he | some a => exact ⟨a, rfl, (show b = a.block by simpa [Value.ownBlock] using he).symm⟩)) |>.trans hb2
        · have hq := hg9.1 c n
          exact ⟨hq.os.trans bz.os, hq.tape.trans bz.tape, hq.output.trans bz.output, Nat.le_trans bz.size hq.size, fun i hi hne => (hq.block i (Nat.lt_of_lt_of_le hi bz.size) hne).trans (bz.block i hi)⟩
        · exact (hg9.2 ad e).imp id fun h' => by rw [h']; exact bz.size
    · intro u wz hD hT
      obtain ⟨Lb, Vb, hT, hLV⟩ := hT
      obtain ⟨l8, v8⟩ := hLV 8 (by decide) rfl
      obtain ⟨l11, v11⟩ := hLV 11 (by decide) rfl
      obtain ⟨b, _, hb1, hb2, _, _, q11⟩ := hT.2 l8
      obtain ⟨A', c', e11, own, gr⟩ := q11 l11
      have d31 : u 31 = .slice A' (n + 1) c' := v11.symm.trans e11
      have d20 : u 20 = ptB T := hD 0 _ (by decide) rfl
      obtain ⟨aTM, aA, aX⟩ := HH.out.2.1.apart
      have hA' : ∀ ad, A' = some ad → ad.block ≠ T ∧ ad.block ≠ M := by
        intro ad ea
        rcases gr.2 ad ea with ⟨a0, e0, h0⟩ | h0
        · rw [← h0]; exact aA a0 e0
        · have h1 := HTW.out
          have h2 := HMW.out
          have h3 := HW1.out.size
          exact ⟨by omega, by omega⟩
      have hstay : ∀ q, q < w.heap.size → (∀ ad, A0 = some ad → ad.block ≠ q) → wz.heap[q]? = w.heap[q]? := by
        intro q hq hn
        refine ((gr.1 c0 n).block q (Nat.lt_of_lt_of_le hq HW1.out.size) (fun he => ?_)).trans (HW1.out.block q hq)
        cases A0 with
        | none => simp [Value.ownBlock] at he
        | some a => exact hn a rfl (show q = a.block by simpa [Value.ownBlock] using he).symm
      have hTz : wz.heap[T]? = some (.cells #[.slice A0 n c0, .map (some M), .int .i64 (D : Int)] 63) := by
        rw [hstay T HTW.out (fun ad ea => (aA ad ea).1), HH.out.2.1.table, ← HN.out]
      have hMz : wz.heap[M]? = some (mapV strV es clk) := (hstay M HMW.out (fun ad ea => (aA ad ea).2)).trans HH.out.2.1.map
      obtain ⟨w3, ew3⟩ : ∃ v, v = wz.setCell ⟨T, 0, none⟩ (.slice A' (n + 1) c') := ⟨_, rfl⟩
      have hT3 : w3.heap[T]? = some (.cells #[.slice A' (n + 1) c', .map (some M), .int .i64 (D : Int)] 63) := by rw [ew3, w_block hTz]; rfl
      have h3o : ∀ q, q ≠ T → w3.heap[q]? = wz.heap[q]? := fun q hq => by rw [ew3]; exact w_other wz _ hq
      have hM3 : w3.heap[M]? = some (mapV strV es clk) := (h3o M (Ne.symm aTM)).trans hMz
      have hs3 : w3.heap.size = wz.heap.size := by rw [ew3]; exact w_size wz _ _
      have hl0 := HH.out.2.1.look ⟨k, P⟩ HT.out.fits
      rw [if_neg HM.out, ← HFS.out] at hl0
      have hms := sstore under_str under_num hM3 fs (.int .i64 ((n : Int) + 1)) (lookV_none.1 hl0)
      obtain ⟨w4, ew4⟩ : ∃ v, v = putB w3 M (mapV strV (es ++ [⟨fs, .int .i64 ((n : Int) + 1), clk⟩]) (clk + 1)) := ⟨_, rfl⟩
      rw [← ew4] at hms
      have h4o : ∀ q, q ≠ M → w4.heap[q]? = w3.heap[q]? := fun q hq => by rw [ew4]; exact putB_other hq
      have hM4 : w4.heap[M]? = some (mapV strV (es ++ [⟨fs, .int .i64 ((n : Int) + 1), clk⟩]) (clk + 1)) := by rw [ew4]; exact putB_same (w_lt hM3)
      have hs4 : w4.heap.size = wz.heap.size := by rw [ew4, putB_size, hs3]
      have hT4 : w4.heap[T]? = some (.cells #[.slice A' (n + 1) c', .map (some M), .int .i64 (D : Int)] 63) := (h4o T aTM).trans hT3
      have hz4 : ∀ q, q ≠ T → q ≠ M → w4.heap[q]? = wz.heap[q]? := fun q h1 h2 => (h4o q h2).trans (h3o q h1)
      have own4 : OwnR trmE w4 0 75 A' c' (X ++ [((⟨k, P⟩ : Trm), b)]) := own.keep0 fun ad ea => hz4 _ (hA' ad ea).1 (hA' ad ea).2
      have hbT : b ≠ T ∧ b ≠ M := by
        have h1 := HTW.out
        have h2 := HMW.out
        have h3 := HW1.out.size
        exact ⟨by omega, by omega⟩
      have hP4 : w4.heap[b]? = some (prtC P) := (hz4 b hbT.1 hbT.2).trans hb2
      have hTab : TabH w4 T M A' c' (clk + 1) (es ++ [⟨⟨(formT ⟨k, P⟩).toArray⟩, .int .i64 ((X.length + 1 : Nat) : Int), clk⟩]) (X ++ [((⟨k, P⟩ : Trm), b)]) D := by
        refine HH.out.2.1.named_new HT.out HM.out (by rw [hT4, HN.out]) (by rw [hM4, HFS.out, HN.out]; rfl) own4 hP4 fun x hx => ?_
        obtain ⟨x1, x2, x3⟩ := aX x hx
        exact (hz4 _ x1 x2).trans (hstay _ (w_lt (HH.out.2.1.parts x hx)) fun ad ea => Ne.symm (x3 ad ea))
      obtain ⟨F5, eF5⟩ : ∃ F5 : Nat → Prop, ∀ q, F5 q ↔ q = T ∨ q = M ∨ ∃ ad, A' = some ad ∧ ad.block = q := ⟨_, fun _ => Iff.rfl⟩
      obtain ⟨S5, eS5⟩ : ∃ S5 : Nat → Prop, ∀ q, S5 q ↔ ∃ x ∈ X ++ [((⟨k, P⟩ : Trm), b)], x.2 = q := ⟨_, fun _ => Iff.rfl⟩
      have hR5 : TabR w4 F5 S5 T (knowT (X.map Prod.fst) ⟨k, P⟩) D := ⟨M, A', c', clk + 1, _, _, hTab, by rw [HKn.out, List.map_append, List.map_singleton], eF5, eS5⟩
      have hO5 : OutF F w w4 := by
        have hg := gr.1 c0 n
        refine ⟨?_, ?_, ?_, by rw [hs4]; exact Nat.le_trans HW1.out.size hg.size, fun q hq hn => ?_⟩
        · rw [ew4, ew3]; exact hg.os.trans HW1.out.os
        · rw [ew4, ew3]; exact hg.tape.trans HW1.out.tape
        · rw [ew4, ew3]; exact hg.output.trans HW1.out.output
        · have hF := HH.out.2.2.1 q
          have n1 : q ≠ T := fun e => hn (hF.2 (.inl e))
          have n2 : q ≠ M := fun e => hn (hF.2 (.inr (.inl e)))
          exact (hz4 q n1 n2).trans (hstay q hq fun ad ea e => hn (hF.2 (.inr (.inr ⟨ad, ea, e⟩))))
      have hF5 : ∀ q, F5 q → F q ∨ w.heap.size ≤ q := by
        intro q hq
        rcases (eF5 q).1 hq with e | e | ⟨ad, ea, e⟩
        · exact .inl ((HH.out.2.2.1 q).2 (.inl e))
        · exact .inl ((HH.out.2.2.1 q).2 (.inr (.inl e)))
        · rcases gr.2 ad ea with ⟨a0, e0, h0⟩ | h0
          · exact .inl ((HH.out.2.2.1 q).2 (.inr (.inr ⟨a0, e0, h0.trans e⟩)))
          · exact .inr (by rw [← e]; exact Nat.le_trans HW1.out.size h0)
      have hS5 : ∀ q, S5 q → S q ∨ w.heap.size ≤ q := by
        intro q hq
        obtain ⟨x, hx, e⟩ := (eS5 q).1 hq
        rcases List.mem_append.1 hx with hx | hx
        · exact .inl ((HH.out.2.2.2 q).2 ⟨x, hx, e⟩)
        · rw [List.mem_singleton.1 hx] at e
          exact .inr (by rw [← e]; exact Nat.le_trans HW1.out.size hb1)
      obtain ⟨ba, oa, rfl, hba, q0, q1⟩ := trm_cells own4.rd (show (X ++ [((⟨k, P⟩ : Trm), b)])[n]? = some (⟨k, P⟩, b) by rw [HN.out]; simp)
      dsimp only at q0 q1
      rw [← HK.out] at q0
      rw [← HPL.out] at q1
      have z0 : wz.cell? ⟨T, 0, none⟩ = some (.slice A0 n c0) := by simp [World.cell?, hTz]
      have zf : wz.frozen? ⟨T, 0, none⟩ = false := w_free hTz 0
      have z1 : w3.cell? ⟨T, 0, none⟩ = some (.slice (some ⟨ba, oa, none⟩) (n + 1) c') ∧ w3.cell? ⟨T, 1, none⟩ = some (.map (some M)) := by simp [World.cell?, hT3]
      have z4 : w4.cell? ⟨T, 0, none⟩ = some (.slice (some ⟨ba, oa, none⟩) (n + 1) c') := by simp [World.cell?, hT4]
      obtain ⟨z2, z3⟩ := z1
      have HE := Lib.hid (And.intro hR5 (And.intro hO5 (And.intro hF5 (And.intro hS5 hP4))))
      clear hR5 hO5 hF5 hS5 hP4 hTab own4 own gr hT4 hM4 hz4 h4o hs4 hs3 h3o hT3 hM3 hTz hMz hstay hA' aX aA aTM hl0 ew4 eF5 eS5 hT hLV l8 v8 l11 v11 e11 hb1 hb2 hbT hba q11 hD
      rw [d20, d31]
      go_upto_region 5 with fail
      rw [← ew3]
      clear ew3 z0 zf
      go_upto_region 7 with fail
      clear hms z2 z3
      go_wp2_with fail
      rw [HPL.out, HK.out, show ((n : Int) + 1) = ((n + 1 : Nat) : Int) from rfl]
      refine (termname_any HT.out (by omega) w4 HE.out.2.2.2.2).mono ?_
      rintro e w6 ⟨Aq, cq, rfl, ho, hb⟩
      have HO2 := Lib.hid (And.intro ho hb)
      clear ho hb
      go_wp2_with fail
      go_ret
      rw [HNu.out]
      exact ⟨Aq, cq, rfl, told_at HE.out.1 HE.out.2.1 HE.out.2.2.1 HE.out.2.2.2.1 HO2.out.1 HO2.out.2⟩
end Go.Proofs.Ytdddcgkgellbgab
