/-
  The landed reader of layer 13: so many bytes taken. By an AI agent.
-/
import Derived.Test.YtonfdnihllhcbaaWk4
namespace Go.Proofs.Ytonfdnihllhcbaa
open Go Go.RowKit
set_option maxRecDepth 20000
theorem copy_run {o : Oper} {a : Act} {w : World} (d s : Operand) (ho : o.op = .call { callee := .builtin .copy, args := #[d, s], argTypes := #[22, 22] })
    {B g C N dl dc m n : Nat} {e0 : TypeId} {f : Nat → Value} (h0 : OwnF w B e0 (some ⟨g, 0, none⟩) C N f) {B' c : Nat} {A : Option Addr} {bs : List UInt8} (hr : Rd w B' A c bs) (hn : bs.length = n) (hm : m = Nat.min n dl) (hfit : m ≤ N) (hp : 0 < m)
    (hd : a.eval d = .slice (some ⟨g, 0, none⟩) dl dc) (hs : a.eval s = .slice A n c) : (execOp a.eval o).run Try.prog w = .ok (.value (.int .i64 (m : Int))) (setA w g 0 m (bvf bs)) := by
  subst hn
  have hu : Try.prog.underlying 22 = some (.slice 5) := Try.underlying22
  have hsz : (Try.prog.info? 5).map (·.size) = some 1 := by kernel_rfl
  have hml : m ≤ bs.length := by rw [hm]; exact Nat.min_le_left _ _
  have hbs : bs ≠ [] := by rintro rfl; simp at hml; omega
  obtain ⟨b, o', rfl, hb, hcell⟩ := hr.some_ hbs
  have hrun := run_copy_cells (P := Try.prog) w 22 22 o.type 5 g 0 dl dc ⟨b, o', none⟩ bs.length c (rl m (bvf bs)) hu hsz (by rw [rl_len]; exact hm)
    (by intro j v hv; have hj : j < m := by have := (List.getElem?_eq_some_iff.1 hv).1; rwa [rl_len] at this
        rw [rl_get hj, Option.some.injEq] at hv; subst hv; rw [Addr.add_mid]; exact hcell j (by omega))
    (by intro j hj; rw [rl_len] at hj; rw [OwnF.cell h0 (k := 0 + j) (by omega)]; rfl)
    (by intro j hj; exact OwnF.free h0 _)
    (by intro v hv; obtain ⟨k, hk, rfl⟩ := List.mem_map.1 hv; rfl)
  rw [rl_len] at hrun
  simp [execOp, ho, resolve, invoke, builtin, hd, hs, hrun, Result.andThen]
  exact ⟨rfl, rfl⟩
theorem nth_taken {bs : List UInt8} {n k : Nat} (hk : k < n) : nth (bs.take n) k = nth bs k := by
  unfold nth
  rw [List.getElem?_take, if_pos hk]
theorem rd_bvf {w : World} {B g n : Nat} {e : TypeId} {bs : List UInt8} (hn : bs.length = n) (h : OwnF w B e (some ⟨g, 0, none⟩) n n (bvf bs)) : Rd w w.heap.size (some ⟨g, 0, none⟩) n bs := by
  subst hn
  exact ⟨Nat.le_refl _, (fun h => nomatch h), fun _ => ⟨g, 0, rfl, OwnF.lt h, fun k hk => by rw [Nat.zero_add]; exact OwnF.cell h hk⟩⟩
set_option maxHeartbeats 3200000 in
theorem take_code {w : World} {B C g c a n : Nat} {A : Option Addr} {all : List UInt8} {e : Int} (h : RdAt w B C g A c all a e) (h1 : 0 < n) (h2 : a + n ≤ all.length) :
    Calls Try.prog 38 #[.pointer (some ⟨g, 0, none⟩), .int .i64 (n : Int)] w fun x w' => ∃ A' c', x = .returned (.slice A' n c') ∧ Rd w' w'.heap.size A' c' ((all.drop a).take n) ∧ (∀ ad, A' = some ad → w.heap.size ≤ ad.block) ∧ RdAt w' B C g A c all (a + n) e ∧ OutB B C w w' := by
  obtain ⟨i0, hi, hz0, hz1, hz2⟩ := info_parts infoU8
  have hfew := h.few
  have htop := h.top
  have hhi := h.hi
  have hmk := run_mk (P := Try.prog) 22 5 i0 Try.underlying22 hi hz0 hz1 hz2 (l := (n : Int)) (n := n) rfl (by omega)
  obtain ⟨h0, eh⟩ : ∃ h0, h0 = w.heap.size := ⟨_, rfl⟩
  obtain ⟨v1, ev⟩ : ∃ v, v = w.alloc (.cells (madeCells #[.int .u8 0] n) 5) := ⟨_, rfl⟩
  have o1 : OwnF v1 w.heap.size 5 (some ⟨h0, 0, none⟩) n n (fun _ => .int .u8 0) := by rw [ev, eh]; exact OwnF.made 5 (.int .u8 0) (Nat.le_refl _) (by unfold maxLen; omega)
  have hb1 : Below w.heap.size w v1 := by rw [ev]; exact (Below.refl _ w).alloc (Nat.le_refl _) _
  have hr1 := h.next hb1
  have hs1 : v1.heap.size = h0 + 1 := by rw [ev, eh]; simp
  obtain ⟨A2, eA2⟩ : ∃ A2, A2 = subA A c a := ⟨_, rfl⟩
  obtain ⟨q, eq⟩ : ∃ q, q = all.length - a := ⟨_, rfl⟩
  obtain ⟨c2, ec2⟩ : ∃ c2, c2 = c - a := ⟨_, rfl⟩
  obtain ⟨p, ep⟩ : ∃ p, p = a + n := ⟨_, rfl⟩
  have HP := Lib.hid (show IntKind.i64.wrap ((a : Int) + (n : Int)) = (p : Int) by rw [IntKind.wrap_i64]; omega)
  have hla : a ≤ all.length := h.at_
  have HN := Lib.hid (And.intro hla (And.intro eA2 (And.intro eq (And.intro ec2 (And.intro ep (And.intro hs1 (And.intro h1 h2)))))))
  have hcl : OutB B C w v1 := OutB.of hb1
  have HE := Lib.hid ev
  have HH := Lib.hid (And.intro eh (And.intro htop hhi))
  have KO := Lib.hid (And.intro o1 (And.intro hr1 hcl))
  clear h1 h2 hla eA2 eq ec2 ep hs1 ev eh htop hhi o1 hr1 hcl h hfew hb1
  rw [← HN.out.2.2.2.2.1]
  go_enter Try.func38, Try.ntmps38
  go_upto_region 2 with fail
  rw [← HE.out, ← HH.out.1]
  clear hmk HE
  refine wp_region_par 16 18 [some 8, some 9, some 10, some 11, some 12, some 13, some 14, some 15, some 16, some 17, some 18, some 19, some 20, some 21, some 22, some 23] [14]
    [some (.pointer (some ⟨g, 0, none⟩)), some (.pointer (some ⟨g, 0, none⟩)), some (.pointer (some ⟨g, 1, none⟩)), some (.int .i64 (a : Int)), some (.slice (some ⟨h0, 0, none⟩) n n), some (.pointer (some ⟨g, 0, none⟩)), some (.pointer (some ⟨g, 0, none⟩)), some (.pointer (some ⟨g, 0, none⟩)), some (.slice A all.length c), some (.pointer (some ⟨g, 0, none⟩)), some (.pointer (some ⟨g, 0, none⟩)), some (.pointer (some ⟨g, 1, none⟩)), some (.int .i64 (a : Int)), some (.slice A2 q c2), some (.int .i64 (n : Int)), some (.int .i64 (p : Int))]
    (fun L _ wz => RdAt wz B C g A c all a e ∧ (L 14 = false → OwnF wz w.heap.size 5 (some ⟨h0, 0, none⟩) n n (fun _ => .int .u8 0)) ∧ (L 14 = true → OwnF wz w.heap.size 5 (some ⟨h0, 0, none⟩) n n (bvf ((all.drop a).take n))) ∧ OutB B C w wz) (by kernel_rfl) (by kernel_rfl)
    (fun _ => ⟨KO.out.2.1.next (below_drewN (w := v1) _ 1), fun _ => KO.out.1, fun h => absurd h (by decide), KO.out.2.2.trans (OutB.of (below_drewN (w := v1) _ 1))⟩) (fun u => by simp only [List.filterMap_cons, List.filterMap_nil, puts, List.foldl_cons, List.foldl_nil]; go_simp; exact rfl) ?_ ?_
  · simp only [List.take_succ_cons, List.take_zero]
    refine Par.soft rfl rfl (.pointer (some ⟨g, 0, none⟩)) rfl (fun u w L V hT hh => ⟨rfl, by go_simp⟩) ?_
    refine Par.soft rfl rfl (.pointer (some ⟨g, 0, none⟩)) rfl (fun u w L V hT hh => ⟨rfl, by have d8 : u 8 = .pointer (some ⟨g, 0, none⟩) := hh.val 0 _ rfl rfl; rw [d8]; go_simp⟩) ?_
    refine Par.soft rfl rfl (.pointer (some ⟨g, 1, none⟩)) rfl (fun u w L V hT hh => ⟨rfl, by have d8 : u 9 = .pointer (some ⟨g, 0, none⟩) := hh.val 1 _ rfl rfl; rw [d8]; go_simp⟩) ?_
    refine Par.soft rfl rfl (.int .i64 (a : Int)) rfl (fun u w L V hT hh => ⟨rfl, by have d8 : u 10 = .pointer (some ⟨g, 1, none⟩) := hh.val 2 _ rfl rfl; rw [d8]; have k1 := ORd.c1 hT.1.cells; go_simp⟩) ?_
    refine Par.soft rfl rfl (.slice (some ⟨h0, 0, none⟩) n n) rfl (fun u w L V hT hh => ⟨rfl, by go_simp⟩) ?_
    refine Par.soft rfl rfl (.pointer (some ⟨g, 0, none⟩)) rfl (fun u w L V hT hh => ⟨rfl, by go_simp⟩) ?_
    refine Par.soft rfl rfl (.pointer (some ⟨g, 0, none⟩)) rfl (fun u w L V hT hh => ⟨rfl, by have d8 : u 13 = .pointer (some ⟨g, 0, none⟩) := hh.val 5 _ rfl rfl; rw [d8]; go_simp⟩) ?_
    refine Par.soft rfl rfl (.pointer (some ⟨g, 0, none⟩)) rfl (fun u w L V hT hh => ⟨rfl, by have d8 : u 14 = .pointer (some ⟨g, 0, none⟩) := hh.val 6 _ rfl rfl; rw [d8]; go_simp⟩) ?_
    refine Par.soft rfl rfl (.slice A all.length c) rfl (fun u w L V hT hh => ⟨rfl, by have d8 : u 15 = .pointer (some ⟨g, 0, none⟩) := hh.val 7 _ rfl rfl; rw [d8]; have k1 := ORd.c0 hT.1.cells; go_simp⟩) ?_
    refine Par.soft rfl rfl (.pointer (some ⟨g, 0, none⟩)) rfl (fun u w L V hT hh => ⟨rfl, by go_simp⟩) ?_
    refine Par.soft rfl rfl (.pointer (some ⟨g, 0, none⟩)) rfl (fun u w L V hT hh => ⟨rfl, by have d8 : u 17 = .pointer (some ⟨g, 0, none⟩) := hh.val 9 _ rfl rfl; rw [d8]; go_simp⟩) ?_
    refine Par.soft rfl rfl (.pointer (some ⟨g, 1, none⟩)) rfl (fun u w L V hT hh => ⟨rfl, by have d8 : u 18 = .pointer (some ⟨g, 0, none⟩) := hh.val 10 _ rfl rfl; rw [d8]; go_simp⟩) ?_
    refine Par.soft rfl rfl (.int .i64 (a : Int)) rfl (fun u w L V hT hh => ⟨rfl, by have d8 : u 19 = .pointer (some ⟨g, 1, none⟩) := hh.val 11 _ rfl rfl; rw [d8]; have k1 := ORd.c1 hT.1.cells; go_simp⟩) ?_
    refine Par.soft rfl rfl (.slice A2 q c2) rfl (fun u w L V hT hh => ⟨rfl, by have d22 : u 16 = .slice A all.length c := hh.val 8 _ rfl rfl; have d23 : u 20 = .int .i64 (a : Int) := hh.val 12 _ rfl rfl; rw [d22, d23, HN.out.2.1, HN.out.2.2.1, HN.out.2.2.2.1]; exact slice_op_lo rfl rfl rfl HN.out.1⟩) ?_
    refine Par.hard rfl (fun u wz L V hT hh => ?_) ?_
    · have d12 : u 12 = .slice (some ⟨h0, 0, none⟩) n n := hh.val 4 _ rfl rfl
      have d21 : u 21 = .slice A2 q c2 := hh.val 13 _ rfl rfl
      rw [d12, d21]
      obtain ⟨q1, q2, _, q4⟩ := hT
      have oz := q2 (hh.not_ 14 rfl)
      have hrd : Rd wz wz.heap.size A2 c2 (all.drop a) := by rw [HN.out.2.1, HN.out.2.2.2.1]; exact q1.row.rd.drop_ HN.out.1
      have hlen : (all.drop a).length = q := by rw [List.length_drop, HN.out.2.2.1]
      obtain ⟨x1, x2, x3, x4, x5, x6, x7, x8⟩ := HN.out
      have hne : h0 ≠ g := by have := HH.out; omega
      have hon := av_only wz h0 0 n (bvf (all.drop a))
      refine StepP.of rfl (StepC.run (.int .i64 (n : Int)) (setA wz h0 0 n (bvf (all.drop a))) rfl (copy_run (m := n) (.tmp 12) (.tmp 21) rfl oz hrd hlen (show n = Nat.min q n from (Nat.min_eq_right (by omega)).symm) (Nat.le_refl _) x7 rfl rfl) ⟨fun c hc => ?_, ?_, fun h => absurd h (by simp [lset]), fun _ => ?_, ?_⟩)
      · simpa using hc
      · exact q1.keep (fun k _ hk => hon.block k (by have := HH.out; omega)) (Nat.le_of_eq hon.size.symm)
      · refine OwnF.congr (av_all oz (bvf (all.drop a))) fun k hk => ?_
        unfold bvf
        rw [nth_taken hk]
      · exact ⟨hon.os.trans q4.os, hon.tape.trans q4.tape, hon.output.trans q4.output, by rw [hon.size]; exact q4.size, fun k hk hn => (hon.block k (by have := HH.out; omega)).trans (q4.block k hk hn)⟩
    refine Par.soft rfl rfl (.int .i64 (p : Int)) rfl (fun u w L V hT hh => ⟨rfl, by have d11 : u 11 = .int .i64 (a : Int) := hh.val 3 _ rfl rfl; have d22 : u 22 = .int .i64 (n : Int) := hh.val 14 _ rfl rfl; rw [d11, d22]; go_simp; exact HP.out⟩) ?_
    exact Par.nil
  · rintro u v2 hv ⟨L, V, ⟨q1, _, q3, q4⟩, hl⟩
    have d5 : u 8 = .pointer (some ⟨g, 0, none⟩) := hv 0 _ (by decide) rfl
    have d23 : u 23 = .int .i64 (p : Int) := hv 15 _ (by decide) rfl
    rw [d5, d23]
    have o2 := q3 (hl 14 (by decide) rfl).1
    have f1 := OwnF.free q1.cells 1
    have c1 := ORd.c1 q1.cells
    have h3 := q1.setAt (a2 := p) (by have := HN.out; omega)
    have hlen : ((all.drop a).take n).length = n := by rw [List.length_take, List.length_drop]; have := HN.out; omega
    have hne : h0 ≠ g := by have := HH.out; omega
    have o3 := OwnF.only o2 (Only.setCell v2 ⟨g, 1, none⟩ (.int .i64 (p : Int))) (fun h => hne h.symm)
    have HO := Lib.hid (And.intro (rd_bvf hlen o3) (And.intro h3.1 (q4.trans h3.2)))
    clear o2 o3 h3 q1 q3 q4 hl hv d5 d23 hlen hne KO
    simp only [List.drop_succ_cons, List.drop_zero]
    go_wp2_with fail
    go_ret
    exact ⟨_, _, rfl, HO.out.1, fun ad h => by rw [← Option.some.inj h]; exact Nat.le_of_eq HH.out.1.symm, HO.out.2.1, HO.out.2.2⟩
end Go.Proofs.Ytonfdnihllhcbaa
