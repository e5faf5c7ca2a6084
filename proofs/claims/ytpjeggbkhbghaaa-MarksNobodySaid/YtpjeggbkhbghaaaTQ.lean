/-
  Layer 16, the document's Style. By an AI agent. Layer 16, the document's Runs. By an AI agent.
-/
import Derived.Test.YtpjeggbkhbghaaaTN
import Derived.Test.YtpjeggbkhbghaaaTN
namespace Go.Proofs.Ytpjeggbkhbghaaa
open Go Go.RowKit
set_option maxRecDepth 20000
theorem sets_below16 (g : Nat) : ∀ (vs : List Value) (o : Nat) (w : World), Below g w (w.setCells g o vs)
  | [], _, w => Below.refl _ w
  | v :: r, o, w => ((Below.refl g w).setCell (p := ⟨g, o, none⟩) (Nat.le_refl g) v).trans (sets_below16 g r (o + 1) _)
def set10 (w : World) (g : Nat) (x : Mrk) : World := ((((((((((w).setCell ⟨g, 0, none⟩ (.int .i64 x.clock)).setCell ⟨g, 1, none⟩ (.int .i64 x.author)).setCell ⟨g, 2, none⟩ (.int .i64 x.from_.id.1)).setCell ⟨g, 3, none⟩ (.int .i64 x.from_.id.2)).setCell ⟨g, 4, none⟩ (.bool x.from_.behind)).setCell ⟨g, 5, none⟩ (.int .i64 x.upto.id.1)).setCell ⟨g, 6, none⟩ (.int .i64 x.upto.id.2)).setCell ⟨g, 7, none⟩ (.bool x.upto.behind)).setCell ⟨g, 8, none⟩ (.int .i64 x.name)).setCell ⟨g, 9, none⟩ (.int .i64 x.value)
theorem ownsRow_sets16 {B n c g size : Nat} {e : TypeId} : ∀ (vs : List Value) (o : Nat) (w : World) (xs : List Value), w.ownsRow B e size (.slice (some ⟨g, 0, none⟩) n c) n xs → ∃ ys, (w.setCells g o vs).ownsRow B e size (.slice (some ⟨g, 0, none⟩) n c) n ys ∧ ys.length = xs.length ∧ (∀ k, k < vs.length → o + k < xs.length → ys[o + k]? = vs[k]?) ∧ ∀ k, (k < o ∨ o + vs.length ≤ k) → ys[k]? = xs[k]?
  | [], o, w, xs, h => ⟨xs, h, rfl, fun k hk => absurd hk (Nat.not_lt_zero _), fun _ _ => rfl⟩
  | v :: r, o, w, xs, h => by
    obtain ⟨ys, h1, h2, h3, h4⟩ := ownsRow_sets16 r (o + 1) _ _ (World.ownsRow.stored h o v).1
    refine ⟨ys, h1, by rw [h2, List.length_set], fun k hk hl => ?_, fun k hk => ?_⟩
    · cases k with
      | zero =>
        rw [Nat.add_zero] at hl ⊢
        rw [h4 o (.inl (Nat.lt_succ_self _)), List.getElem?_set_self hl]
        rfl
      | succ k =>
        have := h3 k (by simpa using hk) (by rw [List.length_set]; omega)
        rw [show o + (k + 1) = o + 1 + k by omega, this]
        rfl
    · rw [List.length_cons] at hk
      rw [h4 k (by omega), List.getElem?_set_ne (by omega)]
theorem put10 {w : World} {B c g : Nat} {q : Mrk} (h : OwnR mrkE w B 31 (some ⟨g, 0, none⟩) c [q]) (y : Mrk) : OwnR mrkE (set10 w g y) B 31 (some ⟨g, 0, none⟩) c [y] ∧ Below B w (set10 w g y) := by
  have e : set10 w g y = w.setCells g 0 (mrkE.enc y) := rfl
  rw [e]
  refine ⟨?_, (sets_below16 g _ _ w).mono (OwnR.blk h _ rfl).1⟩
  obtain ⟨ys, h1, h2, h3, _⟩ := ownsRow_sets16 (mrkE.enc y) 0 w _ h
  have hy : ys = mrkE.all [y] := by
    refine List.ext_getElem? fun k => ?_
    by_cases hk : k < 10
    · have := h3 k (by rw [mrkE.len]; exact hk) (by rw [Enc.all_len]; show 0 + k < 1 * 10; omega)
      rw [Nat.zero_add] at this
      rw [this]
      unfold Enc.all
      simp
    · rw [List.getElem?_eq_none (by rw [h2, Enc.all_len]; show 1 * 10 ≤ k; omega), List.getElem?_eq_none (by rw [Enc.all_len]; show 1 * 10 ≤ k; omega)]
  rw [hy] at h1
  exact h1
theorem OwnR.free10 {α : Type} {E : Enc α} {w : World} {B c g : Nat} {e : TypeId} {L : List α} (h : OwnR E w B e (some ⟨g, 0, none⟩) c L) (k : Nat) : w.frozen? ⟨g, k, none⟩ = false := World.ownsRow.frozenAt h k
theorem OwnF.apart {w : World} {B c n g g9 : Nat} {e : TypeId} {fn : Nat → Value} {y : Mrk} (h : OwnF w B e (some ⟨g, 0, none⟩) c n fn) (hg : g ≠ g9) : OwnF (set10 w g9 y) B e (some ⟨g, 0, none⟩) c n fn := by
  unfold set10
  exact OwnF.other (OwnF.other (OwnF.other (OwnF.other (OwnF.other (OwnF.other (OwnF.other (OwnF.other (OwnF.other (OwnF.other (h) (p := ⟨g9, 0, none⟩) (Ne.symm hg) _) (p := ⟨g9, 1, none⟩) (Ne.symm hg) _) (p := ⟨g9, 2, none⟩) (Ne.symm hg) _) (p := ⟨g9, 3, none⟩) (Ne.symm hg) _) (p := ⟨g9, 4, none⟩) (Ne.symm hg) _) (p := ⟨g9, 5, none⟩) (Ne.symm hg) _) (p := ⟨g9, 6, none⟩) (Ne.symm hg) _) (p := ⟨g9, 7, none⟩) (Ne.symm hg) _) (p := ⟨g9, 8, none⟩) (Ne.symm hg) _) (p := ⟨g9, 9, none⟩) (Ne.symm hg) _
theorem own_mrk {w : World} {B c g : Nat} {q : Mrk} (h : OwnR mrkE w B 31 (some ⟨g, 0, none⟩) c [q]) : MrkB w g q ∧ g < w.heap.size := by
  obtain ⟨b, o, e, hlt, hc⟩ := mrk_at h.rd (k := 0) (x := q) rfl
  simp only [Option.some.injEq, Addr.mk.injEq, and_true] at e
  obtain ⟨rfl, rfl⟩ := e
  exact ⟨by unfold MrkB; simpa using hc, hlt⟩
/-- The style as far as it is told. -/
def outF (N : List Nod) (L : List Mrk) (t : Int) (j i : Nat) : Value := .int .i64 (if 1 ≤ i ∧ i < j then (bestM N L t (i : Int)).value else 0)
theorem sty_res1 {fn : Func} {p : Tmp} (h : fn.results = #[.cell p 55]) (tmps : Array Value) {w : World} {B g : Nat} {x : Sty} (o : OwnF w B 55 (some ⟨g, 0, none⟩) 5 5 (fun i => .int .i64 (x.get i))) (hp : tmps.getD p undef = .pointer (some ⟨g, 0, none⟩)) :
    (results fn tmps).run Try.prog w = .ok (styV x) w := by
  have hp' : tmps[p]?.getD undef = .pointer (some ⟨g, 0, none⟩) := by simpa using hp
  have c0 : w.cell? ⟨g, 0, none⟩ = some (.int .i64 x.a0) := OwnF.cell o (k := 0) (by decide)
  have c1 : w.cell? ⟨g, 1, none⟩ = some (.int .i64 x.a1) := OwnF.cell o (k := 1) (by decide)
  have c2 : w.cell? ⟨g, 2, none⟩ = some (.int .i64 x.a2) := OwnF.cell o (k := 2) (by decide)
  have c3 : w.cell? ⟨g, 3, none⟩ = some (.int .i64 x.a3) := OwnF.cell o (k := 3) (by decide)
  have c4 : w.cell? ⟨g, 4, none⟩ = some (.int .i64 x.a4) := OwnF.cell o (k := 4) (by decide)
  simp only [results, h]
  simp [Result.andThen, hp', asAddr, go_sem, c0, c1, c2, c3, c4]
set_option maxHeartbeats 6400000 in
theorem rstyle_any {A A2 : Option Addr} {B B2 c c2 n n2 : Nat} {L : List Mrk} {N : List Nod} (t : Int) (w : World) (r : RdR mrkE w B A c L) (r2 : RdR nodE w B2 A2 c2 N) (hB : B ≤ w.heap.size) (hB2 : B2 ≤ w.heap.size) (hn : L.length = n) (hl : n ≤ 1000000) (hn2 : N.length = n2) (hl2 : n2 ≤ 1000000) (hg : Good L) :
    Calls Try.prog 25 #[.slice A2 n2 c2, .slice A n c, .int .i64 t] w fun e w' => e = .returned (styV (stR N L t)) ∧ Below w.heap.size w w' := by
  obtain ⟨v1, ev⟩ : ∃ v, v = (w.alloc (.cells #[.int .i64 0, .int .i64 0, .int .i64 0, .int .i64 0, .int .i64 0] 55)).alloc (.cells #[.int .i64 0, .int .i64 0, .int .i64 0, .int .i64 0, .int .i64 0] 55) := ⟨_, rfl⟩
  obtain ⟨g, eg⟩ : ∃ g, g = w.heap.size := ⟨_, rfl⟩
  have hb : Below w.heap.size w v1 := by rw [ev]; exact ((Below.refl _ _).alloc (Nat.le_refl _) _).alloc (by simp) _
  have hz0 : outF N L t 1 = fun _ => .int .i64 0 := by
    funext i
    unfold outF
    rw [if_neg (by omega)]
  have o6 : OwnF v1 w.heap.size 55 (some ⟨g, 0, none⟩) 5 5 (fun _ => .int .i64 0) := by
    rw [ev, eg]
    exact OwnF.keep (OwnF.lit (w := w) (B := w.heap.size) 55 (Nat.le_refl _) #[.int .i64 0, .int .i64 0, .int .i64 0, .int .i64 0, .int .i64 0] 5 (fun _ => .int .i64 0) (by decide) rfl) ((Below.refl _ _).alloc (Nat.le_refl _) _)
  have o7 : OwnF v1 w.heap.size 55 (some ⟨g + 1, 0, none⟩) 5 5 (outF N L t 1) := by
    rw [ev, eg, hz0]
    have := OwnF.lit (w := w.alloc (.cells #[.int .i64 0, .int .i64 0, .int .i64 0, .int .i64 0, .int .i64 0] 55)) (B := w.heap.size) 55 (by simp) #[.int .i64 0, .int .i64 0, .int .i64 0, .int .i64 0, .int .i64 0] 5 (fun _ => .int .i64 0) (by decide) rfl
    simpa using this
  have HB := Lib.hid hb
  have HV := Lib.hid (And.intro ev eg)
  have HO := Lib.hid (And.intro o6 o7)
  have HR := Lib.hid (fun wz (hz : Below w.heap.size w wz) => (r.keep (hz.mono hB) : RdR mrkE wz B A c L))
  have HCV := Lib.hid (fun (y : Mrk) wz (hz : Below w.heap.size w wz) => covers_any y t wz (r2.keep (hz.mono hB2)) (Nat.le_trans hB2 hz.size) hn2 hl2)
  have HN := Lib.hid (And.intro hn (And.intro hl hB))
  have HG0 := Lib.hid hg
  clear ev eg hb o6 o7 hz0 r r2 hg hn hn2 hl2 hB hB2
  go_enter Try.func25, Try.ntmps25
  go_upto_region 2 with fail
  rw [← HV.out.1, ← HV.out.2]
  clear HV
  go_wp2_with fail
  go_loopw [8] (fun i wr => ∃ j : Nat, 1 ≤ j ∧ j ≤ 5 ∧ i = .int .i64 (j : Int) ∧ OwnF wr w.heap.size 55 (some ⟨g, 0, none⟩) 5 5 (fun _ => .int .i64 0) ∧ OwnF wr w.heap.size 55 (some ⟨g + 1, 0, none⟩) 5 5 (outF N L t j) ∧ Below w.heap.size w wr) (fun i _ => 5 - (intF i).toNat)
  case atStart => exact ⟨1, by decide, by decide, rfl, HO.out.1, HO.out.2, HB.out⟩
  case round =>
    obtain ⟨j, hj1, hj5, rfl, o6, o7, hbr⟩ := hrel
    clear HO HB
    by_cases hlt : j < 5
    · have gj : (j : Int) < 5 := by omega
      obtain ⟨vj, evj⟩ : ∃ v, v = wr.alloc (.cells #[.int .i64 0, .int .i64 0, .int .i64 0, .int .i64 0, .bool false, .int .i64 0, .int .i64 0, .bool false, .int .i64 0, .int .i64 0] 31) := ⟨_, rfl⟩
      obtain ⟨g9, eg9⟩ : ∃ g, g = wr.heap.size := ⟨_, rfl⟩
      have hbj : Below wr.heap.size wr vj := by rw [evj]; exact (Below.refl _ _).alloc (Nat.le_refl _) _
      have oq : OwnR mrkE vj w.heap.size 31 (some ⟨g9, 0, none⟩) 1 [mrk0] := by
        rw [evj, eg9]
        exact OwnR.lit (E := mrkE) (w := wr) 31 hbr.size _ [mrk0] (by simp [maxLen]) rfl
      have HV := Lib.hid (And.intro evj eg9)
      have HQ0 := Lib.hid oq
      have HG := Lib.hid (show g ≠ g9 ∧ g + 1 ≠ g9 from ⟨fun e => by have := OwnF.lt o6; omega, fun e => by have := OwnF.lt o7; omega⟩)
      have HO67 := Lib.hid (And.intro (OwnF.keep o6 hbj) (And.intro (OwnF.keep o7 hbj) (hbr.trans (hbj.mono hbr.size))))
      have HJ := Lib.hid (And.intro hj1 hlt)
      clear evj eg9 hbj oq o6 o7 hbr hj1 hj5 hlt
      go_upto_region 6 with fail
      rw [← HV.out.1, ← HV.out.2]
      clear HV
      go_wp2_with fail
      obtain ⟨vk, evk⟩ : ∃ v, v = wr := ⟨_, rfl⟩
      rw [← evk] at *
      clear evk wr
      go_loopw [10] (fun i wr => ∃ k : Nat, k ≤ n ∧ i = .int .i64 (k : Int) ∧ OwnR mrkE wr w.heap.size 31 (some ⟨g9, 0, none⟩) 1 [bestM N (L.take k) t (j : Int)] ∧ OwnF wr w.heap.size 55 (some ⟨g + 1, 0, none⟩) 5 5 (outF N L t j) ∧ OwnF wr w.heap.size 55 (some ⟨g, 0, none⟩) 5 5 (fun _ => .int .i64 0) ∧ Below w.heap.size w wr) (fun i _ => n - (intF i).toNat)
      case atStart => exact ⟨0, Nat.zero_le _, rfl, HQ0.out, HO67.out.2.1, HO67.out.1, HO67.out.2.2⟩
      case round =>
        obtain ⟨k, hk, rfl, oq, o7, o6, hbr⟩ := hrel
        clear HO67 HQ0
        by_cases hlt : k < n
        · have gk : (k : Int) < (n : Int) := by omega
          obtain ⟨y, hy⟩ := getD_of (L := L) (k := k) (by rw [HN.out.1]; exact hlt)
          obtain ⟨b, o, rfl, hbB, hcy⟩ := mrk_at (HR.out wr hbr) hy
          obtain ⟨q, eq⟩ : ∃ q, q = bestM N (L.take k) t (j : Int) := ⟨_, rfl⟩
          rw [← eq] at oq
          have hX : bestM N (L.take (k + 1)) t (j : Int) = bestS N t (j : Int) q y := by rw [take_snoc hy, bestM_snoc, ← eq]
          obtain ⟨hcq, h9⟩ := own_mrk oq
          have hbw : b < wr.heap.size := Nat.lt_of_lt_of_le hbB (Nat.le_trans HN.out.2.2 hbr.size)
          have HS := Lib.hid (fun wz (hz : Below wr.heap.size wr wz) => show (wz.cell? ⟨b, o + k * 10, none⟩ = some (.int .i64 y.clock) ∧ wz.cell? ⟨b, o + k * 10 + 1, none⟩ = some (.int .i64 y.author) ∧ wz.cell? ⟨b, o + k * 10 + 2, none⟩ = some (.int .i64 y.from_.id.1) ∧ wz.cell? ⟨b, o + k * 10 + 3, none⟩ = some (.int .i64 y.from_.id.2) ∧ wz.cell? ⟨b, o + k * 10 + 4, none⟩ = some (.bool y.from_.behind) ∧ wz.cell? ⟨b, o + k * 10 + 5, none⟩ = some (.int .i64 y.upto.id.1) ∧ wz.cell? ⟨b, o + k * 10 + 6, none⟩ = some (.int .i64 y.upto.id.2) ∧ wz.cell? ⟨b, o + k * 10 + 7, none⟩ = some (.bool y.upto.behind) ∧ wz.cell? ⟨b, o + k * 10 + 8, none⟩ = some (.int .i64 y.name) ∧ wz.cell? ⟨b, o + k * 10 + 9, none⟩ = some (.int .i64 y.value) ∧ wz.cell? ⟨g9, 0, none⟩ = some (.int .i64 q.clock) ∧ wz.cell? ⟨g9, 1, none⟩ = some (.int .i64 q.author) ∧ wz.cell? ⟨g9, 2, none⟩ = some (.int .i64 q.from_.id.1) ∧ wz.cell? ⟨g9, 3, none⟩ = some (.int .i64 q.from_.id.2) ∧ wz.cell? ⟨g9, 4, none⟩ = some (.bool q.from_.behind) ∧ wz.cell? ⟨g9, 5, none⟩ = some (.int .i64 q.upto.id.1) ∧ wz.cell? ⟨g9, 6, none⟩ = some (.int .i64 q.upto.id.2) ∧ wz.cell? ⟨g9, 7, none⟩ = some (.bool q.upto.behind) ∧ wz.cell? ⟨g9, 8, none⟩ = some (.int .i64 q.name) ∧ wz.cell? ⟨g9, 9, none⟩ = some (.int .i64 q.value)) from by
            obtain ⟨q0, q1, q2, q3, q4, q5, q6, q7, q8, q9⟩ := hcq.keep hz h9
            obtain ⟨p0, p1, p2, p3, p4, p5, p6, p7, p8, p9⟩ := hcy
            exact ⟨(hz.cell (p := ⟨b, o + k * 10, none⟩) hbw).trans p0, (hz.cell (p := ⟨b, o + k * 10 + 1, none⟩) hbw).trans p1, (hz.cell (p := ⟨b, o + k * 10 + 2, none⟩) hbw).trans p2, (hz.cell (p := ⟨b, o + k * 10 + 3, none⟩) hbw).trans p3, (hz.cell (p := ⟨b, o + k * 10 + 4, none⟩) hbw).trans p4, (hz.cell (p := ⟨b, o + k * 10 + 5, none⟩) hbw).trans p5, (hz.cell (p := ⟨b, o + k * 10 + 6, none⟩) hbw).trans p6, (hz.cell (p := ⟨b, o + k * 10 + 7, none⟩) hbw).trans p7, (hz.cell (p := ⟨b, o + k * 10 + 8, none⟩) hbw).trans p8, (hz.cell (p := ⟨b, o + k * 10 + 9, none⟩) hbw).trans p9, q0, q1, q2, q3, q4, q5, q6, q7, q8, q9⟩)
          have HCV := Lib.hid (fun wz (hz : Below wr.heap.size wr wz) => HCV.out y wz (hbr.trans (hz.mono hbr.size)))
          have HNW := Lib.hid (fun wz => newer_any y q wz)
          have HOQ := Lib.hid oq
          have HO7 := Lib.hid o7
          have HO6 := Lib.hid o6
          have HBR := Lib.hid hbr
          have HK := Lib.hid hlt
          have hl9 := hl
          obtain ⟨cv, ecv⟩ : ∃ x, x = coversB N y t := ⟨_, rfl⟩
          obtain ⟨nw, enw⟩ : ∃ x, x = newB y q := ⟨_, rfl⟩
          rw [← ecv] at HCV
          rw [← enw] at HNW
          unfold bestS at hX
          rw [← ecv, ← enw] at hX
          clear oq o7 o6 hbr hlt hk hy hcy hcq h9 hbw hbB ecv enw eq
          by_cases hnm : y.name = (j : Int)
          case neg =>
            have b1 : (y.name == (j : Int)) = false := by simp [hnm]
            have HX := Lib.hid (show bestM N (L.take (k + 1)) t (j : Int) = q by rw [hX, decide_eq_false hnm]; rfl)
            clear hX hnm
            go_upto_region 9 with fail
            refine wp_region_inv 23 [22, 23, 24, 25, 26, 27, 28, 29, 30, 31, 32, 33, 34, 35, 36, 37, 38, 39, 40, 41, 42, 43, 44] [.val (.slice (some ⟨b, o, none⟩) n c), .val (.int .i64 (k : Int)), .val (.pointer (some ⟨b, o + k * 10, none⟩)), .val (.pointer (some ⟨b, o + k * 10 + 8, none⟩)), .val (.int .i64 y.name), .val (.int .i64 (j : Int)), .val (.bool false), .val (.bool false), .val undef, .val undef, .val undef, .val undef, .val undef, .val undef, .val undef, .val (.bool false), .val (.bool false), .val undef, .val undef, .val undef, .val undef, .val undef, .val undef] (fun wz => Below wr.heap.size wr wz) (by kernel_rfl) (by kernel_rfl) (fun wz wz' hz hb => hz.trans (hb.mono hz.size)) ((Below.refl _ _).drew) (fun u => by simp only [puts, List.foldl_cons, List.foldl_nil]; go_simp; exact rfl) ?_ ?_
            · simp only [List.take_succ_cons, List.take_zero]
              refine Obs.cons (fun u w hS hd => ?_) ?_
              · exact Gv.run (.slice (some ⟨b, o, none⟩) n c) rfl (by go_simp) rfl
              refine Obs.cons (fun u w hS hd => ?_) ?_
              · exact Gv.run (.int .i64 (k : Int)) rfl (by go_simp) rfl
              refine Obs.cons (fun u w hS hd => ?_) ?_
              · have d22 : u 22 = .slice (some ⟨b, o, none⟩) n c := dep hd 0 rfl
                have d23 : u 23 = .int .i64 (k : Int) := dep hd 1 rfl
                rw [d22, d23]
                exact Gv.run (.pointer (some ⟨b, o + k * 10, none⟩)) rfl (by go_simp) rfl
              refine Obs.cons (fun u w hS hd => ?_) ?_
              · have d24 : u 24 = .pointer (some ⟨b, o + k * 10, none⟩) := dep hd 2 rfl
                rw [d24]
                exact Gv.run (.pointer (some ⟨b, o + k * 10 + 8, none⟩)) rfl (by go_simp) rfl
              refine Obs.cons (fun u w hS hd => ?_) ?_
              · have d25 : u 25 = .pointer (some ⟨b, o + k * 10 + 8, none⟩) := dep hd 3 rfl
                rw [d25]
                exact Gv.run (.int .i64 y.name) rfl (by obtain ⟨k0, k1, k2, k3, k4, k5, k6, k7, k8, k9, k10, k11, k12, k13, k14, k15, k16, k17, k18, k19⟩ := HS.out w hS; go_simp) rfl
              refine Obs.cons (fun u w hS hd => ?_) ?_
              · exact Gv.run (.int .i64 (j : Int)) rfl (by go_simp) rfl
              refine Obs.cons (fun u w hS hd => ?_) ?_
              · have d26 : u 26 = .int .i64 y.name := dep hd 4 rfl
                have d27 : u 27 = .int .i64 (j : Int) := dep hd 5 rfl
                rw [d26, d27]
                exact Gv.run (.bool false) rfl (by go_simp) rfl
              refine Obs.cons (fun u w hS hd => ?_) ?_
              · have d28 : u 28 = .bool false := dep hd 6 rfl
                rw [d28]
                exact Gv.run (.bool false) rfl (by go_simp) rfl
              refine Obs.cons (fun u w hS hd => ?_) ?_
              · have d29 : u 29 = .bool false := dep hd 7 rfl
                rw [d29]
                exact Gv.skip (by rfl) rfl
              refine Obs.cons (fun u w hS hd => ?_) ?_
              · have d29 : u 29 = .bool false := dep hd 7 rfl
                rw [d29]
                exact Gv.skip (by rfl) rfl
              refine Obs.cons (fun u w hS hd => ?_) ?_
              · have d29 : u 29 = .bool false := dep hd 7 rfl
                rw [d29]
                exact Gv.skip (by rfl) rfl
              refine Obs.cons (fun u w hS hd => ?_) ?_
              · have d31 : u 31 = undef := dep hd 9 rfl
                have d32 : u 32 = undef := dep hd 10 rfl
                have d29 : u 29 = .bool false := dep hd 7 rfl
                rw [d31, d32, d29]
                exact Gv.skip (by rfl) rfl
              refine Obs.cons (fun u w hS hd => ?_) ?_
              · have d33 : u 33 = undef := dep hd 11 rfl
                have d29 : u 29 = .bool false := dep hd 7 rfl
                rw [d33, d29]
                exact Gv.skip (by rfl) rfl
              refine Obs.cons (fun u w hS hd => ?_) ?_
              · have d29 : u 29 = .bool false := dep hd 7 rfl
                rw [d29]
                exact Gv.skip (by rfl) rfl
              refine Obs.cons (fun u w hS hd => ?_) ?_
              · have d30 : u 30 = undef := dep hd 8 rfl
                have d34 : u 34 = undef := dep hd 12 rfl
                have d35 : u 35 = undef := dep hd 13 rfl
                have d29 : u 29 = .bool false := dep hd 7 rfl
                rw [d30, d34, d35, d29]
                exact Gv.skip (by rfl) rfl
              refine Obs.cons (fun u w hS hd => ?_) ?_
              · have d29 : u 29 = .bool false := dep hd 7 rfl
                have d36 : u 36 = undef := dep hd 14 rfl
                rw [d29, d36]
                exact Gv.run (.bool false) rfl (by go_simp) rfl
              refine Obs.cons (fun u w hS hd => ?_) ?_
              · have d37 : u 37 = .bool false := dep hd 15 rfl
                rw [d37]
                exact Gv.run (.bool false) rfl (by go_simp) rfl
              refine Obs.cons (fun u w hS hd => ?_) ?_
              · have d38 : u 38 = .bool false := dep hd 16 rfl
                rw [d38]
                exact Gv.skip (by rfl) rfl
              refine Obs.cons (fun u w hS hd => ?_) ?_
              · have d38 : u 38 = .bool false := dep hd 16 rfl
                rw [d38]
                exact Gv.skip (by rfl) rfl
              refine Obs.cons (fun u w hS hd => ?_) ?_
              · have d39 : u 39 = undef := dep hd 17 rfl
                have d40 : u 40 = undef := dep hd 18 rfl
                have d38 : u 38 = .bool false := dep hd 16 rfl
                rw [d39, d40, d38]
                exact Gv.skip (by rfl) rfl
              refine Obs.cons (fun u w hS hd => ?_) ?_
              · have d41 : u 41 = undef := dep hd 19 rfl
                have d38 : u 38 = .bool false := dep hd 16 rfl
                rw [d41, d38]
                exact Gv.skip (by rfl) rfl
              refine Obs.cons (fun u w hS hd => ?_) ?_
              · have d38 : u 38 = .bool false := dep hd 16 rfl
                rw [d38]
                exact Gv.skip (by rfl) rfl
              refine Obs.cons (fun u w hS hd => ?_) ?_
              · have d42 : u 42 = undef := dep hd 20 rfl
                have d43 : u 43 = undef := dep hd 21 rfl
                have d38 : u 38 = .bool false := dep hd 16 rfl
                rw [d42, d43, d38]
                exact Gv.skip (by rfl) rfl
              exact Obs.nil
            intro u v2 hS hd
            have d38 : u 38 = .bool false := hd 16 (by decide)
            rw [d38]
            simp only [List.drop_succ_cons, List.drop_zero]
            have HS2 := Lib.hid hS
            clear hS hd d38
            have HW := Lib.hid (HOQ.out.keep HS2.out)
            have HWB := Lib.hid (And.intro (HO7.out.keep HS2.out) (And.intro (HO6.out.keep HS2.out) (HBR.out.trans (HS2.out.mono HBR.out.size))))
            go_wp2_with fail
            go_roundw
            case rel => exact ⟨k + 1, HK.out, by go_num, by rw [HX.out]; exact HW.out, HWB.out.1, HWB.out.2.1, HWB.out.2.2⟩
            case measure => simp [intF]; have := HK.out; omega
          have b1 : (y.name == (j : Int)) = true := by simp [hnm]
          cases cv with
          | false =>
            have HX := Lib.hid (show bestM N (L.take (k + 1)) t (j : Int) = q by rw [hX]; simp)
            clear hX hnm
            go_upto_region 9 with fail
            refine wp_region_inv 23 [22, 23, 24, 25, 26, 27, 28, 29, 30, 31, 32, 33, 34, 35, 36, 37, 38, 39, 40, 41, 42, 43, 44] [.val (.slice (some ⟨b, o, none⟩) n c), .val (.int .i64 (k : Int)), .val (.pointer (some ⟨b, o + k * 10, none⟩)), .val (.pointer (some ⟨b, o + k * 10 + 8, none⟩)), .val (.int .i64 y.name), .val (.int .i64 (j : Int)), .val (.bool true), .val (.bool true), .val (.slice A2 n2 c2), .val (.slice (some ⟨b, o, none⟩) n c), .val (.int .i64 (k : Int)), .val (.pointer (some ⟨b, o + k * 10, none⟩)), .val (.agg #[.int .i64 y.clock, .int .i64 y.author, .int .i64 y.from_.id.1, .int .i64 y.from_.id.2, .bool y.from_.behind, .int .i64 y.upto.id.1, .int .i64 y.upto.id.2, .bool y.upto.behind, .int .i64 y.name, .int .i64 y.value]), .val (.int .i64 t), .val (.bool false), .val (.bool false), .val (.bool false), .val undef, .val undef, .val undef, .val undef, .val undef, .val undef] (fun wz => Below wr.heap.size wr wz) (by kernel_rfl) (by kernel_rfl) (fun wz wz' hz hb => hz.trans (hb.mono hz.size)) ((Below.refl _ _).drew) (fun u => by simp only [puts, List.foldl_cons, List.foldl_nil]; go_simp; exact rfl) ?_ ?_
            · simp only [List.take_succ_cons, List.take_zero]
              refine Obs.cons (fun u w hS hd => ?_) ?_
              · exact Gv.run (.slice (some ⟨b, o, none⟩) n c) rfl (by go_simp) rfl
              refine Obs.cons (fun u w hS hd => ?_) ?_
              · exact Gv.run (.int .i64 (k : Int)) rfl (by go_simp) rfl
              refine Obs.cons (fun u w hS hd => ?_) ?_
              · have d22 : u 22 = .slice (some ⟨b, o, none⟩) n c := dep hd 0 rfl
                have d23 : u 23 = .int .i64 (k : Int) := dep hd 1 rfl
                rw [d22, d23]
                exact Gv.run (.pointer (some ⟨b, o + k * 10, none⟩)) rfl (by go_simp) rfl
              refine Obs.cons (fun u w hS hd => ?_) ?_
              · have d24 : u 24 = .pointer (some ⟨b, o + k * 10, none⟩) := dep hd 2 rfl
                rw [d24]
                exact Gv.run (.pointer (some ⟨b, o + k * 10 + 8, none⟩)) rfl (by go_simp) rfl
              refine Obs.cons (fun u w hS hd => ?_) ?_
              · have d25 : u 25 = .pointer (some ⟨b, o + k * 10 + 8, none⟩) := dep hd 3 rfl
                rw [d25]
                exact Gv.run (.int .i64 y.name) rfl (by obtain ⟨k0, k1, k2, k3, k4, k5, k6, k7, k8, k9, k10, k11, k12, k13, k14, k15, k16, k17, k18, k19⟩ := HS.out w hS; go_simp) rfl
              refine Obs.cons (fun u w hS hd => ?_) ?_
              · exact Gv.run (.int .i64 (j : Int)) rfl (by go_simp) rfl
              refine Obs.cons (fun u w hS hd => ?_) ?_
              · have d26 : u 26 = .int .i64 y.name := dep hd 4 rfl
                have d27 : u 27 = .int .i64 (j : Int) := dep hd 5 rfl
                rw [d26, d27]
                exact Gv.run (.bool true) rfl (by go_simp) rfl
              refine Obs.cons (fun u w hS hd => ?_) ?_
              · have d28 : u 28 = .bool true := dep hd 6 rfl
                rw [d28]
                exact Gv.run (.bool true) rfl (by go_simp) rfl
              refine Obs.cons (fun u w hS hd => ?_) ?_
              · have d29 : u 29 = .bool true := dep hd 7 rfl
                rw [d29]
                exact Gv.run (.slice A2 n2 c2) rfl (by go_simp) rfl
              refine Obs.cons (fun u w hS hd => ?_) ?_
              · have d29 : u 29 = .bool true := dep hd 7 rfl
                rw [d29]
                exact Gv.run (.slice (some ⟨b, o, none⟩) n c) rfl (by go_simp) rfl
              refine Obs.cons (fun u w hS hd => ?_) ?_
              · have d29 : u 29 = .bool true := dep hd 7 rfl
                rw [d29]
                exact Gv.run (.int .i64 (k : Int)) rfl (by go_simp) rfl
              refine Obs.cons (fun u w hS hd => ?_) ?_
              · have d31 : u 31 = .slice (some ⟨b, o, none⟩) n c := dep hd 9 rfl
                have d32 : u 32 = .int .i64 (k : Int) := dep hd 10 rfl
                have d29 : u 29 = .bool true := dep hd 7 rfl
                rw [d31, d32, d29]
                exact Gv.run (.pointer (some ⟨b, o + k * 10, none⟩)) rfl (by go_simp) rfl
              refine Obs.cons (fun u w hS hd => ?_) ?_
              · have d33 : u 33 = .pointer (some ⟨b, o + k * 10, none⟩) := dep hd 11 rfl
                have d29 : u 29 = .bool true := dep hd 7 rfl
                rw [d33, d29]
                exact Gv.run (.agg #[.int .i64 y.clock, .int .i64 y.author, .int .i64 y.from_.id.1, .int .i64 y.from_.id.2, .bool y.from_.behind, .int .i64 y.upto.id.1, .int .i64 y.upto.id.2, .bool y.upto.behind, .int .i64 y.name, .int .i64 y.value]) rfl (by obtain ⟨k0, k1, k2, k3, k4, k5, k6, k7, k8, k9, k10, k11, k12, k13, k14, k15, k16, k17, k18, k19⟩ := HS.out w hS; go_simp) rfl
              refine Obs.cons (fun u w hS hd => ?_) ?_
              · have d29 : u 29 = .bool true := dep hd 7 rfl
                rw [d29]
                exact Gv.run (.int .i64 t) rfl (by go_simp) rfl
              refine Obs.cons (fun u w hS hd => ?_) ?_
              · have d30 : u 30 = .slice A2 n2 c2 := dep hd 8 rfl
                have d34 : u 34 = .agg #[.int .i64 y.clock, .int .i64 y.author, .int .i64 y.from_.id.1, .int .i64 y.from_.id.2, .bool y.from_.behind, .int .i64 y.upto.id.1, .int .i64 y.upto.id.2, .bool y.upto.behind, .int .i64 y.name, .int .i64 y.value] := dep hd 12 rfl
                have d35 : u 35 = .int .i64 t := dep hd 13 rfl
                have d29 : u 29 = .bool true := dep hd 7 rfl
                rw [d30, d34, d35, d29]
                refine Gv.call 50 #[.slice A2 n2 c2, .agg #[.int .i64 y.clock, .int .i64 y.author, .int .i64 y.from_.id.1, .int .i64 y.from_.id.2, .bool y.from_.behind, .int .i64 y.upto.id.1, .int .i64 y.upto.id.2, .bool y.upto.behind, .int .i64 y.name, .int .i64 y.value], .int .i64 t] rfl (by go_simp) ((HCV.out w hS).mono ?_)
                rintro e w' ⟨rfl, hb⟩
                exact ⟨_, rfl, rfl, hb⟩
              refine Obs.cons (fun u w hS hd => ?_) ?_
              · have d29 : u 29 = .bool true := dep hd 7 rfl
                have d36 : u 36 = .bool false := dep hd 14 rfl
                rw [d29, d36]
                exact Gv.run (.bool false) rfl (by go_simp) rfl
              refine Obs.cons (fun u w hS hd => ?_) ?_
              · have d37 : u 37 = .bool false := dep hd 15 rfl
                rw [d37]
                exact Gv.run (.bool false) rfl (by go_simp) rfl
              refine Obs.cons (fun u w hS hd => ?_) ?_
              · have d38 : u 38 = .bool false := dep hd 16 rfl
                rw [d38]
                exact Gv.skip (by rfl) rfl
              refine Obs.cons (fun u w hS hd => ?_) ?_
              · have d38 : u 38 = .bool false := dep hd 16 rfl
                rw [d38]
                exact Gv.skip (by rfl) rfl
              refine Obs.cons (fun u w hS hd => ?_) ?_
              · have d39 : u 39 = undef := dep hd 17 rfl
                have d40 : u 40 = undef := dep hd 18 rfl
                have d38 : u 38 = .bool false := dep hd 16 rfl
                rw [d39, d40, d38]
                exact Gv.skip (by rfl) rfl
              refine Obs.cons (fun u w hS hd => ?_) ?_
              · have d41 : u 41 = undef := dep hd 19 rfl
                have d38 : u 38 = .bool false := dep hd 16 rfl
                rw [d41, d38]
                exact Gv.skip (by rfl) rfl
              refine Obs.cons (fun u w hS hd => ?_) ?_
              · have d38 : u 38 = .bool false := dep hd 16 rfl
                rw [d38]
                exact Gv.skip (by rfl) rfl
              refine Obs.cons (fun u w hS hd => ?_) ?_
              · have d42 : u 42 = undef := dep hd 20 rfl
                have d43 : u 43 = undef := dep hd 21 rfl
                have d38 : u 38 = .bool false := dep hd 16 rfl
                rw [d42, d43, d38]
                exact Gv.skip (by rfl) rfl
              exact Obs.nil
            intro u v2 hS hd
            have d38 : u 38 = .bool false := hd 16 (by decide)
            rw [d38]
            simp only [List.drop_succ_cons, List.drop_zero]
            have HS2 := Lib.hid hS
            clear hS hd d38
            have HW := Lib.hid (HOQ.out.keep HS2.out)
            have HWB := Lib.hid (And.intro (HO7.out.keep HS2.out) (And.intro (HO6.out.keep HS2.out) (HBR.out.trans (HS2.out.mono HBR.out.size))))
            go_wp2_with fail
            go_roundw
            case rel => exact ⟨k + 1, HK.out, by go_num, by rw [HX.out]; exact HW.out, HWB.out.1, HWB.out.2.1, HWB.out.2.2⟩
            case measure => simp [intF]; have := HK.out; omega
          | true =>
            cases nw with
            | false =>
              have HX := Lib.hid (show bestM N (L.take (k + 1)) t (j : Int) = q by rw [hX]; simp)
              clear hX hnm
              go_upto_region 9 with fail
              refine wp_region_inv 23 [22, 23, 24, 25, 26, 27, 28, 29, 30, 31, 32, 33, 34, 35, 36, 37, 38, 39, 40, 41, 42, 43, 44] [.val (.slice (some ⟨b, o, none⟩) n c), .val (.int .i64 (k : Int)), .val (.pointer (some ⟨b, o + k * 10, none⟩)), .val (.pointer (some ⟨b, o + k * 10 + 8, none⟩)), .val (.int .i64 y.name), .val (.int .i64 (j : Int)), .val (.bool true), .val (.bool true), .val (.slice A2 n2 c2), .val (.slice (some ⟨b, o, none⟩) n c), .val (.int .i64 (k : Int)), .val (.pointer (some ⟨b, o + k * 10, none⟩)), .val (.agg #[.int .i64 y.clock, .int .i64 y.author, .int .i64 y.from_.id.1, .int .i64 y.from_.id.2, .bool y.from_.behind, .int .i64 y.upto.id.1, .int .i64 y.upto.id.2, .bool y.upto.behind, .int .i64 y.name, .int .i64 y.value]), .val (.int .i64 t), .val (.bool true), .val (.bool true), .val (.bool true), .val (.slice (some ⟨b, o, none⟩) n c), .val (.int .i64 (k : Int)), .val (.pointer (some ⟨b, o + k * 10, none⟩)), .val (.agg #[.int .i64 y.clock, .int .i64 y.author, .int .i64 y.from_.id.1, .int .i64 y.from_.id.2, .bool y.from_.behind, .int .i64 y.upto.id.1, .int .i64 y.upto.id.2, .bool y.upto.behind, .int .i64 y.name, .int .i64 y.value]), .val (.agg #[.int .i64 q.clock, .int .i64 q.author, .int .i64 q.from_.id.1, .int .i64 q.from_.id.2, .bool q.from_.behind, .int .i64 q.upto.id.1, .int .i64 q.upto.id.2, .bool q.upto.behind, .int .i64 q.name, .int .i64 q.value]), .val (.bool false)] (fun wz => Below wr.heap.size wr wz) (by kernel_rfl) (by kernel_rfl) (fun wz wz' hz hb => hz.trans (hb.mono hz.size)) ((Below.refl _ _).drew) (fun u => by simp only [puts, List.foldl_cons, List.foldl_nil]; go_simp; exact rfl) ?_ ?_
              · simp only [List.take_succ_cons, List.take_zero]
                refine Obs.cons (fun u w hS hd => ?_) ?_
                · exact Gv.run (.slice (some ⟨b, o, none⟩) n c) rfl (by go_simp) rfl
                refine Obs.cons (fun u w hS hd => ?_) ?_
                · exact Gv.run (.int .i64 (k : Int)) rfl (by go_simp) rfl
                refine Obs.cons (fun u w hS hd => ?_) ?_
                · have d22 : u 22 = .slice (some ⟨b, o, none⟩) n c := dep hd 0 rfl
                  have d23 : u 23 = .int .i64 (k : Int) := dep hd 1 rfl
                  rw [d22, d23]
                  exact Gv.run (.pointer (some ⟨b, o + k * 10, none⟩)) rfl (by go_simp) rfl
                refine Obs.cons (fun u w hS hd => ?_) ?_
                · have d24 : u 24 = .pointer (some ⟨b, o + k * 10, none⟩) := dep hd 2 rfl
                  rw [d24]
                  exact Gv.run (.pointer (some ⟨b, o + k * 10 + 8, none⟩)) rfl (by go_simp) rfl
                refine Obs.cons (fun u w hS hd => ?_) ?_
                · have d25 : u 25 = .pointer (some ⟨b, o + k * 10 + 8, none⟩) := dep hd 3 rfl
                  rw [d25]
                  exact Gv.run (.int .i64 y.name) rfl (by obtain ⟨k0, k1, k2, k3, k4, k5, k6, k7, k8, k9, k10, k11, k12, k13, k14, k15, k16, k17, k18, k19⟩ := HS.out w hS; go_simp) rfl
                refine Obs.cons (fun u w hS hd => ?_) ?_
                · exact Gv.run (.int .i64 (j : Int)) rfl (by go_simp) rfl
                refine Obs.cons (fun u w hS hd => ?_) ?_
                · have d26 : u 26 = .int .i64 y.name := dep hd 4 rfl
                  have d27 : u 27 = .int .i64 (j : Int) := dep hd 5 rfl
                  rw [d26, d27]
                  exact Gv.run (.bool true) rfl (by go_simp) rfl
                refine Obs.cons (fun u w hS hd => ?_) ?_
                · have d28 : u 28 = .bool true := dep hd 6 rfl
                  rw [d28]
                  exact Gv.run (.bool true) rfl (by go_simp) rfl
                refine Obs.cons (fun u w hS hd => ?_) ?_
                · have d29 : u 29 = .bool true := dep hd 7 rfl
                  rw [d29]
                  exact Gv.run (.slice A2 n2 c2) rfl (by go_simp) rfl
                refine Obs.cons (fun u w hS hd => ?_) ?_
                · have d29 : u 29 = .bool true := dep hd 7 rfl
                  rw [d29]
                  exact Gv.run (.slice (some ⟨b, o, none⟩) n c) rfl (by go_simp) rfl
                refine Obs.cons (fun u w hS hd => ?_) ?_
                · have d29 : u 29 = .bool true := dep hd 7 rfl
                  rw [d29]
                  exact Gv.run (.int .i64 (k : Int)) rfl (by go_simp) rfl
                refine Obs.cons (fun u w hS hd => ?_) ?_
                · have d31 : u 31 = .slice (some ⟨b, o, none⟩) n c := dep hd 9 rfl
                  have d32 : u 32 = .int .i64 (k : Int) := dep hd 10 rfl
                  have d29 : u 29 = .bool true := dep hd 7 rfl
                  rw [d31, d32, d29]
                  exact Gv.run (.pointer (some ⟨b, o + k * 10, none⟩)) rfl (by go_simp) rfl
                refine Obs.cons (fun u w hS hd => ?_) ?_
                · have d33 : u 33 = .pointer (some ⟨b, o + k * 10, none⟩) := dep hd 11 rfl
                  have d29 : u 29 = .bool true := dep hd 7 rfl
                  rw [d33, d29]
                  exact Gv.run (.agg #[.int .i64 y.clock, .int .i64 y.author, .int .i64 y.from_.id.1, .int .i64 y.from_.id.2, .bool y.from_.behind, .int .i64 y.upto.id.1, .int .i64 y.upto.id.2, .bool y.upto.behind, .int .i64 y.name, .int .i64 y.value]) rfl (by obtain ⟨k0, k1, k2, k3, k4, k5, k6, k7, k8, k9, k10, k11, k12, k13, k14, k15, k16, k17, k18, k19⟩ := HS.out w hS; go_simp) rfl
                refine Obs.cons (fun u w hS hd => ?_) ?_
                · have d29 : u 29 = .bool true := dep hd 7 rfl
                  rw [d29]
                  exact Gv.run (.int .i64 t) rfl (by go_simp) rfl
                refine Obs.cons (fun u w hS hd => ?_) ?_
                · have d30 : u 30 = .slice A2 n2 c2 := dep hd 8 rfl
                  have d34 : u 34 = .agg #[.int .i64 y.clock, .int .i64 y.author, .int .i64 y.from_.id.1, .int .i64 y.from_.id.2, .bool y.from_.behind, .int .i64 y.upto.id.1, .int .i64 y.upto.id.2, .bool y.upto.behind, .int .i64 y.name, .int .i64 y.value] := dep hd 12 rfl
                  have d35 : u 35 = .int .i64 t := dep hd 13 rfl
                  have d29 : u 29 = .bool true := dep hd 7 rfl
                  rw [d30, d34, d35, d29]
                  refine Gv.call 50 #[.slice A2 n2 c2, .agg #[.int .i64 y.clock, .int .i64 y.author, .int .i64 y.from_.id.1, .int .i64 y.from_.id.2, .bool y.from_.behind, .int .i64 y.upto.id.1, .int .i64 y.upto.id.2, .bool y.upto.behind, .int .i64 y.name, .int .i64 y.value], .int .i64 t] rfl (by go_simp) ((HCV.out w hS).mono ?_)
                  rintro e w' ⟨rfl, hb⟩
                  exact ⟨_, rfl, rfl, hb⟩
                refine Obs.cons (fun u w hS hd => ?_) ?_
                · have d29 : u 29 = .bool true := dep hd 7 rfl
                  have d36 : u 36 = .bool true := dep hd 14 rfl
                  rw [d29, d36]
                  exact Gv.run (.bool true) rfl (by go_simp) rfl
                refine Obs.cons (fun u w hS hd => ?_) ?_
                · have d37 : u 37 = .bool true := dep hd 15 rfl
                  rw [d37]
                  exact Gv.run (.bool true) rfl (by go_simp) rfl
                refine Obs.cons (fun u w hS hd => ?_) ?_
                · have d38 : u 38 = .bool true := dep hd 16 rfl
                  rw [d38]
                  exact Gv.run (.slice (some ⟨b, o, none⟩) n c) rfl (by go_simp) rfl
                refine Obs.cons (fun u w hS hd => ?_) ?_
                · have d38 : u 38 = .bool true := dep hd 16 rfl
                  rw [d38]
                  exact Gv.run (.int .i64 (k : Int)) rfl (by go_simp) rfl
                refine Obs.cons (fun u w hS hd => ?_) ?_
                · have d39 : u 39 = .slice (some ⟨b, o, none⟩) n c := dep hd 17 rfl
                  have d40 : u 40 = .int .i64 (k : Int) := dep hd 18 rfl
                  have d38 : u 38 = .bool true := dep hd 16 rfl
                  rw [d39, d40, d38]
                  exact Gv.run (.pointer (some ⟨b, o + k * 10, none⟩)) rfl (by go_simp) rfl
                refine Obs.cons (fun u w hS hd => ?_) ?_
                · have d41 : u 41 = .pointer (some ⟨b, o + k * 10, none⟩) := dep hd 19 rfl
                  have d38 : u 38 = .bool true := dep hd 16 rfl
                  rw [d41, d38]
                  exact Gv.run (.agg #[.int .i64 y.clock, .int .i64 y.author, .int .i64 y.from_.id.1, .int .i64 y.from_.id.2, .bool y.from_.behind, .int .i64 y.upto.id.1, .int .i64 y.upto.id.2, .bool y.upto.behind, .int .i64 y.name, .int .i64 y.value]) rfl (by obtain ⟨k0, k1, k2, k3, k4, k5, k6, k7, k8, k9, k10, k11, k12, k13, k14, k15, k16, k17, k18, k19⟩ := HS.out w hS; go_simp) rfl
                refine Obs.cons (fun u w hS hd => ?_) ?_
                · have d38 : u 38 = .bool true := dep hd 16 rfl
                  rw [d38]
                  exact Gv.run (.agg #[.int .i64 q.clock, .int .i64 q.author, .int .i64 q.from_.id.1, .int .i64 q.from_.id.2, .bool q.from_.behind, .int .i64 q.upto.id.1, .int .i64 q.upto.id.2, .bool q.upto.behind, .int .i64 q.name, .int .i64 q.value]) rfl (by obtain ⟨k0, k1, k2, k3, k4, k5, k6, k7, k8, k9, k10, k11, k12, k13, k14, k15, k16, k17, k18, k19⟩ := HS.out w hS; go_simp) rfl
                refine Obs.cons (fun u w hS hd => ?_) ?_
                · have d42 : u 42 = .agg #[.int .i64 y.clock, .int .i64 y.author, .int .i64 y.from_.id.1, .int .i64 y.from_.id.2, .bool y.from_.behind, .int .i64 y.upto.id.1, .int .i64 y.upto.id.2, .bool y.upto.behind, .int .i64 y.name, .int .i64 y.value] := dep hd 20 rfl
                  have d43 : u 43 = .agg #[.int .i64 q.clock, .int .i64 q.author, .int .i64 q.from_.id.1, .int .i64 q.from_.id.2, .bool q.from_.behind, .int .i64 q.upto.id.1, .int .i64 q.upto.id.2, .bool q.upto.behind, .int .i64 q.name, .int .i64 q.value] := dep hd 21 rfl
                  have d38 : u 38 = .bool true := dep hd 16 rfl
                  rw [d42, d43, d38]
                  refine Gv.call 37 #[.agg #[.int .i64 y.clock, .int .i64 y.author, .int .i64 y.from_.id.1, .int .i64 y.from_.id.2, .bool y.from_.behind, .int .i64 y.upto.id.1, .int .i64 y.upto.id.2, .bool y.upto.behind, .int .i64 y.name, .int .i64 y.value], .agg #[.int .i64 q.clock, .int .i64 q.author, .int .i64 q.from_.id.1, .int .i64 q.from_.id.2, .bool q.from_.behind, .int .i64 q.upto.id.1, .int .i64 q.upto.id.2, .bool q.upto.behind, .int .i64 q.name, .int .i64 q.value]] rfl (by go_simp) ((HNW.out w).mono ?_)
                  rintro e w' ⟨rfl, hb⟩
                  exact ⟨_, rfl, rfl, hb⟩
                exact Obs.nil
              intro u v2 hS hd
              have d38 : u 38 = .bool true := hd 16 (by decide)
              have d44 : u 44 = .bool false := hd 22 (by decide)
              rw [d38, d44]
              simp only [List.drop_succ_cons, List.drop_zero]
              have HS2 := Lib.hid hS
              clear hS hd d38 d44
              have HW := Lib.hid (HOQ.out.keep HS2.out)
              have HWB := Lib.hid (And.intro (HO7.out.keep HS2.out) (And.intro (HO6.out.keep HS2.out) (HBR.out.trans (HS2.out.mono HBR.out.size))))
              go_wp2_with fail
              go_roundw
              case rel => exact ⟨k + 1, HK.out, by go_num, by rw [HX.out]; exact HW.out, HWB.out.1, HWB.out.2.1, HWB.out.2.2⟩
              case measure => simp [intF]; have := HK.out; omega
            | true =>
              have HX := Lib.hid (show bestM N (L.take (k + 1)) t (j : Int) = y by rw [hX]; simp [hnm])
              clear hX hnm
              go_upto_region 9 with fail
              refine wp_region_inv 23 [22, 23, 24, 25, 26, 27, 28, 29, 30, 31, 32, 33, 34, 35, 36, 37, 38, 39, 40, 41, 42, 43, 44] [.val (.slice (some ⟨b, o, none⟩) n c), .val (.int .i64 (k : Int)), .val (.pointer (some ⟨b, o + k * 10, none⟩)), .val (.pointer (some ⟨b, o + k * 10 + 8, none⟩)), .val (.int .i64 y.name), .val (.int .i64 (j : Int)), .val (.bool true), .val (.bool true), .val (.slice A2 n2 c2), .val (.slice (some ⟨b, o, none⟩) n c), .val (.int .i64 (k : Int)), .val (.pointer (some ⟨b, o + k * 10, none⟩)), .val (.agg #[.int .i64 y.clock, .int .i64 y.author, .int .i64 y.from_.id.1, .int .i64 y.from_.id.2, .bool y.from_.behind, .int .i64 y.upto.id.1, .int .i64 y.upto.id.2, .bool y.upto.behind, .int .i64 y.name, .int .i64 y.value]), .val (.int .i64 t), .val (.bool true), .val (.bool true), .val (.bool true), .val (.slice (some ⟨b, o, none⟩) n c), .val (.int .i64 (k : Int)), .val (.pointer (some ⟨b, o + k * 10, none⟩)), .val (.agg #[.int .i64 y.clock, .int .i64 y.author, .int .i64 y.from_.id.1, .int .i64 y.from_.id.2, .bool y.from_.behind, .int .i64 y.upto.id.1, .int .i64 y.upto.id.2, .bool y.upto.behind, .int .i64 y.name, .int .i64 y.value]), .val (.agg #[.int .i64 q.clock, .int .i64 q.author, .int .i64 q.from_.id.1, .int .i64 q.from_.id.2, .bool q.from_.behind, .int .i64 q.upto.id.1, .int .i64 q.upto.id.2, .bool q.upto.behind, .int .i64 q.name, .int .i64 q.value]), .val (.bool true)] (fun wz => Below wr.heap.size wr wz) (by kernel_rfl) (by kernel_rfl) (fun wz wz' hz hb => hz.trans (hb.mono hz.size)) ((Below.refl _ _).drew) (fun u => by simp only [puts, List.foldl_cons, List.foldl_nil]; go_simp; exact rfl) ?_ ?_
              · simp only [List.take_succ_cons, List.take_zero]
                refine Obs.cons (fun u w hS hd => ?_) ?_
                · exact Gv.run (.slice (some ⟨b, o, none⟩) n c) rfl (by go_simp) rfl
                refine Obs.cons (fun u w hS hd => ?_) ?_
                · exact Gv.run (.int .i64 (k : Int)) rfl (by go_simp) rfl
                refine Obs.cons (fun u w hS hd => ?_) ?_
                · have d22 : u 22 = .slice (some ⟨b, o, none⟩) n c := dep hd 0 rfl
                  have d23 : u 23 = .int .i64 (k : Int) := dep hd 1 rfl
                  rw [d22, d23]
                  exact Gv.run (.pointer (some ⟨b, o + k * 10, none⟩)) rfl (by go_simp) rfl
                refine Obs.cons (fun u w hS hd => ?_) ?_
                · have d24 : u 24 = .pointer (some ⟨b, o + k * 10, none⟩) := dep hd 2 rfl
                  rw [d24]
                  exact Gv.run (.pointer (some ⟨b, o + k * 10 + 8, none⟩)) rfl (by go_simp) rfl
                refine Obs.cons (fun u w hS hd => ?_) ?_
                · have d25 : u 25 = .pointer (some ⟨b, o + k * 10 + 8, none⟩) := dep hd 3 rfl
                  rw [d25]
                  exact Gv.run (.int .i64 y.name) rfl (by obtain ⟨k0, k1, k2, k3, k4, k5, k6, k7, k8, k9, k10, k11, k12, k13, k14, k15, k16, k17, k18, k19⟩ := HS.out w hS; go_simp) rfl
                refine Obs.cons (fun u w hS hd => ?_) ?_
                · exact Gv.run (.int .i64 (j : Int)) rfl (by go_simp) rfl
                refine Obs.cons (fun u w hS hd => ?_) ?_
                · have d26 : u 26 = .int .i64 y.name := dep hd 4 rfl
                  have d27 : u 27 = .int .i64 (j : Int) := dep hd 5 rfl
                  rw [d26, d27]
                  exact Gv.run (.bool true) rfl (by go_simp) rfl
                refine Obs.cons (fun u w hS hd => ?_) ?_
                · have d28 : u 28 = .bool true := dep hd 6 rfl
                  rw [d28]
                  exact Gv.run (.bool true) rfl (by go_simp) rfl
                refine Obs.cons (fun u w hS hd => ?_) ?_
                · have d29 : u 29 = .bool true := dep hd 7 rfl
                  rw [d29]
                  exact Gv.run (.slice A2 n2 c2) rfl (by go_simp) rfl
                refine Obs.cons (fun u w hS hd => ?_) ?_
                · have d29 : u 29 = .bool true := dep hd 7 rfl
                  rw [d29]
                  exact Gv.run (.slice (some ⟨b, o, none⟩) n c) rfl (by go_simp) rfl
                refine Obs.cons (fun u w hS hd => ?_) ?_
                · have d29 : u 29 = .bool true := dep hd 7 rfl
                  rw [d29]
                  exact Gv.run (.int .i64 (k : Int)) rfl (by go_simp) rfl
                refine Obs.cons (fun u w hS hd => ?_) ?_
                · have d31 : u 31 = .slice (some ⟨b, o, none⟩) n c := dep hd 9 rfl
                  have d32 : u 32 = .int .i64 (k : Int) := dep hd 10 rfl
                  have d29 : u 29 = .bool true := dep hd 7 rfl
                  rw [d31, d32, d29]
                  exact Gv.run (.pointer (some ⟨b, o + k * 10, none⟩)) rfl (by go_simp) rfl
                refine Obs.cons (fun u w hS hd => ?_) ?_
                · have d33 : u 33 = .pointer (some ⟨b, o + k * 10, none⟩) := dep hd 11 rfl
                  have d29 : u 29 = .bool true := dep hd 7 rfl
                  rw [d33, d29]
                  exact Gv.run (.agg #[.int .i64 y.clock, .int .i64 y.author, .int .i64 y.from_.id.1, .int .i64 y.from_.id.2, .bool y.from_.behind, .int .i64 y.upto.id.1, .int .i64 y.upto.id.2, .bool y.upto.behind, .int .i64 y.name, .int .i64 y.value]) rfl (by obtain ⟨k0, k1, k2, k3, k4, k5, k6, k7, k8, k9, k10, k11, k12, k13, k14, k15, k16, k17, k18, k19⟩ := HS.out w hS; go_simp) rfl
                refine Obs.cons (fun u w hS hd => ?_) ?_
                · have d29 : u 29 = .bool true := dep hd 7 rfl
                  rw [d29]
                  exact Gv.run (.int .i64 t) rfl (by go_simp) rfl
                refine Obs.cons (fun u w hS hd => ?_) ?_
                · have d30 : u 30 = .slice A2 n2 c2 := dep hd 8 rfl
                  have d34 : u 34 = .agg #[.int .i64 y.clock, .int .i64 y.author, .int .i64 y.from_.id.1, .int .i64 y.from_.id.2, .bool y.from_.behind, .int .i64 y.upto.id.1, .int .i64 y.upto.id.2, .bool y.upto.behind, .int .i64 y.name, .int .i64 y.value] := dep hd 12 rfl
                  have d35 : u 35 = .int .i64 t := dep hd 13 rfl
                  have d29 : u 29 = .bool true := dep hd 7 rfl
                  rw [d30, d34, d35, d29]
                  refine Gv.call 50 #[.slice A2 n2 c2, .agg #[.int .i64 y.clock, .int .i64 y.author, .int .i64 y.from_.id.1, .int .i64 y.from_.id.2, .bool y.from_.behind, .int .i64 y.upto.id.1, .int .i64 y.upto.id.2, .bool y.upto.behind, .int .i64 y.name, .int .i64 y.value], .int .i64 t] rfl (by go_simp) ((HCV.out w hS).mono ?_)
                  rintro e w' ⟨rfl, hb⟩
                  exact ⟨_, rfl, rfl, hb⟩
                refine Obs.cons (fun u w hS hd => ?_) ?_
                · have d29 : u 29 = .bool true := dep hd 7 rfl
                  have d36 : u 36 = .bool true := dep hd 14 rfl
                  rw [d29, d36]
                  exact Gv.run (.bool true) rfl (by go_simp) rfl
                refine Obs.cons (fun u w hS hd => ?_) ?_
                · have d37 : u 37 = .bool true := dep hd 15 rfl
                  rw [d37]
                  exact Gv.run (.bool true) rfl (by go_simp) rfl
                refine Obs.cons (fun u w hS hd => ?_) ?_
                · have d38 : u 38 = .bool true := dep hd 16 rfl
                  rw [d38]
                  exact Gv.run (.slice (some ⟨b, o, none⟩) n c) rfl (by go_simp) rfl
                refine Obs.cons (fun u w hS hd => ?_) ?_
                · have d38 : u 38 = .bool true := dep hd 16 rfl
                  rw [d38]
                  exact Gv.run (.int .i64 (k : Int)) rfl (by go_simp) rfl
                refine Obs.cons (fun u w hS hd => ?_) ?_
                · have d39 : u 39 = .slice (some ⟨b, o, none⟩) n c := dep hd 17 rfl
                  have d40 : u 40 = .int .i64 (k : Int) := dep hd 18 rfl
                  have d38 : u 38 = .bool true := dep hd 16 rfl
                  rw [d39, d40, d38]
                  exact Gv.run (.pointer (some ⟨b, o + k * 10, none⟩)) rfl (by go_simp) rfl
                refine Obs.cons (fun u w hS hd => ?_) ?_
                · have d41 : u 41 = .pointer (some ⟨b, o + k * 10, none⟩) := dep hd 19 rfl
                  have d38 : u 38 = .bool true := dep hd 16 rfl
                  rw [d41, d38]
                  exact Gv.run (.agg #[.int .i64 y.clock, .int .i64 y.author, .int .i64 y.from_.id.1, .int .i64 y.from_.id.2, .bool y.from_.behind, .int .i64 y.upto.id.1, .int .i64 y.upto.id.2, .bool y.upto.behind, .int .i64 y.name, .int .i64 y.value]) rfl (by obtain ⟨k0, k1, k2, k3, k4, k5, k6, k7, k8, k9, k10, k11, k12, k13, k14, k15, k16, k17, k18, k19⟩ := HS.out w hS; go_simp) rfl
                refine Obs.cons (fun u w hS hd => ?_) ?_
                · have d38 : u 38 = .bool true := dep hd 16 rfl
                  rw [d38]
                  exact Gv.run (.agg #[.int .i64 q.clock, .int .i64 q.author, .int .i64 q.from_.id.1, .int .i64 q.from_.id.2, .bool q.from_.behind, .int .i64 q.upto.id.1, .int .i64 q.upto.id.2, .bool q.upto.behind, .int .i64 q.name, .int .i64 q.value]) rfl (by obtain ⟨k0, k1, k2, k3, k4, k5, k6, k7, k8, k9, k10, k11, k12, k13, k14, k15, k16, k17, k18, k19⟩ := HS.out w hS; go_simp) rfl
                refine Obs.cons (fun u w hS hd => ?_) ?_
                · have d42 : u 42 = .agg #[.int .i64 y.clock, .int .i64 y.author, .int .i64 y.from_.id.1, .int .i64 y.from_.id.2, .bool y.from_.behind, .int .i64 y.upto.id.1, .int .i64 y.upto.id.2, .bool y.upto.behind, .int .i64 y.name, .int .i64 y.value] := dep hd 20 rfl
                  have d43 : u 43 = .agg #[.int .i64 q.clock, .int .i64 q.author, .int .i64 q.from_.id.1, .int .i64 q.from_.id.2, .bool q.from_.behind, .int .i64 q.upto.id.1, .int .i64 q.upto.id.2, .bool q.upto.behind, .int .i64 q.name, .int .i64 q.value] := dep hd 21 rfl
                  have d38 : u 38 = .bool true := dep hd 16 rfl
                  rw [d42, d43, d38]
                  refine Gv.call 37 #[.agg #[.int .i64 y.clock, .int .i64 y.author, .int .i64 y.from_.id.1, .int .i64 y.from_.id.2, .bool y.from_.behind, .int .i64 y.upto.id.1, .int .i64 y.upto.id.2, .bool y.upto.behind, .int .i64 y.name, .int .i64 y.value], .agg #[.int .i64 q.clock, .int .i64 q.author, .int .i64 q.from_.id.1, .int .i64 q.from_.id.2, .bool q.from_.behind, .int .i64 q.upto.id.1, .int .i64 q.upto.id.2, .bool q.upto.behind, .int .i64 q.name, .int .i64 q.value]] rfl (by go_simp) ((HNW.out w).mono ?_)
                  rintro e w' ⟨rfl, hb⟩
                  exact ⟨_, rfl, rfl, hb⟩
                exact Obs.nil
              intro u v2 hS hd
              have d38 : u 38 = .bool true := hd 16 (by decide)
              have d44 : u 44 = .bool true := hd 22 (by decide)
              rw [d38, d44]
              simp only [List.drop_succ_cons, List.drop_zero]
              have HS2 := Lib.hid hS
              clear hS hd d38 d44
              obtain ⟨m0, m1, m2, m3, m4, m5, m6, m7, m8, m9, q0, q1, q2, q3, q4, q5, q6, q7, q8, q9⟩ := HS.out v2 HS2.out
              have oq := HOQ.out.keep HS2.out
              have f0 := oq.free10 0
              have f1 := oq.free10 1
              have f2 := oq.free10 2
              have f3 := oq.free10 3
              have f4 := oq.free10 4
              have f5 := oq.free10 5
              have f6 := oq.free10 6
              have f7 := oq.free10 7
              have f8 := oq.free10 8
              have f9 := oq.free10 9
              have HW := Lib.hid (put10 oq y)
              have HWB := Lib.hid (And.intro (HO7.out.keep HS2.out) (And.intro (HO6.out.keep HS2.out) (HBR.out.trans (HS2.out.mono HBR.out.size))))
              clear oq
              go_wp2_with fail
              go_roundw
              case rel => exact ⟨k + 1, HK.out, by go_num, by rw [HX.out]; exact HW.out.1, OwnF.apart HWB.out.1 HG.out.2, OwnF.apart HWB.out.2.1 HG.out.1, HWB.out.2.2.trans HW.out.2⟩
              case measure => simp [intF]; have := HK.out; omega
        · obtain rfl : n = k := by omega
          have htk : L.take n = L := by rw [← HN.out.1, List.take_length]
          rw [htk] at oq
          obtain ⟨q, eq⟩ : ∃ q, q = bestM N L t (j : Int) := ⟨_, rfl⟩
          rw [← eq] at oq
          obtain ⟨hcq, h9⟩ := own_mrk oq
          have hF : ∀ i, i < 5 → (if i = j then Value.int .i64 q.value else outF N L t j i) = outF N L t (j + 1) i := fun i hi => by
            have h1 := HJ.out.1
            unfold outF
            by_cases e : i = j
            · subst e
              rw [if_pos rfl, if_pos (by omega), eq]
            · rw [if_neg e]
              by_cases h2 : 1 ≤ i ∧ i < j
              · rw [if_pos h2, if_pos (by omega)]
              · rw [if_neg h2, if_neg (by omega)]
          have o7' := OwnF.congr (OwnF.set_ o7 j (.int .i64 q.value)) hF
          have HW := Lib.hid (And.intro o7' (And.intro (OwnF.other o6 (p := ⟨g + 1, j, none⟩) (by simp) (.int .i64 q.value)) (hbr.trans ((Below.refl _ _).setCell (p := ⟨g + 1, j, none⟩) (OwnF.ge o7) (.int .i64 q.value)))))
          have c7 := OwnF.cell o7 HJ.out.2
          have f7 := OwnF.free o7 j
          have HJ2 := Lib.hid HJ.out
          have hj5 := HJ.out.2
          obtain ⟨_, _, _, _, _, _, _, _, _, q9⟩ := hcq
          clear oq o6 o7 hbr htk h9 hF o7' eq hlt hk
          go_wp2_with fail
          go_roundw
          case rel => exact ⟨j + 1, by omega, by omega, by go_num, HW.out.2.1, HW.out.1, HW.out.2.2⟩
          case measure => simp [intF]; omega
    · obtain rfl : j = 5 := by omega
      obtain ⟨x, ex⟩ : ∃ x, x = stR N L t := ⟨_, rfl⟩
      have hF : ∀ i, i < 5 → outF N L t 5 i = .int .i64 (x.get i) := fun i hi => by
        rw [ex]
        unfold outF
        by_cases e : 1 ≤ i
        · rw [if_pos ⟨e, hi⟩, best_sty N t e hi n L HN.out.1 HG0.out]
        · obtain rfl : i = 0 := by omega
          rw [if_neg (by omega)]
          exact (congrArg (Value.int .i64) (stR_zero N t n L HN.out.1 HG0.out)).symm
      have ox := OwnF.congr o7 hF
      have c0 : wr.cell? ⟨g + 1, 0, none⟩ = some (.int .i64 x.a0) := OwnF.cell ox (k := 0) (by decide)
      have c1 : wr.cell? ⟨g + 1, 1, none⟩ = some (.int .i64 x.a1) := OwnF.cell ox (k := 1) (by decide)
      have c2 : wr.cell? ⟨g + 1, 2, none⟩ = some (.int .i64 x.a2) := OwnF.cell ox (k := 2) (by decide)
      have c3 : wr.cell? ⟨g + 1, 3, none⟩ = some (.int .i64 x.a3) := OwnF.cell ox (k := 3) (by decide)
      have c4 : wr.cell? ⟨g + 1, 4, none⟩ = some (.int .i64 x.a4) := OwnF.cell ox (k := 4) (by decide)
      have d0 := OwnF.cell o6 (k := 0) (by decide)
      have d1 := OwnF.cell o6 (k := 1) (by decide)
      have d2 := OwnF.cell o6 (k := 2) (by decide)
      have d3 := OwnF.cell o6 (k := 3) (by decide)
      have d4 := OwnF.cell o6 (k := 4) (by decide)
      have f0 := OwnF.free o6 0
      have f1 := OwnF.free o6 1
      have f2 := OwnF.free o6 2
      have f3 := OwnF.free o6 3
      have f4 := OwnF.free o6 4
      obtain ⟨ve, eve⟩ : ∃ v, v = ((((wr.setCell ⟨g, 0, none⟩ (.int .i64 x.a0)).setCell ⟨g, 1, none⟩ (.int .i64 x.a1)).setCell ⟨g, 2, none⟩ (.int .i64 x.a2)).setCell ⟨g, 3, none⟩ (.int .i64 x.a3)).setCell ⟨g, 4, none⟩ (.int .i64 x.a4) := ⟨_, rfl⟩
      have hge := OwnF.ge o6
      have HE := Lib.hid (show OwnF ve w.heap.size 55 (some ⟨g, 0, none⟩) 5 5 (fun i => .int .i64 (x.get i)) ∧ Below w.heap.size w ve from by
        rw [eve]
        refine ⟨OwnF.congr (OwnF.set_ (OwnF.set_ (OwnF.set_ (OwnF.set_ (OwnF.set_ o6 0 _) 1 _) 2 _) 3 _) 4 _) fun i hi => ?_, hbr.trans (((((((Below.refl _ _).setCell (p := ⟨g, 0, none⟩) hge _).setCell (p := ⟨g, 1, none⟩) hge _).setCell (p := ⟨g, 2, none⟩) hge _).setCell (p := ⟨g, 3, none⟩) hge _).setCell (p := ⟨g, 4, none⟩) hge _))⟩
        rcases (by omega : i = 0 ∨ i = 1 ∨ i = 2 ∨ i = 3 ∨ i = 4) with rfl | rfl | rfl | rfl | rfl <;> rfl)
      have HEV := Lib.hid eve
      clear ox o6 o7 hF hbr eve hge
      have HEX := Lib.hid ex
      clear ex
      go_wp2_with fail
      rw [← HEV.out]
      refine bodyPost_ret (sty_res1 Try.results25 _ HE.out.1 rfl) rfl ⟨?_, HE.out.2⟩
      rw [HEX.out]
end Go.Proofs.Ytpjeggbkhbghaaa
namespace Go.Proofs.Ytpjeggbkhbghaaa
open Go Go.RowKit
set_option maxRecDepth 20000
theorem infoRun : (Try.prog.info? 66).map (fun i => (i.zero, i.size, i.bytes)) = some (some (.agg #[.string ByteArray.empty, .int .i64 0, .int .i64 0, .int .i64 0, .int .i64 0, .int .i64 0]), 6, 56) := by kernel_rfl
def rkN (N : List Nod) (L : List Mrk) (k : Nat) : List Rn := runsV (visL (N.take k) ((styL N L).take k))
set_option maxHeartbeats 12800000 in
theorem rruns_any {A A2 : Option Addr} {B B2 c c2 n n2 : Nat} {L : List Mrk} {N : List Nod} (w : World) (r2 : RdR mrkE w B2 A2 c2 L) (r : RdR nodE w B A c N) (hB : B ≤ w.heap.size) (hB2 : B2 ≤ w.heap.size) (hn2 : L.length = n2) (hl2 : n2 ≤ 1000000) (hn : N.length = n) (hl : n ≤ 1000000) (hg : Good L) :
    Calls Try.prog 28 #[.slice A n c, .slice A2 n2 c2] w fun e w' => ∃ A' c', e = .returned (.slice A' (runsR N L).length c') ∧ OwnR runE w' w.heap.size 66 A' c' (runsR N L) ∧ Below w.heap.size w w' := by
  obtain ⟨i0, hi0, hz0, hz1, hz2⟩ := info_parts infoRun
  have HI := Lib.hid (And.intro hi0 (And.intro hz0 (And.intro hz1 hz2)))
  have HR := Lib.hid (fun wz (hz : Below w.heap.size w wz) => (r.keep (hz.mono hB) : RdR nodE wz B A c N))
  have HST := Lib.hid (fun (t : Int) wz (hz : Below w.heap.size w wz) => rstyle_any t wz (r2.keep (hz.mono hB2)) (r.keep (hz.mono hB)) (Nat.le_trans hB2 hz.size) (Nat.le_trans hB hz.size) hn2 hl2 hn hl hg)
  have HN := Lib.hid (And.intro hn (And.intro hl hB))
  clear hi0 hz0 hz1 hz2 r r2 hB hB2 hn hn2 hl2 hg
  go_enter Try.func28, Try.ntmps28
  go_wp2_with fail
  go_loopw [5, 6] (fun ov kv wr => ∃ k : Nat, k ≤ n ∧ kv = .int .i64 (k : Int) ∧ (∃ Ao co, ov = .slice Ao (rkN N L k).length co ∧ OwnR runE wr w.heap.size 66 Ao co (rkN N L k)) ∧ Below w.heap.size w wr) (fun _ kv _ => n - (intF kv).toNat)
  case atStart => exact ⟨0, Nat.zero_le _, rfl, ⟨none, 0, rfl, OwnR.nothing _ _ _ _⟩, Below.refl _ _⟩
  case round =>
    obtain ⟨k, hk, rfl, ⟨Ao, co, rfl, oo⟩, hbr⟩ := hrel
    obtain ⟨ln, eln⟩ : ∃ q, q = (rkN N L k).length := ⟨_, rfl⟩
    have hlk : (visL (N.take k) ((styL N L).take k)).length ≤ k := Nat.le_trans (visL_len _ _) (by rw [List.length_take]; exact Nat.min_le_left _ _)
    have hlr : ln ≤ k := by rw [eln]; exact Nat.le_trans (runsV_len _ _ rfl) hlk
    rw [← eln]
    by_cases hlt : k < n
    case neg =>
      obtain rfl : n = k := by omega
      have hfull : rkN N L n = runsR N L := by
        unfold rkN runsR
        rw [← HN.out.1, List.take_length, ← styL_len N L, List.take_length]
      rw [hfull] at oo eln
      have HO := Lib.hid oo
      have HEL := Lib.hid eln
      have HBR := Lib.hid hbr
      clear oo eln hbr hlt hk hlk hlr hfull
      go_wp2_with fail
      go_ret
      exact ⟨Ao, co, by rw [HEL.out]; rfl, HO.out, HBR.out⟩
    have g1 : (k : Int) < (n : Int) := by omega
    obtain ⟨y, hy⟩ : ∃ y, N[k]? = some y := getD_of (by rw [HN.out.1]; exact hlt)
    obtain ⟨b, o, rfl, hbB, y0, y1, y2, y3⟩ := nod_at (HR.out wr hbr) hy
    obtain ⟨s, es⟩ : ∃ s, s = stR N L (k : Int) := ⟨_, rfl⟩
    have hs : (styL N L)[k]? = some s := by rw [es]; exact styL_at N L (by rw [HN.out.1]; exact hlt)
    have hvis := visL_succ hy hs
    have hnx : rkN N L (k + 1) = if y.gone = true then rkN N L k else runS (rkN N L k) (y.rune, s) := by
      unfold rkN
      rw [hvis]
      cases y.gone
      · show runsV (_ ++ [(y.rune, s)]) = _
        rw [runsV_snoc]
        rfl
      · show runsV (_ ++ []) = _
        rw [List.append_nil]
        rfl
    have hsh : Short k (rkN N L k) := fun r hr => Nat.le_trans (runs_short _ _ rfl r hr) (Nat.mul_le_mul_left 4 hlk)
    obtain ⟨RK, eRK⟩ : ∃ x, x = rkN N L k := ⟨_, rfl⟩
    rw [← eRK] at oo hnx hsh eln
    have HST := Lib.hid (HST.out (k : Int) wr hbr)
    rw [← es] at HST
    have HK := Lib.hid hlt
    have HLN := Lib.hid (show RK.length = ln ∧ ln + 1 ≤ 140737488355328 ∧ (ln + 1) * 56 ≤ 140737488355328 by omega)
    have HY2 := Lib.hid (And.intro hbB y2)
    have hl9 := hl
    have HR2 := Lib.hid (Nat.le_trans HN.out.2.2 hbr.size)
    have HOO := Lib.hid oo
    have HBR := Lib.hid hbr
    have HSH := Lib.hid hsh
    have HKN := Lib.hid (And.intro hk hlr)
    clear hbB y0 y1 y2 hy es hs hvis oo hbr eln hlk hlr eRK hsh hk hlt
    obtain ⟨gn, egn⟩ : ∃ q, q = y.gone := ⟨_, rfl⟩
    rw [← egn] at y3 hnx
    clear egn
    cases gn with
    | true =>
      have HX := Lib.hid (show rkN N L (k + 1) = RK by rw [hnx, if_pos rfl])
      clear hnx
      go_wp2_with fail
      go_roundw
      case rel => exact ⟨k + 1, HK.out, by go_num, ⟨Ao, co, by rw [HX.out, HLN.out.1], by rw [HX.out]; exact HOO.out⟩, HBR.out⟩
      case measure => simp [intF]; have := HK.out; omega
    | false =>
      have HX0 := Lib.hid (show rkN N L (k + 1) = runS RK (y.rune, s) by rw [hnx, if_neg (by decide)])
      clear hnx
      go_wp2_with fail
      go_at_call 25
      refine HST.out.mono ?_
      rintro e v2 ⟨rfl, h2⟩
      obtain ⟨v3, ev3⟩ : ∃ v, v = v2.alloc (.cells #[.int .i64 s.a0, .int .i64 s.a1, .int .i64 s.a2, .int .i64 s.a3, .int .i64 s.a4] 55) := ⟨_, rfl⟩
      obtain ⟨g7, eg7⟩ : ∃ g, g = v2.heap.size := ⟨_, rfl⟩
      have hb3 : Below wr.heap.size wr v3 := h2.trans (by rw [ev3]; exact (Below.refl _ _).alloc h2.size _)
      have hq : v3.cell? ⟨g7, 0, none⟩ = some (.int .i64 s.a0) ∧ v3.cell? ⟨g7, 1, none⟩ = some (.int .i64 s.a1) ∧ v3.cell? ⟨g7, 2, none⟩ = some (.int .i64 s.a2) ∧ v3.cell? ⟨g7, 3, none⟩ = some (.int .i64 s.a3) ∧ v3.cell? ⟨g7, 4, none⟩ = some (.int .i64 s.a4) := by
        rw [ev3, eg7]
        simp
      have hg7 : g7 < v3.heap.size := by rw [ev3, eg7]; simp
      have HV := Lib.hid (And.intro ev3 eg7)
      have HBQ := Lib.hid (HBR.out.trans (hb3.mono HBR.out.size))
      have HON := Lib.hid (HOO.out.keep hb3)
      have hbw : b < v3.heap.size := Nat.lt_of_lt_of_le HY2.out.1 (Nat.le_trans HR2.out hb3.size)
      have hy2 := (hb3.cell (p := ⟨b, o + k * 4 + 2, none⟩) (Nat.lt_of_lt_of_le HY2.out.1 HR2.out)).trans HY2.out.2
      have HS0 := Lib.hid (fun wz (hz : Below v3.heap.size v3 wz) => show wz.cell? ⟨b, o + k * 4 + 2, none⟩ = some (.int .i32 y.rune) ∧ wz.cell? ⟨g7, 0, none⟩ = some (.int .i64 s.a0) ∧ wz.cell? ⟨g7, 1, none⟩ = some (.int .i64 s.a1) ∧ wz.cell? ⟨g7, 2, none⟩ = some (.int .i64 s.a2) ∧ wz.cell? ⟨g7, 3, none⟩ = some (.int .i64 s.a3) ∧ wz.cell? ⟨g7, 4, none⟩ = some (.int .i64 s.a4) from
        ⟨(hz.cell (p := ⟨b, o + k * 4 + 2, none⟩) hbw).trans hy2, (hz.cell (p := ⟨g7, 0, none⟩) hg7).trans hq.1, (hz.cell (p := ⟨g7, 1, none⟩) hg7).trans hq.2.1, (hz.cell (p := ⟨g7, 2, none⟩) hg7).trans hq.2.2.1, (hz.cell (p := ⟨g7, 3, none⟩) hg7).trans hq.2.2.2.1, (hz.cell (p := ⟨g7, 4, none⟩) hg7).trans hq.2.2.2.2⟩)
      clear ev3 eg7 h2 hb3 hq hg7 hbw hy2 y3 HST HOO HBR
      go_upto_region 7 with fail
      rw [← HV.out.1, ← HV.out.2]
      clear HV
      have hes := enc_size y.rune
      rcases snoc_cases RK with hRK | ⟨pre, l, hRK⟩
      · have h0 : ln = 0 := by rw [← HLN.out.1, hRK]; rfl
        have G5 := Lib.hid h0
        have HS := HS0
        have HX := Lib.hid (show rkN N L (k + 1) = RK ++ [⟨Utf8.encode y.rune, s⟩] by rw [HX0.out, hRK]; rfl)
        clear hRK h0 HS0 hes
        refine wp_region_inv 13 [23, 24, 25, 26, 27, 28, 29, 30, 31, 32, 33, 34, 35] [.val (.slice Ao ln co), .val (.int .i64 (ln : Int)), .val (.bool false), .val (.bool false), .val undef, .val undef, .val undef, .val undef, .val undef, .val undef, .val undef, .val undef, .val undef] (fun wz => Below v3.heap.size v3 wz) (by kernel_rfl) (by kernel_rfl) (fun wz wz' hz hb => hz.trans (hb.mono hz.size)) ((Below.refl _ _).drew) (fun u => by simp only [puts, List.foldl_cons, List.foldl_nil]; go_simp; exact rfl) ?_ ?_
        · simp only [List.take_succ_cons, List.take_zero]
          refine Obs.cons (fun u w hS hd => ?_) ?_
          · exact Gv.run (.slice Ao ln co) rfl (by go_simp) rfl
          refine Obs.cons (fun u w hS hd => ?_) ?_
          · have d23 : u 23 = .slice Ao ln co := dep hd 0 rfl
            rw [d23]
            exact Gv.run (.int .i64 (ln : Int)) rfl (by go_simp) rfl
          refine Obs.cons (fun u w hS hd => ?_) ?_
          · have d24 : u 24 = .int .i64 (ln : Int) := dep hd 1 rfl
            rw [d24]
            exact Gv.run (.bool false) rfl (by go_simp; exact G5.out) rfl
          refine Obs.cons (fun u w hS hd => ?_) ?_
          · have d25 : u 25 = .bool false := dep hd 2 rfl
            rw [d25]
            exact Gv.run (.bool false) rfl (by go_simp) rfl
          refine Obs.cons (fun u w hS hd => ?_) ?_
          · have d26 : u 26 = .bool false := dep hd 3 rfl
            rw [d26]
            exact Gv.skip (by rfl) rfl
          refine Obs.cons (fun u w hS hd => ?_) ?_
          · have d26 : u 26 = .bool false := dep hd 3 rfl
            rw [d26]
            exact Gv.skip (by rfl) rfl
          refine Obs.cons (fun u w hS hd => ?_) ?_
          · have d28 : u 28 = undef := dep hd 5 rfl
            have d26 : u 26 = .bool false := dep hd 3 rfl
            rw [d28, d26]
            exact Gv.skip (by rfl) rfl
          refine Obs.cons (fun u w hS hd => ?_) ?_
          · have d29 : u 29 = undef := dep hd 6 rfl
            have d26 : u 26 = .bool false := dep hd 3 rfl
            rw [d29, d26]
            exact Gv.skip (by rfl) rfl
          refine Obs.cons (fun u w hS hd => ?_) ?_
          · have d27 : u 27 = undef := dep hd 4 rfl
            have d30 : u 30 = undef := dep hd 7 rfl
            have d26 : u 26 = .bool false := dep hd 3 rfl
            rw [d27, d30, d26]
            exact Gv.skip (by rfl) rfl
          refine Obs.cons (fun u w hS hd => ?_) ?_
          · have d31 : u 31 = undef := dep hd 8 rfl
            have d26 : u 26 = .bool false := dep hd 3 rfl
            rw [d31, d26]
            exact Gv.skip (by rfl) rfl
          refine Obs.cons (fun u w hS hd => ?_) ?_
          · have d32 : u 32 = undef := dep hd 9 rfl
            have d26 : u 26 = .bool false := dep hd 3 rfl
            rw [d32, d26]
            exact Gv.skip (by rfl) rfl
          refine Obs.cons (fun u w hS hd => ?_) ?_
          · have d26 : u 26 = .bool false := dep hd 3 rfl
            rw [d26]
            exact Gv.skip (by rfl) rfl
          refine Obs.cons (fun u w hS hd => ?_) ?_
          · have d33 : u 33 = undef := dep hd 10 rfl
            have d34 : u 34 = undef := dep hd 11 rfl
            have d26 : u 26 = .bool false := dep hd 3 rfl
            rw [d33, d34, d26]
            exact Gv.skip (by rfl) rfl
          exact Obs.nil
        intro u v4 hS hd
        have d26 : u 26 = .bool false := hd 3 (by decide)
        rw [d26]
        simp only [List.drop_succ_cons, List.drop_zero]
        have HS4 := Lib.hid hS
        clear hS hd d26
        go_wp2_with fail
        have HON := Lib.hid (HON.out.keep HS4.out)
        have HBQ := Lib.hid (HBQ.out.trans (HS4.out.mono HBQ.out.size))
        have HS := Lib.hid (fun wz (hz : Below v4.heap.size v4 wz) => HS.out wz (HS4.out.trans (hz.mono HS4.out.size)))
        clear HS4
        go_upto_region 9 with fail
        refine wp_region_inv 10 [57, 58, 59, 60, 61, 62, 63, 64, 65, 66] [.val (.slice Ao ln co), .val (.slice (some ⟨b, o, none⟩) n c), .val (.int .i64 (k : Int)), .val (.pointer (some ⟨b, o + k * 4, none⟩)), .val (.pointer (some ⟨b, o + k * 4 + 2, none⟩)), .val (.int .i32 y.rune), .val (.string (Utf8.encode y.rune)), .val (.agg #[.int .i64 s.a0, .int .i64 s.a1, .int .i64 s.a2, .int .i64 s.a3, .int .i64 s.a4]), .val (.agg #[.string (Utf8.encode y.rune), .int .i64 s.a0, .int .i64 s.a1, .int .i64 s.a2, .int .i64 s.a3, .int .i64 s.a4]), (kRow runE 1 [(⟨Utf8.encode y.rune, s⟩ : Rn)])] (fun wz => Below v4.heap.size v4 wz) (by kernel_rfl) (by kernel_rfl) (fun wz wz' hz hb => hz.trans (hb.mono hz.size)) ((Below.refl _ _).drew) (fun u => by simp only [puts, List.foldl_cons, List.foldl_nil]; go_simp; exact rfl) ?_ ?_
        · simp only [List.take_succ_cons, List.take_zero]
          refine Obs.cons (fun u w hS hd => ?_) ?_
          · exact Gv.run (.slice Ao ln co) rfl (by go_simp) rfl
          refine Obs.cons (fun u w hS hd => ?_) ?_
          · exact Gv.run (.slice (some ⟨b, o, none⟩) n c) rfl (by go_simp) rfl
          refine Obs.cons (fun u w hS hd => ?_) ?_
          · exact Gv.run (.int .i64 (k : Int)) rfl (by go_simp) rfl
          refine Obs.cons (fun u w hS hd => ?_) ?_
          · have d58 : u 58 = .slice (some ⟨b, o, none⟩) n c := dep hd 1 rfl
            have d59 : u 59 = .int .i64 (k : Int) := dep hd 2 rfl
            rw [d58, d59]
            exact Gv.run (.pointer (some ⟨b, o + k * 4, none⟩)) rfl (by go_simp) rfl
          refine Obs.cons (fun u w hS hd => ?_) ?_
          · have d60 : u 60 = .pointer (some ⟨b, o + k * 4, none⟩) := dep hd 3 rfl
            rw [d60]
            exact Gv.run (.pointer (some ⟨b, o + k * 4 + 2, none⟩)) rfl (by go_simp) rfl
          refine Obs.cons (fun u w hS hd => ?_) ?_
          · have d61 : u 61 = .pointer (some ⟨b, o + k * 4 + 2, none⟩) := dep hd 4 rfl
            rw [d61]
            exact Gv.run (.int .i32 y.rune) rfl (by obtain ⟨k0, k1, k2, k3, k4, k5⟩ := HS.out w hS; go_simp) rfl
          refine Obs.cons (fun u w hS hd => ?_) ?_
          · have d62 : u 62 = .int .i32 y.rune := dep hd 5 rfl
            rw [d62]
            exact Gv.run (.string (Utf8.encode y.rune)) rfl (by go_simp) rfl
          refine Obs.cons (fun u w hS hd => ?_) ?_
          · exact Gv.run (.agg #[.int .i64 s.a0, .int .i64 s.a1, .int .i64 s.a2, .int .i64 s.a3, .int .i64 s.a4]) rfl (by obtain ⟨k0, k1, k2, k3, k4, k5⟩ := HS.out w hS; go_simp) rfl
          refine Obs.cons (fun u w hS hd => ?_) ?_
          · have d63 : u 63 = .string (Utf8.encode y.rune) := dep hd 6 rfl
            have d64 : u 64 = .agg #[.int .i64 s.a0, .int .i64 s.a1, .int .i64 s.a2, .int .i64 s.a3, .int .i64 s.a4] := dep hd 7 rfl
            rw [d63, d64]
            exact Gv.run (.agg #[.string (Utf8.encode y.rune), .int .i64 s.a0, .int .i64 s.a1, .int .i64 s.a2, .int .i64 s.a3, .int .i64 s.a4]) rfl (by go_simp) rfl
          refine Obs.cons (fun u w hS hd => ?_) ?_
          · have d65 : u 65 = .agg #[.string (Utf8.encode y.rune), .int .i64 s.a0, .int .i64 s.a1, .int .i64 s.a2, .int .i64 s.a3, .int .i64 s.a4] := dep hd 8 rfl
            rw [d65]
            refine Gv.make (.slice (some ⟨w.heap.size, 0, none⟩) 1 1) (w.alloc (.cells #[.string (Utf8.encode y.rune), .int .i64 s.a0, .int .i64 s.a1, .int .i64 s.a2, .int .i64 s.a3, .int .i64 s.a4] 66)) rfl (by go_simp) ⟨_, _, rfl, ?_⟩ ((Below.refl _ w).alloc (Nat.le_refl _) _)
            exact (OwnR.lit (E := runE) (w := w) 66 (Nat.le_refl _) #[.string (Utf8.encode y.rune), .int .i64 s.a0, .int .i64 s.a1, .int .i64 s.a2, .int .i64 s.a3, .int .i64 s.a4] [(⟨Utf8.encode y.rune, s⟩ : Rn)] (by simp [maxLen]) rfl).rd
          exact Obs.nil
        intro u v8 hS hd
        have d57 : u 57 = .slice Ao ln co := hd 0 (by decide)
        obtain ⟨A9, c9, d66, r9⟩ : (kRow runE 1 [(⟨Utf8.encode y.rune, s⟩ : Rn)]).ok (u 66) v8 := hd 9 (by decide)
        rw [d57, d66]
        simp only [List.drop_succ_cons, List.drop_zero]
        have on := HON.out.keep hS
        have HR9 := Lib.hid r9
        have HO9 := Lib.hid on
        have HB9 := Lib.hid (HBQ.out.trans (hS.mono HBQ.out.size))
        clear hS hd d57 d66 r9 on HON HBQ
        go_wp2_with (at_builtin; refine wpList_appR v8 rfl (.tmp 57) (.tmp 66) _ rfl w.heap.size 66 i0 _ Try.underlying59 HI.out.1 HI.out.2.1 HI.out.2.2.1 HI.out.2.2.2 rfl HLN.out.1 rfl HO9.out (M := [(⟨Utf8.encode y.rune, s⟩ : Rn)]) rfl rfl HR9.out HLN.out.2.1 HLN.out.2.2 HB9.out.size ?_; intro A8 c8 w8 o8 hb8 hg8)
        go_roundw
        case rel => exact ⟨k + 1, HK.out, by go_num, ⟨A8, c8, by rw [HX.out, List.length_append, HLN.out.1]; rfl, by rw [HX.out]; exact o8⟩, HB9.out.trans hb8⟩
        case measure => simp [intF]; have := HK.out; omega
      · obtain ⟨lm, elm⟩ : ∃ q, q = pre.length := ⟨_, rfl⟩
        have hlm : ln = lm + 1 := by rw [← HLN.out.1, hRK, elm, List.length_append]; rfl
        have G5 := Lib.hid (show 0 < ln by omega)
        have g6 : IntKind.i64.wrap ((ln : Int) - 1) = (lm : Int) := by rw [IntKind.wrap_i64]; have := HKN.out.2; omega
        have g7' : (lm : Int) < (ln : Int) := by omega
        have hat : RK[lm]? = some l := by rw [hRK, elm, List.getElem?_append_right (Nat.le_refl _), Nat.sub_self]; rfl
        obtain ⟨g5b, hA⟩ := HON.out.ptr16 (by rw [hRK]; simp)
        subst hA
        obtain ⟨b5, o5, hA, hb5, r0, r1, r2, r3, r4, r5⟩ := run_at HON.out.rd hat
        simp only [Option.some.injEq, Addr.mk.injEq, and_true] at hA
        obtain ⟨e1, e2⟩ := hA
        have HE := Lib.hid (And.intro e1 e2)
        have hss : ¬ 9223372036854775807 < l.text.size + (Utf8.encode y.rune).size := by
          have := HSH.out l (by rw [hRK]; simp)
          have := HKN.out.1
          omega
        have HS := Lib.hid (fun wz (hz : Below v3.heap.size v3 wz) => show wz.cell? ⟨b, o + k * 4 + 2, none⟩ = some (.int .i32 y.rune) ∧ (wz.cell? ⟨g7, 0, none⟩ = some (.int .i64 s.a0) ∧ wz.cell? ⟨g7, 1, none⟩ = some (.int .i64 s.a1) ∧ wz.cell? ⟨g7, 2, none⟩ = some (.int .i64 s.a2) ∧ wz.cell? ⟨g7, 3, none⟩ = some (.int .i64 s.a3) ∧ wz.cell? ⟨g7, 4, none⟩ = some (.int .i64 s.a4)) ∧ wz.cell? ⟨b5, o5 + lm * 6, none⟩ = some (.string l.text) ∧ wz.cell? ⟨b5, o5 + lm * 6 + 1, none⟩ = some (.int .i64 l.sty.a0) ∧ wz.cell? ⟨b5, o5 + lm * 6 + 2, none⟩ = some (.int .i64 l.sty.a1) ∧ wz.cell? ⟨b5, o5 + lm * 6 + 3, none⟩ = some (.int .i64 l.sty.a2) ∧ wz.cell? ⟨b5, o5 + lm * 6 + 4, none⟩ = some (.int .i64 l.sty.a3) ∧ wz.cell? ⟨b5, o5 + lm * 6 + 5, none⟩ = some (.int .i64 l.sty.a4) from
          ⟨(HS0.out wz hz).1, (HS0.out wz hz).2, (hz.cell (p := ⟨b5, o5 + lm * 6, none⟩) hb5).trans r0, (hz.cell (p := ⟨b5, o5 + lm * 6 + 1, none⟩) hb5).trans r1, (hz.cell (p := ⟨b5, o5 + lm * 6 + 2, none⟩) hb5).trans r2, (hz.cell (p := ⟨b5, o5 + lm * 6 + 3, none⟩) hb5).trans r3, (hz.cell (p := ⟨b5, o5 + lm * 6 + 4, none⟩) hb5).trans r4, (hz.cell (p := ⟨b5, o5 + lm * 6 + 5, none⟩) hb5).trans r5⟩)
        have hq := fun wz => eqSty10000 l.sty s wz
        have HRK := Lib.hid (And.intro hRK (And.intro elm hat))
        rw [show (⟨g5b, 0, none⟩ : Addr) = ⟨b5, o5, none⟩ by rw [e1, e2]] at HON ⊢
        clear hRK elm hlm hat e1 e2 hb5 r0 r1 r2 r3 r4 r5 HS0 hes
        by_cases hst : l.sty = s
        · rw [decide_eq_true hst] at hq
          have HX := Lib.hid (show rkN N L (k + 1) = RK.set lm ⟨l.text ++ Utf8.encode y.rune, s⟩ by
            rw [HX0.out, HRK.out.1, HRK.out.2.1, List.set_append_right _ _ (Nat.le_refl _), Nat.sub_self]
            obtain ⟨lt, lsy⟩ := l
            simp only at hst
            subst hst
            exact runS_same pre lt (y.rune, lsy))
          have HST := Lib.hid hst
          clear hst
          refine wp_region_inv 13 [23, 24, 25, 26, 27, 28, 29, 30, 31, 32, 33, 34, 35] [.val (.slice (some ⟨b5, o5, none⟩) ln co), .val (.int .i64 (ln : Int)), .val (.bool true), .val (.bool true), .val (.slice (some ⟨b5, o5, none⟩) ln co), .val (.slice (some ⟨b5, o5, none⟩) ln co), .val (.int .i64 (ln : Int)), .val (.int .i64 (lm : Int)), .val (.pointer (some ⟨b5, o5 + lm * 6, none⟩)), .val (.pointer (some ⟨b5, o5 + lm * 6 + 1, none⟩)), .val (.agg #[.int .i64 l.sty.a0, .int .i64 l.sty.a1, .int .i64 l.sty.a2, .int .i64 l.sty.a3, .int .i64 l.sty.a4]), .val (.agg #[.int .i64 s.a0, .int .i64 s.a1, .int .i64 s.a2, .int .i64 s.a3, .int .i64 s.a4]), .val (.bool true)] (fun wz => Below v3.heap.size v3 wz) (by kernel_rfl) (by kernel_rfl) (fun wz wz' hz hb => hz.trans (hb.mono hz.size)) ((Below.refl _ _).drew) (fun u => by simp only [puts, List.foldl_cons, List.foldl_nil]; go_simp; exact rfl) ?_ ?_
          · simp only [List.take_succ_cons, List.take_zero]
            refine Obs.cons (fun u w hS hd => ?_) ?_
            · exact Gv.run (.slice (some ⟨b5, o5, none⟩) ln co) rfl (by go_simp) rfl
            refine Obs.cons (fun u w hS hd => ?_) ?_
            · have d23 : u 23 = .slice (some ⟨b5, o5, none⟩) ln co := dep hd 0 rfl
              rw [d23]
              exact Gv.run (.int .i64 (ln : Int)) rfl (by go_simp) rfl
            refine Obs.cons (fun u w hS hd => ?_) ?_
            · have d24 : u 24 = .int .i64 (ln : Int) := dep hd 1 rfl
              rw [d24]
              exact Gv.run (.bool true) rfl (by go_simp; exact G5.out) rfl
            refine Obs.cons (fun u w hS hd => ?_) ?_
            · have d25 : u 25 = .bool true := dep hd 2 rfl
              rw [d25]
              exact Gv.run (.bool true) rfl (by go_simp) rfl
            refine Obs.cons (fun u w hS hd => ?_) ?_
            · have d26 : u 26 = .bool true := dep hd 3 rfl
              rw [d26]
              exact Gv.run (.slice (some ⟨b5, o5, none⟩) ln co) rfl (by go_simp) rfl
            refine Obs.cons (fun u w hS hd => ?_) ?_
            · have d26 : u 26 = .bool true := dep hd 3 rfl
              rw [d26]
              exact Gv.run (.slice (some ⟨b5, o5, none⟩) ln co) rfl (by go_simp) rfl
            refine Obs.cons (fun u w hS hd => ?_) ?_
            · have d28 : u 28 = .slice (some ⟨b5, o5, none⟩) ln co := dep hd 5 rfl
              have d26 : u 26 = .bool true := dep hd 3 rfl
              rw [d28, d26]
              exact Gv.run (.int .i64 (ln : Int)) rfl (by go_simp) rfl
            refine Obs.cons (fun u w hS hd => ?_) ?_
            · have d29 : u 29 = .int .i64 (ln : Int) := dep hd 6 rfl
              have d26 : u 26 = .bool true := dep hd 3 rfl
              rw [d29, d26]
              exact Gv.run (.int .i64 (lm : Int)) rfl (by go_simp) rfl
            refine Obs.cons (fun u w hS hd => ?_) ?_
            · have d27 : u 27 = .slice (some ⟨b5, o5, none⟩) ln co := dep hd 4 rfl
              have d30 : u 30 = .int .i64 (lm : Int) := dep hd 7 rfl
              have d26 : u 26 = .bool true := dep hd 3 rfl
              rw [d27, d30, d26]
              exact Gv.run (.pointer (some ⟨b5, o5 + lm * 6, none⟩)) rfl (by go_simp) rfl
            refine Obs.cons (fun u w hS hd => ?_) ?_
            · have d31 : u 31 = .pointer (some ⟨b5, o5 + lm * 6, none⟩) := dep hd 8 rfl
              have d26 : u 26 = .bool true := dep hd 3 rfl
              rw [d31, d26]
              exact Gv.run (.pointer (some ⟨b5, o5 + lm * 6 + 1, none⟩)) rfl (by go_simp) rfl
            refine Obs.cons (fun u w hS hd => ?_) ?_
            · have d32 : u 32 = .pointer (some ⟨b5, o5 + lm * 6 + 1, none⟩) := dep hd 9 rfl
              have d26 : u 26 = .bool true := dep hd 3 rfl
              rw [d32, d26]
              exact Gv.run (.agg #[.int .i64 l.sty.a0, .int .i64 l.sty.a1, .int .i64 l.sty.a2, .int .i64 l.sty.a3, .int .i64 l.sty.a4]) rfl (by obtain ⟨k0, ⟨k1, k2, k3, k4, k5⟩, l0, l1, l2, l3, l4, l5⟩ := HS.out w hS; go_simp) rfl
            refine Obs.cons (fun u w hS hd => ?_) ?_
            · have d26 : u 26 = .bool true := dep hd 3 rfl
              rw [d26]
              exact Gv.run (.agg #[.int .i64 s.a0, .int .i64 s.a1, .int .i64 s.a2, .int .i64 s.a3, .int .i64 s.a4]) rfl (by obtain ⟨k0, ⟨k1, k2, k3, k4, k5⟩, l0, l1, l2, l3, l4, l5⟩ := HS.out w hS; go_simp) rfl
            refine Obs.cons (fun u w hS hd => ?_) ?_
            · have d33 : u 33 = .agg #[.int .i64 l.sty.a0, .int .i64 l.sty.a1, .int .i64 l.sty.a2, .int .i64 l.sty.a3, .int .i64 l.sty.a4] := dep hd 10 rfl
              have d34 : u 34 = .agg #[.int .i64 s.a0, .int .i64 s.a1, .int .i64 s.a2, .int .i64 s.a3, .int .i64 s.a4] := dep hd 11 rfl
              have d26 : u 26 = .bool true := dep hd 3 rfl
              rw [d33, d34, d26]
              exact Gv.run (.bool true) rfl (by go_simp) rfl
            exact Obs.nil
          intro u v4 hS hd
          have d26 : u 26 = .bool true := hd 3 (by decide)
          have d35 : u 35 = .bool true := hd 12 (by decide)
          rw [d26, d35]
          simp only [List.drop_succ_cons, List.drop_zero]
          have HS4 := Lib.hid hS
          clear hS hd d26 d35
          go_wp2_with fail
          have HON := Lib.hid (HON.out.keep HS4.out)
          have HBQ := Lib.hid (HBQ.out.trans (HS4.out.mono HBQ.out.size))
          have HS := Lib.hid (fun wz (hz : Below v4.heap.size v4 wz) => HS.out wz (HS4.out.trans (hz.mono HS4.out.size)))
          clear HS4 hq
          go_upto_region 8 with fail
          refine wp_region_inv 20 [37, 38, 39, 40, 41, 42, 43, 44, 45, 46, 47, 48, 49, 50, 51, 52, 53, 54, 55, 56] [.val (.slice (some ⟨b5, o5, none⟩) ln co), .val (.slice (some ⟨b5, o5, none⟩) ln co), .val (.int .i64 (ln : Int)), .val (.int .i64 (lm : Int)), .val (.slice (some ⟨b5, o5, none⟩) ln co), .val (.slice (some ⟨b5, o5, none⟩) ln co), .val (.int .i64 (ln : Int)), .val (.int .i64 (lm : Int)), .val (.pointer (some ⟨b5, o5 + lm * 6, none⟩)), .val (.pointer (some ⟨b5, o5 + lm * 6, none⟩)), .val (.string l.text), .val (.slice (some ⟨b, o, none⟩) n c), .val (.int .i64 (k : Int)), .val (.pointer (some ⟨b, o + k * 4, none⟩)), .val (.pointer (some ⟨b, o + k * 4 + 2, none⟩)), .val (.int .i32 y.rune), .val (.string (Utf8.encode y.rune)), .val (.string (l.text ++ Utf8.encode y.rune)), .val (.pointer (some ⟨b5, o5 + lm * 6, none⟩)), .val (.pointer (some ⟨b5, o5 + lm * 6, none⟩))] (fun wz => Below v4.heap.size v4 wz) (by kernel_rfl) (by kernel_rfl) (fun wz wz' hz hb => hz.trans (hb.mono hz.size)) ((Below.refl _ _).drew) (fun u => by simp only [puts, List.foldl_cons, List.foldl_nil]; go_simp; exact rfl) ?_ ?_
          · simp only [List.take_succ_cons, List.take_zero]
            refine Obs.cons (fun u w hS hd => ?_) ?_
            · exact Gv.run (.slice (some ⟨b5, o5, none⟩) ln co) rfl (by go_simp) rfl
            refine Obs.cons (fun u w hS hd => ?_) ?_
            · exact Gv.run (.slice (some ⟨b5, o5, none⟩) ln co) rfl (by go_simp) rfl
            refine Obs.cons (fun u w hS hd => ?_) ?_
            · have d38 : u 38 = .slice (some ⟨b5, o5, none⟩) ln co := dep hd 1 rfl
              rw [d38]
              exact Gv.run (.int .i64 (ln : Int)) rfl (by go_simp) rfl
            refine Obs.cons (fun u w hS hd => ?_) ?_
            · have d39 : u 39 = .int .i64 (ln : Int) := dep hd 2 rfl
              rw [d39]
              exact Gv.run (.int .i64 (lm : Int)) rfl (by go_simp) rfl
            refine Obs.cons (fun u w hS hd => ?_) ?_
            · exact Gv.run (.slice (some ⟨b5, o5, none⟩) ln co) rfl (by go_simp) rfl
            refine Obs.cons (fun u w hS hd => ?_) ?_
            · exact Gv.run (.slice (some ⟨b5, o5, none⟩) ln co) rfl (by go_simp) rfl
            refine Obs.cons (fun u w hS hd => ?_) ?_
            · have d42 : u 42 = .slice (some ⟨b5, o5, none⟩) ln co := dep hd 5 rfl
              rw [d42]
              exact Gv.run (.int .i64 (ln : Int)) rfl (by go_simp) rfl
            refine Obs.cons (fun u w hS hd => ?_) ?_
            · have d43 : u 43 = .int .i64 (ln : Int) := dep hd 6 rfl
              rw [d43]
              exact Gv.run (.int .i64 (lm : Int)) rfl (by go_simp) rfl
            refine Obs.cons (fun u w hS hd => ?_) ?_
            · have d41 : u 41 = .slice (some ⟨b5, o5, none⟩) ln co := dep hd 4 rfl
              have d44 : u 44 = .int .i64 (lm : Int) := dep hd 7 rfl
              rw [d41, d44]
              exact Gv.run (.pointer (some ⟨b5, o5 + lm * 6, none⟩)) rfl (by go_simp) rfl
            refine Obs.cons (fun u w hS hd => ?_) ?_
            · have d45 : u 45 = .pointer (some ⟨b5, o5 + lm * 6, none⟩) := dep hd 8 rfl
              rw [d45]
              exact Gv.run (.pointer (some ⟨b5, o5 + lm * 6, none⟩)) rfl (by go_simp) rfl
            refine Obs.cons (fun u w hS hd => ?_) ?_
            · have d46 : u 46 = .pointer (some ⟨b5, o5 + lm * 6, none⟩) := dep hd 9 rfl
              rw [d46]
              exact Gv.run (.string l.text) rfl (by obtain ⟨k0, ⟨k1, k2, k3, k4, k5⟩, l0, l1, l2, l3, l4, l5⟩ := HS.out w hS; go_simp) rfl
            refine Obs.cons (fun u w hS hd => ?_) ?_
            · exact Gv.run (.slice (some ⟨b, o, none⟩) n c) rfl (by go_simp) rfl
            refine Obs.cons (fun u w hS hd => ?_) ?_
            · exact Gv.run (.int .i64 (k : Int)) rfl (by go_simp) rfl
            refine Obs.cons (fun u w hS hd => ?_) ?_
            · have d48 : u 48 = .slice (some ⟨b, o, none⟩) n c := dep hd 11 rfl
              have d49 : u 49 = .int .i64 (k : Int) := dep hd 12 rfl
              rw [d48, d49]
              exact Gv.run (.pointer (some ⟨b, o + k * 4, none⟩)) rfl (by go_simp) rfl
            refine Obs.cons (fun u w hS hd => ?_) ?_
            · have d50 : u 50 = .pointer (some ⟨b, o + k * 4, none⟩) := dep hd 13 rfl
              rw [d50]
              exact Gv.run (.pointer (some ⟨b, o + k * 4 + 2, none⟩)) rfl (by go_simp) rfl
            refine Obs.cons (fun u w hS hd => ?_) ?_
            · have d51 : u 51 = .pointer (some ⟨b, o + k * 4 + 2, none⟩) := dep hd 14 rfl
              rw [d51]
              exact Gv.run (.int .i32 y.rune) rfl (by obtain ⟨k0, ⟨k1, k2, k3, k4, k5⟩, l0, l1, l2, l3, l4, l5⟩ := HS.out w hS; go_simp) rfl
            refine Obs.cons (fun u w hS hd => ?_) ?_
            · have d52 : u 52 = .int .i32 y.rune := dep hd 15 rfl
              rw [d52]
              exact Gv.run (.string (Utf8.encode y.rune)) rfl (by go_simp) rfl
            refine Obs.cons (fun u w hS hd => ?_) ?_
            · have d47 : u 47 = .string l.text := dep hd 10 rfl
              have d53 : u 53 = .string (Utf8.encode y.rune) := dep hd 16 rfl
              rw [d47, d53]
              exact Gv.run (.string (l.text ++ Utf8.encode y.rune)) rfl (by go_simp) rfl
            refine Obs.cons (fun u w hS hd => ?_) ?_
            · have d37 : u 37 = .slice (some ⟨b5, o5, none⟩) ln co := dep hd 0 rfl
              have d40 : u 40 = .int .i64 (lm : Int) := dep hd 3 rfl
              rw [d37, d40]
              exact Gv.run (.pointer (some ⟨b5, o5 + lm * 6, none⟩)) rfl (by go_simp) rfl
            refine Obs.cons (fun u w hS hd => ?_) ?_
            · have d55 : u 55 = .pointer (some ⟨b5, o5 + lm * 6, none⟩) := dep hd 18 rfl
              rw [d55]
              exact Gv.run (.pointer (some ⟨b5, o5 + lm * 6, none⟩)) rfl (by go_simp) rfl
            exact Obs.nil
          intro u v6 hS hd
          have d56 : u 56 = .pointer (some ⟨b5, o5 + lm * 6, none⟩) := hd 19 (by decide)
          have d54 : u 54 = .string (l.text ++ Utf8.encode y.rune) := hd 17 (by decide)
          rw [d56, d54]
          simp only [List.drop_succ_cons, List.drop_zero]
          have HS6 := Lib.hid hS
          have cx := (HS.out v6 hS).2.2.1
          clear hS hd d56 d54
          have on6 := HON.out.keep HS6.out
          have HB6 := Lib.hid (HBQ.out.trans (HS6.out.mono HBQ.out.size))
          have hz : o5 = 0 := HE.out.2.symm
          have on7 : OwnR runE v6 w.heap.size 66 (some ⟨b5, 0, none⟩) co RK := by rw [hz] at on6; exact on6
          have fr : v6.frozen? ⟨b5, o5 + lm * 6, none⟩ = false := on7.free10 _
          have hset := on7.cellset (p := lm) (j := 0) (x := l) (x' := ⟨l.text ++ Utf8.encode y.rune, s⟩) (v := .string (l.text ++ Utf8.encode y.rune)) HRK.out.2.2 (by decide) (by rw [← HST.out]; rfl)
          have HSET := Lib.hid (show OwnR runE (v6.setCell ⟨b5, o5 + lm * 6, none⟩ (.string (l.text ++ Utf8.encode y.rune))) w.heap.size 66 (some ⟨b5, o5, none⟩) co (RK.set lm ⟨l.text ++ Utf8.encode y.rune, s⟩) ∧ Below w.heap.size w (v6.setCell ⟨b5, o5 + lm * 6, none⟩ (.string (l.text ++ Utf8.encode y.rune))) from by
            rw [hz, Nat.zero_add]
            exact ⟨hset.1, HB6.out.trans hset.2⟩)
          clear on6 on7 hset hz HON HS HBQ
          go_wp2_with fail
          go_roundw
          case rel => exact ⟨k + 1, HK.out, by go_num, ⟨some ⟨b5, o5, none⟩, co, by rw [HX.out, List.length_set, HLN.out.1], by rw [HX.out]; exact HSET.out.1⟩, HSET.out.2⟩
          case measure => simp [intF]; have := HK.out; omega
        · rw [decide_eq_false hst] at hq
          have HX := Lib.hid (show rkN N L (k + 1) = RK ++ [⟨Utf8.encode y.rune, s⟩] by rw [HX0.out, HRK.out.1]; exact runS_other pre l (y.rune, s) hst)
          clear hst
          refine wp_region_inv 13 [23, 24, 25, 26, 27, 28, 29, 30, 31, 32, 33, 34, 35] [.val (.slice (some ⟨b5, o5, none⟩) ln co), .val (.int .i64 (ln : Int)), .val (.bool true), .val (.bool true), .val (.slice (some ⟨b5, o5, none⟩) ln co), .val (.slice (some ⟨b5, o5, none⟩) ln co), .val (.int .i64 (ln : Int)), .val (.int .i64 (lm : Int)), .val (.pointer (some ⟨b5, o5 + lm * 6, none⟩)), .val (.pointer (some ⟨b5, o5 + lm * 6 + 1, none⟩)), .val (.agg #[.int .i64 l.sty.a0, .int .i64 l.sty.a1, .int .i64 l.sty.a2, .int .i64 l.sty.a3, .int .i64 l.sty.a4]), .val (.agg #[.int .i64 s.a0, .int .i64 s.a1, .int .i64 s.a2, .int .i64 s.a3, .int .i64 s.a4]), .val (.bool false)] (fun wz => Below v3.heap.size v3 wz) (by kernel_rfl) (by kernel_rfl) (fun wz wz' hz hb => hz.trans (hb.mono hz.size)) ((Below.refl _ _).drew) (fun u => by simp only [puts, List.foldl_cons, List.foldl_nil]; go_simp; exact rfl) ?_ ?_
          · simp only [List.take_succ_cons, List.take_zero]
            refine Obs.cons (fun u w hS hd => ?_) ?_
            · exact Gv.run (.slice (some ⟨b5, o5, none⟩) ln co) rfl (by go_simp) rfl
            refine Obs.cons (fun u w hS hd => ?_) ?_
            · have d23 : u 23 = .slice (some ⟨b5, o5, none⟩) ln co := dep hd 0 rfl
              rw [d23]
              exact Gv.run (.int .i64 (ln : Int)) rfl (by go_simp) rfl
            refine Obs.cons (fun u w hS hd => ?_) ?_
            · have d24 : u 24 = .int .i64 (ln : Int) := dep hd 1 rfl
              rw [d24]
              exact Gv.run (.bool true) rfl (by go_simp; exact G5.out) rfl
            refine Obs.cons (fun u w hS hd => ?_) ?_
            · have d25 : u 25 = .bool true := dep hd 2 rfl
              rw [d25]
              exact Gv.run (.bool true) rfl (by go_simp) rfl
            refine Obs.cons (fun u w hS hd => ?_) ?_
            · have d26 : u 26 = .bool true := dep hd 3 rfl
              rw [d26]
              exact Gv.run (.slice (some ⟨b5, o5, none⟩) ln co) rfl (by go_simp) rfl
            refine Obs.cons (fun u w hS hd => ?_) ?_
            · have d26 : u 26 = .bool true := dep hd 3 rfl
              rw [d26]
              exact Gv.run (.slice (some ⟨b5, o5, none⟩) ln co) rfl (by go_simp) rfl
            refine Obs.cons (fun u w hS hd => ?_) ?_
            · have d28 : u 28 = .slice (some ⟨b5, o5, none⟩) ln co := dep hd 5 rfl
              have d26 : u 26 = .bool true := dep hd 3 rfl
              rw [d28, d26]
              exact Gv.run (.int .i64 (ln : Int)) rfl (by go_simp) rfl
            refine Obs.cons (fun u w hS hd => ?_) ?_
            · have d29 : u 29 = .int .i64 (ln : Int) := dep hd 6 rfl
              have d26 : u 26 = .bool true := dep hd 3 rfl
              rw [d29, d26]
              exact Gv.run (.int .i64 (lm : Int)) rfl (by go_simp) rfl
            refine Obs.cons (fun u w hS hd => ?_) ?_
            · have d27 : u 27 = .slice (some ⟨b5, o5, none⟩) ln co := dep hd 4 rfl
              have d30 : u 30 = .int .i64 (lm : Int) := dep hd 7 rfl
              have d26 : u 26 = .bool true := dep hd 3 rfl
              rw [d27, d30, d26]
              exact Gv.run (.pointer (some ⟨b5, o5 + lm * 6, none⟩)) rfl (by go_simp) rfl
            refine Obs.cons (fun u w hS hd => ?_) ?_
            · have d31 : u 31 = .pointer (some ⟨b5, o5 + lm * 6, none⟩) := dep hd 8 rfl
              have d26 : u 26 = .bool true := dep hd 3 rfl
              rw [d31, d26]
              exact Gv.run (.pointer (some ⟨b5, o5 + lm * 6 + 1, none⟩)) rfl (by go_simp) rfl
            refine Obs.cons (fun u w hS hd => ?_) ?_
            · have d32 : u 32 = .pointer (some ⟨b5, o5 + lm * 6 + 1, none⟩) := dep hd 9 rfl
              have d26 : u 26 = .bool true := dep hd 3 rfl
              rw [d32, d26]
              exact Gv.run (.agg #[.int .i64 l.sty.a0, .int .i64 l.sty.a1, .int .i64 l.sty.a2, .int .i64 l.sty.a3, .int .i64 l.sty.a4]) rfl (by obtain ⟨k0, ⟨k1, k2, k3, k4, k5⟩, l0, l1, l2, l3, l4, l5⟩ := HS.out w hS; go_simp) rfl
            refine Obs.cons (fun u w hS hd => ?_) ?_
            · have d26 : u 26 = .bool true := dep hd 3 rfl
              rw [d26]
              exact Gv.run (.agg #[.int .i64 s.a0, .int .i64 s.a1, .int .i64 s.a2, .int .i64 s.a3, .int .i64 s.a4]) rfl (by obtain ⟨k0, ⟨k1, k2, k3, k4, k5⟩, l0, l1, l2, l3, l4, l5⟩ := HS.out w hS; go_simp) rfl
            refine Obs.cons (fun u w hS hd => ?_) ?_
            · have d33 : u 33 = .agg #[.int .i64 l.sty.a0, .int .i64 l.sty.a1, .int .i64 l.sty.a2, .int .i64 l.sty.a3, .int .i64 l.sty.a4] := dep hd 10 rfl
              have d34 : u 34 = .agg #[.int .i64 s.a0, .int .i64 s.a1, .int .i64 s.a2, .int .i64 s.a3, .int .i64 s.a4] := dep hd 11 rfl
              have d26 : u 26 = .bool true := dep hd 3 rfl
              rw [d33, d34, d26]
              exact Gv.run (.bool false) rfl (by go_simp) rfl
            exact Obs.nil
          intro u v4 hS hd
          have d26 : u 26 = .bool true := hd 3 (by decide)
          have d35 : u 35 = .bool false := hd 12 (by decide)
          rw [d26, d35]
          simp only [List.drop_succ_cons, List.drop_zero]
          have HS4 := Lib.hid hS
          clear hS hd d26 d35
          go_wp2_with fail
          have HON := Lib.hid (HON.out.keep HS4.out)
          have HBQ := Lib.hid (HBQ.out.trans (HS4.out.mono HBQ.out.size))
          have HS := Lib.hid (fun wz (hz : Below v4.heap.size v4 wz) => HS.out wz (HS4.out.trans (hz.mono HS4.out.size)))
          clear HS4 hq
          go_upto_region 9 with fail
          refine wp_region_inv 10 [57, 58, 59, 60, 61, 62, 63, 64, 65, 66] [.val (.slice (some ⟨b5, o5, none⟩) ln co), .val (.slice (some ⟨b, o, none⟩) n c), .val (.int .i64 (k : Int)), .val (.pointer (some ⟨b, o + k * 4, none⟩)), .val (.pointer (some ⟨b, o + k * 4 + 2, none⟩)), .val (.int .i32 y.rune), .val (.string (Utf8.encode y.rune)), .val (.agg #[.int .i64 s.a0, .int .i64 s.a1, .int .i64 s.a2, .int .i64 s.a3, .int .i64 s.a4]), .val (.agg #[.string (Utf8.encode y.rune), .int .i64 s.a0, .int .i64 s.a1, .int .i64 s.a2, .int .i64 s.a3, .int .i64 s.a4]), (kRow runE 1 [(⟨Utf8.encode y.rune, s⟩ : Rn)])] (fun wz => Below v4.heap.size v4 wz) (by kernel_rfl) (by kernel_rfl) (fun wz wz' hz hb => hz.trans (hb.mono hz.size)) ((Below.refl _ _).drew) (fun u => by simp only [puts, List.foldl_cons, List.foldl_nil]; go_simp; exact rfl) ?_ ?_
          · simp only [List.take_succ_cons, List.take_zero]
            refine Obs.cons (fun u w hS hd => ?_) ?_
            · exact Gv.run (.slice (some ⟨b5, o5, none⟩) ln co) rfl (by go_simp) rfl
            refine Obs.cons (fun u w hS hd => ?_) ?_
            · exact Gv.run (.slice (some ⟨b, o, none⟩) n c) rfl (by go_simp) rfl
            refine Obs.cons (fun u w hS hd => ?_) ?_
            · exact Gv.run (.int .i64 (k : Int)) rfl (by go_simp) rfl
            refine Obs.cons (fun u w hS hd => ?_) ?_
            · have d58 : u 58 = .slice (some ⟨b, o, none⟩) n c := dep hd 1 rfl
              have d59 : u 59 = .int .i64 (k : Int) := dep hd 2 rfl
              rw [d58, d59]
              exact Gv.run (.pointer (some ⟨b, o + k * 4, none⟩)) rfl (by go_simp) rfl
            refine Obs.cons (fun u w hS hd => ?_) ?_
            · have d60 : u 60 = .pointer (some ⟨b, o + k * 4, none⟩) := dep hd 3 rfl
              rw [d60]
              exact Gv.run (.pointer (some ⟨b, o + k * 4 + 2, none⟩)) rfl (by go_simp) rfl
            refine Obs.cons (fun u w hS hd => ?_) ?_
            · have d61 : u 61 = .pointer (some ⟨b, o + k * 4 + 2, none⟩) := dep hd 4 rfl
              rw [d61]
              exact Gv.run (.int .i32 y.rune) rfl (by obtain ⟨k0, ⟨k1, k2, k3, k4, k5⟩, l0, l1, l2, l3, l4, l5⟩ := HS.out w hS; go_simp) rfl
            refine Obs.cons (fun u w hS hd => ?_) ?_
            · have d62 : u 62 = .int .i32 y.rune := dep hd 5 rfl
              rw [d62]
              exact Gv.run (.string (Utf8.encode y.rune)) rfl (by go_simp) rfl
            refine Obs.cons (fun u w hS hd => ?_) ?_
            · exact Gv.run (.agg #[.int .i64 s.a0, .int .i64 s.a1, .int .i64 s.a2, .int .i64 s.a3, .int .i64 s.a4]) rfl (by obtain ⟨k0, ⟨k1, k2, k3, k4, k5⟩, l0, l1, l2, l3, l4, l5⟩ := HS.out w hS; go_simp) rfl
            refine Obs.cons (fun u w hS hd => ?_) ?_
            · have d63 : u 63 = .string (Utf8.encode y.rune) := dep hd 6 rfl
              have d64 : u 64 = .agg #[.int .i64 s.a0, .int .i64 s.a1, .int .i64 s.a2, .int .i64 s.a3, .int .i64 s.a4] := dep hd 7 rfl
              rw [d63, d64]
              exact Gv.run (.agg #[.string (Utf8.encode y.rune), .int .i64 s.a0, .int .i64 s.a1, .int .i64 s.a2, .int .i64 s.a3, .int .i64 s.a4]) rfl (by go_simp) rfl
            refine Obs.cons (fun u w hS hd => ?_) ?_
            · have d65 : u 65 = .agg #[.string (Utf8.encode y.rune), .int .i64 s.a0, .int .i64 s.a1, .int .i64 s.a2, .int .i64 s.a3, .int .i64 s.a4] := dep hd 8 rfl
              rw [d65]
              refine Gv.make (.slice (some ⟨w.heap.size, 0, none⟩) 1 1) (w.alloc (.cells #[.string (Utf8.encode y.rune), .int .i64 s.a0, .int .i64 s.a1, .int .i64 s.a2, .int .i64 s.a3, .int .i64 s.a4] 66)) rfl (by go_simp) ⟨_, _, rfl, ?_⟩ ((Below.refl _ w).alloc (Nat.le_refl _) _)
              exact (OwnR.lit (E := runE) (w := w) 66 (Nat.le_refl _) #[.string (Utf8.encode y.rune), .int .i64 s.a0, .int .i64 s.a1, .int .i64 s.a2, .int .i64 s.a3, .int .i64 s.a4] [(⟨Utf8.encode y.rune, s⟩ : Rn)] (by simp [maxLen]) rfl).rd
            exact Obs.nil
          intro u v8 hS hd
          have d57 : u 57 = .slice (some ⟨b5, o5, none⟩) ln co := hd 0 (by decide)
          obtain ⟨A9, c9, d66, r9⟩ : (kRow runE 1 [(⟨Utf8.encode y.rune, s⟩ : Rn)]).ok (u 66) v8 := hd 9 (by decide)
          rw [d57, d66]
          simp only [List.drop_succ_cons, List.drop_zero]
          have on := HON.out.keep hS
          have HR9 := Lib.hid r9
          have HO9 := Lib.hid on
          have HB9 := Lib.hid (HBQ.out.trans (hS.mono HBQ.out.size))
          clear hS hd d57 d66 r9 on HON HBQ
          go_wp2_with (at_builtin; refine wpList_appR v8 rfl (.tmp 57) (.tmp 66) _ rfl w.heap.size 66 i0 _ Try.underlying59 HI.out.1 HI.out.2.1 HI.out.2.2.1 HI.out.2.2.2 rfl HLN.out.1 rfl HO9.out (M := [(⟨Utf8.encode y.rune, s⟩ : Rn)]) rfl rfl HR9.out HLN.out.2.1 HLN.out.2.2 HB9.out.size ?_; intro A8 c8 w8 o8 hb8 hg8)
          go_roundw
          case rel => exact ⟨k + 1, HK.out, by go_num, ⟨A8, c8, by rw [HX.out, List.length_append, HLN.out.1]; rfl, by rw [HX.out]; exact o8⟩, HB9.out.trans hb8⟩
          case measure => simp [intF]; have := HK.out; omega
end Go.Proofs.Ytpjeggbkhbghaaa
