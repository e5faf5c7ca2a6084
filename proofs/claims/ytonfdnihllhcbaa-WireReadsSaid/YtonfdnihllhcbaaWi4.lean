/-
  The document's reader: Read, fail, Number (layer 13). By an AI agent.
-/
import Derived.Test.YtonfdnihllhcbaaWi3
import Derived.Test.YtonfdnihllhcbaaAv
namespace Go.Proofs.Ytonfdnihllhcbaa
open Go Go.RowKit
set_option maxRecDepth 20000
/-- A reader's value, its box. -/
abbrev atV (A : Option Addr) (n c : Nat) (e : Int) : Value := .agg #[.slice A n c, .int .i64 e]
abbrev atC (A : Option Addr) (n c : Nat) (e : Int) : Array Value := #[.slice A n c, .int .i64 e]
def atF (A : Option Addr) (n c : Nat) (e : Int) (k : Nat) : Value := if k = 0 then .slice A n c else .int .i64 e
def OAt (w : World) (B g : Nat) (A : Option Addr) (n c : Nat) (e : Int) : Prop := OwnF w B 34 (some ⟨g, 0, none⟩) 2 2 (atF A n c e)
section
variable {w w' : World} {B g n c : Nat} {A : Option Addr} {e : Int}
theorem OAt.newz (hB : B ≤ w.heap.size) (A : Option Addr) (n c : Nat) (e : Int) : OAt (w.alloc (.cells (atC A n c e) 34)) B w.heap.size A n c e := OwnF.lit _ hB _ 2 (atF A n c e) (by decide) rfl
theorem OAt.keep (h : OAt w B g A n c e) (hb : Below w.heap.size w w') : OAt w' B g A n c e := OwnF.keep h hb
theorem OAt.mono {B' : Nat} (h : OAt w B g A n c e) (hb : B' ≤ B) : OAt w B' g A n c e := OwnF.mono h hb
theorem OAt.c0 (h : OAt w B g A n c e) : w.cell? ⟨g, 0, none⟩ = some (.slice A n c) := OwnF.cell h (k := 0) (by decide)
theorem OAt.c1 (h : OAt w B g A n c e) : w.cell? ⟨g, 1, none⟩ = some (.int .i64 e) := OwnF.cell h (k := 1) (by decide)
theorem OAt.f0 (h : OAt w B g A n c e) : w.frozen? ⟨g, 0, none⟩ = false := OwnF.free h 0
theorem OAt.f1 (h : OAt w B g A n c e) : w.frozen? ⟨g, 1, none⟩ = false := OwnF.free h 1
theorem OAt.lt (h : OAt w B g A n c e) : g < w.heap.size := OwnF.lt h
theorem OAt.ge (h : OAt w B g A n c e) : B ≤ g := OwnF.ge h
/-- Another value is laid there. -/
def setAt (w : World) (g : Nat) (A : Option Addr) (n c : Nat) (e : Int) : World := (w.setCell ⟨g, 0, none⟩ (.slice A n c)).setCell ⟨g, 1, none⟩ (.int .i64 e)
theorem setAt_only (w : World) (g : Nat) (A : Option Addr) (n c : Nat) (e : Int) : Only g w (setAt w g A n c e) := (Only.setCell w ⟨g, 0, none⟩ _).trans (Only.setCell _ ⟨g, 1, none⟩ _)
theorem OAt.set_ (h : OAt w B g A n c e) (A2 : Option Addr) (n2 c2 : Nat) (e2 : Int) : OAt (setAt w g A2 n2 c2 e2) B g A2 n2 c2 e2 := by
  refine OwnF.congr ((OwnF.set_ h 0 (.slice A2 n2 c2)).set_ 1 (.int .i64 e2)) fun k hk => ?_
  have : k = 0 ∨ k = 1 := by omega
  rcases this with rfl | rfl <;> rfl
theorem OAt.below (h : OAt w B g A n c e) (A2 : Option Addr) (n2 c2 : Nat) (e2 : Int) : Below B w (setAt w g A2 n2 c2 e2) := (setAt_only w g A2 n2 c2 e2).below h.ge
end
theorem at_results {fn : Func} {p : Tmp} (h : fn.results = #[.cell p 34]) (tmps : Array Value) {w : World} {B g n c : Nat} {A : Option Addr} {e : Int} (o : OAt w B g A n c e) (hp : tmps.getD p undef = .pointer (some ⟨g, 0, none⟩)) :
    (results fn tmps).run Try.prog w = .ok (atV A n c e) w := by
  have hp' : tmps[p]?.getD undef = .pointer (some ⟨g, 0, none⟩) := by simpa using hp
  have c0 := o.c0
  have c1 := o.c1
  simp only [results, h]
  simp [Result.andThen, hp', asAddr, go_sem, c0, c1]
theorem at_results2 {fn : Func} {p q : Tmp} (h : fn.results = #[.cell p 34, .tmp q]) (tmps : Array Value) {w : World} {B g n c : Nat} {A : Option Addr} {e : Int} (o : OAt w B g A n c e) (hp : tmps.getD p undef = .pointer (some ⟨g, 0, none⟩)) {v : Value} (hv : tmps.getD q undef = v) :
    (results fn tmps).run Try.prog w = .ok (.tuple #[atV A n c e, v]) w := by
  subst hv
  have hp' : tmps[p]?.getD undef = .pointer (some ⟨g, 0, none⟩) := by simpa using hp
  have c0 := o.c0
  have c1 := o.c1
  simp only [results, h]
  simp [Result.andThen, hp', asAddr, go_sem, c0, c1]
theorem rread_any (A : Option Addr) (n c : Nat) (w : World) :
    Calls Try.prog 18 #[.slice A n c] w fun e w' => e = .returned (atV A n c 0) ∧ Below w.heap.size w w' := by
  have oz := OAt.newz (w := w) (B := w.heap.size) (Nat.le_refl _) A n c 0
  have h1 : Below w.heap.size w (w.alloc (.cells (atC A n c 0) 34)) := (Below.refl _ _).alloc (Nat.le_refl _) _
  have HO := Lib.hid (And.intro oz h1)
  clear oz h1
  go_enter Try.func18, Try.ntmps18
  go_wp2_with fail
  exact bodyPost_ret (at_results Try.results18 _ HO.out.1 rfl) rfl ⟨rfl, HO.out.2⟩
theorem at_two (w : World) (A A2 : Option Addr) (n c n2 c2 : Nat) (e e2 : Int) : OAt ((w.alloc (.cells (atC A n c e) 34)).alloc (.cells (atC A2 n2 c2 e2) 34)) w.heap.size (w.heap.size + 1) A2 n2 c2 e2 ∧
    Below w.heap.size w ((w.alloc (.cells (atC A n c e) 34)).alloc (.cells (atC A2 n2 c2 e2) 34)) := by
  have h1 : Below w.heap.size w (w.alloc (.cells (atC A n c e) 34)) := (Below.refl _ _).alloc (Nat.le_refl _) _
  have s1 : (w.alloc (.cells (atC A n c e) 34)).heap.size = w.heap.size + 1 := by simp
  have oz := OAt.newz (w := w.alloc (.cells (atC A n c e) 34)) (B := w.heap.size) (by omega) A2 n2 c2 e2
  rw [s1] at oz
  exact ⟨oz, h1.alloc (by omega) _⟩
theorem rfail_any (A : Option Addr) (n c : Nat) (e e2 : Int) (w : World) :
    Calls Try.prog 40 #[atV A n c e, .int .i64 e2] w fun x w' => x = .returned (atV A n c e2) ∧ Below w.heap.size w w' := by
  have HO := Lib.hid (at_two w A A n c n c e e2)
  go_enter Try.func40, Try.ntmps40
  go_wp2_with fail
  exact bodyPost_ret (at_results Try.results40 _ HO.out.1 rfl) rfl ⟨rfl, HO.out.2⟩
/-- What a reader tells that is asked for a number: what is left, the error, the number. -/
def numR (bs : List UInt8) (e least most : Int) : List UInt8 × Int × Nat :=
  if e ≠ 0 then (bs, e, 0) else if (fstL bs).2.2 ≠ 0 then (bs, ((fstL bs).2.2 : Int), 0) else if ((fstL bs).1 : Int) < least ∨ most < ((fstL bs).1 : Int) then (bs, 6, 0) else (bs.drop (fstL bs).2.1, 0, (fstL bs).1)
theorem fstF_ok : ∀ (f k n : Nat) (b : List UInt8), (fstF f k n b).2.2 = 0 → k < (fstF f k n b).2.1 ∧ (fstF f k n b).2.1 ≤ k + b.length ∧ (fstF f k n b).2.1 ≤ k + f ∧ (fstF f k n b).1 ≤ Far
  | 0, k, n, b, h => by simp [fstF] at h
  | f + 1, k, n, [], h => by simp [fstF] at h
  | f + 1, k, n, x :: r, h => by
    unfold fstF at h ⊢
    by_cases h1 : 128 ≤ x.toNat
    · rw [if_pos h1] at h ⊢
      have := fstF_ok f (k + 1) _ r h
      rw [List.length_cons]
      omega
    · rw [if_neg h1] at h ⊢
      by_cases h2 : 0 < k ∧ x.toNat = 0
      · rw [if_pos h2] at h
        simp at h
      · rw [if_neg h2] at h ⊢
        by_cases h3 : Far < n + x.toNat % 128 * 128 ^ k
        · rw [if_pos h3] at h
          simp at h
        · rw [if_neg h3]
          rw [List.length_cons]
          simp only
          omega
theorem fstL_ok {b : List UInt8} (h : (fstL b).2.2 = 0) : 0 < (fstL b).2.1 ∧ (fstL b).2.1 ≤ b.length ∧ (fstL b).2.1 ≤ 6 ∧ (fstL b).1 ≤ Far := by
  have := fstF_ok 6 0 0 b h
  unfold fstL
  omega
theorem fstL_err (b : List UInt8) : (fstL b).2.2 ≠ 0 → (fstL b).1 = 0 ∧ (fstL b).2.2 < 10 := by
  have : ∀ (f k n : Nat) (b : List UInt8), (fstF f k n b).2.2 ≠ 0 → (fstF f k n b).1 = 0 ∧ (fstF f k n b).2.2 < 10 := by
    intro f
    induction f with
    | zero => intro k n b _; simp [fstF]
    | succ f ih =>
      intro k n b h
      cases b with
      | nil => simp [fstF]
      | cons x r =>
        unfold fstF at h ⊢
        split
        · rename_i h1
          rw [if_pos h1] at h
          exact ih _ _ _ h
        · rename_i h1
          rw [if_neg h1] at h
          split
          · simp
          · rename_i h2
            rw [if_neg h2] at h
            split
            · simp
            · rename_i h3
              rw [if_neg h3] at h
              exact absurd rfl h
  exact this 6 0 0 b
theorem rfirst_len {A : Option Addr} {B c n : Nat} {b : List UInt8} (hn : b.length = n) (w : World) (hr : Rd w B A c b) :
    Calls Try.prog 39 #[.slice A n c] w fun e w' => e = .returned (.tuple #[.int .i64 ((fstL b).1 : Int), .int .i64 ((fstL b).2.1 : Int), .int .i64 ((fstL b).2.2 : Int)]) ∧ Below w.heap.size w w' := by
  subst hn
  exact (rfirst_any w hr).mono fun _ _ ⟨he, d, hd⟩ => ⟨he, by rw [hd]; exact below_drewN _ _⟩
/-- Both boxes of a reader's method. -/
theorem at_both (w : World) (A A2 : Option Addr) (n c n2 c2 : Nat) (e e2 : Int) : ∃ v g gz, v = (w.alloc (.cells (atC A n c e) 34)).alloc (.cells (atC A2 n2 c2 e2) 34) ∧ g = w.heap.size ∧ gz = w.heap.size + 1 ∧ OAt v w.heap.size g A n c e ∧ OAt v w.heap.size gz A2 n2 c2 e2 ∧ g < gz ∧ Below w.heap.size w v := by
  have h2 := at_two w A A2 n c n2 c2 e e2
  have o1 := OAt.newz (w := w) (B := w.heap.size) (Nat.le_refl _) A n c e
  exact ⟨_, _, _, rfl, rfl, rfl, o1.keep ((Below.refl _ _).alloc (Nat.le_refl _) _), h2.1, Nat.lt_succ_self _, h2.2⟩
set_option maxHeartbeats 1600000 in
theorem rnumA_any {A : Option Addr} {B c : Nat} {bs : List UInt8} (e least most : Int) (w : World) (hr : Rd w B A c bs) (hB : B ≤ w.heap.size) :
    Calls Try.prog 32 #[atV A bs.length c e, .int .i64 least, .int .i64 most] w fun x w' => ∃ A' c', x = .returned (.tuple #[atV A' (numR bs e least most).1.length c' (numR bs e least most).2.1, .int .i64 ((numR bs e least most).2.2 : Int)]) ∧ Rd w' B A' c' (numR bs e least most).1 ∧ Below w.heap.size w w' := by
  by_cases he : e = 0
  case neg =>
    have hx : numR bs e least most = (bs, e, 0) := by unfold numR; rw [if_pos he]
    rw [hx]
    have g1 : (e != 0) = true := by simp [he]
    have HO := Lib.hid (at_two w A A bs.length c bs.length c e e)
    have HR := Lib.hid (hr.keep ((at_two w A A bs.length c bs.length c e e).2.mono hB))
    clear he hr hx
    go_enter Try.func32, Try.ntmps32
    go_wp2_with fail
    exact bodyPost_ret (at_results2 Try.results32 _ HO.out.1 rfl rfl) rfl ⟨A, c, rfl, HR.out, HO.out.2⟩
  subst he
  obtain ⟨n, en⟩ : ∃ n, n = bs.length := ⟨_, rfl⟩
  obtain ⟨v1, g, gz, e1, eg, ez, o1, oz, hgz, hc⟩ := at_both w A none n c 0 0 0 0
  have hr1 := hr.keep (hc.mono hB)
  have hcap := hr.cap
  have KF := Lib.hid (rfirst_len en.symm v1 hr1)
  have hok := fstL_ok (b := bs)
  have her := fstL_err bs
  rw [← en] at hok hcap ⊢
  have hnr : numR bs 0 least most = if (fstL bs).2.2 ≠ 0 then (bs, ((fstL bs).2.2 : Int), 0) else if ((fstL bs).1 : Int) < least ∨ most < ((fstL bs).1 : Int) then (bs, 6, 0) else (bs.drop (fstL bs).2.1, 0, (fstL bs).1) := by unfold numR; rw [if_neg (by simp)]
  obtain ⟨N, hN⟩ : ∃ N, N = numR bs 0 least most := ⟨_, rfl⟩
  rw [← hN]
  rw [hnr] at hN
  obtain ⟨F, hF⟩ : ∃ F, F = fstL bs := ⟨_, rfl⟩
  rw [← hF] at KF hok her hN
  obtain ⟨x, k, er⟩ := F
  simp only at KF hok her hN
  have HB := Lib.hid hB
  have HE := Lib.hid en
  clear hnr hr hB hF en
  go_enter Try.func32, Try.ntmps32
  go_wp2_with fail
  rw [← e1, ← ez, ← eg]
  clear e1 ez eg
  go_at_call 39
  refine KF.out.mono ?_
  rintro z v2 ⟨rfl, h0⟩
  replace o1 := o1.keep h0
  replace oz := oz.keep h0
  have hs1 := hc.size
  replace hr1 := hr1.keep (h0.mono (Nat.le_trans HB.out hs1))
  replace hc := hc.trans (h0.mono hc.size)
  clear KF h0
  have k0 := o1.c0
  have k1 := o1.c1
  have z0 := oz.c0
  have z1 := oz.c1
  have f0 := oz.f0
  have f1 := oz.f1
  by_cases h1 : er = 0
  case neg =>
    have hN1 : N = (bs, (er : Int), 0) := by rw [hN, if_pos h1]
    have g1 : ((er : Int) != 0) = true := by simp; omega
    have HF := Lib.hid (rfail_any A n c 0 (er : Int) v2)
    have HN := Lib.hid hN1
    clear h1 hN hN1 hok her
    go_wp2_with fail
    go_at_call 40
    refine HF.out.mono ?_
    rintro z v3 ⟨rfl, h0⟩
    clear k0 k1 z0 z1 f0 f1 HF
    replace oz := oz.keep h0
    replace hr1 := hr1.keep (h0.mono (Nat.le_trans HB.out hc.size))
    replace hc := hc.trans (h0.mono hc.size)
    clear h0 o1
    have z0 := oz.c0
    have z1 := oz.c1
    have f0 := oz.f0
    have f1 := oz.f1
    have o2 := oz.set_ A n c (er : Int)
    have hb2 := oz.below A n c (er : Int)
    have HO := Lib.hid (And.intro o2 (And.intro (hc.trans hb2) (hr1.keep (hb2.mono HB.out))))
    clear oz hr1 hc o2 hb2
    go_wp2_with fail
    refine bodyPost_ret (at_results2 Try.results32 _ HO.out.1 rfl rfl) rfl ?_
    rw [HN.out]
    exact ⟨A, c, by rw [HE.out]; rfl, HO.out.2.2, HO.out.2.1⟩
  subst h1
  rw [if_neg (by simp)] at hN
  by_cases h2 : (x : Int) < least ∨ most < (x : Int)
  case pos =>
    have hN1 : N = (bs, 6, 0) := by rw [hN, if_pos h2]
    have hor : (x : Int) < least ∨ (¬ (x : Int) < least ∧ most < (x : Int)) := by omega
    have HF := Lib.hid (rfail_any A n c 0 6 v2)
    have HN := Lib.hid hN1
    have HR1 := Lib.hid hr1
    have HC := Lib.hid hc
    have HZ := Lib.hid oz
    clear h2 hN hN1 hok her hr1 hc oz o1
    rcases hor with q1 | ⟨q1, q2⟩
    all_goals
      go_wp2_with fail
      go_at_call 40
      refine HF.out.mono ?_
      rintro z v3 ⟨rfl, h0⟩
      clear k0 k1 z0 z1 f0 f1 HF
      have oz := HZ.out.keep h0
      have hr1 := HR1.out.keep (h0.mono (Nat.le_trans HB.out HC.out.size))
      have hc := HC.out.trans (h0.mono HC.out.size)
      clear h0 HZ HR1 HC
      have z0 := oz.c0
      have z1 := oz.c1
      have f0 := oz.f0
      have f1 := oz.f1
      have o2 := oz.set_ A n c 6
      have hb2 := oz.below A n c 6
      have HO := Lib.hid (And.intro o2 (And.intro (hc.trans hb2) (hr1.keep (hb2.mono HB.out))))
      clear oz hr1 hc o2 hb2
      go_wp2_with fail
      refine bodyPost_ret (at_results2 Try.results32 _ HO.out.1 rfl rfl) rfl ?_
      rw [HN.out]
      exact ⟨A, c, by rw [HE.out]; rfl, HO.out.2.2, HO.out.2.1⟩
  case neg =>
    have hN1 : N = (bs.drop k, 0, x) := by rw [hN, if_neg h2]
    obtain ⟨hk0, hkn, hk6, hxf⟩ := hok rfl
    have q1 : ¬ (x : Int) < least := by omega
    have q2 : ¬ most < (x : Int) := by omega
    have hd := hr1.drop_ (l := k) (by rw [← HE.out]; exact hkn)
    have hdl : (bs.drop k).length = n - k := by rw [List.length_drop, HE.out]
    have HN := Lib.hid hN1
    have HK := Lib.hid hkn
    have HDL := Lib.hid hdl
    obtain ⟨A2, c2, eA, hd2⟩ : ∃ A2 c2, ((c = k ∧ A2 = A ∧ c2 = 0) ∨ (¬ c = k ∧ A2 = A.map (·.add k) ∧ c2 = c - k)) ∧ Rd v2 B A2 c2 (bs.drop k) := by
      refine ⟨subA A c k, c - k, ?_, hd⟩
      unfold subA
      by_cases h : c = k
      · exact .inl ⟨h, if_pos h, by omega⟩
      · exact .inr ⟨h, if_neg h, rfl⟩
    have o2 := oz.set_ A2 (n - k) c2 0
    have hb2 := oz.below A2 (n - k) c2 0
    have HO := Lib.hid (And.intro o2 (And.intro (hc.trans hb2) (hd2.keep (hb2.mono HB.out))))
    clear h2 hN hN1 her hd hd2 hdl hk0 hk6 hxf hr1 hc oz o1 o2 hb2 hcap hok
    have hkn' : k ≤ n := HK.out
    rcases eA with ⟨hck, rfl, rfl⟩ | ⟨hck, rfl, rfl⟩
    all_goals
      go_wp2_with fail
      refine bodyPost_ret (at_results2 Try.results32 _ HO.out.1 rfl rfl) rfl ?_
      rw [HN.out]
      exact ⟨_, _, by rw [show ((bs.drop k, 0, x) : List UInt8 × Int × Nat).1.length = n - k from HDL.out]; rfl, HO.out.2.2, HO.out.2.1⟩
end Go.Proofs.Ytonfdnihllhcbaa
