import Derived.Test.YtifcjfeepgfmfaaDoorR2
namespace Go.Proofs.YtifcjfeepgfmfaaDoor
open Go Go.RowKit
section
variable {P : Program}
theorem step_appF2 (w0 : World) {ops : Array Oper} {o : Oper} {a : Act} {K : Act → World → Prop} {Q : Exit → Act → World → Prop} {E : Prop} (hgd : o.guard = none) (s x : Operand) (t : TypeId)
    (ho : o.op = .call { callee := .builtin .append, args := #[s, x], argTypes := #[t, t] })
    (base : Nat) (e : TypeId) (i : TypeInfo) (z : Value) (ht : P.underlying t = some (.slice e)) (hi : P.info? e = some i) (hz : i.zero = some z)
    (hsize : i.size = 1) {by_ : Nat} (hby : i.bytes = by_) (hby0 : 0 < by_) (hzs : z.cells.size = 1) {As : Option Addr} {cs n : Nat} {f : Nat → Value} (hs : a.eval s = .slice As n cs) (hown : OwnF w0 base e As cs n f)
    {v0 v1 : Value} (hv0 : v0 = f n) (hv1 : v1 = f (n + 1)) (hx : a.eval x = .slice (some ⟨w0.heap.size, 0, none⟩) 2 2) (hone : ∀ k, (f k).oneCell' = true) (hlen : n + 2 ≤ 140737488355328) (hbytes : (n + 2) * by_ ≤ 140737488355328) (hbase : base ≤ w0.heap.size)
    (h : ∀ A' c' w', OwnF w' base e A' c' (n + 2) f → Below base w0 w' → K (a.put o.dst (.slice A' (n + 2) c')) w') :
    if Region.wanted o (yielded ops a.tmps) = true then Oper.wp P o a (w0.alloc (.cells #[v0, v1] e)) K Q else E := by
  have hw : Region.wanted o (yielded ops a.tmps) = true := by simp [Region.wanted, hgd]
  rw [if_pos hw]
  subst hv0 hv1
  have hb := (Below.refl w0.heap.size w0).alloc (Nat.le_refl _) (.cells #[f n, f (n + 1)] e)
  have hl := (OwnF.lit (w := w0) e (Nat.le_refl _) #[f n, f (n + 1)] 2 (fun k => f (n + k)) (by simp [maxLen]) rfl).rd
  refine wp_appF _ s x t ho base e i z ht hi hz hsize hby hby0 hzs hs (hown.keep hb) hx hl (fun _ _ => hone _) hlen hbytes (by simp; omega) ?_
  intro A' c' w' h1 h2
  refine h A' c' w' (h1.congr fun k hk => ?_) ((hb.mono hbase).trans h2)
  by_cases hk' : k < n
  · rw [if_pos hk']
  · rw [if_neg hk']
    congr 1
    omega
end
theorem by8_16 (x i : Nat) : by8 x (2 * i) = d16 x i % 256 ∧ by8 x (2 * i + 1) = d16 x i / 256 := by
  unfold by8 d16 dgt
  rw [p256', p256]
  refine ⟨?_, ?_⟩
  · generalize x / 65536 ^ i = y; omega
  · rw [← Nat.div_div_eq_div_mul]
    generalize x / 65536 ^ i = y; omega
attribute [local irreducible] wd by8 d16 set16w fl
set_option maxRecDepth 20000
set_option maxHeartbeats 1600000 in
theorem rbytes_any {x : Nat} (hx : x < W4) (w : World) :
    Calls Tryd.prog 45 #[fv x] w fun e w' => ∃ A c n, e = .returned (.slice A n c) ∧ DOwn w' w.heap.size A c n x ∧ Below w.heap.size w w' := by
  obtain ⟨i0, hi, hz0, hz1, hz2⟩ := info_parts infoInt
  have ox := O16.new (w := w) (Nat.le_refl _) x
  have hc := (Below.refl _ w).alloc (Nat.le_refl _) (A16 x)
  have hs : (w.alloc (A16 x)).heap.size = w.heap.size + 1 := by simp
  have HX := Lib.hid hx
  clear hx
  go_enter Tryd.func45, Tryd.ntmps45
  go_wp2_with fail
  go_loopw [3, 4] (fun v i wr => ∃ k : Nat, k ≤ 16 ∧ i = .int .i64 k ∧ (∃ A c, v = .slice A (2 * k) c ∧ OwnF wr (w.heap.size + 1) 3 A c (2 * k) (dg8 x)) ∧ Below (w.heap.size + 1) (w.alloc (A16 x)) wr)
    (fun _ i _ => 16 - (intOf i).toNat)
  case atStart => exact ⟨0, by omega, rfl, ⟨none, 0, rfl, OwnF.nothing _ _ _ _⟩, Below.refl _ _⟩
  case round =>
    obtain ⟨k, hk, rfl, ⟨Av, cv, rfl, ow⟩, hb⟩ := hrel
    by_cases hlt : k < 16
    · have g1 : (k : Int) < 16 := by omega
      have hb0 := hb
      rw [← hs] at hb0
      have c1 : wr.cell? ⟨w.heap.size, k, none⟩ = some (.int .i64 (d16 x k : Int)) := OwnF.cell (ox.keep hb0) hlt
      obtain ⟨e1, e2⟩ := by8_16 x k
      obtain ⟨f1, f1'⟩ := nmod e1.symm
      obtain ⟨f2, f2'⟩ := ndiv e2.symm
      have hl2 := d16_lt x k
      have fw2 : IntKind.i64.wrap ((by8 x (2 * k + 1) : Nat) : Int) = ((by8 x (2 * k + 1) : Nat) : Int) := by have := by8_lt x (2 * k + 1); rw [IntKind.wrap_i64]; omega
      have HV0 : Hid (Value.int .i64 (by8 x (2 * k) : Int) = dg8 x (2 * k)) := Lib.hid rfl
      have HV1 : Hid (Value.int .i64 (by8 x (2 * k + 1) : Int) = dg8 x (2 * k + 1)) := Lib.hid rfl
      have hbs := hb.size
      clear e1 e2 hb0 hl2
      go_wp2_with fail
      have hbase : w.heap.size + 1 ≤ wr.heap.size := by omega
      go_region_held3 (fun w' => w'.cell? ⟨w.heap.size, k, none⟩ = some (.int .i64 (d16 x k : Int)))
        (first | go_keep | exact (hb'.cell (p := ⟨w.heap.size, k, none⟩) (by simp)).trans c1)
        (first | (refine step_appF2 _ (by rfl) _ _ _ (by rfl) (w.heap.size + 1) 3 i0 _ Tryd.underlying37 hi hz0 hz1 hz2 (by decide) (by rfl) (by rfl) ow.drew HV0.out HV1.out (by rfl) (fun _ => rfl) (by omega) (by omega) hbase ?_; intro A2 c2 w' ho' hb'))
      all_goals
        go_wp2_with fail
        go_roundw
        case rel => exact ⟨k + 1, by omega, by go_num, ⟨A2, c2, by rw [show 2 * (k + 1) = 2 * k + 2 by omega], ho'⟩, hb.drew.trans hb'⟩
        case measure => simp [intOf]; omega
    · obtain rfl : k = 16 := by omega
      have hxl : x < 256 ^ (2 * 16) := by have := HX.out; rwa [W4_256] at this
      go_wp2_with fail
      go_at_call 58
      refine (trim_any (x := x) _ ⟨ow.rd, hxl⟩ (by omega)).mono ?_
      rintro e w1 ⟨n', hn', rfl, hx', hcn, rfl⟩
      go_wp2_with fail
      go_ret
      exact ⟨Av, cv, n', rfl, DOwn.trim ow (by omega) hn' hx' hcn, hc.trans (hb.mono (by omega))⟩
theorem rnum_any {x : Nat} (hx : x < W4) (w : World) :
    Calls Tryd.prog 17 #[fv x] w fun e w' => e = .returned (nv x) ∧ Below w.heap.size w w' := by
  have kb := fun w => rbytes_any hx w
  have KB := Lib.hid kb
  clear kb hx
  unfold nv
  go_enter Tryd.func17, Tryd.ntmps17
  have ox := O16.new (w := w) (Nat.le_refl _) x
  replace ox := ox.alloc Z4
  go_wp2_with ((with_reducible refine fl_load ox ?_ ?_); rfl)
  go_at_call 45
  refine (KB.out _).mono ?_
  rintro e v1 ⟨A, c, n, rfl, dx, h0⟩
  obtain ⟨oz, hc⟩ := zres2 h0
  clear h0 ox
  go_wp2_with fail
  go_at_call 43
  refine (of_any _ dx.dig (Nat.le_refl _)).mono ?_
  rintro e v2 ⟨rfl, h0⟩
  replace oz := oz.keep h0
  replace hc := hc.trans (h0.mono hc.size)
  clear h0 dx
  obtain ⟨z0, z1, z2, z3⟩ := oz.c4
  obtain ⟨f0, f1, f2, f3⟩ := oz.f4
  obtain ⟨wz, ez, or, hb, _⟩ := oz.out x
  obtain ⟨r0, r1, r2, r3⟩ := or.c4
  go_wp2_with fail
  rw [← ez]
  refine bodyPost_ret (v := nv x) (by simp [results, Tryd.results17, go_sem, r0, r1, r2, r3]) rfl ⟨rfl, hc.trans hb⟩
end Go.Proofs.YtifcjfeepgfmfaaDoor
