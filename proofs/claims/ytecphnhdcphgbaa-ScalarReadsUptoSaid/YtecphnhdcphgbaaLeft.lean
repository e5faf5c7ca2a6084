import Derived.Test.YtecphnhdcphgbaaTimes2
namespace Go.Proofs.Ytecphnhdcphgbaa
open Go Go.RowKit
/-- What n digits are worth. -/
def vsum : Nat → (Nat → Nat) → Nat
  | 0, _ => 0
  | n + 1, f => vsum n f + f n * 256 ^ n
theorem vsum_dig (x : Nat) : ∀ n, vsum n (by8 x) = x % 256 ^ n
  | 0 => by simp [vsum, Nat.mod_one]
  | n + 1 => by rw [vsum, vsum_dig x n, mod_pow_succ', Nat.mul_comm (256 ^ n)]; rfl
def celln (w : World) (ad : Addr) (k : Nat) : Nat := match w.cell? ⟨ad.block, ad.off + k, none⟩ with | some (.int _ z) => z.toNat | _ => 0
/-- What a slice of ints is worth, read as digits. -/
def meas (v : Value) (w : World) : Nat := match v with
  | .slice (some ad) n _ => vsum n (celln w ad)
  | _ => 0
theorem vsum_congr {f g : Nat → Nat} : ∀ n, (∀ k, k < n → f k = g k) → vsum n f = vsum n g
  | 0, _ => rfl
  | n + 1, h => by rw [vsum, vsum, vsum_congr n fun k hk => h k (by omega), h n (by omega)]
theorem meas_dig {w : World} {B c n x : Nat} {A : Option Addr} (h : Dig w B A c n x) : meas (.slice A n c) w = x := by
  rcases A with _ | ad
  · obtain ⟨rfl, _⟩ := h.rd.nil rfl
    have := h.lt
    simp at this
    subst this
    rfl
  · unfold meas
    simp only
    rw [vsum_congr n (g := by8 x), vsum_dig, Nat.mod_eq_of_lt h.lt]
    intro k hk
    obtain ⟨b, o, e, _, hc⟩ := h.rd.at_ hk
    obtain rfl := Option.some.inj e
    unfold celln
    rw [hc]
    simp [dg8]
theorem by8_cons0 {d z : Nat} (hd : d < 256) : by8 (d + 256 * z) 0 = d := by unfold by8 dgt; simp; omega
theorem by8_cons {d z : Nat} (hd : d < 256) (k : Nat) : by8 (d + 256 * z) (k + 1) = by8 z k := by
  unfold by8 dgt
  rw [Nat.pow_succ, Nat.mul_comm (256 ^ k), ← Nat.div_div_eq_div_mul, show (d + 256 * z) / 256 = z by omega]
theorem wpList_appF {P : Program} (w : World) {ops : Array Oper} {rest : List Oper} {o : Oper} {a : Act} {Q : Exit → Act → World → Prop} (hgd : o.guard = none) (s x : Operand) (t : TypeId)
    (ho : o.op = .call { callee := .builtin .append, args := #[s, x], argTypes := #[t, t] })
    (base : Nat) (e : TypeId) (i : TypeInfo) (z : Value) (ht : P.underlying t = some (.slice e)) (hi : P.info? e = some i) (hz : i.zero = some z)
    (hsize : i.size = 1) {by_ : Nat} (hby : i.bytes = by_) (hby0 : 0 < by_) (hzs : z.cells.size = 1) {As : Option Addr} {cs n : Nat} {f : Nat → Value} (hs : a.eval s = .slice As n cs) (hown : OwnF w base e As cs n f)
    {B c m : Nat} {A : Option Addr} {g : Nat → Value} (hx : a.eval x = .slice A m c) (hr : RdF w B A c m g) (hg : ∀ k, k < m → (g k).oneCell' = true) (hlen : n + m ≤ 140737488355328) (hbytes : (n + m) * by_ ≤ 140737488355328) (hbase : base ≤ w.heap.size)
    (h : ∀ A' c' w', OwnF w' base e A' c' (n + m) (fun k => if k < n then f k else g (k - n)) → Below base w w' → wpList P ops Q rest (a.put o.dst (.slice A' (n + m) c')) w') : wpList P ops Q (o :: rest) a w :=
  wpList_plain hgd fun _ hK => wp_appF w s x t ho base e i z ht hi hz hsize hby hby0 hzs hs hown hx hr hg hlen hbytes hbase fun A' c' w' h1 h2 => hK _ _ (h A' c' w' h1 h2)
def hd (x s : Nat) : Nat := x / 256 ^ s
theorem hd_step (x s : Nat) : hd x s = 256 * hd x (s + 1) + by8 x s := top_step x s
theorem hd_mod (x y s : Nat) : (by8 x s + 256 * (hd x (s + 1) % y)) % y = hd x s % y := by
  rw [hd_step x s, Nat.add_comm, Nat.add_mod, Nat.mul_mod, Nat.mod_mod, ← Nat.mul_mod, ← Nat.add_mod]
theorem DOwn.nothing (w : World) (B : Nat) : DOwn w B none 0 0 0 := ⟨OwnF.nothing _ _ _ _, by decide, fun k _ => Nat.zero_le k⟩
theorem DOwn.next {w w' : World} {B c n x : Nat} {A : Option Addr} (h : DOwn w B A c n x) (hb : Below w.heap.size w w') : DOwn w' B A c n x := h.keep hb
set_option maxRecDepth 20000 in
set_option maxHeartbeats 800000 in
theorem left_any {A A' : Option Addr} {B c c' n n' x y : Nat} (w : World) (h : Dig w B A c n x) (h' : Dig w B A' c' n' y) (hB : B ≤ w.heap.size) (hn : n ≤ 1000) (hn' : n' ≤ 500) (hy : 0 < y) :
    Calls Try.prog 39 #[.slice A n c, .slice A' n' c'] w fun e w' => ∃ A c n, e = .returned (.slice A n c) ∧ DOwn w' w.heap.size A c n (x % y) ∧ Below w.heap.size w w' := by
  obtain ⟨i0, hi, hz0, hz1, hz2⟩ := info_parts infoInt
  have hl1 : IntKind.i64.wrap ((n : Int) - 1) = (n : Int) - 1 := by rw [IntKind.wrap_i64]; omega
  go_enter Try.func39, Try.ntmps39
  go_wp2_with fail
  go_loopw [5, 6] (fun v i wr => ∃ r : Nat, r ≤ n ∧ i = .int .i64 ((r : Int) - 1) ∧ (∃ A c m, v = .slice A m c ∧ DOwn wr w.heap.size A c m (hd x r % y)) ∧ Below w.heap.size w wr)
    (fun _ i _ => (intOf i + 1).toNat)
  case atStart => exact ⟨n, Nat.le_refl _, rfl, ⟨none, 0, 0, rfl, by rw [show hd x n = 0 from Nat.div_eq_of_lt h.lt, Nat.zero_mod]; exact DOwn.nothing _ _⟩, Below.refl _ _⟩
  case round =>
    obtain ⟨r, hr, rfl, ⟨Ao, co, mo, rfl, od⟩, hb⟩ := hrel
    by_cases h0 : r = 0
    · subst h0
      rw [show hd x 0 = x by simp [hd]] at od
      go_wp2_with fail
      go_ret
      exact ⟨Ao, co, mo, rfl, od, hb⟩
    · obtain ⟨s, rfl⟩ : ∃ s, r = s + 1 := ⟨r - 1, by omega⟩
      have gs : ((s + 1 : Nat) : Int) - 1 = (s : Int) := by omega
      rw [gs]
      have g0 : (0 : Int) ≤ (s : Int) := by omega
      have gn : (s : Int) < (n : Int) := by omega
      have gw : IntKind.i64.wrap ((s : Int) - 1) = (s : Int) - 1 := by rw [IntKind.wrap_i64]; omega
      have hdl := by8_lt x s
      have ha := h.keep (hb.mono hB)
      have ha' := h'.keep (hb.mono hB)
      obtain ⟨b1, o1, rfl, hb1, c1⟩ := ha.rd.at_ (k := s) (by omega)
      unfold dg8 at c1
      have hzy : hd x (s + 1) % y < y := Nat.mod_lt _ hy
      have hmo : mo ≤ n' := od.can n' (Nat.lt_trans hzy h'.lt)
      have hX := hd_mod x y s
      obtain ⟨z, hz⟩ : ∃ z, z = hd x (s + 1) % y := ⟨_, rfl⟩
      rw [← hz] at hX od hzy
      clear hz
      have hHX := Lib.hid hX
      clear hX
      have bl : Below wr.heap.size wr (wr.alloc (.cells #[.int .i64 (by8 x s : Int)] 3)) := (Below.refl _ wr).alloc (Nat.le_refl _) _
      have ol : OwnF (wr.alloc (.cells #[.int .i64 (by8 x s : Int)] 3)) w.heap.size 3 (some ⟨wr.heap.size, 0, none⟩) 1 1 (fun _ => .int .i64 (by8 x s : Int)) := OwnF.lit _ hb.size _ 1 _ (by decide) rfl
      have rl := od.own.rd.keep bl
      have hsz : w.heap.size ≤ (wr.alloc (.cells #[.int .i64 (by8 x s : Int)] 3)).heap.size := Nat.le_trans hb.size bl.size
      go_wp2_with (at_builtin; refine wpList_appF _ rfl (.tmp 18) (.tmp 19) _ rfl w.heap.size 3 i0 _ Try.underlying29 hi hz0 hz1 hz2 (by decide) rfl rfl ol rfl rl (fun _ _ => rfl) (by omega) (by omega) hsz ?_; intro A2 c2 w2 ho2 hb2)
      obtain ⟨X, hXe⟩ : ∃ X, X = by8 x s + 256 * z := ⟨_, rfl⟩
      have hXl : X < 256 ^ (1 + mo) := by
        have := od.lt
        rw [Nat.add_comm, Nat.pow_succ]
        omega
      have hXy : X < 256 ^ (n' + 1) := by
        have := h'.lt
        rw [Nat.pow_succ]
        omega
      have ho3 := ho2.congr (g := dg8 X) fun k hk => by
        unfold dg8
        rw [hXe]
        by_cases h1 : k < 1
        · obtain rfl : k = 0 := by omega
          rw [if_pos h1, by8_cons0 hdl]
        · obtain ⟨j, rfl⟩ : ∃ j, k = j + 1 := ⟨k - 1, by omega⟩
          rw [if_neg h1, by8_cons hdl, Nat.add_sub_cancel]
      have hHX2 : X % y = hd x s % y := by rw [hXe]; exact hHX.out
      have HX := Lib.hid hHX2
      clear hHX hHX2 hXe ho2 rl ol bl c1 od
      refine (trim_any (x := X) _ ⟨ho3.rd, hXl⟩ (by omega)).mono ?_
      rintro e w3 ⟨n2, hn2, rfl, hx2, hc2, rfl⟩
      have hb3 := (hb.alloc hb.size (.cells #[.int .i64 (by8 x s : Int)] 3)).trans hb2
      have dX := DOwn.trim ho3 (Nat.le_refl _) hn2 hx2 hc2
      clear ho3 hb2 hx2 hc2
      go_wp2_with fail
      clear hb ha ha'
      obtain ⟨w0, e0⟩ : ∃ w0 : World, w0 = wr := ⟨_, rfl⟩
      subst e0
      go_loopw [5] (fun v wr => ∃ A c m V, v = .slice A m c ∧ DOwn wr w.heap.size A c m V ∧ V ≤ X ∧ V % y = X % y ∧ Below w.heap.size w wr)
        (fun v w => meas v w)
      case atStart => exact ⟨_, _, _, X, rfl, dX, Nat.le_refl _, rfl, hb3⟩
      case round =>
        clear dX hb3
        obtain ⟨Av, cv, m, V, rfl, dV, hVX, hVm, hb⟩ := hrel
        have ha' := h'.keep (hb.mono hB)
        have hm : m ≤ n' + 1 := dV.can _ (Nat.lt_of_le_of_lt hVX hXy)
        have hmeas := meas_dig dV.dig
        by_cases hlt : V < y
        · have hd1 : decide (V < y) = true := decide_eq_true hlt
          have hV : V = hd x s % y := by rw [← HX.out, ← hVm, Nat.mod_eq_of_lt hlt]
          subst hV
          clear hlt hmeas
          have HV := Lib.hid hVm
          clear hVm
          go_wp2_with fail
          go_at_call 38
          refine (less_any _ (dV.dig.mono (Nat.le_refl _)) (ha'.mono (by have := hb.size; omega)) (by omega) (by omega)).mono ?_
          rintro e w4 ⟨rfl, rfl⟩
          go_wp2_with fail
          refine ⟨⟨s, by omega, by go_num, ⟨Av, cv, m, rfl, dV⟩, hb⟩, by simp [intOf]⟩
        · have hd1 : decide (V < y) = false := decide_eq_false hlt
          have hyV : y ≤ V := by omega
          have hVs : (V - y) % y = X % y := by rw [← hVm, Nat.mod_eq_sub_mod hyV]
          have HV := Lib.hid hVs
          have HM := Lib.hid hmeas
          clear hVs hmeas hVm
          go_wp2_with fail
          go_at_call 38
          refine (less_any _ (dV.dig.mono (Nat.le_refl _)) (ha'.mono (by have := hb.size; omega)) (by omega) (by omega)).mono ?_
          rintro e w4 ⟨rfl, rfl⟩
          go_wp2_with fail
          go_at_call 46
          refine (minus_any _ (dV.dig.mono (Nat.le_refl _)) (ha'.mono (by have := hb.size; omega)) (Nat.le_refl _) (by omega) hyV).mono ?_
          rintro e w5 ⟨A5, c5, m5, rfl, d5, hb5⟩
          go_wp2_with fail
          have hm5 := meas_dig d5.dig
          refine ⟨⟨A5, c5, m5, V - y, rfl, d5.mono hb.size, by omega, HV.out, hb.trans (hb5.mono hb.size)⟩, ?_⟩
          show meas (.slice A5 m5 c5) w5 < meas (.slice Av m cv) w4
          rw [hm5, HM.out]
          omega
end Go.Proofs.Ytecphnhdcphgbaa
