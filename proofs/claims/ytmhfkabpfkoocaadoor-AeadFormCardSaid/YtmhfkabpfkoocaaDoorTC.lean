/-
  The code's tag (layer 12). By an AI agent. The code's tagKey and Seal (layer 12). By an AI agent. The code's Open (layer 12); what is asked of both. By an AI agent.
-/
import Derived.Test.YtmhfkabpfkoocaaDoorAc1
import Derived.Test.YtmhfkabpfkoocaaDoorTE
import Derived.Test.YtmhfkabpfkoocaaDoorTP
import Derived.Test.YtmhfkabpfkoocaaDoorInv
import Derived.Test.YtmhfkabpfkoocaaDoorTE
import Derived.Test.YtmhfkabpfkoocaaDoorY14
import Derived.Test.YtmhfkabpfkoocaaDoorTS
import Derived.Test.YtmhfkabpfkoocaaDoorOe
import Derived.Test.YtmhfkabpfkoocaaDoorCp
namespace Go.Proofs.YtmhfkabpfkoocaaDoor
open Go Go.RowKit
set_option maxRecDepth 20000
theorem ctag_len {key bs : List UInt8} {n : Nat} (hn : bs.length = n) (hk : key.length = 32) {A0 A1 : Option Addr} {k0 c1 : Nat} (w : World) (hG : GlbP w) (r0 : Rd w w.heap.size A0 k0 key) (r1 : Rd w w.heap.size A1 c1 bs) :
    Calls Tryd.prog 30 #[.slice A0 32 k0, .slice A1 n c1] w fun e w' => ∃ A c, e = .returned (.tuple #[.slice A 16 c, .int .i64 0]) ∧ Own w' w.heap.size 5 A c (tagN key bs) ∧ Below w.heap.size w w' := by
  subst hn
  exact ctag_any hk w hG r0 r1
section
attribute [local irreducible] tagN gen pad16 macL
set_option maxHeartbeats 1600000 in
theorem ctag12 {once other C : List UInt8} (ho : once.length = 32) (hol : other.length ≤ 100000) (hcl : C.length ≤ 100000) {A0 A1 A2 : Option Addr} {k0 c1 c2 : Nat} (w0 : World) (hG : GlbP w0) (r0 : Rd w0 w0.heap.size A0 k0 once) (r1 : Rd w0 w0.heap.size A1 c1 other) (r2 : Rd w0 w0.heap.size A2 c2 C) :
    Calls Tryd.prog 18 #[.slice A0 32 k0, .slice A1 other.length c1, .slice A2 C.length c2] w0 fun e w' => ∃ A c, e = .returned (.slice A 16 c) ∧ Own w' w0.heap.size 5 A c (tagN once (macL other C)) ∧ Below w0.heap.size w0 w' := by
  obtain ⟨n, en⟩ : ∃ n, n = other.length := ⟨_, rfl⟩
  obtain ⟨m, em⟩ : ∃ m, m = C.length := ⟨_, rfl⟩
  have hM := macL_len other C
  have hMd : macL other C = (other ++ List.replicate (pad16 n) 0) ++ (C ++ List.replicate (pad16 m) 0) ++ gen (bf n) 8 ++ gen (bf m) 8 := by rw [en, em]; unfold macL fillL; rfl
  have p1 := pad16_lt n
  have p2 := pad16_lt m
  rw [← en, ← em] at hM
  rw [← en, ← em]
  obtain ⟨l, el⟩ : ∃ l, l = n + pad16 n + (m + pad16 m) + 8 + 8 := ⟨_, rfl⟩
  rw [← el] at hM
  have HM := Lib.hid hM
  have HD := Lib.hid hMd
  have HN := Lib.hid en.symm
  have HC := Lib.hid em.symm
  have HL := Lib.hid (show l ≤ 1048576 by omega)
  have HF1 := Lib.hid (fun (A : Option Addr) (c : Nat) (v : World) => cfiller (A := A) (c := c) (n := n) (by omega) v)
  have HF2 := Lib.hid (fun (A : Option Addr) (c : Nat) (v : World) => cfiller (A := A) (c := c) (n := m) (by omega) v)
  have HK1 := Lib.hid (fun (A : Option Addr) (c : Nat) (v : World) => clength (A := A) (c := c) (n := n) (by omega) v)
  have HK2 := Lib.hid (fun (A : Option Addr) (c : Nat) (v : World) => clength (A := A) (c := c) (n := m) (by omega) v)
  clear hM hMd p1 p2 en em el hol hcl
  go_enter Tryd.func18, Tryd.ntmps18
  go_wp2_with fail
  go_at_call 28
  refine (HF1.out A1 c1 w0).mono ?_
  rintro e u1 ⟨F1, f1, rfl, g1, hc⟩
  replace r0 := (r0.keep hc).mono hc.size
  replace r1 := (r1.keep hc).mono hc.size
  replace r2 := (r2.keep hc).mono hc.size
  replace hG := hG.next hc
  clear HF1
  go_wp2_with fail
  go_at_call 28
  refine (HF2.out A2 c2 u1).mono ?_
  rintro e u2 ⟨F2, f2, rfl, g2, hb⟩
  replace r0 := (r0.keep hb).mono hb.size
  replace r1 := (r1.keep hb).mono hb.size
  replace r2 := (r2.keep hb).mono hb.size
  replace g1 := (g1.keep hb).mono hb.size
  replace hG := hG.next hb
  replace hc := hc.trans (hb.mono hc.size)
  clear HF2 hb
  go_wp2_with fail
  go_at_call 29
  refine (HK1.out A1 c1 u2).mono ?_
  rintro e u3 ⟨F3, f3, rfl, q3, hb⟩
  have g3 := q3.rd
  replace r0 := (r0.keep hb).mono hb.size
  replace r1 := (r1.keep hb).mono hb.size
  replace r2 := (r2.keep hb).mono hb.size
  replace g1 := (g1.keep hb).mono hb.size
  replace g2 := (g2.keep hb).mono hb.size
  replace hG := hG.next hb
  replace hc := hc.trans (hb.mono hc.size)
  clear HK1 hb q3
  go_wp2_with fail
  go_at_call 29
  refine (HK2.out A2 c2 u3).mono ?_
  rintro e v1 ⟨F4, f4, rfl, q4, hb⟩
  have g4 := q4.rd
  replace r0 := (r0.keep hb).mono hb.size
  replace r1 := (r1.keep hb).mono hb.size
  replace r2 := (r2.keep hb).mono hb.size
  replace g1 := (g1.keep hb).mono hb.size
  replace g2 := (g2.keep hb).mono hb.size
  replace g3 := (g3.keep hb).mono hb.size
  replace hG := hG.next hb
  replace hc := hc.trans (hb.mono hc.size)
  clear HK2 hb q4
  have KJ := Lib.hid (fun v hv => join_six (l := l) HN.out (List.length_replicate) HC.out (List.length_replicate) (gen_length _ _) (gen_length _ _) r1 g1 r2 g2 g3 g4 v hv HD.out HM.out HL.out)
  clear g1 g2 g3 g4 r1 r2 HN HC HD HL
  go_wp2_with fail
  obtain ⟨v2, e2⟩ : ∃ v, v = v1.alloc (.cells #[.slice A1 n c1, .slice F1 (pad16 n) f1, .slice A2 m c2, .slice F2 (pad16 m) f2, .slice F3 8 f3, .slice F4 8 f4] 22) := ⟨_, rfl⟩
  have hb2 : Below v1.heap.size v1 v2 := by rw [e2]; exact (Below.refl _ _).alloc (Nat.le_refl _) _
  have KJ2 := Lib.hid (KJ.out v2 e2)
  rw [← e2]
  replace r0 := (r0.keep hb2).mono hb2.size
  replace hc := hc.trans (hb2.mono hc.size)
  replace hG := hG.next hb2
  clear KJ e2 hb2
  go_at_call 17
  refine KJ2.out.mono ?_
  rintro e v3 ⟨Am, cm, rfl, om, hb⟩
  replace r0 := (r0.keep hb).mono hb.size
  replace hG := hG.next hb
  replace hc := hc.trans (hb.mono hc.size)
  clear KJ2 hb
  go_wp2_with fail
  go_at_call 30
  refine (ctag_len HM.out ho v3 hG r0 om.rd).mono ?_
  rintro e v4 ⟨At, ct, rfl, ot, hb⟩
  have HO := Lib.hid (And.intro (ot.mono hc.size) (hc.trans (hb.mono hc.size)))
  clear ot hc hb om r0
  go_wp2_with fail
  go_ret
  exact ⟨At, ct, rfl, HO.out.1, HO.out.2⟩
end
end Go.Proofs.YtmhfkabpfkoocaaDoor
namespace Go.Proofs.YtmhfkabpfkoocaaDoor
open Go Go.RowKit
set_option maxRecDepth 20000
theorem ckey_bad {kl nl k0 k1 : Nat} (h : kl ≠ 32 ∨ nl ≠ 12) {A0 A1 : Option Addr} (w : World) :
    Calls Tryd.prog 15 #[.slice A0 kl k0, .slice A1 nl k1] w fun e w' => e = .returned (.tuple #[.slice none 0 0, .int .i64 1]) ∧ Below w.heap.size w w' := by
  have KB := Lib.hid (Block_bad (ctr := 0) (k0 := k0) (k1 := k1) h (A0 := A0) (A1 := A1) w)
  clear h
  go_enter Tryd.func15, Tryd.ntmps15
  go_wp2_with fail
  go_at_call 25
  refine KB.out.mono ?_
  rintro e v1 ⟨rfl, hc⟩
  clear KB
  go_wp2_with fail
  go_returns
  exact ⟨rfl, hc⟩
section
attribute [local irreducible] blkB
theorem ckey_any {key nonce : List UInt8} (hk : key.length = 32) (hn : nonce.length = 12) {A0 A1 : Option Addr} {B k0 k1 : Nat} (w : World) (r0 : Rd w B A0 k0 key) (r1 : Rd w B A1 k1 nonce) (hB : B ≤ w.heap.size) :
    Calls Tryd.prog 15 #[.slice A0 32 k0, .slice A1 12 k1] w fun e w' => ∃ A c, e = .returned (.tuple #[.slice A 32 c, .int .i64 0]) ∧ Rd w' w'.heap.size A c ((blkB key nonce 0).take 32) ∧ Below w.heap.size w w' := by
  have KB := Lib.hid (Block_any (ctr := 0) hk hn (by decide) w r0 r1 hB)
  have HBL := Lib.hid (blkB_len key nonce 0)
  clear hk hn r0 r1 hB
  go_enter Tryd.func15, Tryd.ntmps15
  go_wp2_with fail
  go_at_call 25
  refine KB.out.mono ?_
  rintro e v1 ⟨A, c, rfl, o, hc⟩
  obtain ⟨b2, o2, rfl, _, _⟩ := o.at_ (k := 0) (by rw [HBL.out]; decide)
  have g32 : 32 ≤ c := Nat.le_trans (by rw [HBL.out]; decide) o.cap
  have r9 := o.pre (n := 32) (by rw [HBL.out]; decide) (by decide)
  clear KB o
  go_wp2_with fail
  go_returns
  exact ⟨_, _, rfl, r9, hc⟩
end
theorem once_len (key nonce : List UInt8) : ((blkB key nonce 0).take 32).length = 32 := by rw [List.length_take, blkB_len]; rfl
theorem cxor_len {key nonce bs : List UInt8} {n : Nat} (hl : bs.length = n) (hk : key.length = 32) (hn : nonce.length = 12) (hm : n ≤ 100000) {A0 A1 A2 : Option Addr} {B k0 k1 c2 : Nat} (w : World) (r0 : Rd w B A0 k0 key) (r1 : Rd w B A1 k1 nonce) (r2 : Rd w B A2 c2 bs) (hB : B ≤ w.heap.size) :
    Calls Tryd.prog 16 #[.slice A0 32 k0, .slice A1 12 k1, .int .u32 1, .slice A2 n c2] w fun e w' => ∃ A c, e = .returned (.tuple #[.slice A n c, .int .i64 0]) ∧ Rd w' w'.heap.size A c (xrN key nonce 1 bs) ∧ Below w.heap.size w w' := by
  subst hl
  exact Xor_any (ctr := 1) hk hn (by decide) (nblk_small hm) (by omega) w r0 r1 r2 hB
theorem ctag12_len {once other C : List UInt8} {n m : Nat} (hn : other.length = n) (hm : C.length = m) (ho : once.length = 32) (hol : n ≤ 100000) (hcl : m ≤ 100000) {A0 A1 A2 : Option Addr} {k0 c1 c2 : Nat} (w0 : World) (hG : GlbP w0) (r0 : Rd w0 w0.heap.size A0 k0 once) (r1 : Rd w0 w0.heap.size A1 c1 other) (r2 : Rd w0 w0.heap.size A2 c2 C) :
    Calls Tryd.prog 18 #[.slice A0 32 k0, .slice A1 n c1, .slice A2 m c2] w0 fun e w' => ∃ A c, e = .returned (.slice A 16 c) ∧ Own w' w0.heap.size 5 A c (tagN once (macL other C)) ∧ Below w0.heap.size w0 w' := by
  subst hn hm
  exact ctag12 ho hol hcl w0 hG r0 r1 r2
theorem cseal_bad {kl nl k0 k1 n m c2 c3 : Nat} (h : kl ≠ 32 ∨ nl ≠ 12) {A0 A1 A2 A3 : Option Addr} (w : World) :
    Calls Tryd.prog 9 #[.slice A0 kl k0, .slice A1 nl k1, .slice A2 n c2, .slice A3 m c3] w fun e w' => e = .returned (.tuple #[.slice none 0 0, .int .i64 1]) ∧ Below w.heap.size w w' := by
  have KB := Lib.hid (ckey_bad (k0 := k0) (k1 := k1) h (A0 := A0) (A1 := A1) w)
  clear h
  go_enter Tryd.func9, Tryd.ntmps9
  go_wp2_with fail
  go_at_call 15
  refine KB.out.mono ?_
  rintro e v1 ⟨rfl, hc⟩
  clear KB
  go_wp2_with fail
  go_returns
  exact ⟨rfl, hc⟩
section
attribute [local irreducible] blkB xrN tagN macL
set_option maxHeartbeats 1600000 in
theorem cseal_any {key nonce other text : List UInt8} (hk : key.length = 32) (hn : nonce.length = 12) (hol : other.length ≤ 100000) (htl : text.length ≤ 100000) {A0 A1 A2 A3 : Option Addr} {k0 k1 c2 c3 : Nat} (w : World) (hG : GlbP w) (r0 : Rd w w.heap.size A0 k0 key) (r1 : Rd w w.heap.size A1 k1 nonce) (r2 : Rd w w.heap.size A2 c2 other) (r3 : Rd w w.heap.size A3 c3 text) :
    Calls Tryd.prog 9 #[.slice A0 32 k0, .slice A1 12 k1, .slice A2 other.length c2, .slice A3 text.length c3] w fun e w' => ∃ A c, e = .returned (.tuple #[.slice A (text.length + 16) c, .int .i64 0]) ∧ Rd w' w'.heap.size A c (boxL key nonce other text) ∧ Below w.heap.size w w' := by
  have hX : boxL key nonce other text = xrN key nonce 1 text ++ tagN ((blkB key nonce 0).take 32) (macL other (xrN key nonce 1 text)) := rfl
  rw [hX]
  have hCl := xrN_len key nonce 1 text
  obtain ⟨n, en⟩ : ∃ n, n = other.length := ⟨_, rfl⟩
  obtain ⟨m, em⟩ : ∃ m, m = text.length := ⟨_, rfl⟩
  rw [← en] at hol
  rw [← em] at htl hCl
  rw [← en, ← em]
  have HEN := Lib.hid en.symm
  have HEM := Lib.hid em.symm
  have HCL := Lib.hid hCl
  have HH := Lib.hid (And.intro hol htl)
  have HKN := Lib.hid (And.intro hk hn)
  have KK := Lib.hid (ckey_any hk hn w r0 r1 (Nat.le_refl _))
  clear hX hCl en em hol htl hk hn
  go_enter Tryd.func9, Tryd.ntmps9
  go_wp2_with fail
  go_at_call 15
  refine KK.out.mono ?_
  rintro e v1 ⟨Ao, co, rfl, ro, hc⟩
  replace r0 := (r0.keep hc).mono hc.size
  replace r1 := (r1.keep hc).mono hc.size
  replace r2 := (r2.keep hc).mono hc.size
  replace r3 := (r3.keep hc).mono hc.size
  replace hG := hG.next hc
  clear KK
  go_wp2_with fail
  go_at_call 16
  refine (cxor_len HEM.out HKN.out.1 HKN.out.2 HH.out.2 v1 r0 r1 r3 (Nat.le_refl _)).mono ?_
  rintro e v2 ⟨Ac, cc, rfl, rc, hb⟩
  replace ro := (ro.keep hb).mono hb.size
  replace r2 := (r2.keep hb).mono hb.size
  replace hG := hG.next hb
  replace hc := hc.trans (hb.mono hc.size)
  clear r0 r1 r3 hb
  go_wp2_with fail
  go_at_call 18
  refine (ctag12_len HEN.out HCL.out (once_len _ _) HH.out.1 HH.out.2 v2 hG ro r2 rc).mono ?_
  rintro e v3 ⟨At, ct, rfl, ot, hb⟩
  replace rc := (rc.keep hb).mono hb.size
  have rt := ot.rd
  replace hc := hc.trans (hb.mono hc.size)
  clear ro r2 hb ot hG
  have KJ := Lib.hid (fun v hv => join_two HCL.out (tagN_len _ _) (by have := HH.out.2; omega) v3 v hv rc rt)
  clear rc rt
  go_wp2_with fail
  obtain ⟨v4, e4⟩ : ∃ v, v = v3.alloc (.cells #[.slice Ac m cc, .slice At 16 ct] 22) := ⟨_, rfl⟩
  have hb4 : Below v3.heap.size v3 v4 := by rw [e4]; exact (Below.refl _ _).alloc (Nat.le_refl _) _
  have KJ2 := Lib.hid (KJ.out v4 e4)
  rw [← e4]
  replace hc := hc.trans (hb4.mono hc.size)
  clear KJ e4 hb4
  go_at_call 17
  refine KJ2.out.mono ?_
  rintro e v5 ⟨Ab, cb, rfl, ob, hb⟩
  have HO := Lib.hid (And.intro ob.rd (hc.trans (hb.mono hc.size)))
  clear KJ2 hb ob hc
  go_wp2_with fail
  go_returns
  exact ⟨Ab, cb, rfl, HO.out.1, HO.out.2⟩
end
end Go.Proofs.YtmhfkabpfkoocaaDoor
namespace Go.Proofs.YtmhfkabpfkoocaaDoor
open Go Go.RowKit
set_option maxRecDepth 20000
theorem copen_bad {kl nl k0 k1 n m c2 c3 : Nat} (h : kl ≠ 32 ∨ nl ≠ 12) {A0 A1 A2 A3 : Option Addr} (w : World) :
    Calls Tryd.prog 12 #[.slice A0 kl k0, .slice A1 nl k1, .slice A2 n c2, .slice A3 m c3] w fun e w' => e = .returned (.tuple #[.slice none 0 0, .int .i64 1]) ∧ Below w.heap.size w w' := by
  have KB := Lib.hid (ckey_bad (k0 := k0) (k1 := k1) h (A0 := A0) (A1 := A1) w)
  clear h
  go_enter Tryd.func12, Tryd.ntmps12
  go_wp2_with fail
  go_at_call 15
  refine KB.out.mono ?_
  rintro e v1 ⟨rfl, hc⟩
  clear KB
  go_wp2_with fail
  go_returns
  exact ⟨rfl, hc⟩
theorem copen_short {key nonce : List UInt8} (hk : key.length = 32) (hn : nonce.length = 12) {k0 k1 n m c2 c3 : Nat} (h : m < 16) {A0 A1 A2 A3 : Option Addr} (w : World) (r0 : Rd w w.heap.size A0 k0 key) (r1 : Rd w w.heap.size A1 k1 nonce) :
    Calls Tryd.prog 12 #[.slice A0 32 k0, .slice A1 12 k1, .slice A2 n c2, .slice A3 m c3] w fun e w' => e = .returned (.tuple #[.slice none 0 0, .int .i64 3]) ∧ Below w.heap.size w w' := by
  have KK := Lib.hid (ckey_any hk hn w r0 r1 (Nat.le_refl _))
  have g1 : (m : Int) < 16 := by omega
  clear hk hn h r0 r1
  go_enter Tryd.func12, Tryd.ntmps12
  go_wp2_with fail
  go_at_call 15
  refine KK.out.mono ?_
  rintro e v1 ⟨Ao, co, rfl, ro, hc⟩
  clear KK
  go_wp2_with fail
  go_returns
  exact ⟨rfl, hc⟩
theorem equal_len {A1 A2 : Option Addr} {c1 c2 n m : Nat} {xs ys : List UInt8} (hx : xs.length = n) (hy : ys.length = m) (hl : n ≤ 140737488355328) (w : World) (h1 : Rd w w.heap.size A1 c1 xs) (h2 : Rd w w.heap.size A2 c2 ys) :
    Calls Tryd.prog 24 #[.slice A1 n c1, .slice A2 m c2] w fun e w' => e = .returned (.bool (sameB xs ys)) ∧ Below w.heap.size w w' := by
  subst hx hy
  exact (octEqual w h1 h2 hl).mono fun _ _ ⟨he, k, hk⟩ => ⟨he, by rw [hk]; exact below_drewN _ _⟩
theorem copy_len {ops : Array Oper} {rest : List Oper} {a : Act} {w : World} {Q : Exit → Act → World → Prop} {d s : Operand} {dst : Option Nat} {tp : TypeId} {ps : String} {af : Array Edge}
    {B g C N l : Nat} {e0 : TypeId} {f : Nat → Value} (h0 : OwnF w B e0 (some ⟨g, 0, none⟩) C N f) {B' c : Nat} {A : Option Addr} {bs : List UInt8} (hr : Rd w B' A c bs) (hl : bs.length = l) (hm : l = N)
    (hd : a.eval d = .slice (some ⟨g, 0, none⟩) N C) (hs : a.eval s = .slice A l c) (h : wpList Tryd.prog ops Q rest (a.put dst (.int .i64 (N : Int))) (setA w g 0 N (bvf bs))) : wpList Tryd.prog ops Q (⟨dst, .call { callee := .builtin .copy, args := #[d, s], argTypes := #[22, 22] }, tp, ps, af, none⟩ :: rest) a w := by
  subst hl
  exact copy_to (off := 0) h0 hr (by rw [hm]; exact (Nat.min_self _).symm) (by omega) hd hs h
section
attribute [local irreducible] blkB xrN tagN macL setA
set_option maxHeartbeats 3200000 in
theorem copen_any {key nonce other box : List UInt8} {m : Nat} (hbl : box.length = m + 16) (hk : key.length = 32) (hn : nonce.length = 12) (hol : other.length ≤ 100000) (htl : m ≤ 100000) {A0 A1 A2 A3 : Option Addr} {k0 k1 c2 c3 : Nat} (w : World) (hG : GlbP w) (r0 : Rd w w.heap.size A0 k0 key) (r1 : Rd w w.heap.size A1 k1 nonce) (r2 : Rd w w.heap.size A2 c2 other) (r3 : Rd w w.heap.size A3 c3 box) :
    Calls Tryd.prog 12 #[.slice A0 32 k0, .slice A1 12 k1, .slice A2 other.length c2, .slice A3 box.length c3] w fun e w' => if box.drop m = tagN ((blkB key nonce 0).take 32) (macL other (box.take m)) then ∃ A c, e = .returned (.tuple #[.slice A m c, .int .i64 0]) ∧ Rd w' w'.heap.size A c (xrN key nonce 1 (box.take m)) ∧ Below w.heap.size w w' else e = .returned (.tuple #[.slice none 0 0, .int .i64 9]) ∧ Below w.heap.size w w' := by
  obtain ⟨i0, hi, hz0, hz1, hz2⟩ := info_parts infoByte
  have hcap := r3.cap
  have r3t := r3.pre0 (n := m) (by omega)
  have r3d := r3.drop_ (l := m) (by omega)
  obtain ⟨b3, o3, rfl, _, _⟩ := r3.at_ (k := 0) (by omega)
  rw [show subA (some ⟨b3, o3, none⟩) c3 m = some ⟨b3, o3 + m, none⟩ by unfold subA; rw [if_neg (by omega)]; simp [Addr.add_mid]] at r3d
  obtain ⟨T, eT⟩ : ∃ T, T = tagN ((blkB key nonce 0).take 32) (macL other (box.take m)) := ⟨_, rfl⟩
  obtain ⟨X, eX⟩ : ∃ X, X = xrN key nonce 1 (box.take m) := ⟨_, rfl⟩
  have hTl : T.length = 16 := by rw [eT]; exact tagN_len _ _
  have hdl : (box.drop m).length = 16 := by rw [List.length_drop]; omega
  have htl' : (box.take m).length = m := by rw [List.length_take]; omega
  have hol' : other.length ≤ 100000 := hol
  obtain ⟨D, eD⟩ : ∃ D, D = box.drop m := ⟨_, rfl⟩
  obtain ⟨C, eC⟩ : ∃ C, C = box.take m := ⟨_, rfl⟩
  rw [← eC] at eT eX htl' r3t
  rw [← eD] at hdl r3d
  obtain ⟨no, eno⟩ : ∃ n, n = other.length := ⟨_, rfl⟩
  obtain ⟨n, en⟩ : ∃ n, n = box.length := ⟨_, rfl⟩
  rw [← eD, ← eC, ← eX, ← eT, ← eno, ← en]
  rw [← eno] at hol
  rw [← en] at hcap hbl
  have g1 : ¬ (n : Int) < 16 := by omega
  have w1 : IntKind.i64.wrap ((n : Int) - 16) = (m : Int) := by rw [IntKind.wrap_i64]; omega
  have g2 : m ≤ c3 := by omega
  have g3 : ¬ c3 = m := by omega
  have HNM := Lib.hid (show m ≤ n by omega)
  have HN16 := Lib.hid (show n - m = 16 by omega)
  have HT := Lib.hid eT
  have HX := Lib.hid eX
  have HTL := Lib.hid hTl
  have HDL := Lib.hid hdl
  have HCL := Lib.hid htl'
  have HOL := Lib.hid (And.intro eno.symm (And.intro hol htl))
  have HKN := Lib.hid (And.intro hk hn)
  have KK := Lib.hid (ckey_any hk hn w r0 r1 (Nat.le_refl _))
  clear eT eX hTl hdl htl' hol' eD eC eno en hol htl hk hn hbl hcap r3
  go_enter Tryd.func12, Tryd.ntmps12
  go_wp2_with fail
  go_at_call 15
  refine KK.out.mono ?_
  rintro e v1 ⟨Ao, co, rfl, ro, hc⟩
  replace r0 := (r0.keep hc).mono hc.size
  replace r1 := (r1.keep hc).mono hc.size
  replace r2 := (r2.keep hc).mono hc.size
  replace r3t := (r3t.keep hc).mono hc.size
  replace r3d := (r3d.keep hc).mono hc.size
  replace hG := hG.next hc
  clear KK
  have hmk := run_mk (P := Tryd.prog) 22 5 i0 Tryd.underlying22 hi hz0 hz1 hz2 (l := 16) (n := 16) rfl (by decide)
  have om : OwnF (v1.alloc (.cells (madeCells #[.int .u8 0] 16) 5)) v1.heap.size 5 (some ⟨v1.heap.size, 0, none⟩) 16 16 (bvf (List.replicate 16 0)) := p_toF (Own.made (w := v1) (B := v1.heap.size) 5 (n := 16) (Nat.le_refl _) (by decide))
  have hm0 : Below v1.heap.size v1 (v1.alloc (.cells (madeCells #[.int .u8 0] 16) 5)) := (Below.refl _ v1).alloc (Nat.le_refl _) _
  go_upto_region 8 with fail
  obtain ⟨v2, e2⟩ : ∃ v, v = v1.alloc (.cells (madeCells #[.int .u8 0] 16) 5) := ⟨_, rfl⟩
  obtain ⟨g, eg⟩ : ∃ g, g = v1.heap.size := ⟨_, rfl⟩
  rw [← e2] at om hm0 ⊢
  rw [show (Value.slice (some ⟨v1.heap.size, 0, none⟩) 16 16) = .slice (some ⟨g, 0, none⟩) 16 16 by rw [eg]]
  rw [← eg] at om
  have hge : v1.heap.size ≤ g := by rw [eg]; exact Nat.le_refl _
  have r3d' := (r3d.keep hm0).mono hm0.size
  obtain ⟨v3, e3⟩ : ∃ v, v = setA v2 g 0 16 (bvf D) := ⟨_, rfl⟩
  have hb3 : Below v1.heap.size v1 v3 := hm0.trans (by rw [e3]; exact (av_only v2 g 0 16 (bvf D)).below hge)
  have ot3 : Own v3 g 5 (some ⟨g, 0, none⟩) 16 D := by rw [e3]; exact p_ofF (av_all om (bvf D)) HDL.out fun _ _ => rfl
  replace r0 := (r0.keep hb3).mono hb3.size
  replace r1 := (r1.keep hb3).mono hb3.size
  replace r2 := (r2.keep hb3).mono hb3.size
  replace r3t := (r3t.keep hb3).mono hb3.size
  replace ro := (ro.keep hb3).mono hb3.size
  replace hG := hG.next hb3
  replace hc := hc.trans (hb3.mono hc.size)
  have rD := ot3.rd
  have HCP := Lib.hid (fun (ops : Array Oper) (rest2 : List Oper) (a : Act) (Q : Exit → Act → World → Prop) (d s : Operand) (dst : Option Nat) (tp : TypeId) (ps : String) (af : Array Edge) => copy_len (ops := ops) (rest := rest2) (a := a) (Q := Q) (d := d) (s := s) (dst := dst) (tp := tp) (ps := ps) (af := af) (l := n - m) om r3d' (by rw [HDL.out, HN16.out]) HN16.out)
  clear om r3d r3d' hmk hm0 hb3 ot3 e2 eg hge
  have E3 := Lib.hid e3
  clear e3
  go_wp2_with ((with_reducible refine HCP.out _ _ _ _ _ _ _ _ _ _ ?_ ?_ ?_); rfl; rfl)
  rw [← E3.out]
  clear E3 HCP
  go_at_call 18
  refine (ctag12_len HOL.out.1 HCL.out (once_len _ _) HOL.out.2.1 HOL.out.2.2 v3 hG ro r2 r3t).mono ?_
  rintro e v4 ⟨At, ct, rfl, ot, hb⟩
  have rT := ot.rd
  rw [← HT.out] at rT
  replace rD := (rD.keep hb).mono hb.size
  replace r0 := (r0.keep hb).mono hb.size
  replace r1 := (r1.keep hb).mono hb.size
  replace r3t := (r3t.keep hb).mono hb.size
  replace hc := hc.trans (hb.mono hc.size)
  clear hb ot ro r2 hG
  go_wp2_with fail
  go_at_call 24
  refine (equal_len HDL.out HTL.out (by decide) v4 rD rT).mono ?_
  rintro e v5 ⟨rfl, hb⟩
  replace r0 := (r0.keep hb).mono hb.size
  replace r1 := (r1.keep hb).mono hb.size
  replace r3t := (r3t.keep hb).mono hb.size
  replace hc := hc.trans (hb.mono hc.size)
  clear hb rD rT
  by_cases hDT : D = T
  · rw [show sameB D T = true from sameB_iff.2 hDT]
    have HE := Lib.hid hDT
    clear hDT
    go_wp2_with fail
    go_at_call 16
    refine (cxor_len HCL.out HKN.out.1 HKN.out.2 HOL.out.2.2 v5 r0 r1 r3t (Nat.le_refl _)).mono ?_
    rintro e v6 ⟨Ax, cx, rfl, rx, hb⟩
    rw [← HX.out] at rx
    replace hc := hc.trans (hb.mono hc.size)
    clear hb
    go_wp2_with fail
    go_returns
    exact ⟨Ax, cx, rfl, rx, hc⟩
  · rw [show sameB D T = false from Bool.eq_false_iff.2 fun h => hDT (sameB_iff.1 h)]
    have HE := Lib.hid hDT
    clear hDT
    go_wp2_with fail
    go_returns
    exact ⟨rfl, hc⟩
end
theorem cSealP : CSealP GlbP 9 := by
  intro key nonce other text A0 A1 A2 A3 c0 c1 c2 c3 w ho ht hG r0 r1 r2 r3
  unfold sealA sealE
  by_cases h : key.length = 32 ∧ nonce.length = 12
  · rw [if_pos h, if_pos h, h.1, h.2, boxL_len]
    exact cseal_any h.1 h.2 (by omega) (by omega) w hG r0 r1 r2 r3
  · rw [if_neg h, if_neg h]
    exact (cseal_bad (by omega) w).mono fun _ _ ⟨he, hb⟩ => ⟨none, 0, he, rd_nil12 _ _, hb⟩
theorem box_iff {key nonce other box : List UInt8} {m : Nat} : box.drop m = tagN ((blkB key nonce 0).take 32) (macL other (box.take m)) ↔ boxL key nonce other (xrN key nonce 1 (box.take m)) = box := by
  have h1 : boxL key nonce other (xrN key nonce 1 (box.take m)) = box.take m ++ tagN ((blkB key nonce 0).take 32) (macL other (box.take m)) := by
    unfold boxL sTag
    rw [xr_twice]
  rw [h1]
  constructor
  · intro h
    rw [← h, List.take_append_drop]
  · intro h
    have h2 : box.take m ++ tagN ((blkB key nonce 0).take 32) (macL other (box.take m)) = box.take m ++ box.drop m := by rw [h, List.take_append_drop]
    exact (List.append_cancel_left h2).symm
theorem cOpenP : COpenP GlbP 12 := by
  intro key nonce other box A0 A1 A2 A3 c0 c1 c2 c3 w ho ht hG r0 r1 r2 r3
  by_cases h : key.length = 32 ∧ nonce.length = 12
  · by_cases h3 : box.length < 16
    · have e : openE key nonce other box = 3 := by unfold openE; rw [if_pos h, if_pos h3]
      rw [openA_no (by rw [e]; decide), e, h.1, h.2]
      exact (copen_short h.1 h.2 h3 w r0 r1).mono fun _ _ ⟨he, hb⟩ => ⟨none, 0, he, rd_nil12 _ _, hb⟩
    · have hbl : box.length = box.length - 16 + 16 := by omega
      have k := copen_any hbl h.1 h.2 (by omega) (by omega) w hG r0 r1 r2 r3
      by_cases h4 : boxL key nonce other (xrN key nonce 1 (box.take (box.length - 16))) = box
      · have e : openE key nonce other box = 0 := by unfold openE; rw [if_pos h, if_neg h3, if_pos h4]
        have e2 : openA key nonce other box = xrN key nonce 1 (box.take (box.length - 16)) := by unfold openA; rw [if_pos e]
        have e3 : (xrN key nonce 1 (box.take (box.length - 16))).length = box.length - 16 := by rw [xrN_len, List.length_take]; omega
        rw [e2, e, e3, h.1, h.2]
        exact k.mono fun _ _ hk => by rwa [if_pos (box_iff.2 h4)] at hk
      · have e : openE key nonce other box = 9 := by unfold openE; rw [if_pos h, if_neg h3, if_neg h4]
        rw [openA_no (by rw [e]; decide), e, h.1, h.2]
        exact k.mono fun _ _ hk => by
          rw [if_neg fun h5 => h4 (box_iff.1 h5)] at hk
          exact ⟨none, 0, hk.1, rd_nil12 _ _, hk.2⟩
  · have e : openE key nonce other box = 1 := by unfold openE; rw [if_neg h]
    rw [openA_no (by rw [e]; decide), e]
    exact (copen_bad (by omega) w).mono fun _ _ ⟨he, hb⟩ => ⟨none, 0, he, rd_nil12 _ _, hb⟩
end Go.Proofs.YtmhfkabpfkoocaaDoor
