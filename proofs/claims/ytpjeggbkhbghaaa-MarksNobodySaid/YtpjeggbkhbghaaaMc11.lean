/-
  Layer 16: the landed book is what is asked of it. By an AI agent.
-/
import Derived.Test.YtpjeggbkhbghaaaMc10
import Derived.Test.YtpjeggbkhbghaaaTT
import Derived.Test.YtpjeggbkhbghaaaTY
namespace Go.Proofs.Ytpjeggbkhbghaaa
open Go Go.RowKit
set_option maxRecDepth 20000
theorem nodes_has {R : TreeP} (K : FugC R) {w : World} {FT : Nat → Prop} {q : Value} {TL : List Ins} {TG : List IDt} (h : R w FT q TL TG) (hok : Ok TL) (hl : TL.length ≤ 4096) : HasNodes q w (nodL TL TG) := by
  have hlen : (nodL TL TG).length = (nodesL TL).length := List.length_map _
  refine ⟨by rw [hlen]; exact Nat.le_trans (nodes_len hok) hl, ?_, ?_⟩
  · rw [List.map_map]
    exact List.pairwise_map.2 ((nodes_distinct hok).imp fun h => h)
  · refine (K.nodes w h hok hl).mono ?_
    rintro e w' ⟨A, c, rfl, r, _, hb⟩
    exact ⟨A, c, by rw [hlen], r, hb⟩
theorem nodes_none (w : World) : HasNodes (.pointer none) w [] := by
  refine ⟨Nat.zero_le _, List.nodup_nil, (nodes_nil w).mono ?_⟩
  rintro e w' ⟨rfl, hb⟩
  exact ⟨none, 0, rfl, RdR.nothing _ _ _, hb⟩
theorem add_nil16 (m : Mrk) (w : World) : Calls Try.prog 15 #[.pointer none, mrkV m] w fun e w' => e = .returned (.int .i64 13) ∧ Below w.heap.size w w' := by
  obtain ⟨v1, ev⟩ : ∃ v, v = w.alloc (.cells #[.int .i64 m.clock, .int .i64 m.author, .int .i64 m.from_.id.1, .int .i64 m.from_.id.2, .bool m.from_.behind, .int .i64 m.upto.id.1, .int .i64 m.upto.id.2, .bool m.upto.behind, .int .i64 m.name, .int .i64 m.value] 31) := ⟨_, rfl⟩
  have hb : Below w.heap.size w v1 := by rw [ev]; exact (Below.refl _ _).alloc (Nat.le_refl _) _
  have HV := Lib.hid (And.intro ev hb)
  clear ev hb
  go_enter Try.func15, Try.ntmps15
  go_upto_region 1 with fail
  rw [← HV.out.1]
  go_wp2_with fail
  go_ret
  exact ⟨rfl, HV.out.2⟩
theorem landed16 : MarkC BkR where
  keep := fun h hk _ => h.keep hk
  le := fun h => h.le
  good := fun ⟨_, _, _, _, _, _, _, _, h⟩ => h
  ptr := fun ⟨T, _, _, e, _⟩ => ⟨T, e⟩
  new := newbook_any
  right := right16_any
  add := fun m w h => add16_any m w h
  has := fun k a w h => by obtain ⟨A, c, hr⟩ := recv_of h; exact has16_any hr k a
  list := fun w h => by
    obtain ⟨A, c, hr⟩ := recv_of h
    exact (list16_any hr).mono fun e w' ⟨A', c', he, o, hb⟩ => ⟨A', c', he, o.rd, hb⟩
  last := fun w h => by obtain ⟨A, c, hr⟩ := recv_of h; exact last16_any hr
  styles := by
    intro R K F FT p q L TL TG w h hT hok hl
    obtain ⟨A, c, hr⟩ := recv_of h
    refine (styles16_any hr (nodes_has K hT hok hl)).mono ?_
    rintro e w' ⟨A', c', rfl, r, hb⟩
    exact ⟨A', c', by rw [List.length_map], r, hb⟩
  runs := by
    intro R K F FT p q L TL TG w h hT hok hl
    obtain ⟨A, c, hr⟩ := recv_of h
    exact runs16_any hr (nodes_has K hT hok hl) rfl
  clone := fun w h => clone16_any w h
theorem nobody16 : NobM BkR where
  add := add_nil16
  has := fun k a w => (has16_any (recv_nil w) k a).mono fun e w' h => ⟨h.1, h.2⟩
  list := fun w => (list16_any (recv_nil w)).mono fun e w' ⟨A', c', he, _, hb⟩ => ⟨A', c', he, hb⟩
  last := fun w => (last16_any (recv_nil w)).mono fun e w' h => ⟨h.1, h.2⟩
  clone := clone_nil16
  runs := by
    intro R K FT q TL TG w hT hok hl
    exact runs16_any (recv_nil w) (nodes_has K hT hok hl) rfl
  stylesT := fun w h => by
    obtain ⟨A, c, hr⟩ := recv_of h
    exact (styles16_any hr (nodes_none w)).mono fun e w' ⟨A', c', he, _, hb⟩ => ⟨A', c', he, hb⟩
  runsT := fun w h => by
    obtain ⟨A, c, hr⟩ := recv_of h
    exact (runs16_any hr (nodes_none w) rfl).mono fun e w' ⟨A', c', he, _, hb⟩ => ⟨A', c', he, hb⟩
end Go.Proofs.Ytpjeggbkhbghaaa
