/-
  Layer 19: SuiteApart and SuiteBack, over lists. By an AI agent.
-/
import Derived.Test.YtdddcgkgellbgabSu2
namespace Go.Proofs.Ytdddcgkgellbgab
open Go Go.RowKit
set_option maxRecDepth 20000
section
variable (a b s x : List UInt8) (n : Int)
abbrev apL2 : List Trm := knowT (knowT [] (termH a)) (termH b)
abbrev apL3 : List Trm := knowT (apL2 a b) (termB s n a x)
abbrev apL4 : List Trm := knowT (apL3 a b s x n) (termG s a)
abbrev apL5 : List Trm := knowT (apL4 a b s x n) (termV s)
abbrev apBox : List UInt8 := calledT (termB s n a x) (numT (apL2 a b) (termB s n a x))
abbrev apSig : List UInt8 := calledT (termG s a) (numT (apL3 a b s x n) (termG s a))
abbrev apKey : List UInt8 := calledT (termV s) (numT (apL4 a b s x n) (termV s))
theorem ap_hash : (calledT (termH a) (numT [] (termH a)) = calledT (termH b) (numT (knowT [] (termH a)) (termH b))) ↔ a = b := by
  constructor
  · intro h
    have h1 := inL_know [] (termH a)
    have h2 := inL_know (knowT [] (termH a)) (termH b)
    have l1 := knowT_len [] (termH a)
    have l2 := knowT_len (knowT [] (termH a)) (termH b)
    simp only [List.length_nil] at l1
    have e := called_inj (by omega) (by omega) h
    rw [e] at h1
    have := (h1.more (termH b)).one h2
    unfold termH at this
    simpa using this
  · rintro rfl
    have h1 := inL_know [] (termH a)
    rw [(h1.num (knowT_nodup List.nodup_nil _)).1]
theorem ap_mem {u : Trm} (h : u ∈ apL5 a b s x n) : u = termH a ∨ u = termH b ∨ u = termB s n a x ∨ u = termG s a ∨ u = termV s := by
  unfold apL5 apL4 apL3 apL2 at h
  simp only [knowT_mem, List.not_mem_nil, false_or] at h
  rcases h with (((h | h) | h) | h) | h
  · exact .inl h
  · exact .inr (.inl h)
  · exact .inr (.inr (.inl h))
  · exact .inr (.inr (.inr (.inl h)))
  · exact .inr (.inr (.inr (.inr h)))
theorem ap_len : (apL5 a b s x n).length ≤ 5 := by
  have h1 := (knowT_len [] (termH a)).2.1
  have h2 := (knowT_len (knowT [] (termH a)) (termH b)).2.1
  have h3 := (knowT_len (apL2 a b) (termB s n a x)).2.1
  have h4 := (knowT_len (apL3 a b s x n) (termG s a)).2.1
  have h5 := (knowT_len (apL4 a b s x n) (termV s)).2.1
  simp only [List.length_nil] at h1
  show (knowT (apL4 a b s x n) (termV s)).length ≤ 5
  have e2 : (apL2 a b).length ≤ (knowT [] (termH a)).length + 1 := h2
  have e3 : (apL3 a b s x n).length ≤ (apL2 a b).length + 1 := h3
  have e4 : (apL4 a b s x n).length ≤ (apL3 a b s x n).length + 1 := h4
  omega
theorem ap_nodup : (apL5 a b s x n).Nodup := knowT_nodup (knowT_nodup (knowT_nodup (knowT_nodup (knowT_nodup List.nodup_nil _) _) _) _) _
theorem ap_box : inL (apL5 a b s x n) (termB s n a x) (numT (apL2 a b) (termB s n a x)) := ((inL_know (apL2 a b) _).more _).more _
theorem ap_sig : inL (apL5 a b s x n) (termG s a) (numT (apL3 a b s x n) (termG s a)) := (inL_know (apL3 a b s x n) _).more _
theorem ap_key : inL (apL5 a b s x n) (termV s) (numT (apL4 a b s x n) (termV s)) := inL_know _ _
theorem ap_open (h32 : s.length = 32) (hn : 0 ≤ n) : openE (apL5 a b s x n) s n b (apBox a b s x n) = if a = b then 0 else 9 := by
  have hl := ap_len a b s x n
  have hf := (ap_box a b s x n).find (by omega)
  unfold openE
  rw [if_pos ⟨h32, hn⟩]
  rw [show (termB s n a x).kind = 98 from rfl] at hf
  rw [hf]
  have : opens (termB s n a x) s n b = decide (a = b) := by simp [opens, termB, row]
  simp only [this, decide_eq_true_eq]
theorem ap_open2 (h32 : s.length = 32) (hn : 0 ≤ n) (h : openE (apL5 a b s x n) s n a x = 0) : x = apBox a b s x n := by
  have hl := ap_len a b s x n
  unfold openE at h
  rw [if_pos ⟨h32, hn⟩] at h
  cases hf : findT (apL5 a b s x n) x 98 with
  | none => rw [hf] at h; simp at h
  | some u =>
    exact (find_only (by omega) (ap_nodup a b s x n) (ap_box a b s x n) (fun u hu hk => by
      rcases ap_mem a b s x n hu with rfl | rfl | rfl | rfl | rfl <;> first | rfl | (simp [termH, termB, termG, termV] at hk)) hf).2
theorem ap_ver : verifyT (apL5 a b s x n) (apKey a b s x n) b (apSig a b s x n) = decide (a = b) := by
  have hl := ap_len a b s x n
  have h1 := (ap_sig a b s x n).find (by omega)
  have h2 := (ap_key a b s x n).find (by omega)
  rw [show (termG s a).kind = 103 from rfl] at h1
  rw [show (termV s).kind = 118 from rfl] at h2
  unfold verifyT
  rw [h1, h2]
  simp [termG, termV, row]
theorem ap_ver2 (h : verifyT (apL5 a b s x n) (apKey a b s x n) a x = true) : x = apSig a b s x n := by
  have hl := ap_len a b s x n
  unfold verifyT at h
  cases hf : findT (apL5 a b s x n) x 103 with
  | none => rw [hf] at h; simp at h
  | some u =>
    exact (find_only (by omega) (ap_nodup a b s x n) (ap_sig a b s x n) (fun u hu hk => by
      rcases ap_mem a b s x n hu with rfl | rfl | rfl | rfl | rfl <;> first | rfl | (simp [termH, termB, termG, termV] at hk)) hf).2
theorem ap_ver3 : verifyT (apL5 a b s x n) (apKey a b s x n) a (apSig a b s x n) = true := by
  have hl := ap_len a b s x n
  have h1 := (ap_sig a b s x n).find (by omega)
  have h2 := (ap_key a b s x n).find (by omega)
  rw [show (termG s a).kind = 103 from rfl] at h1
  rw [show (termV s).kind = 118 from rfl] at h2
  unfold verifyT
  rw [h1, h2]
  simp [termG, termV, row]
end
section
variable (o x : List UInt8) (n : Int)
abbrev bkL1 : List Trm := knowT [] (termS 0)
abbrev bkJ : List UInt8 := calledT (termS 0) (numT [] (termS 0))
abbrev bkL2 : List Trm := knowT bkL1 (termS 1)
abbrev bkK : List UInt8 := calledT (termS 1) (numT bkL1 (termS 1))
abbrev bkL3 : List Trm := knowT bkL2 (termP bkK)
abbrev bkP : List UInt8 := calledT (termP bkK) (numT bkL2 (termP bkK))
abbrev bkL4 : List Trm := knowT bkL3 (termD bkJ bkK)
abbrev bkA : List UInt8 := calledT (termD bkJ bkK) (numT bkL3 (termD bkJ bkK))
abbrev bkL5 : List Trm := knowT bkL4 (termP bkJ)
abbrev bkQ : List UInt8 := calledT (termP bkJ) (numT bkL4 (termP bkJ))
abbrev bkL6 : List Trm := knowT bkL5 (termK bkA o)
abbrev bkKey : List UInt8 := calledT (termK bkA o) (numT bkL5 (termK bkA o))
abbrev bkL7 : List Trm := knowT (bkL6 o) (termB (bkKey o) n o x)
abbrev bkBox : List UInt8 := calledT (termB (bkKey o) n o x) (numT (bkL6 o) (termB (bkKey o) n o x))
abbrev bkL8 : List Trm := knowT (bkL7 o x n) (termG bkJ x)
abbrev bkSig : List UInt8 := calledT (termG bkJ x) (numT (bkL7 o x n) (termG bkJ x))
abbrev bkL9 : List Trm := knowT (bkL8 o x n) (termV bkJ)
abbrev bkV : List UInt8 := calledT (termV bkJ) (numT (bkL8 o x n) (termV bkJ))
theorem know_le (L : List Trm) (t : Trm) {m : Nat} (h : L.length ≤ m) : (knowT L t).length ≤ m + 1 := by
  have := (knowT_len L t).2.1
  omega
theorem bk_len : (bkL9 o x n).length ≤ 9 := know_le _ _ (know_le _ _ (know_le _ _ (know_le _ _ (know_le _ _ (know_le _ _ (know_le _ _ (know_le _ _ (know_le [] _ (Nat.zero_le 0)))))))))
theorem bk_unlike : bkJ ≠ bkK := by
  intro h
  have h1 := inL_know [] (termS 0)
  have h2 := inL_know bkL1 (termS 1)
  have l1 := h1.le
  have l2 := h2.le
  have m1 := know_le [] (termS 0) (Nat.zero_le 0)
  have m2 := know_le bkL1 (termS 1) m1
  have e := called_inj (by omega) (by omega) h
  rw [e] at h1
  have := (h1.more (termS 1)).one h2
  unfold termS at this
  have h8 := e8_inj (m := 0 + 1) (n := 1 + 1) (by omega) (by omega) (by simpa using this)
  omega
theorem bk_share1 (L : List Trm) (hl : L.length < 18446744073709551616) {j k : List UInt8} (hj : j.length = 32) {m : Nat} (hp : inL L (termP k) m) : sharedL L j (calledT (termP k) m) = knowT L (termD j k) ∧ sharedA L j (calledT (termP k) m) = calledT (termD j k) (numT L (termD j k)) ∧ sharedE L j (calledT (termP k) m) = 0 := by
  have hf := hp.find hl
  rw [show (termP k).kind = 112 from rfl] at hf
  unfold sharedL sharedA sharedE
  rw [if_pos hj, if_pos hj, if_pos hj, hf]
  exact ⟨rfl, rfl, rfl⟩
theorem bk_shareA : sharedL bkL3 bkJ bkP = bkL4 ∧ sharedA bkL3 bkJ bkP = bkA ∧ sharedE bkL3 bkJ bkP = 0 :=
  bk_share1 bkL3 (Nat.lt_of_le_of_lt (know_le _ _ (know_le _ _ (know_le [] _ (Nat.zero_le 0)))) (by decide)) (calledT_len _ _) (inL_know _ _)
theorem bk_shareB : sharedL bkL5 bkK bkQ = bkL5 ∧ sharedA bkL5 bkK bkQ = bkA ∧ sharedE bkL5 bkK bkQ = 0 := by
  have h := bk_share1 bkL5 (Nat.lt_of_le_of_lt (know_le _ _ (know_le _ _ (know_le _ _ (know_le _ _ (know_le [] _ (Nat.zero_le 0)))))) (by decide)) (k := bkJ) (j := bkK) (calledT_len _ _) (inL_know _ _)
  have hi : inL bkL5 (termD bkK bkJ) (numT bkL3 (termD bkJ bkK)) := by rw [termD_comm]; exact (inL_know bkL3 (termD bkJ bkK)).more _
  have hd : bkL5.Nodup := knowT_nodup (knowT_nodup (knowT_nodup (knowT_nodup (knowT_nodup List.nodup_nil _) _) _) _) _
  obtain ⟨e1, e2⟩ := hi.num hd
  rw [e1, e2, termD_comm bkK bkJ] at h
  exact h
theorem bk_open (hn : 0 ≤ n) : openA (bkL7 o x n) (bkKey o) n o (bkBox o x n) = x ∧ openE (bkL7 o x n) (bkKey o) n o (bkBox o x n) = 0 := by
  have hl : (bkL7 o x n).length ≤ 7 := know_le _ _ (know_le _ _ (know_le _ _ (know_le _ _ (know_le _ _ (know_le _ _ (know_le [] _ (Nat.zero_le 0)))))))
  have hf := (inL_know (bkL6 o) (termB (bkKey o) n o x)).find (by show (bkL7 o x n).length < _; omega)
  rw [show (termB (bkKey o) n o x).kind = 98 from rfl] at hf
  have h32 : (bkKey o).length = 32 := calledT_len _ _
  have ho : opens (termB (bkKey o) n o x) (bkKey o) n o = true := by simp [opens, termB, row]
  unfold openA openE
  rw [if_pos ⟨h32, hn⟩, if_pos ⟨h32, hn⟩, hf]
  simp only [ho, if_true]
  exact ⟨rfl, trivial⟩
theorem bk_verify : verifyT (bkL9 o x n) (bkV o x n) x (bkSig o x n) = true := by
  have hl := bk_len o x n
  have h1 := ((inL_know (bkL7 o x n) (termG bkJ x)).more (termV bkJ)).find (by show (bkL9 o x n).length < _; omega)
  have h2 := (inL_know (bkL8 o x n) (termV bkJ)).find (by show (bkL9 o x n).length < _; omega)
  rw [show (termG bkJ x).kind = 103 from rfl] at h1
  rw [show (termV bkJ).kind = 118 from rfl] at h2
  unfold verifyT
  rw [h1, h2]
  simp [termG, termV, row]
end
end Go.Proofs.Ytdddcgkgellbgab
