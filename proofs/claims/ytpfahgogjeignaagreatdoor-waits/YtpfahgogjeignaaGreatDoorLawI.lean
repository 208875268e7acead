/-
  moves: each of its calls.
-/
import Derived.Test.YtpfahgogjeignaaGreatDoorLawH
set_option linter.unusedVariables false
set_option linter.unusedSimpArgs false
namespace Go.Proofs.YtpfahgogjeignaaGreatDoor
open Go.RowKit
attribute [local go_sem ↓] Go.wp_at_zero Go.wp_at_succ

/-- A pair that lives above B0. -/
structure Live (m B0 : Nat) (w : World) (p b : Nat) (A : RA) (s : PC) (r : RS) : Prop where
  pair : Pair w p b A s r
  sim : Sim s r
  base : B0 ≤ w.heap.size
  pl : B0 ≤ p
  bl : B0 ≤ b
  al : ∀ g, A.in r.n g → B0 ≤ g
  len : ∀ i k, (r.past i k).length ≤ m
  fit : (m : Int) < 9000000000000000000 → Fit s m

/-- What a step may write, and where a pair lives behind it. -/
structure Stepped (p b b' n : Nat) (A A' : RA) (w w' : World) : Prop where
  kept : Kept (fun g => g = p ∨ g = b ∨ A.in n g) w w'
  bn : b' = b ∨ w.heap.size ≤ b'
  an : ∀ g, A'.in n g → A.in n g ∨ w.heap.size ≤ g
theorem Stepped.before {p b b' n : Nat} {A A' : RA} {w w1 w' : World} (h : Stepped p b b' n A A' w1 w') (k : Same w w1) : Stepped p b b' n A A' w w' :=
  ⟨(k.mono (fun _ e => e.elim)).trans h.kept, h.bn.imp_right (Nat.le_trans k.size), fun g hg => (h.an g hg).imp_right (Nat.le_trans k.size)⟩
theorem Stepped.same (p b n : Nat) (A : RA) {w w' : World} (k : Same w w') : Stepped p b b n A A w w' :=
  ⟨k.mono (fun _ e => e.elim), .inl rfl, fun _ h => .inl h⟩
theorem Live.same {m B0 : Nat} {w w' : World} {p b : Nat} {A : RA} {s : PC} {r : RS} (h : Live m B0 w p b A s r) (k : Same w w') : Live m B0 w' p b A s r :=
  ⟨h.pair.same k, h.sim, Nat.le_trans h.base k.size, h.pl, h.bl, h.al, h.len, h.fit⟩
theorem Live.later {m B0 : Nat} {w : World} {p b : Nat} {A : RA} {s : PC} {r : RS} (h : Live m B0 w p b A s r) : Live (m + 1) B0 w p b A s r :=
  ⟨h.pair, h.sim, h.base, h.pl, h.bl, h.al, fun i k => Nat.le_succ_of_le (h.len i k), fun hm => (h.fit (by omega)).later⟩
/-- Behind a call of each. -/
theorem Live.both {m B0 : Nat} {w w1 w2 : World} {p b : Nat} {A A' : RA} {s s' : PC} {r r' : RS} (h : Live m B0 w p b A s r) (k1 : Wrote b w w1) (c : PAt w1 b s') (st : RStep r.n A A' w1 w2) (hr : RAt w2 A' r') (hn : r'.n = r.n) (hs : Sim s' r') (hl : ∀ i k, (r'.past i k).length ≤ (r.past i k).length + 1) (hf : ∀ m, Fit s m → (m : Int) < 9000000000000000000 → Fit s' (m + 1)) :
    Live (m + 1) B0 w2 p b A' s' r' ∧ Below B0 w w2 ∧ Stepped p b b r.n A A' w w2 := by
  have p1 := h.pair.wrote k1 c
  have p2 := p1.rstep st hr hn
  have hb := h.base
  refine ⟨⟨p2, hs, Nat.le_trans (Nat.le_trans h.base k1.size) st.kept.size, h.pl, h.bl, fun g hg => ?_, fun i k => Nat.le_trans (hl i k) (Nat.succ_le_succ (h.len i k)), fun hm => hf m (h.fit (by omega)) (by omega)⟩, ?_, ⟨(k1.mono (fun _ e => .inr (.inl e))).trans (st.kept.mono (fun _ e => .inr (.inr e))), .inl rfl, fun g hg => (st.new g hg).imp_right (Nat.le_trans k1.size)⟩⟩
  · rw [hn] at hg
    rcases st.new g hg with h' | h'
    · exact h.al g h'
    · have := k1.size; omega
  · exact (k1.below hb (fun g hg e => by have := h.bl; omega)).trans (st.kept.below (Nat.le_trans hb k1.size) (fun g hg e => by have := h.al g e; omega))

end Go.Proofs.YtpfahgogjeignaaGreatDoor
