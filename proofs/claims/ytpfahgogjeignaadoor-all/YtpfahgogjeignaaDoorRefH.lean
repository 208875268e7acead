/-
  The document's leased, wrong, done.
-/
import Derived.Test.YtpfahgogjeignaaDoorRefF
set_option linter.unusedVariables false
set_option linter.unusedSimpArgs false
namespace Go.Proofs.YtpfahgogjeignaaDoor
open Go.RowKit
attribute [local go_sem] rg0 rg1 rg2 rg3 rg4 rg5 rg6 rg7 rg8 rg9 rg10 sg0 sg1 sg2 sg3 sg4 sg5 mg0 mg1 mg2 mgk fArr_get
attribute [local go_sem ↓] Go.wp_at_zero Go.wp_at_succ

def RS.leased (s : RS) (i : Nat) : Bool := s.up i && decide (s.now < s.stil i)

set_option maxHeartbeats 400000 in
theorem rleased_any (A : RA) (s : RS) (i : Int) (h0 : 0 ≤ i) (h2 : i < 2) (w : World) (h : RAt w A s) :
    Calls Tryd.prog 89 #[.pointer (some ⟨A.c, 0, none⟩), .int .i64 i] w fun e w' => e = .returned (.bool (s.leased i.toNat)) ∧ ∃ n, w' = w.drewN n := by
  have hC := h.c.cell
  have i2 : i.toNat < 2 := by omega
  have hS := (h.side i.toNat i2).cell
  have hp := h.sp i.toNat i2
  unfold RS.leased
  cases hu : s.up i.toNat
  all_goals
    go_enter Tryd.func89, Tryd.ntmps89
    go_wp2
    go_quiet (fail)
    go_wp2
    go_ret
    exact ⟨by simp [hu], _, rfl⟩

/-- The errors that Ask and Wait have in common. -/
def RS.wrong (s : RS) (i k cost : Int) : Int := if isNodeB i then (if 0 ≤ k ∧ k < (s.n : Int) then (if 1 ≤ cost ∧ cost ≤ 2000000 then 0 else 9) else 2) else 4

set_option maxHeartbeats 1000000 in
theorem rwrong_any (A : RA) (s : RS) (i k cost : Int) (w : World) (h : RAt w A s) :
    Calls Tryd.prog 88 #[.pointer (some ⟨A.c, 0, none⟩), .int .i64 i, .int .i64 k, .int .i64 cost] w fun e w' => e = .returned (.int .i64 (s.wrong i k cost)) ∧ w' = w := by
  have hC := h.c.cell
  cases hi : isNodeB i
  · have e : s.wrong i k cost = 4 := by unfold RS.wrong; rw [if_neg (by simp [hi])]
    rw [e]
    clear e
    go_enter Tryd.func88, Tryd.ntmps88
    go_wp2_with (go_at_call 85; refine (rnode_any _ _).mono ?_; rintro e w' ⟨rfl, rfl⟩)
    go_ret
    exact ⟨rfl, rfl⟩
  · by_cases k0 : k < 0
    · have e : s.wrong i k cost = 2 := by unfold RS.wrong; rw [if_pos hi, if_neg (by omega)]
      rw [e]
      clear e
      go_enter Tryd.func88, Tryd.ntmps88
      go_wp2_with (go_at_call 85; refine (rnode_any _ _).mono ?_; rintro e w' ⟨rfl, rfl⟩)
      go_ret
      exact ⟨rfl, rfl⟩
    · by_cases k1 : (s.n : Int) ≤ k
      · have e : s.wrong i k cost = 2 := by unfold RS.wrong; rw [if_pos hi, if_neg (by omega)]
        rw [e]
        clear e
        go_enter Tryd.func88, Tryd.ntmps88
        go_wp2_with (go_at_call 85; refine (rnode_any _ _).mono ?_; rintro e w' ⟨rfl, rfl⟩)
        go_ret
        exact ⟨rfl, rfl⟩
      · by_cases c0 : cost < 1
        · have e : s.wrong i k cost = 9 := by unfold RS.wrong; rw [if_pos hi, if_pos (by omega), if_neg (by omega)]
          rw [e]
          clear e
          go_enter Tryd.func88, Tryd.ntmps88
          go_wp2_with (go_at_call 85; refine (rnode_any _ _).mono ?_; rintro e w' ⟨rfl, rfl⟩)
          go_ret
          exact ⟨rfl, rfl⟩
        · by_cases c1 : 2000000 < cost
          · have e : s.wrong i k cost = 9 := by unfold RS.wrong; rw [if_pos hi, if_pos (by omega), if_neg (by omega)]
            rw [e]
            clear e
            go_enter Tryd.func88, Tryd.ntmps88
            go_wp2_with (go_at_call 85; refine (rnode_any _ _).mono ?_; rintro e w' ⟨rfl, rfl⟩)
            go_ret
            exact ⟨rfl, rfl⟩
          · have e : s.wrong i k cost = 0 := by unfold RS.wrong; rw [if_pos hi, if_pos (by omega), if_pos (by omega)]
            rw [e]
            clear e
            go_enter Tryd.func88, Tryd.ntmps88
            go_wp2_with (go_at_call 85; refine (rnode_any _ _).mono ?_; rintro e w' ⟨rfl, rfl⟩)
            go_ret
            exact ⟨rfl, rfl⟩

end Go.Proofs.YtpfahgogjeignaaDoor

namespace Go.Proofs.YtpfahgogjeignaaDoor
open Go.RowKit

def RA.withPv (A : RA) (i k : Nat) (v : Value) : RA := { A with pv := upd A.pv i (upd (A.pv i) k v) }
def RS.withPast (s : RS) (i k : Nat) (l : List Chg) : RS := { s with past := upd s.past i (upd (s.past i) k l) }
theorem upd2_same {α : Type} (f : Nat → Nat → α) (i k : Nat) (x : α) : upd f i (upd (f i) k x) i k = x := by simp [upd]
theorem upd2_other {α : Type} (f : Nat → Nat → α) {i k j q : Nat} (x : α) (h : ¬ (j = i ∧ q = k)) : upd f i (upd (f i) k x) j q = f j q := by
  unfold upd
  by_cases h1 : j = i
  · rw [if_pos h1]
    by_cases h2 : q = k
    · exact absurd ⟨h1, h2⟩ h
    · rw [if_neg h2, h1]
  · rw [if_neg h1]

set_option maxHeartbeats 1000000 in
theorem RAt.setPast {w w1 w5 : World} {A : RA} {s : RS} (h : RAt w A s) (i k : Nat) (hi : i < 2) (hk : k < s.n) (h1 : Same w w1) (hg : w1.grownBy w5 (A.pv i k).ownBlock) (g cap : Nat) (l : List Chg)
    (hown : w5.ownsRow 0 134 3 (.slice (some ⟨g, 0, none⟩) l.length cap) l.length (pastCells l)) (hat : (A.pv i k).ownBlock = some g ∨ w1.heap.size ≤ g) :
    RAt (w5.setCell ⟨A.past i, k, none⟩ (.slice (some ⟨g, 0, none⟩) l.length cap)) (A.withPv i k (.slice (some ⟨g, 0, none⟩) l.length cap)) (s.withPast i k l) ∧
    RStep s.n A (A.withPv i k (.slice (some ⟨g, 0, none⟩) l.length cap)) w (w5.setCell ⟨A.past i, k, none⟩ (.slice (some ⟨g, 0, none⟩) l.length cap)) := by
  have hpa : A.past i ∈ A.all := by rcases lt2n hi with rfl | rfl <;> simp [RA.all]
  have hsz := h1.size
  have hlt := h.in_lt
  -- the blocks that may have turned
  have kk : Kept (fun x => (A.pv i k).ownBlock = some x ∨ x = A.past i) w (w5.setCell ⟨A.past i, k, none⟩ (.slice (some ⟨g, 0, none⟩) l.length cap)) := by
    refine Kept.setCell ?_ _ (.inl (.inr rfl)) _
    exact ⟨hg.os.trans h1.os, hg.tape.trans h1.tape, hg.output.trans h1.output, Nat.le_trans h1.size hg.size, fun q hq hn => (hg.block q (Nat.lt_of_lt_of_le hq h1.size) (fun e => hn (.inl e.symm))).trans (h1.block q hq (fun h => h))⟩
  have nin : ∀ x, x ∈ A.all → x ≠ A.past i → ¬ ((A.pv i k).ownBlock = some x ∨ x = A.past i) := by
    rintro x hx hne (e | e)
    · exact h.inner i k x hi hk e hx
    · exact hne e
  have nd := h.nodup
  simp only [RA.all, List.nodup_cons, List.mem_cons, List.not_mem_nil, or_false, not_or, not_false_eq_true, List.nodup_nil, and_true] at nd
  obtain ⟨⟨n01, n02, n03, n04, n05, n06, n07, n08, n09, n0a⟩, ⟨n12, n13, n14, n15, n16, n17, n18, n19, n1a⟩, ⟨n23, n24, n25, n26, n27, n28, n29, n2a⟩, ⟨n34, n35, n36, n37, n38, n39, n3a⟩, ⟨n45, n46, n47, n48, n49, n4a⟩, ⟨n56, n57, n58, n59, n5a⟩, ⟨n67, n68, n69, n6a⟩, ⟨n78, n79, n7a⟩, ⟨n89, n8a⟩, n9a⟩ := nd
  have ne : ∀ x, x ∈ [A.c, A.rate, A.room, A.modes, A.sides, A.side 0, A.side 1, A.win 0, A.win 1] → x ≠ A.past i := by
    intro x hx
    simp only [List.mem_cons, List.not_mem_nil, or_false] at hx
    rcases lt2n hi with rfl | rfl
    · rcases hx with rfl | rfl | rfl | rfl | rfl | rfl | rfl | rfl | rfl <;> assumption
    · rcases hx with rfl | rfl | rfl | rfl | rfl | rfl | rfl | rfl | rfl <;> assumption
  have far : ∀ x, x ∈ [A.c, A.rate, A.room, A.modes, A.sides, A.side 0, A.side 1, A.win 0, A.win 1] → ¬ ((A.pv i k).ownBlock = some x ∨ x = A.past i) := by
    intro x hx
    refine nin x ?_ (ne x hx)
    simp only [List.mem_cons, List.not_mem_nil, or_false] at hx
    rcases hx with rfl | rfl | rfl | rfl | rfl | rfl | rfl | rfl | rfl <;> simp [RA.all]
  have gNew : g ∉ A.all := by
    rcases hat with e | e
    · exact h.inner i k g hi hk e
    · intro hm; have := hlt g (.inl hm); omega
  have hne10 : ∀ j, j < 2 → j ≠ i → A.past j ≠ A.past i := by
    intro j hj hne e
    rcases lt2n hj with rfl | rfl <;> rcases lt2n hi with rfl | rfl
    · exact hne rfl
    · exact n9a e
    · exact n9a e.symm
    · exact hne rfl
  have p5 : BAt w5 (A.past i) 132 (fArr s.n (A.pv i)) := by
    refine ((h.past i hi).kept h1 (fun h => h)).kept (S := fun x => (A.pv i k).ownBlock = some x) ⟨hg.os, hg.tape, hg.output, hg.size, fun q hq hn => hg.block q hq (fun e => hn e.symm)⟩ ?_
    exact fun e => h.inner i k _ hi hk e hpa
  have pvEq : ∀ j q, ¬ (j = i ∧ q = k) → (A.withPv i k (.slice (some ⟨g, 0, none⟩) l.length cap)).pv j q = A.pv j q := fun j q hn => upd2_other A.pv _ hn
  have pvNew : (A.withPv i k (.slice (some ⟨g, 0, none⟩) l.length cap)).pv i k = .slice (some ⟨g, 0, none⟩) l.length cap := upd2_same A.pv i k _
  have paEq : ∀ j q, ¬ (j = i ∧ q = k) → (s.withPast i k l).past j q = s.past j q := fun j q hn => upd2_other s.past _ hn
  have paNew : (s.withPast i k l).past i k = l := upd2_same s.past i k _
  refine ⟨⟨h.c.kept kk (far _ (by simp)), h.modes.kept kk (far _ (by simp)), h.rate.kept kk (far _ (by simp)), h.room.kept kk (far _ (by simp)), Nat.lt_of_lt_of_le h.sides kk.size, fun j hj => ?_, fun j hj => ?_, fun j hj => ?_, fun j hj => ?_, fun j q hj hq => ?_, h.nodup, fun j q x hj hq hx => ?_, fun j q j' q' x hj hq hj' hq' hx hx' => ?_⟩, rfl, rfl, ?_, ?_⟩
  · exact (World.cell?_of_block (w := w) (kk.block A.sides h.sides (far _ (by simp)))).trans (h.sp j hj)
  · exact (h.side j hj).kept kk (far _ (by rcases lt2n hj with rfl | rfl <;> simp))
  · exact (h.win j hj).kept kk (far _ (by rcases lt2n hj with rfl | rfl <;> simp))
  · by_cases hji : j = i
    · subst hji
      have := p5.set k (.slice (some ⟨g, 0, none⟩) l.length cap)
      rw [fArr_set] at this
      show BAt _ (A.past j) _ (fArr s.n (upd A.pv j (upd (A.pv j) k _) j))
      rw [upd_same]
      exact this
    · show BAt _ (A.past j) _ (fArr s.n (upd A.pv i (upd (A.pv i) k _) j))
      rw [upd_other _ _ hji]
      exact (h.past j hj).kept kk (nin _ (by rcases lt2n hj with rfl | rfl <;> simp [RA.all]) (hne10 j hj hji))
  · by_cases e : j = i ∧ q = k
    · obtain ⟨rfl, rfl⟩ := e
      rw [pvNew, paNew]
      have hb : ¬ g = A.past j := fun e => gNew (by rw [e]; exact hpa)
      refine owns_kept hown (S := fun x => x = A.past j) (Wrote.set (Kept.refl _ _) _ _) (fun x hx e => hb ?_)
      have hgx : g = x := by simpa [Value.ownBlock] using hx
      rw [hgx]
      exact e
    · rw [pvEq j q e, paEq j q e]
      refine (h.pv j q hj hq).kept kk (fun x hx hor => ?_)
      rcases hor with hx' | hx'
      · exact e (h.apart j q i k x hj hq hi hk hx hx')
      · exact h.inner j q x hj hq hx (by rw [hx']; exact hpa)
  · by_cases e : j = i ∧ q = k
    · obtain ⟨rfl, rfl⟩ := e
      rw [pvNew] at hx
      have : g = x := by simpa [Value.ownBlock] using hx
      rw [← this]; exact gNew
    · rw [pvEq j q e] at hx
      exact h.inner j q x hj hq hx
  · by_cases e : j = i ∧ q = k <;> by_cases e' : j' = i ∧ q' = k
    · obtain ⟨rfl, rfl⟩ := e
      obtain ⟨rfl, rfl⟩ := e'
      exact ⟨rfl, rfl⟩
    · obtain ⟨rfl, rfl⟩ := e
      rw [pvNew] at hx
      rw [pvEq j' q' e'] at hx'
      have hgx : g = x := by simpa [Value.ownBlock] using hx
      subst hgx
      rcases hat with ha | ha
      · exact h.apart j q j' q' g hi hk hj' hq' ha hx'
      · have := hlt g (.inr ⟨j', q', hj', hq', hx'⟩); omega
    · obtain ⟨rfl, rfl⟩ := e'
      rw [pvNew] at hx'
      rw [pvEq j q e] at hx
      have hgx : g = x := by simpa [Value.ownBlock] using hx'
      subst hgx
      rcases hat with ha | ha
      · exact h.apart j q j' q' g hj hq hi hk hx ha
      · have := hlt g (.inr ⟨j, q, hj, hq, hx⟩); omega
    · rw [pvEq j q e] at hx
      rw [pvEq j' q' e'] at hx'
      exact h.apart j q j' q' x hj hq hj' hq' hx hx'
  · refine kk.mono ?_
    rintro x (hx | hx)
    · exact .inr ⟨i, k, hi, hk, hx⟩
    · rw [hx]; exact .inl hpa
  · rintro x (hx | ⟨j, q, hj, hq, hx⟩)
    · exact .inl (.inl hx)
    · by_cases e : j = i ∧ q = k
      · obtain ⟨rfl, rfl⟩ := e
        rw [pvNew] at hx
        have hgx : g = x := by simpa [Value.ownBlock] using hx
        subst hgx
        rcases hat with ha | ha
        · exact .inl (.inr ⟨j, q, hj, hq, ha⟩)
        · exact .inr (by omega)
      · rw [pvEq j q e] at hx
        exact .inl (.inr ⟨j, q, hj, hq, hx⟩)

end Go.Proofs.YtpfahgogjeignaaDoor
