/-
  How the document's cluster is written.
-/
import Derived.Test.YtpfahgogjeignaaGreatDoorRefA
set_option linter.unusedVariables false
set_option linter.unusedSimpArgs false
namespace Go.Proofs.YtpfahgogjeignaaGreatDoor
open Go.RowKit

theorem RAt.lt {w : World} {A : RA} {s : RS} (h : RAt w A s) : ∀ g, g ∈ A.all → g < w.heap.size := by
  intro g hg
  simp only [RA.all, List.mem_cons, List.not_mem_nil, or_false] at hg
  rcases hg with rfl | rfl | rfl | rfl | rfl | rfl | rfl | rfl | rfl | rfl | rfl
  · exact h.c.lt
  · exact h.rate.1
  · exact h.room.1
  · exact h.modes.lt
  · exact h.sides
  · exact (h.side 0 (by omega)).lt
  · exact (h.side 1 (by omega)).lt
  · exact (h.win 0 (by omega)).lt
  · exact (h.win 1 (by omega)).lt
  · exact (h.past 0 (by omega)).lt
  · exact (h.past 1 (by omega)).lt
theorem RAt.in_lt {w : World} {A : RA} {s : RS} (h : RAt w A s) : ∀ g, A.in s.n g → g < w.heap.size := by
  rintro g (hg | ⟨i, k, hi, hk, hg⟩)
  · exact h.lt g hg
  · have hp := h.pv i k hi hk
    rcases hp.2 with ⟨hv, _⟩ | ⟨g', cap, cur, hv, _, hh, _⟩
    · rw [hv] at hg; cases hg
    · rw [hv] at hg
      have eg : g' = g := by simpa [Value.ownBlock] using hg
      subst eg
      rcases Nat.lt_or_ge g' w.heap.size with h' | h'
      · exact h'
      · rw [Array.getElem?_eq_none h'] at hh; cases hh
theorem in_all {A : RA} {n g : Nat} (h : g ∈ A.all) : A.in n g := .inl h

/-- The witness's and the time's numbers are written. -/
theorem RAt.setC {w w' : World} {A : RA} {s : RS} (h : RAt w A s) (now holder epoch til : Int) (solo : Bool) (k : Kept (fun g => g = A.c) w w')
    (hc : BAt w' A.c 68 (rArr A { s with now := now, holder := holder, epoch := epoch, til := til, solo := solo })) :
    RAt w' A { s with now := now, holder := holder, epoch := epoch, til := til, solo := solo } := by
  have nd := h.nodup
  simp only [RA.all, List.nodup_cons, List.mem_cons, List.not_mem_nil, or_false, not_or] at nd
  have hin : ∀ i q g, i < 2 → q < s.n → (A.pv i q).ownBlock = some g → ¬ g = A.c := fun i q g hi hq hg e => h.inner i q g hi hq hg (by simp [RA.all, e])
  refine ⟨hc, h.modes.kept k (fun e => nd.1.2.2.1 e.symm), h.rate.kept k (fun e => nd.1.1 e.symm), h.room.kept k (fun e => nd.1.2.1 e.symm), Nat.lt_of_lt_of_le h.sides k.size, fun i hi => ?_, fun i hi => ?_, fun i hi => ?_, fun i hi => ?_, fun i q hi hq => ?_, h.nodup, h.inner, h.apart⟩
  · exact (World.cell?_of_block (w := w) (k.block A.sides h.sides (fun e => nd.1.2.2.2.1 e.symm))).trans (h.sp i hi)
  · exact (h.side i hi).kept k (by rcases lt2n hi with rfl | rfl <;> (intro e; simp_all))
  · exact (h.win i hi).kept k (by rcases lt2n hi with rfl | rfl <;> (intro e; simp_all))
  · exact (h.past i hi).kept k (by rcases lt2n hi with rfl | rfl <;> (intro e; simp_all))
  · exact (h.pv i q hi hq).kept k (fun g hg => hin i q g hi hq hg)

/-- The modes are written. -/
theorem RAt.setM {w w' : World} {A : RA} {s : RS} (h : RAt w A s) (mode : Nat → Int) (k : Kept (fun g => g = A.modes) w w')
    (hc : BAt w' A.modes 3 (mArr { s with mode := mode })) : RAt w' A { s with mode := mode } := by
  have nd := h.nodup
  simp only [RA.all, List.nodup_cons, List.mem_cons, List.not_mem_nil, or_false, not_or] at nd
  have hin : ∀ i q g, i < 2 → q < s.n → (A.pv i q).ownBlock = some g → ¬ g = A.modes := fun i q g hi hq hg e => h.inner i q g hi hq hg (by simp [RA.all, e])
  refine ⟨h.c.kept k (fun e => nd.1.2.2.1 e), hc, h.rate.kept k (by intro e; simp_all), h.room.kept k (by intro e; simp_all), Nat.lt_of_lt_of_le h.sides k.size, fun i hi => ?_, fun i hi => ?_, fun i hi => ?_, fun i hi => ?_, fun i q hi hq => ?_, h.nodup, h.inner, h.apart⟩
  · exact (World.cell?_of_block (w := w) (k.block A.sides h.sides (by intro e; simp_all))).trans (h.sp i hi)
  · exact (h.side i hi).kept k (by rcases lt2n hi with rfl | rfl <;> (intro e; simp_all))
  · exact (h.win i hi).kept k (by rcases lt2n hi with rfl | rfl <;> (intro e; simp_all))
  · exact (h.past i hi).kept k (by rcases lt2n hi with rfl | rfl <;> (intro e; simp_all))
  · exact (h.pv i q hi hq).kept k (fun g hg => hin i q g hi hq hg)

/-- A side is written; its window's row is a new one, or the old one unturned. -/
def RA.withWin (A : RA) (i g : Nat) : RA := { A with win := upd A.win i g }
def RS.withSide (s : RS) (i : Nat) (up : Bool) (sep stil : Int) (alone : Bool) (win : Nat → Int) : RS :=
  { s with up := upd s.up i up, sep := upd s.sep i sep, stil := upd s.stil i stil, alone := upd s.alone i alone, win := upd s.win i win }

theorem mem_withWin {A : RA} {i g x : Nat} (hi : i < 2) (h : x ∈ (A.withWin i g).all) : x = g ∨ x ∈ A.all := by
  rcases lt2n hi with rfl | rfl
  · have h' : x ∈ [A.c, A.rate, A.room, A.modes, A.sides, A.side 0, A.side 1, g, A.win 1, A.past 0, A.past 1] := h
    simp only [List.mem_cons, List.not_mem_nil, or_false] at h'
    rcases h' with h' | h' | h' | h' | h' | h' | h' | h' | h' | h' | h' <;> simp [RA.all, h']
  · have h' : x ∈ [A.c, A.rate, A.room, A.modes, A.sides, A.side 0, A.side 1, A.win 0, g, A.past 0, A.past 1] := h
    simp only [List.mem_cons, List.not_mem_nil, or_false] at h'
    rcases h' with h' | h' | h' | h' | h' | h' | h' | h' | h' | h' | h' <;> simp [RA.all, h']

set_option maxHeartbeats 1000000 in
theorem RAt.setSide {w w' : World} {A : RA} {s : RS} (h : RAt w A s) (i g : Nat) (hi : i < 2) (up : Bool) (sep stil : Int) (alone : Bool) (win : Nat → Int) (k : Kept (fun x => x = A.side i) w w')
    (hc : BAt w' (A.side i) 72 (sArr (A.withWin i g) (s.withSide i up sep stil alone win) i)) (hg : g = A.win i ∨ w.heap.size ≤ g) (hw : BAt w' g 3 (fArr s.n fun q => .int .i64 (win q))) :
    RAt w' (A.withWin i g) (s.withSide i up sep stil alone win) := by
  have nd := h.nodup
  have lt := h.lt
  have hin : ∀ j q g', j < 2 → q < s.n → (A.pv j q).ownBlock = some g' → ¬ g' = A.side i := fun j q g' hj hq hg' e => h.inner j q g' hj hq hg' (by rcases lt2n hi with rfl | rfl <;> simp [RA.all, e])
  have hil := h.in_lt
  have c0 := lt A.c (by simp [RA.all])
  have c1 := lt A.rate (by simp [RA.all])
  have c2 := lt A.room (by simp [RA.all])
  have c3 := lt A.modes (by simp [RA.all])
  have c4 := lt A.sides (by simp [RA.all])
  have c5 := lt (A.side 0) (by simp [RA.all])
  have c6 := lt (A.side 1) (by simp [RA.all])
  have c7 := lt (A.win 0) (by simp [RA.all])
  have c8 := lt (A.win 1) (by simp [RA.all])
  have c9 := lt (A.past 0) (by simp [RA.all])
  have c10 := lt (A.past 1) (by simp [RA.all])
  simp only [RA.all, List.nodup_cons, List.mem_cons, List.not_mem_nil, or_false, not_or, not_false_eq_true, List.nodup_nil, and_true] at nd
  obtain ⟨⟨n01, n02, n03, n04, n05, n06, n07, n08, n09, n0a⟩, ⟨n12, n13, n14, n15, n16, n17, n18, n19, n1a⟩, ⟨n23, n24, n25, n26, n27, n28, n29, n2a⟩, ⟨n34, n35, n36, n37, n38, n39, n3a⟩, ⟨n45, n46, n47, n48, n49, n4a⟩, ⟨n56, n57, n58, n59, n5a⟩, ⟨n67, n68, n69, n6a⟩, ⟨n78, n79, n7a⟩, ⟨n89, n8a⟩, n9a⟩ := nd
  rcases lt2n hi with rfl | rfl
  · have u0 : ∀ j, j < 2 → (A.withWin 0 g).win j = if j = 0 then g else A.win j := fun j _ => rfl
    refine ⟨h.c.kept k n05, h.modes.kept k n35, h.rate.kept k n15, h.room.kept k n25, Nat.lt_of_lt_of_le h.sides k.size, fun j hj => ?_, fun j hj => ?_, fun j hj => ?_, fun j hj => ?_, fun j q hj hq => ?_, ?_, fun j q g' hj hq hg' hm => ?_, h.apart⟩
    · exact (World.cell?_of_block (w := w) (k.block A.sides h.sides n45)).trans (h.sp j hj)
    · rcases lt2n hj with rfl | rfl
      · exact hc
      · exact (h.side 1 (by omega)).kept k (fun e => n56 e.symm)
    · rcases lt2n hj with rfl | rfl
      · exact hw
      · exact (h.win 1 (by omega)).kept k (fun e => n58 e.symm)
    · exact (h.past j hj).kept k (by rcases lt2n hj with rfl | rfl <;> (intro e; simp_all))
    · exact (h.pv j q hj hq).kept k (fun g' hg' => hin j q g' hj hq hg')
    · show [A.c, A.rate, A.room, A.modes, A.sides, A.side 0, A.side 1, g, A.win 1, A.past 0, A.past 1].Nodup
      simp only [List.nodup_cons, List.mem_cons, List.not_mem_nil, or_false, not_or, not_false_eq_true, List.nodup_nil, and_true]
      rcases hg with rfl | hg
      · exact ⟨⟨n01, n02, n03, n04, n05, n06, n07, n08, n09, n0a⟩, ⟨n12, n13, n14, n15, n16, n17, n18, n19, n1a⟩, ⟨n23, n24, n25, n26, n27, n28, n29, n2a⟩, ⟨n34, n35, n36, n37, n38, n39, n3a⟩, ⟨n45, n46, n47, n48, n49, n4a⟩, ⟨n56, n57, n58, n59, n5a⟩, ⟨n67, n68, n69, n6a⟩, ⟨n78, n79, n7a⟩, ⟨n89, n8a⟩, n9a⟩
      · exact ⟨⟨n01, n02, n03, n04, n05, n06, by omega, n08, n09, n0a⟩, ⟨n12, n13, n14, n15, n16, by omega, n18, n19, n1a⟩, ⟨n23, n24, n25, n26, by omega, n28, n29, n2a⟩, ⟨n34, n35, n36, by omega, n38, n39, n3a⟩, ⟨n45, n46, by omega, n48, n49, n4a⟩, ⟨n56, by omega, n58, n59, n5a⟩, ⟨by omega, n68, n69, n6a⟩, ⟨by omega, by omega, by omega⟩, ⟨n89, n8a⟩, n9a⟩
    · have hin' := h.inner j q g' hj hq hg'
      have hl := hil g' (.inr ⟨j, q, hj, hq, hg'⟩)
      rcases mem_withWin (by omega) hm with e | hm'
      · rcases hg with hg | hg
        · exact hin' (by rw [e, hg]; simp [RA.all])
        · omega
      · exact hin' hm'
  · refine ⟨h.c.kept k n06, h.modes.kept k n36, h.rate.kept k n16, h.room.kept k n26, Nat.lt_of_lt_of_le h.sides k.size, fun j hj => ?_, fun j hj => ?_, fun j hj => ?_, fun j hj => ?_, fun j q hj hq => ?_, ?_, fun j q g' hj hq hg' hm => ?_, h.apart⟩
    · exact (World.cell?_of_block (w := w) (k.block A.sides h.sides n46)).trans (h.sp j hj)
    · rcases lt2n hj with rfl | rfl
      · exact (h.side 0 (by omega)).kept k n56
      · exact hc
    · rcases lt2n hj with rfl | rfl
      · exact (h.win 0 (by omega)).kept k (fun e => n67 e.symm)
      · exact hw
    · exact (h.past j hj).kept k (by rcases lt2n hj with rfl | rfl <;> (intro e; simp_all))
    · exact (h.pv j q hj hq).kept k (fun g' hg' => hin j q g' hj hq hg')
    · show [A.c, A.rate, A.room, A.modes, A.sides, A.side 0, A.side 1, A.win 0, g, A.past 0, A.past 1].Nodup
      simp only [List.nodup_cons, List.mem_cons, List.not_mem_nil, or_false, not_or, not_false_eq_true, List.nodup_nil, and_true]
      rcases hg with rfl | hg
      · exact ⟨⟨n01, n02, n03, n04, n05, n06, n07, n08, n09, n0a⟩, ⟨n12, n13, n14, n15, n16, n17, n18, n19, n1a⟩, ⟨n23, n24, n25, n26, n27, n28, n29, n2a⟩, ⟨n34, n35, n36, n37, n38, n39, n3a⟩, ⟨n45, n46, n47, n48, n49, n4a⟩, ⟨n56, n57, n58, n59, n5a⟩, ⟨n67, n68, n69, n6a⟩, ⟨n78, n79, n7a⟩, ⟨n89, n8a⟩, n9a⟩
      · exact ⟨⟨n01, n02, n03, n04, n05, n06, n07, by omega, n09, n0a⟩, ⟨n12, n13, n14, n15, n16, n17, by omega, n19, n1a⟩, ⟨n23, n24, n25, n26, n27, by omega, n29, n2a⟩, ⟨n34, n35, n36, n37, by omega, n39, n3a⟩, ⟨n45, n46, n47, by omega, n49, n4a⟩, ⟨n56, n57, by omega, n59, n5a⟩, ⟨n67, by omega, n69, n6a⟩, ⟨by omega, n79, n7a⟩, ⟨by omega, by omega⟩, n9a⟩
    · have hin' := h.inner j q g' hj hq hg'
      have hl := hil g' (.inr ⟨j, q, hj, hq, hg'⟩)
      rcases mem_withWin (by omega) hm with e | hm'
      · rcases hg with hg | hg
        · exact hin' (by rw [e, hg]; simp [RA.all])
        · omega
      · exact hin' hm'

/-- From A to A': the same cluster; what was written lay in A; what A' has more is new. -/
structure RStep (n : Nat) (A A' : RA) (w w' : World) : Prop where
  c : A'.c = A.c
  side : A'.side = A.side
  kept : Kept (A.in n) w w'
  new : ∀ g, A'.in n g → A.in n g ∨ w.heap.size ≤ g

theorem RStep.refl (n : Nat) (A : RA) {w w' : World} (k : Same w w') : RStep n A A w w' := ⟨rfl, rfl, k.mono (fun _ h => h.elim), fun _ h => .inl h⟩
theorem RStep.win {n : Nat} {A : RA} {w w' : World} (i g : Nat) (k : Kept (A.in n) w w') (hg : A.in n g ∨ w.heap.size ≤ g) (hi : i < 2) : RStep n A (A.withWin i g) w w' := by
  refine ⟨rfl, rfl, k, ?_⟩
  rintro x (hx | hx)
  · rcases mem_withWin hi hx with e | hm
    · rw [e]; exact hg
    · exact .inl (.inl hm)
  · exact .inl (.inr hx)

end Go.Proofs.YtpfahgogjeignaaGreatDoor
