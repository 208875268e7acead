/-
  What the document's cluster is in memory.
-/
import Derived.Test.YtpfahgogjeignaaGreatDoorInts
set_option linter.unusedVariables false
set_option linter.unusedSimpArgs false
namespace Go.Proofs.YtpfahgogjeignaaGreatDoor
open Go.RowKit

/-- Something was done to a level: when, how much, and whether it was laid down. -/
structure Chg where
  t : Int
  amt : Int
  put : Bool

/-- The document's cluster: plain numbers. -/
structure RS where
  lease : Int
  window : Int
  n : Nat
  rate : Nat → Int
  room : Nat → Int
  now : Int
  holder : Int
  epoch : Int
  til : Int
  solo : Bool
  mode : Nat → Int
  up : Nat → Bool
  sep : Nat → Int
  stil : Nat → Int
  alone : Nat → Bool
  win : Nat → Nat → Int
  past : Nat → Nat → List Chg

/-- Where it lies: blocks, capacities, the values of the inner lists. -/
structure RA where
  c : Nat
  rate : Nat
  room : Nat
  modes : Nat
  sides : Nat
  rc : Nat
  oc : Nat
  sc : Nat
  side : Nat → Nat
  win : Nat → Nat
  past : Nat → Nat
  pv : Nat → Nat → Value

def rArr (A : RA) (s : RS) : Array Value := #[.int .i64 s.lease, .int .i64 s.window, .slice (some ⟨A.rate, 0, none⟩) s.n A.rc, .slice (some ⟨A.room, 0, none⟩) s.n A.oc, .int .i64 s.now, .int .i64 s.holder, .int .i64 s.epoch, .int .i64 s.til, .bool s.solo, .slice (some ⟨A.modes, 0, none⟩) 3 3, .slice (some ⟨A.sides, 0, none⟩) 2 A.sc]
def sArr (A : RA) (s : RS) (i : Nat) : Array Value := #[.bool (s.up i), .int .i64 (s.sep i), .int .i64 (s.stil i), .bool (s.alone i), .slice (some ⟨A.win i, 0, none⟩) s.n s.n, .slice (some ⟨A.past i, 0, none⟩) s.n s.n]
def mArr (s : RS) : Array Value := #[.int .i64 (s.mode 0), .int .i64 (s.mode 1), .int .i64 (s.mode 2)]
theorem rg0 (A : RA) (s : RS) : (rArr A s)[0]? = some (.int .i64 s.lease) := rfl
theorem rg1 (A : RA) (s : RS) : (rArr A s)[1]? = some (.int .i64 s.window) := rfl
theorem rg2 (A : RA) (s : RS) : (rArr A s)[2]? = some (.slice (some ⟨A.rate, 0, none⟩) s.n A.rc) := rfl
theorem rg3 (A : RA) (s : RS) : (rArr A s)[3]? = some (.slice (some ⟨A.room, 0, none⟩) s.n A.oc) := rfl
theorem rg4 (A : RA) (s : RS) : (rArr A s)[4]? = some (.int .i64 s.now) := rfl
theorem rg5 (A : RA) (s : RS) : (rArr A s)[5]? = some (.int .i64 s.holder) := rfl
theorem rg6 (A : RA) (s : RS) : (rArr A s)[6]? = some (.int .i64 s.epoch) := rfl
theorem rg7 (A : RA) (s : RS) : (rArr A s)[7]? = some (.int .i64 s.til) := rfl
theorem rg8 (A : RA) (s : RS) : (rArr A s)[8]? = some (.bool s.solo) := rfl
theorem rg9 (A : RA) (s : RS) : (rArr A s)[9]? = some (.slice (some ⟨A.modes, 0, none⟩) 3 3) := rfl
theorem rg10 (A : RA) (s : RS) : (rArr A s)[10]? = some (.slice (some ⟨A.sides, 0, none⟩) 2 A.sc) := rfl
theorem sg0 (A : RA) (s : RS) (i : Nat) : (sArr A s i)[0]? = some (.bool (s.up i)) := rfl
theorem sg1 (A : RA) (s : RS) (i : Nat) : (sArr A s i)[1]? = some (.int .i64 (s.sep i)) := rfl
theorem sg2 (A : RA) (s : RS) (i : Nat) : (sArr A s i)[2]? = some (.int .i64 (s.stil i)) := rfl
theorem sg3 (A : RA) (s : RS) (i : Nat) : (sArr A s i)[3]? = some (.bool (s.alone i)) := rfl
theorem sg4 (A : RA) (s : RS) (i : Nat) : (sArr A s i)[4]? = some (.slice (some ⟨A.win i, 0, none⟩) s.n s.n) := rfl
theorem sg5 (A : RA) (s : RS) (i : Nat) : (sArr A s i)[5]? = some (.slice (some ⟨A.past i, 0, none⟩) s.n s.n) := rfl
theorem mg0 (s : RS) : (mArr s)[0]? = some (.int .i64 (s.mode 0)) := rfl
theorem mg1 (s : RS) : (mArr s)[1]? = some (.int .i64 (s.mode 1)) := rfl
theorem mg2 (s : RS) : (mArr s)[2]? = some (.int .i64 (s.mode 2)) := rfl
theorem mgk (s : RS) (k : Int) (h0 : 0 ≤ k) (h : k < 3) : (mArr s)[k.toNat]? = some (.int .i64 (s.mode k.toNat)) := by
  rcases lt3 h0 h with rfl | rfl | rfl <;> rfl

def pastCells : List Chg → List Value
  | [] => []
  | c :: r => .int .i64 c.t :: .int .i64 c.amt :: .bool c.put :: pastCells r
theorem pastCells_length (l : List Chg) : (pastCells l).length = l.length * 3 := by
  induction l with
  | nil => rfl
  | cons c r ih => simp only [pastCells, List.length_cons, ih]; omega
theorem pastCells_append (l m : List Chg) : pastCells (l ++ m) = pastCells l ++ pastCells m := by
  induction l with
  | nil => rfl
  | cons c r ih => simp only [List.cons_append, pastCells, ih]
theorem pastCells_get (l : List Chg) (j : Nat) (h : j < l.length) :
    (pastCells l)[j * 3]? = some (.int .i64 l[j].t) ∧ (pastCells l)[j * 3 + 1]? = some (.int .i64 l[j].amt) ∧ (pastCells l)[j * 3 + 2]? = some (.bool l[j].put) := by
  induction l generalizing j with
  | nil => exact absurd h (Nat.not_lt_zero _)
  | cons c r ih =>
    cases j with
    | zero => exact ⟨rfl, rfl, rfl⟩
    | succ j =>
      have := ih j (by simpa using h)
      rw [show (j + 1) * 3 = j * 3 + 3 by omega]
      exact this

/-- A level's past lies there. -/
def PastAt (w : World) (v : Value) (l : List Chg) : Prop := w.ownsRow 0 109 3 v l.length (pastCells l)
theorem PastAt.kept {w w' : World} {v : Value} {l : List Chg} {S : Nat → Prop} (h : PastAt w v l) (k : Kept S w w') (hs : ∀ g, v.ownBlock = some g → ¬ S g) : PastAt w' v l := by
  refine ⟨h.1, ?_⟩
  rcases h.2 with h2 | ⟨g, cap, cur, rfl, h0, hh, r⟩
  · exact .inl h2
  · refine .inr ⟨g, cap, cur, rfl, h0, ?_, r⟩
    have hb : g < w.heap.size := by
      rcases Nat.lt_or_ge g w.heap.size with h' | h'
      · exact h'
      · rw [Array.getElem?_eq_none h'] at hh; cases hh
    rw [k.block g hb (hs g rfl), hh]

/-- The blocks of a cluster, but for the inner lists'. -/
def RA.all (A : RA) : List Nat := [A.c, A.rate, A.room, A.modes, A.sides, A.side 0, A.side 1, A.win 0, A.win 1, A.past 0, A.past 1]

/-- The document's cluster lies there. -/
structure RAt (w : World) (A : RA) (s : RS) : Prop where
  c : BAt w A.c 68 (rArr A s)
  modes : BAt w A.modes 3 (mArr s)
  rate : Row w A.rate s.n s.rate
  room : Row w A.room s.n s.room
  sides : A.sides < w.heap.size
  sp : ∀ i, i < 2 → w.cell? ⟨A.sides, i, none⟩ = some (.pointer (some ⟨A.side i, 0, none⟩))
  side : ∀ i, i < 2 → BAt w (A.side i) 72 (sArr A s i)
  win : ∀ i, i < 2 → BAt w (A.win i) 3 (fArr s.n fun k => .int .i64 (s.win i k))
  past : ∀ i, i < 2 → BAt w (A.past i) 107 (fArr s.n (A.pv i))
  pv : ∀ i k, i < 2 → k < s.n → PastAt w (A.pv i k) (s.past i k)
  nodup : A.all.Nodup
  inner : ∀ i k g, i < 2 → k < s.n → (A.pv i k).ownBlock = some g → g ∉ A.all
  apart : ∀ i k i' k' g, i < 2 → k < s.n → i' < 2 → k' < s.n → (A.pv i k).ownBlock = some g → (A.pv i' k').ownBlock = some g → i = i' ∧ k = k'

/-- All its blocks. -/
def RA.in (A : RA) (n : Nat) (g : Nat) : Prop := g ∈ A.all ∨ ∃ i k, i < 2 ∧ k < n ∧ (A.pv i k).ownBlock = some g

theorem RAt.kept {w w' : World} {A : RA} {s : RS} {S : Nat → Prop} (h : RAt w A s) (k : Kept S w w') (hs : ∀ g, A.in s.n g → ¬ S g) : RAt w' A s := by
  have m : ∀ g, g ∈ A.all → ¬ S g := fun g hg => hs g (.inl hg)
  refine ⟨h.c.kept k (m _ (by simp [RA.all])), h.modes.kept k (m _ (by simp [RA.all])), h.rate.kept k (m _ (by simp [RA.all])), h.room.kept k (m _ (by simp [RA.all])), Nat.lt_of_lt_of_le h.sides k.size, fun i hi => ?_, fun i hi => ?_, fun i hi => ?_, fun i hi => ?_, fun i q hi hq => ?_, h.nodup, h.inner, h.apart⟩
  · exact (World.cell?_of_block (w := w) (k.block A.sides h.sides (m _ (by simp [RA.all])))).trans (h.sp i hi)
  · exact (h.side i hi).kept k (m _ (by rcases (by omega : i = 0 ∨ i = 1) with rfl | rfl <;> simp [RA.all]))
  · exact (h.win i hi).kept k (m _ (by rcases (by omega : i = 0 ∨ i = 1) with rfl | rfl <;> simp [RA.all]))
  · exact (h.past i hi).kept k (m _ (by rcases (by omega : i = 0 ∨ i = 1) with rfl | rfl <;> simp [RA.all]))
  · exact (h.pv i q hi hq).kept k (fun g hg => hs g (.inr ⟨i, q, hi, hq, hg⟩))
theorem RAt.same {w w' : World} {A : RA} {s : RS} (h : RAt w A s) (k : Same w w') : RAt w' A s := h.kept k (fun _ _ h => h)
theorem RAt.drewN {w : World} {A : RA} {s : RS} (h : RAt w A s) (n : Nat) : RAt (w.drewN n) A s := h.same ((Kept.refl _ _).drewN n)

/-- A past as it may be: times in their order, amounts in their bounds. -/
def ChOk (room : Int) : Int → Int → List Chg → Prop
  | lo, now, [] => lo ≤ now
  | lo, now, c :: r => lo ≤ c.t ∧ 0 ≤ c.amt ∧ c.amt ≤ 3000000 ∧ (c.put = true → c.amt ≤ room) ∧ ChOk room c.t now r

/-- What holds of every cluster of the document's. -/
structure RS.Ok (s : RS) : Prop where
  lease0 : 1 ≤ s.lease
  lease1 : s.lease ≤ 1000
  win0 : 0 ≤ s.window
  win1 : s.window ≤ 1000000
  n0 : 1 ≤ s.n
  n1 : s.n ≤ 4
  rate0 : ∀ k, 0 ≤ s.rate k
  rate1 : ∀ k, s.rate k ≤ 1000
  room0 : ∀ k, 0 ≤ s.room k
  room1 : ∀ k, s.room k ≤ 1000000
  now0 : 0 ≤ s.now
  now1 : s.now ≤ 1000000000000
  chs : ∀ i k, i < 2 → k < s.n → ChOk (s.room k) 0 s.now (s.past i k)

end Go.Proofs.YtpfahgogjeignaaGreatDoor
