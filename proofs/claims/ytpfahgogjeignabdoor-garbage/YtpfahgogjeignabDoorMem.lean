/-
  What the program's cluster is in memory: a block of 43 cells; a record of plain numbers for it; how worlds are kept.
-/
import Derived.Test.YtpfahgogjeignabDoorRows
import Derived.WalkKit
import Derived.WalkSpells
import Derived.WalkLawsBesides
set_option linter.unusedVariables false
set_option linter.unusedSimpArgs false
namespace Go.Proofs.YtpfahgogjeignabDoor
open Go.RowKit

/-- The program's cluster: plain numbers. -/
structure PC where
  lease : Int
  window : Int
  count : Int
  rate : Nat → Int
  burst : Nat → Int
  now : Int
  link : Nat → Int
  up : Nat → Bool
  epoch : Nat → Int
  til : Nat → Int
  alone : Nat → Bool
  lev : Nat → Nat → Int
  win : Nat → Nat → Int
  holder : Int
  wepoch : Int
  wtil : Int
  solo : Bool

/-- .. as cells. -/
def pcArr (s : PC) : Array Value := #[.int .i64 s.lease,
  .int .i64 s.window,
  .int .i64 s.count,
  .int .i64 (s.rate 0),
  .int .i64 (s.burst 0),
  .int .i64 (s.rate 1),
  .int .i64 (s.burst 1),
  .int .i64 (s.rate 2),
  .int .i64 (s.burst 2),
  .int .i64 (s.rate 3),
  .int .i64 (s.burst 3),
  .int .i64 s.now,
  .int .i64 (s.link 0),
  .int .i64 (s.link 1),
  .int .i64 (s.link 2),
  .bool (s.up 0),
  .int .i64 (s.epoch 0),
  .int .i64 (s.til 0),
  .bool (s.alone 0),
  .int .i64 (s.lev 0 0),
  .int .i64 (s.lev 0 1),
  .int .i64 (s.lev 0 2),
  .int .i64 (s.lev 0 3),
  .int .i64 (s.win 0 0),
  .int .i64 (s.win 0 1),
  .int .i64 (s.win 0 2),
  .int .i64 (s.win 0 3),
  .bool (s.up 1),
  .int .i64 (s.epoch 1),
  .int .i64 (s.til 1),
  .bool (s.alone 1),
  .int .i64 (s.lev 1 0),
  .int .i64 (s.lev 1 1),
  .int .i64 (s.lev 1 2),
  .int .i64 (s.lev 1 3),
  .int .i64 (s.win 1 0),
  .int .i64 (s.win 1 1),
  .int .i64 (s.win 1 2),
  .int .i64 (s.win 1 3),
  .int .i64 s.holder,
  .int .i64 s.wepoch,
  .int .i64 s.wtil,
  .bool s.solo]

theorem pcg0 (s : PC) : (pcArr s)[0]? = some (.int .i64 s.lease) := rfl
theorem pcg1 (s : PC) : (pcArr s)[1]? = some (.int .i64 s.window) := rfl
theorem pcg2 (s : PC) : (pcArr s)[2]? = some (.int .i64 s.count) := rfl
theorem pcg3 (s : PC) : (pcArr s)[3]? = some (.int .i64 (s.rate 0)) := rfl
theorem pcg4 (s : PC) : (pcArr s)[4]? = some (.int .i64 (s.burst 0)) := rfl
theorem pcg5 (s : PC) : (pcArr s)[5]? = some (.int .i64 (s.rate 1)) := rfl
theorem pcg6 (s : PC) : (pcArr s)[6]? = some (.int .i64 (s.burst 1)) := rfl
theorem pcg7 (s : PC) : (pcArr s)[7]? = some (.int .i64 (s.rate 2)) := rfl
theorem pcg8 (s : PC) : (pcArr s)[8]? = some (.int .i64 (s.burst 2)) := rfl
theorem pcg9 (s : PC) : (pcArr s)[9]? = some (.int .i64 (s.rate 3)) := rfl
theorem pcg10 (s : PC) : (pcArr s)[10]? = some (.int .i64 (s.burst 3)) := rfl
theorem pcg11 (s : PC) : (pcArr s)[11]? = some (.int .i64 s.now) := rfl
theorem pcg12 (s : PC) : (pcArr s)[12]? = some (.int .i64 (s.link 0)) := rfl
theorem pcg13 (s : PC) : (pcArr s)[13]? = some (.int .i64 (s.link 1)) := rfl
theorem pcg14 (s : PC) : (pcArr s)[14]? = some (.int .i64 (s.link 2)) := rfl
theorem pcg15 (s : PC) : (pcArr s)[15]? = some (.bool (s.up 0)) := rfl
theorem pcg16 (s : PC) : (pcArr s)[16]? = some (.int .i64 (s.epoch 0)) := rfl
theorem pcg17 (s : PC) : (pcArr s)[17]? = some (.int .i64 (s.til 0)) := rfl
theorem pcg18 (s : PC) : (pcArr s)[18]? = some (.bool (s.alone 0)) := rfl
theorem pcg19 (s : PC) : (pcArr s)[19]? = some (.int .i64 (s.lev 0 0)) := rfl
theorem pcg20 (s : PC) : (pcArr s)[20]? = some (.int .i64 (s.lev 0 1)) := rfl
theorem pcg21 (s : PC) : (pcArr s)[21]? = some (.int .i64 (s.lev 0 2)) := rfl
theorem pcg22 (s : PC) : (pcArr s)[22]? = some (.int .i64 (s.lev 0 3)) := rfl
theorem pcg23 (s : PC) : (pcArr s)[23]? = some (.int .i64 (s.win 0 0)) := rfl
theorem pcg24 (s : PC) : (pcArr s)[24]? = some (.int .i64 (s.win 0 1)) := rfl
theorem pcg25 (s : PC) : (pcArr s)[25]? = some (.int .i64 (s.win 0 2)) := rfl
theorem pcg26 (s : PC) : (pcArr s)[26]? = some (.int .i64 (s.win 0 3)) := rfl
theorem pcg27 (s : PC) : (pcArr s)[27]? = some (.bool (s.up 1)) := rfl
theorem pcg28 (s : PC) : (pcArr s)[28]? = some (.int .i64 (s.epoch 1)) := rfl
theorem pcg29 (s : PC) : (pcArr s)[29]? = some (.int .i64 (s.til 1)) := rfl
theorem pcg30 (s : PC) : (pcArr s)[30]? = some (.bool (s.alone 1)) := rfl
theorem pcg31 (s : PC) : (pcArr s)[31]? = some (.int .i64 (s.lev 1 0)) := rfl
theorem pcg32 (s : PC) : (pcArr s)[32]? = some (.int .i64 (s.lev 1 1)) := rfl
theorem pcg33 (s : PC) : (pcArr s)[33]? = some (.int .i64 (s.lev 1 2)) := rfl
theorem pcg34 (s : PC) : (pcArr s)[34]? = some (.int .i64 (s.lev 1 3)) := rfl
theorem pcg35 (s : PC) : (pcArr s)[35]? = some (.int .i64 (s.win 1 0)) := rfl
theorem pcg36 (s : PC) : (pcArr s)[36]? = some (.int .i64 (s.win 1 1)) := rfl
theorem pcg37 (s : PC) : (pcArr s)[37]? = some (.int .i64 (s.win 1 2)) := rfl
theorem pcg38 (s : PC) : (pcArr s)[38]? = some (.int .i64 (s.win 1 3)) := rfl
theorem pcg39 (s : PC) : (pcArr s)[39]? = some (.int .i64 s.holder) := rfl
theorem pcg40 (s : PC) : (pcArr s)[40]? = some (.int .i64 s.wepoch) := rfl
theorem pcg41 (s : PC) : (pcArr s)[41]? = some (.int .i64 s.wtil) := rfl
theorem pcg42 (s : PC) : (pcArr s)[42]? = some (.bool s.solo) := rfl

theorem cell_of_block {w : World} {g : Nat} {cs : Array Value} {t : TypeId} {fr : Nat × Nat} (h : w.heap[g]? = some (.cells cs t fr)) (i : Nat) : w.cell? ⟨g, i, none⟩ = cs[i]? := by simp [World.cell?, h]
theorem unfrozen_of_block {w : World} {g : Nat} {cs : Array Value} {t : TypeId} (h : w.heap[g]? = some (.cells cs t (0, 0))) (i : Nat) : w.frozen? ⟨g, i, none⟩ = false := by simp [World.frozen?, h]
theorem block_setCell {w : World} {g i : Nat} {cs : Array Value} {t : TypeId} {fr : Nat × Nat} (h : w.heap[g]? = some (.cells cs t fr)) (v : Value) : (w.setCell ⟨g, i, none⟩ v).heap[g]? = some (.cells (cs.setIfInBounds i v) t fr) := by
  simp [World.setCell, Array.getElem?_modify, h]

/-- The block b is the cluster s. -/
def PAt (w : World) (b : Nat) (s : PC) : Prop := w.heap[b]? = some (.cells (pcArr s) 68 (0, 0))

theorem PAt.lt {w : World} {b : Nat} {s : PC} (h : PAt w b s) : b < w.heap.size := by
  unfold PAt at h
  rcases Nat.lt_or_ge b w.heap.size with h' | h'
  · exact h'
  · rw [Array.getElem?_eq_none h'] at h; cases h
theorem PAt.cell {w : World} {b : Nat} {s : PC} (h : PAt w b s) : ∀ o, w.cell? ⟨b, o, none⟩ = (pcArr s)[o]? := fun o => cell_of_block h o
theorem PAt.free {w : World} {b : Nat} {s : PC} (h : PAt w b s) : ∀ o, w.frozen? ⟨b, o, none⟩ = false := fun o => unfrozen_of_block h o
theorem PAt.set {w : World} {b : Nat} {s : PC} (h : PAt w b s) (o : Nat) (v : Value) (s' : PC) (e : (pcArr s).setIfInBounds o v = pcArr s') : PAt (w.setCell ⟨b, o, none⟩ v) b s' := by
  unfold PAt at *
  rw [block_setCell h v, e]

/-- Old blocks outside S are as they were. -/
structure Kept (S : Nat → Prop) (w w' : World) : Prop where
  os : w'.os = w.os
  tape : w'.tape = w.tape
  output : w'.output = w.output
  size : w.heap.size ≤ w'.heap.size
  block : ∀ k, k < w.heap.size → ¬ S k → w'.heap[k]? = w.heap[k]?

theorem Kept.refl (S : Nat → Prop) (w : World) : Kept S w w := ⟨rfl, rfl, rfl, Nat.le_refl _, fun _ _ _ => rfl⟩
theorem Kept.trans {S : Nat → Prop} {a b c : World} (h : Kept S a b) (k : Kept S b c) : Kept S a c :=
  ⟨k.os.trans h.os, k.tape.trans h.tape, k.output.trans h.output, Nat.le_trans h.size k.size, fun i hi hs => (k.block i (Nat.lt_of_lt_of_le hi h.size) hs).trans (h.block i hi hs)⟩
theorem Kept.mono {S T : Nat → Prop} {w w' : World} (h : Kept S w w') (hs : ∀ k, S k → T k) : Kept T w w' :=
  ⟨h.os, h.tape, h.output, h.size, fun k hk ht => h.block k hk (fun hh => ht (hs k hh))⟩
theorem Kept.drew {S : Nat → Prop} {a w : World} (h : Kept S a w) : Kept S a w.drew := ⟨h.os, h.tape, h.output, h.size, h.block⟩
theorem Kept.drewN {S : Nat → Prop} {a w : World} (h : Kept S a w) (n : Nat) : Kept S a (w.drewN n) := ⟨h.os, h.tape, h.output, h.size, h.block⟩
theorem Kept.alloc {S : Nat → Prop} {a w : World} (h : Kept S a w) (o : Obj) : Kept S a (w.alloc o) :=
  ⟨h.os, h.tape, h.output, Nat.le_trans h.size (by simp), fun k hk hs => (Below.heap_alloc _ _ _ (Nat.lt_of_lt_of_le hk h.size)).trans (h.block k hk hs)⟩
theorem Kept.setCell {S : Nat → Prop} {a w : World} (h : Kept S a w) (p : Addr) (hp : S p.block ∨ a.heap.size ≤ p.block) (u : Value) : Kept S a (w.setCell p u) := by
  refine ⟨h.os, h.tape, h.output, by simpa [World.setCell] using h.size, fun k hk hs => ?_⟩
  rw [Below.heap_setCell _ _ _ _ ?_]
  · exact h.block k hk hs
  · rintro rfl
    rcases hp with hp | hp
    · exact hs hp
    · omega
theorem Kept.below {S : Nat → Prop} {B : Nat} {w w' : World} (h : Kept S w w') (hB : B ≤ w.heap.size) (hs : ∀ k, k < B → ¬ S k) : Below B w w' :=
  ⟨h.os, h.tape, h.output, h.size, fun k hk => h.block k (by omega) (hs k hk)⟩
theorem Kept.of_below {S : Nat → Prop} {w w' : World} (h : Below w.heap.size w w') : Kept S w w' :=
  ⟨h.os, h.tape, h.output, h.size, fun k hk _ => h.block k hk⟩
theorem PAt.kept {S : Nat → Prop} {w w' : World} {b : Nat} {s : PC} (h : PAt w b s) (k : Kept S w w') (hs : ¬ S b) : PAt w' b s := by
  have := h.lt
  unfold PAt at *
  rw [k.block b this hs, h]
/-- Nothing old has turned. -/
abbrev Same (w w' : World) : Prop := Kept (fun _ => False) w w'
/-- One old block may have turned. -/
abbrev Wrote (b : Nat) (w w' : World) : Prop := Kept (fun k => k = b) w w'

/-! ### cells at an index that is a letter -/
theorem lt4 {k : Int} (h0 : 0 ≤ k) (h : k < 4) : k = 0 ∨ k = 1 ∨ k = 2 ∨ k = 3 := by omega
theorem lt2 {k : Int} (h0 : 0 ≤ k) (h : k < 2) : k = 0 ∨ k = 1 := by omega
theorem lt3 {k : Int} (h0 : 0 ≤ k) (h : k < 3) : k = 0 ∨ k = 1 ∨ k = 2 := by omega
theorem pcgRate (s : PC) (k : Int) (h0 : 0 ≤ k) (h : k < 4) : (pcArr s)[3 + k.toNat * 2]? = some (.int .i64 (s.rate k.toNat)) := by
  rcases lt4 h0 h with rfl | rfl | rfl | rfl <;> rfl
theorem pcgBurst (s : PC) (k : Int) (h0 : 0 ≤ k) (h : k < 4) : (pcArr s)[3 + k.toNat * 2 + 1]? = some (.int .i64 (s.burst k.toNat)) := by
  rcases lt4 h0 h with rfl | rfl | rfl | rfl <;> rfl
theorem pcgRateN (s : PC) (k : Nat) (h : k < 4) : (pcArr s)[3 + k * 2]? = some (.int .i64 (s.rate k)) := by
  rcases (by omega : k = 0 ∨ k = 1 ∨ k = 2 ∨ k = 3) with rfl | rfl | rfl | rfl <;> rfl
theorem pcgBurstN (s : PC) (k : Nat) (h : k < 4) : (pcArr s)[3 + k * 2 + 1]? = some (.int .i64 (s.burst k)) := by
  rcases (by omega : k = 0 ∨ k = 1 ∨ k = 2 ∨ k = 3) with rfl | rfl | rfl | rfl <;> rfl
theorem pcgLink (s : PC) (k : Int) (h0 : 0 ≤ k) (h : k < 3) : (pcArr s)[12 + k.toNat]? = some (.int .i64 (s.link k.toNat)) := by
  rcases lt3 h0 h with rfl | rfl | rfl <;> rfl
theorem pcgUp (s : PC) (i : Int) (h0 : 0 ≤ i) (h : i < 2) : (pcArr s)[15 + i.toNat * 12]? = some (.bool (s.up i.toNat)) := by
  rcases lt2 h0 h with rfl | rfl <;> rfl
theorem pcgEpoch (s : PC) (i : Int) (h0 : 0 ≤ i) (h : i < 2) : (pcArr s)[15 + i.toNat * 12 + 1]? = some (.int .i64 (s.epoch i.toNat)) := by
  rcases lt2 h0 h with rfl | rfl <;> rfl
theorem pcgTil (s : PC) (i : Int) (h0 : 0 ≤ i) (h : i < 2) : (pcArr s)[15 + i.toNat * 12 + 2]? = some (.int .i64 (s.til i.toNat)) := by
  rcases lt2 h0 h with rfl | rfl <;> rfl
theorem pcgAlone (s : PC) (i : Int) (h0 : 0 ≤ i) (h : i < 2) : (pcArr s)[15 + i.toNat * 12 + 3]? = some (.bool (s.alone i.toNat)) := by
  rcases lt2 h0 h with rfl | rfl <;> rfl
theorem pcgLev (s : PC) (i k : Int) (h0 : 0 ≤ i) (h : i < 2) (k0 : 0 ≤ k) (k4 : k < 4) : (pcArr s)[15 + i.toNat * 12 + 4 + k.toNat]? = some (.int .i64 (s.lev i.toNat k.toNat)) := by
  rcases lt2 h0 h with rfl | rfl <;> rcases lt4 k0 k4 with rfl | rfl | rfl | rfl <;> rfl
theorem pcgWin (s : PC) (i k : Int) (h0 : 0 ≤ i) (h : i < 2) (k0 : 0 ≤ k) (k4 : k < 4) : (pcArr s)[15 + i.toNat * 12 + 8 + k.toNat]? = some (.int .i64 (s.win i.toNat k.toNat)) := by
  rcases lt2 h0 h with rfl | rfl <;> rcases lt4 k0 k4 with rfl | rfl | rfl | rfl <;> rfl

/-- What holds of every cluster that the program makes. -/
structure PC.Ok (s : PC) : Prop where
  lease0 : 1 ≤ s.lease
  lease1 : s.lease ≤ 1000
  win0 : 0 ≤ s.window
  win1 : s.window ≤ 1000000
  count0 : 1 ≤ s.count
  count1 : s.count ≤ 4
  rate0 : ∀ k, 0 ≤ s.rate k
  rate1 : ∀ k, s.rate k ≤ 1000
  burst0 : ∀ k, 0 ≤ s.burst k
  burst1 : ∀ k, s.burst k ≤ 1000000
  fits : ∀ k : Nat, (k : Int) < s.count → s.window ≤ s.burst k
  now0 : 0 ≤ s.now
  now1 : s.now ≤ 1000000000000
  lev0 : ∀ i k, 0 ≤ s.lev i k
  lev1 : ∀ i k, s.lev i k ≤ 1000000
  wn0 : ∀ i k, 0 ≤ s.win i k
  wn1 : ∀ i k, s.win i k ≤ s.window


/-- A function turned at one place. -/
def upd {α : Type} (f : Nat → α) (i : Nat) (x : α) : Nat → α := fun j => if j = i then x else f j
theorem upd_same {α : Type} (f : Nat → α) (i : Nat) (x : α) : upd f i x i = x := if_pos rfl
theorem upd_other {α : Type} (f : Nat → α) {i j : Nat} (x : α) (h : j ≠ i) : upd f i x j = f j := if_neg h

/-- A block of cells, as it lies. -/
def BAt (w : World) (b : Nat) (t : TypeId) (arr : Array Value) : Prop := w.heap[b]? = some (.cells arr t (0, 0))
theorem BAt.lt {w : World} {b : Nat} {t : TypeId} {arr : Array Value} (h : BAt w b t arr) : b < w.heap.size := by
  unfold BAt at h
  rcases Nat.lt_or_ge b w.heap.size with h' | h'
  · exact h'
  · rw [Array.getElem?_eq_none h'] at h; cases h
theorem BAt.cell {w : World} {b : Nat} {t : TypeId} {arr : Array Value} (h : BAt w b t arr) : ∀ o, w.cell? ⟨b, o, none⟩ = arr[o]? := fun o => cell_of_block h o
theorem BAt.free {w : World} {b : Nat} {t : TypeId} {arr : Array Value} (h : BAt w b t arr) : ∀ o, w.frozen? ⟨b, o, none⟩ = false := fun o => unfrozen_of_block h o
theorem BAt.set {w : World} {b : Nat} {t : TypeId} {arr : Array Value} (h : BAt w b t arr) (o : Nat) (v : Value) : BAt (w.setCell ⟨b, o, none⟩ v) b t (arr.setIfInBounds o v) := block_setCell h v
theorem BAt.drew {w : World} {b : Nat} {t : TypeId} {arr : Array Value} (h : BAt w b t arr) : BAt w.drew b t arr := h
theorem BAt.drewN {w : World} {b : Nat} {t : TypeId} {arr : Array Value} (h : BAt w b t arr) (n : Nat) : BAt (w.drewN n) b t arr := h
theorem BAt.alloc {w : World} {b : Nat} {t : TypeId} {arr : Array Value} (h : BAt w b t arr) (o : Obj) : BAt (w.alloc o) b t arr := by
  have := h.lt
  unfold BAt at *
  rw [Below.heap_alloc _ _ _ this, h]
theorem BAt.far {w : World} {b : Nat} {t : TypeId} {arr : Array Value} (h : BAt w b t arr) (p : Addr) (hp : b ≠ p.block) (v : Value) : BAt (w.setCell p v) b t arr := by
  unfold BAt at *
  rw [Below.heap_setCell _ _ _ _ hp, h]
theorem BAt.kept {S : Nat → Prop} {w w' : World} {b : Nat} {t : TypeId} {arr : Array Value} (h : BAt w b t arr) (k : Kept S w w') (hs : ¬ S b) : BAt w' b t arr := by
  have := h.lt
  unfold BAt at *
  rw [k.block b this hs, h]
theorem PAt.of {w : World} {b : Nat} {s : PC} {arr : Array Value} (h : BAt w b 68 arr) (e : arr = pcArr s) : PAt w b s := by rw [e] at h; exact h
theorem PAt.bat {w : World} {b : Nat} {s : PC} (h : PAt w b s) : BAt w b 68 (pcArr s) := h
theorem PAt.drew {w : World} {b : Nat} {s : PC} (h : PAt w b s) : PAt w.drew b s := h
theorem PAt.drewN {w : World} {b : Nat} {s : PC} (h : PAt w b s) (n : Nat) : PAt (w.drewN n) b s := h

theorem Wrote.set {b : Nat} {a w : World} (h : Wrote b a w) (o : Nat) (v : Value) : Wrote b a (w.setCell ⟨b, o, none⟩ v) := Kept.setCell h ⟨b, o, none⟩ (.inl rfl) v
theorem Same.wrote {b : Nat} {a w : World} (h : Same a w) : Wrote b a w := Kept.mono h (fun _ h => h.elim)
theorem PAt.same {w w' : World} {b : Nat} {s : PC} (h : PAt w b s) (k : Same w w') : PAt w' b s := h.kept k (fun h => h)

end Go.Proofs.YtpfahgogjeignabDoor

namespace Go.Proofs.YtpfahgogjeignabDoor
open Go.RowKit

/-- A script lies there. -/
def Scr (w : World) (a : Option Addr) (n : Nat) (K X Y Z : Nat → Int) : Prop :=
  n = 0 ∨ ∃ b off, a = some ⟨b, off, none⟩ ∧ b < w.heap.size ∧ ∀ i, i < n → w.cell? ⟨b, off + i * 4, none⟩ = some (.int .i64 (K i)) ∧ w.cell? ⟨b, off + i * 4 + 1, none⟩ = some (.int .i64 (X i)) ∧ w.cell? ⟨b, off + i * 4 + 2, none⟩ = some (.int .i64 (Y i)) ∧ w.cell? ⟨b, off + i * 4 + 3, none⟩ = some (.int .i64 (Z i))
theorem Scr.same {w w' : World} {a : Option Addr} {n : Nat} {K X Y Z : Nat → Int} (h : Scr w a n K X Y Z) (k : Below w.heap.size w w') : Scr w' a n K X Y Z := by
  rcases h with h | ⟨b, off, rfl, hb, h⟩
  · exact .inl h
  · refine .inr ⟨b, off, rfl, Nat.lt_of_lt_of_le hb k.size, fun i hi => ?_⟩
    obtain ⟨h0, h1, h2, h3⟩ := h i hi
    exact ⟨(k.cell (p := ⟨b, _, none⟩) hb).trans h0, (k.cell (p := ⟨b, _, none⟩) hb).trans h1, (k.cell (p := ⟨b, _, none⟩) hb).trans h2, (k.cell (p := ⟨b, _, none⟩) hb).trans h3⟩

end Go.Proofs.YtpfahgogjeignabDoor
