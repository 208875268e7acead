/-
  The document's New: what it refuses; its rows. The document's New: the cluster that it gives.
-/
import Derived.Test.YtpfahgogjeignaaGreatDoorRefD
import Derived.Test.YtpfahgogjeignaaGreatDoorProF
import Derived.Deep.RegionLaw
import Derived.BigRegion
import Derived.Deep.CutRange
set_option linter.unusedVariables false
set_option linter.unusedSimpArgs false
namespace Go.Proofs.YtpfahgogjeignaaGreatDoor
open Go.RowKit
attribute [local go_sem] rg0 rg1 rg2 rg3 rg4 rg5 rg6 rg7 rg8 rg9 rg10 sg0 sg1 sg2 sg3 sg4 sg5 mg0 mg1 mg2 mgk fArr_get

set_option maxHeartbeats 400000 in
theorem rnew_lease (le wi : Int) (a : Option Addr) (n cap : Nat) (w : World) (hl : le < 1 ∨ 1000 < le) :
    Calls Tryz.prog 17 #[.int .i64 le, .int .i64 wi, .slice a n cap] w fun e w' => e = .returned (.tuple #[.pointer none, .int .i64 1]) ∧ Same w w' := by
  by_cases h1 : le < 1
  · clear hl
    go_enter Tryz.func17, Tryz.ntmps17
    go_wp2
    go_ret2
    exact ⟨rfl, Kept.refl _ _⟩
  · have h2 : 1000 < le := by omega
    clear hl
    go_enter Tryz.func17, Tryz.ntmps17
    go_wp2
    go_ret2
    exact ⟨rfl, Kept.refl _ _⟩

/-- The least burst of the first k, at most MaxBurst. -/
def leastTo (B : Nat → Int) : Nat → Int
  | 0 => 1000000
  | k + 1 => if B k < leastTo B k then B k else leastTo B k
theorem leastTo_le (B : Nat → Int) (k : Nat) : ∀ j, j < k → leastTo B k ≤ B j := by
  induction k with
  | zero => intro j hj; exact absurd hj (Nat.not_lt_zero _)
  | succ k ih =>
    intro j hj
    show (if B k < leastTo B k then B k else leastTo B k) ≤ B j
    rcases Nat.lt_succ_iff_lt_or_eq.1 hj with hj | rfl
    · have := ih j hj; split <;> omega
    · split <;> omega
theorem leastTo_is (B : Nat → Int) (k : Nat) (x : Int) (hx : x ≤ 1000000) (h : ∀ j, j < k → x ≤ B j) : x ≤ leastTo B k := by
  induction k with
  | zero => exact hx
  | succ k ih =>
    show x ≤ (if B k < leastTo B k then B k else leastTo B k)
    have h1 := h k (by omega)
    have h2 := ih (fun j hj => h j (by omega))
    split <;> omega

set_option maxHeartbeats 1000000 in
theorem rnew_tenants (le wi : Int) (a : Option Addr) (n cap : Nat) (R B : Nat → Int) (w : World) (hT : Ten w a n R B) (l0 : 1 ≤ le) (l1 : le ≤ 1000) (no : ¬ TensOk n R B) :
    Calls Tryz.prog 17 #[.int .i64 le, .int .i64 wi, .slice a n cap] w fun e w' => e = .returned (.tuple #[.pointer none, .int .i64 2]) ∧ Same w w' := by
  by_cases hn0 : n = 0
  · subst hn0
    go_enter Tryz.func17, Tryz.ntmps17
    go_wp2
    go_ret2
    exact ⟨rfl, Kept.refl _ _⟩
  have e0 : ¬ (n : Int) < 1 := by omega
  by_cases hn4 : 4 < n
  · have e4 : 4 < (n : Int) := by omega
    go_enter Tryz.func17, Tryz.ntmps17
    go_wp2
    go_ret2
    exact ⟨rfl, Kept.refl _ _⟩
  rcases hT with hT | ⟨b, off, rfl, hb, hR, hB⟩
  · exact absurd hT hn0
  have e4 : (n : Int) ≤ 4 := by omega
  have NO : Hid (¬ TensOk n R B) := no
  clear no
  go_enter Tryz.func17, Tryz.ntmps17
  go_wp2
  go_loopw [8, 9] (fun y x wr => ∃ (k : Nat) (m : Int), k ≤ n ∧ (∀ j, j < k → TenOk (R j) (B j)) ∧ x = .int .i64 k ∧ y = .int .i64 m ∧ Same w wr) (fun _ x _ => n - (intOf x).toNat)
  case atStart => exact ⟨0, 1000000, by omega, fun j hj => absurd hj (Nat.not_lt_zero _), rfl, rfl, Kept.refl _ _⟩
  case round =>
    obtain ⟨k, m, hk, hall, rfl, rfl, hS⟩ := hrel
    have HL : Hid (∀ j, j < k → TenOk (R j) (B j)) := hall
    clear hall
    obtain ⟨hc, hf⟩ := kcell hS
    have hsz := hS.size
    by_cases hlt : k < n
    · have cR := hR k hlt
      have cB := hB k hlt
      have hki : (k : Int) < n := by omega
      have hbr : b < wr.heap.size := by omega
      clear hR hB
      by_cases hok : 0 ≤ R k ∧ R k ≤ 1000 ∧ 1 ≤ B k ∧ B k ≤ 1000000
      · have HK : Hid (TenOk (R k) (B k)) := hok
        obtain ⟨r0, r1, b0, b1⟩ := hok
        have nxt : ∀ j, j < k + 1 → TenOk (R j) (B j) := by
          intro j hj
          rcases Nat.lt_succ_iff_lt_or_eq.1 hj with hj | rfl
          · exact HL.out j hj
          · exact HK.out
        have NXT : Hid (∀ j, j < k + 1 → TenOk (R j) (B j)) := nxt
        clear nxt
        by_cases hm : B k < m
        · go_wp2
          exact ⟨⟨k + 1, B k, by omega, NXT.out, by go_num, rfl, hS.alloc _⟩, by simp [intOf]; omega⟩
        · go_wp2
          exact ⟨⟨k + 1, m, by omega, NXT.out, by go_num, rfl, hS.alloc _⟩, by simp [intOf]; omega⟩
      · go_wp2
        all_goals
          go_ret2
          exact ⟨rfl, hS.alloc _⟩
    · exact absurd ⟨hn0, by omega, fun j hj => HL.out j (by omega)⟩ NO.out

set_option maxHeartbeats 1000000 in
theorem rnew_window (le wi : Int) (a : Option Addr) (n cap : Nat) (R B : Nat → Int) (w : World) (hT : Ten w a n R B) (l0 : 1 ≤ le) (l1 : le ≤ 1000) (ok : TensOk n R B) (no : ¬ WinOk wi n B) :
    Calls Tryz.prog 17 #[.int .i64 le, .int .i64 wi, .slice a n cap] w fun e w' => e = .returned (.tuple #[.pointer none, .int .i64 3]) ∧ Same w w' := by
  obtain ⟨hn0, hn4, hall⟩ := ok
  rcases hT with hT | ⟨b, off, rfl, hb, hR, hB⟩
  · exact absurd hT hn0
  have e0 : ¬ (n : Int) < 1 := by omega
  have e4 : (n : Int) ≤ 4 := by omega
  have hwi : 0 ≤ wi → leastTo B n < wi := by
    intro h
    rcases Int.lt_or_le (leastTo B n) wi with h' | h'
    · exact h'
    · exact absurd ⟨by omega, fun j hj => Int.le_trans h' (leastTo_le B n j hj)⟩ no
  have HW : Hid (0 ≤ wi → leastTo B n < wi) := hwi
  have HALL : Hid (∀ i, i < n → TenOk (R i) (B i)) := hall
  clear no hwi hall
  go_enter Tryz.func17, Tryz.ntmps17
  go_wp2
  go_loopw [8, 9] (fun y x wr => ∃ k : Nat, k ≤ n ∧ x = .int .i64 k ∧ y = .int .i64 (leastTo B k) ∧ Same w wr) (fun _ x _ => n - (intOf x).toNat)
  case atStart => exact ⟨0, by omega, rfl, rfl, Kept.refl _ _⟩
  case round =>
    obtain ⟨k, hk, rfl, rfl, hS⟩ := hrel
    obtain ⟨hc, hf⟩ := kcell hS
    have hsz := hS.size
    by_cases hlt : k < n
    · have cR := hR k hlt
      have cB := hB k hlt
      have hki : (k : Int) < n := by omega
      have hbr : b < wr.heap.size := by omega
      obtain ⟨r0, r1, b0, b1⟩ := HALL.out k hlt
      clear hR hB
      by_cases hm : B k < leastTo B k
      · have e : leastTo B (k + 1) = B k := if_pos hm
        have E : Hid (leastTo B (k + 1) = B k) := e
        clear e
        go_wp2
        exact ⟨⟨k + 1, by omega, by go_num, by rw [E.out], hS.alloc _⟩, by simp [intOf]; omega⟩
      · have e : leastTo B (k + 1) = leastTo B k := if_neg hm
        have E : Hid (leastTo B (k + 1) = leastTo B k) := e
        clear e
        go_wp2
        exact ⟨⟨k + 1, by omega, by go_num, by rw [E.out], hS.alloc _⟩, by simp [intOf]; omega⟩
    · have hkn : k = n := by omega
      subst hkn
      clear hR hB
      by_cases h1 : wi < 0
      · go_wp2
        go_ret2
        exact ⟨rfl, hS⟩
      · have h2 := HW.out (by omega)
        go_wp2
        go_ret2
        exact ⟨rfl, hS⟩

end Go.Proofs.YtpfahgogjeignaaGreatDoor

namespace Go.Proofs.YtpfahgogjeignaaGreatDoor
open Go.RowKit
attribute [local go_sem] fArr_get
attribute [local go_sem ↓] Go.wp_at_zero Go.wp_at_succ

theorem info_side : ((Tryz.prog.info? 69).map fun i => (i.zero, i.size, i.bytes)) = some (some (.pointer none), 1, 8) := by kernel_rfl
theorem info_chs : ((Tryz.prog.info? 107).map fun i => (i.zero, i.size, i.bytes)) = some (some (.slice none 0 0), 1, 24) := by kernel_rfl

def cArr (le wi : Int) (vr vo : Value) (m : Nat) (vs : Value) : Array Value := #[.int .i64 le, .int .i64 wi, vr, vo, .int .i64 0, .int .i64 (-1), .int .i64 0, .int .i64 0, .bool false, .slice (some ⟨m, 0, none⟩) 3 3, vs]
theorem cg2 (le wi : Int) (vr vo : Value) (m : Nat) (vs : Value) : (cArr le wi vr vo m vs)[2]? = some vr := rfl
theorem cg3 (le wi : Int) (vr vo : Value) (m : Nat) (vs : Value) : (cArr le wi vr vo m vs)[3]? = some vo := rfl
theorem cg10 (le wi : Int) (vr vo : Value) (m : Nat) (vs : Value) : (cArr le wi vr vo m vs)[10]? = some vs := rfl
attribute [local go_sem] cg2 cg3 cg10

theorem made_nils (n : Nat) : madeCells #[Value.slice none 0 0] (n * 1) = fArr n (fun _ => .slice none 0 0) := by
  unfold madeCells fArr
  apply Array.ext_getElem?
  intro j
  by_cases hj : j < n <;> simp [Nat.mod_one, hj]
theorem make_nils (n : Nat) (hn : n ≤ 4) (w : World) :
    (Instr.makeSlice 70 (.int .i64 (n : Int)) (.int .i64 (n : Int))).run Tryz.prog w = .ok (.slice (some ⟨w.heap.size, 0, none⟩) n n) (w.alloc (.cells (fArr n fun _ => .slice none 0 0) 107)) := by
  obtain ⟨i, hi, hz, hs, hb⟩ := info_of info_chs
  have := run_make (P := Tryz.prog) w 70 107 i (.slice none 0 0) Tryz.underlying70 hi hz .i64 .i64 n n (by omega) (by omega) (by rw [hb]; omega) (by omega)
  rw [this, hs]
  simp only [Int.toNat_natCast]
  rw [show (Value.slice none 0 0).cells = #[Value.slice none 0 0] from rfl, made_nils]

/-- A cluster in the making: its own block, the modes, the two rows. -/
structure NewMid (w : World) (m n : Nat) (le wi : Int) (gr go cr co : Nat) (R B : Nat → Int) (vs : Value) (x : World) : Prop where
  cl : BAt x (m + 1) 68 (cArr le wi (.slice (some ⟨gr, 0, none⟩) n cr) (.slice (some ⟨go, 0, none⟩) n co) m vs)
  md : BAt x m 3 #[.int .i64 0, .int .i64 0, .int .i64 0]
  gr : Grow x (m + 2) (some ⟨gr, 0, none⟩) cr n R
  go : Grow x (m + 2) (some ⟨go, 0, none⟩) co n (fun q => B q - wi)
  same : Same w x
/-- A side as it is made. -/
structure OneSide (x : World) (n s wn p : Nat) : Prop where
  s : BAt x s 72 #[.bool true, .int .i64 0, .int .i64 0, .bool false, .slice (some ⟨wn, 0, none⟩) n n, .slice (some ⟨p, 0, none⟩) n n]
  wn : BAt x wn 3 (fArr n fun _ => .int .i64 0)
  p : BAt x p 107 (fArr n fun _ => .slice none 0 0)
theorem NewMid.kept {w : World} {m n : Nat} {le wi : Int} {gr go cr co : Nat} {R B : Nat → Int} {vs : Value} {x y : World} (h : NewMid w m n le wi gr go cr co R B vs x) (k : Same x y) : NewMid w m n le wi gr go cr co R B vs y :=
  ⟨h.cl.kept k (fun h => h), h.md.kept k (fun h => h), owns_same h.gr k, owns_same h.go k, h.same.trans k⟩
theorem OneSide.kept {x y : World} {n s wn p : Nat} {S : Nat → Prop} (h : OneSide x n s wn p) (k : Kept S x y) (h1 : ¬ S s) (h2 : ¬ S wn) (h3 : ¬ S p) : OneSide y n s wn p :=
  ⟨h.s.kept k h1, h.wn.kept k h2, h.p.kept k h3⟩

/-- The third loop's ways: so many sides are there. -/
def Sided (w : World) (m n : Nat) (le wi : Int) (gr go cr co : Nat) (R B : Nat → Int) (i : Nat) (x : World) : Prop :=
  (i = 0 ∧ NewMid w m n le wi gr go cr co R B (.slice none 0 0) x) ∨
  (i = 1 ∧ ∃ gs cs s0 w0 p0, NewMid w m n le wi gr go cr co R B (.slice (some ⟨gs, 0, none⟩) 1 cs) x ∧ x.ownsRow (m + 2) 69 1 (.slice (some ⟨gs, 0, none⟩) 1 cs) 1 [.pointer (some ⟨s0, 0, none⟩)] ∧
    OneSide x n s0 w0 p0 ∧ [gr, go, gs, s0, w0, p0].Nodup ∧ m + 2 ≤ s0 ∧ m + 2 ≤ w0 ∧ m + 2 ≤ p0) ∨
  (i = 2 ∧ ∃ gs cs s0 w0 p0 s1 w1 p1, NewMid w m n le wi gr go cr co R B (.slice (some ⟨gs, 0, none⟩) 2 cs) x ∧ x.ownsRow (m + 2) 69 1 (.slice (some ⟨gs, 0, none⟩) 2 cs) 2 [.pointer (some ⟨s0, 0, none⟩), .pointer (some ⟨s1, 0, none⟩)] ∧
    OneSide x n s0 w0 p0 ∧ OneSide x n s1 w1 p1 ∧ [gr, go, gs, s0, w0, p0, s1, w1, p1].Nodup ∧ m + 2 ≤ s0 ∧ m + 2 ≤ w0 ∧ m + 2 ≤ p0 ∧ m + 2 ≤ s1 ∧ m + 2 ≤ w1 ∧ m + 2 ≤ p1)


theorem side_made (x : World) (n : Nat) :
    OneSide (((x.alloc (.cells (fArr n fun _ => .int .i64 0) 3)).alloc (.cells (fArr n fun _ => .slice none 0 0) 107)).alloc (.cells #[.bool true, .int .i64 0, .int .i64 0, .bool false, .slice (some ⟨x.heap.size, 0, none⟩) n n, .slice (some ⟨x.heap.size + 1, 0, none⟩) n n] 72)).drew n (x.heap.size + 1 + 1) x.heap.size (x.heap.size + 1) ∧
    Same x (((x.alloc (.cells (fArr n fun _ => .int .i64 0) 3)).alloc (.cells (fArr n fun _ => .slice none 0 0) 107)).alloc (.cells #[.bool true, .int .i64 0, .int .i64 0, .bool false, .slice (some ⟨x.heap.size, 0, none⟩) n n, .slice (some ⟨x.heap.size + 1, 0, none⟩) n n] 72)).drew :=
  ⟨⟨(BAt.made' _ _ (by simp) _ _).drew, (((BAt.made' _ _ rfl _ _).alloc _).alloc _).drew, ((BAt.made' _ _ (by simp) _ _).alloc _).drew⟩, ((((Kept.refl _ _).alloc _).alloc _).alloc _).drew⟩
theorem side_made' (x : World) (n : Nat) :
    OneSide (((x.alloc (.cells (fArr n fun _ => .slice none 0 0) 107)).alloc (.cells (fArr n fun _ => .int .i64 0) 3)).alloc (.cells #[.bool true, .int .i64 0, .int .i64 0, .bool false, .slice (some ⟨x.heap.size + 1, 0, none⟩) n n, .slice (some ⟨x.heap.size, 0, none⟩) n n] 72)).drew n (x.heap.size + 1 + 1) (x.heap.size + 1) x.heap.size ∧
    Same x (((x.alloc (.cells (fArr n fun _ => .slice none 0 0) 107)).alloc (.cells (fArr n fun _ => .int .i64 0) 3)).alloc (.cells #[.bool true, .int .i64 0, .int .i64 0, .bool false, .slice (some ⟨x.heap.size + 1, 0, none⟩) n n, .slice (some ⟨x.heap.size, 0, none⟩) n n] 72)).drew :=
  ⟨⟨(BAt.made' _ _ (by simp) _ _).drew, ((BAt.made' _ _ (by simp) _ _).alloc _).drew, (((BAt.made' _ _ rfl _ _).alloc _).alloc _).drew⟩, ((((Kept.refl _ _).alloc _).alloc _).alloc _).drew⟩

/-- The cluster's block, its sides' list written. -/
theorem NewMid.sides {w : World} {m n : Nat} {le wi : Int} {gr go cr co : Nat} {R B : Nat → Int} {vs : Value} {x y : World} (h : NewMid w m n le wi gr go cr co R B vs x) (hw : w.heap.size ≤ m) (row : Option Nat) (k : x.grownBy y row) (hr : ∀ g, row = some g → m + 2 ≤ g ∧ g ≠ gr ∧ g ≠ go) (v : Value) :
    NewMid w m n le wi gr go cr co R B v (y.setCell ⟨m + 1, 10, none⟩ v) := by
  have hk : Kept (fun g => row = some g) x y := ⟨k.os, k.tape, k.output, k.size, fun g hg hn => k.block g hg (fun e => hn e.symm)⟩
  have c1 : BAt y (m + 1) _ _ := h.cl.kept hk (fun e => by have := (hr _ e).1; omega)
  have m1 : BAt y m _ _ := h.md.kept hk (fun e => by have := (hr _ e).1; omega)
  have g1 := owns_kept h.gr hk (fun g hg e => by have e1 : gr = g := by simpa [Value.ownBlock] using hg
                                                 exact (hr _ e).2.1 e1.symm)
  have g2 := owns_kept h.go hk (fun g hg e => by have e1 : go = g := by simpa [Value.ownBlock] using hg
                                                 exact (hr _ e).2.2 e1.symm)
  refine ⟨c1.set 10 v, m1.far _ (by simp) _, ownsRow_setCell_below g1 (by simp) _, ownsRow_setCell_below g2 (by simp) _, ?_⟩
  refine Kept.setCell ?_ _ (.inr (by simp; omega)) _
  exact ⟨k.os.trans h.same.os, k.tape.trans h.same.tape, k.output.trans h.same.output, Nat.le_trans h.same.size k.size, fun q hq hn => (k.block q (Nat.lt_of_lt_of_le hq h.same.size) (fun e => by have := (hr q e.symm).1; omega)).trans (h.same.block q hq hn)⟩


theorem OneSide.after {x y : World} {n s wn p m : Nat} (h : OneSide x n s wn p) (row : Option Nat) (k : x.grownBy y row) (hr : ∀ g, row = some g → g ≠ s ∧ g ≠ wn ∧ g ≠ p) (a : m + 2 ≤ s) (b : m + 2 ≤ wn) (c : m + 2 ≤ p) (v : Value) : OneSide (y.setCell ⟨m + 1, 10, none⟩ v) n s wn p := by
  have hk : Kept (fun g => row = some g) x y := ⟨k.os, k.tape, k.output, k.size, fun g hg hn => k.block g hg (fun e => hn e.symm)⟩
  have h1 := h.kept hk (fun e => (hr _ e).1 rfl) (fun e => (hr _ e).2.1 rfl) (fun e => (hr _ e).2.2 rfl)
  exact ⟨h1.s.far _ (by simp; omega) _, h1.wn.far _ (by simp; omega) _, h1.p.far _ (by simp; omega) _⟩
theorem OneSide.alloc {x : World} {n s wn p : Nat} (h : OneSide x n s wn p) (o : Obj) : OneSide (x.alloc o) n s wn p := ⟨h.s.alloc o, h.wn.alloc o, h.p.alloc o⟩
theorem nodup6 {a b c d e f : Nat} (h : a ≠ b ∧ a ≠ c ∧ a ≠ d ∧ a ≠ e ∧ a ≠ f ∧ b ≠ c ∧ b ≠ d ∧ b ≠ e ∧ b ≠ f ∧ c ≠ d ∧ c ≠ e ∧ c ≠ f ∧ d ≠ e ∧ d ≠ f ∧ e ≠ f) : [a, b, c, d, e, f].Nodup := by
  obtain ⟨h1, h2, h3, h4, h5, h6, h7, h8, h9, h10, h11, h12, h13, h14, h15⟩ := h
  simp [h1, h2, h3, h4, h5, h6, h7, h8, h9, h10, h11, h12, h13, h14, h15]


/-- The document's cluster at first. -/
def RS.fresh (le wi : Int) (n : Nat) (R B : Nat → Int) : RS :=
  { lease := le, window := wi, n := n, rate := fun k => if k < n then R k else 0, room := fun k => if k < n then B k - wi else 0, now := 0, holder := -1, epoch := 0, til := 0, solo := false, mode := fun _ => 0,
    up := fun _ => true, sep := fun _ => 0, stil := fun _ => 0, alone := fun _ => false, win := fun _ _ => 0, past := fun _ _ => [] }

theorem sided_done {w : World} {m n : Nat} {le wi : Int} {gr go cr co : Nat} {R B : Nat → Int} {x : World} (h : Sided w m n le wi gr go cr co R B 2 x) (hne : gr ≠ go) :
    ∃ A : RA, A.c = m + 1 ∧ RAt x A (RS.fresh le wi n R B) ∧ Same w x ∧ ∀ g, A.in n g → m ≤ g := by
  rcases h with ⟨h, _⟩ | ⟨h, _⟩ | ⟨_, gs, cs, s0, w0, p0, s1, w1, p1, hmid, hsl, hs0, hs1, hnd, o1, o2, o3, o4, o5, o6⟩
  · cases h
  · cases h
  have r1 := (hmid.gr.lt gr rfl).1
  have r2 := (hmid.go.lt go rfl).1
  have r3 := (hsl.lt gs rfl).1
  simp only [List.nodup_cons, List.mem_cons, List.not_mem_nil, or_false, not_or, not_false_eq_true, List.nodup_nil, and_true] at hnd
  obtain ⟨⟨a1, a2, a3, a4, a5, a6, a7, a8⟩, ⟨b2, b3, b4, b5, b6, b7, b8⟩, ⟨c3, c4, c5, c6, c7, c8⟩, ⟨d4, d5, d6, d7, d8⟩, ⟨e5, e6, e7, e8⟩, ⟨f6, f7, f8⟩, ⟨g7, g8⟩, i8⟩ := hnd
  refine ⟨{ c := m + 1, rate := gr, room := go, modes := m, sides := gs, rc := cr, oc := co, sc := cs, side := fun i => if i = 0 then s0 else s1, win := fun i => if i = 0 then w0 else w1, past := fun i => if i = 0 then p0 else p1, pv := fun _ _ => .slice none 0 0 }, rfl, ⟨?_, ?_, ?_, ?_, ?_, ?_, ?_, ?_, ?_, ?_, ?_, ?_, ?_⟩, hmid.same, ?_⟩
  · exact hmid.cl
  · exact hmid.md
  · exact ⟨hmid.gr.row.1, fun j (hj : j < n) => by rw [hmid.gr.row.2 j hj]; simp only [RS.fresh]; rw [if_pos hj]⟩
  · exact ⟨hmid.go.row.1, fun j (hj : j < n) => by rw [hmid.go.row.2 j hj]; simp only [RS.fresh]; rw [if_pos hj]⟩
  · exact (hsl.lt gs rfl).2
  · intro i hi
    rcases lt2n hi with rfl | rfl
    · exact (World.ownsRow.cellAt hsl 0 (by omega)).trans rfl
    · exact (World.ownsRow.cellAt hsl 1 (by omega)).trans rfl
  · intro i hi
    rcases lt2n hi with rfl | rfl
    · exact hs0.s
    · exact hs1.s
  · intro i hi
    rcases lt2n hi with rfl | rfl
    · exact hs0.wn
    · exact hs1.wn
  · intro i hi
    rcases lt2n hi with rfl | rfl
    · exact hs0.p
    · exact hs1.p
  · intro i k _ _
    exact World.ownsRow_nil _ _ _ _
  · show [m + 1, gr, go, m, gs, s0, s1, w0, w1, p0, p1].Nodup
    simp only [List.nodup_cons, List.mem_cons, List.not_mem_nil, or_false, not_or, not_false_eq_true, List.nodup_nil, and_true]
    exact ⟨⟨by omega, by omega, by omega, by omega, by omega, by omega, by omega, by omega, by omega, by omega⟩, ⟨a1, by omega, a2, a3, a6, a4, a7, a5, a8⟩, ⟨by omega, b2, b3, b6, b4, b7, b5, b8⟩, ⟨by omega, by omega, by omega, by omega, by omega, by omega, by omega⟩, ⟨c3, c6, c4, c7, c5, c8⟩, ⟨d6, d4, d7, d5, d8⟩, ⟨fun e => e6 e.symm, g7, fun e => f6 e.symm, g8⟩, ⟨e7, e5, e8⟩, ⟨fun e => f7 e.symm, i8⟩, f8⟩
  · intro i k g _ _ hg
    cases hg
  · intro i k i' k' g _ _ _ _ hg
    cases hg
  · rintro g (hg | ⟨i, k, _, _, hg⟩)
    · have hg' : g ∈ [m + 1, gr, go, m, gs, s0, s1, w0, w1, p0, p1] := hg
      simp only [List.mem_cons, List.not_mem_nil, or_false] at hg'
      rcases hg' with h | h | h | h | h | h | h | h | h | h | h <;> omega
    · cases hg

end Go.Proofs.YtpfahgogjeignaaGreatDoor
