/-
  Bound: its walk.
-/
import Derived.Test.YtpfahgogjeignaaDoorKeepH
import Derived.Test.YtpfahgogjeignaaDoorKeepW
import Derived.Test.YtpfahgogjeignaaDoorKeepV
import Derived.Test.YtpfahgogjeignaaDoorProQ
set_option linter.unusedVariables false
set_option linter.unusedSimpArgs false
namespace Go.Proofs.YtpfahgogjeignaaDoor
open Go.RowKit
attribute [local go_sem ↓] Go.wp_at_zero Go.wp_at_succ

/-- What holds at a round's head. -/
structure BL (w wr : World) (le wi : Int) (a : Option Addr) (n cap : Nat) (R B : Nat → Int) (t gy base i b : Nat) (s : PC) (V : Nat → Value) (Ln : Nat → Nat) (F : Nat → Nat → Int) : Prop where
  p : PAt wr b s
  sane : Sane s
  ep : Ep s i
  cnt : s.count = (n : Int)
  clock : ClockAt wr t s.now
  set : BAt wr w.heap.size 34 #[.int .i64 le, .int .i64 wi, .slice a n cap]
  rows : Rows2 wr base gy (n * 2) V Ln F
  len : ∀ k, k < n → Ln (k * 2 + 1) = Ln (k * 2) ∧ Ln (k * 2) ≤ i
  note : ∀ k, k < n → ∃ g u, Note s k (R k) (B k) g u (F (k * 2)) (F (k * 2 + 1)) (Ln (k * 2))
  below : Below w.heap.size w wr
  sb : w.heap.size < b
  st : w.heap.size < t
  sg : w.heap.size < gy
  bt : b ≠ t
  bg : b ≠ gy
  tg : t ≠ gy
  tb : t < base
  nb : ∀ r g, r < n * 2 → (V r).ownBlock = some g → g ≠ b
  fit : Fit s i

/-- A step that lets nothing by. -/
theorem BL.next {w wr w' : World} {le wi : Int} {a : Option Addr} {n cap : Nat} {R B : Nat → Int} {t gy base i b : Nat} {s : PC} {V : Nat → Value} {Ln : Nat → Nat} {F : Nat → Nat → Int} (h : BL w wr le wi a n cap R B t gy base i b s V Ln F) (n0 : 0 < n) (hi9 : (i : Int) < 9000000000000000000) (kd x y z : Int)
    (kk : Kept (fun q => q = b ∨ q = t) wr w') (p' : PAt w' b (s.call kd x y z).2) (c' : ClockAt w' t (s.call kd x y z).2.now) (hno : ¬ (kd = 6 ∧ (s.call kd x y z).1.e = 0 ∧ (s.call kd x y z).1.a = 5)) :
    BL w w' le wi a n cap R B t gy base (i + 1) b (s.call kd x y z).2 V Ln F := by
  have hcn := h.cnt
  have hsb := h.sb
  have hst := h.st
  have hszx := h.below.size
  refine ⟨p', sane_call h.sane kd x y z, ?_, by rw [(call_rb s kd x y z).2.2]; exact h.cnt, c', h.set.kept kk (by rintro (e | e) <;> omega), ?_, fun k hk => ⟨(h.len k hk).1, Nat.le_succ_of_le (h.len k hk).2⟩, fun k hk => ?_, ?_, h.sb, h.st, h.sg, h.bt, h.bg, h.tg, h.tb, h.nb, fit_call h.fit hi9 kd x y z⟩
  · obtain ⟨g, u, nt⟩ := h.note 0 n0
    exact ep_call h.sane h.ep hi9 (by omega) ⟨g, u, nt.bud⟩ kd x y z
  · refine h.rows.kept kk ?_ (fun r g hr hg => ?_)
    · rintro (e | e)
      · exact h.bg e.symm
      · exact h.tg e.symm
    · rintro (e | e)
      · exact h.nb r g hr hg e
      · have := ((h.rows.row r hr).lt g hg).1
        have := h.tb
        omega
  · obtain ⟨g, u, nt⟩ := h.note k hk
    exact note_keep h.sane h.ep hi9 (by omega) nt kd x y z (fun e => hno ⟨e.1, e.2.1, e.2.2.1⟩)
  · exact h.below.trans (kk.below hszx (fun q hq e => by rcases e with e | e <;> omega))
/-- A step that lets a request by: both rows have grown. -/
theorem BL.push {w wr w' : World} {le wi : Int} {a : Option Addr} {n cap : Nat} {R B : Nat → Int} {t gy base i b : Nat} {s : PC} {V V' : Nat → Value} {Ln : Nat → Nat} {F : Nat → Nat → Int} (h : BL w wr le wi a n cap R B t gy base i b s V Ln F) (n0 : 0 < n) (hi9 : (i : Int) < 9000000000000000000) (x z : Int) (k0 : Nat) (hk0 : k0 < n) (he : (s.call 6 x (k0 : Int) z).1.e = 0) (ha : (s.call 6 x (k0 : Int) z).1.a = 5)
    (p' : PAt w' b (s.call 6 x (k0 : Int) z).2) (c' : ClockAt w' t (s.call 6 x (k0 : Int) z).2.now) (set' : BAt w' w.heap.size 34 #[.int .i64 le, .int .i64 wi, .slice a n cap]) (below' : Below w.heap.size w w')
    (rows' : Rows2 w' base gy (n * 2) V' (upd (upd Ln (k0 * 2) (Ln (k0 * 2) + 1)) (k0 * 2 + 1) (Ln (k0 * 2 + 1) + 1)) (upd (upd F (k0 * 2) (upd (F (k0 * 2)) (Ln (k0 * 2)) s.now)) (k0 * 2 + 1) (upd (F (k0 * 2 + 1)) (Ln (k0 * 2 + 1)) z)))
    (nb' : ∀ r g, r < n * 2 → (V' r).ownBlock = some g → g ≠ b) :
    BL w w' le wi a n cap R B t gy base (i + 1) b (s.call 6 x (k0 : Int) z).2 V' (upd (upd Ln (k0 * 2) (Ln (k0 * 2) + 1)) (k0 * 2 + 1) (Ln (k0 * 2 + 1) + 1)) (upd (upd F (k0 * 2) (upd (F (k0 * 2)) (Ln (k0 * 2)) s.now)) (k0 * 2 + 1) (upd (F (k0 * 2 + 1)) (Ln (k0 * 2 + 1)) z)) := by
  have hcn := h.cnt
  have hl0 := h.len k0 hk0
  refine ⟨p', sane_call h.sane 6 x k0 z, ?_, by rw [(call_rb s 6 x k0 z).2.2]; exact h.cnt, c', set', rows', fun k hk => ?_, fun k hk => ?_, below', h.sb, h.st, h.sg, h.bt, h.bg, h.tg, h.tb, nb', fit_call h.fit hi9 6 x k0 z⟩
  · obtain ⟨g, u, nt⟩ := h.note 0 n0
    exact ep_call h.sane h.ep hi9 (by omega) ⟨g, u, nt.bud⟩ 6 x k0 z
  · have hl := h.len k hk
    by_cases e : k = k0
    · subst e
      rw [upd_same, upd_other _ _ (by omega), upd_same]
      omega
    · rw [upd_other _ _ (by omega), upd_other _ _ (by omega), upd_other _ _ (by omega), upd_other _ _ (by omega)]
      omega
  · obtain ⟨g, u, nt⟩ := h.note k hk
    by_cases e : k = k0
    · subst e
      obtain ⟨g', u', nt', _, _⟩ := note_push h.sane h.ep hi9 (by omega) nt x k z he ha rfl
      refine ⟨g', u', ?_⟩
      have e1 : upd (upd F (k * 2) (upd (F (k * 2)) (Ln (k * 2)) s.now)) (k * 2 + 1) (upd (F (k * 2 + 1)) (Ln (k * 2 + 1)) z) (k * 2) = upd (F (k * 2)) (Ln (k * 2)) s.now := by
        rw [upd_other _ _ (by omega), upd_same]
      have e2 : upd (upd F (k * 2) (upd (F (k * 2)) (Ln (k * 2)) s.now)) (k * 2 + 1) (upd (F (k * 2 + 1)) (Ln (k * 2 + 1)) z) (k * 2 + 1) = upd (F (k * 2 + 1)) (Ln (k * 2)) z := by
        rw [upd_same, hl0.1]
      have e3 : upd (upd Ln (k * 2) (Ln (k * 2) + 1)) (k * 2 + 1) (Ln (k * 2 + 1) + 1) (k * 2) = Ln (k * 2) + 1 := by
        rw [upd_other _ _ (by omega), upd_same]
      rw [e1, e2, e3]
      exact nt'
    · have e1 : upd (upd F (k0 * 2) (upd (F (k0 * 2)) (Ln (k0 * 2)) s.now)) (k0 * 2 + 1) (upd (F (k0 * 2 + 1)) (Ln (k0 * 2 + 1)) z) (k * 2) = F (k * 2) := by
        rw [upd_other _ _ (by omega), upd_other _ _ (by omega)]
      have e2 : upd (upd F (k0 * 2) (upd (F (k0 * 2)) (Ln (k0 * 2)) s.now)) (k0 * 2 + 1) (upd (F (k0 * 2 + 1)) (Ln (k0 * 2 + 1)) z) (k * 2 + 1) = F (k * 2 + 1) := by
        rw [upd_other _ _ (by omega), upd_other _ _ (by omega)]
      have e3 : upd (upd Ln (k0 * 2) (Ln (k0 * 2) + 1)) (k0 * 2 + 1) (Ln (k0 * 2 + 1) + 1) (k * 2) = Ln (k * 2) := by
        rw [upd_other _ _ (by omega), upd_other _ _ (by omega)]
      rw [e1, e2, e3]
      exact note_keep h.sane h.ep hi9 (by omega) nt 6 x k0 z (fun e' => e (by omega))

/-- The blocks of the rows, and the one of their slices. -/
def RowBlk (V : Nat → Value) (N gy q : Nat) : Prop := (∃ r, r < N ∧ (V r).ownBlock = some q) ∨ q = gy
theorem BL.same {w wr w' : World} {le wi : Int} {a : Option Addr} {n cap : Nat} {R B : Nat → Int} {t gy base i b : Nat} {s : PC} {V : Nat → Value} {Ln : Nat → Nat} {F : Nat → Nat → Int} (h : BL w wr le wi a n cap R B t gy base i b s V Ln F) (k : Same wr w') : BL w w' le wi a n cap R B t gy base i b s V Ln F :=
  ⟨h.p.same k, h.sane, h.ep, h.cnt, BAt.kept h.clock k (fun h => h), h.set.kept k (fun h => h), h.rows.kept k (fun h => h) (fun _ _ _ _ h => h), h.len, h.note, h.below.trans (k.below h.below.size (fun _ _ h => h)), h.sb, h.st, h.sg, h.bt, h.bg, h.tg, h.tb, h.nb, h.fit⟩
/-- A request that was let by: all that is behind the two rows. -/
theorem BL.pushed {w wr w6 wx : World} {le wi : Int} {a : Option Addr} {n cap : Nat} {R B : Nat → Int} {t gy base i b : Nat} {s : PC} {V V' : Nat → Value} {Ln : Nat → Nat} {F : Nat → Nat → Int} (h : BL w wr le wi a n cap R B t gy base i b s V Ln F) (n0 : 0 < n) (hi9 : (i : Int) < 9000000000000000000) (x z : Int) (k0 : Nat) (hk0 : k0 < n) (he : (s.call 6 x (k0 : Int) z).1.e = 0) (ha : (s.call 6 x (k0 : Int) z).1.a = 5)
    (p6 : PAt w6 b (s.call 6 x (k0 : Int) z).2) (c6 : ClockAt w6 t (s.call 6 x (k0 : Int) z).2.now) (kk : Kept (fun q => q = b ∨ q = t) wr w6) (kS : Kept (RowBlk V (n * 2) gy) w6 wx)
    (rows' : Rows2 wx base gy (n * 2) V' (upd (upd Ln (k0 * 2) (Ln (k0 * 2) + 1)) (k0 * 2 + 1) (Ln (k0 * 2 + 1) + 1)) (upd (upd F (k0 * 2) (upd (F (k0 * 2)) (Ln (k0 * 2)) s.now)) (k0 * 2 + 1) (upd (F (k0 * 2 + 1)) (Ln (k0 * 2 + 1)) z)))
    (nb' : ∀ r g, r < n * 2 → (V' r).ownBlock = some g → g ≠ b) :
    BL w wx le wi a n cap R B t gy base (i + 1) b (s.call 6 x (k0 : Int) z).2 V' (upd (upd Ln (k0 * 2) (Ln (k0 * 2) + 1)) (k0 * 2 + 1) (Ln (k0 * 2 + 1) + 1)) (upd (upd F (k0 * 2) (upd (F (k0 * 2)) (Ln (k0 * 2)) s.now)) (k0 * 2 + 1) (upd (F (k0 * 2 + 1)) (Ln (k0 * 2 + 1)) z)) := by
  have hsb := h.sb
  have hst := h.st
  have hsg := h.sg
  have htb := h.tb
  have hlow := h.rows.low
  have hszx := h.below.size
  have own : ∀ r g, r < n * 2 → (V r).ownBlock = some g → base ≤ g := fun r g hr hg => ((h.rows.row r hr).lt g hg).1
  refine h.push n0 hi9 x z k0 hk0 he ha (p6.kept kS ?_) (BAt.kept c6 kS ?_) ((h.set.kept kk (by rintro (e | e) <;> omega)).kept kS ?_) ((h.below.trans (kk.below hszx (fun q hq e => by rcases e with e | e <;> omega))).trans (kS.below (Nat.le_trans hszx kk.size) (fun q hq e => ?_))) rows' nb'
  · rintro (⟨r, hr, e⟩ | e)
    · exact h.nb r b hr e rfl
    · exact h.bg e
  · rintro (⟨r, hr, e⟩ | e)
    · have := own r t hr e; omega
    · exact h.tg e
  · rintro (⟨r, hr, e⟩ | e)
    · have := own r _ hr e; omega
    · omega
  · rcases e with ⟨r, hr, e⟩ | e
    · have := own r _ hr e; omega
    · omega
/-- What is noted of a tenant is within what may pass. -/
theorem within_of {w wr : World} {le wi : Int} {a : Option Addr} {n cap : Nat} {R B : Nat → Int} {t gy base i b : Nat} {s : PC} {V : Nat → Value} {Ln : Nat → Nat} {F : Nat → Nat → Int} (h : BL w wr le wi a n cap R B t gy base i b s V Ln F) (ok : Good le wi n R B) (k0 : Nat) (hk0 : k0 < n) (l0 : 0 < Ln (k0 * 2)) (hl : F (k0 * 2) (Ln (k0 * 2) - 1) = s.now) (hi9 : (i : Int) < 9000000000000) :
    Calls Tryd.prog 13 #[.pointer (some ⟨gy, k0 * 2, none⟩), .agg #[.int .i64 (R k0), .int .i64 (B k0)]] wr fun e w' => e = .returned (.bool true) ∧ Same wr w' := by
  obtain ⟨g1, g2⟩ := h.len k0 hk0
  obtain ⟨ga, ca, v0, al, hT⟩ := h.rows.cell (k0 * 2) (by omega) l0
  obtain ⟨gc, cc, v1, cl, hC⟩ := h.rows.cell (k0 * 2 + 1) (by omega) (by omega)
  have s0 := h.rows.slot (k0 * 2) (by omega)
  have s1 := h.rows.slot (k0 * 2 + 1) (by omega)
  rw [v0] at s0
  rw [v1, g1] at s1
  rw [g1] at hC
  obtain ⟨g, u, nt⟩ := h.note k0 hk0
  obtain ⟨t1, t2, t3, t4⟩ := ok.ten.2.2 k0 hk0
  have n1 := h.sane.ok.now1
  have hs := hist_within nt.hist nt.bud.g0 nt.bud.u0 (fun j hj => by rw [show j = Ln (k0 * 2) - 1 by omega]; exact hl)
  refine within_any gy (k0 * 2) ga gc ca cc (Ln (k0 * 2)) (F (k0 * 2)) (F (k0 * 2 + 1)) (R k0) (B k0) wr h.rows.blk.lt al cl s0 s1 hT hC l0 (by omega) t1 t2 (by omega) t4 (fun j hj => ⟨(nt.hist.t0 j hj).1, nt.hist.mono j _ (by omega) (by omega)⟩) (by rw [hl]; exact n1) (fun j hj => ?_) hs
  have := nt.hist.c0 j hj
  omega

set_option maxRecDepth 100000 in
set_option maxHeartbeats 1000000 in
theorem bound_no (le wi : Int) (a sa : Option Addr) (n cap sn scap : Nat) (R B : Nat → Int) (w : World) (hT : Ten w a n R B) (hn : n * 16 ≤ 140737488355328) (no : ¬ Good le wi n R B) :
    Calls Tryd.prog 5 #[.agg #[.int .i64 le, .int .i64 wi, .slice a n cap], .slice sa sn scap] w fun e w' => e = .returned (.bool true) ∧ Below w.heap.size w w' := by
  have hS1 : Same w (w.alloc (.cells #[.int .i64 le, .int .i64 wi, .slice a n cap] 34)) := Kept.alloc (Kept.refl _ _) _
  have HO : Hid (Calls Tryd.prog 9 #[.agg #[.int .i64 le, .int .i64 wi, .slice a n cap]] (w.alloc (.cells #[.int .i64 le, .int .i64 wi, .slice a n cap] 34)) fun e w' => e = .returned (.tuple #[.pointer none, .bool true]) ∧ Same (w.alloc (.cells #[.int .i64 le, .int .i64 wi, .slice a n cap] 34)) w') := opened_no le wi a n cap R B _ (hT.same hS1) hn no
  clear hT hn no
  go_enter Tryd.func5, Tryd.ntmps5
  go_wp2_with fail
  refine HO.out.mono ?_
  rintro e w2 ⟨rfl, hk2⟩
  go_wp2_with fail
  go_ret
  exact ⟨rfl, (hS1.trans hk2).below (Nat.le_refl _) (fun _ _ h => h)⟩

end Go.Proofs.YtpfahgogjeignaaDoor
