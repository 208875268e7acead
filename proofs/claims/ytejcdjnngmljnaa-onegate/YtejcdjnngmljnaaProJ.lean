/-
  The program's Ask: what it answers and leaves, in plain numbers.
-/
import Derived.Test.YtejcdjnngmljnaaProI
set_option linter.unusedVariables false
set_option linter.unusedSimpArgs false
namespace Go.Proofs.Ytejcdjnngmljnaa
open Go.RowKit

def PC.soloed (s : PC) : PC := { s with solo := true }
def PC.aloned (s : PC) (i : Nat) : PC := { s with alone := upd s.alone i true }
/-- The second message of securing. -/
def PC.second (s : PC) (i : Nat) : Bool × PC :=
  (s.answered i 2, if s.answered i 2 then s.soloed.aloned i else if s.arrives i 2 then s.soloed else s)
/-- Securing so much: does it come about, and what is left. -/
def PC.secured (s : PC) (i k : Nat) (amt : Int) : Bool × PC :=
  if s.alone i then (true, s)
  else if s.answered i (1 - i) then (true, s.charged (1 - i) k amt)
  else if s.arrives i (1 - i) then (s.charged (1 - i) k amt).second i
  else s.second i
/-- How much is to be secured. -/
def resN (lev n window : Int) : Int := if lev < n + window then n else n + window
def reserveOf (lev win window cost : Int) : Int := resN lev (cost - win) window
/-- What Ask answers where nothing is wrong and the node is up, and what it leaves. -/
def PC.asked (s : PC) (i k : Nat) (cost : Int) : Int × PC :=
  if s.hasLease i then
    if cost ≤ s.win i k then (5, s.setWin i k (s.win i k - cost))
    else if s.lev i k < cost - s.win i k then (6, s)
    else if (s.secured i k (reserveOf (s.lev i k) (s.win i k) s.window cost)).1 then
      (5, ((s.secured i k (reserveOf (s.lev i k) (s.win i k) s.window cost)).2.charged i k (reserveOf (s.lev i k) (s.win i k) s.window cost)).setWin i k (reserveOf (s.lev i k) (s.win i k) s.window cost - (cost - s.win i k)))
    else (7, (s.secured i k (reserveOf (s.lev i k) (s.win i k) s.window cost)).2)
  else (4, s)

theorem chargedLev_bd {l amt : Int} (l0 : 0 ≤ l) (a0 : 0 ≤ amt) : 0 ≤ chargedLev l amt ∧ chargedLev l amt ≤ l := by
  unfold chargedLev
  split <;> omega
theorem charged_ok {s : PC} (ok : s.Ok) (i k : Nat) (amt : Int) (a0 : 0 ≤ amt) : (s.charged i k amt).Ok := by
  have hb := chargedLev_bd (ok.lev0 i k) a0
  have h1 := ok.lev1 i k
  refine ⟨ok.lease0, ok.lease1, ok.win0, ok.win1, ok.count0, ok.count1, ok.rate0, ok.rate1, ok.burst0, ok.burst1, ok.fits, ok.now0, ok.now1, ?_, ?_, ok.wn0, ok.wn1⟩
  · intro j q
    show 0 ≤ upd s.lev i (upd (s.lev i) k (chargedLev (s.lev i k) amt)) j q
    have := ok.lev0
    unfold upd
    split
    · dsimp only
      split
      · omega
      · exact this _ _
    · exact this _ _
  · intro j q
    show upd s.lev i (upd (s.lev i) k (chargedLev (s.lev i k) amt)) j q ≤ _
    have := ok.lev1
    unfold upd
    split
    · dsimp only
      split
      · omega
      · exact this _ _
    · exact this _ _
theorem setWin_ok {s : PC} (ok : s.Ok) (i k : Nat) (v : Int) (v0 : 0 ≤ v) (v1 : v ≤ s.window) : (s.setWin i k v).Ok := by
  refine ⟨ok.lease0, ok.lease1, ok.win0, ok.win1, ok.count0, ok.count1, ok.rate0, ok.rate1, ok.burst0, ok.burst1, ok.fits, ok.now0, ok.now1, ok.lev0, ok.lev1, ?_, ?_⟩
  · intro j q
    show 0 ≤ upd s.win i (upd (s.win i) k v) j q
    have := ok.wn0
    unfold upd
    split
    · dsimp only
      split
      · exact v0
      · exact this _ _
    · exact this _ _
  · intro j q
    show upd s.win i (upd (s.win i) k v) j q ≤ s.window
    have := ok.wn1
    unfold upd
    split
    · dsimp only
      split
      · exact v1
      · exact this _ _
    · exact this _ _
theorem soloed_ok {s : PC} (ok : s.Ok) : s.soloed.Ok :=
  ⟨ok.lease0, ok.lease1, ok.win0, ok.win1, ok.count0, ok.count1, ok.rate0, ok.rate1, ok.burst0, ok.burst1, ok.fits, ok.now0, ok.now1, ok.lev0, ok.lev1, ok.wn0, ok.wn1⟩
theorem aloned_ok {s : PC} (ok : s.Ok) (i : Nat) : (s.aloned i).Ok :=
  ⟨ok.lease0, ok.lease1, ok.win0, ok.win1, ok.count0, ok.count1, ok.rate0, ok.rate1, ok.burst0, ok.burst1, ok.fits, ok.now0, ok.now1, ok.lev0, ok.lev1, ok.wn0, ok.wn1⟩
theorem second_ok {s : PC} (ok : s.Ok) (i : Nat) : (s.second i).2.Ok := by
  unfold PC.second
  dsimp only
  split
  · exact aloned_ok (soloed_ok ok) i
  · split
    · exact soloed_ok ok
    · exact ok
theorem secured_ok {s : PC} (ok : s.Ok) (i k : Nat) (amt : Int) (a0 : 0 ≤ amt) : (s.secured i k amt).2.Ok := by
  unfold PC.secured
  split
  · exact ok
  · split
    · exact charged_ok ok _ _ _ a0
    · split
      · exact second_ok (charged_ok ok _ _ _ a0) i
      · exact second_ok ok i
theorem second_keeps (s : PC) (i : Nat) : (s.second i).2.lev = s.lev ∧ (s.second i).2.win = s.win ∧ (s.second i).2.window = s.window ∧ (s.second i).2.count = s.count := by
  unfold PC.second
  dsimp only
  split
  · exact ⟨rfl, rfl, rfl, rfl⟩
  · split <;> exact ⟨rfl, rfl, rfl, rfl⟩
theorem secured_keeps (s : PC) (i k : Nat) (amt : Int) : (s.secured i k amt).2.win = s.win ∧ (s.secured i k amt).2.window = s.window ∧ (s.secured i k amt).2.count = s.count := by
  unfold PC.secured
  split
  · exact ⟨rfl, rfl, rfl⟩
  · split
    · exact ⟨rfl, rfl, rfl⟩
    · split
      · have := second_keeps (s.charged (1 - i) k amt) i
        exact ⟨this.2.1, this.2.2.1, this.2.2.2⟩
      · have := second_keeps s i
        exact ⟨this.2.1, this.2.2.1, this.2.2.2⟩
theorem reserve_bd {lev win window cost : Int} (w0 : 0 ≤ win) (h : ¬ cost ≤ win) (c1 : cost ≤ 2000000) (d0 : 0 ≤ window) (d1 : window ≤ 1000000) :
    0 ≤ reserveOf lev win window cost ∧ reserveOf lev win window cost ≤ 3000000 ∧ 0 ≤ reserveOf lev win window cost - (cost - win) ∧ reserveOf lev win window cost - (cost - win) ≤ window := by
  unfold reserveOf resN
  split <;> omega

end Go.Proofs.Ytejcdjnngmljnaa
