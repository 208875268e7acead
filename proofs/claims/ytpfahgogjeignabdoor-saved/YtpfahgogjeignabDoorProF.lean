/-
  A list of tenants in memory; the program's looks at it.
-/
import Derived.Test.YtpfahgogjeignabDoorProA
set_option linter.unusedVariables false
set_option linter.unusedSimpArgs false
namespace Go.Proofs.YtpfahgogjeignabDoor
open Go.RowKit

/-- n tenants lie there: rates R, bursts B. -/
def Ten (w : World) (a : Option Addr) (n : Nat) (R B : Nat → Int) : Prop :=
  n = 0 ∨ ∃ b off, a = some ⟨b, off, none⟩ ∧ b < w.heap.size ∧ (∀ i, i < n → w.cell? ⟨b, off + i * 2, none⟩ = some (.int .i64 (R i))) ∧ (∀ i, i < n → w.cell? ⟨b, off + i * 2 + 1, none⟩ = some (.int .i64 (B i)))
theorem Ten.kept {w w' : World} {a : Option Addr} {n : Nat} {R B : Nat → Int} {S : Nat → Prop} (h : Ten w a n R B) (k : Kept S w w') (hs : ∀ x, a = some x → ¬ S x.block) : Ten w' a n R B := by
  rcases h with h | ⟨b, off, rfl, hb, h1, h2⟩
  · exact .inl h
  · have e := k.block b hb (hs _ rfl)
    refine .inr ⟨b, off, rfl, Nat.lt_of_lt_of_le hb k.size, fun i hi => ?_, fun i hi => ?_⟩
    · rw [World.cell?_of_block (w := w) e]; exact h1 i hi
    · rw [World.cell?_of_block (w := w) e]; exact h2 i hi
theorem Ten.same {w w' : World} {a : Option Addr} {n : Nat} {R B : Nat → Int} (h : Ten w a n R B) (k : Same w w') : Ten w' a n R B := h.kept k (fun _ _ h => h)

/-- A tenant that may be. -/
def TenOk (r b : Int) : Prop := 0 ≤ r ∧ r ≤ 1000 ∧ 1 ≤ b ∧ b ≤ 1000000
theorem tenOk_dec (r b : Int) : TenOk r b ∨ ¬ TenOk r b := Classical.em _
/-- Tenants that may be. -/
def TensOk (n : Nat) (R B : Nat → Int) : Prop := n ≠ 0 ∧ n ≤ 4 ∧ ∀ i, i < n → TenOk (R i) (B i)

theorem kcell {w w' : World} (k : Same w w') : (∀ b o, b < w.heap.size → w'.cell? ⟨b, o, none⟩ = w.cell? ⟨b, o, none⟩) ∧ (∀ b o, b < w.heap.size → w'.frozen? ⟨b, o, none⟩ = w.frozen? ⟨b, o, none⟩) :=
  ⟨fun b o h => World.cell?_of_block (w := w) (k.block b h (fun h => h)), fun b o h => World.frozen?_of_block (w := w) (k.block b h (fun h => h))⟩

set_option maxHeartbeats 1000000 in
theorem areTenants_yes (a : Option Addr) (n cap : Nat) (R B : Nat → Int) (w : World) (hT : Ten w a n R B) (ok : TensOk n R B) :
    Calls Tryd.prog 63 #[.slice a n cap] w fun e w' => e = .returned (.bool true) ∧ Same w w' := by
  obtain ⟨hn0, hn4, hall⟩ := ok
  rcases hT with hT | ⟨b, off, rfl, hb, hR, hB⟩
  · exact absurd hT hn0
  have e0 : ((n : Int) == 0) = false := by simp; omega
  have e4 : (n : Int) ≤ 4 := by omega
  go_enter Tryd.func63, Tryd.ntmps63
  go_wp2
  go_loopw [15] (fun x wr => ∃ k : Nat, k ≤ n ∧ x = .int .i64 k ∧ Same w wr) (fun x _ => n - (intOf x).toNat)
  case atStart => exact ⟨0, by omega, rfl, Kept.refl _ _⟩
  case round =>
    obtain ⟨k, hk, rfl, hS⟩ := hrel
    obtain ⟨hc, hf⟩ := kcell hS
    have hsz := hS.size
    by_cases hlt : k < n
    · obtain ⟨r0, r1, b0, b1⟩ := hall k hlt
      have cR := hR k hlt
      have cB := hB k hlt
      have hki : (k : Int) < n := by omega
      have hbr : b < wr.heap.size := by omega
      clear hall hR hB
      go_wp2
      exact ⟨⟨k + 1, by omega, by go_num, hS.alloc _⟩, by simp [intOf]; omega⟩
    · go_wp2
      go_ret
      exact ⟨rfl, hS⟩

set_option maxHeartbeats 1000000 in
theorem areTenants_no (a : Option Addr) (n cap : Nat) (R B : Nat → Int) (w : World) (hT : Ten w a n R B) (no : ¬ TensOk n R B) :
    Calls Tryd.prog 63 #[.slice a n cap] w fun e w' => e = .returned (.bool false) ∧ Same w w' := by
  by_cases hn0 : n = 0
  · subst hn0
    go_enter Tryd.func63, Tryd.ntmps63
    go_wp2
    go_ret
    exact ⟨rfl, Kept.refl _ _⟩
  have e0 : ((n : Int) == 0) = false := by simp; omega
  by_cases hn4 : 4 < n
  · have e4 : 4 < (n : Int) := by omega
    go_enter Tryd.func63, Tryd.ntmps63
    go_wp2
    go_ret
    exact ⟨rfl, Kept.refl _ _⟩
  rcases hT with hT | ⟨b, off, rfl, hb, hR, hB⟩
  · exact absurd hT hn0
  have e4 : (n : Int) ≤ 4 := by omega
  have NO : Hid (¬ TensOk n R B) := no
  clear no
  go_enter Tryd.func63, Tryd.ntmps63
  go_wp2
  go_loopw [15] (fun x wr => ∃ k : Nat, k ≤ n ∧ (∀ j, j < k → TenOk (R j) (B j)) ∧ x = .int .i64 k ∧ Same w wr) (fun x _ => n - (intOf x).toNat)
  case atStart => exact ⟨0, by omega, fun j hj => absurd hj (Nat.not_lt_zero _), rfl, Kept.refl _ _⟩
  case round =>
    obtain ⟨k, hk, hall, rfl, hS⟩ := hrel
    have HL : Hid (∀ j, j < k → TenOk (R j) (B j)) := hall
    clear hall
    obtain ⟨hc, hf⟩ := kcell hS
    have hsz := hS.size
    by_cases hlt : k < n
    · have cR := hR k hlt
      have cB := hB k hlt
      have hki : (k : Int) < n := by omega
      have hbr : b < wr.heap.size := by omega
      clear hR hB
      by_cases hok : 0 ≤ R k ∧ R k ≤ 1000 ∧ 1 ≤ B k ∧ B k ≤ 1000000
      · have HK : Hid (TenOk (R k) (B k)) := hok
        obtain ⟨r0, r1, b0, b1⟩ := hok
        go_wp2
        refine ⟨⟨k + 1, by omega, fun j hj => ?_, by go_num, hS.alloc _⟩, by simp [intOf]; omega⟩
        rcases Nat.lt_succ_iff_lt_or_eq.1 hj with hj | rfl
        · exact HL.out j hj
        · exact HK.out
      · go_wp2
        all_goals
          go_ret
          exact ⟨rfl, hS.alloc _⟩
    · exact absurd ⟨hn0, by omega, fun j hj => HL.out j (by omega)⟩ NO.out

/-- A window that may be. -/
def WinOk (win : Int) (n : Nat) (B : Nat → Int) : Prop := 0 ≤ win ∧ ∀ i, i < n → win ≤ B i

set_option maxHeartbeats 1000000 in
theorem isWindow_yes (win : Int) (a : Option Addr) (n cap : Nat) (R B : Nat → Int) (w : World) (hT : Ten w a n R B) (hn0 : n ≠ 0) (hn4 : n ≤ 4) (ok : WinOk win n B) :
    Calls Tryd.prog 64 #[.int .i64 win, .slice a n cap] w fun e w' => e = .returned (.bool true) ∧ Same w w' := by
  obtain ⟨h0, hall⟩ := ok
  rcases hT with hT | ⟨b, off, rfl, hb, hR, hB⟩
  · exact absurd hT hn0
  have e4 : (n : Int) ≤ 4 := by omega
  go_enter Tryd.func64, Tryd.ntmps64
  go_wp2
  go_loopw [11] (fun x wr => ∃ k : Nat, k ≤ n ∧ x = .int .i64 k ∧ Same w wr) (fun x _ => n - (intOf x).toNat)
  case atStart => exact ⟨0, by omega, rfl, Kept.refl _ _⟩
  case round =>
    obtain ⟨k, hk, rfl, hS⟩ := hrel
    obtain ⟨hc, hf⟩ := kcell hS
    have hsz := hS.size
    by_cases hlt : k < n
    · have hw := hall k hlt
      have cR := hR k hlt
      have cB := hB k hlt
      have hki : (k : Int) < n := by omega
      have hbr : b < wr.heap.size := by omega
      clear hall hR hB
      go_wp2
      exact ⟨⟨k + 1, by omega, by go_num, hS.alloc _⟩, by simp [intOf]; omega⟩
    · go_wp2
      go_ret
      exact ⟨rfl, hS⟩

set_option maxHeartbeats 1000000 in
theorem isWindow_no (win : Int) (a : Option Addr) (n cap : Nat) (R B : Nat → Int) (w : World) (hT : Ten w a n R B) (hn0 : n ≠ 0) (hn4 : n ≤ 4) (no : ¬ WinOk win n B) :
    Calls Tryd.prog 64 #[.int .i64 win, .slice a n cap] w fun e w' => e = .returned (.bool false) ∧ Same w w' := by
  rcases hT with hT | ⟨b, off, rfl, hb, hR, hB⟩
  · exact absurd hT hn0
  have e4 : (n : Int) ≤ 4 := by omega
  by_cases h0 : win < 0
  · go_enter Tryd.func64, Tryd.ntmps64
    go_wp2
    go_ret
    exact ⟨rfl, Kept.refl _ _⟩
  have NO : Hid (¬ WinOk win n B) := no
  clear no
  go_enter Tryd.func64, Tryd.ntmps64
  go_wp2
  go_loopw [11] (fun x wr => ∃ k : Nat, k ≤ n ∧ (∀ j, j < k → win ≤ B j) ∧ x = .int .i64 k ∧ Same w wr) (fun x _ => n - (intOf x).toNat)
  case atStart => exact ⟨0, by omega, fun j hj => absurd hj (Nat.not_lt_zero _), rfl, Kept.refl _ _⟩
  case round =>
    obtain ⟨k, hk, hall, rfl, hS⟩ := hrel
    have HL : Hid (∀ j, j < k → win ≤ B j) := hall
    clear hall
    obtain ⟨hc, hf⟩ := kcell hS
    have hsz := hS.size
    by_cases hlt : k < n
    · have cR := hR k hlt
      have cB := hB k hlt
      have hki : (k : Int) < n := by omega
      have hbr : b < wr.heap.size := by omega
      clear hR hB
      by_cases hok : win ≤ B k
      · go_wp2
        refine ⟨⟨k + 1, by omega, fun j hj => ?_, by go_num, hS.alloc _⟩, by simp [intOf]; omega⟩
        rcases Nat.lt_succ_iff_lt_or_eq.1 hj with hj | rfl
        · exact HL.out j hj
        · exact hok
      · go_wp2
        go_ret
        exact ⟨rfl, hS.alloc _⟩
    · exact absurd ⟨by omega, fun j hj => HL.out j (by omega)⟩ NO.out

end Go.Proofs.YtpfahgogjeignabDoor
