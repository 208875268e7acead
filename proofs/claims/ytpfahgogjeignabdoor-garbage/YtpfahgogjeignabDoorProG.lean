/-
  The program's firstGate.
-/
import Derived.Test.YtpfahgogjeignabDoorProA
set_option linter.unusedVariables false
set_option linter.unusedSimpArgs false
namespace Go.Proofs.YtpfahgogjeignabDoor
open Go.RowKit
attribute [local go_sem] pcg0 pcg1 pcg2 pcg3 pcg4 pcg5 pcg6 pcg7 pcg8 pcg9 pcg10 pcg11 pcg12 pcg13 pcg14 pcg15 pcg16 pcg17 pcg18 pcg19 pcg20 pcg21 pcg22 pcg23 pcg24 pcg25 pcg26 pcg27 pcg28 pcg29 pcg30 pcg31 pcg32 pcg33 pcg34 pcg35 pcg36 pcg37 pcg38 pcg39 pcg40 pcg41 pcg42
attribute [local go_sem] pcgRate pcgBurst pcgLink pcgUp pcgEpoch pcgTil pcgAlone pcgLev pcgWin

/-- A gate at first, its levels L. -/
def gArr (L : Nat → Int) : Array Value := #[.bool true, .int .i64 0, .int .i64 0, .bool false, .int .i64 (L 0), .int .i64 (L 1), .int .i64 (L 2), .int .i64 (L 3), .int .i64 0, .int .i64 0, .int .i64 0, .int .i64 0]
theorem gg0 (L : Nat → Int) : (gArr L)[0]? = some (.bool true) := rfl
theorem gg1 (L : Nat → Int) : (gArr L)[1]? = some (.int .i64 0) := rfl
theorem gg2 (L : Nat → Int) : (gArr L)[2]? = some (.int .i64 0) := rfl
theorem gg3 (L : Nat → Int) : (gArr L)[3]? = some (.bool false) := rfl
theorem gg4 (L : Nat → Int) : (gArr L)[4]? = some (.int .i64 (L 0)) := rfl
theorem gg5 (L : Nat → Int) : (gArr L)[5]? = some (.int .i64 (L 1)) := rfl
theorem gg6 (L : Nat → Int) : (gArr L)[6]? = some (.int .i64 (L 2)) := rfl
theorem gg7 (L : Nat → Int) : (gArr L)[7]? = some (.int .i64 (L 3)) := rfl
theorem gg8 (L : Nat → Int) : (gArr L)[8]? = some (.int .i64 0) := rfl
theorem gg9 (L : Nat → Int) : (gArr L)[9]? = some (.int .i64 0) := rfl
theorem gg10 (L : Nat → Int) : (gArr L)[10]? = some (.int .i64 0) := rfl
theorem gg11 (L : Nat → Int) : (gArr L)[11]? = some (.int .i64 0) := rfl
theorem ggLev (L : Nat → Int) (k : Nat) (h : k < 4) : (gArr L)[4 + k]? = some (.int .i64 (L k)) := by
  rcases (by omega : k = 0 ∨ k = 1 ∨ k = 2 ∨ k = 3) with rfl | rfl | rfl | rfl <;> rfl
theorem gset (L : Nat → Int) (k : Nat) (v : Int) (h : k < 4) : (gArr L).setIfInBounds (4 + k) (.int .i64 v) = gArr (upd L k v) := by
  rcases (by omega : k = 0 ∨ k = 1 ∨ k = 2 ∨ k = 3) with rfl | rfl | rfl | rfl <;> rfl
attribute [local go_sem] gg0 gg1 gg2 gg3 gg4 gg5 gg6 gg7 gg8 gg9 gg10 gg11 ggLev

/-- Rooms of the tenants below k. -/
def PC.roomsTo (s : PC) (k : Nat) : Nat → Int := fun j => if j < k then s.burst j - s.window else 0
theorem roomsTo_step (s : PC) (k : Nat) : upd (s.roomsTo k) k (s.burst k - s.window) = s.roomsTo (k + 1) := by
  funext j
  unfold upd PC.roomsTo
  by_cases h : j = k
  · rw [if_pos h, if_pos (by omega), h]
  · rw [if_neg h]
    by_cases h' : j < k
    · rw [if_pos h', if_pos (by omega)]
    · rw [if_neg h', if_neg (by omega)]
theorem roomsTo_zero (s : PC) : s.roomsTo 0 = fun _ => 0 := by
  funext j
  exact if_neg (Nat.not_lt_zero _)
def gZero : Array Value := #[.bool false, .int .i64 0, .int .i64 0, .bool false, .int .i64 0, .int .i64 0, .int .i64 0, .int .i64 0, .int .i64 0, .int .i64 0, .int .i64 0, .int .i64 0]

theorem gz0 : gZero[0]? = some (.bool false) := rfl
theorem gz1 : gZero[1]? = some (.int .i64 0) := rfl
theorem gz2 : gZero[2]? = some (.int .i64 0) := rfl
theorem gz3 : gZero[3]? = some (.bool false) := rfl
theorem gz4 : gZero[4]? = some (.int .i64 0) := rfl
theorem gz5 : gZero[5]? = some (.int .i64 0) := rfl
theorem gz6 : gZero[6]? = some (.int .i64 0) := rfl
theorem gz7 : gZero[7]? = some (.int .i64 0) := rfl
theorem gz8 : gZero[8]? = some (.int .i64 0) := rfl
theorem gz9 : gZero[9]? = some (.int .i64 0) := rfl
theorem gz10 : gZero[10]? = some (.int .i64 0) := rfl
theorem gz11 : gZero[11]? = some (.int .i64 0) := rfl
attribute [local go_sem] gz0 gz1 gz2 gz3 gz4 gz5 gz6 gz7 gz8 gz9 gz10 gz11
theorem BAt.made (w : World) (t : TypeId) (arr : Array Value) : BAt (w.alloc (.cells arr t)) w.heap.size t arr := by
  show (w.heap.push _)[w.heap.size]? = _
  simp

set_option maxHeartbeats 1000000 in
theorem firstGate_any (b : Nat) (s : PC) (ok : s.Ok) (w : World) (hP : PAt w b s) :
    Calls Tryd.prog 65 #[.pointer (some ⟨b, 0, none⟩)] w fun e w' => e = .returned (.agg (gArr (s.roomsTo s.count.toNat))) ∧ Same w w' := by
  have hC := hP.cell
  have c0 := ok.count0
  have c1 := ok.count1
  go_enter Tryd.func65, Tryd.ntmps65
  go_wp2
  go_loopw [4] (fun x wr => ∃ k : Nat, (k : Int) ≤ s.count ∧ x = .int .i64 k ∧ BAt wr w.heap.size 63 gZero ∧ BAt wr (w.heap.size + 1) 63 (gArr (s.roomsTo k)) ∧ Same w wr) (fun x _ => (s.count - intOf x).toNat)
  case atStart => 
    refine ⟨0, by omega, rfl, ?_, ?_, ?_⟩
    · exact (BAt.made _ _ _).alloc _
    · rw [roomsTo_zero]
      have h := BAt.made (w.alloc (.cells gZero 63)) 63 (gArr (fun _ => 0))
      simp only [World.size_alloc] at h
      exact h
    · exact ((Kept.refl _ _).alloc _).alloc _
  case round =>
    obtain ⟨k, hk, rfl, hZ, hG, hS⟩ := hrel
    have hPr := hP.same hS
    have hC := hPr.cell
    have hg := hG.cell
    have hgf := hG.free
    have hz := hZ.cell
    have hzf := hZ.free
    by_cases hlt : (k : Int) < s.count
    · have k4 : k < 4 := by omega
      have k4i : (k : Int) < 4 := by omega
      go_wp2_with (go_at_call 43; refine (room_any b s (k : Int) (by omega) k4i _ (by exact hPr) ok).mono ?_; rintro e w2 ⟨rfl, n, rfl⟩)
      have hG2 := (hG.drewN n).set (4 + k) (.int .i64 (s.burst k - s.window))
      rw [gset _ _ _ k4, roomsTo_step] at hG2
      exact ⟨⟨k + 1, by omega, by go_num, (hZ.drewN n).far _ (by simp) _, hG2, Kept.setCell (hS.drewN n) _ (.inr (by simp)) _⟩, by simp [intOf]; omega⟩
    · have hke : s.count.toNat = k := by omega
      have HK : Hid (s.count.toNat = k) := hke
      clear hke
      go_wp2
      refine bodyPost_ret (v := .agg (gArr (s.roomsTo k))) (by simp [results, Tryd.results65, go_sem, hz, hzf, gArr]) rfl ⟨by rw [HK.out], ?_⟩
      repeat (with_reducible first | refine Kept.setCell ?_ _ (.inr (Nat.le_refl _)) _ | exact hS)

end Go.Proofs.YtpfahgogjeignabDoor
