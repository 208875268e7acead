/-
  Any text may be loaded: the keeper's endures.
-/
import Derived.Test.YtpfahgogjeignabDoorWaitA
import Derived.Test.YtpfahgogjeignabDoorProS
set_option linter.unusedVariables false
set_option linter.unusedSimpArgs false
namespace Go.Proofs.YtpfahgogjeignabDoor
open Go.RowKit
attribute [local go_sem ↓] Go.wp_at_zero Go.wp_at_succ

set_option maxRecDepth 100000 in
set_option maxHeartbeats 2000000 in
theorem endures_any (T : ByteArray) (hT : T.size ≤ 140737488355328) (sa : Option Addr) (sn scap : Nat) (K X Y Z : Nat → Int) (w : World) (hl : Lib w) (hsn : sn * 32 ≤ 140737488355328) (hS : Scr w sa sn K X Y Z) :
    Calls Tryd.prog 11 #[.string T, .slice sa sn scap] w fun e w' => e = .returned (.bool true) ∧ Below w.heap.size w w' := by
  have HL := load_any T hT w hl
  have HS : Hid (Scr w sa sn K X Y Z) := hS
  have sni : (sn : Int) < 9000000000000 := by omega
  clear hS hsn hl hT
  go_enter Tryd.func11, Tryd.ntmps11
  go_wp2_with fail
  refine HL.mono ?_
  rintro e w1 (⟨rfl, k1⟩ | ⟨b, s, rfl, hb, hp, ho, k1⟩)
  · go_wp2_with fail
    go_ret
    exact ⟨rfl, k1.below (Nat.le_refl _) (fun _ _ h => h)⟩
  · have P1 : Hid (PAt w1 b s) := hp
    have O1 : Hid s.Ok := ho
    have B1 : Hid (Below w.heap.size w w1) := k1.below (Nat.le_refl _) (fun _ _ h => h)
    clear hp ho k1
    go_wp2_with fail
    go_loopw [7] (fun y wr => ∃ (i : Nat) (s : PC), i ≤ sn ∧ y = .int .i64 i ∧ PAt wr b s ∧ s.Ok ∧ Below w.heap.size w wr) (fun y _ => sn - (intOf y).toNat)
    case atStart => exact ⟨0, s, by omega, rfl, P1.out, O1.out, B1.out⟩
    case round =>
      obtain ⟨i, s, hi, rfl, hp, ho, hbel⟩ := hrel
      clear P1 O1 B1
      by_cases hlt : i < sn
      · rcases HS.out with h0 | ⟨sb, off, rfl, hsb, hcs⟩
        · omega
        obtain ⟨r0, r1, r2, r3⟩ := hcs i hlt
        have c0 := (hbel.cell (p := ⟨sb, off + i * 4, none⟩) hsb).trans r0
        have c1 := (hbel.cell (p := ⟨sb, off + i * 4 + 1, none⟩) hsb).trans r1
        have c2 := (hbel.cell (p := ⟨sb, off + i * 4 + 2, none⟩) hsb).trans r2
        have c3 := (hbel.cell (p := ⟨sb, off + i * 4 + 3, none⟩) hsb).trans r3
        have hii : (i : Int) < sn := by omega
        have hszx := hbel.size
        have hsbx : sb < wr.heap.size := by omega
        clear hcs r0 r1 r2 r3
        generalize K i = k at *
        generalize X i = x at *
        generalize Y i = y at *
        generalize Z i = z at *
        have C := called_any b s ho k x y z wr hp
        have O2 : Hid (s.call k x y z).2.Ok := ok_call ho k x y z
        generalize (s.call k x y z).2 = s' at *
        generalize (s.call k x y z).1 = sd at *
        have hbl := hp.lt
        clear ho
        go_wp2_with fail
        refine C.mono ?_
        rintro e w2 ⟨rfl, hp2, hk2⟩
        have bel2 := hbel.trans (hk2.below hszx (fun q hq e => by omega))
        go_wp2_with fail
        exact ⟨⟨i + 1, s', by omega, by go_num, hp2, O2.out, bel2⟩, by simp [intOf]; omega⟩
      · have hge : decide ((i : Int) < (sn : Int)) = false := decide_eq_false (by omega)
        go_wp2_with fail
        go_ret
        exact ⟨rfl, hbel⟩

end Go.Proofs.YtpfahgogjeignabDoor
