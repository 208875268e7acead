/-
  Mirrored: its walk.
-/
import Derived.Test.YtpfahgogjeignaaDoorKeepR
import Derived.Test.YtpfahgogjeignaaDoorKeepP
import Derived.Test.YtpfahgogjeignaaDoorProQ
set_option linter.unusedVariables false
set_option linter.unusedSimpArgs false
namespace Go.Proofs.YtpfahgogjeignaaDoor
open Go.RowKit
attribute [local go_sem ↓] Go.wp_at_zero Go.wp_at_succ

theorem call_count (s : PC) (h : Sane s) (k x y z : Int) : (s.call k x y z).2.count = s.count := by
  by_cases hk : k < 1 ∨ 12 < k
  · have e : s.call k x y z = (⟨0, 0, 0, 0, 0⟩, s) := by
      unfold PC.call
      rw [if_neg (by omega), if_neg (by omega), if_neg (by omega), if_neg (by omega), if_neg (by omega), if_neg (by omega), if_neg (by omega), if_neg (by omega), if_neg (by omega), if_neg (by omega), if_neg (by omega), if_neg (by omega)]
    rw [e]
  · rcases (by omega : k = 1 ∨ k = 2 ∨ k = 3 ∨ k = 4 ∨ k = 5 ∨ k = 6 ∨ k = 7 ∨ k = 8 ∨ k = 9 ∨ k = 10 ∨ k = 11 ∨ k = 12) with rfl | rfl | rfl | rfl | rfl | rfl | rfl | rfl | rfl | rfl | rfl | rfl
    · show (s.passR x).2.count = s.count
      unfold PC.passR
      split <;> rfl
    · show (s.linkR x y z).2.count = s.count
      unfold PC.linkR
      split <;> rfl
    · show (s.crashR x).2.count = s.count
      unfold PC.crashR
      split
      · split <;> rfl
      · rfl
    · show (s.startR x).2.count = s.count
      unfold PC.startR
      split
      · split <;> rfl
      · rfl
    · show (s.campR x).2.count = s.count
      unfold PC.campR
      split
      · rename_i hn
        obtain ⟨j, hj, rfl⟩ := nat_of_node hn
        split
        · exact (campaigned_fix s j hj).2.1
        · rfl
      · rfl
    · show (s.askR x y z).2.count = s.count
      unfold PC.askR
      split
      · rename_i hw
        split
        · exact (asked_fix s h.ok _ _ _ (pwrong_bd hw).2.2.2.2).2.2.1
        · rfl
      · rfl
    · show (s.joinR x).2.count = s.count
      unfold PC.joinR
      split
      · rename_i hn
        obtain ⟨j, hj, rfl⟩ := nat_of_node hn
        split
        · exact (joined_fix s _ (by omega)).2.1
        · rfl
      · rfl
    · rfl
    · rfl
    · rfl
    · rfl
    · rfl

set_option maxRecDepth 100000 in
set_option maxHeartbeats 1000000 in
theorem mirr_no (le wi : Int) (a sa : Option Addr) (n cap sn scap : Nat) (R B : Nat → Int) (w : World) (hT : Ten w a n R B) (hn : n * 16 ≤ 140737488355328) (no : ¬ Good le wi n R B) :
    Calls Tryd.prog 6 #[.agg #[.int .i64 le, .int .i64 wi, .slice a n cap], .slice sa sn scap] w fun e w' => e = .returned (.bool true) ∧ Below w.heap.size w w' := by
  have hS1 : Same w (w.alloc (.cells #[.int .i64 le, .int .i64 wi, .slice a n cap] 34)) := Kept.alloc (Kept.refl _ _) _
  have HO : Hid (Calls Tryd.prog 9 #[.agg #[.int .i64 le, .int .i64 wi, .slice a n cap]] (w.alloc (.cells #[.int .i64 le, .int .i64 wi, .slice a n cap] 34)) fun e w' => e = .returned (.tuple #[.pointer none, .bool true]) ∧ Same (w.alloc (.cells #[.int .i64 le, .int .i64 wi, .slice a n cap] 34)) w') := opened_no le wi a n cap R B _ (hT.same hS1) hn no
  clear hT hn no
  go_enter Tryd.func6, Tryd.ntmps6
  go_wp2_with fail
  refine HO.out.mono ?_
  rintro e w2 ⟨rfl, hk2⟩
  go_wp2_with fail
  go_ret
  exact ⟨rfl, (hS1.trans hk2).below (Nat.le_refl _) (fun _ _ h => h)⟩

set_option maxRecDepth 100000 in
set_option maxHeartbeats 4000000 in
theorem mirr_yes (le wi : Int) (a sa : Option Addr) (n cap sn scap : Nat) (R B K X Y Z : Nat → Int) (w : World) (hT : Ten w a n R B) (hn : n * 16 ≤ 140737488355328) (hsn : sn * 32 ≤ 140737488355328) (hS : Scr w sa sn K X Y Z) (hlib : Lib w) (ok : Good le wi n R B) :
    Calls Tryd.prog 6 #[.agg #[.int .i64 le, .int .i64 wi, .slice a n cap], .slice sa sn scap] w fun e w' => e = .returned (.bool true) ∧ Below w.heap.size w w' := by
  have hS1 : Same w (w.alloc (.cells #[.int .i64 le, .int .i64 wi, .slice a n cap] 34)) := Kept.alloc (Kept.refl _ _) _
  have hb1 : BAt (w.alloc (.cells #[.int .i64 le, .int .i64 wi, .slice a n cap] 34)) w.heap.size 34 #[.int .i64 le, .int .i64 wi, .slice a n cap] := BAt.made' _ _ rfl _ _
  have HO : Hid (Calls Tryd.prog 9 #[.agg #[.int .i64 le, .int .i64 wi, .slice a n cap]] (w.alloc (.cells #[.int .i64 le, .int .i64 wi, .slice a n cap] 34)) fun e w' => ∃ b, e = .returned (.tuple #[.pointer (some ⟨b, 0, none⟩), .bool true]) ∧ (w.alloc (.cells #[.int .i64 le, .int .i64 wi, .slice a n cap] 34)).heap.size ≤ b ∧ PAt w' b (PC.fresh le wi n R B n 2 (-1)) ∧ Same (w.alloc (.cells #[.int .i64 le, .int .i64 wi, .slice a n cap] 34)) w') := opened_yes le wi a n cap R B _ (hT.same hS1) hn ok
  have G0 : Hid (Mir (PC.fresh le wi n R B n 2 (-1))) := mir_fresh ok
  have F0 : Hid (Fit (PC.fresh le wi n R B n 2 (-1)) 0) := fit_fresh ok
  have n4 := ok.ten.2.1
  have n4i : (n : Int) ≤ 4 := by omega
  have sni : (sn : Int) < 9000000000000 := by omega
  have HS : Hid (Scr w sa sn K X Y Z) := hS
  have LIB : Hid (Lib w) := hlib
  clear hlib
  clear hT hn ok hsn hS
  go_enter Tryd.func6, Tryd.ntmps6
  go_wp2_with fail
  refine HO.out.mono ?_
  rintro e w2 ⟨b0, rfl, hbl, hp2, hk2⟩
  have hB2 := (hS1.trans hk2).below (Nat.le_refl _) (fun _ _ h => h)
  have hs2 := hb1.kept hk2 (fun h => h)
  have hbl2 : w.heap.size < b0 := by
    have : w.heap.size + 1 ≤ b0 := by simpa using hbl
    omega
  clear hk2 hS1 hbl HO hb1
  go_wp2_with fail
  go_loopw [5, 6, 7] (fun v x y wr => ∃ (i b : Nat) (s : PC), i ≤ sn ∧ v = .pointer (some ⟨b, 0, none⟩) ∧ x = .bool true ∧ y = .int .i64 i ∧ w.heap.size < b ∧ PAt wr b s ∧ Mir s ∧ Fit s i ∧ s.count = (n : Int) ∧ BAt wr w.heap.size 34 #[.int .i64 le, .int .i64 wi, .slice a n cap] ∧ Below w.heap.size w wr) (fun _ _ y _ => sn - (intOf y).toNat)
  case atStart => exact ⟨0, b0, _, by omega, rfl, rfl, rfl, hbl2, hp2, G0.out, F0.out, rfl, hs2, hB2⟩
  case round =>
    obtain ⟨i, b, s, hi, rfl, rfl, rfl, hb, hp, hm, hf, hcn, hst, hbel⟩ := hrel
    have HF : Hid (Fit s i) := hf
    clear hf F0
    have hi9 : (i : Int) < 9000000000000000000 := by omega
    clear hp2 G0 hs2 hB2 hbl2
    have q2 : wr.cell? ⟨w.heap.size, 2, none⟩ = some (.slice a n cap) := hst.cell 2
    have hstl := hst.lt
    have hbl := hp.lt
    by_cases hlt : i < sn
    · rcases HS.out with h0 | ⟨sb, off, rfl, hsb, hcs⟩
      · omega
      obtain ⟨r0, r1, r2, r3⟩ := hcs i hlt
      have c0 := (hbel.cell (p := ⟨sb, off + i * 4, none⟩) hsb).trans r0
      have c1 := (hbel.cell (p := ⟨sb, off + i * 4 + 1, none⟩) hsb).trans r1
      have c2 := (hbel.cell (p := ⟨sb, off + i * 4 + 2, none⟩) hsb).trans r2
      have c3 := (hbel.cell (p := ⟨sb, off + i * 4 + 3, none⟩) hsb).trans r3
      have hii : (i : Int) < sn := by omega
      have hszx := hbel.size
      have hsbx : sb < wr.heap.size := by omega
      clear hcs r0 r1 r2 r3
      generalize K i = k at *
      generalize X i = x at *
      generalize Y i = y at *
      generalize Z i = z at *
      have hpa := PAt.alloc hp (.cells #[.int .i64 k, .int .i64 x, .int .i64 y, .int .i64 z] 43)
      have hsa := hst.alloc (.cells #[.int .i64 k, .int .i64 x, .int .i64 y, .int .i64 z] 43)
      have hoa := BAt.made' wr wr.heap.size rfl 43 #[.int .i64 k, .int .i64 x, .int .i64 y, .int .i64 z]
      have hba := hbel.alloc hszx (.cells #[.int .i64 k, .int .i64 x, .int .i64 y, .int .i64 z] 43)
      by_cases h234 : k = 2 ∨ k = 3 ∨ k = 4
      · rcases h234 with rfl | rfl | rfl
        all_goals
          go_wp2_with fail
          exact ⟨⟨i + 1, b, s, by omega, rfl, rfl, by go_num, hb, hpa, hm, HF.out.later, hcn, hsa, hba⟩, by simp [intOf]; omega⟩
      · have e2 : (k == 2) = false := by simp; omega
        have e3 : (k == 3) = false := by simp; omega
        have e4 : (k == 4) = false := by simp; omega
        by_cases h13 : k = 13
        · subst h13
          go_wp2_with fail
          refine (again_any b s i HF.out hi9 _ (LIB.out.below hba) hpa).mono ?_
          rintro e w4 ⟨b', rfl, hb', hp4, hk4⟩
          have hs4 := hsa.kept hk4 (fun h => h)
          have hbe4 := hba.trans (hk4.below (by simp; omega) (fun _ _ h => h))
          have hbb : w.heap.size < b' := by
            have : wr.heap.size + 1 ≤ b' := by simpa using hb'
            omega
          go_wp2_with fail
          exact ⟨⟨i + 1, b', s, by omega, rfl, rfl, by go_num, hbb, hp4, hm, HF.out.later, hcn, hs4, hbe4⟩, by simp [intOf]; omega⟩
        · have e13 : (k == 13) = false := by simp [h13]
          go_wp2_with fail
          refine (called_any b s hm.sane.ok k x y z _ hpa).mono ?_
          rintro e w4 ⟨rfl, hp4, hk4⟩
          have hm4 := mir_call hm k x y z (by omega) (by omega) (by omega)
          have hc4 := call_count s hm.sane k x y z
          have hf4 := fit_call HF.out hi9 k x y z
          rw [hcn] at hc4
          generalize s.call k x y z = cl at *
          obtain ⟨⟨xa, xb, xc, xd, xe⟩, s4⟩ := cl
          dsimp only at hm4 hc4 hp4 hf4
          have HF4 : Hid (Fit s4 (i + 1)) := hf4
          clear hf4
          have ho4 := hoa.kept hk4 (by omega)
          have hs4 := hsa.kept hk4 (by omega)
          have hbe4 := hba.trans (hk4.below (by simp; omega) (fun q hq e => by omega))
          have z0 : w4.cell? ⟨wr.heap.size, 0, none⟩ = some (.int .i64 k) := ho4.cell 0
          have z2 : w4.cell? ⟨w.heap.size, 2, none⟩ = some (.slice a n cap) := hs4.cell 2
          have l4 := ho4.lt
          have l5 := hs4.lt
          have HM4 : Hid (Mir s4) := hm4
          have HC4 : Hid (s4.count = (n : Int)) := hc4
          clear c0 c1 c2 c3 q2 hm4 hc4 hm hcn
          by_cases h12 : k = 12
          · have e12 : (k == 12) = true := by simp [h12]
            go_wp2_with fail
            refine (mirrored_any b n s4 HM4.out.sane.ok HC4.out (fun q hq => HM4.out.lev q (by rw [HC4.out]; omega)) _ hp4).mono ?_
            rintro e w5 ⟨rfl, q5, rfl⟩
            go_wp2_with fail
            exact ⟨⟨i + 1, b, s4, by omega, rfl, rfl, by go_num, hb, PAt.drewN hp4 q5, HM4.out, HF4.out, HC4.out, BAt.drewN hs4 q5, hbe4.trans (((Kept.refl (fun _ => False) _).drewN q5).below (by omega) (fun _ _ h => h))⟩, by simp [intOf]; omega⟩
          · have e12 : (k == 12) = false := by simp [h12]
            go_wp2_with fail
            exact ⟨⟨i + 1, b, s4, by omega, rfl, rfl, by go_num, hb, hp4, HM4.out, HF4.out, HC4.out, hs4, hbe4⟩, by simp [intOf]; omega⟩
    · have hge : decide ((i : Int) < (sn : Int)) = false := decide_eq_false (by omega)
      have hso := hm.solo
      have ha0 := hm.alone 0 (by omega)
      have ha1 := hm.alone 1 (by omega)
      have HW := witness_any b s wr hp
      rw [hso] at HW
      have HWW : Hid (Calls Tryd.prog 15 #[.pointer (some ⟨b, 0, none⟩)] wr fun e' w' => e' = .returned (.agg #[.int .i64 s.holder, .int .i64 s.wepoch, .int .i64 s.wtil, .bool false]) ∧ Same wr w') := HW
      have HN0 : Hid (∀ w', Same wr w' → Calls Tryd.prog 16 #[.pointer (some ⟨b, 0, none⟩), .int .i64 0] w' fun e' w'' => e' = .returned (.tuple #[.agg #[.bool (s.up 0), .int .i64 (s.epoch 0), .int .i64 (s.til 0), .bool false], .int .i64 0]) ∧ Same w' w'') := fun w' kk => by
        have := node_at b s 0 (by omega) w' (hp.same kk)
        rw [ha0] at this
        exact this
      have HN1 : Hid (∀ w', Same wr w' → Calls Tryd.prog 16 #[.pointer (some ⟨b, 0, none⟩), .int .i64 1] w' fun e' w'' => e' = .returned (.tuple #[.agg #[.bool (s.up 1), .int .i64 (s.epoch 1), .int .i64 (s.til 1), .bool false], .int .i64 0]) ∧ Same w' w'') := fun w' kk => by
        have := node_at b s 1 (by omega) w' (hp.same kk)
        rw [ha1] at this
        exact this
      have HMI : Hid (∀ w', Same wr w' → Calls Tryd.prog 14 #[.pointer (some ⟨b, 0, none⟩), .int .i64 (n : Int)] w' fun e' w'' => e' = .returned (.bool true) ∧ ∃ q, w'' = w'.drewN q) := fun w' kk => mirrored_any b n s hm.sane.ok hcn (fun q hq => hm.lev q (by rw [hcn]; omega)) w' (hp.same kk)
      have hszx := hbel.size
      clear HW hso ha0 ha1 hm
      generalize s.holder = ho at *
      generalize s.wepoch = we at *
      generalize s.wtil = wt at *
      generalize s.up 0 = u0 at *
      generalize s.epoch 0 = e0 at *
      generalize s.til 0 = t0 at *
      generalize s.up 1 = u1 at *
      generalize s.epoch 1 = e1 at *
      generalize s.til 1 = t1 at *
      go_wp2_with fail
      refine HWW.out.mono ?_
      rintro e w1 ⟨rfl, k1⟩
      have K1 := Kept.alloc k1 (.cells #[.int .i64 ho, .int .i64 we, .int .i64 wt, .bool false] 60)
      have B1 := BAt.made' w1 w1.heap.size rfl 60 #[.int .i64 ho, .int .i64 we, .int .i64 wt, .bool false]
      clear k1
      go_wp2_with fail
      refine (HN0.out _ K1).mono ?_
      rintro e w2' ⟨rfl, k2⟩
      have K2 := Kept.alloc (K1.trans k2) (.cells #[.bool u0, .int .i64 e0, .int .i64 t0, .bool false] 63)
      have B1 := (B1.kept k2 (fun h => h)).alloc (.cells #[.bool u0, .int .i64 e0, .int .i64 t0, .bool false] 63)
      have B2 := BAt.made' w2' w2'.heap.size rfl 63 #[.bool u0, .int .i64 e0, .int .i64 t0, .bool false]
      clear k2 K1
      go_wp2_with fail
      refine (HN1.out _ K2).mono ?_
      rintro e w3 ⟨rfl, k3⟩
      have K3 := Kept.alloc (K2.trans k3) (.cells #[.bool u1, .int .i64 e1, .int .i64 t1, .bool false] 63)
      have B1 := (B1.kept k3 (fun h => h)).alloc (.cells #[.bool u1, .int .i64 e1, .int .i64 t1, .bool false] 63)
      have B2 := (B2.kept k3 (fun h => h)).alloc (.cells #[.bool u1, .int .i64 e1, .int .i64 t1, .bool false] 63)
      have B3 := BAt.made' w3 w3.heap.size rfl 63 #[.bool u1, .int .i64 e1, .int .i64 t1, .bool false]
      have hs3 := hst.kept (K2.trans k3) (fun h => h)
      have v2 : w3.cell? ⟨w.heap.size, 2, none⟩ = some (.slice a n cap) := hs3.cell 2
      have l3 := hs3.lt
      clear k3 K2 q2 hst hp hs3
      go_wp2_with fail
      refine (HMI.out _ K3).mono ?_
      rintro e w5 ⟨rfl, q5, rfl⟩
      generalize w3.alloc (.cells #[.bool u1, .int .i64 e1, .int .i64 t1, .bool false] 63) = W5 at *
      generalize w3.heap.size = g3 at *
      generalize w2'.heap.size = g2 at *
      generalize w1.heap.size = g1 at *
      have d1 : W5.cell? ⟨g1, 3, none⟩ = some (.bool false) := B1.cell 3
      have d2 : W5.cell? ⟨g2, 3, none⟩ = some (.bool false) := B2.cell 3
      have d3 : W5.cell? ⟨g3, 3, none⟩ = some (.bool false) := B3.cell 3
      clear B1 B2 B3
      go_wp2_with fail
      go_ret
      exact ⟨rfl, hbel.trans ((K3.drewN q5).below hszx (fun _ _ h => h))⟩

theorem mirr_walk (le wi : Int) (a sa : Option Addr) (n cap sn scap : Nat) (R B K X Y Z : Nat → Int) (w : World) (hT : Ten w a n R B) (hn : n * 16 ≤ 140737488355328) (hsn : sn * 32 ≤ 140737488355328) (hS : Scr w sa sn K X Y Z) (hlib : Lib w) :
    Calls Tryd.prog 6 #[.agg #[.int .i64 le, .int .i64 wi, .slice a n cap], .slice sa sn scap] w fun e w' => e = .returned (.bool true) ∧ Below w.heap.size w w' := by
  rcases Classical.em (Good le wi n R B) with g | no
  · exact mirr_yes le wi a sa n cap sn scap R B K X Y Z w hT hn hsn hS hlib g
  · exact mirr_no le wi a sa n cap sn scap R B w hT hn no

end Go.Proofs.YtpfahgogjeignaaDoor
