/-
  Ideal: its walk.
-/
import Derived.Test.YtpfahgogjeignaaKeepC
import Derived.Test.YtpfahgogjeignaaInts
set_option linter.unusedVariables false
set_option linter.unusedSimpArgs false
namespace Go.Proofs.Ytpfahgogjeignaa
open Go.RowKit
attribute [local go_sem ↓] Go.wp_at_zero Go.wp_at_succ

/-- A number that may be an int. -/
def InR (x : Int) : Prop := -9223372036854775808 ≤ x ∧ x ≤ 9223372036854775807
/-- Requests lie there. -/
def Reqs (w : World) (a : Option Addr) (n : Nat) (G T C : Nat → Int) : Prop :=
  n = 0 ∨ ∃ b off, a = some ⟨b, off, none⟩ ∧ b < w.heap.size ∧ ∀ i, i < n → w.cell? ⟨b, off + i * 3, none⟩ = some (.int .i64 (G i)) ∧ w.cell? ⟨b, off + i * 3 + 1, none⟩ = some (.int .i64 (T i)) ∧ w.cell? ⟨b, off + i * 3 + 2, none⟩ = some (.int .i64 (C i)) ∧ InR (G i) ∧ InR (T i) ∧ InR (C i)
theorem Reqs.same {w w' : World} {a : Option Addr} {n : Nat} {G T C : Nat → Int} (h : Reqs w a n G T C) (k : Below w.heap.size w w') : Reqs w' a n G T C := by
  rcases h with h | ⟨b, off, rfl, hb, h⟩
  · exact .inl h
  · refine .inr ⟨b, off, rfl, Nat.lt_of_lt_of_le hb k.size, fun i hi => ?_⟩
    obtain ⟨h0, h1, h2, r⟩ := h i hi
    exact ⟨(k.cell (p := ⟨b, _, none⟩) hb).trans h0, (k.cell (p := ⟨b, _, none⟩) hb).trans h1, (k.cell (p := ⟨b, _, none⟩) hb).trans h2, r⟩
theorem Ten.below {w w' : World} {a : Option Addr} {n : Nat} {R B : Nat → Int} (h : Ten w a n R B) (k : Below w.heap.size w w') : Ten w' a n R B := by
  rcases h with h | ⟨b, off, rfl, hb, h1, h2⟩
  · exact .inl h
  · exact .inr ⟨b, off, rfl, Nat.lt_of_lt_of_le hb k.size, fun i hi => (k.cell (p := ⟨b, _, none⟩) hb).trans (h1 i hi), fun i hi => (k.cell (p := ⟨b, _, none⟩) hb).trans (h2 i hi)⟩

set_option maxRecDepth 100000 in
set_option maxHeartbeats 1000000 in
theorem ideal_no (le wi first : Int) (a la : Option Addr) (n cap ln lcap : Nat) (R B : Nat → Int) (w : World) (hT : Ten w a n R B) (hn : n * 16 ≤ 140737488355328) (no : ¬ Good le 0 n R B) :
    Calls Try.prog 4 #[.agg #[.int .i64 le, .int .i64 wi, .slice a n cap], .int .i64 first, .slice la ln lcap] w fun e w' => e = .returned (.bool true) ∧ Below w.heap.size w w' := by
  have hS1 : Same w (w.alloc (.cells #[.int .i64 le, .int .i64 0, .slice a n cap] 24)) := Kept.alloc (Kept.refl _ _) _
  have hO := opened_no le 0 a n cap R B _ (hT.same hS1) hn no
  have HO : Hid (Calls Try.prog 5 #[.agg #[.int .i64 le, .int .i64 0, .slice a n cap]] (w.alloc (.cells #[.int .i64 le, .int .i64 0, .slice a n cap] 24)) fun e w' => e = .returned (.tuple #[.pointer none, .bool true]) ∧ Same (w.alloc (.cells #[.int .i64 le, .int .i64 0, .slice a n cap] 24)) w') := hO
  clear hO hT hn no
  go_enter Try.func4, Try.ntmps4
  go_wp2_with fail
  refine HO.out.mono ?_
  rintro e w2 ⟨rfl, hk2⟩
  go_wp2_with fail
  go_ret
  exact ⟨rfl, (hS1.trans hk2).below (Nat.le_refl _) (fun _ _ h => h)⟩

theorem Toks.drew {w : World} {g cap n : Nat} {f : Nat → Int} (h : Toks w g cap n f) : Toks w.drew g cap n f := h.kept (Kept.refl (fun _ => False) _).drew (fun h => h)
theorem toks_of_grow {w : World} {base cap n : Nat} {a : Option Addr} {f : Nat → Int} (h : Grow w base a cap n f) (n0 : 0 < n) : ∃ g, a = some ⟨g, 0, none⟩ ∧ base ≤ g ∧ Toks w g cap n f := by
  rcases h.2 with ⟨_, hz⟩ | ⟨g, cap', cur, hv, hb, hh, hc, _, hs, ht⟩
  · omega
  · injection hv with h1 h2 h3
    subst h1; subst h3
    refine ⟨g, rfl, hb, cur, hh, by omega, hc, fun j hj => ?_⟩
    have e := intsTo_get f n j hj
    rw [← ht] at e
    rw [List.getElem?_take_of_lt (by omega)] at e
    simpa using e

set_option maxRecDepth 100000 in
set_option maxHeartbeats 20000000 in
theorem ideal_yes (le wi first : Int) (a la : Option Addr) (n cap ln lcap : Nat) (R B G T C : Nat → Int) (w : World) (hT : Ten w a n R B) (hn : n * 16 ≤ 140737488355328) (hln : ln * 24 ≤ 140737488355328) (hR : Reqs w la ln G T C) (hfi : InR first) (ok : Good le 0 n R B) :
    Calls Try.prog 4 #[.agg #[.int .i64 le, .int .i64 wi, .slice a n cap], .int .i64 first, .slice la ln lcap] w fun e w' => e = .returned (.bool true) ∧ Below w.heap.size w w' := by
  have hS1 : Same w (w.alloc (.cells #[.int .i64 le, .int .i64 0, .slice a n cap] 24)) := Kept.alloc (Kept.refl _ _) _
  have hb1 : BAt (w.alloc (.cells #[.int .i64 le, .int .i64 0, .slice a n cap] 24)) w.heap.size 24 #[.int .i64 le, .int .i64 0, .slice a n cap] := BAt.made' _ _ rfl _ _
  have hO := opened_yes le 0 a n cap R B _ (hT.same hS1) hn ok
  have HO : Hid (Calls Try.prog 5 #[.agg #[.int .i64 le, .int .i64 0, .slice a n cap]] (w.alloc (.cells #[.int .i64 le, .int .i64 0, .slice a n cap] 24)) fun e w' => ∃ b, e = .returned (.tuple #[.pointer (some ⟨b, 0, none⟩), .bool true]) ∧ (w.alloc (.cells #[.int .i64 le, .int .i64 0, .slice a n cap] 24)).heap.size ≤ b ∧ PAt w' b (PC.fresh le 0 n R B n 2 (-1)) ∧ Same (w.alloc (.cells #[.int .i64 le, .int .i64 0, .slice a n cap] 24)) w') := hO
  have OK : Hid (Good le 0 n R B) := ok
  have n0 := ok.ten.1
  have n4 := ok.ten.2.1
  have n4i : (n : Int) ≤ 4 := by omega
  have lni : (ln : Int) < 9000000000000 := by omega
  clear hO hn hln ok
  go_enter Try.func4, Try.ntmps4
  go_wp2_with fail
  refine HO.out.mono ?_
  rintro e w2 ⟨b, rfl, hbl, hp2, hk2⟩
  have hS2 := hS1.trans hk2
  have hb2 := hb1.kept hk2 (fun h => h)
  have hbl2 : w.heap.size + 1 ≤ b := by simpa using hbl
  clear hk2 hS1 hb1 hbl HO
  go_wp2_with fail
  obtain ⟨p0, p1⟩ := pickOf_bd (c := first) (n := 2) (by omega)
  refine (pick_any first 2 hfi.1 hfi.2 (by omega) (by omega) _).mono ?_
  rintro e w' ⟨rfl, rfl⟩
  obtain ⟨I, hI⟩ := Int.eq_ofNat_of_zero_le p0
  rw [hI] at p1 p0
  rw [hI]
  clear hI hfi
  have hI2 : I < 2 := by omega
  obtain ⟨ez, ezl⟩ := easy_fresh OK.out I hI2
  have EZ : Hid (Easy (PC.fresh le 0 n R B n 2 (-1)) I n R B) := ez
  have EZL : Hid (∀ k, k < n → (PC.fresh le 0 n R B n 2 (-1)).lev I k = B k) := ezl
  clear ez ezl
  rcases hT with h0 | ⟨tb, off, rfl, htb, hTR, hTB⟩
  · omega
  have HTR : Hid (∀ i, i < n → w.cell? ⟨tb, off + i * 2, none⟩ = some (.int .i64 (R i))) := hTR
  have HTB : Hid (∀ i, i < n → w.cell? ⟨tb, off + i * 2 + 1, none⟩ = some (.int .i64 (B i))) := hTB
  clear hTR hTB
  go_wp2_with fail
  go_loopw [10, 11] (fun x y wr => ∃ (k cap2 : Nat) (a2 : Option Addr), k ≤ n ∧ x = .slice a2 k cap2 ∧ y = .int .i64 k ∧ Grow wr w'.heap.size a2 cap2 k B ∧ Same w' wr) (fun _ y _ => n - (intOf y).toNat)
  case atStart => exact ⟨0, 0, none, by omega, rfl, rfl, World.ownsRow_nil _ _ _ _, Kept.refl _ _⟩
  case round =>
    obtain ⟨k, cap2, a2, hk, rfl, rfl, hg, hkr⟩ := hrel
    have hSr := hS2.trans hkr
    have hbr := hb2.kept hkr (fun h => h)
    have hbrl := hbr.lt
    obtain ⟨hc, hf⟩ := kcell hSr
    have q2 : wr.cell? ⟨w.heap.size, 2, none⟩ = some (.slice (some ⟨tb, off, none⟩) n cap) := hbr.cell 2
    by_cases hlt : k < n
    · have cB := (hc tb (off + k * 2 + 1) htb).trans (HTB.out k hlt)
      have hki : (k : Int) < n := by omega
      have hsz := hkr.size
      have htr : tb < wr.heap.size := by have := hSr.size; omega
      obtain ⟨i3, hi3, hz3, hs3, hb3⟩ := info_of info_int
      clear hc hf
      go_upto_region 10 with fail
      iterate 25 go_step
      refine wpList_append_lies _ rfl (.tmp 39) (.tmp 46) 48 rfl w'.heap.size 3 i3 _ 1 8 Try.underlying48 hi3 hz3 hs3 hb3 rfl (by omega) (.slice a2 k cap2) k (intsTo B k) rfl (World.ownsRow.alloc hg _) ⟨wr.heap.size, 0, none⟩ 1 1 [.int .i64 (B k)] rfl rfl (World.news_of_block (cs := #[.int .i64 (B k)]) (t := 3) (fr := (0, 0)) (heap_alloc_new wr _)) (by simp [Value.oneCell']) (by omega) (by unfold maxLen; omega) (by omega) (by simp; omega) (wr.heap.size + 1) (by simp) ?_
      intro gg cap3 w5 hown hgrow hat hlt5
      go_wp2_with fail
      refine ⟨⟨k + 1, cap3, some ⟨gg, 0, none⟩, by omega, rfl, by go_num, hown, ?_⟩, by simp [intOf]; omega⟩
      exact ⟨hgrow.os.trans hkr.os, hgrow.tape.trans hkr.tape, hgrow.output.trans hkr.output, Nat.le_trans hkr.size (Nat.le_trans (by simp) hgrow.size), fun q hq hn => (hgrow.block q (by simp; omega) (fun e => by have := (hg.lt q e.symm).1; omega)).trans ((Below.heap_alloc _ _ _ (by omega)).trans (hkr.block q hq hn))⟩
    · obtain rfl : k = n := by omega
      obtain ⟨g, rfl, hgb, hto⟩ := toks_of_grow hg (by omega)
      have hpr := hp2.same hkr
      have hbw' := hp2.lt
      have hbg : ¬ b = g := by omega
      clear hg hb2 hp2 hkr hS2 hlt hc hf
      obtain ⟨W3, rfl⟩ : ∃ W3, W3 = wr := ⟨wr, rfl⟩
      have hw3 := hSr.size
      have HS3 : Hid (Same w W3) := hSr
      have HB3 : Hid (BAt W3 w.heap.size 24 #[.int .i64 le, .int .i64 0, .slice (some ⟨tb, off, none⟩) k cap]) := hbr
      have HR3 : Hid (Reqs w la ln G T C) := hR
      have HP3 : Hid (PAt W3 b (PC.fresh le 0 k R B k 2 (-1))) := hpr
      have HT3 : Hid (Toks W3 g cap2 k B) := hto
      clear hSr hbr hR hpr hto
      go_wp2_with fail
      go_loopw [12] (fun x wx => ∃ (j : Nat) (s : PC), j ≤ ln ∧ x = .int .i64 j ∧ PAt wx b s ∧ Easy s I k R B ∧ Toks wx g cap2 k (fun q => s.lev I q) ∧ Kept (fun q => q = b ∨ q = g) W3 wx) (fun x _ => ln - (intOf x).toNat)
      case atStart => exact ⟨0, _, by omega, rfl, HP3.out, EZ.out, HT3.out.as (fun j hj => (EZL.out j hj).symm), Kept.refl _ _⟩
      case round =>
        obtain ⟨j, s, hj, rfl, hp, hez, hto, hkx⟩ := hrel
        clear HP3 HT3 EZ EZL
        have hbelx : Below w.heap.size w wr := by
          have hS := HS3.out
          have hb0 := hkx.size
          exact ⟨hkx.os.trans hS.os, hkx.tape.trans hS.tape, hkx.output.trans hS.output, Nat.le_trans hS.size hkx.size, fun q hq => (hkx.block q (by omega) (by rintro (e | e) <;> omega)).trans (hS.block q (by omega) (fun h => h))⟩
        by_cases hlt : j < ln
        · rcases HR3.out with h0 | ⟨rb, ro, rfl, hrb, hrc⟩
          · omega
          obtain ⟨r0, r1, r2, i0, i1, i2⟩ := hrc j hlt
          have c0 := (hbelx.cell (p := ⟨rb, ro + j * 3, none⟩) hrb).trans r0
          have hji : (j : Int) < ln := by omega
          have hsz0 := hbelx.size
          have hrbx : rb < wr.heap.size := by omega
          clear hrc r0
          go_wp2_with fail
          obtain ⟨gp0, gp1⟩ := pickOf_bd (c := G j) (n := 3000) (by omega)
          refine (pick_any (G j) 3000 i0.1 i0.2 (by omega) (by omega) _).mono ?_
          rintro e w4 ⟨rfl, rfl⟩
          generalize pickOf (G j) 3000 = gap at *
          clear c0 i0
          go_wp2_with fail
          by_cases hps : gap ≤ 1000000000000 - s.now
          · obtain ⟨ez1, el1⟩ := easy_passed hez hI2 gap gp0 hps
            have EL1 : Hid (∀ q, q < k → (s.passed gap).lev I q = filled (s.lev I q) (R q) (B q) gap) := el1
            clear el1
            refine (pass_yes b s gap gp0 hps hez.ok _ hp).mono ?_
            rintro e w5 ⟨rfl, hp5, hk5⟩
            have hto5 := hto.kept hk5 (by omega)
            have hkx5 := hkx.trans (hk5.mono (fun q e => .inl e))
            have HLB : Hid (∀ q, q < k → s.lev I q ≤ B q) := hez.lev
            have HLL : Hid (∀ q, 0 ≤ s.lev I q) := fun q => hez.ok.lev0 I q
            clear hk5 hto hkx hp
            generalize hs1 : s.passed gap = s1 at *
            clear hs1 hez hps hbelx
            go_wp2_with fail
            go_loopw [15] (fun x wy => ∃ (m : Nat), m ≤ k ∧ x = .int .i64 m ∧ PAt wy b s1 ∧ Toks wy g cap2 k (fun q => if q < m then s1.lev I q else s.lev I q) ∧ Kept (fun q => q = b ∨ q = g) W3 wy) (fun x _ => k - (intOf x).toNat)
            case atStart => exact ⟨0, by omega, rfl, hp5, hto5.as (fun q _ => (if_neg (Nat.not_lt_zero _)).symm), hkx5⟩
            case round =>
              obtain ⟨m, hm, rfl, hpy, hty, hky⟩ := hrel
              clear hp5 hto5 hkx5
              have hbely : Below w.heap.size w wr := by
                have hS := HS3.out
                have hb0 := hky.size
                exact ⟨hky.os.trans hS.os, hky.tape.trans hS.tape, hky.output.trans hS.output, Nat.le_trans hS.size hky.size, fun q hq => (hky.block q (by omega) (by rintro (e | e) <;> omega)).trans (hS.block q (by omega) (fun h => h))⟩
              have hsy := hbely.size
              by_cases hlm : m < k
              · have hby := HB3.out.kept hky (by rintro (e | e) <;> omega)
                have qy : wr.cell? ⟨w.heap.size, 2, none⟩ = some (.slice (some ⟨tb, off, none⟩) k cap) := hby.cell 2
                have hbyl := hby.lt
                have cT : wr.cell? ⟨g, m, none⟩ = some (.int .i64 (s.lev I m)) := by
                  have := hty.cell m hlm
                  rwa [if_neg (Nat.lt_irrefl _)] at this
                have hF := hty.free
                obtain ⟨tr0, tr1, tb0, tb1⟩ := OK.out.ten.2.2 m hlm
                have cR := (hbely.cell (p := ⟨tb, off + m * 2, none⟩) htb).trans (HTR.out m hlm)
                have cB := (hbely.cell (p := ⟨tb, off + m * 2 + 1, none⟩) htb).trans (HTB.out m hlm)
                have htby : tb < wr.heap.size := by omega
                have hgy := hty.lt
                have l0 := HLL.out m
                have l1 := HLB.out m hlm
                have m0 : 0 ≤ gap * R m := Int.mul_nonneg gp0 tr0
                have m1 : gap * R m ≤ 3000000 := Int.le_trans (Int.mul_le_mul_of_nonneg_left tr1 gp0) (by omega)
                have hmi : (m : Int) < k := by omega
                have EF : Hid (s1.lev I m = filled (s.lev I m) (R m) (B m) gap) := EL1.out m hlm
                have TY : Hid (Toks wr g cap2 k (fun q => if q < m then s1.lev I q else s.lev I q)) := hty
                clear hby hty hbely
                by_cases hfull : B m < s.lev I m + gap * R m
                · have EV : Hid (s1.lev I m = B m) := EF.out.trans (if_pos hfull)
                  go_wp2_with fail
                  go_region
                  go_wp2_with fail
                  go_quiet (fail)
                  go_wp2_with fail
                  refine ⟨⟨m + 1, by omega, by go_num, ?_, ?_, ?_⟩, by simp [intOf]; omega⟩
                  · repeat (with_reducible first | refine PAt.drew ?_ | refine PAt.drewN ?_ _ | refine PAt.far ?_ _ hbg _ | exact hpy)
                  · refine Toks.as (((TY.out.set m hlm _).drewN _).set m hlm _) (fun q hq => ?_)
                    unfold upd
                    by_cases e : q = m
                    · rw [if_pos e, if_pos (by omega), e, EV.out]
                    · rw [if_neg e, if_neg e]
                      show (if q < m then s1.lev I q else s.lev I q) = _
                      by_cases e2 : q < m
                      · rw [if_pos e2, if_pos (by omega)]
                      · rw [if_neg e2, if_neg (by omega)]
                  · repeat (with_reducible first | refine Kept.drew ?_ | refine Kept.drewN ?_ _ | refine Kept.setCell ?_ _ (.inl (.inr rfl)) _ | exact hky)
                · have EV : Hid (s1.lev I m = s.lev I m + gap * R m) := EF.out.trans (if_neg hfull)
                  have hf2 : s.lev I m + gap * R m ≤ B m := by omega
                  have hf3 : decide (B m < s.lev I m + gap * R m) = false := decide_eq_false hfull
                  have HF2 : Hid (s.lev I m + gap * R m ≤ B m) := hf2
                  clear hfull hf2
                  go_wp2_with fail
                  go_region
                  go_wp2_with fail
                  go_region
                  go_wp2_with fail
                  refine ⟨⟨m + 1, by omega, by go_num, ?_, ?_, ?_⟩, by simp [intOf]; omega⟩
                  · repeat (with_reducible first | refine PAt.drew ?_ | refine PAt.drewN ?_ _ | refine PAt.far ?_ _ hbg _ | exact hpy)
                  · refine Toks.as (((TY.out.set m hlm _).drew).drew) (fun q hq => ?_)
                    unfold upd
                    by_cases e : q = m
                    · rw [if_pos e, if_pos (by omega), e, EV.out]
                    · rw [if_neg e]
                      show (if q < m then s1.lev I q else s.lev I q) = _
                      by_cases e2 : q < m
                      · rw [if_pos e2, if_pos (by omega)]
                      · rw [if_neg e2, if_neg (by omega)]
                  · repeat (with_reducible first | refine Kept.drew ?_ | refine Kept.drewN ?_ _ | refine Kept.setCell ?_ _ (.inl (.inr rfl)) _ | exact hky)
              · obtain rfl : k = m := by omega
                have hty := hty.as (f' := fun q => s1.lev I q) (fun q hq => if_pos hq)
                clear hlm EL1 HLB HLL hm
                have c1 := (hbely.cell (p := ⟨rb, ro + j * 3 + 1, none⟩) hrb).trans r1
                have c2 := (hbely.cell (p := ⟨rb, ro + j * 3 + 2, none⟩) hrb).trans r2
                obtain ⟨v1, ez2, hl2, lv2⟩ := easy_campaigned ez1 hI2
                have CC := campaign_yes b s1 (I : Int) p0 p1 (by rw [Int.toNat_natCast]; exact ez1.up I hI2) ez1.ok wr hpy
                rw [v1] at CC
                have HCC : Hid (Calls Try.prog 13 #[.pointer (some ⟨b, 0, none⟩), .int .i64 (I : Int)] wr fun e' w' => e' = .returned (.tuple #[.int .i64 1, .int .i64 0]) ∧ PAt w' b (s1.campaigned (I : Int)).2 ∧ Wrote b wr w') := CC
                have hrby : rb < wr.heap.size := by omega
                clear CC v1
                generalize (s1.campaigned (I : Int)).2 = s2 at *
                go_wp2_with fail
                refine HCC.out.mono ?_
                rintro e w6 ⟨rfl, hp6, hk6⟩
                have hkb : ∀ p : Addr, p.block < w.heap.size → w6.cell? p = wr.cell? p := fun p hp => World.cell?_of_block (hk6.block p.block (by omega) (by omega))
                have d1 := (hkb ⟨rb, ro + j * 3 + 1, none⟩ hrb).trans c1
                have d2 := (hkb ⟨rb, ro + j * 3 + 2, none⟩ hrb).trans c2
                have hs6 := hk6.size
                have hr6 : rb < w6.heap.size := by omega
                have htb6 : tb < w6.heap.size := by omega
                have hbel6 : Below w.heap.size w w6 := hbely.trans (hk6.below (by omega) (fun q hq e => by omega))
                have hk6' := hky.trans (hk6.mono (fun q e => .inl e))
                have hb6 := HB3.out.kept hk6' (by rintro (e | e) <;> omega)
                have q6 : w6.cell? ⟨w.heap.size, 2, none⟩ = some (.slice (some ⟨tb, off, none⟩) k cap) := hb6.cell 2
                have hb6l := hb6.lt
                have ht6 := (hty.kept hk6 (by omega)).as (f' := fun q => s2.lev I q) (fun q _ => by rw [lv2])
                clear HCC hkb c1 c2 hk6 hpy hty hbely lv2 hky
                go_wp2_with fail
                obtain ⟨t0, t1⟩ := pickOf_bd (c := T j) (n := (k : Int)) (by omega)
                refine (pick_any (T j) (k : Int) i1.1 i1.2 (by omega) (by omega) _).mono ?_
                rintro e w7 ⟨rfl, rfl⟩
                obtain ⟨K, hK⟩ := Int.eq_ofNat_of_zero_le t0
                rw [hK] at t1 t0
                rw [hK]
                clear hK d1 i1
                have hKk : K < k := by omega
                obtain ⟨tr0, tr1, tb0, tb1⟩ := OK.out.ten.2.2 K hKk
                have cB := (hbel6.cell (p := ⟨tb, off + K * 2 + 1, none⟩) htb).trans (HTB.out K hKk)
                have cT := ht6.cell K hKk
                have hF6 := ht6.free
                have l0 := ez2.ok.lev0 I K
                have l1 := ez2.lev K hKk
                obtain ⟨k0, k1⟩ := pickOf_bd (c := C j) (n := B K + 2) (by omega)
                go_wp2_with fail
                go_quiet ((go_at_call 11; exact Calls.quiet_of_same (pick_any (C j) (B K + 2) i2.1 i2.2 (by omega) (by omega) _)))
                generalize pickOf (C j) (B K + 2) = cst at *
                go_wp2_with fail
                have q0 : 1 ≤ 1 + cst := by omega
                have q1 : 1 + cst ≤ 1000002 := by omega
                generalize 1 + cst = cost at *
                clear k0 k1
                have hws : s2.wrong (I : Int) (K : Int) cost = 0 := by
                  unfold PC.wrong
                  rw [if_pos (by rcases lt2n hI2 with e | e <;> rw [e] <;> rfl), if_pos (by simp [hasTenantB, ez2.count]; omega), if_pos (by omega)]
                have AA := ask_yes b s2 (I : Int) (K : Int) cost hws p0 p1 (by rw [Int.toNat_natCast]; exact ez2.up I hI2) (by omega) (by rw [ez2.count]; omega) (by omega) (by omega) ez2.ok
                rw [Int.toNat_natCast, Int.toNat_natCast] at AA
                by_cases hd : s2.lev I K < cost
                · rw [easy_deny ez2 hl2 K cost (by omega) hd] at AA
                  refine (AA _ (by exact hp6)).mono ?_
                  rintro e w8 ⟨rfl, hp8, hk8⟩
                  have ht8 := (ht6.drewN _).kept hk8 (by omega)
                  have cT8 := ht8.cell K hKk
                  have hk8' := (hk6'.drewN _).trans (hk8.mono (fun q e => .inl e))
                  have hd2 : decide (cost ≤ s2.lev I K) = false := decide_eq_false (by omega)
                  clear AA hd
                  go_wp2_with fail
                  exact ⟨⟨j + 1, s2, by omega, by go_num, hp8, ez2, ht8, hk8'⟩, by simp [intOf]; omega⟩
                · obtain ⟨v5, ez5, lv5⟩ := easy_admit ez2 hI2 hl2 K cost (by omega) (by omega) hd
                  rw [v5] at AA
                  refine (AA _ (by exact hp6)).mono ?_
                  rintro e w8 ⟨rfl, hp8, hk8⟩
                  have ht8 := (ht6.drewN _).kept hk8 (by omega)
                  have cT8 := ht8.cell K hKk
                  have hF8 := ht8.free
                  have hk8' := (hk6'.drewN _).trans (hk8.mono (fun q e => .inl e))
                  generalize (s2.asked I K cost).2 = s5 at *
                  have hd2 : decide (cost ≤ s2.lev I K) = true := decide_eq_true (by omega)
                  clear AA hd
                  go_wp2_with fail
                  refine ⟨⟨j + 1, s5, by omega, by go_num, hp8.kept (Kept.setCell (S := fun q => q = g) (Kept.refl _ _) _ (.inl rfl) _) hbg, ez5, (ht8.set K hKk _).as (fun q _ => (lv5 q).symm), Kept.setCell hk8' _ (.inl (.inr rfl)) _⟩, by simp [intOf]; omega⟩
          · refine (pass_no b s gap (.inr (by omega)) hez.ok _ hp).mono ?_
            rintro e w5 ⟨rfl, hk5⟩
            have hp5 := hp.same hk5
            have hto5 := hto.kept hk5 (fun h => h)
            have hkx5 := hkx.trans (hk5.mono (fun q e => e.elim))
            clear hk5 hto hkx hp hps hbelx
            go_wp2_with fail
            go_loopw [15] (fun x wy => x = .int .i64 0 ∧ PAt wy b s ∧ Toks wy g cap2 k (fun q => s.lev I q) ∧ Kept (fun q => q = b ∨ q = g) W3 wy) (fun _ _ => 0)
            case atStart => exact ⟨rfl, hp5, hto5, hkx5⟩
            case round =>
              obtain ⟨rfl, hpy, hty, hky⟩ := hrel
              clear hp5 hto5 hkx5
              have ez1 := hez
              clear hez
              have hbely : Below w.heap.size w wr := by
                have hS := HS3.out
                have hb0 := hky.size
                exact ⟨hky.os.trans hS.os, hky.tape.trans hS.tape, hky.output.trans hS.output, Nat.le_trans hS.size hky.size, fun q hq => (hky.block q (by omega) (by rintro (e | e) <;> omega)).trans (hS.block q (by omega) (fun h => h))⟩
              have hsy := hbely.size
              have c1 := (hbely.cell (p := ⟨rb, ro + j * 3 + 1, none⟩) hrb).trans r1
              have c2 := (hbely.cell (p := ⟨rb, ro + j * 3 + 2, none⟩) hrb).trans r2
              obtain ⟨v1, ez2, hl2, lv2⟩ := easy_campaigned ez1 hI2
              have CC := campaign_yes b s (I : Int) p0 p1 (by rw [Int.toNat_natCast]; exact ez1.up I hI2) ez1.ok wr hpy
              rw [v1] at CC
              have HCC : Hid (Calls Try.prog 13 #[.pointer (some ⟨b, 0, none⟩), .int .i64 (I : Int)] wr fun e' w' => e' = .returned (.tuple #[.int .i64 1, .int .i64 0]) ∧ PAt w' b (s.campaigned (I : Int)).2 ∧ Wrote b wr w') := CC
              have hrby : rb < wr.heap.size := by omega
              clear CC v1
              generalize (s.campaigned (I : Int)).2 = s2 at *
              go_wp2_with fail
              refine HCC.out.mono ?_
              rintro e w6 ⟨rfl, hp6, hk6⟩
              have hkb : ∀ p : Addr, p.block < w.heap.size → w6.cell? p = wr.cell? p := fun p hp => World.cell?_of_block (hk6.block p.block (by omega) (by omega))
              have d1 := (hkb ⟨rb, ro + j * 3 + 1, none⟩ hrb).trans c1
              have d2 := (hkb ⟨rb, ro + j * 3 + 2, none⟩ hrb).trans c2
              have hs6 := hk6.size
              have hr6 : rb < w6.heap.size := by omega
              have htb6 : tb < w6.heap.size := by omega
              have hbel6 : Below w.heap.size w w6 := hbely.trans (hk6.below (by omega) (fun q hq e => by omega))
              have hk6' := hky.trans (hk6.mono (fun q e => .inl e))
              have hb6 := HB3.out.kept hk6' (by rintro (e | e) <;> omega)
              have q6 : w6.cell? ⟨w.heap.size, 2, none⟩ = some (.slice (some ⟨tb, off, none⟩) k cap) := hb6.cell 2
              have hb6l := hb6.lt
              have ht6 := (hty.kept hk6 (by omega)).as (f' := fun q => s2.lev I q) (fun q _ => by rw [lv2])
              clear HCC hkb c1 c2 hk6 hpy hty hbely lv2 hky
              go_wp2_with fail
              obtain ⟨t0, t1⟩ := pickOf_bd (c := T j) (n := (k : Int)) (by omega)
              refine (pick_any (T j) (k : Int) i1.1 i1.2 (by omega) (by omega) _).mono ?_
              rintro e w7 ⟨rfl, rfl⟩
              obtain ⟨K, hK⟩ := Int.eq_ofNat_of_zero_le t0
              rw [hK] at t1 t0
              rw [hK]
              clear hK d1 i1
              have hKk : K < k := by omega
              obtain ⟨tr0, tr1, tb0, tb1⟩ := OK.out.ten.2.2 K hKk
              have cB := (hbel6.cell (p := ⟨tb, off + K * 2 + 1, none⟩) htb).trans (HTB.out K hKk)
              have cT := ht6.cell K hKk
              have hF6 := ht6.free
              have l0 := ez2.ok.lev0 I K
              have l1 := ez2.lev K hKk
              obtain ⟨k0, k1⟩ := pickOf_bd (c := C j) (n := B K + 2) (by omega)
              go_wp2_with fail
              go_quiet ((go_at_call 11; exact Calls.quiet_of_same (pick_any (C j) (B K + 2) i2.1 i2.2 (by omega) (by omega) _)))
              generalize pickOf (C j) (B K + 2) = cst at *
              go_wp2_with fail
              have q0 : 1 ≤ 1 + cst := by omega
              have q1 : 1 + cst ≤ 1000002 := by omega
              generalize 1 + cst = cost at *
              clear k0 k1
              have hws : s2.wrong (I : Int) (K : Int) cost = 0 := by
                unfold PC.wrong
                rw [if_pos (by rcases lt2n hI2 with e | e <;> rw [e] <;> rfl), if_pos (by simp [hasTenantB, ez2.count]; omega), if_pos (by omega)]
              have AA := ask_yes b s2 (I : Int) (K : Int) cost hws p0 p1 (by rw [Int.toNat_natCast]; exact ez2.up I hI2) (by omega) (by rw [ez2.count]; omega) (by omega) (by omega) ez2.ok
              rw [Int.toNat_natCast, Int.toNat_natCast] at AA
              by_cases hd : s2.lev I K < cost
              · rw [easy_deny ez2 hl2 K cost (by omega) hd] at AA
                refine (AA _ (by exact hp6)).mono ?_
                rintro e w8 ⟨rfl, hp8, hk8⟩
                have ht8 := (ht6.drewN _).kept hk8 (by omega)
                have cT8 := ht8.cell K hKk
                have hk8' := (hk6'.drewN _).trans (hk8.mono (fun q e => .inl e))
                have hd2 : decide (cost ≤ s2.lev I K) = false := decide_eq_false (by omega)
                clear AA hd
                go_wp2_with fail
                exact ⟨⟨j + 1, s2, by omega, by go_num, hp8, ez2, ht8, hk8'⟩, by simp [intOf]; omega⟩
              · obtain ⟨v5, ez5, lv5⟩ := easy_admit ez2 hI2 hl2 K cost (by omega) (by omega) hd
                rw [v5] at AA
                refine (AA _ (by exact hp6)).mono ?_
                rintro e w8 ⟨rfl, hp8, hk8⟩
                have ht8 := (ht6.drewN _).kept hk8 (by omega)
                have cT8 := ht8.cell K hKk
                have hF8 := ht8.free
                have hk8' := (hk6'.drewN _).trans (hk8.mono (fun q e => .inl e))
                generalize (s2.asked I K cost).2 = s5 at *
                have hd2 : decide (cost ≤ s2.lev I K) = true := decide_eq_true (by omega)
                clear AA hd
                go_wp2_with fail
                refine ⟨⟨j + 1, s5, by omega, by go_num, hp8.kept (Kept.setCell (S := fun q => q = g) (Kept.refl _ _) _ (.inl rfl) _) hbg, ez5, (ht8.set K hKk _).as (fun q _ => (lv5 q).symm), Kept.setCell hk8' _ (.inl (.inr rfl)) _⟩, by simp [intOf]; omega⟩
        · go_wp2_with fail
          go_ret
          exact ⟨rfl, hbelx⟩

theorem ideal_walk (le wi first : Int) (a la : Option Addr) (n cap ln lcap : Nat) (R B G T C : Nat → Int) (w : World) (hT : Ten w a n R B) (hn : n * 16 ≤ 140737488355328) (hln : ln * 24 ≤ 140737488355328) (hR : Reqs w la ln G T C) (hfi : InR first) :
    Calls Try.prog 4 #[.agg #[.int .i64 le, .int .i64 wi, .slice a n cap], .int .i64 first, .slice la ln lcap] w fun e w' => e = .returned (.bool true) ∧ Below w.heap.size w w' := by
  rcases Classical.em (Good le 0 n R B) with g | no
  · exact ideal_yes le wi first a la n cap ln lcap R B G T C w hT hn hln hR hfi g
  · exact ideal_no le wi first a la n cap ln lcap R B w hT hn no

end Go.Proofs.Ytpfahgogjeignaa
