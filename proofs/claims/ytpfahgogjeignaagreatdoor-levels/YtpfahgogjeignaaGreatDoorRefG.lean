/-
  The document's New: the cluster that it gives.
-/
import Derived.Test.YtpfahgogjeignaaGreatDoorRefF
set_option linter.unusedVariables false
set_option linter.unusedSimpArgs false
namespace Go.Proofs.YtpfahgogjeignaaGreatDoor
open Go.RowKit
attribute [local go_sem] fArr_get
attribute [local go_sem ↓] Go.wp_at_zero Go.wp_at_succ
attribute [local go_sem] cg2 cg3 cg10

set_option maxRecDepth 100000 in
set_option maxHeartbeats 2000000 in
theorem rnew_yes (le wi : Int) (a : Option Addr) (n cap : Nat) (R B : Nat → Int) (w : World) (hT : Ten w a n R B) (l0 : 1 ≤ le) (l1 : le ≤ 1000) (ok : TensOk n R B) (wok : WinOk wi n B) :
    Calls Tryz.prog 17 #[.int .i64 le, .int .i64 wi, .slice a n cap] w fun e w' => ∃ A : RA, e = .returned (.tuple #[.pointer (some ⟨A.c, 0, none⟩), .int .i64 0]) ∧ RAt w' A (RS.fresh le wi n R B) ∧ Same w w' ∧ ∀ g, A.in n g → w.heap.size ≤ g := by
  obtain ⟨hn0, hn4, hall⟩ := ok
  have hle : wi ≤ leastTo B n := leastTo_is B n wi (by have := wok.2 0 (by omega); have := (hall 0 (by omega)).2.2.2; omega) wok.2
  have w0 := wok.1
  rcases hT with hT | ⟨b, off, rfl, hb, hR, hB⟩
  · exact absurd hT hn0
  have e0 : ¬ (n : Int) < 1 := by omega
  have e4 : (n : Int) ≤ 4 := by omega
  have HALL : Hid (∀ i, i < n → TenOk (R i) (B i)) := hall
  have HW : Hid (∀ i, i < n → wi ≤ B i) := wok.2
  clear wok hall
  go_enter Tryz.func17, Tryz.ntmps17
  go_wp2
  go_loopw [8, 9] (fun y x wr => ∃ k : Nat, k ≤ n ∧ x = .int .i64 k ∧ y = .int .i64 (leastTo B k) ∧ Same w wr) (fun _ x _ => n - (intOf x).toNat)
  case atStart => exact ⟨0, by omega, rfl, rfl, Kept.refl _ _⟩
  case round =>
    obtain ⟨k, hk, rfl, rfl, hS⟩ := hrel
    obtain ⟨hc, hf⟩ := kcell hS
    have hsz := hS.size
    by_cases hlt : k < n
    · have cR := hR k hlt
      have cB := hB k hlt
      have hki : (k : Int) < n := by omega
      have hbr : b < wr.heap.size := by omega
      obtain ⟨r0, r1, b0, b1⟩ := HALL.out k hlt
      clear hR hB hle
      by_cases hm : B k < leastTo B k
      · have e : leastTo B (k + 1) = B k := if_pos hm
        have E : Hid (leastTo B (k + 1) = B k) := e
        clear e
        go_wp2
        exact ⟨⟨k + 1, by omega, by go_num, by rw [E.out], hS.alloc _⟩, by simp [intOf]; omega⟩
      · have e : leastTo B (k + 1) = leastTo B k := if_neg hm
        have E : Hid (leastTo B (k + 1) = leastTo B k) := e
        clear e
        go_wp2
        exact ⟨⟨k + 1, by omega, by go_num, by rw [E.out], hS.alloc _⟩, by simp [intOf]; omega⟩
    · have hkn : k = n := by omega
      subst hkn
      have HR : Hid (∀ i, i < k → w.cell? ⟨b, off + i * 2, none⟩ = some (.int .i64 (R i))) := hR
      have HB : Hid (∀ i, i < k → w.cell? ⟨b, off + i * 2 + 1, none⟩ = some (.int .i64 (B i))) := hB
      clear hR hB
      go_wp2
      generalize hm : wr.heap.size = m at *
      have hmw := hsz
      go_loopw [12] (fun x wr => ∃ (j : Nat) (ar ao : Option Addr) (cr co : Nat), j ≤ k ∧ x = .int .i64 j ∧ BAt wr (m + 1) 68 (cArr le wi (.slice ar j cr) (.slice ao j co) m (.slice none 0 0)) ∧ BAt wr m 3 #[.int .i64 0, .int .i64 0, .int .i64 0] ∧
          Grow wr (m + 2) ar cr j R ∧ Grow wr (m + 2) ao co j (fun q => B q - wi) ∧ (∀ g, (Value.slice ar j cr).ownBlock = some g → (Value.slice ao j co).ownBlock ≠ some g) ∧ Same w wr) (fun x _ => k - (intOf x).toNat)
      case atStart =>
        refine ⟨0, none, none, 0, 0, by omega, rfl, BAt.made' _ _ (by simp [hm]) _ _, (BAt.made' _ _ hm.symm _ _).alloc _, World.ownsRow_nil _ _ _ _, World.ownsRow_nil _ _ _ _, (fun g (hg : (none : Option Nat) = some g) => by cases hg), (hS.alloc _).alloc _⟩
      case round =>
        clear hc hf hsz hlt hle hS hm
        obtain ⟨j, ar, ao, cr, co, hj, rfl, hcl, hmd, hgr, hgo, hap, hSj⟩ := hrel
        obtain ⟨hc, hf⟩ := kcell hSj
        have hsz := hSj.size
        have hC := hcl.cell
        have hF := hcl.free
        have hcl1 := hcl.lt
        by_cases hlt : j < k
        · have cR := HR.out j hlt
          have cB := HB.out j hlt
          obtain ⟨r0, r1, b0, b1⟩ := HALL.out j hlt
          have hw := HW.out j hlt
          have hji : (j : Int) < k := by omega
          have hbj : b < wr.heap.size := by omega
          have cR' : wr.cell? ⟨b, off + j * 2, none⟩ = some (.int .i64 (R j)) := (hc b _ hb).trans cR
          have cB' : wr.cell? ⟨b, off + j * 2 + 1, none⟩ = some (.int .i64 (B j)) := (hc b _ hb).trans cB
          have c2 : wr.cell? ⟨m + 1, 2, none⟩ = some (.slice ar j cr) := hC 2
          have c3 : wr.cell? ⟨m + 1, 3, none⟩ = some (.slice ao j co) := hC 3
          clear hC hc cR cB
          go_wp2_with fail
          go_cut [12] from 75 to 110 (fun x wx => x = .int .i64 j ∧ ∃ (ar' : Option Addr) (cr' : Nat), BAt wx (m + 1) 68 (cArr le wi (.slice ar' (j + 1) cr') (.slice ao j co) m (.slice none 0 0)) ∧ BAt wx m 3 #[.int .i64 0, .int .i64 0, .int .i64 0] ∧
            Grow wx (m + 2) ar' cr' (j + 1) R ∧ Grow wx (m + 2) ao co j (fun q => B q - wi) ∧ (∀ g, (Value.slice ar' (j + 1) cr').ownBlock = some g → (Value.slice ao j co).ownBlock ≠ some g) ∧ Same w wx)
          case first =>
            obtain ⟨i3, hi3, hz3, hs3, hb3⟩ := info_of info_int
            have hfa : ∀ o x, (wr.alloc o).frozen? ⟨m + 1, x, none⟩ = false := fun o x => ((hcl.alloc o).free x)
            have hfb : ∀ o x, (wr.alloc o).drew.frozen? ⟨m + 1, x, none⟩ = false := fun o x => ((hcl.alloc o).free x)
            have agr : (Value.slice ar j cr).ownBlock ≠ some (m + 1) := by
              intro e; have := (hgr.lt _ e).1; omega
            have agm : (Value.slice ar j cr).ownBlock ≠ some m := by
              intro e; have := (hgr.lt _ e).1; omega
            have agb : (Value.slice ar j cr).ownBlock ≠ some b := by
              intro e; have := (hgr.lt _ e).1; omega
            go_region_law ((refine step_append_lies _ (by rfl) _ _ _ (by rfl) (m + 2) 3 i3 _ 1 8 Tryz.underlying27 hi3 hz3 hs3 hb3 rfl (by omega) (.slice ar j cr) j (intsTo R j) (by rfl) ((hgr.alloc _).drew) ⟨wr.heap.size, 0, none⟩ 1 1 [.int .i64 (R j)] (by rfl) (by rfl) (World.news_of_block (cs := #[.int .i64 (R j)]) (t := 3) (fr := (0, 0)) (heap_alloc_new wr _)) (by simp [Value.oneCell']) (by omega) (by unfold maxLen; omega) (by omega) (by simp; omega) (wr.heap.size + 1) (by simp) ?_; intro gg cap2 w5 hown1 hgrow hat hlt5; have q1 := hgrow.cell_far ⟨m + 1, 2, none⟩ (by simp; omega) (Ne.symm agr); have q2 := hgrow.frozen_far ⟨m + 1, 2, none⟩ (by simp; omega) (Ne.symm agr)))
            all_goals
              go_wp2_with fail
              go_meet
              clear q1 q2 hfa hfb
              refine ⟨rfl, some ⟨gg, 0, none⟩, cap2, ?_, ?_, ?_, ?_, ?_, ?_⟩
              · have h5 : BAt w5 (m + 1) 68 (cArr le wi (.slice ar j cr) (.slice ao j co) m (.slice none 0 0)) := (hgrow.block _ (by simp; omega) (Ne.symm agr)).trans (hcl.alloc _)
                exact h5.set 2 _
              · have h5 : BAt w5 m 3 #[.int .i64 0, .int .i64 0, .int .i64 0] := (hgrow.block _ (by simp; omega) (Ne.symm agm)).trans (hmd.alloc _)
                exact h5.far _ (by simp) _
              · exact ownsRow_setCell_below hown1 (by simp) _
              · exact ownsRow_setCell_below (World.ownsRow.kept ((hgo.alloc _).drew) hgrow (by cases hx : (Value.slice ao j co).ownBlock with | none => exact .inl rfl | some g => exact .inr (fun e => hap g e.symm hx))) (by simp) _
              · intro g hg hg2
                have hgg : g = gg := by simpa [Value.ownBlock] using hg.symm
                subst hgg
                rcases hat with hat | hat
                · exact hap _ hat hg2
                · have := (hgo.lt _ hg2).2; omega
              · refine Kept.setCell ?_ _ (.inr (by simp; omega)) _
                exact ⟨hgrow.os.trans hSj.os, hgrow.tape.trans hSj.tape, hgrow.output.trans hSj.output, Nat.le_trans hSj.size (Nat.le_trans (by simp) hgrow.size), fun q hq hn => (hgrow.block q (by simp; omega) (fun e => by have := (hgr.lt q e.symm).1; omega)).trans ((Below.heap_alloc _ _ _ (by omega)).trans (hSj.block q hq hn))⟩
          case rest =>
            clear hcl hmd hgr hgo hap hSj hF hcl1 c2 c3 cR' cB' hf hsz hbj
            obtain ⟨rfl, ar2, cr2, hcl, hmd, hgr, hgo, hap, hSj⟩ := hcut
            obtain ⟨hc, hf⟩ := kcell hSj
            have hsz := hSj.size
            have hC := hcl.cell
            have hF := hcl.free
            have hcl1 := hcl.lt
            have hbj : b < wc.heap.size := by omega
            have cR' : wc.cell? ⟨b, off + j * 2, none⟩ = some (.int .i64 (R j)) := (hc b _ hb).trans (HR.out j hlt)
            have cB' : wc.cell? ⟨b, off + j * 2 + 1, none⟩ = some (.int .i64 (B j)) := (hc b _ hb).trans (HB.out j hlt)
            have c2 : wc.cell? ⟨m + 1, 2, none⟩ = some (.slice ar2 (j + 1) cr2) := hC 2
            have c3 : wc.cell? ⟨m + 1, 3, none⟩ = some (.slice ao j co) := hC 3
            clear hC hc
            have hwr : IntKind.i64.wrap (B j - wi) = B j - wi := by rw [IntKind.wrap_i64]; omega
            go_wp2_with fail
            obtain ⟨i3, hi3, hz3, hs3, hb3⟩ := info_of info_int
            have hfa : ∀ o x, (wc.alloc o).frozen? ⟨m + 1, x, none⟩ = false := fun o x => ((hcl.alloc o).free x)
            have hfb : ∀ o x, (wc.alloc o).drew.frozen? ⟨m + 1, x, none⟩ = false := fun o x => ((hcl.alloc o).free x)
            have agr : (Value.slice ao j co).ownBlock ≠ some (m + 1) := by
              intro e; have := (hgo.lt _ e).1; omega
            have agm : (Value.slice ao j co).ownBlock ≠ some m := by
              intro e; have := (hgo.lt _ e).1; omega
            have agb : (Value.slice ao j co).ownBlock ≠ some b := by
              intro e; have := (hgo.lt _ e).1; omega
            go_region_law ((refine step_append_lies _ (by rfl) _ _ _ (by rfl) (m + 2) 3 i3 _ 1 8 Tryz.underlying27 hi3 hz3 hs3 hb3 rfl (by omega) (.slice ao j co) j (intsTo (fun q => B q - wi) j) (by rfl) ((hgo.alloc _).drew) ⟨wc.heap.size, 0, none⟩ 1 1 [.int .i64 (B j - wi)] (by rfl) (by rfl) (World.news_of_block (cs := #[.int .i64 (B j - wi)]) (t := 3) (fr := (0, 0)) (heap_alloc_new wc _)) (by simp [Value.oneCell']) (by omega) (by unfold maxLen; omega) (by omega) (by simp; omega) (wc.heap.size + 1) (by simp) ?_; intro gg cap2 w5 hown1 hgrow hat hlt5; have q1 := hgrow.cell_far ⟨m + 1, 3, none⟩ (by simp; omega) (Ne.symm agr); have q2 := hgrow.frozen_far ⟨m + 1, 3, none⟩ (by simp; omega) (Ne.symm agr)))
            all_goals
              go_wp2
              clear q1 q2 hfa hfb
              refine ⟨⟨j + 1, ar2, some ⟨gg, 0, none⟩, cr2, cap2, by omega, by go_num, ?_, ?_, ?_, ?_, ?_, ?_⟩, by simp [intOf]; omega⟩
              · have h5 : BAt w5 (m + 1) 68 (cArr le wi (.slice ar2 (j + 1) cr2) (.slice ao j co) m (.slice none 0 0)) := (hgrow.block _ (by simp; omega) (Ne.symm agr)).trans (hcl.alloc _)
                exact h5.set 3 _
              · have h5 : BAt w5 m 3 #[.int .i64 0, .int .i64 0, .int .i64 0] := (hgrow.block _ (by simp; omega) (Ne.symm agm)).trans (hmd.alloc _)
                exact h5.far _ (by simp) _
              · exact ownsRow_setCell_below (World.ownsRow.kept ((hgr.alloc _).drew) hgrow (by cases hx : (Value.slice ar2 (j + 1) cr2).ownBlock with | none => exact .inl rfl | some g => exact .inr (fun e => hap g hx e.symm))) (by simp) _
              · exact ownsRow_setCell_below hown1 (by simp) _
              · intro g hg hg2
                have hgg : g = gg := by simpa [Value.ownBlock] using hg2.symm
                subst hgg
                rcases hat with hat | hat
                · exact hap _ hg hat
                · have := (hgr.lt _ hg).2; omega
              · refine Kept.setCell ?_ _ (.inr (by simp; omega)) _
                exact ⟨hgrow.os.trans hSj.os, hgrow.tape.trans hSj.tape, hgrow.output.trans hSj.output, Nat.le_trans hSj.size (Nat.le_trans (by simp) hgrow.size), fun q hq hn => (hgrow.block q (by simp; omega) (fun e => by have := (hgo.lt q e.symm).1; omega)).trans ((Below.heap_alloc _ _ _ (by omega)).trans (hSj.block q hq hn))⟩
        · have hjk : j = k := by omega
          subst hjk
          obtain ⟨gr, rfl⟩ : ∃ gr, ar = some ⟨gr, 0, none⟩ := by
            rcases hgr.2 with ⟨_, h⟩ | ⟨g, _, _, hv, _⟩
            · omega
            · simp only [Value.slice.injEq] at hv; exact ⟨g, hv.1⟩
          obtain ⟨go, rfl⟩ : ∃ go, ao = some ⟨go, 0, none⟩ := by
            rcases hgo.2 with ⟨_, h⟩ | ⟨g, _, _, hv, _⟩
            · omega
            · simp only [Value.slice.injEq] at hv; exact ⟨g, hv.1⟩
          have hne : gr ≠ go := fun e => hap gr rfl (by rw [e]; rfl)
          have hmid : NewMid w m j le wi gr go cr co R B (.slice none 0 0) wr := ⟨hcl, hmd, hgr, hgo, hSj⟩
          clear hcl hmd hgr hgo hap hSj hc hf hsz hC hF hcl1
          go_wp2
          go_loopw [13] (fun x wx => ∃ i : Nat, i ≤ 2 ∧ x = .int .i64 i ∧ Sided w m j le wi gr go cr co R B i wx) (fun x _ => 2 - (intOf x).toNat)
          case atStart => exact ⟨0, by omega, rfl, .inl ⟨rfl, hmid⟩⟩
          case round =>
            clear hmid
            obtain ⟨i, hi2, rfl, hsd⟩ := hrel
            have hmk1 := make_ints j hn4
            have hmk2 := make_nils j hn4
            rcases hsd with ⟨rfl, hmid⟩ | ⟨rfl, gs, cs, s0, w0, p0, hmid, hsl, hs0, hnd, o1, o2, o3⟩ | ⟨rfl, gs, cs, s0, w0, p0, s1, w1, p1, hmid, hsl, hs0, hs1, hnd, o1, o2, o3, o4, o5, o6⟩
            · have hcl1 := hmid.cl.lt
              go_wp2_with fail
              go_cut [13, 14] from 111 to 132 (fun x y wx => x = .int .i64 0 ∧ ∃ s1 w1 p1, y = .pointer (some ⟨s1, 0, none⟩) ∧ OneSide wx j s1 w1 p1 ∧ Same wr wx ∧ wr.heap.size ≤ s1 ∧ wr.heap.size ≤ w1 ∧ wr.heap.size ≤ p1 ∧ s1 ≠ w1 ∧ s1 ≠ p1 ∧ w1 ≠ p1)
              case first =>
                go_region
                · go_wp2_with fail
                  go_meet
                  obtain ⟨t1, t2⟩ := side_made wr j
                  exact ⟨rfl, _, _, _, rfl, t1, t2, by omega, by omega, by omega, by omega, by omega, by omega⟩
                · go_wp2_with fail
                  go_meet
                  obtain ⟨t1, t2⟩ := side_made' wr j
                  exact ⟨rfl, _, _, _, rfl, t1, t2, by omega, by omega, by omega, by omega, by omega, by omega⟩
              case rest =>
                obtain ⟨rfl, s1, w1, p1, rfl, hs1, hSx, z1, z2, z3, d1, d2, d3⟩ := hcut
                have hmc := hmid.kept hSx
                have hC := hmc.cl.cell
                have hF := hmc.cl.free
                have hclc := hmc.cl.lt
                have hrl := (hmc.gr.lt gr rfl)
                have hol := (hmc.go.lt go rfl)
                have hs1l := hs1.s.lt
                have hw1l := hs1.wn.lt
                have hp1l := hs1.p.lt
                have hr0 := (hmid.gr.lt gr rfl).2
                have ho0 := (hmid.go.lt go rfl).2
                have hszx := hSx.size
                obtain ⟨i7, hi7, hz7, hs7, hb7⟩ := info_of info_side
                go_wp2_with (at_builtin; refine wpList_append_lies _ rfl _ _ _ rfl (m + 2) 69 i7 _ 1 8 Tryz.underlying66 hi7 hz7 hs7 hb7 rfl (by omega) (.slice none 0 0) 0 [] rfl (World.ownsRow_nil _ _ _ _) ⟨wc.heap.size, 0, none⟩ 1 1 [.pointer (some ⟨s1, 0, none⟩)] rfl rfl (World.news_of_block (cs := #[.pointer (some ⟨s1, 0, none⟩)]) (t := 69) (fr := (0, 0)) (heap_alloc_new wc _)) (by simp [Value.oneCell']) (by omega) (by unfold maxLen; omega) (by omega) (by simp; omega) (wc.heap.size + 1) (by simp) ?_; intro gg cap2 w5 hown1 hgrow hat hlt5; have q1 := hgrow.cell_far ⟨m + 1, 10, none⟩ (by simp; omega) (by simp [Value.ownBlock]); have q2 := hgrow.frozen_far ⟨m + 1, 10, none⟩ (by simp; omega) (by simp [Value.ownBlock]))
                clear q1 q2
                have hgg : gg = wc.heap.size + 1 := by
                  rcases hat with hat | hat
                  · cases hat
                  · exact hat
                refine ⟨⟨1, by omega, by go_num, .inr (.inl ⟨rfl, gg, cap2, s1, w1, p1, (hmc.kept ((Kept.refl _ _).alloc _)).sides hmw none hgrow (fun g hg => by cases hg) _, ownsRow_setCell_below hown1 (by simp) _, (hs1.alloc _).after none hgrow (fun g hg => by cases hg) (by omega) (by omega) (by omega) _, ?_, by omega, by omega, by omega⟩)⟩, by simp [intOf]⟩
                exact nodup6 (by omega)
            · have hcl1 := hmid.cl.lt
              have hs0l := hs0.s.lt
              have hw0l := hs0.wn.lt
              have hp0l := hs0.p.lt
              have hgl := hsl.lt gs rfl
              have HND : Hid ([gr, go, gs, s0, w0, p0].Nodup) := hnd
              clear hnd
              go_wp2_with fail
              go_cut [13, 14] from 111 to 132 (fun x y wx => x = .int .i64 1 ∧ ∃ s1 w1 p1, y = .pointer (some ⟨s1, 0, none⟩) ∧ OneSide wx j s1 w1 p1 ∧ Same wr wx ∧ wr.heap.size ≤ s1 ∧ wr.heap.size ≤ w1 ∧ wr.heap.size ≤ p1 ∧ s1 ≠ w1 ∧ s1 ≠ p1 ∧ w1 ≠ p1)
              case first =>
                go_region
                · go_wp2_with fail
                  go_meet
                  obtain ⟨t1, t2⟩ := side_made wr j
                  exact ⟨rfl, _, _, _, rfl, t1, t2, by omega, by omega, by omega, by omega, by omega, by omega⟩
                · go_wp2_with fail
                  go_meet
                  obtain ⟨t1, t2⟩ := side_made' wr j
                  exact ⟨rfl, _, _, _, rfl, t1, t2, by omega, by omega, by omega, by omega, by omega, by omega⟩
              case rest =>
                obtain ⟨rfl, s1, w1, p1, rfl, hs1, hSx, z1, z2, z3, d1, d2, d3⟩ := hcut
                have hmc := hmid.kept hSx
                have hC := hmc.cl.cell
                have hF := hmc.cl.free
                have hclc := hmc.cl.lt
                have hrl := (hmc.gr.lt gr rfl)
                have hol := (hmc.go.lt go rfl)
                have hs1l := hs1.s.lt
                have hw1l := hs1.wn.lt
                have hp1l := hs1.p.lt
                have hr0 := (hmid.gr.lt gr rfl).2
                have ho0 := (hmid.go.lt go rfl).2
                have hszx := hSx.size
                have hslc := owns_same hsl hSx
                have hs0c := hs0.kept hSx (fun h => h) (fun h => h) (fun h => h)
                have ags : (Value.slice (some ⟨gs, 0, none⟩) 1 cs).ownBlock ≠ some (m + 1) := by
                  intro e; have := (hsl.lt _ e).1; omega
                obtain ⟨i7, hi7, hz7, hs7, hb7⟩ := info_of info_side
                go_wp2_with (at_builtin; refine wpList_append_lies _ rfl _ _ _ rfl (m + 2) 69 i7 _ 1 8 Tryz.underlying66 hi7 hz7 hs7 hb7 rfl (by omega) (.slice (some ⟨gs, 0, none⟩) 1 cs) 1 [.pointer (some ⟨s0, 0, none⟩)] rfl (hslc.alloc _) ⟨wc.heap.size, 0, none⟩ 1 1 [.pointer (some ⟨s1, 0, none⟩)] rfl rfl (World.news_of_block (cs := #[.pointer (some ⟨s1, 0, none⟩)]) (t := 69) (fr := (0, 0)) (heap_alloc_new wc _)) (by simp [Value.oneCell']) (by omega) (by unfold maxLen; omega) (by omega) (by simp; omega) (wc.heap.size + 1) (by simp) ?_; intro gg cap2 w5 hown1 hgrow hat hlt5; have q1 := hgrow.cell_far ⟨m + 1, 10, none⟩ (by simp; omega) (Ne.symm ags); have q2 := hgrow.frozen_far ⟨m + 1, 10, none⟩ (by simp; omega) (Ne.symm ags))
                clear q1 q2
                have hnd := HND.out
                simp only [List.nodup_cons, List.mem_cons, List.not_mem_nil, or_false, not_or, not_false_eq_true, List.nodup_nil, and_true] at hnd
                obtain ⟨⟨a1, a2, a3, a4, a5⟩, ⟨b2, b3, b4, b5⟩, ⟨c3, c4, c5⟩, ⟨d4, d5⟩, e5⟩ := hnd
                have hgg : gg = gs ∨ gg = wc.heap.size + 1 := by
                  rcases hat with hat | hat
                  · exact .inl (by simpa [Value.ownBlock] using hat.symm)
                  · exact .inr hat
                refine ⟨⟨2, by omega, by go_num, .inr (.inr ⟨rfl, gg, cap2, s0, w0, p0, s1, w1, p1, (hmc.kept ((Kept.refl _ _).alloc _)).sides hmw (some gs) hgrow (fun g hg => by cases hg; exact ⟨hgl.1, fun e => a2 e.symm, fun e => b2 e.symm⟩) _, ownsRow_setCell_below hown1 (by simp) _, (hs0c.alloc _).after (some gs) hgrow (fun g hg => by cases hg; exact ⟨c3, c4, c5⟩) (by omega) (by omega) (by omega) _, (hs1.alloc _).after (some gs) hgrow (fun g hg => by cases hg; have := hgl.2; exact ⟨by omega, by omega, by omega⟩) (by omega) (by omega) (by omega) _, ?_, by omega, by omega, by omega, by omega, by omega, by omega⟩)⟩, by simp [intOf]⟩
                simp only [List.nodup_cons, List.mem_cons, List.not_mem_nil, or_false, not_or, not_false_eq_true, List.nodup_nil, and_true]
                exact ⟨⟨a1, by rcases hgg with rfl | rfl <;> omega, a3, a4, a5, by omega, by omega, by omega⟩, ⟨by rcases hgg with rfl | rfl <;> omega, b3, b4, b5, by omega, by omega, by omega⟩, ⟨by rcases hgg with rfl | rfl <;> omega, by rcases hgg with rfl | rfl <;> omega, by rcases hgg with rfl | rfl <;> omega, by rcases hgg with rfl | rfl <;> omega, by rcases hgg with rfl | rfl <;> omega, by rcases hgg with rfl | rfl <;> omega⟩, ⟨d4, d5, by omega, by omega, by omega⟩, ⟨e5, by omega, by omega, by omega⟩, ⟨by omega, by omega, by omega⟩, ⟨by omega, by omega⟩, by omega⟩
            · have hdone := sided_done (.inr (.inr ⟨rfl, gs, cs, s0, w0, p0, s1, w1, p1, hmid, hsl, hs0, hs1, hnd, o1, o2, o3, o4, o5, o6⟩)) hne
              have HD : Hid (∃ A : RA, A.c = m + 1 ∧ RAt wr A (RS.fresh le wi j R B) ∧ Same w wr ∧ ∀ g, A.in j g → m ≤ g) := hdone
              clear hdone hmid hsl hs0 hs1 hnd o1 o2 o3 o4 o5 o6 hmk1 hmk2
              go_wp2
              go_ret2
              obtain ⟨A, hA, hR, hS, hin⟩ := HD.out
              exact ⟨A, by rw [hA]; rfl, hR, hS, fun g hg => Nat.le_trans hmw (hin g hg)⟩

end Go.Proofs.YtpfahgogjeignaaGreatDoor
