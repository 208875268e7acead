/-
  The document's done.
-/
import Derived.Test.YtpfahgogjeignaaGreatDoorRefH
set_option linter.unusedVariables false
set_option linter.unusedSimpArgs false
namespace Go.Proofs.YtpfahgogjeignaaGreatDoor
open Go.RowKit
attribute [local go_sem] rg0 rg1 rg2 rg3 rg4 rg5 rg6 rg7 rg8 rg9 rg10 sg0 sg1 sg2 sg3 sg4 sg5 mg0 mg1 mg2 mgk fArr_get
attribute [local go_sem ↓] Go.wp_at_zero Go.wp_at_succ

theorem info_chg : ((Tryz.prog.info? 109).map fun i => (i.zero, i.size, i.bytes)) = some (some (.agg #[.int .i64 0, .int .i64 0, .bool false]), 3, 24) := by kernel_rfl

/-- Something is done to a level. -/
def RS.did (s : RS) (i k : Nat) (amt : Int) (put : Bool) : RS := s.withPast i k (s.past i k ++ [⟨s.now, amt, put⟩])

set_option maxRecDepth 100000 in
set_option maxHeartbeats 2000000 in
theorem rdone_any (A : RA) (s : RS) (i k amt : Int) (put : Bool) (h0 : 0 ≤ i) (h2 : i < 2) (k0 : 0 ≤ k) (kn : k < s.n) (w : World) (h : RAt w A s) (hroom : ((s.past i.toNat k.toNat).length + 1) * 24 ≤ 140737488355328) :
    Calls Tryz.prog 75 #[.pointer (some ⟨A.c, 0, none⟩), .int .i64 i, .int .i64 k, .int .i64 amt, .bool put] w fun e w' => e = .returned (.tuple #[]) ∧ ∃ A', RAt w' A' (s.did i.toNat k.toNat amt put) ∧ RStep s.n A A' w w' := by
  have hC := h.c.cell
  have i2 : i.toNat < 2 := by omega
  have kn2 : k.toNat < s.n := by omega
  have hS := (h.side i.toNat i2).cell
  have hp := h.sp i.toNat i2
  have hsl := h.sides
  have hcl := h.c.lt
  have hSl := (h.side i.toNat i2).lt
  have hPl := (h.past i.toNat i2).lt
  have hP0 := (h.past i.toNat i2).cell k.toNat
  rw [fArr_get _ _ _ kn2] at hP0
  have hV := h.pv i.toNat k.toNat i2 kn2
  obtain ⟨av, cv, hv⟩ : ∃ av cv, A.pv i.toNat k.toNat = .slice av (s.past i.toNat k.toNat).length cv := by
    rcases hV.2 with ⟨hv, hz⟩ | ⟨g, cap, cur, hv, _⟩
    · exact ⟨none, 0, by rw [hv, hz]⟩
    · exact ⟨_, _, hv⟩
  rw [hv] at hP0 hV
  have HV : Hid (A.pv i.toNat k.toNat = .slice av (s.past i.toNat k.toNat).length cv) := hv
  have hpast : BAt w (A.past i.toNat) 107 (fArr s.n (A.pv i.toNat)) := h.past i.toNat i2
  have inn : ∀ x, x ∈ A.all → (Value.slice av (s.past i.toNat k.toNat).length cv).ownBlock ≠ some x := fun x hx e => h.inner i.toNat k.toNat x i2 kn2 (by rw [hv]; exact e) hx
  have ipa := inn (A.past i.toNat) (by rcases lt2n i2 with e | e <;> rw [e] <;> simp [RA.all])
  have isd := inn (A.side i.toNat) (by rcases lt2n i2 with e | e <;> rw [e] <;> simp [RA.all])
  have icc := inn A.c (by simp [RA.all])
  have HR : Hid (((s.past i.toNat k.toNat).length + 1) * 24 ≤ 140737488355328) := hroom
  have hfree : ∀ o x, (w.alloc o).frozen? ⟨A.past i.toNat, x, none⟩ = false := fun o x => (hpast.alloc o).free x
  clear hv inn hroom
  have hV2 : w.ownsRow 0 109 3 (.slice av (s.past i.toNat k.toNat).length cv) (s.past i.toNat k.toNat).length (pastCells (s.past i.toNat k.toNat)) := hV
  clear hV
  generalize hlen : (s.past i.toNat k.toNat).length = len at *
  have HLEN : Hid ((s.past i.toNat k.toNat).length = len) := hlen
  clear hlen
  have fin : ∀ (o : Obj) (gg cap2 : Nat) (w5 : World), w5.ownsRow 0 109 3 (.slice (some ⟨gg, 0, none⟩) (len + 1) cap2) (len + 1) (pastCells (s.past i.toNat k.toNat) ++ [.int .i64 s.now, .int .i64 amt, .bool put]) → (w.alloc o).drew.grownBy w5 (Value.slice av len cv).ownBlock → ((Value.slice av len cv).ownBlock = some gg ∨ gg = w.heap.size + 1) →
      ∃ A', RAt (w5.setCell ⟨A.past i.toNat, k.toNat, none⟩ (.slice (some ⟨gg, 0, none⟩) (len + 1) cap2)) A' (s.did i.toNat k.toNat amt put) ∧ RStep s.n A A' w (w5.setCell ⟨A.past i.toNat, k.toNat, none⟩ (.slice (some ⟨gg, 0, none⟩) (len + 1) cap2)) := by
    intro o gg cap2 w5 hw hg5 ha5
    have el : (s.past i.toNat k.toNat ++ [(⟨s.now, amt, put⟩ : Chg)]).length = len + 1 := by rw [List.length_append, HLEN.out]; rfl
    have ec : pastCells (s.past i.toNat k.toNat ++ [(⟨s.now, amt, put⟩ : Chg)]) = pastCells (s.past i.toNat k.toNat) ++ [.int .i64 s.now, .int .i64 amt, .bool put] := pastCells_append _ _
    have hown5 : w5.ownsRow 0 109 3 (.slice (some ⟨gg, 0, none⟩) (s.past i.toNat k.toNat ++ [(⟨s.now, amt, put⟩ : Chg)]).length cap2) (s.past i.toNat k.toNat ++ [(⟨s.now, amt, put⟩ : Chg)]).length (pastCells (s.past i.toNat k.toNat ++ [(⟨s.now, amt, put⟩ : Chg)])) := by
      rw [el, ec]; exact hw
    have hat5 : (A.pv i.toNat k.toNat).ownBlock = some gg ∨ (w.alloc o).drew.heap.size ≤ gg := by
      rw [HV.out]
      rcases ha5 with e | e
      · exact .inl e
      · refine .inr ?_
        rw [e]
        show (w.alloc o).heap.size ≤ _
        simp
    have r := h.setPast i.toNat k.toNat i2 kn2 (((Kept.refl _ _).alloc o).drew) (by rw [HV.out]; exact hg5) gg cap2 (s.past i.toNat k.toNat ++ [(⟨s.now, amt, put⟩ : Chg)]) hown5 hat5
    rw [el] at r
    exact ⟨_, r.1, r.2⟩
  have FIN : Hid (∀ (o : Obj) (gg cap2 : Nat) (w5 : World), w5.ownsRow 0 109 3 (.slice (some ⟨gg, 0, none⟩) (len + 1) cap2) (len + 1) (pastCells (s.past i.toNat k.toNat) ++ [.int .i64 s.now, .int .i64 amt, .bool put]) → (w.alloc o).drew.grownBy w5 (Value.slice av len cv).ownBlock → ((Value.slice av len cv).ownBlock = some gg ∨ gg = w.heap.size + 1) →
      ∃ A', RAt (w5.setCell ⟨A.past i.toNat, k.toNat, none⟩ (.slice (some ⟨gg, 0, none⟩) (len + 1) cap2)) A' (s.did i.toNat k.toNat amt put) ∧ RStep s.n A A' w (w5.setCell ⟨A.past i.toNat, k.toNat, none⟩ (.slice (some ⟨gg, 0, none⟩) (len + 1) cap2))) := fin
  clear fin
  obtain ⟨i9, hi9, hz9, hs9, hb9⟩ := info_of info_chg
  go_enter Tryz.func75, Tryz.ntmps75
  go_wp2_with fail
  go_region_law ((refine step_append_lies _ (by rfl) _ _ _ (by rfl) 0 109 i9 _ 3 24 Tryz.underlying107 hi9 hz9 hs9 hb9 rfl (by omega) (.slice av len cv) len (pastCells (s.past i.toNat k.toNat)) (by rfl) ((World.ownsRow.alloc hV2 _).drew) ⟨w.heap.size, 0, none⟩ 1 1 [.int .i64 s.now, .int .i64 amt, .bool put] (by rfl) (by rfl) (World.news_of_block (cs := #[.int .i64 s.now, .int .i64 amt, .bool put]) (t := 109) (fr := (0, 0)) (heap_alloc_new w _)) (by simp [Value.oneCell']) (by omega) (by have := HR.out; unfold maxLen; omega) (by have := HR.out; omega) (by simp) (w.heap.size + 1) (by simp) ?_; intro gg cap2 w5 hown1 hgrow hat hlt5; have q1 := hgrow.cell_far ⟨A.past i.toNat, k.toNat, none⟩ (by simp; omega) (Ne.symm ipa); have q2 := hgrow.frozen_far ⟨A.past i.toNat, k.toNat, none⟩ (by simp; omega) (Ne.symm ipa); have q3 := hgrow.cell_far ⟨A.side i.toNat, 5, none⟩ (by simp; omega) (Ne.symm isd)))
  all_goals go_wp2_with fail
  all_goals go_end0
  all_goals exact ⟨rfl, FIN.out _ gg cap2 w5 hown1 hgrow hat⟩

end Go.Proofs.YtpfahgogjeignaaGreatDoor
