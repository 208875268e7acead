/-
  The document's Ask.
-/
import Derived.Test.YtpfahgogjeignaaGreatDoorRefK
import Derived.Test.YtpfahgogjeignaaGreatDoorProI
set_option linter.unusedVariables false
set_option linter.unusedSimpArgs false
namespace Go.Proofs.YtpfahgogjeignaaGreatDoor
open Go.RowKit
attribute [local go_sem] rg0 rg1 rg2 rg3 rg4 rg5 rg6 rg7 rg8 rg9 rg10 sg0 sg1 sg2 sg3 sg4 sg5 mg0 mg1 mg2 mgk fArr_get
attribute [local go_sem ↓] Go.wp_at_zero Go.wp_at_succ

/-- A window is laid down. -/
def RS.setWin (s : RS) (i k : Nat) (v : Int) : RS := { s with win := upd s.win i (upd (s.win i) k v) }

theorem RAt.setW {w : World} {A : RA} {s : RS} (h : RAt w A s) (i k : Nat) (hi : i < 2) (v : Int) :
    RAt (w.setCell ⟨A.win i, k, none⟩ (.int .i64 v)) A (s.setWin i k v) ∧ RStep s.n A A w (w.setCell ⟨A.win i, k, none⟩ (.int .i64 v)) := by
  have kk : Kept (fun g => g = A.win i) w (w.setCell ⟨A.win i, k, none⟩ (.int .i64 v)) := Wrote.set (Kept.refl _ _) _ _
  have nd := h.nodup
  simp only [RA.all, List.nodup_cons, List.mem_cons, List.not_mem_nil, or_false, not_or, not_false_eq_true, List.nodup_nil, and_true] at nd
  obtain ⟨⟨n01, n02, n03, n04, n05, n06, n07, n08, n09, n0a⟩, ⟨n12, n13, n14, n15, n16, n17, n18, n19, n1a⟩, ⟨n23, n24, n25, n26, n27, n28, n29, n2a⟩, ⟨n34, n35, n36, n37, n38, n39, n3a⟩, ⟨n45, n46, n47, n48, n49, n4a⟩, ⟨n56, n57, n58, n59, n5a⟩, ⟨n67, n68, n69, n6a⟩, ⟨n78, n79, n7a⟩, ⟨n89, n8a⟩, n9a⟩ := nd
  have hw0 : A.win i ∈ A.all := by rcases lt2n hi with rfl | rfl <;> simp [RA.all]
  have ne : ∀ x, x ∈ [A.c, A.rate, A.room, A.modes, A.sides, A.side 0, A.side 1, A.past 0, A.past 1] → ¬ x = A.win i := by
    intro x hx
    simp only [List.mem_cons, List.not_mem_nil, or_false] at hx
    rcases lt2n hi with rfl | rfl
    · rcases hx with rfl | rfl | rfl | rfl | rfl | rfl | rfl | rfl | rfl <;> first | assumption | (intro e; exact absurd e.symm (by assumption))
    · rcases hx with rfl | rfl | rfl | rfl | rfl | rfl | rfl | rfl | rfl <;> first | assumption | (intro e; exact absurd e.symm (by assumption))
  have hin : ∀ j q g, j < 2 → q < s.n → (A.pv j q).ownBlock = some g → ¬ g = A.win i := fun j q g hj hq hg e => h.inner j q g hj hq hg (by rw [e]; exact hw0)
  refine ⟨⟨h.c.kept kk (ne _ (by simp)), h.modes.kept kk (ne _ (by simp)), h.rate.kept kk (ne _ (by simp)), h.room.kept kk (ne _ (by simp)), Nat.lt_of_lt_of_le h.sides kk.size, fun j hj => ?_, fun j hj => ?_, fun j hj => ?_, fun j hj => ?_, fun j q hj hq => ?_, h.nodup, h.inner, h.apart⟩, rfl, rfl, kk.mono (fun g e => by rw [e]; exact in_all hw0), fun _ h => .inl h⟩
  · exact (World.cell?_of_block (w := w) (kk.block A.sides h.sides (ne _ (by simp)))).trans (h.sp j hj)
  · exact (h.side j hj).kept kk (ne _ (by rcases lt2n hj with rfl | rfl <;> simp))
  · by_cases hji : j = i
    · subst hji
      have := (h.win j hj).set k (.int .i64 v)
      rw [fArr_set] at this
      show BAt _ (A.win j) _ (fArr s.n fun q => .int .i64 (upd s.win j (upd (s.win j) k v) j q))
      rw [upd_same]
      have e : (fun q => Value.int .i64 (upd (s.win j) k v q)) = upd (fun q => Value.int .i64 (s.win j q)) k (.int .i64 v) := by
        funext q
        unfold upd
        split <;> rfl
      rw [e]
      exact this
    · show BAt _ (A.win j) _ (fArr s.n fun q => .int .i64 (upd s.win i (upd (s.win i) k v) j q))
      rw [upd_other _ _ hji]
      refine (h.win j hj).kept kk ?_
      intro e
      rcases lt2n hj with rfl | rfl <;> rcases lt2n hi with rfl | rfl
      · exact hji rfl
      · exact n78 e
      · exact n78 e.symm
      · exact hji rfl
  · exact (h.past j hj).kept kk (ne _ (by rcases lt2n hj with rfl | rfl <;> simp))
  · exact (h.pv j q hj hq).kept kk (fun g hg => hin j q g hj hq hg)

/-- What Ask answers where nothing is wrong and the node is up, and what it leaves. -/
def RS.asked (s : RS) (i k : Nat) (cost : Int) : Int × RS :=
  if s.leased i then
    if cost ≤ s.win i k then (5, s.setWin i k (s.win i k - cost))
    else if s.level i k < cost - s.win i k then (6, s)
    else if (s.secured i k (reserveOf (s.level i k) (s.win i k) s.window cost)).1 then
      (5, ((s.secured i k (reserveOf (s.level i k) (s.win i k) s.window cost)).2.did i k (reserveOf (s.level i k) (s.win i k) s.window cost) false).setWin i k (reserveOf (s.level i k) (s.win i k) s.window cost - (cost - s.win i k)))
    else (7, (s.secured i k (reserveOf (s.level i k) (s.win i k) s.window cost)).2)
  else (4, s)

theorem level_bd {r : RS} (ok : r.Ok) (i k : Nat) (hi : i < 2) (hk : k < r.n) : 0 ≤ r.level i k ∧ r.level i k ≤ r.room k := by
  have f := lvTo_facts ok i k hi hk (r.past i k).length (Nat.le_refl _)
  rw [List.take_length] at f
  exact rgrown_bd ok k _ _ f.1 (by have := f.2.2.2.1; omega)
theorem ChOk_snoc {room lo now amt : Int} {put : Bool} {l : List Chg} (h : ChOk room lo now l) (a0 : 0 ≤ amt) (a1 : amt ≤ 3000000) (hp : put = true → amt ≤ room) : ChOk room lo now (l ++ [⟨now, amt, put⟩]) := by
  induction l generalizing lo with
  | nil => exact ⟨h, a0, a1, hp, Int.le_refl _⟩
  | cons c q ih => exact ⟨h.1, h.2.1, h.2.2.1, h.2.2.2.1, ih h.2.2.2.2⟩
theorem did_ok {r : RS} (ok : r.Ok) (i k : Nat) (amt : Int) (put : Bool) (a0 : 0 ≤ amt) (a1 : amt ≤ 3000000) (hp : put = true → amt ≤ r.room k) : (r.did i k amt put).Ok := by
  refine ⟨ok.lease0, ok.lease1, ok.win0, ok.win1, ok.n0, ok.n1, ok.rate0, ok.rate1, ok.room0, ok.room1, ok.now0, ok.now1, ?_⟩
  intro j q hj hq
  have hq' : q < r.n := hq
  by_cases e : j = i ∧ q = k
  · obtain ⟨rfl, rfl⟩ := e
    show ChOk (r.room q) 0 r.now (upd r.past j (upd (r.past j) q (r.past j q ++ [⟨r.now, amt, put⟩])) j q)
    rw [upd2_same]
    exact ChOk_snoc (ok.chs j q hj hq') a0 a1 hp
  · show ChOk (r.room q) 0 r.now (upd r.past i (upd (r.past i) k (r.past i k ++ [⟨r.now, amt, put⟩])) j q)
    rw [upd2_other _ _ e]
    exact ok.chs j q hj hq'
/-- What a level is behind a change. -/
def didLev (l amt : Int) (put : Bool) : Int := if put then amt else chargedLev l amt
theorem level_did {r : RS} (ok : r.Ok) (i k : Nat) (hi : i < 2) (hk : k < r.n) (amt : Int) (put : Bool) (a0 : 0 ≤ amt) (hp : put = true → amt ≤ r.room k) : (r.did i k amt put).level i k = didLev (r.level i k) amt put := by
  have hb := level_bd ok i k hi hk
  show r.grown k (r.lvTo k (upd r.past i (upd (r.past i) k (r.past i k ++ [⟨r.now, amt, put⟩])) i k)).1 (r.now - (r.lvTo k (upd r.past i (upd (r.past i) k (r.past i k ++ [⟨r.now, amt, put⟩])) i k)).2) = _
  rw [upd2_same, lvTo_snoc]
  show r.grown k (if put then amt else if r.level i k < amt then 0 else r.level i k - amt) (r.now - r.now) = _
  have e : didLev (r.level i k) amt put = if put then amt else if r.level i k < amt then 0 else r.level i k - amt := rfl
  rw [e, Int.sub_self]
  generalize r.level i k = l at *
  unfold RS.grown
  rw [Int.mul_zero, Int.add_zero]
  refine if_neg ?_
  cases put
  · simp only [Bool.false_eq_true, if_false]
    split <;> omega
  · simp only [if_true]
    have := hp rfl
    omega
theorem level_did_other (r : RS) {i k j q : Nat} (amt : Int) (put : Bool) (h : ¬ (j = i ∧ q = k)) : (r.did i k amt put).level j q = r.level j q := by
  show r.grown q (r.lvTo q (upd r.past i (upd (r.past i) k (r.past i k ++ [⟨r.now, amt, put⟩])) j q)).1 (r.now - (r.lvTo q (upd r.past i (upd (r.past i) k (r.past i k ++ [⟨r.now, amt, put⟩])) j q)).2) = _
  rw [upd2_other _ _ h]
  rfl
theorem secured_n (r : RS) (i k : Nat) (amt : Int) : (r.secured i k amt).2.n = r.n := by
  unfold RS.secured RS.second
  split
  · rfl
  · split
    · rfl
    · split <;> (dsimp only; split) <;> first | rfl | (split <;> rfl)
theorem asked_n (r : RS) (i k : Nat) (cost : Int) : (r.asked i k cost).2.n = r.n := by
  unfold RS.asked
  have en := secured_n r i k
  split
  · split
    · rfl
    · split
      · rfl
      · split
        · exact en _
        · exact en _
  · rfl
/-- Each past is longer by one at most. -/
theorem did_len (r : RS) (i k : Nat) (amt : Int) (put : Bool) (j q : Nat) : ((r.did i k amt put).past j q).length ≤ (r.past j q).length + 1 ∧ (j ≠ i → ((r.did i k amt put).past j q) = r.past j q) := by
  show (upd r.past i (upd (r.past i) k (r.past i k ++ [⟨r.now, amt, put⟩])) j q).length ≤ _ ∧ (j ≠ i → upd r.past i (upd (r.past i) k (r.past i k ++ [⟨r.now, amt, put⟩])) j q = _)
  unfold upd
  split
  · rename_i e
    refine ⟨?_, fun h => absurd e h⟩
    dsimp only
    split
    · rename_i e2
      rw [e, e2, List.length_append]
      exact Nat.le_refl _
    · rw [e]; omega
  · exact ⟨Nat.le_succ _, fun _ => rfl⟩
theorem second_past (r : RS) (i : Nat) : (r.second i).2.past = r.past := by
  unfold RS.second
  dsimp only
  split
  · rfl
  · split <;> rfl
theorem secured_len (r : RS) (i k : Nat) (hi : i < 2) (amt : Int) (j q : Nat) : ((r.secured i k amt).2.past j q).length ≤ (r.past j q).length + 1 ∧ (r.secured i k amt).2.past i q = r.past i q := by
  unfold RS.secured
  split
  · exact ⟨Nat.le_succ _, rfl⟩
  · split
    · exact ⟨(did_len r (1 - i) k amt false j q).1, (did_len r (1 - i) k amt false i q).2 (by omega)⟩
    · split
      · rw [second_past]
        exact ⟨(did_len r (1 - i) k amt false j q).1, (did_len r (1 - i) k amt false i q).2 (by omega)⟩
      · rw [second_past]
        exact ⟨Nat.le_succ _, rfl⟩
theorem asked_len (r : RS) (i k : Nat) (hi : i < 2) (cost : Int) (j q : Nat) : ((r.asked i k cost).2.past j q).length ≤ (r.past j q).length + 1 := by
  unfold RS.asked
  split
  · split
    · exact Nat.le_succ _
    · split
      · exact Nat.le_succ _
      · generalize reserveOf (r.level i k) (r.win i k) r.window cost = amt
        have sl := secured_len r i k hi amt
        split
        · show (((r.secured i k amt).2.did i k amt false).past j q).length ≤ _
          have d := did_len (r.secured i k amt).2 i k amt false j q
          by_cases hji : j = i
          · subst hji
            rw [(sl j q).2] at d
            exact d.1
          · rw [d.2 hji]
            exact (sl j q).1
        · exact (sl j q).1
  · exact Nat.le_succ _

set_option maxHeartbeats 1000000 in
theorem rask_wrong (A : RA) (s : RS) (i k cost : Int) (hw : s.wrong i k cost ≠ 0) (w : World) (h : RAt w A s) :
    Calls Tryz.prog 36 #[.pointer (some ⟨A.c, 0, none⟩), .int .i64 i, .int .i64 k, .int .i64 cost] w fun e w' => e = .returned (.tuple #[.int .i64 0, .int .i64 (s.wrong i k cost)]) ∧ Same w w' := by
  have e1 : (s.wrong i k cost != 0) = true := by simp [hw]
  go_enter Tryz.func36, Tryz.ntmps36
  go_wp2_with (go_at_call 71; refine (rwrong_any A s i k cost _ h).mono ?_; rintro e w' ⟨rfl, rfl⟩)
  go_ret2
  exact ⟨rfl, Kept.refl _ _⟩

theorem wrong_bd {s : RS} {i k cost : Int} (h : s.wrong i k cost = 0) : isNodeB i = true ∧ 0 ≤ k ∧ k < (s.n : Int) ∧ 1 ≤ cost ∧ cost ≤ 2000000 := by
  unfold RS.wrong at h
  split at h
  · rename_i h1
    split at h
    · rename_i h2
      split at h
      · rename_i h3
        exact ⟨h1, h2.1, h2.2, h3.1, h3.2⟩
      · cases h
    · cases h
  · cases h

set_option maxHeartbeats 1000000 in
theorem rask_down (A : RA) (s : RS) (i k cost : Int) (hw : s.wrong i k cost = 0) (h0 : 0 ≤ i) (h2 : i < 2) (hu : s.up i.toNat = false) (w : World) (h : RAt w A s) :
    Calls Tryz.prog 36 #[.pointer (some ⟨A.c, 0, none⟩), .int .i64 i, .int .i64 k, .int .i64 cost] w fun e w' => e = .returned (.tuple #[.int .i64 0, .int .i64 5]) ∧ Same w w' := by
  have hC := h.c.cell
  have i2 : i.toNat < 2 := by omega
  have hS := (h.side i.toNat i2).cell
  have hp := h.sp i.toNat i2
  go_enter Tryz.func36, Tryz.ntmps36
  go_wp2_with (go_at_call 71; refine (rwrong_any A s i k cost _ h).mono ?_; rintro e w' ⟨rfl, rfl⟩; simp only [hw])
  go_ret2
  exact ⟨rfl, Kept.refl _ _⟩

set_option maxRecDepth 100000 in
set_option maxHeartbeats 2000000 in
theorem rask_yes (A : RA) (s : RS) (i k cost : Int) (hw : s.wrong i k cost = 0) (h0 : 0 ≤ i) (h2 : i < 2) (hu : s.up i.toNat = true) (k0 : 0 ≤ k) (kn : k < s.n) (c0 : 1 ≤ cost) (c1 : cost ≤ 2000000) (w0 : 0 ≤ s.win i.toNat k.toNat) (w1 : s.win i.toNat k.toNat ≤ 1000000) (ok : s.Ok) (w : World) (h : RAt w A s) (hroom : ∀ j, ((s.past j k.toNat).length + 1) * 24 ≤ 140737488355328) :
    Calls Tryz.prog 36 #[.pointer (some ⟨A.c, 0, none⟩), .int .i64 i, .int .i64 k, .int .i64 cost] w fun e w' => e = .returned (.tuple #[.int .i64 (s.asked i.toNat k.toNat cost).1, .int .i64 0]) ∧ ∃ A', RAt w' A' (s.asked i.toNat k.toNat cost).2 ∧ RStep s.n A A' w w' := by
  have hC := h.c.cell
  have i2 : i.toNat < 2 := by omega
  have kn2 : k.toNat < s.n := by omega
  have hS := (h.side i.toNat i2).cell
  have hp := h.sp i.toNat i2
  have hW := (h.win i.toNat i2).cell
  have hWF := (h.win i.toNat i2).free
  have d0 := ok.win0
  have d1 := ok.win1
  obtain ⟨l0, l1⟩ := level_bd ok i.toNat k.toNat i2 kn2
  have l2 := ok.room1 k.toNat
  have l3 : s.level i.toNat k.toNat ≤ 1000000 := by omega
  have HRM : Hid (∀ j, ((s.past j k.toNat).length + 1) * 24 ≤ 140737488355328) := hroom
  clear hroom l1 l2
  have H : Hid (RAt w A s) := h
  cases hh : s.leased i.toNat
  · have e : s.asked i.toNat k.toNat cost = (4, s) := by simp [RS.asked, hh]
    rw [e]
    clear e
    go_enter Tryz.func36, Tryz.ntmps36
    go_wp2_with (first | (go_at_call 71; refine (rwrong_any A s i k cost _ h).mono ?_; rintro e w' ⟨rfl, rfl⟩; simp only [hw]) | (go_at_call 72; refine (rleased_any A s i h0 h2 _ h).mono ?_; rintro e w' ⟨rfl, q, rfl⟩))
    go_ret2
    exact ⟨rfl, A, h.drewN _, RStep.refl _ _ ((Kept.refl _ _).drewN _)⟩
  · by_cases hc : cost ≤ s.win i.toNat k.toNat
    · have FIN : Hid (s.asked i.toNat k.toNat cost = (5, s.setWin i.toNat k.toNat (s.win i.toNat k.toNat - cost))) := by simp [Hid, RS.asked, hh, hc]
      go_enter Tryz.func36, Tryz.ntmps36
      go_wp2_with (first | (go_at_call 71; refine (rwrong_any A s i k cost _ h).mono ?_; rintro e w' ⟨rfl, rfl⟩; simp only [hw]) | (go_at_call 72; refine (rleased_any A s i h0 h2 _ h).mono ?_; rintro e w' ⟨rfl, q, rfl⟩))
      go_region
      go_wp2
      go_ret2
      rw [FIN.out]
      have st := (((h.drewN q).drewN 1).setW i.toNat k.toNat i2 (s.win i.toNat k.toNat - cost))
      exact ⟨rfl, A, st.1, RStep.trans (RStep.refl _ _ (((Kept.refl _ _).drewN q).drewN 1)) st.2⟩
    · by_cases hd : s.level i.toNat k.toNat < cost - s.win i.toNat k.toNat
      · have e : s.asked i.toNat k.toNat cost = (6, s) := by simp [RS.asked, hh, hc, hd]
        rw [e]
        clear e
        go_enter Tryz.func36, Tryz.ntmps36
        go_wp2_with (first | (go_at_call 71; refine (rwrong_any A s i k cost _ h).mono ?_; rintro e w' ⟨rfl, rfl⟩; simp only [hw]) | (go_at_call 72; refine (rleased_any A s i h0 h2 _ h).mono ?_; rintro e w' ⟨rfl, q, rfl⟩) | (go_at_call 73; refine (rlevel_any A s i k h0 h2 k0 kn _ (h.drewN _) ok).mono ?_; rintro e w' ⟨rfl, rfl⟩))
        go_ret2
        exact ⟨rfl, A, h.drewN _, RStep.refl _ _ ((Kept.refl _ _).drewN _)⟩
      · have hb := reserve_bd (lev := s.level i.toNat k.toNat) w0 hc c1 d0 d1
        have ho : (reserveOf (s.level i.toNat k.toNat) (s.win i.toNat k.toNat) s.window cost = cost - s.win i.toNat k.toNat ∧ s.level i.toNat k.toNat < cost - s.win i.toNat k.toNat + s.window) ∨ (reserveOf (s.level i.toNat k.toNat) (s.win i.toNat k.toNat) s.window cost = cost - s.win i.toNat k.toNat + s.window ∧ ¬ s.level i.toNat k.toNat < cost - s.win i.toNat k.toNat + s.window) := by
          unfold reserveOf resN
          split
          · rename_i hx; exact .inl ⟨rfl, hx⟩
          · rename_i hx; exact .inr ⟨rfl, hx⟩
        have fin : s.asked i.toNat k.toNat cost = if (s.secured i.toNat k.toNat (reserveOf (s.level i.toNat k.toNat) (s.win i.toNat k.toNat) s.window cost)).1 then (5, ((s.secured i.toNat k.toNat (reserveOf (s.level i.toNat k.toNat) (s.win i.toNat k.toNat) s.window cost)).2.did i.toNat k.toNat (reserveOf (s.level i.toNat k.toNat) (s.win i.toNat k.toNat) s.window cost) false).setWin i.toNat k.toNat (reserveOf (s.level i.toNat k.toNat) (s.win i.toNat k.toNat) s.window cost - (cost - s.win i.toNat k.toNat))) else (7, (s.secured i.toNat k.toNat (reserveOf (s.level i.toNat k.toNat) (s.win i.toNat k.toNat) s.window cost)).2) := by
          unfold RS.asked
          rw [if_pos hh, if_neg hc, if_neg hd]
        generalize reserveOf (s.level i.toNat k.toNat) (s.win i.toNat k.toNat) s.window cost = amt at *
        obtain ⟨a0, a1, g0, g1⟩ := hb
        have sn := secured_n s i.toNat k.toNat amt
        have sl := (secured_len s i.toNat k.toNat i2 amt i.toNat k.toNat).2
        have hs := fun (q : Nat) => rsecured_any A s i k amt h0 h2 k0 kn (w.drewN q) (h.drewN q) HRM.out
        generalize hsec : s.secured i.toNat k.toNat amt = sec at *
        obtain ⟨did, s2⟩ := sec
        dsimp only at sn sl hs fin
        have kn3 : k < s2.n := by rw [sn]; exact kn
        have HD : Hid (∀ w' A', RAt w' A' s2 → A'.c = A.c → Calls Tryz.prog 75 #[.pointer (some ⟨A.c, 0, none⟩), .int .i64 i, .int .i64 k, .int .i64 amt, .bool false] w' fun e w'' => e = .returned (.tuple #[]) ∧ ∃ A'', RAt w'' A'' (s2.did i.toNat k.toNat amt false) ∧ RStep s.n A' A'' w' w'') := by
          intro w' A' hp' hc'
          have := rdone_any A' s2 i k amt false h0 h2 k0 kn3 w' hp' (by rw [sl]; exact HRM.out _)
          rw [hc', sn] at this
          exact this
        have HSS : Hid (∀ q, Calls Tryz.prog 74 #[.pointer (some ⟨A.c, 0, none⟩), .int .i64 i, .int .i64 k, .int .i64 amt] (w.drewN q) fun e w' => e = .returned (.bool did) ∧ ∃ A', RAt w' A' s2 ∧ RStep s.n A A' (w.drewN q) w') := hs
        have FIN : Hid (s.asked i.toNat k.toNat cost = if did then (5, (s2.did i.toNat k.toNat amt false).setWin i.toNat k.toNat (amt - (cost - s.win i.toNat k.toNat))) else (7, s2)) := fin
        have HSN : Hid (s2.n = s.n) := sn
        have HKN : Hid (k < s2.n) := kn3
        clear hs fin hsec sl sn kn3
        have fin4 : ∀ w' A', RAt w' A' (s2.did i.toNat k.toNat amt false) → A'.side = A.side → (∀ o, w'.cell? ⟨A.side i.toNat, o, none⟩ = (sArr A' (s2.did i.toNat k.toNat amt false) i.toNat)[o]?) ∧ (∀ o, w'.cell? ⟨A'.win i.toNat, o, none⟩ = (fArr s.n fun q => .int .i64 (s2.win i.toNat q))[o]?) ∧ (∀ o, w'.frozen? ⟨A'.win i.toNat, o, none⟩ = false) := by
          intro w' A' hp' hs'
          have e1 := (hp'.side i.toNat i2).cell
          rw [hs'] at e1
          refine ⟨e1, ?_, (hp'.win i.toNat i2).free⟩
          have e2 := (hp'.win i.toNat i2).cell
          intro o
          rw [e2, ← HSN.out]
          rfl
        have F4 : Hid (∀ w' A', RAt w' A' (s2.did i.toNat k.toNat amt false) → A'.side = A.side → (∀ o, w'.cell? ⟨A.side i.toNat, o, none⟩ = (sArr A' (s2.did i.toNat k.toNat amt false) i.toNat)[o]?) ∧ (∀ o, w'.cell? ⟨A'.win i.toNat, o, none⟩ = (fArr s.n fun q => .int .i64 (s2.win i.toNat q))[o]?) ∧ (∀ o, w'.frozen? ⟨A'.win i.toNat, o, none⟩ = false)) := fin4
        clear fin4
        have en : (s2.did i.toNat k.toNat amt false).n = s.n := HSN.out
        rcases ho with ⟨ea, hx⟩ | ⟨ea, hx⟩
        all_goals
          cases did
          · go_enter Tryz.func36, Tryz.ntmps36
            go_wp2_with (first | (go_at_call 71; refine (rwrong_any A s i k cost _ h).mono ?_; rintro e w' ⟨rfl, rfl⟩; simp only [hw]) | (go_at_call 72; refine (rleased_any A s i h0 h2 _ h).mono ?_; rintro e w' ⟨rfl, q, rfl⟩) | (go_at_call 73; refine (rlevel_any A s i k h0 h2 k0 kn _ (h.drewN _) ok).mono ?_; rintro e w' ⟨rfl, rfl⟩) | (go_at_call 74; rw [← ea]; refine (HSS.out q).mono ?_; rintro e w3 ⟨rfl, A3, hr3, st3⟩))
            go_ret2
            rw [FIN.out]
            exact ⟨rfl, A3, hr3, RStep.trans (RStep.refl _ _ ((Kept.refl _ _).drewN _)) st3⟩
          · go_enter Tryz.func36, Tryz.ntmps36
            go_wp2_with (first | (go_at_call 71; refine (rwrong_any A s i k cost _ h).mono ?_; rintro e w' ⟨rfl, rfl⟩; simp only [hw]) | (go_at_call 72; refine (rleased_any A s i h0 h2 _ h).mono ?_; rintro e w' ⟨rfl, q, rfl⟩) | (go_at_call 73; refine (rlevel_any A s i k h0 h2 k0 kn _ (h.drewN _) ok).mono ?_; rintro e w' ⟨rfl, rfl⟩) | (go_at_call 74; rw [← ea]; refine (HSS.out q).mono ?_; rintro e w3 ⟨rfl, A3, hr3, st3⟩) | (go_at_call 75; rw [← ea]; refine (HD.out _ A3 hr3 st3.c).mono ?_; rintro e w4 ⟨rfl, A4, hr4, st4⟩; have es4 := st4.side.trans st3.side; obtain ⟨q1, q2, q3⟩ := F4.out _ A4 hr4 es4))
            go_ret2
            rw [FIN.out]
            have key : ∀ v, v = amt - (cost - s.win i.toNat k.toNat) → RAt (w4.setCell ⟨A4.win i.toNat, k.toNat, none⟩ (.int .i64 v)) A4 ((s2.did i.toNat k.toNat amt false).setWin i.toNat k.toNat (amt - (cost - s.win i.toNat k.toNat))) ∧ RStep s.n A4 A4 w4 (w4.setCell ⟨A4.win i.toNat, k.toNat, none⟩ (.int .i64 v)) := by
              rintro v rfl
              have st := hr4.setW i.toNat k.toNat i2 (amt - (cost - s.win i.toNat k.toNat))
              exact ⟨st.1, RStep.at en st.2⟩
            refine ⟨rfl, A4, (key _ ?_).1, RStep.trans (RStep.trans (RStep.trans (RStep.refl _ _ ((Kept.refl _ _).drewN _)) st3) st4) (key _ ?_).2⟩ <;> omega

end Go.Proofs.YtpfahgogjeignaaGreatDoor
