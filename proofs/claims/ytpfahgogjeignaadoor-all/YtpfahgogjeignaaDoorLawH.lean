/-
  Each call that turns a cluster: the program's and the document's, side by side.
-/
import Derived.Test.YtpfahgogjeignaaDoorSimA
import Derived.Test.YtpfahgogjeignaaDoorProI
import Derived.Test.YtpfahgogjeignaaDoorFit
set_option linter.unusedVariables false
set_option linter.unusedSimpArgs false
namespace Go.Proofs.YtpfahgogjeignaaDoor
open Go.RowKit

/-- A call of the document's. -/
def RDoes (f : FuncId) (args : List Value) (r r' : RS) (v : Value) : Prop := ∀ w A, RAt w A r → Calls Tryd.prog f (.pointer (some ⟨A.c, 0, none⟩) :: args).toArray w fun e w' => e = .returned v ∧ ∃ A', RAt w' A' r' ∧ RStep r.n A A' w w'

theorem rdoes_not {f : FuncId} {args : List Value} {r : RS} {v : Value} (h : ∀ w A, RAt w A r → Calls Tryd.prog f (.pointer (some ⟨A.c, 0, none⟩) :: args).toArray w fun e w' => e = .returned v ∧ Same w w') : RDoes f args r r v :=
  fun w A hw => (h w A hw).mono fun _ _ ⟨he, k⟩ => ⟨he, A, hw.same k, RStep.refl _ _ k⟩

/-- Both do, and stay alike. -/
structure Both (fp fr : FuncId) (args : List Value) (b : Nat) (s : PC) (r : RS) (v : Value) (s' : PC) (r' : RS) : Prop where
  pd : PDoes fp args b s s' v
  rd : RDoes fr args r r' v
  sim : Sim s' r'
  n : r'.n = r.n
  len : ∀ i k, (r'.past i k).length ≤ (r.past i k).length + 1
  fit : ∀ m, Fit s m → (m : Int) < 9000000000000000000 → Fit s' (m + 1)

theorem pass_both {s : PC} {r : RS} (h : Sim s r) (b : Nat) (t : Int) : ∃ c s' r', Both 30 45 [.int .i64 t] b s r (.int .i64 c) s' r' := by
  by_cases ht : t < 0 ∨ 1000000000000 - s.now < t
  · exact ⟨8, s, r, pdoes_not (fun w hw => pass_no b s t ht h.ok w hw), rdoes_not (fun w A hw => rpass_no A r t (by rw [← h.now]; exact ht) h.rok w hw), h, rfl, fun _ _ => Nat.le_succ _, fun _ hf _ => hf.later⟩
  · have t0 : 0 ≤ t := by omega
    have t1 : t ≤ 1000000000000 - s.now := by omega
    exact ⟨0, s.passed t, r.passed t, fun w hw => pass_yes b s t t0 t1 h.ok w hw, fun w A hw => (rpass_yes A r t t0 (by rw [← h.now]; exact t1) h.rok w hw).mono fun _ _ ⟨he, hr, hs⟩ => ⟨he, A, hr, hs⟩, sim_passed h t t0 t1, rfl, fun _ _ => Nat.le_succ _, fun _ hf hm => fit_passed hf hm t t0 t1⟩
theorem link_both {s : PC} {r : RS} (h : Sim s r) (b : Nat) (x y m : Int) : ∃ c s' r', Both 31 46 [.int .i64 x, .int .i64 y, .int .i64 m] b s r (.int .i64 c) s' r' := by
  cases hl : linkOk x y m
  · exact ⟨7, s, r, pdoes_not (fun w _ => link_no b x y m hl w), rdoes_not (fun w A _ => rlink_no A x y m hl w), h, rfl, fun _ _ => Nat.le_succ _, fun _ hf _ => hf.later⟩
  · exact ⟨0, s.linked x y m, r.linked x y m, fun w hw => link_yes b s x y m hl w hw, fun w A hw => (rlink_yes A r x y m hl w hw).mono fun _ _ ⟨he, hr, hs⟩ => ⟨he, A, hr, hs⟩, sim_linked h x y m, rfl, fun _ _ => Nat.le_succ _, fun _ hf hm => fit_linked hf hm x y m hl⟩
theorem crash_both {s : PC} {r : RS} (h : Sim s r) (b : Nat) (i : Int) : ∃ c s' r', Both 32 47 [.int .i64 i] b s r (.int .i64 c) s' r' := by
  cases hi : isNodeB i
  · exact ⟨4, s, r, pdoes_not (fun w _ => crash_noNode b i hi w), rdoes_not (fun w A _ => rcrash_noNode A i hi w), h, rfl, fun _ _ => Nat.le_succ _, fun _ hf _ => hf.later⟩
  · obtain ⟨i0, i2⟩ := node_bd hi
    have i2n : i.toNat < 2 := by omega
    cases hu : s.up i.toNat
    · exact ⟨5, s, r, pdoes_not (fun w hw => crash_down b s i i0 i2 hu w hw), rdoes_not (fun w A hw => rcrash_down A r i i0 i2 (by rw [← h.up _ i2n]; exact hu) w hw), h, rfl, fun _ _ => Nat.le_succ _, fun _ hf _ => hf.later⟩
    · exact ⟨0, s.crashed i.toNat, r.crashed i.toNat, fun w hw => crash_yes b s i i0 i2 hu w hw, fun w A hw => rcrash_yes A r i i0 i2 (by rw [← h.up _ i2n]; exact hu) h.rok w hw, sim_crashed h _, rfl, fun _ _ => Nat.le_succ _, fun _ hf hm => fit_crashed hf hm i hi hu⟩
theorem start_both {s : PC} {r : RS} (h : Sim s r) (b : Nat) (i : Int) : ∃ c s' r', Both 33 48 [.int .i64 i] b s r (.int .i64 c) s' r' := by
  cases hi : isNodeB i
  · exact ⟨4, s, r, pdoes_not (fun w _ => start_noNode b i hi w), rdoes_not (fun w A _ => rstart_noNode A i hi w), h, rfl, fun _ _ => Nat.le_succ _, fun _ hf _ => hf.later⟩
  · obtain ⟨i0, i2⟩ := node_bd hi
    have i2n : i.toNat < 2 := by omega
    cases hu : s.up i.toNat
    · exact ⟨0, s.started i.toNat, r.started i.toNat, fun w hw => start_yes b s i i0 i2 hu w hw, fun w A hw => rstart_yes A r i i0 i2 (by rw [← h.up _ i2n]; exact hu) w hw, sim_started h _, rfl, fun _ _ => Nat.le_succ _, fun _ hf hm => fit_started hf hm i hi hu⟩
    · exact ⟨6, s, r, pdoes_not (fun w hw => start_up b s i i0 i2 hu w hw), rdoes_not (fun w A hw => rstart_up A r i i0 i2 (by rw [← h.up _ i2n]; exact hu) w hw), h, rfl, fun _ _ => Nat.le_succ _, fun _ hf _ => hf.later⟩
theorem campaigned_n (r : RS) (i : Int) : (r.campaigned i).2.n = r.n := by
  unfold RS.campaigned RS.granted RS.took RS.withSide
  split
  · split
    · split
      · show (if _ then _ else _ : RS).n = r.n
        split <;> rfl
      · show (if _ then _ else _ : RS).n = r.n
        split <;> rfl
    · rfl
  · rfl
theorem campaigned_past (r : RS) (i : Int) : (r.campaigned i).2.past = r.past := by
  unfold RS.campaigned RS.granted RS.took RS.withSide
  split
  · split
    · split
      · show (if _ then _ else _ : RS).past = r.past
        split <;> rfl
      · show (if _ then _ else _ : RS).past = r.past
        split <;> rfl
    · rfl
  · rfl
theorem campaign_both {s : PC} {r : RS} (h : Sim s r) (b : Nat) (i : Int) : ∃ v c s' r', Both 34 49 [.int .i64 i] b s r (.tuple #[.int .i64 v, .int .i64 c]) s' r' := by
  cases hi : isNodeB i
  · exact ⟨0, 4, s, r, pdoes_not (fun w _ => campaign_noNode b i hi w), rdoes_not (fun w A _ => rcampaign_noNode A i hi w), h, rfl, fun _ _ => Nat.le_succ _, fun _ hf _ => hf.later⟩
  · obtain ⟨i0, i2⟩ := node_bd hi
    have i2n : i.toNat < 2 := by omega
    cases hu : s.up i.toNat
    · exact ⟨0, 5, s, r, pdoes_not (fun w hw => campaign_down b s i i0 i2 hu w hw), rdoes_not (fun w A hw => rcampaign_down A r i i0 i2 (by rw [← h.up _ i2n]; exact hu) w hw), h, rfl, fun _ _ => Nat.le_succ _, fun _ hf _ => hf.later⟩
    · have hru : r.up i.toNat = true := by rw [← h.up _ i2n]; exact hu
      obtain ⟨e1, e2⟩ := sim_campaigned h i i0 i2
      refine ⟨(s.campaigned i).1, 0, (s.campaigned i).2, (r.campaigned i).2, fun w hw => campaign_yes b s i i0 i2 hu h.ok w hw, fun w A hw => ?_, e2, campaigned_n r i, fun j k => by rw [campaigned_past]; exact Nat.le_succ _, fun _ hf hm => fit_campaigned hf hm i hi hu⟩
      rw [e1]
      by_cases hno : r.arrives i.toNat 2 = false ∨ r.grants i = false
      · refine (rcampaign_not A r i i0 i2 hru hno w hw).mono fun _ _ ⟨he, k⟩ => ⟨he, A, ?_, RStep.refl _ _ k⟩
        rw [campaigned_not hno]; exact hw.same k
      · have ha : r.arrives i.toNat 2 = true := by cases hx : r.arrives i.toNat 2; · exact absurd (.inl hx) hno
                                                   · rfl
        have hg : r.grants i = true := by cases hx : r.grants i; · exact absurd (.inr hx) hno
                                          · rfl
        exact rcampaign_yes A r i i0 i2 hru ha hg h.rok w hw

/-- A pair behind a call of each. -/
theorem Pair.wrote {w w' : World} {p b : Nat} {A : RA} {s s' : PC} {r : RS} (h : Pair w p b A s r) (k : Wrote b w w') (c : PAt w' b s') : Pair w' p b A s' r :=
  ⟨h.hp.kept k h.pb, c, h.hr.kept k (fun g hg e => h.br (by rw [← e]; exact hg)), h.pb, h.pr, h.br⟩
theorem Pair.rstep {w w' : World} {p b : Nat} {A A' : RA} {s : PC} {r r' : RS} (h : Pair w p b A s r) (st : RStep r.n A A' w w') (hr : RAt w' A' r') (hn : r'.n = r.n) : Pair w' p b A' s r' := by
  refine ⟨?_, h.hc.kept st.kept h.br, hr, h.pb, fun hp => ?_, fun hb => ?_⟩
  · rw [st.c]; exact h.hp.kept st.kept h.pr
  · rw [hn] at hp
    rcases st.new _ hp with h' | h'
    · exact h.pr h'
    · have := h.hp.lt; omega
  · rw [hn] at hb
    rcases st.new _ hb with h' | h'
    · exact h.br h'
    · have := h.hc.lt; omega

end Go.Proofs.YtpfahgogjeignaaDoor

namespace Go.Proofs.YtpfahgogjeignaaDoor
open Go.RowKit

theorem ask_both {s : PC} {r : RS} (h : Sim s r) (b : Nat) (i k cost : Int) (hroom : ∀ j q, ((r.past j q).length + 1) * 24 ≤ 140737488355328) : ∃ v c s' r', Both 35 50 [.int .i64 i, .int .i64 k, .int .i64 cost] b s r (.tuple #[.int .i64 v, .int .i64 c]) s' r' := by
  by_cases hw : r.wrong i k cost = 0
  · have hws : s.wrong i k cost = 0 := by rw [wrong_eq h]; exact hw
    obtain ⟨hi, k0, kn, c0, c1⟩ := wrong_bd hw
    obtain ⟨i0, i2⟩ := node_bd hi
    have i2n : i.toNat < 2 := by omega
    have k2n : k.toNat < r.n := by omega
    cases hu : s.up i.toNat
    · exact ⟨0, 5, s, r, pdoes_not (fun w hp => ask_down b s i k cost hws i0 i2 hu w hp), rdoes_not (fun w A hp => rask_down A r i k cost hw i0 i2 (by rw [← h.up _ i2n]; exact hu) w hp), h, rfl, fun _ _ => Nat.le_succ _, fun _ hf _ => hf.later⟩
    · obtain ⟨e1, e2⟩ := sim_asked h i.toNat k.toNat i2n k2n cost c0 c1
      refine ⟨(s.asked i.toNat k.toNat cost).1, 0, (s.asked i.toNat k.toNat cost).2, (r.asked i.toNat k.toNat cost).2, fun w hp => ask_yes b s i k cost hws i0 i2 hu k0 (by rw [h.count]; exact kn) c0 c1 h.ok w hp, fun w A hp => ?_, e2, asked_n r _ _ _, fun j q => asked_len r _ _ i2n _ j q, fun _ hf hm => fit_asked hf hm i k cost hws hu⟩
      rw [e1]
      exact rask_yes A r i k cost hw i0 i2 (by rw [← h.up _ i2n]; exact hu) k0 kn c0 c1 (by rw [← h.win _ _ i2n k2n]; exact h.ok.wn0 _ _) (by rw [← h.win _ _ i2n k2n]; exact Int.le_trans (h.ok.wn1 _ _) h.ok.win1) h.rok w hp (fun j => hroom j _)
  · have hws : s.wrong i k cost ≠ 0 := by rw [wrong_eq h]; exact hw
    refine ⟨0, r.wrong i k cost, s, r, pdoes_not (fun w hp => ?_), rdoes_not (fun w A hp => rask_wrong A r i k cost hw w hp), h, rfl, fun _ _ => Nat.le_succ _, fun _ hf _ => hf.later⟩
    have := ask_wrong b s i k cost hws w hp
    rw [wrong_eq h] at this
    exact this

end Go.Proofs.YtpfahgogjeignaaDoor

namespace Go.Proofs.YtpfahgogjeignaaDoor
open Go.RowKit

theorem join_both {s : PC} {r : RS} (h : Sim s r) (b : Nat) (i : Int) (hroom : ∀ j q, ((r.past j q).length + 1) * 24 ≤ 140737488355328) : ∃ v c s' r', Both 36 51 [.int .i64 i] b s r (.tuple #[.int .i64 v, .int .i64 c]) s' r' := by
  have hd := join_does h.ok b i
  cases hi : isNodeB i
  · have e : s.joinR i = ((0, 4), s) := by simp [PC.joinR, hi]
    rw [e] at hd
    exact ⟨0, 4, s, r, hd, rdoes_not (fun w A _ => rjoin_noNode A i hi w), h, rfl, fun _ _ => Nat.le_succ _, fun _ hf _ => hf.later⟩
  · obtain ⟨i0, i2⟩ := node_bd hi
    have i2n : i.toNat < 2 := by omega
    cases hu : s.up i.toNat
    · have e : s.joinR i = ((0, 5), s) := by simp [PC.joinR, hi, hu]
      rw [e] at hd
      exact ⟨0, 5, s, r, hd, rdoes_not (fun w A hp => rjoin_down A r i i0 i2 (by rw [← h.up _ i2n]; exact hu) w hp), h, rfl, fun _ _ => Nat.le_succ _, fun _ hf _ => hf.later⟩
    · have e : s.joinR i = (((s.joined i.toNat).1, 0), (s.joined i.toNat).2) := by simp [PC.joinR, hi, hu]
      rw [e] at hd
      obtain ⟨e1, e2⟩ := sim_joined h i.toNat i2n
      refine ⟨(s.joined i.toNat).1, 0, (s.joined i.toNat).2, (r.joined i.toNat).2, hd, fun w A hp => ?_, e2, joined_n r _, fun j q => joined_len r _ j q, fun _ hf hm => fit_joined hf hm i hi hu⟩
      rw [e1]
      exact rjoin_yes A r i i0 i2 (by rw [← h.up _ i2n]; exact hu) h.rok w hp hroom
theorem wait_both {s : PC} {r : RS} (h : Sim s r) (b : Nat) (i k cost : Int) : ∃ v c, Both 37 52 [.int .i64 i, .int .i64 k, .int .i64 cost] b s r (.tuple #[.int .i64 v, .int .i64 c]) s r := by
  have hd := wait_does h.ok b i k cost
  by_cases hw : r.wrong i k cost = 0
  · obtain ⟨hi, k0, kn, c0, c1⟩ := wrong_bd hw
    obtain ⟨i0, i2⟩ := node_bd hi
    have i2n : i.toNat < 2 := by omega
    have k2n : k.toNat < r.n := by omega
    refine ⟨_, _, hd, fun w A hp => ?_, h, rfl, fun _ _ => Nat.le_succ _, fun _ hf _ => hf.later⟩
    refine (rwait_yes A r i k cost hw i0 i2 k0 kn c0 c1 (by rw [← h.win _ _ i2n k2n]; exact h.ok.wn0 _ _) (by rw [← h.win _ _ i2n k2n]; exact Int.le_trans (h.ok.wn1 _ _) h.ok.win1) h.rok w hp).mono ?_
    rintro e w' ⟨v, rfl, hv, rfl⟩
    have e := sim_wait h i k cost v hw hv
    rw [e]
    exact ⟨rfl, A, hp, RStep.refl _ _ (Kept.refl _ _)⟩
  · have e : s.waitR i k cost = (0, r.wrong i k cost) := by
      unfold PC.waitR
      rw [wrong_eq h, if_neg hw]
    rw [e] at hd
    exact ⟨_, _, hd, rdoes_not (fun w A hp => rwait_wrong A r i k cost hw w hp), h, rfl, fun _ _ => Nat.le_succ _, fun _ hf _ => hf.later⟩

end Go.Proofs.YtpfahgogjeignaaDoor
