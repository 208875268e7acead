/-
  The document's small functions, each by a contract. The document's Level, messages, grants; Pass, Link, Start, Crash.
-/
import Derived.Test.YtpfahgogjeignaaGreatDoorRefM
import Derived.Test.YtpfahgogjeignaaGreatDoorProA
set_option linter.unusedVariables false
set_option linter.unusedSimpArgs false
namespace Go.Proofs.YtpfahgogjeignaaGreatDoor
open Go.RowKit
attribute [local go_sem] rg0 rg1 rg2 rg3 rg4 rg5 rg6 rg7 rg8 rg9 rg10 sg0 sg1 sg2 sg3 sg4 sg5 mg0 mg1 mg2 mgk fArr_get


set_option maxHeartbeats 400000 in
theorem rnode_any (n : Int) (w : World) :
    Calls Tryz.prog 58 #[.int .i64 n] w fun e w' => e = .returned (.bool (isNodeB n)) ∧ w' = w := by
  by_cases h0 : n = 0
  · subst h0
    go_enter Tryz.func58, Tryz.ntmps58
    go_wp2
    go_ret
    exact ⟨rfl, rfl⟩
  · have h : (n == 0) = false := by simp [h0]
    go_enter Tryz.func58, Tryz.ntmps58
    go_wp2
    go_ret
    exact ⟨by simp [isNodeB, h], rfl⟩

set_option maxHeartbeats 400000 in
theorem rwitness_any (A : RA) (s : RS) (w : World) (h : RAt w A s) :
    Calls Tryz.prog 43 #[.pointer (some ⟨A.c, 0, none⟩)] w fun e' w' => e' = .returned (.agg #[.int .i64 s.holder, .int .i64 s.epoch, .int .i64 s.til, .bool s.solo]) ∧ Same w w' := by
  have hC := h.c.cell
  have hl := h.c.lt
  go_enter Tryz.func43, Tryz.ntmps43
  go_wp2
  go_region
  go_wp2
  exact bodyPost_ret (v := .agg #[.int .i64 s.holder, .int .i64 s.epoch, .int .i64 s.til, .bool s.solo]) (by simp [results, Tryz.results43, go_sem]) rfl ⟨rfl, ((Kept.refl _ _).alloc _).drew⟩

set_option maxHeartbeats 400000 in
theorem rnode_no (A : RA) (i : Int) (hi : isNodeB i = false) (w : World) :
    Calls Tryz.prog 46 #[.pointer (some ⟨A.c, 0, none⟩), .int .i64 i] w fun e' w' => e' = .returned (.tuple #[.agg #[.bool false, .int .i64 0, .int .i64 0, .bool false], .int .i64 4]) ∧ Same w w' := by
  go_enter Tryz.func46, Tryz.ntmps46
  go_wp2_with (go_at_call 58; refine (rnode_any _ _).mono ?_; rintro e w' ⟨rfl, rfl⟩)
  exact bodyPost_ret (v := .tuple #[.agg #[.bool false, .int .i64 0, .int .i64 0, .bool false], .int .i64 4]) (by simp [results, Tryz.results46, go_sem]) rfl ⟨rfl, (Kept.refl _ _).alloc _⟩

set_option maxHeartbeats 400000 in
theorem rnode_yes (A : RA) (s : RS) (i : Int) (h0 : 0 ≤ i) (h2 : i < 2) (w : World) (h : RAt w A s) :
    Calls Tryz.prog 46 #[.pointer (some ⟨A.c, 0, none⟩), .int .i64 i] w fun e' w' => e' = .returned (.tuple #[.agg #[.bool (s.up i.toNat), .int .i64 (s.sep i.toNat), .int .i64 (s.stil i.toNat), .bool (s.alone i.toNat)], .int .i64 0]) ∧ Same w w' := by
  have hC := h.c.cell
  have hl := h.c.lt
  have i2 : i.toNat < 2 := by omega
  have hS := (h.side i.toNat i2).cell
  have hSl := (h.side i.toNat i2).lt
  have hp := h.sp i.toNat i2
  have hsl := h.sides
  have hn : isNodeB i = true := by rcases lt2 h0 h2 with rfl | rfl <;> rfl
  go_enter Tryz.func46, Tryz.ntmps46
  go_wp2_with (go_at_call 58; refine (rnode_any _ _).mono ?_; rintro e w' ⟨rfl, rfl⟩)
  go_region
  go_wp2
  exact bodyPost_ret (v := .tuple #[.agg #[.bool (s.up i.toNat), .int .i64 (s.sep i.toNat), .int .i64 (s.stil i.toNat), .bool (s.alone i.toNat)], .int .i64 0]) (by simp [results, Tryz.results46, go_sem]) rfl ⟨rfl, ((Kept.refl _ _).alloc _).drew⟩

def RS.grown (s : RS) (k : Nat) (l t : Int) : Int := if s.room k < l + s.rate k * t then s.room k else l + s.rate k * t

set_option maxHeartbeats 400000 in
theorem rgrown_any (A : RA) (s : RS) (k l t : Int) (hk0 : 0 ≤ k) (hk : k < s.n) (l0 : 0 ≤ l) (l1 : l ≤ 1000000) (t0 : 0 ≤ t) (t1 : t ≤ 1000000000000) (w : World) (h : RAt w A s) (ok : s.Ok) :
    Calls Tryz.prog 79 #[.pointer (some ⟨A.c, 0, none⟩), .int .i64 k, .int .i64 l, .int .i64 t] w fun e w' => e = .returned (.int .i64 (s.grown k.toNat l t)) ∧ w' = w := by
  have hC := h.c.cell
  have hkn : k.toNat < s.n := by omega
  have hR := h.rate.2 k.toNat hkn
  have hO := h.room.2 k.toNat hkn
  obtain ⟨m0, m1⟩ := mul_bd (ok.rate0 k.toNat) (ok.rate1 k.toNat) t0 t1
  by_cases hr : s.room k.toNat < l + s.rate k.toNat * t
  · have e : s.grown k.toNat l t = s.room k.toNat := if_pos hr
    rw [e]
    clear e
    go_enter Tryz.func79, Tryz.ntmps79
    go_wp2
    go_ret
    exact ⟨rfl, rfl⟩
  · have e : s.grown k.toNat l t = l + s.rate k.toNat * t := if_neg hr
    rw [e]
    clear e
    go_enter Tryz.func79, Tryz.ntmps79
    go_wp2
    go_ret
    exact ⟨rfl, rfl⟩

/-- One change: the level and the time behind it. -/
def RS.lvStep (s : RS) (k : Nat) (st : Int × Int) (c : Chg) : Int × Int :=
  (if c.put then c.amt else if s.grown k st.1 (c.t - st.2) < c.amt then 0 else s.grown k st.1 (c.t - st.2) - c.amt, c.t)
def RS.lvTo (s : RS) (k : Nat) (l : List Chg) : Int × Int := l.foldl (s.lvStep k) (s.room k, 0)
/-- A level, from the beginning. -/
def RS.level (s : RS) (i k : Nat) : Int := s.grown k (s.lvTo k (s.past i k)).1 (s.now - (s.lvTo k (s.past i k)).2)

theorem rgrown_bd {s : RS} (ok : s.Ok) (k : Nat) (l t : Int) (l0 : 0 ≤ l) (t0 : 0 ≤ t) : 0 ≤ s.grown k l t ∧ s.grown k l t ≤ s.room k := by
  unfold RS.grown
  have h1 := ok.room0 k
  have h4 := Int.mul_nonneg (ok.rate0 k) t0
  split <;> omega

theorem lvTo_snoc (s : RS) (k : Nat) (l : List Chg) (c : Chg) : s.lvTo k (l ++ [c]) = s.lvStep k (s.lvTo k l) c := by
  simp [RS.lvTo, List.foldl_append]

theorem lvStep_bd {s : RS} (ok : s.Ok) (k : Nat) (st : Int × Int) (c : Chg) (now : Int) (a0 : 0 ≤ st.1) (b0 : 0 ≤ st.2) (h1 : st.2 ≤ c.t) (h2 : 0 ≤ c.amt) (h4 : c.put = true → c.amt ≤ s.room k) :
    0 ≤ (s.lvStep k st c).1 ∧ (s.lvStep k st c).1 ≤ s.room k ∧ (s.lvStep k st c).2 = c.t := by
  obtain ⟨g0, g1⟩ := rgrown_bd ok k st.1 (c.t - st.2) a0 (by omega)
  have r0 := ok.room0 k
  unfold RS.lvStep
  refine ⟨?_, ?_, rfl⟩
  · dsimp only
    split
    · exact h2
    · split <;> omega
  · dsimp only
    split
    · rename_i h; exact h4 h
    · split <;> omega

/-- Along a past all is in its bounds. -/
theorem lv_walk {s : RS} (ok : s.Ok) (k : Nat) (now : Int) (l : List Chg) : ∀ st : Int × Int, ChOk (s.room k) st.2 now l → 0 ≤ st.1 → st.1 ≤ s.room k → 0 ≤ st.2 →
    ∀ j, j ≤ l.length → 0 ≤ ((l.take j).foldl (s.lvStep k) st).1 ∧ ((l.take j).foldl (s.lvStep k) st).1 ≤ s.room k ∧ 0 ≤ ((l.take j).foldl (s.lvStep k) st).2 ∧ ((l.take j).foldl (s.lvStep k) st).2 ≤ now ∧
      ∀ h : j < l.length, ((l.take j).foldl (s.lvStep k) st).2 ≤ l[j].t ∧ l[j].t ≤ now ∧ 0 ≤ l[j].amt ∧ l[j].amt ≤ 3000000 ∧ (l[j].put = true → l[j].amt ≤ s.room k) := by
  induction l with
  | nil =>
    intro st hc a0 a1 b0 j hj
    have : j = 0 := by simpa using hj
    subst this
    exact ⟨a0, a1, b0, hc, fun h => absurd h (Nat.not_lt_zero _)⟩
  | cons c r ih =>
    intro st hc a0 a1 b0 j hj
    obtain ⟨h1, h2, h3, h4, h5⟩ := hc
    obtain ⟨s0, s1, s2⟩ := lvStep_bd ok k st c now a0 b0 h1 h2 h4
    have ih' := ih (s.lvStep k st c) (by rw [s2]; exact h5) s0 s1 (by rw [s2]; omega)
    have hnow : c.t ≤ now := by have := (ih' 0 (Nat.zero_le _)).2.2.2.1; simpa [s2] using this
    cases j with
    | zero => exact ⟨a0, a1, b0, by simp; omega, fun _ => ⟨h1, hnow, h2, h3, h4⟩⟩
    | succ j =>
      have := ih' j (by simpa using hj)
      simpa using this

theorem lvTo_facts {s : RS} (ok : s.Ok) (i k : Nat) (hi : i < 2) (hk : k < s.n) (j : Nat) (hj : j ≤ (s.past i k).length) :
    0 ≤ (s.lvTo k ((s.past i k).take j)).1 ∧ (s.lvTo k ((s.past i k).take j)).1 ≤ s.room k ∧ 0 ≤ (s.lvTo k ((s.past i k).take j)).2 ∧ (s.lvTo k ((s.past i k).take j)).2 ≤ s.now ∧
      ∀ h : j < (s.past i k).length, (s.lvTo k ((s.past i k).take j)).2 ≤ (s.past i k)[j].t ∧ (s.past i k)[j].t ≤ s.now ∧ 0 ≤ (s.past i k)[j].amt ∧ (s.past i k)[j].amt ≤ 3000000 ∧ ((s.past i k)[j].put = true → (s.past i k)[j].amt ≤ s.room k) :=
  lv_walk ok k s.now (s.past i k) (s.room k, 0) (ok.chs i k hi hk) (ok.room0 k) (Int.le_refl _) (Int.le_refl _) j hj

set_option maxHeartbeats 1000000 in
theorem rlevel_any (A : RA) (s : RS) (i k : Int) (h0 : 0 ≤ i) (h2 : i < 2) (hk0 : 0 ≤ k) (hk : k < s.n) (w : World) (h : RAt w A s) (ok : s.Ok) :
    Calls Tryz.prog 73 #[.pointer (some ⟨A.c, 0, none⟩), .int .i64 i, .int .i64 k] w fun e w' => e = .returned (.int .i64 (s.level i.toNat k.toNat)) ∧ w' = w := by
  have hC := h.c.cell
  have hkn : k.toNat < s.n := by omega
  have i2 : i.toNat < 2 := by omega
  have hO := h.room.2 k.toNat hkn
  have hS := (h.side i.toNat i2).cell
  have hp := h.sp i.toNat i2
  have hP := (h.past i.toNat i2).cell k.toNat
  rw [fArr_get _ _ _ hkn] at hP
  have hV := h.pv i.toNat k.toNat i2 hkn
  have hfin : s.level i.toNat k.toNat = s.grown k.toNat (s.lvTo k.toNat ((s.past i.toNat k.toNat).take (s.past i.toNat k.toNat).length)).1 (s.now - (s.lvTo k.toNat ((s.past i.toNat k.toNat).take (s.past i.toNat k.toNat).length)).2) := by rw [List.take_length]; rfl
  have FIN : Hid (s.level i.toNat k.toNat = s.grown k.toNat (s.lvTo k.toNat ((s.past i.toNat k.toNat).take (s.past i.toNat k.toNat).length)).1 (s.now - (s.lvTo k.toNat ((s.past i.toNat k.toNat).take (s.past i.toNat k.toNat).length)).2)) := hfin
  clear hfin
  have fct := lvTo_facts ok i.toNat k.toNat i2 hkn
  have HF : Hid (∀ j, j ≤ (s.past i.toNat k.toNat).length → 0 ≤ (s.lvTo k.toNat ((s.past i.toNat k.toNat).take j)).1 ∧ (s.lvTo k.toNat ((s.past i.toNat k.toNat).take j)).1 ≤ s.room k.toNat ∧ 0 ≤ (s.lvTo k.toNat ((s.past i.toNat k.toNat).take j)).2 ∧ (s.lvTo k.toNat ((s.past i.toNat k.toNat).take j)).2 ≤ s.now ∧
      ∀ h : j < (s.past i.toNat k.toNat).length, (s.lvTo k.toNat ((s.past i.toNat k.toNat).take j)).2 ≤ (s.past i.toNat k.toNat)[j].t ∧ (s.past i.toNat k.toNat)[j].t ≤ s.now ∧ 0 ≤ (s.past i.toNat k.toNat)[j].amt ∧ (s.past i.toNat k.toNat)[j].amt ≤ 3000000 ∧ ((s.past i.toNat k.toNat)[j].put = true → (s.past i.toNat k.toNat)[j].amt ≤ s.room k.toNat)) := fct
  clear fct
  have hRm := ok.room1 k.toNat
  have n1 := ok.now1
  generalize hl : s.past i.toNat k.toNat = l at *
  clear hl
  obtain ⟨hlen, hv⟩ := hV
  rcases hv with ⟨hv, hz⟩ | ⟨g, cap, cur, hv, _, hg, hcap, hmax, hcur, htk⟩
  · rw [hv] at hP
    have hl : l = [] := List.length_eq_zero_iff.1 hz
    subst hl
    have f0 := HF.out 0 (Nat.zero_le _)
    have e0 : s.lvTo k.toNat ([].take 0) = (s.room k.toNat, 0) := rfl
    rw [e0] at f0
    simp only [List.length_nil, e0] at FIN
    have n0 := ok.now0
    have r0 := ok.room0 k.toNat
    clear HF e0 f0 hlen hz
    go_enter Tryz.func73, Tryz.ntmps73
    go_wp2
    go_loop [7, 8, 10] (fun a b c => a = .int .i64 (s.room k.toNat) ∧ b = .int .i64 0 ∧ c = .int .i64 0) (fun _ _ _ => 0)
    case atStart => exact ⟨rfl, rfl, rfl⟩
    case round =>
      obtain ⟨rfl, rfl, rfl⟩ := hrel
      go_wp2_with (go_at_call 79; refine (rgrown_any A s k (s.room k.toNat) (s.now) hk0 hk r0 hRm n0 n1 _ h ok).mono ?_; rintro e w' ⟨rfl, rfl⟩)
      go_ret
      exact ⟨by rw [FIN.out]; simp, rfl⟩
  · rw [hv] at hP
    have hcl : ∀ j (hj : j < l.length), w.cell? ⟨g, j * 3, none⟩ = some (.int .i64 l[j].t) ∧ w.cell? ⟨g, j * 3 + 1, none⟩ = some (.int .i64 l[j].amt) ∧ w.cell? ⟨g, j * 3 + 2, none⟩ = some (.bool l[j].put) := by
      intro j hj
      have key : ∀ o, o < l.length * 3 → w.cell? ⟨g, o, none⟩ = (pastCells l)[o]? := by
        intro o ho
        rw [cell_of_block hg o, ← htk, List.getElem?_take]
        rw [if_pos ho]
        simp
      obtain ⟨p0, p1, p2⟩ := pastCells_get l j hj
      exact ⟨(key _ (by omega)).trans p0, (key _ (by omega)).trans p1, (key _ (by omega)).trans p2⟩
    have HCL : Hid (∀ j (hj : j < l.length), w.cell? ⟨g, j * 3, none⟩ = some (.int .i64 l[j].t) ∧ w.cell? ⟨g, j * 3 + 1, none⟩ = some (.int .i64 l[j].amt) ∧ w.cell? ⟨g, j * 3 + 2, none⟩ = some (.bool l[j].put)) := hcl
    have hm : l.length ≤ maxLen := by omega
    unfold maxLen at hm
    have e0 : s.lvTo k.toNat (l.take 0) = (s.room k.toNat, 0) := rfl
    clear hcl hlen hcap hmax hcur htk hg hv
    go_enter Tryz.func73, Tryz.ntmps73
    go_wp2
    go_loop [7, 8, 10] (fun a b c => ∃ j : Nat, j ≤ l.length ∧ a = .int .i64 (s.lvTo k.toNat (l.take j)).1 ∧ b = .int .i64 (s.lvTo k.toNat (l.take j)).2 ∧ c = .int .i64 j) (fun _ _ c => l.length - (intOf c).toNat)
    case atStart => exact ⟨0, Nat.zero_le _, by rw [e0], by rw [e0], rfl⟩
    case round =>
      obtain ⟨j, hj, rfl, rfl, rfl⟩ := hrel
      clear e0
      obtain ⟨f0, f1, f2, f3, f4⟩ := HF.out j hj
      by_cases hlt : j < l.length
      · obtain ⟨q0, q1, q2, q3, q4⟩ := f4 hlt
        obtain ⟨c0, c1, c2⟩ := HCL.out j hlt
        have hst : s.lvTo k.toNat (l.take (j + 1)) = s.lvStep k.toNat (s.lvTo k.toNat (l.take j)) l[j] := by
          rw [List.take_succ_eq_append_getElem hlt, lvTo_snoc]
        have HST : Hid (s.lvTo k.toNat (l.take (j + 1)) = s.lvStep k.toNat (s.lvTo k.toNat (l.take j)) l[j]) := hst
        clear hst f4 q4
        have hji : (j : Int) < (l.length : Int) := by omega
        generalize hc : l[j] = c at *
        clear hc
        generalize hst : s.lvTo k.toNat (l.take j) = st at *
        clear hst
        obtain ⟨g0, g1⟩ := rgrown_bd ok k.toNat st.1 (c.t - st.2) f0 (by omega)
        have sl : st.1 ≤ 1000000 := by omega
        cases hput : c.put
        · by_cases hch : s.grown k.toNat st.1 (c.t - st.2) < c.amt
          · have e1 : s.lvStep k.toNat st c = (0, c.t) := by simp [RS.lvStep, hput, hch]
            have E1 : Hid (s.lvStep k.toNat st c = (0, c.t)) := e1
            clear e1
            go_wp2_with (go_at_call 79; refine (rgrown_any A s k st.1 (c.t - st.2) hk0 hk f0 sl (by omega) (by omega) _ h ok).mono ?_; rintro e w' ⟨rfl, rfl⟩)
            exact ⟨⟨j + 1, by omega, by rw [HST.out, E1.out], by rw [HST.out, E1.out], by go_num⟩, by simp [intOf]; omega⟩
          · have e1 : s.lvStep k.toNat st c = (s.grown k.toNat st.1 (c.t - st.2) - c.amt, c.t) := by simp [RS.lvStep, hput, hch]
            have E1 : Hid (s.lvStep k.toNat st c = (s.grown k.toNat st.1 (c.t - st.2) - c.amt, c.t)) := e1
            clear e1
            go_wp2_with (go_at_call 79; refine (rgrown_any A s k st.1 (c.t - st.2) hk0 hk f0 sl (by omega) (by omega) _ h ok).mono ?_; rintro e w' ⟨rfl, rfl⟩)
            exact ⟨⟨j + 1, by omega, by rw [HST.out, E1.out], by rw [HST.out, E1.out], by go_num⟩, by simp [intOf]; omega⟩
        · have e1 : s.lvStep k.toNat st c = (c.amt, c.t) := by simp [RS.lvStep, hput]
          have E1 : Hid (s.lvStep k.toNat st c = (c.amt, c.t)) := e1
          clear e1
          go_wp2_with (go_at_call 79; refine (rgrown_any A s k st.1 (c.t - st.2) hk0 hk f0 sl (by omega) (by omega) _ h ok).mono ?_; rintro e w' ⟨rfl, rfl⟩)
          exact ⟨⟨j + 1, by omega, by rw [HST.out, E1.out], by rw [HST.out, E1.out], by go_num⟩, by simp [intOf]; omega⟩
      · have hjl : j = l.length := by omega
        clear f4
        subst hjl
        have sl : (s.lvTo k.toNat (l.take l.length)).1 ≤ 1000000 := by omega
        generalize hst : s.lvTo k.toNat (l.take l.length) = st at *
        clear hst
        go_wp2_with (go_at_call 79; refine (rgrown_any A s k st.1 (s.now - st.2) hk0 hk f0 sl (by omega) (by omega) _ h ok).mono ?_; rintro e w' ⟨rfl, rfl⟩)
        go_ret
        exact ⟨by rw [FIN.out]; simp, rfl⟩

end Go.Proofs.YtpfahgogjeignaaGreatDoor

namespace Go.Proofs.YtpfahgogjeignaaGreatDoor
open Go.RowKit
attribute [local go_sem] rg0 rg1 rg2 rg3 rg4 rg5 rg6 rg7 rg8 rg9 rg10 sg0 sg1 sg2 sg3 sg4 sg5 mg0 mg1 mg2 mgk fArr_get

set_option maxHeartbeats 400000 in
theorem rlevel_noNode (A : RA) (i k : Int) (hi : isNodeB i = false) (w : World) :
    Calls Tryz.prog 49 #[.pointer (some ⟨A.c, 0, none⟩), .int .i64 i, .int .i64 k] w fun e' w' => e' = .returned (.tuple #[.int .i64 0, .int .i64 0, .int .i64 4]) ∧ ∃ q, w' = w.drewN q := by
  go_enter Tryz.func49, Tryz.ntmps49
  go_wp2_with (go_at_call 58; refine (rnode_any _ _).mono ?_; rintro e w' ⟨rfl, rfl⟩)
  go_ret3
  exact ⟨rfl, 0, rfl⟩

set_option maxHeartbeats 400000 in
theorem rlevel_noTenant (A : RA) (s : RS) (i k : Int) (hn : isNodeB i = true) (hk : k < 0 ∨ (s.n : Int) ≤ k) (w : World) (h : RAt w A s) :
    Calls Tryz.prog 49 #[.pointer (some ⟨A.c, 0, none⟩), .int .i64 i, .int .i64 k] w fun e' w' => e' = .returned (.tuple #[.int .i64 0, .int .i64 0, .int .i64 2]) ∧ ∃ q, w' = w.drewN q := by
  have hC := h.c.cell
  by_cases h1 : k < 0
  · clear hk
    go_enter Tryz.func49, Tryz.ntmps49
    go_wp2_with (go_at_call 58; refine (rnode_any _ _).mono ?_; rintro e w' ⟨rfl, rfl⟩)
    go_ret3
    exact ⟨rfl, 0, rfl⟩
  · have h2 : (s.n : Int) ≤ k := by omega
    clear hk
    go_enter Tryz.func49, Tryz.ntmps49
    go_wp2_with (go_at_call 58; refine (rnode_any _ _).mono ?_; rintro e w' ⟨rfl, rfl⟩)
    go_ret3
    exact ⟨rfl, 0, rfl⟩

set_option maxHeartbeats 400000 in
theorem rlevel_yes (A : RA) (s : RS) (i k : Int) (h0 : 0 ≤ i) (h2 : i < 2) (hk0 : 0 ≤ k) (hk : k < s.n) (w : World) (h : RAt w A s) (ok : s.Ok) :
    Calls Tryz.prog 49 #[.pointer (some ⟨A.c, 0, none⟩), .int .i64 i, .int .i64 k] w fun e' w' => e' = .returned (.tuple #[.int .i64 (s.level i.toNat k.toNat), .int .i64 (s.win i.toNat k.toNat), .int .i64 0]) ∧ ∃ q, w' = w.drewN q := by
  have hC := h.c.cell
  have hkn : k.toNat < s.n := by omega
  have i2 : i.toNat < 2 := by omega
  have hS := (h.side i.toNat i2).cell
  have hp := h.sp i.toNat i2
  have hW := (h.win i.toNat i2).cell k.toNat
  rw [fArr_get _ _ _ hkn] at hW
  have hn : isNodeB i = true := by rcases lt2 h0 h2 with rfl | rfl <;> rfl
  go_enter Tryz.func49, Tryz.ntmps49
  go_wp2_with (first | (go_at_call 58; refine (rnode_any _ _).mono ?_; rintro e w' ⟨rfl, rfl⟩) | (go_at_call 73; refine (rlevel_any A s i k h0 h2 hk0 hk _ h ok).mono ?_; rintro e w' ⟨rfl, rfl⟩))
  go_quiet (fail)
  go_wp2
  go_ret3
  exact ⟨rfl, _, rfl⟩

def RS.arrives (s : RS) (i j : Nat) : Bool := !(s.mode (i + j - 1) == 2) && (j == 2 || s.up j)
def RS.answered (s : RS) (i j : Nat) : Bool := s.arrives i j && s.mode (i + j - 1) == 0

set_option maxHeartbeats 400000 in
theorem rsent_any (A : RA) (s : RS) (i j : Int) (hi : i = 0 ∨ i = 1) (hj : j = 2 ∨ j = 1 - i) (w : World) (h : RAt w A s) :
    Calls Tryz.prog 64 #[.pointer (some ⟨A.c, 0, none⟩), .int .i64 i, .int .i64 j] w fun e' w' => e' = .returned (.tuple #[.bool (s.arrives i.toNat j.toNat), .bool (s.answered i.toNat j.toNat)]) ∧ w' = w := by
  have hC := h.c.cell
  have hM := h.modes.cell
  have p0 := h.sp 0 (by omega)
  have p1 := h.sp 1 (by omega)
  have s0 := (h.side 0 (by omega)).cell
  have s1 := (h.side 1 (by omega)).cell
  unfold RS.answered RS.arrives
  rcases hi with rfl | rfl <;> rcases hj with rfl | rfl
  · by_cases e : s.mode 1 = 2
    · have e2 : (s.mode 1 == 2) = true := by simp [e]
      go_enter Tryz.func64, Tryz.ntmps64
      go_wp2
      go_ret2
      exact ⟨by simp [e2], rfl⟩
    · have e2 : (s.mode 1 == 2) = false := by simp [e]
      go_enter Tryz.func64, Tryz.ntmps64
      go_wp2
      go_ret2
      exact ⟨by simp [e2], rfl⟩
  · by_cases e : s.mode 0 = 2
    · have e2 : (s.mode 0 == 2) = true := by simp [e]
      go_enter Tryz.func64, Tryz.ntmps64
      go_wp2
      go_ret2
      exact ⟨by simp [e2], rfl⟩
    · have e2 : (s.mode 0 == 2) = false := by simp [e]
      cases hu : s.up 1
      all_goals
        go_enter Tryz.func64, Tryz.ntmps64
        go_wp2
        go_ret2
        exact ⟨by simp [e2, hu], rfl⟩
  · by_cases e : s.mode 2 = 2
    · have e2 : (s.mode 2 == 2) = true := by simp [e]
      go_enter Tryz.func64, Tryz.ntmps64
      go_wp2
      go_ret2
      exact ⟨by simp [e2], rfl⟩
    · have e2 : (s.mode 2 == 2) = false := by simp [e]
      go_enter Tryz.func64, Tryz.ntmps64
      go_wp2
      go_ret2
      exact ⟨by simp [e2], rfl⟩
  · by_cases e : s.mode 0 = 2
    · have e2 : (s.mode 0 == 2) = true := by simp [e]
      go_enter Tryz.func64, Tryz.ntmps64
      go_wp2
      go_ret2
      exact ⟨by simp [e2], rfl⟩
    · have e2 : (s.mode 0 == 2) = false := by simp [e]
      cases hu : s.up 0
      all_goals
        go_enter Tryz.func64, Tryz.ntmps64
        go_wp2
        go_ret2
        exact ⟨by simp [e2, hu], rfl⟩

def RS.grants (s : RS) (i : Int) : Bool := s.holder == i || s.holder == -1 || (decide (s.til ≤ s.now) && !s.solo)

set_option maxHeartbeats 400000 in
theorem rgrants_any (A : RA) (s : RS) (i : Int) (w : World) (h : RAt w A s) :
    Calls Tryz.prog 65 #[.pointer (some ⟨A.c, 0, none⟩), .int .i64 i] w fun e' w' => e' = .returned (.bool (s.grants i)) ∧ ∃ n, w' = w.drewN n := by
  have hC := h.c.cell
  unfold RS.grants
  cases e1 : (s.holder == i)
  · cases e2 : (s.holder == -1)
    · by_cases e3 : s.til ≤ s.now
      · have e4 : decide (s.til ≤ s.now) = true := by simpa using e3
        go_enter Tryz.func65, Tryz.ntmps65
        go_wp2
        go_quiet (fail)
        go_wp2
        go_ret
        exact ⟨by simp [e3], _, rfl⟩
      · have e4 : decide (s.til ≤ s.now) = false := by simpa using e3
        go_enter Tryz.func65, Tryz.ntmps65
        go_wp2
        go_quiet (fail)
        go_wp2
        go_ret
        exact ⟨by simp [e4], _, rfl⟩
    · go_enter Tryz.func65, Tryz.ntmps65
      go_wp2
      go_quiet (fail)
      go_wp2
      go_ret
      exact ⟨rfl, _, rfl⟩
  · go_enter Tryz.func65, Tryz.ntmps65
    go_wp2
    go_quiet (fail)
    go_wp2
    go_ret
    exact ⟨rfl, _, rfl⟩

end Go.Proofs.YtpfahgogjeignaaGreatDoor
