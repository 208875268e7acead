/-
  The caller's list: handed, still.
-/
import Derived.Test.YtpfahgogjeignabDoorArr
import Derived.Test.YtpfahgogjeignabDoorProF
set_option linter.unusedVariables false
set_option linter.unusedSimpArgs false
namespace Go.Proofs.YtpfahgogjeignabDoor
open Go.RowKit
attribute [local go_sem] fArr_get

theorem info_ten : ((Tryd.prog.info? 56).map fun i => (i.zero, i.size, i.bytes)) = some (some (.agg #[.int .i64 0, .int .i64 0]), 2, 16) := by kernel_rfl
theorem made_tens (n : Nat) : madeCells #[Value.int .i64 0, Value.int .i64 0] (n * 2) = fArr (n * 2) (fun _ => .int .i64 0) := by
  unfold madeCells fArr
  apply Array.ext_getElem?
  intro j
  by_cases hj : j < n * 2
  · rcases (by omega : j % 2 = 0 ∨ j % 2 = 1) with h | h <;> simp [hj, h]
  · simp [hj]
theorem make_tens (n : Nat) (hn : n * 16 ≤ 140737488355328) (w : World) :
    (Instr.makeSlice 22 (.int .i64 ((n : Int) + 2)) (.int .i64 ((n : Int) + 2))).run Tryd.prog w = .ok (.slice (some ⟨w.heap.size, 0, none⟩) (n + 2) (n + 2)) (w.alloc (.cells (fArr ((n + 2) * 2) fun _ => .int .i64 0) 56)) := by
  obtain ⟨i, hi, hz, hs, hb⟩ := info_of info_ten
  have := run_make (P := Tryd.prog) w 22 56 i _ Tryd.underlying22 hi hz .i64 .i64 ((n : Int) + 2) ((n : Int) + 2) (by omega) (by omega) (by rw [hb]; omega) (by omega)
  rw [this, hs]
  have e : ((n : Int) + 2).toNat = n + 2 := by omega
  rw [e]
  rw [show (Value.agg #[.int .i64 0, .int .i64 0]).cells = #[Value.int .i64 0, Value.int .i64 0] from rfl, made_tens]
theorem make_tens0 (n : Nat) (hn : n * 16 ≤ 140737488355328) (w : World) :
    (Instr.makeSlice 22 (.int .i64 (n : Int)) (.int .i64 (n : Int))).run Tryd.prog w = .ok (.slice (some ⟨w.heap.size, 0, none⟩) n n) (w.alloc (.cells (fArr (n * 2) fun _ => .int .i64 0) 56)) := by
  obtain ⟨i, hi, hz, hs, hb⟩ := info_of info_ten
  have := run_make (P := Tryd.prog) w 22 56 i _ Tryd.underlying22 hi hz .i64 .i64 (n : Int) (n : Int) (by omega) (by omega) (by rw [hb]; omega) (by omega)
  rw [this, hs]
  rw [Int.toNat_natCast]
  rw [show (Value.agg #[.int .i64 0, .int .i64 0]).cells = #[Value.int .i64 0, Value.int .i64 0] from rfl, made_tens]

set_option maxRecDepth 100000 in
theorem run_copy_ten (w : World) (ty : TypeId) (g m n cap : Nat) (hnm : n ≤ m) (ad : Option Addr) (z : Nat → Value) (f : Nat → Value) (hb : BAt w g 56 (fArr (m * 2) z))
    (hsrc : n = 0 ∨ ∃ x, ad = some x ∧ ∀ j, j < n * 2 → w.cell? (x.add j) = some (f j)) (h1 : ∀ j, (f j).oneCell' = true) :
    ∃ w2, (Builtin.copy_ #[22, 22] ty #[.slice (some ⟨g, 0, none⟩) m m, .slice ad n cap]).run Tryd.prog w = .ok (goInt n) w2 ∧ BAt w2 g 56 (fArr (m * 2) fun o => if o < n * 2 then f o else z o) ∧ Kept (fun k => k = g) w w2 := by
  have cs : ∃ l : List Value, l = (List.range (n * 2)).map f := ⟨_, rfl⟩
  obtain ⟨cs, hcs⟩ := cs
  have hlen : cs.length = n * 2 := by rw [hcs]; simp
  have hst := run_storeCells_at Tryd.prog g 0 56 cs 0 (fArr (m * 2) z) w hb (by rw [fArr_size, hlen]; omega) (fun v hv => by
    rw [hcs] at hv
    obtain ⟨j, _, rfl⟩ := List.mem_map.1 hv
    exact h1 j)
  have hmin : Nat.min n m = n := Nat.min_eq_left (by omega)
  obtain ⟨i, hi, hz, hs, hb2⟩ := info_of info_ten
  have hld : (Builtin.firstCells 2 n (.slice ad n cap)).run Tryd.prog w = .ok cs.toArray w := by
    rcases hsrc with h0 | ⟨x, rfl, hx⟩
    · subst h0
      have e : cs = [] := by rw [hcs]; rfl
      cases ad with
      | none => rw [e]; simp [Builtin.firstCells]
      | some x => rw [e]; exact run_loadCells_list w x [] (fun j v h => by simp at h)
    · show (loadCells x (n * 2)).run Tryd.prog w = _
      rw [← hlen]
      refine run_loadCells_list w x cs (fun j v h => ?_)
      have hj : j < n * 2 := by
        have := (List.getElem?_eq_some_iff.1 h).1
        omega
      rw [hx j hj]
      rw [hcs] at h
      simpa [hj] using h
  refine ⟨w.setRow g ((fArr (m * 2) z).toList.take (0 + 0) ++ cs ++ (fArr (m * 2) z).toList.drop (0 + 0 + cs.length)).toArray, ?_, ?_, ?_⟩
  · simp only [Builtin.copy_]
    simp [run_underlying Tryd.underlying22, Builtin.lenOf, sizeOf, typeInfo, hi, hs, hmin, hld, hst]
  · have := setRow_heap w g _ ((fArr (m * 2) z).toList.take (0 + 0) ++ cs ++ (fArr (m * 2) z).toList.drop (0 + 0 + cs.length)).toArray _ _ hb
    unfold BAt
    rw [this]
    congr 2
    apply Array.ext_getElem?
    intro j
    have hdl : (0 + 0 + cs.length) = n * 2 := by omega
    rw [hdl]
    simp only [Nat.add_zero, List.take_zero, List.nil_append, List.getElem?_toArray]
    by_cases hj : j < n * 2
    · rw [List.getElem?_append_left (by omega), fArr_get _ _ _ (by omega), hcs, if_pos hj]
      simp [hj]
    · rw [List.getElem?_append_right (by omega), hlen, List.getElem?_drop]
      rw [show n * 2 + (j - n * 2) = j by omega]
      by_cases hj2 : j < m * 2
      · rw [fArr_get _ _ _ hj2, if_neg hj]
        have := fArr_get (m * 2) z j hj2
        simpa using this
      · have e1 := fArr_size (m * 2) z
        have e2 := fArr_size (m * 2) (fun o => if o < n * 2 then f o else z o)
        rw [List.getElem?_eq_none (by simp [e1]; omega), Array.getElem?_eq_none (by omega)]
  · refine ⟨rfl, rfl, rfl, by simp [World.setRow], fun k hk hne => ?_⟩
    simp only [World.setRow, Array.getElem?_modify]
    rw [if_neg (fun e => hne e.symm)]

theorem wpList_copy_ten {w : World} {ops : Array Oper} {rest : List Oper} {o : Oper} {a : Act} {Q : Exit → Act → World → Prop} (hgd : o.guard = none) (d s : Operand)
    (ho : o.op = .call { callee := .builtin .copy, args := #[d, s], argTypes := #[22, 22] }) (g m n cap : Nat) (hnm : n ≤ m) (ad : Option Addr) (z f : Nat → Value) (hd : a.eval d = .slice (some ⟨g, 0, none⟩) m m) (hs : a.eval s = .slice ad n cap)
    (hb : BAt w g 56 (fArr (m * 2) z)) (hsrc : n = 0 ∨ ∃ x, ad = some x ∧ ∀ j, j < n * 2 → w.cell? (x.add j) = some (f j)) (h1 : ∀ j, (f j).oneCell' = true)
    (h : ∀ w2, BAt w2 g 56 (fArr (m * 2) fun o => if o < n * 2 then f o else z o) → Kept (fun k => k = g) w w2 → wpList Tryd.prog ops Q rest (a.put o.dst (goInt n)) w2) : wpList Tryd.prog ops Q (o :: rest) a w := by
  refine wpList_plain hgd fun K hK => ?_
  obtain ⟨w2, hrun, h2, h3⟩ := run_copy_ten w o.type g m n cap hnm ad z f hb hsrc h1
  unfold Oper.wp
  simp [execOp, ho, resolve, invoke, builtin, hd, hs, hrun, Result.andThen]
  exact hK _ _ (h w2 h2 h3)

end Go.Proofs.YtpfahgogjeignabDoor
