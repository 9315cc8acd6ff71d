/- A constant more, a procedure more: plain mathematics. -/
import Derived.Test.YtnblieohdngmiabGreatDoorGI
namespace Go.Proofs.YtnblieohdngmiabGreatDoor

theorem badI_all {nc ng np ni : Nat} : ∀ (l : List Ins) (j : Nat), (∀ x ∈ l, isOpB x.op = true ∧ fitsB nc ng np ni x = true) → badI nc ng np ni l j = none
  | [], _, _ => rfl
  | y :: r, j, h => by
    have hy := h y (List.mem_cons_self ..)
    unfold badI
    rw [hy.1, hy.2]
    exact badI_all r (j + 1) (fun x hx => h x (List.mem_cons_of_mem _ hx))
theorem fits_more {nc nc' ng np np' ni : Nat} (h1 : nc ≤ nc') (h2 : np ≤ np') {x : Ins} (h : fitsB nc ng np ni x = true) : fitsB nc' ng np' ni x = true := by
  unfold fitsB at h ⊢
  rw [decide_eq_true_eq] at h ⊢
  refine ⟨h.1, Int.le_trans h.2 ?_⟩
  unfold mostA
  (repeat' split) <;> omega
theorem chkP_more {nc nc' ng np np' : Nat} (h1 : nc ≤ nc') (h2 : np ≤ np') {p : Prc} (h : (chkP nc ng np p).1 = 0) : (chkP nc' ng np' p).1 = 0 := by
  obtain ⟨a1, a2, a3, a4⟩ := chkP_ok h
  have hb := badI_all (nc := nc) (ng := ng) (np := np) (ni := p.code.length) p.code 0 a4
  have hb' := badI_all (nc := nc') (ng := ng) (np := np') (ni := p.code.length) p.code 0 (fun x hx => ⟨(a4 x hx).1, fits_more h1 h2 (a4 x hx).2⟩)
  unfold chkP at h ⊢
  rw [hb] at h
  rw [hb']
  exact h
theorem chkPs_app {nc ng np : Nat} : ∀ (l r : List Prc) (j : Nat), (∀ p ∈ l, (chkP nc ng np p).1 = 0) → chkPs nc ng np (l ++ r) j = chkPs nc ng np r (j + l.length)
  | [], r, j, _ => by simp
  | p :: l, r, j, h => by
    rw [List.cons_append, chkPs, if_pos (h p (List.mem_cons_self ..)), chkPs_app l r (j + 1) (fun q hq => h q (List.mem_cons_of_mem _ hq))]
    rw [List.length_cons]; congr 1; omega
theorem chkPs_nil {nc ng np : Nat} (l : List Prc) (j : Nat) (h : ∀ p ∈ l, (chkP nc ng np p).1 = 0) : chkPs nc ng np l j = (0, 0, 0) := by
  have := chkPs_app (nc := nc) (ng := ng) (np := np) l [] j h
  rw [List.append_nil] at this
  rw [this]; rfl
theorem listsE_zero {c : Cd} (h1 : c.procs.length ≤ 256) (h2 : c.consts.length ≤ 1024) (h3 : c.globals.length ≤ 64) (h4 : c.procs.length ≠ 0) (h5 : ∀ x ∈ c.consts, isConstB x = true) (h6 : globOk [] c.globals = true) : listsE c = 0 := by
  unfold listsE
  rw [if_neg (by omega), if_neg h4, if_pos (List.all_eq_true.2 h5), if_pos h6]
/-- A constant more. -/
theorem more_const {c : Cd} (h : (chkC c).1 = 0) {x : Int} (hx : isConstB x = true) (hl : c.consts.length < 1024) : (chkC ⟨c.consts ++ [x], c.procs, c.globals⟩).1 = 0 := by
  obtain ⟨a, b⟩ := chkC_ok h
  obtain ⟨a1, a2, a3, a4, a5, a6⟩ := listsE_ok a
  have e : listsE ⟨c.consts ++ [x], c.procs, c.globals⟩ = 0 := listsE_zero a1 (by simp; omega) a3 a4 (fun y hy => by
    rcases List.mem_append.1 hy with h | h
    · exact a5 y h
    · rw [List.mem_singleton.1 h]; exact hx) a6
  unfold chkC
  rw [if_pos e, chkPs_nil _ _ (fun p hp => chkP_more (by simp) (Nat.le_refl _) (b p hp))]
/-- A procedure more; and it by itself. -/
theorem more_proc {c : Cd} (h : (chkC c).1 = 0) (hn : c.procs.length < 256) (p : Prc) :
    (∃ k, chkC ⟨c.consts, c.procs ++ [p], c.globals⟩ = (0, k) ∧ ∃ k, chkC ⟨c.consts, List.replicate (c.procs.length + 1) p, c.globals⟩ = (0, k))
    ∨ ∃ e k k', e ≠ 0 ∧ chkC ⟨c.consts, c.procs ++ [p], c.globals⟩ = (e, c.procs.length, k) ∧ chkC ⟨c.consts, List.replicate (c.procs.length + 1) p, c.globals⟩ = (e, k') := by
  obtain ⟨a, b⟩ := chkC_ok h
  obtain ⟨a1, a2, a3, a4, a5, a6⟩ := listsE_ok a
  have e1 : listsE ⟨c.consts, c.procs ++ [p], c.globals⟩ = 0 := listsE_zero (by simp; omega) a2 a3 (by simp) a5 a6
  have e2 : listsE ⟨c.consts, List.replicate (c.procs.length + 1) p, c.globals⟩ = 0 := listsE_zero (by simp; omega) a2 a3 (by simp) a5 a6
  have q1 : chkC ⟨c.consts, c.procs ++ [p], c.globals⟩ = chkPs c.consts.length c.globals.length (c.procs.length + 1) [p] c.procs.length := by
    unfold chkC
    rw [if_pos e1]
    simp only [List.length_append, List.length_singleton]
    rw [chkPs_app _ _ _ (fun p hp => chkP_more (Nat.le_refl _) (by omega) (b p hp)), Nat.zero_add]
  have q2 : chkC ⟨c.consts, List.replicate (c.procs.length + 1) p, c.globals⟩ = chkPs c.consts.length c.globals.length (c.procs.length + 1) (p :: List.replicate c.procs.length p) 0 := by
    unfold chkC
    rw [if_pos e2]
    simp only [List.length_replicate]
    rfl
  by_cases hp : (chkP c.consts.length c.globals.length (c.procs.length + 1) p).1 = 0
  · left
    rw [q1, q2, chkPs_nil _ _ (fun q hq => by rw [List.mem_singleton.1 hq]; exact hp), chkPs_nil _ _ (fun q hq => by
      rcases List.mem_cons.1 hq with h | h
      · rw [h]; exact hp
      · rw [(List.mem_replicate.1 h).2]; exact hp)]
    exact ⟨_, rfl, _, rfl⟩
  · right
    refine ⟨_, (chkP c.consts.length c.globals.length (c.procs.length + 1) p).2, (0, (chkP c.consts.length c.globals.length (c.procs.length + 1) p).2), hp, ?_, ?_⟩
    · rw [q1, chkPs, if_neg hp]
    · rw [q2, chkPs, if_neg hp]
end Go.Proofs.YtnblieohdngmiabGreatDoor
