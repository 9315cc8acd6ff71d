/- What named needs: a row of truths, made within a fenced walk; who is named so far. -/
import Derived.Test.YtphpkedfcmghmaaDoorHBHasW
import Derived.OwnWalk
namespace Go.Proofs.YtphpkedfcmghmaaDoor
open Go.RowKit Go.Shelf

theorem wpListIn_make_full {F : Fence} {n : Nat} {P : Program} (w : World) {ops : Array Oper} {rest : List Oper} {o : Oper} {a : Act} {Q : Exit → Act → World → Prop}
    (hg : o.guard = none) (l c : Operand) (t : TypeId) (hop : o.op = Op.makeSlice t l c)
    (base : Nat) (e : TypeId) (i : TypeInfo) (z : Value) (size : Nat) (h1 : P.underlying t = some (.slice e)) (h2 : P.info? e = some i) (h3 : i.zero = some z) (h4 : i.size = size)
    (kl kc : IntKind) (L C : Int) (m : Nat) (hl : a.eval l = .int kl L) (hc : a.eval c = .int kc C) (hL : L = (m : Int)) (hC : C = (m : Int)) (b2 : i.bytes * m ≤ 281474976710656) (b3 : m ≤ maxLen) (b4 : base ≤ w.heap.size)
    (hK : ∀ w', w'.ownsRow base e size (.slice (some ⟨w.heap.size, 0, none⟩) m m) m (madeCells z.cells (m * size)).toList → w.grownBy w' none → wpListIn F n P ops Q rest (a.put o.dst (.slice (some ⟨w.heap.size, 0, none⟩) m m)) w') :
    wpListIn F n P ops Q (o :: rest) a w := by
  refine wpListIn_plain hg fun K hK' => ?_
  obtain ⟨w', hrun, r1, r2⟩ := run_make_full (P := P) w base t e i z size h1 h2 h3 h4 kl kc m b2 b3 b4
  subst hL
  subst hC
  unfold Oper.wpIn
  refine ⟨?_, ?_⟩
  · simp [Oper.about, hop]
  · rw [Oper.semAt_plain F _ _ (by rw [hop]; intro c hc'; cases hc')]
    simp [execOp, hop, hl, hc, hrun, Result.andThen]
    exact hK' _ _ (hK w' r1 r2)
theorem infoBool : (Tryd.prog.info? 4).map (fun i => (i.zero, i.size, i.bytes)) = some (some (.bool false), 1, 1) := by kernel_rfl
theorem row_made {W : World} {base g n t : Nat} {xs : List Value} {u0 : Value} (h : W.ownsRow base t 1 (.slice (some ⟨g, 0, none⟩) n n) n xs) (hx : ∀ u ∈ xs, u = u0) : DR W t g n (fun _ u => u = u0) := by
  rcases h.2 with ⟨h0, _⟩ | ⟨g', cap', cur, hv, _, hh, _, _, hsz, ht⟩
  · cases h0
  · cases hv
    refine ⟨cur, hh, by simpa using hsz, fun k u hk => hx u ?_⟩
    have hk2 : k < cur.size := (Array.getElem?_eq_some_iff.1 hk).1
    rw [← ht, List.take_of_length_le (by simp; omega)]
    exact Array.mem_toList_iff.2 (Array.mem_of_getElem? hk)
theorem false_made (n : Nat) : ∀ u ∈ (madeCells (Value.bool false).cells (n * 1)).toList, u = .bool false := by
  intro u hu
  unfold madeCells at hu
  rw [Array.toList_map] at hu
  obtain ⟨i, _, rfl⟩ := List.mem_map.1 hu
  show (#[Value.bool false])[i % 1]! = _
  rw [Nat.mod_one]; rfl
theorem DR.kc {N : Nat} {W W' : World} {t g n : Nat} {P : Nat → Value → Prop} (h : DR W t g n P) (hk : Kc N W W') : DR W' t g n P := by
  obtain ⟨cs, h1, h2, h3⟩ := h
  exact ⟨cs, hk.2 _ _ _ _ h1, h2, h3⟩
/-- Who is named by the first j holders; and by k words more. -/
def nmTo (v : Vw) (cf : Hd → Bool) (j : Nat) (c : Nat) : Bool := ((holdersM v).take j).any (fun x => cf x && x.ws.any (fun w => refN w == some c))
def nmIn (ws : List Int) (k c : Nat) : Bool := (ws.take k).any (fun w => refN w == some c)
theorem nmTo_all (v : Vw) (cf : Hd → Bool) (c : Nat) : nmTo v cf (holdersM v).length c = namedM v cf c := by
  unfold nmTo namedM
  rw [List.take_of_length_le (Nat.le_refl _)]
theorem nmTo_more {v : Vw} {cf : Hd → Bool} {j : Nat} {x : Hd} (h : (holdersM v)[j]? = some x) (c : Nat) : nmTo v cf (j + 1) c = (nmTo v cf j c || (cf x && nmIn x.ws x.ws.length c)) := by
  unfold nmTo nmIn
  rw [List.take_add_one, h, List.any_append, List.take_of_length_le (Nat.le_refl _)]
  simp
theorem nmIn_more {ws : List Int} {k : Nat} {y : Int} (h : ws[k]? = some y) (c : Nat) : nmIn ws (k + 1) c = (nmIn ws k c || (refN y == some c)) := by
  unfold nmIn
  rw [List.take_add_one, h, List.any_append]
  simp
theorem refs_some {n : Nat} {y : Int} (h : fitsW n y = true) (hr : refB y = true) : ∃ k : Nat, refN y = some k ∧ k < n ∧ cellV y = (k : Int) := by
  have h8 : ofT y = 8 := by simpa [refB] using hr
  have hb := ofN_ref hr
  refine ⟨(ofN y).toNat, ?_, ?_, ?_⟩
  · unfold refN; rw [if_pos h8]
  · unfold fitsW refN at h
    rw [if_pos h8] at h
    simpa using (Bool.and_eq_true_iff.1 h).2
  · unfold cellV
    rw [if_pos h8]
    omega
theorem refs_none {y : Int} (hr : refB y = false) : refN y = none := by
  have h8 : ¬ ofT y = 8 := by simpa [refB] using hr
  unfold refN
  rw [if_neg h8]
theorem fits_of {v : Vw} (h : wordsOk v = true) {j k : Nat} {x : Hd} {y : Int} (hx : (holdersM v)[j]? = some x) (hy : x.ws[k]? = some y) : fitsW v.h.length y = true :=
  List.all_eq_true.1 (List.all_eq_true.1 h x (List.mem_of_getElem? hx)) y (List.mem_of_getElem? hy)
end Go.Proofs.YtphpkedfcmghmaaDoor
