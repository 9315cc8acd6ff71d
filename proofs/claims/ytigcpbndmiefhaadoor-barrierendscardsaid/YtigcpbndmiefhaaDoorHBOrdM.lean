/- The document's Order: mathematics; append of whatever comes. -/
import Derived.Test.YtigcpbndmiefhaaDoorHBLent
namespace Go.Proofs.YtigcpbndmiefhaaDoor
open Go.RowKit

theorem run_append_zero {P : Program} (w : World) (base : Nat) (t ty e : TypeId) (i : TypeInfo) (size : Nat) (ht : P.underlying t = some (.slice e)) (hi : P.info? e = some i)
    (v : Value) (n c : Nat) (xs : List Value) (hown : w.ownsRow base e size v n xs) (ao : Option Addr) :
    (Builtin.append_ #[t, t] ty #[v, .slice ao 0 c]).run P w = .ok v w := by
  cases ao with
  | none => exact run_append_nil0 w base t ty e i size ht hi v n c xs hown
  | some ad =>
    have hl0 : (loadCellsFrom ad 0 0 #[]).run P w = .ok #[] w := by simp [loadCellsFrom, Sem.run_pure]
    rcases hown.2 with ⟨rfl, rfl⟩ | ⟨g, cap, cur, rfl, _, _, hnc, _⟩
    · simp [Builtin.append_, run_underlying ht, sizeOf, typeInfo, hi, Builtin.lenOf, Builtin.firstCells, loadCells, hl0, Result.andThen]
    · simp [Builtin.append_, run_underlying ht, sizeOf, typeInfo, hi, Builtin.lenOf, Builtin.firstCells, hnc, storeCells, loadCells, hl0, Result.andThen]
theorem own_slice' {w : World} {base e size n : Nat} {v : Value} {xs : List Value} (h : w.ownsRow base e size v n xs) : ∃ ra cap, v = .slice ra n cap := by
  rcases h.2 with ⟨h', h0⟩ | ⟨g, cap, cur, hv, _⟩
  · subst h0; exact ⟨none, 0, h'⟩
  · exact ⟨_, _, hv⟩
theorem wpList_append_all {P : Program} (w : World) {ops : Array Oper} {rest : List Oper} {o : Oper} {a : Act} {Q : Exit → Act → World → Prop} (hgd : o.guard = none) (s x : Operand) (t : TypeId)
    (ho : o.op = .call { callee := .builtin .append, args := #[s, x], argTypes := #[t, t] })
    (base : Nat) (e : TypeId) (i : TypeInfo) (z : Value) (size bytes : Nat) (ht : P.underlying t = some (.slice e)) (hi : P.info? e = some i) (hz : i.zero = some z)
    (hsize : i.size = size) (hby : i.bytes = bytes) (hzs : z.cells.size = size) (hsz : 0 < size)
    (v : Value) (n : Nat) (xs : List Value) (hs : a.eval s = v) (hown : w.ownsRow base e size v n xs)
    (ao : Option Addr) (m c : Nat) (news : List Value) (hx : a.eval x = .slice ao m c) (hl : news.length = m * size) (hnone : ao = none → m = 0) (hnews : ∀ ad, ao = some ad → ∀ j u, news[j]? = some u → w.cell? (ad.add j) = some u) (h1 : ∀ u ∈ news, u.oneCell' = true)
    (h63 : n + m ≤ maxLen) (hbytes : (n + m) * bytes ≤ 140737488355328) (hbase : base ≤ w.heap.size)
    (h : ∀ ra cap w', w'.ownsRow base e size (.slice ra (n + m) cap) (n + m) (xs ++ news) → w.grownBy w' v.ownBlock → (∀ g, (Value.slice ra (n + m) cap).ownBlock = some g → v.ownBlock = some g ∨ w.heap.size ≤ g) → wpList P ops Q rest (a.put o.dst (.slice ra (n + m) cap)) w') : wpList P ops Q (o :: rest) a w := by
  by_cases hm : m = 0
  · subst hm
    have hnews0 : news = [] := List.eq_nil_of_length_eq_zero (by simpa using hl)
    subst hnews0
    obtain ⟨ra, cap, rfl⟩ := own_slice' hown
    refine wpList_plain hgd fun K hK' => ?_
    have hrun := run_append_zero (P := P) w base t o.type e i size ht hi _ n c xs hown ao
    unfold Oper.wp
    simp [execOp, ho, resolve, invoke, builtin, hs, hx, hrun, Result.andThen]
    exact hK' _ _ (by simpa using h ra cap w (by simpa using hown) (World.grownBy.refl _ _) (fun g hg => .inl hg))
  · cases ao with
    | none => exact absurd (hnone rfl) hm
    | some ad =>
      refine wpList_append_lies (w := w) hgd s x t ho base e i z size bytes ht hi hz hsize hby hzs hsz v n xs hs hown ad m c news hx hl (hnews ad rfl) h1 (by omega) h63 hbytes hbase _ rfl ?_
      intro g cap w' h2 h3 h4 _
      refine h _ cap w' h2 h3 (fun g' hg' => ?_)
      have : g = g' := by simpa [Value.ownBlock] using hg'
      subst this
      rcases h4 with h4 | h4
      · exact .inl h4
      · exact .inr (by omega)
/-- One word is looked at: what is met, and what is still to be looked at. -/
def ordS (h : List Cl) (out : List Nat) (l : List Int) (w : Int) : List Nat × List Int := match refN w with
  | none => (out, l)
  | some c => if out.contains c then (out, l) else match h[c]? with
    | none => (out, l)
    | some x => (out ++ [c], if x.k = 0 then l else l ++ [x.a, x.b])
def ordM (h : List Cl) : Nat → Nat → List Nat → List Int → List Nat
  | 0, _, out, _ => out
  | f + 1, i, out, l => match l[i]? with
    | none => out
    | some w => ordM h f (i + 1) (ordS h out l w).1 (ordS h out l w).2
def orderM (h : List Cl) (roots : List Int) : List Nat := ordM h (roots.length + 2 * h.length) 0 [] roots
/-- A heap whose words fit. -/
def OkH (h : List Cl) : Prop := ∀ x ∈ h, x.k ≠ 0 → (fitsW h.length x.a = true ∧ Rng x.a) ∧ fitsW h.length x.b = true ∧ Rng x.b
structure OrdOk (h : List Cl) (roots : List Int) (out : List Nat) (l : List Int) : Prop where
  nd : out.Nodup
  lt : ∀ c ∈ out, c < h.length
  len : l.length ≤ roots.length + 2 * out.length
  fit : ∀ w ∈ l, fitsW h.length w = true ∧ Rng w
theorem OrdOk.out_le {h : List Cl} {roots : List Int} {out : List Nat} {l : List Int} (o : OrdOk h roots out l) : out.length ≤ h.length := by
  have h1 : out.length ≤ (List.range h.length).length := List.Nodup.length_le_of_subset o.nd (fun c hc => List.mem_range.2 (o.lt c hc))
  simpa using h1
theorem OrdOk.all {h : List Cl} {roots : List Int} {out : List Nat} {l : List Int} (o : OrdOk h roots out l) : l.length ≤ roots.length + 2 * h.length := by
  have := o.out_le
  have := o.len
  omega
theorem OrdOk.step {h : List Cl} {roots : List Int} {out : List Nat} {l : List Int} (o : OrdOk h roots out l) (hk : OkH h) {c : Nat} {x : Cl} (hx : h[c]? = some x) (hc : out.contains c = false) : OrdOk h roots (out ++ [c]) (if x.k = 0 then l else l ++ [x.a, x.b]) := by
  refine ⟨?_, fun d hd => ?_, ?_, fun w hw => ?_⟩
  · rw [List.nodup_append]
    refine ⟨o.nd, by simp, fun a ha b hb => ?_⟩
    have e : b = c := by simpa using hb
    subst e
    intro e
    subst e
    have : out.contains a = true := by simpa using ha
    rw [hc] at this; cases this
  · rcases List.mem_append.1 hd with hd | hd
    · exact o.lt d hd
    · rw [List.mem_singleton.1 hd]; exact (List.getElem?_eq_some_iff.1 hx).1
  · have := o.len
    rw [List.length_append]
    split
    · simp; omega
    · simp; omega
  · by_cases h0 : x.k = 0
    · rw [if_pos h0] at hw; exact o.fit w hw
    · rw [if_neg h0] at hw
      rcases List.mem_append.1 hw with hw | hw
      · exact o.fit w hw
      · have := hk x (List.mem_of_getElem? hx) h0
        simp only [List.mem_cons, List.not_mem_nil, or_false] at hw
        rcases hw with rfl | rfl
        · exact this.1
        · exact this.2
theorem ordM_step {h : List Cl} {f i : Nat} {out : List Nat} {l : List Int} {w : Int} (hw : l[i]? = some w) : ordM h (f + 1) i out l = ordM h f (i + 1) (ordS h out l w).1 (ordS h out l w).2 := by
  rw [ordM, hw]
theorem ordM_end {h : List Cl} {f i : Nat} {out : List Nat} {l : List Int} (hi : l.length ≤ i) : ordM h f i out l = out := by
  cases f with
  | zero => rfl
  | succ f => rw [ordM, List.getElem?_eq_none hi]
theorem ordS_none {h : List Cl} {out : List Nat} {l : List Int} {w : Int} (hr : refN w = none) : ordS h out l w = (out, l) := by unfold ordS; rw [hr]
theorem ordS_met {h : List Cl} {out : List Nat} {l : List Int} {w : Int} {c : Nat} (hr : refN w = some c) (hc : out.contains c = true) : ordS h out l w = (out, l) := by unfold ordS; rw [hr]; dsimp only; rw [hc]; rfl
theorem ordS_new {h : List Cl} {out : List Nat} {l : List Int} {w : Int} {c : Nat} {x : Cl} (hr : refN w = some c) (hc : out.contains c = false) (hx : h[c]? = some x) : ordS h out l w = (out ++ [c], if x.k = 0 then l else l ++ [x.a, x.b]) := by
  unfold ordS; rw [hr]; dsimp only; rw [hc, hx]; rfl
end Go.Proofs.YtigcpbndmiefhaaDoor
