/- Small things on blocks of seven places.; A view of one's own: how it lies while it is made.; append at a step of a region that draws its order, of whatever row. -/
import Derived.Test.YtomdbcddokaagaaDoorGK
import Derived.Test.YtomdbcddokaagaaDoorGN
import Derived.Test.YtomdbcddokaagaaDoorGU
/- Small things on blocks of seven places. -/
namespace Go.Proofs.YtomdbcddokaagaaDoor
open Go.RowKit

theorem own_low {w : World} {base base' e size n : Nat} {v : Value} {xs : List Value} (h : w.ownsRow base e size v n xs) (hb : base' ≤ base) : w.ownsRow base' e size v n xs := by
  refine ⟨h.1, ?_⟩
  rcases h.2 with h' | ⟨g, cap, cur, a, b, c⟩
  · exact .inl h'
  · exact .inr ⟨g, cap, cur, a, Nat.le_trans hb b, c⟩
theorem results_vw {fn : Func} {tmps : Array Value} {s b : Nat} {c0 c1 c2 c3 c4 c5 c6 : Value} {W : World} (hres : fn.results = #[.cell s 28])
    (h1 : tmps[s]? = some (.pointer (some ⟨b, 0, none⟩))) (k1 : W.heap[b]? = some (.cells #[c0, c1, c2, c3, c4, c5, c6] 28 (0, 0))) : (results fn tmps).run Tryd.prog W = .ok (.agg #[c0, c1, c2, c3, c4, c5, c6]) W := by
  have a : ∀ j u, (#[c0, c1, c2, c3, c4, c5, c6] : Array Value)[j]? = some u → W.cell? ⟨b, j, none⟩ = some u := fun j u hu => heap_cell k1 hu
  have a0 := a 0 c0 rfl
  have a1 := a 1 c1 rfl
  have a2 := a 2 c2 rfl
  have a3 := a 3 c3 rfl
  have a4 := a 4 c4 rfl
  have a5 := a 5 c5 rfl
  have a6 := a 6 c6 rfl
  obtain ⟨l1, e1⟩ := Array.getElem?_eq_some_iff.1 h1
  simp [results, hres, go_sem, l1, e1, a0, a1, a2, a3, a4, a5, a6]
theorem len_flat {l : List Ln} {x : Ln} (h : x ∈ l) : x.roots.length ≤ (l.map Ln.roots).flatten.length := by
  induction l with
  | nil => cases h
  | cons y r ih =>
    rw [List.map_cons, List.flatten_cons, List.length_append]
    rcases List.mem_cons.1 h with rfl | h
    · omega
    · have := ih h; omega
theorem set7 {W : World} {b : Nat} {t : TypeId} {c0 c1 c2 c3 c4 c5 c6 : Value} (h : W.heap[b]? = some (.cells #[c0, c1, c2, c3, c4, c5, c6] t (0, 0))) (a0 a1 a2 a3 a4 a5 a6 : Value) : (((((((W.setCell ⟨b, 0, none⟩ a0).setCell ⟨b, 1, none⟩ a1).setCell ⟨b, 2, none⟩ a2).setCell ⟨b, 3, none⟩ a3).setCell ⟨b, 4, none⟩ a4).setCell ⟨b, 5, none⟩ a5).setCell ⟨b, 6, none⟩ a6).heap[b]? = some (.cells #[a0, a1, a2, a3, a4, a5, a6] t (0, 0)) := by
  have h0 : (W.setCell ⟨b, 0, none⟩ a0).heap[b]? = some (.cells #[a0, c1, c2, c3, c4, c5, c6] t (0, 0)) := by
    rw [set_atC h a0]
    rfl
  have h1 : ((W.setCell ⟨b, 0, none⟩ a0).setCell ⟨b, 1, none⟩ a1).heap[b]? = some (.cells #[a0, a1, c2, c3, c4, c5, c6] t (0, 0)) := by
    rw [set_atC h0 a1]
    rfl
  have h2 : (((W.setCell ⟨b, 0, none⟩ a0).setCell ⟨b, 1, none⟩ a1).setCell ⟨b, 2, none⟩ a2).heap[b]? = some (.cells #[a0, a1, a2, c3, c4, c5, c6] t (0, 0)) := by
    rw [set_atC h1 a2]
    rfl
  have h3 : ((((W.setCell ⟨b, 0, none⟩ a0).setCell ⟨b, 1, none⟩ a1).setCell ⟨b, 2, none⟩ a2).setCell ⟨b, 3, none⟩ a3).heap[b]? = some (.cells #[a0, a1, a2, a3, c4, c5, c6] t (0, 0)) := by
    rw [set_atC h2 a3]
    rfl
  have h4 : (((((W.setCell ⟨b, 0, none⟩ a0).setCell ⟨b, 1, none⟩ a1).setCell ⟨b, 2, none⟩ a2).setCell ⟨b, 3, none⟩ a3).setCell ⟨b, 4, none⟩ a4).heap[b]? = some (.cells #[a0, a1, a2, a3, a4, c5, c6] t (0, 0)) := by
    rw [set_atC h3 a4]
    rfl
  have h5 : ((((((W.setCell ⟨b, 0, none⟩ a0).setCell ⟨b, 1, none⟩ a1).setCell ⟨b, 2, none⟩ a2).setCell ⟨b, 3, none⟩ a3).setCell ⟨b, 4, none⟩ a4).setCell ⟨b, 5, none⟩ a5).heap[b]? = some (.cells #[a0, a1, a2, a3, a4, a5, c6] t (0, 0)) := by
    rw [set_atC h4 a5]
    rfl
  have h6 : (((((((W.setCell ⟨b, 0, none⟩ a0).setCell ⟨b, 1, none⟩ a1).setCell ⟨b, 2, none⟩ a2).setCell ⟨b, 3, none⟩ a3).setCell ⟨b, 4, none⟩ a4).setCell ⟨b, 5, none⟩ a5).setCell ⟨b, 6, none⟩ a6).heap[b]? = some (.cells #[a0, a1, a2, a3, a4, a5, a6] t (0, 0)) := by
    rw [set_atC h5 a6]
    rfl
  exact h6
theorem far7 {W : World} {b k : Nat} (hk : k ≠ b) (a0 a1 a2 a3 a4 a5 a6 : Value) : (((((((W.setCell ⟨b, 0, none⟩ a0).setCell ⟨b, 1, none⟩ a1).setCell ⟨b, 2, none⟩ a2).setCell ⟨b, 3, none⟩ a3).setCell ⟨b, 4, none⟩ a4).setCell ⟨b, 5, none⟩ a5).setCell ⟨b, 6, none⟩ a6).heap[k]? = W.heap[k]? :=
  (Below.heap_setCell _ _ _ _ hk).trans ((Below.heap_setCell _ _ _ _ hk).trans ((Below.heap_setCell _ _ _ _ hk).trans ((Below.heap_setCell _ _ _ _ hk).trans ((Below.heap_setCell _ _ _ _ hk).trans ((Below.heap_setCell _ _ _ _ hk).trans (Below.heap_setCell _ _ _ _ hk))))))
theorem below7 {n : Nat} {w W : World} {b : Nat} (h : Below n w W) (hb : n ≤ b) (a0 a1 a2 a3 a4 a5 a6 : Value) : Below n w (((((((W.setCell ⟨b, 0, none⟩ a0).setCell ⟨b, 1, none⟩ a1).setCell ⟨b, 2, none⟩ a2).setCell ⟨b, 3, none⟩ a3).setCell ⟨b, 4, none⟩ a4).setCell ⟨b, 5, none⟩ a5).setCell ⟨b, 6, none⟩ a6) :=
  (((((((h.setCell (p := ⟨b, 0, none⟩) hb _).setCell (p := ⟨b, 1, none⟩) hb _).setCell (p := ⟨b, 2, none⟩) hb _).setCell (p := ⟨b, 3, none⟩) hb _).setCell (p := ⟨b, 4, none⟩) hb _).setCell (p := ⟨b, 5, none⟩) hb _).setCell (p := ⟨b, 6, none⟩) hb _)
end Go.Proofs.YtomdbcddokaagaaDoor

/- A view of one's own: how it lies while it is made. -/
namespace Go.Proofs.YtomdbcddokaagaaDoor
open Go.RowKit

structure OT (w0 W : World) (p : Vp) (v : Vw) (px : Vp) (vx : Vw) (cr : Option Addr) (cc : Nat) (H : List Cl) (yr : Option Addr) (yc : Nat) (Y : List Int) (gr : Option Addr) (gc : Nat) (Gl : List Int) (lr : Option Addr) (lc : Nat) (L : List Lq) : Prop where
  b1 : VB W w0.heap.size p v
  b2 : ∃ cs, W.heap[w0.heap.size + 1]? = some (.cells cs 28 (0, 0)) ∧ cs.size = 7
  b3 : VB W (w0.heap.size + 2) px vx
  c : W.ownsRow w0.heap.size 59 4 (.slice cr H.length cc) H.length (cl4 H)
  y : W.ownsRow w0.heap.size 3 1 (.slice yr Y.length yc) Y.length (Y.map (Value.int .i64))
  g : W.ownsRow w0.heap.size 57 1 (.slice gr Gl.length gc) Gl.length (Gl.map (Value.int .u64))
  l : W.ownsRow w0.heap.size 61 3 (.slice lr L.length lc) L.length (lq3 L)
  q : ∀ q ∈ L, W.ownsRow w0.heap.size 57 1 (.slice q.ra q.x.roots.length q.cc) q.x.roots.length (q.x.roots.map (Value.int .u64))
  ag : ∀ q ∈ L, ∀ k, (Value.slice gr Gl.length gc).ownBlock = some k → (Value.slice q.ra q.x.roots.length q.cc).ownBlock ≠ some k
  aq : ∀ (i j : Nat) (q r : Lq), i ≠ j → L[i]? = some q → L[j]? = some r → ∀ k, (Value.slice q.ra q.x.roots.length q.cc).ownBlock = some k → (Value.slice r.ra r.x.roots.length r.cc).ownBlock ≠ some k
  bel : Below w0.heap.size w0 W
variable {w0 W W' : World} {p px px' : Vp} {v vx vx' : Vw} {cr yr gr lr lr' : Option Addr} {cc yc gc lc lc' : Nat} {H : List Cl} {Y Gl : List Int} {L : List Lq}
theorem OT.lt (T : OT w0 W p v px vx cr cc H yr yc Y gr gc Gl lr lc L) : w0.heap.size + 2 < W.heap.size := heap_lt T.b3
theorem OT.keep (T : OT w0 W p v px vx cr cc H yr yc Y gr gc Gl lr lc L) (hb : Below w0.heap.size w0 W') (hk : ∀ (k : Nat) (cs : Array Value) (t : TypeId), W.heap[k]? = some (.cells cs t (0, 0)) → W'.heap[k]? = W.heap[k]?) : OT w0 W' p v px vx cr cc H yr yc Y gr gc Gl lr lc L := by
  have own : ∀ {e size n : Nat} {x : Value} {xs : List Value}, W.ownsRow w0.heap.size e size x n xs → W'.ownsRow w0.heap.size e size x n xs := fun h => own_same h (fun k hk' => by obtain ⟨cs, hc⟩ := own_blk h hk'; exact hk k cs _ hc)
  obtain ⟨cs, q1, q2⟩ := T.b2
  exact ⟨(hk _ _ _ T.b1).trans T.b1, ⟨cs, (hk _ _ _ q1).trans q1, q2⟩, (hk _ _ _ T.b3).trans T.b3, own T.c, own T.y, own T.g, own T.l, fun q hq => own (T.q q hq), T.ag, T.aq, hb⟩
theorem OT.below (T : OT w0 W p v px vx cr cc H yr yc Y gr gc Gl lr lc L) (hb : Below W.heap.size W W') : OT w0 W' p v px vx cr cc H yr yc Y gr gc Gl lr lc L :=
  T.keep (T.bel.trans (hb.mono T.bel.size)) (fun k _ _ h => hb.block k (heap_lt h))
theorem OT.field (T : OT w0 W p v px vx cr cc H yr yc Y gr gc Gl lr lc L) (j : Nat) (u : Value) (he : (px.cells vx).setIfInBounds j u = px'.cells vx') : OT w0 (W.setCell ⟨w0.heap.size + 2, j, none⟩ u) p v px' vx' cr cc H yr yc Y gr gc Gl lr lc L := by
  have hk : ∀ k, k ≠ w0.heap.size + 2 → (W.setCell ⟨w0.heap.size + 2, j, none⟩ u).heap[k]? = W.heap[k]? := fun k hk => Below.heap_setCell _ _ _ _ hk
  have own : ∀ {e size n : Nat} {x : Value} {xs : List Value}, W.ownsRow w0.heap.size e size x n xs → 28 ≠ e → (W.setCell ⟨w0.heap.size + 2, j, none⟩ u).ownsRow w0.heap.size e size x n xs := fun h hn => own_same h (fun k hk' => hk k (fun e => own_ty h T.b3 hn (by rw [← e]; exact hk')))
  obtain ⟨cs, q1, q2⟩ := T.b2
  refine ⟨(hk _ (by omega)).trans T.b1, ⟨cs, (hk _ (by omega)).trans q1, q2⟩, ?_, own T.c (by decide), own T.y (by decide), own T.g (by decide), own T.l (by decide), fun q hq => own (T.q q hq) (by decide), T.ag, T.aq, T.bel.setCell (p := ⟨w0.heap.size + 2, j, none⟩) (Nat.le_add_right _ _) _⟩
  have := set_atC (j := j) T.b3 u
  rw [he] at this
  exact this
/-- A lane more. -/
theorem OT.growL {r : Lq} (T : OT w0 W p v px vx cr cc H yr yc Y gr gc Gl lr lc L) (hg : W.grownBy W' (Value.slice lr L.length lc).ownBlock) (ho : W'.ownsRow w0.heap.size 61 3 (.slice lr' (L.length + 1) lc') (L.length + 1) (lq3 L ++ [.slice r.ra r.x.roots.length r.cc, .bool r.x.sc, .bool r.x.en]))
    (hr : W.ownsRow w0.heap.size 57 1 (.slice r.ra r.x.roots.length r.cc) r.x.roots.length (r.x.roots.map (Value.int .u64))) (hag : ∀ k, (Value.slice gr Gl.length gc).ownBlock = some k → (Value.slice r.ra r.x.roots.length r.cc).ownBlock ≠ some k)
    (haq : ∀ q ∈ L, ∀ k, (Value.slice q.ra q.x.roots.length q.cc).ownBlock = some k → (Value.slice r.ra r.x.roots.length r.cc).ownBlock ≠ some k) : OT w0 W' p v px vx cr cc H yr yc Y gr gc Gl lr' lc' (L ++ [r]) := by
  have hk : ∀ k, k < W.heap.size → (Value.slice lr L.length lc).ownBlock ≠ some k → W'.heap[k]? = W.heap[k]? := fun k hk hn => hg.block k hk (fun e => hn e.symm)
  have own : ∀ {e size n : Nat} {x : Value} {xs : List Value}, W.ownsRow w0.heap.size e size x n xs → e ≠ 61 → W'.ownsRow w0.heap.size e size x n xs := fun h hn => own_same h (fun k hk' => by
    obtain ⟨cs, hc⟩ := own_blk h hk'
    exact hk k (heap_lt hc) (own_ty T.l hc hn))
  obtain ⟨cs, q1, q2⟩ := T.b2
  have len : (L ++ [r]).length = L.length + 1 := by simp
  refine ⟨(hk _ (heap_lt T.b1) (own_ty T.l T.b1 (by decide))).trans T.b1, ⟨cs, (hk _ (heap_lt q1) (own_ty T.l q1 (by decide))).trans q1, q2⟩, (hk _ (heap_lt T.b3) (own_ty T.l T.b3 (by decide))).trans T.b3, own T.c (by decide), own T.y (by decide), own T.g (by decide), ?_, fun q hq => ?_, fun q hq k hk => ?_, fun i j q s hne hq hs k hk => ?_, T.bel.trans (grown_low hg (fun g hg' => (T.l.lt g hg').1) T.bel.size)⟩
  · rw [len, lq3_snoc]
    exact ho
  · rcases List.mem_append.1 hq with h | h
    · exact own (T.q q h) (by decide)
    · rw [List.mem_singleton.1 h]
      exact own hr (by decide)
  · rcases List.mem_append.1 hq with h | h
    · exact T.ag q h k hk
    · rw [List.mem_singleton.1 h]
      exact hag k hk
  · have at' : ∀ {m : Nat} {z : Lq}, (L ++ [r])[m]? = some z → (m < L.length ∧ L[m]? = some z) ∨ (m = L.length ∧ z = r) := fun {m z} h => by
      by_cases hm : m < L.length
      · rw [List.getElem?_append_left hm] at h
        exact .inl ⟨hm, h⟩
      · rw [List.getElem?_append_right (by omega)] at h
        have h0 := (List.getElem?_eq_some_iff.1 h).1
        simp at h0
        have e : m - L.length = 0 := by omega
        rw [e] at h
        exact .inr ⟨by omega, (Option.some.inj h).symm⟩
    rcases at' hq with ⟨_, h1⟩ | ⟨h1, rfl⟩
    · rcases at' hs with ⟨_, h2⟩ | ⟨_, rfl⟩
      · exact T.aq i j q s hne h1 h2 k hk
      · exact haq q (List.mem_of_getElem? h1) k hk
    · rcases at' hs with ⟨_, h2⟩ | ⟨h2, rfl⟩
      · exact fun h3 => haq s (List.mem_of_getElem? h2) k h3 hk
      · exact absurd (h1.trans h2.symm) hne
theorem rx_news {W : World} {ra : Option Addr} {l : List Int} (h : RX (Value.int .i64) W ra l) : (ra = none → l.length = 0) ∧ ∀ ad, ra = some ad → ∀ j u, (l.map (Value.int .i64))[j]? = some u → W.cell? (ad.add j) = some u := by
  obtain ⟨b, o, hor, hcs⟩ := h
  refine ⟨fun e => ?_, fun ad had j u hu => ?_⟩
  · rcases hor with h0 | h0
    · exact h0
    · rw [e] at h0
      cases h0
  · rw [List.getElem?_map] at hu
    obtain ⟨x, hx, rfl⟩ := Option.map_eq_some_iff.1 hu
    rcases hor with h0 | h0
    · have := (List.getElem?_eq_some_iff.1 hx).1
      omega
    · rw [had] at h0
      cases h0
      rw [ad_add]
      exact (hcs j x hx).2
theorem ints_one (l : List Int) : ∀ u ∈ l.map (Value.int .i64), u.oneCell' = true := fun u hu => by obtain ⟨x, _, rfl⟩ := List.mem_map.1 hu; rfl
end Go.Proofs.YtomdbcddokaagaaDoor

/- append at a step of a region that draws its order, of whatever row. -/
namespace Go.Proofs.YtomdbcddokaagaaDoor
open Go.RowKit

theorem step_append_all {P : Program} (w : World) {ops : Array Oper} {o : Oper} {a : Act} {K : Act → World → Prop} {Q : Exit → Act → World → Prop} {E : Prop} (hgd : o.guard = none) (s x : Operand) (t : TypeId)
    (ho : o.op = .call { callee := .builtin .append, args := #[s, x], argTypes := #[t, t] })
    (base : Nat) (e : TypeId) (i : TypeInfo) (z : Value) (size bytes : Nat) (ht : P.underlying t = some (.slice e)) (hi : P.info? e = some i) (hz : i.zero = some z)
    (hsize : i.size = size) (hby : i.bytes = bytes) (hzs : z.cells.size = size) (hsz : 0 < size)
    (v : Value) (n : Nat) (xs : List Value) (hs : a.eval s = v) (hown : w.ownsRow base e size v n xs)
    (ao : Option Addr) (m c : Nat) (news : List Value) (hx : a.eval x = .slice ao m c) (hl : news.length = m * size) (hnone : ao = none → m = 0) (hnews : ∀ ad, ao = some ad → ∀ j u, news[j]? = some u → w.cell? (ad.add j) = some u) (h1 : ∀ u ∈ news, u.oneCell' = true)
    (h63 : n + m ≤ maxLen) (hbytes : (n + m) * bytes ≤ 140737488355328) (hbase : base ≤ w.heap.size)
    (h : ∀ ra cap w', w'.ownsRow base e size (.slice ra (n + m) cap) (n + m) (xs ++ news) → w.grownBy w' v.ownBlock → (∀ g, (Value.slice ra (n + m) cap).ownBlock = some g → v.ownBlock = some g ∨ w.heap.size ≤ g) → K (a.put o.dst (.slice ra (n + m) cap)) w') : if Region.wanted o (yielded ops a.tmps) = true then Oper.wp P o a w K Q else E := by
  by_cases hm : m = 0
  · subst hm
    have hnews0 : news = [] := List.eq_nil_of_length_eq_zero (by simpa using hl)
    subst hnews0
    obtain ⟨ra, cap, rfl⟩ := own_slice' hown
    have hrun := run_append_zero (P := P) w base t o.type e i size ht hi _ n c xs hown ao
    have hw : Region.wanted o (yielded ops a.tmps) = true := by simp [Region.wanted, hgd]
    rw [if_pos hw]
    unfold Oper.wp
    simp [execOp, ho, resolve, invoke, builtin, hs, hx, hrun, Result.andThen]
    have h' : K (a.put o.dst (.slice ra n cap)) w := by simpa using h ra cap w (by simpa using hown) (World.grownBy.refl _ _) (fun g hg => .inl hg)
    exact h'
  · cases ao with
    | none => exact absurd (hnone rfl) hm
    | some ad =>
      refine step_append_lies (w := w) hgd s x t ho base e i z size bytes ht hi hz hsize hby hzs hsz v n xs hs hown ad m c news hx hl (hnews ad rfl) h1 (by omega) h63 hbytes hbase _ rfl ?_
      intro g cap w' h2 h3 h4 _
      refine h _ cap w' h2 h3 (fun g' hg' => ?_)
      have : g = g' := by simpa [Value.ownBlock] using hg'
      subst this
      rcases h4 with h4 | h4
      · exact .inl h4
      · exact .inr (by omega)
end Go.Proofs.YtomdbcddokaagaaDoor
