/- What is done with a row: one stands behind, the first goes, is one there. -/
import Derived.Test.YtdlnkdcgipaoeaaDoorHLMem
import Derived.Test.YtdlnkdcgipaoeaaDoorHShelf
namespace Go.Proofs.YtdlnkdcgipaoeaaDoor
open Go.RowKit

/-- append, where its run is known. -/
theorem wpList_append_known (w : World) {ops : Array Oper} {rest : List Oper} {o : Oper} {a : Act} {Q : Exit → Act → World → Prop} (hgd : o.guard = none) (d s : Operand) (t t' : TypeId)
    (ho : o.op = .call { callee := .builtin .append, args := #[d, s], argTypes := #[t, t'] }) (v u : Value) (hd : a.eval d = v) (hs : a.eval s = u) {v' : Value} {w' : World}
    (hr : (Builtin.append_ #[t, t'] o.type #[v, u]).run Tryd.prog w = .ok v' w') (h : wpList Tryd.prog ops Q rest (a.put o.dst v') w') : wpList Tryd.prog ops Q (o :: rest) a w := by
  refine wpList_plain hgd fun K hK => ?_
  unfold Oper.wp
  simp [execOp, ho, resolve, invoke, builtin, hd, hs, hr, Result.andThen]
  exact hK _ _ h
/-- What standing behind leaves. -/
def StR (b o : Nat) (s : Sl) (l : List Int) (x : Int) (w w' : World) : Prop := ∃ s' w1, w' = w1.setCell ⟨b, o, none⟩ (.slice s'.ra (l.length + 1) s'.cap) ∧ RI w1 s' (l ++ [x]) ∧ (∀ g, g < w.heap.size → s.blk ≠ some g → w1.heap[g]? = w.heap[g]?) ∧ Below 0 w w1 ∧ (s'.blk = s.blk ∨ ∃ k, s'.blk = some k ∧ w.heap.size ≤ k)
set_option maxRecDepth 100000 in
set_option maxHeartbeats 4000000 in
theorem stand_any (b o : Nat) (s : Sl) (l : List Int) (x : Int) (w : World) {cs : Array Value} {t : TypeId} (hb : w.heap[b]? = some (.cells cs t (0, 0))) (ht : t ≠ 3) (hc : cs[o]? = some (.slice s.ra l.length s.cap)) (hR : RI w s l) (hl : l.length ≤ 1000) :
    Calls Tryd.prog 68 #[.pointer (some ⟨b, o, none⟩), .int .i64 x] w fun e w' => e = .returned (.tuple #[]) ∧ StR b o s l x w w' := by
  have lb := heap_lt hb
  have hbn : s.blk ≠ some b := fun e => by
    obtain ⟨c2, h2⟩ := hR.bt e
    rw [hb] at h2
    cases h2
    exact ht rfl
  have c0 : w.cell? ⟨b, o, none⟩ = some (.slice s.ra l.length s.cap) := heap_cell hb hc
  have hk : ∀ g, g < w.heap.size → (w.alloc (.cells #[.int .i64 x] 3)).heap[g]? = w.heap[g]? := fun g hg => Below.heap_alloc _ _ _ hg
  have hz : (w.alloc (.cells #[.int .i64 x] 3)).heap.size = w.heap.size + 1 := World.size_alloc ..
  obtain ⟨s', w1, hr, h1, h2, h3, h4⟩ := (hR.kept (w' := w.alloc (.cells #[.int .i64 x] 3)) (fun g hg => hk g (hR.lt hg))).snoc hl x w.heap.size (heap_alloc_new w _)
  have hb1 : w1.heap[b]? = some (.cells cs t (0, 0)) := (h2 b (by omega) hbn).trans ((hk b lb).trans hb)
  have c1 : w1.cell? ⟨b, o, none⟩ = some (.slice s.ra l.length s.cap) := heap_cell hb1 hc
  have f1 : w1.frozen? ⟨b, o, none⟩ = false := by simp [World.frozen?, hb1]
  have l1 := heap_lt hb1
  have HF : Hid (StR b o s l x w (w1.setCell ⟨b, o, none⟩ (.slice s'.ra (l.length + 1) s'.cap))) := ⟨s', w1, rfl, h1, fun g hg hn => (h2 g (by omega) hn).trans (hk g hg), ((Below.refl 0 w).alloc (Nat.zero_le _) _).trans h3, h4.imp (fun h => h) (fun h => ⟨_, h, by omega⟩)⟩
  obtain ⟨ra, ca⟩ := s
  obtain ⟨ra', ca'⟩ := s'
  dsimp only at *
  clear hbn h1 h2 h3 h4 hR hk hb hb1
  go_enter Tryd.func68, Tryd.ntmps68
  go_wp2_with (at_builtin; refine stop_of ?_)
  unfold Hid
  refine wpList_append_known _ rfl _ _ 62 62 rfl _ _ rfl rfl (hr _) ?_
  clear hr c0
  go_wp2
  exact bodyPost_end (results_none rfl _ _ _) rfl ⟨rfl, HF.out⟩
set_option maxRecDepth 100000 in
set_option maxHeartbeats 4000000 in
theorem takeFirst_none (b o : Nat) (s : Sl) (w : World) (_hb : b < w.heap.size) (hc : w.cell? ⟨b, o, none⟩ = some (.slice s.ra 0 s.cap)) :
    Calls Tryd.prog 72 #[.pointer (some ⟨b, o, none⟩)] w fun e w' => e = .returned (.int .i64 0) ∧ w' = w := by
  obtain ⟨ra, ca⟩ := s
  go_enter Tryd.func72, Tryd.ntmps72
  go_wp2
  go_ret
  exact ⟨rfl, rfl⟩
set_option maxRecDepth 100000 in
set_option maxHeartbeats 4000000 in
theorem takeFirst_some (b o : Nat) (s : Sl) (x : Int) (l : List Int) (w : World) {cs : Array Value} {t : TypeId} (hb : w.heap[b]? = some (.cells cs t (0, 0))) (hc : cs[o]? = some (.slice s.ra (l.length + 1) s.cap)) (hR : RI w s (x :: l)) (hl : l.length ≤ 1000) :
    Calls Tryd.prog 72 #[.pointer (some ⟨b, o, none⟩)] w fun e w' => e = .returned (.int .i64 x) ∧ w' = w.setCell ⟨b, o, none⟩ (.slice (s.next l.length).ra l.length (s.next l.length).cap) := by
  have lb := heap_lt hb
  have c0 : w.cell? ⟨b, o, none⟩ = some (.slice s.ra (l.length + 1) s.cap) := heap_cell hb hc
  have f0 : w.frozen? ⟨b, o, none⟩ = false := by simp [World.frozen?, hb]
  obtain ⟨g, off, hg, h1, h2, h3, _, _⟩ := hR.cons
  obtain ⟨ra, ca⟩ := s
  dsimp only at *
  subst hg
  clear hR hb hc
  generalize hL : l.length = n at *
  have k1 : (0 : Int) < (n : Int) + 1 := by omega
  have k2 : ¬ ((n : Int) + 1 = 0) := by omega
  have k3 : (n : Int) + 1 ≤ (ca : Int) := by omega
  go_enter Tryd.func72, Tryd.ntmps72
  go_wp2
  all_goals
    go_ret
    refine ⟨rfl, ?_⟩
  · rfl
  · rename_i h
    cases n with
    | zero => exact absurd rfl h
    | succ m => rfl
set_option maxRecDepth 100000 in
set_option maxHeartbeats 4000000 in
theorem has_any (b o : Nat) (s : Sl) (l : List Int) (x : Int) (w : World) (_hb : b < w.heap.size) (hc : w.cell? ⟨b, o, none⟩ = some (.slice s.ra l.length s.cap)) (hR : RI w s l) (hl : l.length ≤ 1000) :
    Calls Tryd.prog 84 #[.pointer (some ⟨b, o, none⟩), .int .i64 x] w fun e w' => e = .returned (.bool (l.contains x)) ∧ w' = w := by
  have HC : Hid (Calls Tryd.prog 89 #[.slice s.ra l.length s.cap, .int .i64 x] w fun e w' => e = .returned (.bool (l.contains x)) ∧ w' = w) := by
    rcases hR with ⟨rfl, rfl⟩ | ⟨g, off, cs, h0, h1, h2, h3, h4⟩
    · exact Tryd.slices_Contains_int_empty none 0 x w
    · rw [h0]
      have := Tryd.slices_Contains_int g off l.length s.cap l x w (Nat.le_refl _) (by omega) (fun j hj => by
        refine heap_cell h1 ?_
        rw [h4 j l[j] (List.getElem?_eq_getElem hj)]
        simp [hj])
      rw [List.take_length] at this
      exact this
  obtain ⟨ra, ca⟩ := s
  dsimp only at *
  generalize l.length = n at *
  clear hR
  generalize l.contains x = cx at HC ⊢
  go_enter Tryd.func84, Tryd.ntmps84
  go_wp2_with fail
  refine Calls.mono HC.out ?_
  rintro e w2 ⟨rfl, hw2⟩
  rw [hw2]
  clear hw2
  go_wp2
  go_ret
  exact ⟨rfl, rfl⟩
/-- What handing on leaves: to whom. -/
def hdM (l : List Int) : Int := l.headD 0
set_option maxRecDepth 100000 in
set_option maxHeartbeats 4000000 in
theorem handOn_none (b o : Nat) (s : Sl) (h : Int) (w : World) {cs : Array Value} {t : TypeId} (hb : w.heap[b]? = some (.cells cs t (0, 0))) (hc : cs[o]? = some (.slice s.ra 0 s.cap)) (hd : cs[o + 1]? = some (.int .i64 h)) :
    Calls Tryd.prog 70 #[.pointer (some ⟨b, o, none⟩)] w fun e w' => e = .returned (.int .i64 0) ∧ w' = w.setCell ⟨b, o + 1, none⟩ (.int .i64 0) := by
  have lb := heap_lt hb
  have c1 : w.cell? ⟨b, o + 1, none⟩ = some (.int .i64 h) := heap_cell hb hd
  have f1 : w.frozen? ⟨b, o + 1, none⟩ = false := by simp [World.frozen?, hb]
  have HT : Hid _ := takeFirst_none b o s w lb (heap_cell hb hc)
  clear hb hc hd
  go_enter Tryd.func70, Tryd.ntmps70
  go_wp2_with fail
  refine Calls.mono HT.out ?_
  rintro e w2 ⟨rfl, hw2⟩
  rw [hw2]
  clear hw2
  go_wp2
  go_ret
  exact ⟨rfl, rfl⟩
set_option maxRecDepth 100000 in
set_option maxHeartbeats 4000000 in
theorem handOn_some (b o : Nat) (s : Sl) (x : Int) (l : List Int) (h : Int) (w : World) {cs : Array Value} {t : TypeId} (hb : w.heap[b]? = some (.cells cs t (0, 0))) (hc : cs[o]? = some (.slice s.ra (l.length + 1) s.cap)) (hd : cs[o + 1]? = some (.int .i64 h)) (hR : RI w s (x :: l)) (hl : l.length ≤ 1000) :
    Calls Tryd.prog 70 #[.pointer (some ⟨b, o, none⟩)] w fun e w' => e = .returned (.int .i64 x) ∧ w' = (w.setCell ⟨b, o, none⟩ (.slice (s.next l.length).ra l.length (s.next l.length).cap)).setCell ⟨b, o + 1, none⟩ (.int .i64 x) := by
  have lb := heap_lt hb
  have HT : Hid _ := takeFirst_some b o s x l w hb hc hR hl
  generalize hv : Value.slice (s.next l.length).ra l.length (s.next l.length).cap = v at HT ⊢
  have h1 := set_atC (j := o) hb v
  have c1 : (w.setCell ⟨b, o, none⟩ v).cell? ⟨b, o + 1, none⟩ = some (.int .i64 h) := heap_cell h1 (by rw [Array.getElem?_setIfInBounds_ne (by omega)]; exact hd)
  have f1 : (w.setCell ⟨b, o, none⟩ v).frozen? ⟨b, o + 1, none⟩ = false := by simp [World.frozen?, h1]
  have l1 := heap_lt h1
  clear hb hc hd h1 hR hv
  go_enter Tryd.func70, Tryd.ntmps70
  go_wp2_with fail
  refine Calls.mono HT.out ?_
  rintro e w2 ⟨rfl, hw2⟩
  rw [hw2]
  clear hw2 HT
  go_wp2
  go_ret
  exact ⟨rfl, rfl⟩
end Go.Proofs.YtdlnkdcgipaoeaaDoor
