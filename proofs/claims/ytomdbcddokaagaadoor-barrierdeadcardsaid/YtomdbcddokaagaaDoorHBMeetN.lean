/- A cell is met that was not. -/
import Derived.Test.YtomdbcddokaagaaDoorGF
namespace Go.Proofs.YtomdbcddokaagaaDoor
open Go.RowKit

theorem contains_snoc (r : List Nat) (c k : Nat) : (r ++ [c]).contains k = (r.contains k || decide (k = c)) := by simp
/-- What meeting leaves as it was. -/
def MF (g br : Nat) (rv rv' : Value) (W W' : World) : Prop := (∀ k, k < W.heap.size → k ≠ g → k ≠ br → rv.ownBlock ≠ some k → W'.heap[k]? = W.heap[k]?) ∧ ∀ k, rv'.ownBlock = some k → rv.ownBlock = some k ∨ W.heap.size ≤ k
set_option maxRecDepth 100000 in
set_option maxHeartbeats 8000000 in
theorem meet_new {w0 : World} {bm g bf bv br B fm : Nat} {p : Vp} {v : Vw} {rv : Value} {r : List Nat} {W : World} {mf : Cl → Bool} (h : MS w0 bm g bf bv br B fm p v rv r W) {c : Nat} {x : Cl} (hx : v.h[c]? = some x) (hr : r.contains c = false) (hrl : r.length ≤ 1000000000) (hB : B ≤ W.heap.size)
    (eg : ∀ args W, (callFunc fm args).run Tryd.prog W = .ok (.enter fm args) W) (hM : ∀ x W, Calls Tryd.prog fm #[cV x] W fun e W' => e = .returned (.bool (mf x)) ∧ Below W.heap.size W W') (hm : mf x = true) :
    Calls Tryd.prog 77 #[.int .i64 c, .pointer (some ⟨bm, 0, none⟩), .pointer (some ⟨bf, 0, none⟩), .pointer (some ⟨bv, 0, none⟩), .pointer (some ⟨br, 0, none⟩)] W fun e W' => (∃ v, e = .returned v) ∧ Below g W W' ∧ ∃ rv', MS w0 bm g bf bv br B fm p v rv' (r ++ [c]) W' ∧ MF g br rv rv' W W' := by
  have HMS : Hid (MS w0 bm g bf bv br B fm p v rv r W) := h
  have hc : c < v.h.length := (List.getElem?_eq_some_iff.1 hx).1
  have c1 := h.m.cell
  obtain ⟨u, c2, hu⟩ := h.o.cell hc
  rw [hu, hr] at c2
  have hl := h.l.hl
  have k1 : (c : Int) < (v.h.length : Int) := by omega
  have c3 := h.f.cell
  have c4 := h.v0.at.1
  obtain ⟨bb, o, hor, hcs⟩ := h.l.h
  have hra : p.cr = some ⟨bb, o, none⟩ := hor.resolve_left (by omega)
  obtain ⟨g1, ⟨y2, y3, y4, y5⟩, _⟩ := hcs c x hx
  rw [hra] at c4
  have HM : Hid (∀ x W, Calls Tryd.prog fm #[cV x] W fun e W' => e = .returned (.bool (mf x)) ∧ Below W.heap.size W W') := hM
  have l1 := h.m.lt
  have l2 := h.o.lt
  have l3 := h.f.lt
  have l4 : bv < W.heap.size := (Array.getElem?_eq_some_iff.1 h.v0).1
  obtain ⟨i0, hi0, hz0, hz1, hz2⟩ := info_parts infoI
  have mk : ∀ wx, Below W.heap.size W wx → (wx.cell? ⟨bm, 0, none⟩ = some (.slice (some ⟨g, 0, none⟩) v.h.length v.h.length) ∧ wx.cell? ⟨g, c, none⟩ = some (.bool false) ∧ wx.cell? ⟨bf, 0, none⟩ = some (.func (.func fm) #[] #[]) ∧ wx.cell? ⟨bv, 0, none⟩ = some (.slice (some ⟨bb, o, none⟩) v.h.length p.cc) ∧ wx.cell? ⟨bb, o + c * 4, none⟩ = some (.int .u8 x.k) ∧ wx.cell? ⟨bb, o + c * 4 + 1, none⟩ = some (.int .u8 x.c) ∧ wx.cell? ⟨bb, o + c * 4 + 1 + 1, none⟩ = some (.int .u64 x.a) ∧ wx.cell? ⟨bb, o + c * 4 + 1 + 1 + 1, none⟩ = some (.int .u64 x.b)) ∧ Below W.heap.size W wx := fun wx hb => ⟨⟨(hb.cell (p := ⟨bm, 0, none⟩) l1).trans c1, (hb.cell (p := ⟨g, c, none⟩) l2).trans c2, (hb.cell (p := ⟨bf, 0, none⟩) l3).trans c3, (hb.cell (p := ⟨bv, 0, none⟩) l4).trans c4, (hb.cell (p := ⟨bb, _, none⟩) g1).trans y2, (hb.cell (p := ⟨bb, _, none⟩) g1).trans y3, (hb.cell (p := ⟨bb, _, none⟩) g1).trans y4, (hb.cell (p := ⟨bb, _, none⟩) g1).trans y5⟩, hb⟩
  clear h hu hx hcs hor hM
  go_enter Tryd.func77, Tryd.ntmps77
  go_wp2_with fail
  go_region_held3 (fun wx => (wx.cell? ⟨bm, 0, none⟩ = some (.slice (some ⟨g, 0, none⟩) v.h.length v.h.length) ∧ wx.cell? ⟨g, c, none⟩ = some (.bool false) ∧ wx.cell? ⟨bf, 0, none⟩ = some (.func (.func fm) #[] #[]) ∧ wx.cell? ⟨bv, 0, none⟩ = some (.slice (some ⟨bb, o, none⟩) v.h.length p.cc) ∧ wx.cell? ⟨bb, o + c * 4, none⟩ = some (.int .u8 x.k) ∧ wx.cell? ⟨bb, o + c * 4 + 1, none⟩ = some (.int .u8 x.c) ∧ wx.cell? ⟨bb, o + c * 4 + 1 + 1, none⟩ = some (.int .u64 x.a) ∧ wx.cell? ⟨bb, o + c * 4 + 1 + 1 + 1, none⟩ = some (.int .u64 x.b)) ∧ Below W.heap.size W wx) (first | (go_keep; done) | exact mk _ (below_d _) | exact mk _ ((below_d W).trans hb)) (first | (refine (HM.out x _).mono ?_; rintro e w' ⟨rfl, hb⟩) | fail)
  have hbW : Below W.heap.size W w' := (below_d W).trans hb
  have H1 : Hid (MS w0 bm g bf bv br B fm p v rv r w') := HMS.out.grow hbW
  have fz := H1.out.o.fz c
  have e1 := H1.out.m.cell
  obtain ⟨u2, e2, _⟩ := H1.out.o.cell hc
  have qc : (w'.setCell ⟨g, c, none⟩ (.bool true)).cell? ⟨br, 0, none⟩ = some rv := by
    have := H1.out.ord
    exact (Boxed.cell (B := br) (t := 24) ((Below.heap_setCell _ _ _ _ (by simp; omega)).trans H1.out.q))
  go_wp2_with (at_builtin; refine stop_of ?_)
  unfold Hid
  have hord := H1.out.ord
  have hzs : (w'.setCell ⟨g, c, none⟩ (.bool true)).heap.size = w'.heap.size := by simp [World.setCell]
  have hne : ∀ k, rv.ownBlock = some k → B ≤ k := fun k hk => (H1.out.row.lt k hk).1
  have row1 : (w'.setCell ⟨g, c, none⟩ (.bool true)).ownsRow B 3 1 rv r.length (r.map (fun (k : Nat) => .int .i64 (k : Int))) := own_same H1.out.row (fun k hk => Below.heap_setCell _ _ _ _ (by have := hne k hk; simp; omega))
  refine wpList_append_lies _ rfl _ _ 24 rfl B 3 i0 _ 1 8 Tryd.underlying24 hi0 hz0 hz1 hz2 rfl (by decide) rv r.length (r.map (fun (k : Nat) => .int .i64 (k : Int))) rfl (World.ownsRow.alloc row1 _) ⟨w'.heap.size, 0, none⟩ 1 1 [.int .i64 c] rfl rfl (fun k u hu => ?_) (fun u hu => ?_) (by omega) (by unfold maxLen; omega) (by omega) (by rw [World.size_alloc, hzs]; have := hbW.size; omega) _ rfl ?_
  · have hnc := new_cell (w'.setCell ⟨g, c, none⟩ (.bool true)) #[.int .i64 c] 3 k u hu
    rw [hzs] at hnc
    rw [ad_add, Nat.zero_add]
    exact hnc
  · simp at hu; subst hu; rfl
  intro g5 cp w5 hown hgr hat hl3
  have keep : ∀ {k : Nat} {ob : Obj}, k < B → w'.heap[k]? = some ob → k ≠ g → w5.heap[k]? = some ob := fun {k} {ob} hk hob hkg => by
    have hlt : k < w'.heap.size := (Array.getElem?_eq_some_iff.1 hob).1
    refine (hgr.block k (by rw [World.size_alloc, hzs]; omega) (fun e => ?_)).trans ?_
    · have := hne k e.symm; omega
    · exact (Below.heap_alloc _ _ _ (by rw [hzs]; exact hlt)).trans ((Below.heap_setCell _ _ _ k hkg).trans hob)
  have q5 : Boxed w5 br 24 rv := keep (by omega) H1.out.q (by omega)
  have qc5 := q5.cell
  have qf5 := q5.frozen
  have bg5 : Below g w' w5 := by
    refine Below.trans (b := (w'.setCell ⟨g, c, none⟩ (.bool true)).alloc (.cells #[.int .i64 (c : Int)] 3)) ?_ ((Below.refl _ _).grown hgr ?_ (fun k hk => by have := hne k hk; omega))
    · have a1 : Below g w' (w'.setCell ⟨g, c, none⟩ (.bool true)) := (Below.refl g w').setCell (p := ⟨g, c, none⟩) (Nat.le_refl _) _
      have h0 : g ≤ (w'.setCell ⟨g, c, none⟩ (.bool true)).heap.size := by rw [hzs]; exact Nat.le_of_lt H1.out.o.lt
      exact a1.alloc h0 _
    · rw [World.size_alloc, hzs]; have := H1.out.o.lt; omega
  have d5 : DR w5 4 g v.h.length (fun k u => u = .bool ((r ++ [c]).contains k)) := by
    have d1 : DR (w'.setCell ⟨g, c, none⟩ (.bool true)) 4 g v.h.length (fun k u => u = .bool ((r ++ [c]).contains k)) := H1.out.o.set (fun k u hk hu => by rw [hu, contains_snoc]; simp [hk]) (by rw [contains_snoc]; simp)
    refine d1.kept ((hgr.block g (by rw [World.size_alloc, hzs]; have := H1.out.o.lt; omega) (fun e => by have := hne g e.symm; omega)).trans (Below.heap_alloc _ _ _ (by rw [hzs]; exact H1.out.o.lt)))
  have hk5 := fun (k : Nat) (ob : Obj) (h1 : k < B) (h2 : w'.heap[k]? = some ob) (h3 : k ≠ g) => keep h1 h2 h3
  have hsW := hbW.size
  have HFr : Hid (∀ k, k < W.heap.size → k ≠ g → rv.ownBlock ≠ some k → w5.heap[k]? = W.heap[k]?) := fun k hk hkg hko => by
    refine (hgr.block k (by rw [World.size_alloc, hzs]; omega) (fun e => hko e.symm)).trans ?_
    exact (Below.heap_alloc _ _ _ (by rw [hzs]; omega)).trans ((Below.heap_setCell _ _ _ k hkg).trans (hbW.block k hk))
  have HOw : Hid (rv.ownBlock = some g5 ∨ W.heap.size ≤ g5) := by
    rcases hat with h' | h'
    · exact .inl h'
    · refine .inr ?_
      rw [World.size_alloc, hzs] at h'
      omega
  clear keep hat hl3 qc e1 e2 fz mk
  go_wp2
  refine bodyPost_end (results_none rfl _ _ _) rfl ⟨⟨_, rfl⟩, ?_, .slice (some ⟨g5, 0, none⟩) (r.length + 1) cp, ?_, fun k h1 h2 h3 h4 => (Below.heap_setCell _ _ _ k h3).trans (HFr.out k h1 h2 h4), fun k hk => by cases hk; exact HOw.out⟩
  · exact (hbW.mono (by omega)).trans (bg5.setCell (p := ⟨br, 0, none⟩) (by show g ≤ br; omega) _)
  have ne5 : ∀ k, k ≠ br → (w5.setCell ⟨br, 0, none⟩ (.slice (some ⟨g5, 0, none⟩) (r.length + 1) cp)).heap[k]? = w5.heap[k]? := fun k hk => Below.heap_setCell _ _ _ k hk
  refine ⟨(ne5 _ (by omega)).trans (hk5 _ _ (by omega) H1.out.m (by omega)), d5.kept (ne5 _ (by omega)), (ne5 _ (by omega)).trans (hk5 _ _ (by omega) H1.out.f (by omega)), (ne5 _ (by omega)).trans (hk5 _ _ (by omega) H1.out.v0 (by omega)), ?_, H1.out.lv, q5.set _, ?_, hord⟩
  · exact H1.out.b.trans ((bg5.setCell (p := ⟨br, 0, none⟩) (by show g ≤ br; omega) _).mono (by omega))
  · rw [List.length_append, List.map_append]
    refine own_same hown (fun k hk => ne5 k ?_)
    have := (hown.lt k hk).1
    omega
end Go.Proofs.YtomdbcddokaagaaDoor
