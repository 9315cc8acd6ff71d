/- A world of one's own: what is reached. -/
import Derived.Test.YtomdbcddokaagaaDoorGU
import Derived.Test.YtomdbcddokaagaaDoorGM
namespace Go.Proofs.YtomdbcddokaagaaDoor
open Go.RowKit

set_option maxRecDepth 100000 in
set_option maxHeartbeats 16000000 in
theorem live_any (w0 : Wz) (W : World) (wb : Nat) (p : Vp) (v : Vw) (L : List Lq) (N : Nat) (hX : KX w0 W wb p v L) (hg : Good v) (hB : Bn v N) (hN : N ≤ 2000) :
    Calls Tryd.prog 15 #[.pointer (some ⟨wb, 0, none⟩)] W fun e w' => (∃ g, e = .returned (.slice (some ⟨g, 0, none⟩) v.h.length v.h.length) ∧ DR w' 4 g v.h.length (fun k u => u = .bool ((orderM v.h (rootsV v)).contains k))) ∧ Below W.heap.size W w' := by
  obtain ⟨i1, hi1, hy0, hy1, hy2⟩ := info_parts infoWd
  have HX : Hid (KX w0 W wb p v L) := hX
  have hlen : v.lanes.length = L.length := by rw [← hX.e, List.length_map]
  have hl8 := hB.l
  have hgl := hB.g
  have hh := hB.h
  have hrk : ∀ k, k ≤ L.length → (rootsK v.lanes k).length ≤ k * N := fun k hk => by
    unfold rootsK
    rw [List.length_flatten]
    have : ∀ (l : List Ln) (m : Nat), (∀ t ∈ l, t.roots.length ≤ N) → l.length ≤ m → ((l.map Ln.roots).map List.length).sum ≤ m * N := fun l => by
      induction l with
      | nil => intro m _ _; simp
      | cons t r ih =>
        intro m h1 h2
        cases m with
        | zero => simp at h2
        | succ m =>
          have h3 := ih m (fun s hs => h1 s (List.mem_cons_of_mem _ hs)) (by simpa using h2)
          have h4 := h1 t List.mem_cons_self
          simp only [List.map_cons, List.sum_cons]
          rw [Nat.add_mul]
          omega
    exact this _ k (fun t ht => hB.r t (List.mem_of_mem_take ht)) (by rw [List.length_take]; omega)
  have hrk2 : ∀ k, k ≤ L.length → (v.gl ++ rootsK v.lanes k).length ≤ 20000 := fun k hk => by
    have h1 := hrk k hk
    have h2 : k * N ≤ 8 * 2000 := Nat.mul_le_mul (by omega) hN
    rw [List.length_append]
    omega
  obtain ⟨G, hF⟩ := hg.fm
  have HRc : Hid (∀ (wr : World) (rr : Option Addr) (cr : Nat) , Below W.heap.size W wr → WR wr rr (v.gl ++ rootsK v.lanes L.length) → Calls Tryd.prog 63 #[.slice p.cr v.h.length p.cc, .slice rr (v.gl ++ rootsK v.lanes L.length).length cr] wr fun e w' => (∃ g, e = .returned (.slice (some ⟨g, 0, none⟩) v.h.length v.h.length) ∧ DR w' 4 g v.h.length (fun k u => u = .bool ((orderM v.h (rootsV v)).contains k))) ∧ Below wr.heap.size wr w') := fun wr rr cr hb hR => by
    have e : v.gl ++ rootsK v.lanes L.length = rootsV v := by
      unfold rootsV rootsK
      rw [List.take_of_length_le (by omega)]
    have hl := hrk2 L.length (Nat.le_refl _)
    rw [e] at hR hl ⊢
    have X := HX.out.below hb
    refine reach_any v.h (rootsV v) p.cr rr p.cc cr wr (by omega) (by omega) (hr_own X.c X.ok) hR (fun x hx hk => ?_) (fun x hx => ?_)
    · obtain ⟨c, hc⟩ := List.getElem?_of_mem hx
      have h1 := hF.wc c x hc (by unfold usedB; simpa using hk)
      have h2 := X.ok x hx
      exact ⟨⟨h1.1, h2.a⟩, h1.2, h2.b⟩
    · unfold rootsV at hx
      rcases List.mem_append.1 hx with h | h
      · exact ⟨hF.wg x h, X.rg x h⟩
      · obtain ⟨r, hr, hxr⟩ := List.mem_flatten.1 h
        obtain ⟨t, ht, rfl⟩ := List.mem_map.1 hr
        refine ⟨hF.wl t ht x hxr, ?_⟩
        rw [← X.e] at ht
        obtain ⟨q, hq, rfl⟩ := List.mem_map.1 ht
        exact X.rl q hq x hxr
  have HRk : Hid (∀ k, k ≤ L.length → (v.gl ++ rootsK v.lanes k).length ≤ 20000) := hrk2
  have HWr : Hid (∀ k, k ≤ L.length → ∀ x ∈ v.gl ++ rootsK v.lanes k, Rng x) := fun k hk x hx => by
    rcases List.mem_append.1 hx with h | h
    · exact hX.rg x h
    · unfold rootsK at h
      obtain ⟨r, hr, hxr⟩ := List.mem_flatten.1 h
      obtain ⟨t, ht, rfl⟩ := List.mem_map.1 hr
      have ht2 := List.mem_of_mem_take ht
      rw [← hX.e] at ht2
      obtain ⟨q, hq, rfl⟩ := List.mem_map.1 ht2
      exact hX.rl q hq x hxr
  have HLn : Hid (v.lanes.length = L.length) := hlen
  have f4 : W.cell? ⟨wb, 4, none⟩ = some (.slice p.gr v.gl.length p.gc) := heap_cell hX.b rfl
  have lwb := heap_lt hX.b
  have HN : Hid _ := wr_news (wr_own hX.g hX.rg)
  clear hX hrk hrk2 hg hB hF
  go_enter Tryd.func15, Tryd.ntmps15
  go_wp2_with (at_builtin; refine stop_of ?_)
  unfold Hid
  refine wpList_append_all _ rfl _ _ 25 rfl W.heap.size 57 i1 _ 1 8 Tryd.underlying25 hi1 hy0 hy1 hy2 rfl (by decide) (.slice none 0 0) 0 [] rfl (World.ownsRow_nil _ _ _ _) p.gr v.gl.length p.gc (v.gl.map (Value.int .u64)) rfl (by simp) HN.out.1 HN.out.2 (words_one _) (by unfold maxLen; omega) (by omega) (Nat.le_refl _) ?_
  intro rg cg W2 hown2 hgr2 _
  rw [Nat.zero_add, List.nil_append] at hown2
  have HB2 : Hid (Below W.heap.size W W2) := grown_low hgr2 (fun g hg => by cases hg) (Nat.le_refl _)
  have HO2 : Hid (W2.ownsRow W.heap.size 57 1 (.slice rg v.gl.length cg) v.gl.length (v.gl.map (Value.int .u64))) := hown2
  clear hown2 hgr2 HN
  rw [Nat.zero_add]
  go_wp2_with fail
  go_loopw [3, 4] (fun r j wr => ∃ (k : Nat) (rr : Option Addr) (cr : Nat) (R : List Int), j = .int .i64 k ∧ k ≤ L.length ∧ r = .slice rr R.length cr ∧ Hid (R = v.gl ++ rootsK v.lanes k) ∧ Hid (wr.ownsRow W.heap.size 57 1 (.slice rr R.length cr) R.length (R.map (Value.int .u64))) ∧ Hid (Below W.heap.size W wr)) (fun _ j _ => L.length - (intOf j).toNat)
  case atStart =>
    have e : v.gl = v.gl ++ rootsK v.lanes 0 := by unfold rootsK; simp
    exact ⟨0, rg, cg, v.gl, rfl, Nat.zero_le _, rfl, e, HO2, HB2⟩
  case round =>
    clear HB2 HO2 f4
    obtain ⟨k, rr, cr, R, rfl, hk, rfl, HRe, HO, HB⟩ := hrel
    have X := HX.out.below HB.out
    have f6 : wr.cell? ⟨wb, 6, none⟩ = some (.slice p.lr L.length p.lc) := by
      rw [← HLn.out]
      exact heap_cell X.b rfl
    have f0 : wr.cell? ⟨wb, 0, none⟩ = some (.slice p.cr v.h.length p.cc) := heap_cell X.b rfl
    have lw := heap_lt X.b
    have h1 := HRk.out k hk
    rw [← HRe.out] at h1
    by_cases hlt : k < L.length
    · obtain ⟨q, hq⟩ : ∃ q, L[k]? = some q := ⟨_, List.getElem?_eq_getElem hlt⟩
      have k1 : (k : Int) < (L.length : Int) := by omega
      have k0 : (0 : Int) ≤ (k : Int) := by omega
      obtain ⟨gl, cl, hvl, -, lgl⟩ := World.ownsRow.form X.l (show 0 < L.length by omega)
      have hpl : p.lr = some ⟨gl, 0, none⟩ := (Value.slice.inj hvl).1
      have ol := X.l
      rw [hpl] at ol f6
      obtain ⟨m0, -, -⟩ := lq3_at L k q hq
      have r0 : wr.cell? ⟨gl, k * 3, none⟩ = some (.slice q.ra q.x.roots.length q.cc) := own_cell ol m0
      have hqm := List.mem_of_getElem? hq
      have HNq : Hid _ := wr_news (wr_own (X.q q hqm) (X.rl q hqm))
      have hrm : rootsK v.lanes (k + 1) = rootsK v.lanes k ++ q.x.roots := rootsK_more (X.lane hq)
      have HRm : Hid (R ++ q.x.roots = v.gl ++ rootsK v.lanes (k + 1)) := by show _ = _; rw [hrm, HRe.out, List.append_assoc]
      have h2 := HRk.out (k + 1) (by omega)
      rw [← HRm.out, List.length_append] at h2
      have HSz : Hid (W.heap.size ≤ wr.heap.size) := HB.out.size
      clear X ol m0 hvl hpl hq hrm f0
      go_wp2_with (at_builtin; refine stop_of ?_)
      unfold Hid
      refine wpList_append_all _ rfl _ _ 25 rfl W.heap.size 57 i1 _ 1 8 Tryd.underlying25 hi1 hy0 hy1 hy2 rfl (by decide) (.slice rr R.length cr) R.length (R.map (Value.int .u64)) rfl HO.out q.ra q.x.roots.length q.cc (q.x.roots.map (Value.int .u64)) rfl (by simp) HNq.out.1 HNq.out.2 (words_one _) (by unfold maxLen; omega) (by omega) HSz.out ?_
      intro rr2 cr2 W3 hown3 hgr3 _
      have HB3 : Hid (Below W.heap.size W W3) := HB.out.trans (grown_low hgr3 (fun g hg => (HO.out.lt g hg).1) HSz.out)
      have hla : (R ++ q.x.roots).length = R.length + q.x.roots.length := List.length_append
      have HO3 : Hid (W3.ownsRow W.heap.size 57 1 (.slice rr2 (R ++ q.x.roots).length cr2) (R ++ q.x.roots).length ((R ++ q.x.roots).map (Value.int .u64))) := by
        show W3.ownsRow _ _ _ _ _ _
        rw [hla, List.map_append]
        exact hown3
      clear hown3 hgr3 HB HO HNq r0 f6 h1 h2 lgl lw
      go_wp2_with fail
      go_roundw
      case rel => exact ⟨k + 1, rr2, cr2, R ++ q.x.roots, by go_num, by omega, by rw [hla], HRm, HO3, HB3⟩
      case measure => simp [intOf]; omega
    · obtain rfl : k = L.length := by omega
      have k1 : ¬ (L.length : Int) < (L.length : Int) := by omega
      have HCl : Hid (Calls Tryd.prog 63 #[.slice p.cr v.h.length p.cc, .slice rr R.length cr] wr fun e w' => (∃ g, e = .returned (.slice (some ⟨g, 0, none⟩) v.h.length v.h.length) ∧ DR w' 4 g v.h.length (fun k u => u = .bool ((orderM v.h (rootsV v)).contains k))) ∧ Below wr.heap.size wr w') := by
        have h := HRc.out wr rr cr HB.out (by rw [← HRe.out]; exact wr_own HO.out (by rw [HRe.out]; exact HWr.out _ (Nat.le_refl _)))
        rw [← HRe.out] at h
        exact h
      clear X HRc
      go_wp2_with fail
      refine Calls.mono HCl.out ?_
      rintro e w3 ⟨⟨g, rfl, hd⟩, hb3⟩
      have HF : Hid ((∃ g', Ending.returned (.slice (some ⟨g, 0, none⟩) v.h.length v.h.length) = .returned (.slice (some ⟨g', 0, none⟩) v.h.length v.h.length) ∧ DR w3 4 g' v.h.length (fun k u => u = .bool ((orderM v.h (rootsV v)).contains k))) ∧ Below W.heap.size W w3) := ⟨⟨g, rfl, hd⟩, HB.out.trans (hb3.mono HB.out.size)⟩
      clear hd hb3 HCl
      go_wp2_with fail
      go_ret
      exact HF.out
end Go.Proofs.YtomdbcddokaagaaDoor
