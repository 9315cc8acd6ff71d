/- The document's Reach. -/
import Derived.Test.YtdcmkifljcdmmaaGreatDoorHHOrder
namespace Go.Proofs.YtdcmkifljcdmmaaGreatDoor
open Go.RowKit

theorem int_at {w : World} {base : Nat} {l : List Nat} {rv : Option Addr} {cv a : Nat} {x : Nat} (h : w.ownsRow base 3 1 (.slice rv l.length cv) l.length (l.map (fun (k : Nat) => Value.int .i64 (k : Int)))) (hp : l[a]? = some x) : ∃ g, rv = some ⟨g, 0, none⟩ ∧ w.cell? ⟨g, a, none⟩ = some (.int .i64 (x : Int)) ∧ g < w.heap.size := by
  have ha := (List.getElem?_eq_some_iff.1 hp).1
  rcases h.2 with ⟨h0, h1⟩ | ⟨g, cap, cur, hv, _⟩
  · omega
  · cases hv
    refine ⟨g, rfl, ?_, (h.lt g rfl).2⟩
    have := h.cells rfl a (.int .i64 (x : Int)) (by rw [List.getElem?_map, hp]; rfl)
    rwa [ad_add, Nat.zero_add] at this
theorem ordM_lt {h : List Cl} : ∀ (f i : Nat) (out : List Nat) (l : List Int), (∀ c ∈ out, c < h.length) → ∀ c ∈ ordM h f i out l, c < h.length
  | 0, _, _, _, ho => ho
  | f + 1, i, out, l, ho => by
    cases hw : l[i]? with
    | none => unfold ordM; rw [hw]; exact ho
    | some w =>
      rw [ordM_step hw]
      refine ordM_lt f (i + 1) _ _ ?_
      unfold ordS
      split
      · exact ho
      · split
        · exact ho
        · split
          · exact ho
          · rename_i x hx
            intro c hc
            rcases List.mem_append.1 hc with hc | hc
            · exact ho c hc
            · rw [List.mem_singleton.1 hc]; exact (List.getElem?_eq_some_iff.1 hx).1
theorem ord_len {h : List Cl} {roots : List Int} (hk : OkH h) : ∀ (f i : Nat) (out : List Nat) (l : List Int), OrdOk h roots out l → (ordM h f i out l).length ≤ h.length
  | 0, _, _, _, ho => ho.out_le
  | f + 1, i, out, l, ho => by
    cases hw : l[i]? with
    | none => unfold ordM; rw [hw]; exact ho.out_le
    | some w =>
      rw [ordM_step hw]
      refine ord_len (roots := roots) hk f (i + 1) _ _ ?_
      unfold ordS
      split
      · exact ho
      · split
        · exact ho
        · rename_i hc
          split
          · exact ho
          · rename_i x hx
            exact ho.step hk hx (by simpa using hc)
theorem order_len {h : List Cl} {roots : List Int} (hk : OkH h) (hf : ∀ x ∈ roots, fitsW h.length x = true ∧ Rng x) : (orderM h roots).length ≤ h.length := ord_len (roots := roots) hk _ 0 [] roots ⟨List.nodup_nil, fun _ hc => (by cases hc), Nat.le_add_right _ _, hf⟩
theorem take_more {l : List Nat} {k c : Nat} (hc : l[k]? = some c) : l.take (k + 1) = l.take k ++ [c] := by
  rw [List.take_add_one, hc]; rfl
set_option maxRecDepth 100000 in
set_option maxHeartbeats 8000000 in
theorem dReach_any (h : List Cl) (roots : List Int) (ra rb : Option Addr) (ca cb : Nat) (w : World) (hn : h.length ≤ 1000000) (hr : roots.length ≤ 1000000) (hH : HR w ra h) (hR : WR w rb roots) (hk : OkH h) (hf : ∀ x ∈ roots, fitsW h.length x = true ∧ Rng x) :
    Calls Tryz.prog 31 #[.slice ra h.length ca, .slice rb roots.length cb] w fun e w' => (∃ g, e = .returned (.slice (some ⟨g, 0, none⟩) h.length h.length) ∧ DR w' 4 g h.length (fun k u => u = .bool ((orderM h roots).contains k))) ∧ Below w.heap.size w w' := by
  have HH : Hid (HR w ra h) := hH
  have HR' : Hid (WR w rb roots) := hR
  have HK : Hid (OkH h) := hk
  have HF : Hid (∀ x ∈ roots, fitsW h.length x = true ∧ Rng x) := hf
  have HLt : Hid (∀ c ∈ orderM h roots, c < h.length) := ordM_lt _ 0 [] roots (fun c hc => by cases hc)
  have hlen : (orderM h roots).length ≤ h.length := order_len hk hf
  obtain ⟨i0, hi0, hz0, hz1, hz2⟩ := info_parts infoBool
  clear hH hR hk hf
  go_enter Tryz.func31, Tryz.ntmps31
  go_wp2_with (at_make; refine stop_of ?_)
  unfold Hid
  refine wpList_make_full _ rfl _ _ 70 rfl w.heap.size 4 i0 (.bool false) 1 Tryz.underlying70 hi0 hz0 hz1 .i64 .i64 _ _ h.length rfl rfl rfl rfl (by rw [hz2]; omega) (by unfold maxLen; omega) (Nat.le_refl _) ?_
  intro w2 hown hgr
  have HD2 : Hid (DR w2 4 w.heap.size h.length (fun _ u => u = .bool false)) := row_made hown (false_made _)
  have HB2 : Hid (Below w.heap.size w w2) := grown_low hgr (fun g hg => by cases hg) (Nat.le_refl _)
  clear hown hgr
  have HC : Hid _ := dOrder_any h roots ra rb ca cb w2 hn hr (HH.out.below HB2.out) (HR'.out.below HB2.out) HK.out HF.out
  go_wp2_with fail
  refine Calls.mono HC.out ?_
  rintro e w3 ⟨⟨r, c, rfl, hown3⟩, hb3⟩
  generalize horder : orderM h roots = l at *
  have HLo : Hid (orderM h roots = l) := horder
  have HX : Hid (DR w3 4 w.heap.size h.length (fun j u => u = .bool ((l.take 0).contains j)) ∧ w3.ownsRow w2.heap.size 3 1 (.slice r l.length c) l.length (l.map (fun (k : Nat) => Value.int .i64 (k : Int))) ∧ Below w.heap.size w w3) := ⟨(HD2.out.kept (hb3.block _ HD2.out.lt)).mono (fun k u _ hu => by rw [hu]; rfl), hown3, HB2.out.trans (hb3.mono HB2.out.size)⟩
  have hgl := HD2.out.lt
  clear HC hown3 hb3 HD2 HB2 horder HK HF HH HR'
  generalize hgm : w.heap.size = gm at *
  have HGm : Hid (w.heap.size = gm) := hgm
  clear hgm
  go_wp2_with fail
  go_loopw [7] (fun i wr => ∃ k : Nat, i = .int .i64 k ∧ k ≤ l.length ∧ Hid (DR wr 4 gm h.length (fun j u => u = .bool ((l.take k).contains j)) ∧ wr.ownsRow w2.heap.size 3 1 (.slice r l.length c) l.length (l.map (fun (k : Nat) => Value.int .i64 (k : Int))) ∧ Below gm w wr)) (fun i _ => l.length - (intOf i).toNat)
  case atStart => exact ⟨0, rfl, Nat.zero_le _, HX⟩
  case round =>
    clear HX
    obtain ⟨k, rfl, hk, HX⟩ := hrel
    by_cases hkl : k < l.length
    · have k1 : (k : Int) < (l.length : Int) := by omega
      obtain ⟨x, hx⟩ : ∃ x, l[k]? = some x := ⟨_, List.getElem?_eq_getElem hkl⟩
      obtain ⟨gl, rfl, d1, lg⟩ := int_at HX.out.2.1 hx
      have hxl := HLt.out x (List.mem_of_getElem? hx)
      have k2 : (x : Int) < (h.length : Int) := by omega
      obtain ⟨u, hu, _⟩ := HX.out.1.cell hxl
      have fz := HX.out.1.fz x
      have lm := HX.out.1.lt
      have HX2 : Hid (DR (wr.setCell ⟨gm, x, none⟩ (.bool true)) 4 gm h.length (fun j u => u = .bool ((l.take (k + 1)).contains j)) ∧ (wr.setCell ⟨gm, x, none⟩ (.bool true)).ownsRow w2.heap.size 3 1 (.slice (some ⟨gl, 0, none⟩) l.length c) l.length (l.map (fun (k : Nat) => Value.int .i64 (k : Int))) ∧ Below gm w (wr.setCell ⟨gm, x, none⟩ (.bool true))) := by
        refine ⟨HX.out.1.set (fun j u hj hu => ?_) ?_, own_same HX.out.2.1 (fun k hk => Below.heap_setCell _ _ _ _ (fun e => ?_)), ?_⟩
        · rw [hu, take_more hx]; simp [hj]
        · rw [take_more hx]; simp
        · have := (HX.out.2.1.lt k hk).1
          have e' : k = gm := e
          omega
        · exact HX.out.2.2.setCell (Nat.le_refl _) _
      have HXx : Hid (l[k]? = some x) := hx
      clear hx HX
      go_wp2
      go_roundw
      case rel => exact ⟨k + 1, by go_num, by omega, HX2⟩
      case measure => simp [intOf]; omega
    · have k1 : ¬ (k : Int) < (l.length : Int) := by omega
      go_wp2
      go_ret
      refine ⟨⟨gm, rfl, ?_⟩, by rw [HGm.out]; exact HX.out.2.2⟩
      have := HX.out.1
      rw [List.take_of_length_le (by omega)] at this
      rw [HLo.out]
      simpa using this
end Go.Proofs.YtdcmkifljcdmmaaGreatDoor
