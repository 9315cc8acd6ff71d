/- A world of one's own: a step, whatever it is; the collector's three. -/
import Derived.Test.YtomdbcddokaagaaDoorHKSpawn
import Derived.Test.YtomdbcddokaagaaDoorGV
namespace Go.Proofs.YtomdbcddokaagaaDoor
open Go.RowKit

theorem goes_steps {w0 : Wz} {w' : World} {wb : Nat} {v : Vw} {e : Ending} (h : Goes w0 wb v e w') : Steps w0 wb (fun v' _ => Mvs v v') e w' := h
/-- A step, whatever it is. -/
theorem step_any (w0 : Wz) (w : World) (wb : Nat) (p : Vp) (v : Vw) (L : List Lq) (N : Nat) (kd who a b d : Int) (hX : KX w0 w wb p v L) (hT : Tab w) (hTl : 0 < w0.heap.size) (hg : Good v) (hB : Bn v N) (hN : 2 ≤ N ∧ N + 2 ≤ 2000) (hw : Sml who) (ha : Sml a) (hb : Sml b) (hd : Sml d) :
    Calls Tryd.prog 14 #[.pointer (some ⟨wb, 0, none⟩), .agg #[.int .i64 kd, .int .i64 who, .int .i64 a, .int .i64 b, .int .i64 d]] w fun e w' => Steps w0 wb (fun v' _ => Mvs v v') e w' := by
  obtain ⟨G, hF⟩ := hg.fm
  by_cases hk : 10 ≤ kd
  · exact step_coll w0 w wb p v L (N + 2) (fun v' _ => Mvs v v') kd who a b d hX hT hk hTl (by omega) (fun W X T => (collect_any w0 W wb p v L G kd who a b d X T hF (hB.bd (by omega)) hw hTl).mono (fun _ _ h => goes_steps h)) (fun v' _ m => ⟨hg.mvs m, hB.mvs hN.1 m⟩)
  · have hk' : kd < 10 := by omega
    have hL8 : L.length ≤ 8 := by
      have := hB.l
      rw [← hX.e, List.length_map] at this
      exact this
    by_cases hL : 0 < L.length
    · have hi := pick_lt (c := who) hL
      obtain ⟨q, hq⟩ : ∃ q, L[pickN who L.length]? = some q := ⟨_, List.getElem?_eq_getElem hi⟩
      cases hen : q.x.en with
      | true => exact (step_ended w0 w wb _ p v L q kd who a b d hX hk' rfl hq hen hL8 hw).mono (fun _ _ h => ⟨h.1, p, v, L, h.2, .inl rfl⟩)
      | false =>
        by_cases h8 : kd = 8
        · subst h8
          exact step_spawn w0 w wb _ p v L q N who a b d hX hT rfl hq hen hTl hg hB hN hw ha hb
        · exact step_lane w0 w wb _ p v L q N kd who a b d hX hT hk' h8 rfl hq hen hTl hg hB hN hw ha hb hd
    · exact (step_zero w0 w wb p v L kd who a b d hX hk' (by omega)).mono (fun _ _ h => ⟨h.1, p, v, L, hX.below h.2, .inl rfl⟩)
/-- The collector lays a global. -/
theorem step_root (w0 : Wz) (w : World) (wb : Nat) (p : Vp) (v : Vw) (L : List Lq) (N : Nat) (who a b d : Int) (hX : KX w0 w wb p v L) (hT : Tab w) (hTl : 0 < w0.heap.size) (hg : Good v) (hB : Bn v N) (hN : N ≤ 2000) (hla : v.laid < (v.gl.length : Int)) :
    Calls Tryd.prog 14 #[.pointer (some ⟨wb, 0, none⟩), .agg #[.int .i64 10, .int .i64 who, .int .i64 a, .int .i64 b, .int .i64 d]] w fun e w' => Steps w0 wb (fun v' _ => (Good v' ∧ Bn v' N) ∧ v'.laid = v.laid + 1 ∧ v'.gl = v.gl) e w' := by
  obtain ⟨G, hF⟩ := hg.fm
  have hgr := hF.grey
  have bh := hB.h
  have bg := hB.g
  refine step_coll w0 w wb p v L N _ 10 who a b d hX hT (by omega) hTl hN (fun W X T => ?_) (fun v' _ m => m.1)
  refine (collect_root w0 W wb p v L who a b d X T hF.ph ⟨by omega, by omega⟩ hF.la.1 (by omega) hTl).mono (fun e w' h => ?_)
  rcases h with ⟨rfl, ⟨h1, _⟩ | ⟨g, yr, yc, hgk, _, X'⟩⟩
  · exact absurd hla h1
  · have m : Mv v _ := .root v.laid.toNat g (shN v.h [g, g]) hgk (by have := hF.la.1; omega) ⟨sh_whites _ _, sh_nodup _ _, fun c hc => by
      obtain ⟨w, hw, hr⟩ := sh_only hc
      exact ⟨w, by simpa using hw, hr⟩, fun w hw d hr hd => sh_all (ws := [g, g]) (by simp at hw ⊢; exact hw) hr hd⟩
    refine ⟨rfl, _, _, _, X', ⟨hg.mv m, ?_⟩, rfl, rfl⟩
    exact ⟨by show (greyL v.h _).length ≤ 60; rw [greyL_len]; exact hB.h, hB.g, hB.l, hB.r⟩
/-- The collector scans a lane. -/
theorem step_scan (w0 : Wz) (w : World) (wb : Nat) (p : Vp) (v : Vw) (L : List Lq) (N i : Nat) (a b d : Int) (hX : KX w0 w wb p v L) (hT : Tab w) (hTl : 0 < w0.heap.size) (hg : Good v) (hB : Bn v N) (hN : N ≤ 2000) (hi : i < v.lanes.length) :
    Calls Tryd.prog 14 #[.pointer (some ⟨wb, 0, none⟩), .agg #[.int .i64 11, .int .i64 i, .int .i64 a, .int .i64 b, .int .i64 d]] w fun e w' => Steps w0 wb (fun v' _ => (Good v' ∧ Bn v' N) ∧ v'.laid = v.laid ∧ v'.gl = v.gl ∧ ∃ t, v.lanes[i]? = some t ∧ v'.lanes = v.lanes.set i ⟨t.roots, true, t.en⟩) e w' := by
  obtain ⟨G, hF⟩ := hg.fm
  have hgr := hF.grey
  have bh := hB.h
  have bg := hB.g
  have bl := hB.l
  have hlen : v.lanes.length = L.length := by rw [← hX.e, List.length_map]
  have hpk : pickN (i : Int) L.length = i := by
    unfold pickN
    rw [if_neg (by omega)]
    have : ((i : Int) % (L.length : Int)) = i := Int.emod_eq_of_lt (by omega) (by omega)
    rw [this]
    simp
  obtain ⟨q, hq⟩ : ∃ q, L[i]? = some q := ⟨_, List.getElem?_eq_getElem (by omega)⟩
  have hl := hX.lane hq
  have hr := hB.r q.x (List.mem_of_getElem? hl)
  refine step_coll w0 w wb p v L N _ 11 i a b d hX hT (by omega) hTl hN (fun W X T => ?_) (fun v' _ m => m.1)
  have hc := collect_scan w0 W wb p v L i a b d q X T hF.ph ⟨by omega, by omega⟩ ⟨by omega, by omega⟩ ⟨by omega, by omega⟩ (by rw [hpk]; exact hq) (by omega) hTl
  rw [hpk] at hc
  refine hc.mono (fun e w' h => ?_)
  obtain ⟨rfl, l, yr, yc, hs, X'⟩ := h
  have m : Mv v _ := .scan i q.x l hl ⟨hs.wh, hs.nd, hs.on, hs.al⟩
  refine ⟨rfl, _, _, _, X', ⟨hg.mv m, ?_⟩, rfl, rfl, q.x, hl, rfl⟩
  refine ⟨by show (greyL v.h _).length ≤ 60; rw [greyL_len]; exact hB.h, hB.g, by show (v.lanes.set i _).length ≤ 8; rw [List.length_set]; exact hB.l, fun t ht => ?_⟩
  rcases List.mem_or_eq_of_mem_set ht with h1 | rfl
  · exact hB.r t h1
  · exact hr
/-- How many cells are not black. -/
def nbl (h : List Cl) : Nat := h.countP (fun x => !(usedB x && decide (x.c = 2)))
theorem nbl_le (h : List Cl) : nbl h ≤ h.length := List.countP_le_length
theorem nbl_set {h : List Cl} {c : Nat} {x y : Cl} (hx : h[c]? = some x) : nbl (h.set c y) + (if !(usedB x && decide (x.c = 2)) then 1 else 0) = nbl h + (if !(usedB y && decide (y.c = 2)) then 1 else 0) := by
  obtain ⟨hc, he⟩ := List.getElem?_eq_some_iff.1 hx
  unfold nbl
  rw [List.countP_set hc, he]
  have : (if !(usedB x && decide (x.c = 2)) then 1 else 0) ≤ h.countP (fun x => !(usedB x && decide (x.c = 2))) := by
    split
    · rename_i hp
      exact List.countP_pos_iff.2 ⟨x, List.mem_of_getElem? hx, hp⟩
    · exact Nat.zero_le _
  omega
theorem nbl_grey : ∀ (l : List Nat) (h : List Cl), Whites h l → l.Nodup → nbl (greyL h l) = nbl h
  | [], _, _, _ => rfl
  | c :: r, h, hw, hn => by
    obtain ⟨x, hx, hxw⟩ := hw c List.mem_cons_self
    have hc := (List.getElem?_eq_some_iff.1 hx).1
    unfold greyL
    rw [hx]
    dsimp only
    obtain ⟨n1, n2⟩ := List.nodup_cons.1 hn
    rw [nbl_grey r _ (fun d hd => by
      obtain ⟨z, hz, hzw⟩ := hw d (List.mem_cons_of_mem _ hd)
      exact ⟨z, by rw [List.getElem?_set_ne (fun e => n1 (by rw [e]; exact hd))]; exact hz, hzw⟩) n2]
    have h1 := nbl_set (y := greyC x) hx
    have e1 : (usedB x && decide (x.c = 2)) = false := by
      unfold whiteB at hxw
      rw [Bool.and_eq_true] at hxw
      have := of_decide_eq_true hxw.2
      simp [this]
    have e2 : (usedB (greyC x) && decide ((greyC x).c = 2)) = false := by
      unfold greyC
      simp
    rw [e1, e2] at h1
    simpa using h1
/-- The collector looks into a grey cell: one black cell more. -/
theorem step_into (w0 : Wz) (w : World) (wb : Nat) (p : Vp) (v : Vw) (L : List Lq) (N : Nat) (who a b d : Int) (hX : KX w0 w wb p v L) (hT : Tab w) (hTl : 0 < w0.heap.size) (hg : Good v) (hB : Bn v N) (hN : N ≤ 2000) (hgy : 0 < v.grey.length) :
    Calls Tryd.prog 14 #[.pointer (some ⟨wb, 0, none⟩), .agg #[.int .i64 12, .int .i64 who, .int .i64 a, .int .i64 b, .int .i64 d]] w fun e w' => Steps w0 wb (fun v' _ => (Good v' ∧ Bn v' N) ∧ v'.laid = v.laid ∧ v'.gl = v.gl ∧ v'.lanes = v.lanes ∧ v'.h.length = v.h.length ∧ nbl v'.h + 1 = nbl v.h) e w' := by
  obtain ⟨G, hF⟩ := hg.fm
  have hgr := hF.grey
  have bh := hB.h
  refine step_coll w0 w wb p v L N _ 12 who a b d hX hT (by omega) hTl hN (fun W X T => ?_) (fun v' _ m => m.1)
  have hG := hF.gy.e
  cases hGc : G with
  | nil =>
    rw [hGc] at hG
    rw [hG] at hgy
    cases hgy
  | cons c r =>
    rw [hGc] at hG
    have hgc := (hF.gy.m c).1 (by rw [hGc]; exact List.mem_cons_self)
    have hc := gr0_lt hgc
    obtain ⟨x, hx⟩ : ∃ x, v.h[c]? = some x := ⟨_, List.getElem?_eq_getElem hc⟩
    have hgx : greyB x = true := by
      unfold gr0 at hgc
      rw [hx] at hgc
      exact hgc
    refine (collect_into w0 W wb p v L who a b d c x (r.map Int.ofNat) X T hF.ph ⟨by omega, by omega⟩ hG hx hTl).mono (fun e w' h => ?_)
    obtain ⟨rfl, p', l, hs, X'⟩ := into_goes hF hG hx h
    have m : Mv v _ := .into c x _ l hG hx hs
    refine ⟨rfl, _, _, _, X', ⟨hg.mv m, ?_⟩, rfl, rfl, rfl, by show ((greyL v.h l).set c _).length = _; rw [List.length_set, greyL_len], ?_⟩
    · exact ⟨by show ((greyL v.h l).set c _).length ≤ 60; rw [List.length_set, greyL_len]; exact hB.h, hB.g, hB.l, hB.r⟩
    · obtain ⟨y, hy⟩ := grey_some (l := l) hx
      have hyx := grey_at hs.wh hx hy
      have h1 := nbl_set (y := ⟨x.k, 2, x.a, x.b⟩) hy
      rw [nbl_grey l v.h hs.wh hs.nd] at h1
      unfold greyB at hgx
      rw [Bool.and_eq_true] at hgx
      have hu := hgx.1
      have hcx := of_decide_eq_true hgx.2
      have e1 : (usedB y && decide (y.c = 2)) = false := by
        rw [hyx]
        dsimp only
        split
        · simp
        · simp [hcx]
      have e2 : (usedB (⟨x.k, 2, x.a, x.b⟩ : Cl) && decide ((⟨x.k, 2, x.a, x.b⟩ : Cl).c = 2)) = true := by
        unfold usedB at hu ⊢
        simpa using hu
      rw [e1, e2] at h1
      show nbl ((greyL v.h l).set c ⟨x.k, 2, x.a, x.b⟩) + 1 = nbl v.h
      simpa using h1
end Go.Proofs.YtomdbcddokaagaaDoor
