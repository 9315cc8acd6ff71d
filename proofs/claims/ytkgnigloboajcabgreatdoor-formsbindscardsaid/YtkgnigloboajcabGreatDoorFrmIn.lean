/- A form that comes in. -/
import Derived.Test.YtkgnigloboajcabGreatDoorOfFrm
import Derived.Test.YtkgnigloboajcabGreatDoorDatIn
namespace Go.Proofs.YtkgnigloboajcabGreatDoor
open Go.ChangeShapes Go.WideShapes Go.ChangeAt Go.RowKit
variable {H : Type} {enc : TypeId × Value → H} {W : World}

theorem cellsFrm : Tryz.prog.cellsOf 30 = 9 := by kernel_rfl
theorem cellsFK : Tryz.prog.cellsOf 22 = 1 := by kernel_rfl
theorem cellsSS : Tryz.prog.cellsOf 23 = 1 := by kernel_rfl
theorem cellsSF : Tryz.prog.cellsOf 24 = 1 := by kernel_rfl
theorem bytesFrm : Tryz.prog.bytesOf 30 = 136 := by kernel_rfl
theorem nine9 {cs : List Value} (h : cs.length = 9) : ∃ v0 v1 v2 v3 v4 v5 v6 v7 v8, cs = [v0, v1, v2, v3, v4, v5, v6, v7, v8] := by
  match cs, h with
  | [v0, v1, v2, v3, v4, v5, v6, v7, v8], _ => exact ⟨v0, v1, v2, v3, v4, v5, v6, v7, v8, rfl⟩
/-- Names that come in. -/
theorem names_of {sp : Nat → Bool} {fuel : Nat} {v : Value} {x : DataW H × List MemPlace} (h : DataW.trod enc Tryz.prog W 0 sp true fuel 23 [v] = some x) (hL : Lt 23 x.1) :
    ∃ (ra : Option Addr) (c : Nat) (l : List (List UInt8)), v = .slice ra l.length c ∧ l.length ≤ maxLen ∧ RN W ra l ∧ ∀ s ∈ l, s.length ≤ 281474976710656 := by
  obtain ⟨ra, l, cap, hv, hcap, hm, _, b, o, ha, hp⟩ := elemsF_of (α := List UInt8) Tryz.underlying23 cellsStr (by decide) (fun b o s => W.cell? ⟨b, o, none⟩ = some (S s) ∧ s.length ≤ 281474976710656) (fun m cs y b off _ hcs hy hy2 => by
    obtain ⟨s, hs, he, _⟩ := DataW.trod_string Tryz.underlying9 hy
    have c0 := cells?_cell hcs (i := 0) (by omega)
    rw [hs] at c0
    refine ⟨s.data.toList, by simpa [S] using c0, ?_⟩
    have := hy2 s.size (by rw [he]; simp [DataW.weights])
    unfold reachBytes at this
    have e : s.data.toList.length = s.size := by simp
    rw [e]; omega) h hL
  refine ⟨ra, cap, l, hv, by omega, ⟨b, o, ?_, fun j s hs => ?_⟩, fun s hs => ?_⟩
  · rcases ha with ha | ha
    · exact .inl (List.length_eq_zero_iff.1 ha)
    · exact .inr ha
  · have := (hp j s hs).1; rwa [Nat.mul_one] at this
  · obtain ⟨j, hj⟩ := List.getElem?_of_mem hs
    exact (hp j s hj).2
theorem formL_of {sp : Nat → Bool} {fuel : Nat} {cs : List Value} {x : DataW H × List MemPlace} (h : DataW.trod enc Tryz.prog W 0 sp true fuel 30 cs = some x) (hL : Lt 30 x.1) :
    ∃ (k : Int) (t : List UInt8) (nr : Option Addr) (nc : Nat) (ns : List (List UInt8)) (vk : Value) (d : Dt) (dr : Option Addr) (dc m : Nat) (y : DataW H × List MemPlace), fuel = m + 1 ∧ cs = [.int .u8 k, S t, .slice nr ns.length nc, vk, .int .u8 d.k, .int .i64 d.n, S d.t, .slice dr d.s.len dc, .bool d.d] ∧ t.length ≤ 281474976710656 ∧ (ns.length ≤ maxLen ∧ RN W nr ns ∧ ∀ s ∈ ns, s.length ≤ 281474976710656) ∧ (RS W dr d.s ∧ d.s.len ≤ maxLen ∧ d.t.length ≤ 281474976710656 ∧ d.s.sl) ∧ DataW.trod enc Tryz.prog W 0 sp true m 24 [vk] = some y ∧ Lt 24 y.1 := by
  obtain ⟨xs, m, hm, hxv, hl, hx, hf⟩ := DataW.trod_struct Tryz.underlying30 h
  rw [cellsFrm] at hl
  have hx5 : xs.length = 5 := hx
  have f0 : DataW.trod enc Tryz.prog W 0 sp true m 22 ((cs.drop 0).take (Tryz.prog.cellsOf 22)) = xs[0]? := hf 0 _ rfl
  have f1 : DataW.trod enc Tryz.prog W 0 sp true m 9 ((cs.drop 1).take (Tryz.prog.cellsOf 9)) = xs[1]? := hf 1 _ rfl
  have f2 : DataW.trod enc Tryz.prog W 0 sp true m 23 ((cs.drop 2).take (Tryz.prog.cellsOf 23)) = xs[2]? := hf 2 _ rfl
  have f3 : DataW.trod enc Tryz.prog W 0 sp true m 24 ((cs.drop 3).take (Tryz.prog.cellsOf 24)) = xs[3]? := hf 3 _ rfl
  have f4 : DataW.trod enc Tryz.prog W 0 sp true m 28 ((cs.drop 4).take (Tryz.prog.cellsOf 28)) = xs[4]? := hf 4 _ rfl
  obtain ⟨x0, x1, x2, x3, x4, rfl⟩ : ∃ x0 x1 x2 x3 x4, xs = [x0, x1, x2, x3, x4] := by
    match xs, hx5 with
    | [x0, x1, x2, x3, x4], _ => exact ⟨x0, x1, x2, x3, x4, rfl⟩
  obtain ⟨k, c0, _⟩ := DataW.trod_int Tryz.underlying22 (show _ = some x0 from f0)
  obtain ⟨s, c1, he1, hs⟩ := DataW.trod_string Tryz.underlying9 (show _ = some x1 from f1)
  obtain ⟨v0, v1, v2, v3, v4, v5, v6, v7, v8, rfl⟩ := nine9 hl
  rw [show ([v0, v1, v2, v3, v4, v5, v6, v7, v8].drop 0).take (Tryz.prog.cellsOf 22) = [v0] by rw [cellsFK]; rfl] at c0
  rw [show ([v0, v1, v2, v3, v4, v5, v6, v7, v8].drop 1).take (Tryz.prog.cellsOf 9) = [v1] by rw [cellsStr]; rfl] at c1
  rw [show ([v0, v1, v2, v3, v4, v5, v6, v7, v8].drop 2).take (Tryz.prog.cellsOf 23) = [v2] by rw [cellsSS]; rfl] at f2
  rw [show ([v0, v1, v2, v3, v4, v5, v6, v7, v8].drop 3).take (Tryz.prog.cellsOf 24) = [v3] by rw [cellsSF]; rfl] at f3
  rw [show ([v0, v1, v2, v3, v4, v5, v6, v7, v8].drop 4).take (Tryz.prog.cellsOf 28) = [v4, v5, v6, v7, v8] by rw [cellsDat]; rfl] at f4
  cases c0
  cases c1
  have hw : ∀ (j : Nat) (ty : TypeId) (u : DataW H), (([22, 9, 23, 24, 28] : List TypeId))[j]? = some ty → ([x0.1, x1.1, x2.1, x3.1, x4.1])[j]? = some u → Lt ty u := fun j ty u h1 h2 n hn => hL n (by
    rw [hxv]
    simp only [DataW.weights, Tryz.underlying30]
    exact DataW.weights_mem_each h1 h2 n hn)
  obtain ⟨nr, nc, ns, rfl, hn1, hn2, hn3⟩ := names_of (show _ = some x2 from f2) (hw 2 _ _ rfl rfl)
  obtain ⟨dk, dn, dt, dv, db, m', y', _, hde, hdt, hdk, hdk2⟩ := datL_of (show _ = some x4 from f4) (hw 4 _ _ rfl rfl)
  obtain ⟨dr, dc, df, rfl, _, hdl, hdR, hds⟩ := dataL_of m' dv y' hdk hdk2
  cases hde
  refine ⟨k, s.data.toList, nr, nc, ns, v3, ⟨dk, dn, dt, df, db⟩, dr, dc, m, x3, hm, by simp [S], ?_, ⟨hn1, hn2, hn3⟩, ⟨hdR, by show df.len ≤ maxLen; unfold maxLen; omega, by show dt.length ≤ _; unfold reachBytes at hdt; omega, hds⟩, f3, hw 3 _ _ rfl rfl⟩
  have := hw 1 _ _ rfl rfl s.size (by rw [he1]; simp [DataW.weights])
  unfold reachBytes at this
  have e : s.data.toList.length = s.size := by simp
  rw [e]; omega
/-- One form of a row that comes in. -/
def Pf (W : World) (b o : Nat) (x : Frm) : Prop := (W.cell? ⟨b, o, none⟩ = some (.int .u8 x.kind) ∧ W.cell? ⟨b, o + 1, none⟩ = some (S x.text) ∧ W.cell? ⟨b, o + 4, none⟩ = some (.int .u8 x.dat.k) ∧ W.cell? ⟨b, o + 5, none⟩ = some (.int .i64 x.dat.n) ∧ W.cell? ⟨b, o + 6, none⟩ = some (S x.dat.t) ∧ W.cell? ⟨b, o + 8, none⟩ = some (.bool x.dat.d)) ∧
  (∃ nr nc kr kc dr dc, (W.cell? ⟨b, o + 2, none⟩ = some (.slice nr x.names.length nc) ∧ W.cell? ⟨b, o + 3, none⟩ = some (.slice kr x.kids.len kc) ∧ W.cell? ⟨b, o + 7, none⟩ = some (.slice dr x.dat.s.len dc)) ∧ x.kids.len ≤ kc ∧ RFo W x nr kr dr) ∧ x.SL
def fmL : List Frm → Fm
  | [] => .nil
  | x :: l => x.fm (fmL l)
theorem fmL_len : ∀ l, (fmL l).len = l.length
  | [] => rfl
  | _ :: l => by simp only [fmL, Frm.fm, Fm.len, fmL_len l, List.length_cons]
theorem fmL_rd {b : Nat} : ∀ {l : List Frm} {o : Nat}, (∀ (j : Nat) (x : Frm), l[j]? = some x → Pf W b (o + j * 9) x) → RdF W (fmL l) b o
  | [], _, _ => trivial
  | x :: l, o, h => by
    obtain ⟨⟨h1, h2, h3, h4, h5, h6⟩, ⟨nr, nc, kr, kc, dr, dc, ⟨h7, h8, h9⟩, hc, hR⟩, _⟩ := h 0 x rfl
    simp only [Nat.zero_mul, Nat.add_zero] at h1 h2 h3 h4 h5 h6 h7 h8 h9
    obtain ⟨b', o', hz, hk⟩ := hR.k
    exact ⟨⟨h1, h2, h3, h4, h5, h6⟩, ⟨nr, nc, kr, kc, dr, dc, ⟨h7, h8, h9⟩, hR.n, ⟨hc, b', o', hz, hk⟩, hR.d⟩, fmL_rd fun j y hy => by
      have := h (j + 1) y (by simpa using hy)
      rwa [show o + (j + 1) * 9 = o + 9 + j * 9 by omega] at this⟩
theorem fmL_sls {b : Nat} : ∀ {l : List Frm} {o : Nat}, (∀ (j : Nat) (x : Frm), l[j]? = some x → Pf W b (o + j * 9) x) → (fmL l).sls
  | [], _, _ => trivial
  | x :: l, o, h => by
    obtain ⟨_, _, hs⟩ := h 0 x rfl
    exact ⟨hs.t, hs.nl, hs.ns, hs.kl, ⟨hs.dl, hs.dt, hs.ds⟩, hs.ks, fmL_sls (o := o + 9) fun j y hy => by
      have := h (j + 1) y (by simpa using hy)
      rwa [show o + (j + 1) * 9 = o + 9 + j * 9 by omega] at this⟩
theorem formsL_of {sp : Nat → Bool} : ∀ (fuel : Nat) (v : Value) (x : DataW H × List MemPlace), DataW.trod enc Tryz.prog W 0 sp true fuel 24 [v] = some x → Lt 24 x.1 →
    ∃ (ra : Option Addr) (c : Nat) (f : Fm), v = .slice ra f.len c ∧ f.len ≤ c ∧ f.len ≤ maxLen ∧ RSF W ra f ∧ f.sls := by
  intro fuel
  induction fuel using Nat.strongRecOn with
  | _ fuel ih =>
    intro v x h hL
    obtain ⟨ra, l, cap, hv, hcap, hmax, _, b, o, ha, hp⟩ := elemsF_of (α := Frm) Tryz.underlying24 cellsFrm (by decide) (Pf W) (fun m cs y b off hm hcs hy hy2 => by
      obtain ⟨k, t, nr, nc, ns, vk, d, dr, dc, m', y', hm', rfl, ht, ⟨hn1, hn2, hn3⟩, ⟨hd1, hd2, hd3, hd4⟩, hk, hk2⟩ := formL_of hy hy2
      obtain ⟨kr, kc, f, rfl, hkc, hkl, hR, hs⟩ := ih m' (by omega) vk y' hk hk2
      have c0 := cells?_cell hcs (i := 0) (by omega)
      have c1 := cells?_cell hcs (i := 1) (by omega)
      have c2 := cells?_cell hcs (i := 2) (by omega)
      have c3 := cells?_cell hcs (i := 3) (by omega)
      have c4 := cells?_cell hcs (i := 4) (by omega)
      have c5 := cells?_cell hcs (i := 5) (by omega)
      have c6 := cells?_cell hcs (i := 6) (by omega)
      have c7 := cells?_cell hcs (i := 7) (by omega)
      have c8 := cells?_cell hcs (i := 8) (by omega)
      exact ⟨⟨k, t, ns, f, d⟩, ⟨c0, c1, c4, c5, c6, c8⟩, ⟨nr, nc, kr, kc, dr, dc, ⟨c2, c3, c7⟩, hkc, ⟨hn2, hR, hd1⟩⟩, ⟨ht, hn1, hn3, hkl, hd2, hd3, hd4, hs⟩⟩) h hL
    refine ⟨ra, cap, fmL l, by rw [fmL_len]; exact hv, by rw [fmL_len]; exact hcap, by rw [fmL_len]; omega, ⟨b, o, by rw [fmL_len]; exact ha, fmL_rd hp⟩, fmL_sls hp⟩
/-- THE FORM that comes in. -/
theorem frm_of {sp : Nat → Bool} {v : Value} {d : DataW H} {p : List MemPlace} (hv : ∃ cs, v = .agg cs ∧ cs.size = Tryz.prog.cellsOf 30) (h : DataW.Trod enc Tryz.prog W 0 sp true 30 v d p) (hL : Lt 30 d) : ∃ (f : Frm) (nr kr dr : Option Addr) (nc kc dc : Nat), v = frmV f (.slice nr f.names.length nc) (.slice kr f.kids.len kc) (.slice dr f.dat.s.len dc) ∧ f.kids.len ≤ kc ∧ RFo W f nr kr dr ∧ f.SL := by
  obtain ⟨cs, rfl, hcs⟩ := hv
  rw [cellsFrm] at hcs
  obtain ⟨v0, v1, v2, v3, v4, v5, v6, v7, v8, hl⟩ := nine9 (cs := cs.toList) (by simpa using hcs)
  obtain ⟨fuel, hf⟩ := h
  have hf' : DataW.trod enc Tryz.prog W 0 sp true fuel 30 [v0, v1, v2, v3, v4, v5, v6, v7, v8] = some (d, p) := by rw [← hl]; exact hf
  obtain ⟨k, t, nr, nc, ns, vk, d, dr, dc, m, y, _, he, ht, ⟨hn1, hn2, hn3⟩, ⟨hd1, hd2, hd3, hd4⟩, hk, hk2⟩ := formL_of hf' hL
  obtain ⟨kr, kc, f, rfl, hkc, hkl, hR, hs⟩ := formsL_of m vk y hk hk2
  refine ⟨⟨k, t, ns, f, d⟩, nr, kr, dr, nc, kc, dc, ?_, hkc, ⟨hn2, hR, hd1⟩, ⟨ht, hn1, hn3, hkl, hd2, hd3, hd4, hs⟩⟩
  have e : cs = #[.int .u8 k, S t, .slice nr ns.length nc, .slice kr f.len kc, .int .u8 d.k, .int .i64 d.n, S d.t, .slice dr d.s.len dc, .bool d.d] := by
    apply Array.toList_inj.1; rw [hl, he]
  rw [e]
end Go.Proofs.YtkgnigloboajcabGreatDoor
