/- An append that tells where its answer lies, and that the elder value still reads its row. -/
import Derived.Test.YtphpkedfcmghmaaDoorHBKnown
import Derived.Laws.AppendOwn
import Derived.Laws.OwnMore
namespace Go.Proofs.YtphpkedfcmghmaaDoor
open Go.RowKit

theorem append_full {P : Program} (w : World) (t ty e : TypeId) (i : TypeInfo) (z : Value) (ht : P.underlying t = some (.slice e)) (hi : P.info? e = some i) (hz : i.zero = some z)
    (base g n cap : Nat) (xs : List Value) (hown : w.ownsRow base e i.size (.slice (some ⟨g, 0, none⟩) n cap) n xs) (a : Addr) (m c : Nat) (news : List Value) (hl : news.length = m * i.size)
    (hnews : ∀ j u, news[j]? = some u → w.cell? (a.add j) = some u) (h63 : n + m ≤ maxLen) (hb : (n + m) * i.bytes ≤ 140737488355328) (hfull : cap < n + m) {v' : Value} {w' : World}
    (hrun : (Builtin.append_ #[t, t] ty #[.slice (some ⟨g, 0, none⟩) n cap, .slice (some a) m c]).run P w = .ok v' w') : Below w.heap.size w w' := by
  have holds : ∀ j u, xs[j]? = some u → w.cell? ((⟨g, 0, none⟩ : Addr).add j) = some u := hown.cells (g := g) rfl
  have hr := run_append_grow (P := P) w t ty e i z ht hi hz ⟨g, 0, none⟩ n cap xs hown.1 holds a m c news hl hnews (by omega) (by simp only [maxLen] at h63; omega) (growslice_fits (by omega) hb)
  rw [hrun] at hr
  cases hr
  exact ((Below.refl _ w).drew).alloc (Nat.le_refl _) _

theorem own_prefix {w w' : World} {base e size g n n' cap cap' : Nat} {xs r : List Value} (h : w.ownsRow base e size (.slice (some ⟨g, 0, none⟩) n cap) n xs) (h1 : w.ownsRow base e size (.slice (some ⟨g, 0, none⟩) n' cap') n' (xs ++ r))
    (h2 : w'.ownsRow base e size (.slice (some ⟨g, 0, none⟩) n' cap') n' (xs ++ r)) : w'.ownsRow base e size (.slice (some ⟨g, 0, none⟩) n cap) n xs := by
  obtain ⟨hl, hc⟩ := h
  rcases hc with ⟨h', _⟩ | ⟨a, b, cur, hv, hb, hh, hn, hm, hz, ht⟩
  · simp at h'
  rcases h1.2 with ⟨h', _⟩ | ⟨a1, b1, cur1, hv1, _, hh1, _, _, hz1, _⟩
  · simp at h'
  obtain ⟨hl2, hc2⟩ := h2
  rcases hc2 with ⟨h', _⟩ | ⟨a2, b2, cur2, hv2, _, hh2, _, _, hz2, ht2⟩
  · simp at h'
  simp only [Value.slice.injEq, Option.some.injEq, Addr.mk.injEq, and_true, true_and] at hv hv1 hv2
  obtain ⟨rfl, rfl⟩ := hv
  obtain ⟨rfl, rfl⟩ := hv1
  obtain ⟨rfl, rfl⟩ := hv2
  rw [hh] at hh1
  cases hh1
  refine ⟨hl, .inr ⟨g, cap, cur2, rfl, hb, hh2, hn, hm, by rw [hz2, ← hz1, hz], ?_⟩⟩
  have : n * size ≤ n' * size := by rw [← hl, ← hl2, List.length_append]; omega
  have h3 : (cur2.toList.take (n' * size)).take (n * size) = cur2.toList.take (n * size) := by rw [List.take_take, Nat.min_eq_left this]
  rw [← h3, ht2, ← hl, List.take_left]

theorem own_told {w w' : World} {base e size n n' : Nat} {v u : Value} {xs r : List Value} (h : w.ownsRow base e size v n xs) (h1 : w.ownsRow base e size u n' (xs ++ r))
    (h2 : w'.ownsRow base e size u n' (xs ++ r)) (hg : w.grownBy w' u.ownBlock) : w'.ownsRow base e size v n xs := by
  by_cases e : v.ownBlock = none ∨ v.ownBlock ≠ u.ownBlock
  · exact h.kept hg e
  · rcases h.2 with ⟨rfl, _⟩ | ⟨g, cap, cur, rfl, _⟩
    · exact absurd (.inl rfl) e
    · rcases h1.2 with ⟨rfl, _⟩ | ⟨g1, cap1, cur1, rfl, _⟩
      · exact absurd (.inr (by simp [Value.ownBlock])) e
      · have : g = g1 := by
          by_cases e' : g = g1
          · exact e'
          · exact absurd (.inr (by simp [Value.ownBlock, e'])) e
        subst this
        exact own_prefix h h1 h2

theorem append_told {P : Program} {w w' : World} {base : Nat} {t ty e : TypeId} {i : TypeInfo} {z : Value} {size bytes : Nat} (ht : P.underlying t = some (.slice e)) (hi : P.info? e = some i) (hz : i.zero = some z)
    (hsize : i.size = size) (hby : i.bytes = bytes) (hsz : 0 < size) {v v' : Value} {n : Nat} {xs : List Value} (hown : w.ownsRow base e size v n xs)
    {a : Addr} {m c : Nat} {news : List Value} (hl : news.length = m * size) (hnews : ∀ j u, news[j]? = some u → w.cell? (a.add j) = some u) (h1 : ∀ u ∈ news, u.oneCell' = true)
    (h63 : n + m ≤ maxLen) (hbytes : (n + m) * bytes ≤ 140737488355328) (hm : 0 < m)
    (hrun : (Builtin.append_ #[t, t] ty #[v, .slice (some a) m c]).run P w = .ok v' w') (hown' : w'.ownsRow base e size v' (n + m) (xs ++ news)) (hg : w.grownBy w' v.ownBlock) :
    w'.ownsRow base e size v n xs ∧ (v'.ownBlock = v.ownBlock ∨ v'.ownBlock = some w.heap.size) := by
  subst hsize
  subst hby
  have hsmall : n + m ≤ 9223372036854775807 := by simp only [maxLen] at h63; omega
  rcases hown.2 with ⟨rfl, rfl⟩ | ⟨g, cap, cur, rfl, hbg, hgg, hnc, hcm, hcs, htake⟩
  · have hx : xs = [] := List.eq_nil_of_length_eq_zero (by simpa using hown.1)
    subst hx
    have hr := run_append_nil (P := P) w t ty e i z ht hi hz a m c news hl hnews hm (by omega) (by have hb := hbytes; simp only [Nat.zero_add] at hb; omega)
    rw [hrun] at hr
    cases hr
    exact ⟨World.ownsRow_nil _ _ _ _, .inr rfl⟩
  · by_cases hroom : n + m ≤ cap
    · have hfit : n * i.size + news.length ≤ cur.size := by rw [hl, hcs, ← Nat.add_mul]; exact Nat.mul_le_mul_right _ hroom
      have hr := run_append_room (P := P) w t ty e i ht hi g n cap cur hgg a m c news hl hnews h1 hroom hfit
      rw [hrun] at hr
      cases hr
      refine ⟨?_, .inl rfl⟩
      obtain ⟨hl2, hc2⟩ := hown'
      rcases hc2 with ⟨h', _⟩ | ⟨a2, b2, cur2, hv2, _, hh2, _, _, hz2, ht2⟩
      · simp at h'
      simp only [Value.slice.injEq, Option.some.injEq, Addr.mk.injEq, and_true, true_and] at hv2
      obtain ⟨rfl, rfl⟩ := hv2
      refine ⟨hown.1, .inr ⟨g, cap, cur2, rfl, hbg, hh2, hnc, hcm, hz2, ?_⟩⟩
      have : n * i.size ≤ (n + m) * i.size := Nat.mul_le_mul_right _ (by omega)
      have h3 : (cur2.toList.take ((n + m) * i.size)).take (n * i.size) = cur2.toList.take (n * i.size) := by rw [List.take_take, Nat.min_eq_left this]
      rw [← h3, ht2, ← hown.1, List.take_left]
    · have hb := append_full w t ty e i z ht hi hz base g n cap xs hown a m c news hl hnews h63 hbytes (by omega) hrun
      have holds : ∀ j u, xs[j]? = some u → w.cell? ((⟨g, 0, none⟩ : Addr).add j) = some u := hown.cells (g := g) rfl
      have hr := run_append_grow (P := P) w t ty e i z ht hi hz ⟨g, 0, none⟩ n cap xs hown.1 holds a m c news hl hnews (by omega) (by omega) (growslice_fits (by omega) hbytes)
      rw [hrun] at hr
      cases hr
      refine ⟨⟨hown.1, .inr ⟨g, cap, cur, rfl, hbg, ?_, hnc, hcm, hcs, htake⟩⟩, .inr rfl⟩
      rw [hb.block g (Array.getElem?_eq_some_iff.1 hgg).1]; exact hgg

theorem wpList_append_told {P : Program} (w : World) {ops : Array Oper} {rest : List Oper} {o : Oper} {a : Act} {Q : Exit → Act → World → Prop} (hgd : o.guard = none) (s x : Operand) (t : TypeId)
    (ho : o.op = .call { callee := .builtin .append, args := #[s, x], argTypes := #[t, t] })
    (base : Nat) (e : TypeId) (i : TypeInfo) (z : Value) (size bytes : Nat) (ht : P.underlying t = some (.slice e)) (hi : P.info? e = some i) (hz : i.zero = some z)
    (hsize : i.size = size) (hby : i.bytes = bytes) (hzs : z.cells.size = size) (hsz : 0 < size)
    (v : Value) (n : Nat) (xs : List Value) (hs : a.eval s = v) (hown : w.ownsRow base e size v n xs)
    (ad : Addr) (m c : Nat) (news : List Value) (hx : a.eval x = .slice (some ad) m c) (hl : news.length = m * size) (hnews : ∀ j u, news[j]? = some u → w.cell? (ad.add j) = some u) (h1 : ∀ u ∈ news, u.oneCell' = true)
    (h63 : n + m ≤ maxLen) (hbytes : (n + m) * bytes ≤ 140737488355328) (hbase : base ≤ w.heap.size) (hm : 0 < m)
    (h : ∀ v' w', w'.ownsRow base e size v' (n + m) (xs ++ news) → w.grownBy w' v.ownBlock → w'.ownsRow base e size v n xs → (v'.ownBlock = v.ownBlock ∨ v'.ownBlock = some w.heap.size) → wpList P ops Q rest (a.put o.dst v') w') : wpList P ops Q (o :: rest) a w :=
  wpList_plain hgd fun _ hK => by
    obtain ⟨v', w', hr, h2, h3, _⟩ := run_append_own (P := P) w base t o.type e i z size bytes ht hi hz hsize hby hzs hsz v n xs hown ad m c news hl hnews h1 h63 hbytes hbase
    obtain ⟨h4, h5⟩ := append_told ht hi hz hsize hby hsz hown hl hnews h1 h63 hbytes hm hr h2 h3
    unfold Oper.wp execOp
    simp only [ho, resolve, invoke, builtin, Sem.run_bind, Sem.run_pure, Result.andThen_ok, List.map_toArray, List.map_cons, List.map_nil, hs, hx, hr]
    exact hK _ _ (h v' w' h2 h3 h4 h5)
end Go.Proofs.YtphpkedfcmghmaaDoor
