/- Tails that are lists; quotes: plain mathematics. -/
import Derived.Test.YtinpjpcokjfinaaDoorGK
namespace Go.Proofs.YtinpjpcokjfinaaDoor

theorem row_then2 {m : Nat} (hm : m = 1 ∨ m = 2) : ∀ (f : Fo), Each f → ∀ (g : Fo) (dd : Bool) (R rest : List Tok) (o c c2 D C : Nat), o ≤ 100 → (f = .nil → m = 2) → c + f.size ≤ C →
    Tries (rdf 2 R o (c + f.size)) (.ok g dd rest c2) D C → Tries (rdf m ((textsK f).flatten ++ R) o c) (.ok (f.app g) dd rest c2) (max (dep o f) D) C
  | .nil, _, g, dd, R, rest, o, c, c2, D, C, ho, hf, hC, h => by
    rw [hf rfl]
    simp only [Fo.size, dep] at h ⊢
    exact Tries.mono h (by omega) (Nat.le_refl _)
  | .cons k n t s d r, ⟨h1, h2⟩, g, dd, R, rest, o, c, c2, D, C, ho, _, hC, h => by
    simp only [textsK, List.flatten_cons, List.append_assoc]
    rw [lst_more hm]
    have e : c + (Fo.cons k n t s d r).size = c + s.size + 1 + r.size := by simp only [Fo.size]; omega
    rw [e] at h hC
    have ih := row_then2 (.inr rfl) r h2 g dd R rest o (c + s.size + 1) c2 D C ho (fun _ => rfl) hC h
    have hd := dep_cons k n t s d r o
    unfold more
    rcases h1 o c ((textsK r).flatten ++ R) ho with h | ⟨p, h, h'⟩ | ⟨p, h, h'⟩
    · rw [h]
      simp only [Res.then]
      rcases ih with h2 | ⟨p, h2, h'⟩ | ⟨p, h2, h'⟩
      · rw [h2]; exact .inl rfl
      · rw [h2]; exact .inr (.inl ⟨p, rfl, by omega⟩)
      · rw [h2]; exact .inr (.inr ⟨p, rfl, by omega⟩)
    · rw [h]; exact .inr (.inl ⟨p, rfl, by omega⟩)
    · rw [h]; exact .inr (.inr ⟨p, rfl, by omega⟩)

/-- What Read tells: these data, or that they are too deep or too many. -/
def Told3 (l : List UInt8) (f : Fo) : Prop := readOf l = (f, 0, 0) ∨ (∃ p, readOf l = (.nil, 61, p)) ∨ (∃ p, readOf l = (.nil, 62, p))
theorem told3_of {l : List UInt8} {ks : List Tok} {f : Fo} {d : Bool} {r : List Tok} {c D C : Nat} (hl : l.length ≤ 65536) (h : lx l = z0 ks) (hr : Tries (rdf 3 ks 0 0) (.ok f d r c) D C) : Told3 l f := by
  rcases hr with h1 | ⟨p, h1, _⟩ | ⟨p, h1, _⟩
  · exact .inl (read_ok hl h h1)
  · exact .inr (.inl (read_bad hl h h1))
  · exact .inr (.inr (read_bad hl h h1))

/-- A list, and then the end. -/
theorem list_end {T : List Tok} {g : Fo} {c2 D C : Nat} (h : Tries (rdf 1 T 1 1) (.ok g false [tk 9] c2) D C) : Tries (rdf 3 (tk 1 :: T) 0 0) (.ok (.cons 5 0 [] g false .nil) false [] c2) D C := by
  rw [rdf_lst (by decide)]
  unfold lst
  rw [if_pos rfl, if_neg (by decide)]
  unfold more
  rw [rdf_one]
  unfold one
  rw [if_pos (show (tk 1).kind = 1 from rfl), if_neg (by decide), if_neg (by decide)]
  rcases h with h | ⟨p, h, h'⟩ | ⟨p, h, h'⟩
  · show Tries (((rdf 1 T 1 1).list).then _) _ _ _
    rw [h]
    refine .inl ?_
    simp only [Res.list, Res.then]
    rw [end_is]
    rfl
  · show Tries (((rdf 1 T 1 1).list).then _) _ _ _
    rw [h]; exact .inr (.inl ⟨p, rfl, h'⟩)
  · show Tries (((rdf 1 T 1 1).list).then _) _ _ _
    rw [h]; exact .inr (.inr ⟨p, rfl, h'⟩)

def textA (l : Fo) : List UInt8 := linesT (textsT l)
theorem cutA {l : Fo} (h : allD l = true) : Cut (textA l) (textsK l).flatten := lines_cut (cuts l h)

theorem tails1 {l m : Fo} (hl : allD l = true) (hm : allD m = true) (hn : l ≠ .nil) (hlen : (textA l).length + (textA m).length ≤ 60000) :
    Told3 (40 :: (textA l ++ (32 :: 46 :: 32 :: 40 :: (textA m ++ [41, 41])))) (.cons 5 0 [] (l.app m) false .nil) := by
  have hk : lx (40 :: (textA l ++ (32 :: 46 :: 32 :: 40 :: (textA m ++ [41, 41])))) = z0 (tk 1 :: ((textsK l).flatten ++ (tk 4 :: tk 1 :: ((textsK m).flatten ++ [tk 2, tk 2, tk 9])))) := by
    rw [lx_open, cutA hl _ (stop_cons _ (by decide)), lx_blank 32 _ (by decide), lx_dot _ (stop_cons _ (by decide)), lx_blank 32 _ (by decide), lx_open, cutA hm _ (stop_cons _ (by decide)), lx_close, lx_close, lx_nil]
    simp [z0]
  refine told3_of (by simp only [List.length_cons, List.length_append, List.length_nil]; omega) hk (list_end (c2 := 1 + l.size + 1 + m.size) (D := max (dep 1 l) (max 2 (dep 2 m))) (C := 1 + l.size + 1 + m.size) ?_)
  refine row_then2 (.inl rfl) l (each l hl) m false _ [tk 9] 1 1 (1 + l.size + 1 + m.size) (max 2 (dep 2 m)) _ (by omega) (fun e => absurd e hn) (by omega) ?_
  rw [rdf_lst (by decide)]
  unfold lst
  rw [if_neg (by decide), if_neg (by decide), if_pos (show (tk 4).kind = 4 from rfl), if_neg (by decide), rdf_one]
  unfold one
  rw [if_pos (show (tk 1).kind = 1 from rfl), if_neg (by decide)]
  by_cases hc : 10000 < 1 + l.size + 1
  · rw [if_pos hc]; exact .inr (.inr ⟨_, rfl, by omega⟩)
  rw [if_neg hc]
  have hrow := row_tries false (.inl rfl) m (each m hm) 0 2 (1 + l.size + 1) [tk 2, tk 9] (by omega) (fun e => absurd e (by decide))
  rw [kidsK_false] at hrow
  rcases hrow with h | ⟨p, h, h'⟩ | ⟨p, h, h'⟩
  · show Tries ((rdf 1 ((textsK m).flatten ++ [tk 2, tk 2, tk 9]) (1 + 1) (1 + l.size + 1)).list.tail) _ _ _
    rw [h]
    refine .inl ?_
    simp only [Res.list, Res.tail, if_pos (show (tk 2).kind = 2 from rfl), tailOf, if_true]
  · show Tries ((rdf 1 ((textsK m).flatten ++ [tk 2, tk 2, tk 9]) (1 + 1) (1 + l.size + 1)).list.tail) _ _ _
    rw [h]; exact .inr (.inl ⟨p, rfl, by omega⟩)
  · show Tries ((rdf 1 ((textsK m).flatten ++ [tk 2, tk 2, tk 9]) (1 + 1) (1 + l.size + 1)).list.tail) _ _ _
    rw [h]; exact .inr (.inr ⟨p, rfl, by omega⟩)

theorem tails2 {l m : Fo} (hl : allD l = true) (hm : allD m = true) (hn : l ≠ .nil) (hlen : (textA l).length + (textA m).length ≤ 60000) :
    Told3 (40 :: (textA l ++ (10 :: (textA m ++ [41])))) (.cons 5 0 [] (l.app m) false .nil) := by
  have hk : lx (40 :: (textA l ++ (10 :: (textA m ++ [41])))) = z0 (tk 1 :: ((textsK l).flatten ++ ((textsK m).flatten ++ [tk 2, tk 9]))) := by
    rw [lx_open, cutA hl _ (stop_cons _ (by decide)), lx_blank 10 _ (by decide), cutA hm _ (stop_cons _ (by decide)), lx_close, lx_nil]
    simp [z0]
  refine told3_of (by simp only [List.length_cons, List.length_append, List.length_nil]; omega) hk (list_end (c2 := 1 + l.size + m.size) (D := max (dep 1 l) (max (dep 1 m) 0)) (C := 1 + l.size + m.size) ?_)
  refine row_then2 (.inl rfl) l (each l hl) m false _ [tk 9] 1 1 (1 + l.size + m.size) (max (dep 1 m) 0) _ (by omega) (fun e => absurd e hn) (by omega) ?_
  have := row_then2 (.inr rfl) m (each m hm) .nil false [tk 2, tk 9] [tk 9] 1 (1 + l.size) (1 + l.size + m.size) 0 (1 + l.size + m.size) (by omega) (fun _ => rfl) (Nat.le_refl _) (.inl (close_is (.inr rfl) [tk 9] 1 _))
  rw [Fo.app_nil] at this
  exact this

theorem tails3 {k n : Int} {t : List UInt8} {s : Fo} {d : Bool} {r : Fo} (hl : allD (.cons k n t s d r) = true) (hlen : (textA (.cons k n t s d r)).length ≤ 60000) :
    Told3 (39 :: textA (.cons k n t s d r)) (.cons 5 0 [] (.cons 2 0 quoteB .nil false (.cons k n t s d .nil)) false r) := by
  have hk : lx (39 :: textA (.cons k n t s d r)) = z0 (tk 3 :: (oneK k n t s d (textsK s) ++ ((textsK r).flatten ++ [tk 9]))) := by
    have := cutA hl [] stop_nil
    rw [List.append_nil, lx_nil] at this
    rw [lx_quote, this]
    simp [z0, textsK]
  obtain ⟨h1, h2⟩ := each _ hl
  refine told3_of (d := false) (r := []) (c := 0 + 2 + s.size + 1 + r.size) (D := max (max 1 (dep 1 (.cons k n t s d .nil))) (max (dep 0 r) 0)) (C := 0 + 2 + s.size + 1 + r.size) (by simp only [List.length_cons]; omega) hk ?_
  rw [rdf_lst (by decide)]
  unfold lst
  rw [if_pos rfl, if_neg (by decide)]
  unfold more
  rw [rdf_one]
  unfold one
  rw [if_neg (by decide), if_pos (show (tk 3).kind = 3 from rfl), if_neg (by decide), if_neg (by decide)]
  rcases h1 (0 + 1) (0 + 2) ((textsK r).flatten ++ [tk 9]) (by omega) with h | ⟨p, h, h'⟩ | ⟨p, h, h'⟩
  · rw [h]
    simp only [Res.quote, Res.then]
    have := all_then r h2 .nil false [tk 9] [] 0 (0 + 2 + s.size + 1) (by omega) (.inl (end_is [] _ _))
    rw [Fo.app_nil] at this
    rcases this with h3 | ⟨p, h3, h'⟩ | ⟨p, h3, h'⟩
    · rw [h3]; exact .inl rfl
    · rw [h3]; exact .inr (.inl ⟨p, rfl, by simp only [dep] at h' ⊢; omega⟩)
    · rw [h3]; exact .inr (.inr ⟨p, rfl, by simp only [Fo.size] at h' ⊢; omega⟩)
  · rw [h]; exact .inr (.inl ⟨p, rfl, by have h2 : 100 < dep 1 (.cons k n t s d .nil) := h'; omega⟩)
  · rw [h]; exact .inr (.inr ⟨p, rfl, by omega⟩)
end Go.Proofs.YtinpjpcokjfinaaDoor
