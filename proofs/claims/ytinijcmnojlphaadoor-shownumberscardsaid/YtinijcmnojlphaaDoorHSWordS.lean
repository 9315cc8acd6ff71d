/- A step of word: from less fuel to more. -/
import Derived.Test.YtinijcmnojlphaaDoorHSWordC
namespace Go.Proofs.YtinijcmnojlphaaDoor
open Go.RowKit Go.Maps Go.ChangeMaps

/-- What is asked of what is seen. -/
structure EnvOk (E : Env) : Prop where
  mb : E.B ≤ E.mb
  len : E.X.length ≤ 1000000
  kd : ∀ (c : Nat) (y : Cl), E.X[c]? = some y → Kd y
  pair : ∀ (c : Nat) (y : Cl), E.X[c]? = some y → y.k = 1 → Gd E.X E.N y.a ∧ Gd E.X E.N y.b
  box : ∀ (c : Nat) (y : Cl), E.X[c]? = some y → y.k = 2 → Gd E.X E.N y.a
  proc : ∀ (c : Nat) (y : Cl), E.X[c]? = some y → y.k = 3 → Gd E.X E.N y.b ∧ Rng y.a
theorem word_step (E : Env) (hE : EnvOk E) (fu : Nat) (IW : CallC E fu true 15) (IT : CallC E fu false 32) : CallC E (fu + 1) true 15 := by
  intro f k x r l n w ht hg hL h hR hB hlen hk hn
  unfold tell at ht
  split at ht
  · rename_i hr
    cases ht
    exact word_plain E f k x l n w hr hg hL h hR hB hlen
  · rename_i c hr
    split at ht
    · rename_i hcm
      cases ht
      exact word_came E f k c x l n w hr hg hL h hR hB hcm.1 hcm.2 (by omega)
    · rename_i hcm
      split at ht
      · cases ht
      · rename_i y hy
        split at ht
        · rename_i hyk
          obtain ⟨r1, h1, h2⟩ := Option.bind_eq_some_iff.1 ht
          obtain ⟨r2, h3, h4⟩ := Option.bind_eq_some_iff.1 h2
          cases h4
          exact word_pair E fu IW IT f k c y x l n w r1 r2 hr hg hy hyk (hE.pair c y hy hyk) hL h hR hB hE.mb hE.len hcm h1 h3 hlen hk hn
        · rename_i hy1
          split at ht
          · rename_i hyk
            obtain ⟨r1, h1, h2⟩ := Option.bind_eq_some_iff.1 ht
            cases h2
            exact word_box E fu IW f k c y x l n w r1 hr hg hy hyk (hE.box c y hy hyk) hL h hR hB hE.mb hE.len hcm h1 hlen hk hn
          · rename_i hy2
            have hyk : y.k = 3 := by rcases hE.kd c y hy with h | h | h <;> omega
            obtain ⟨r1, h1, h2⟩ := Option.bind_eq_some_iff.1 ht
            cases h2
            exact word_proc E fu IW f k c y x l n w r1 hr hg hy hyk (hE.proc c y hy hyk) hL h hR hB hE.mb hE.len hcm h1 hlen hk hn
end Go.Proofs.YtinijcmnojlphaaDoor
