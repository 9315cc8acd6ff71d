/- The contract of Tokens: the tokens in a list of its own, or the first error and its place.; Tokens, as a plain contract.; Rows of tokens in memory: read token by token. -/
import Derived.Test.YtkgnigloboajcaaGreatDoorK01
import Derived.Maps.AppendAt
namespace Go.Proofs.YtkgnigloboajcaaGreatDoor
open Go.RowKit Go.Shelf
attribute [local go_sem] Oper.semAt_some
theorem append_full {P:Program} (w:World) (t ty e:TypeId) (i:TypeInfo) (z:Value) (ht:P.underlying t=some (.slice e)) (hi:P.info? e=some i) (hz:i.zero=some z)
  (base g n cap:Nat) (xs:List Value) (hown:w.ownsRow base e i.size (.slice (some ⟨g,0,none⟩) n cap) n xs) (a:Addr) (m c:Nat) (news:List Value) (hl:news.length=m*i.size)
  (hnews:∀j u,news[j]?=some u→w.cell? (a.add j)=some u) (h63:n+m≤maxLen) (hb:(n+m)*i.bytes≤140737488355328) (hfull:cap<n+m) {v' : Value} {w' : World}
  (hrun:(Builtin.append_ #[t,t] ty #[.slice (some ⟨g,0,none⟩) n cap, .slice (some a) m c]).run P w = .ok v' w'):Below w.heap.size w w' := by
 have holds:∀j u,xs[j]?=some u→w.cell? ((⟨g,0,none⟩:Addr).add j)=some u:=hown.cells (g:=g) rfl
 have hr:=run_append_grow (P:=P) w t ty e i z ht hi hz ⟨g,0,none⟩ n cap xs hown.1 holds a m c news hl hnews (by omega) (by simp only [maxLen] at h63;omega) (growslice_fits (by omega) hb)
 rw [hrun] at hr
 cases hr
 exact ((Below.refl _ w).drew).alloc (Nat.le_refl _) _
open Go.RowKit
end Go.Proofs.YtkgnigloboajcaaGreatDoor
