/- Rows of data in memory.; The reader's datum.; The reader's datum: a quote. -/
import Derived.Test.YtkgnigloboajcaaGreatDoorK03
namespace Go.Proofs.YtkgnigloboajcaaGreatDoor
open Go.RowKit
def own1 (v:Value):List Nat:=v.ownBlock.toList
theorem mem_own1 {v:Value} {g:Nat}:g∈own1 v↔v.ownBlock=some g:=by unfold own1;cases v.ownBlock<;>simp [eq_comm]
def Row (w:World) (base:Nat):Fo→List Value→List Nat→Prop
 | .nil,cs,bs=>cs=[]∧bs=[]
 | .cons k n t s d r,cs,bs=>∃kv kcs kbs rcs rbs,cs = .int .u8 k :: .int .i64 n::S t::kv :: .bool d::rcs∧bs=own1 kv++kbs++rbs ∧
   w.ownsRow base 32 5 kv s.len kcs∧Row w base s kcs kbs∧Row w base r rcs rbs
theorem own_same {W W' : World} {b e c n:Nat} {v:Value} {xs:List Value} (h:W.ownsRow b e c v n xs) (hk:∀g,v.ownBlock=some g→W'.heap[g]?=W.heap[g]?):W'.ownsRow b e c v n xs:=by
 refine ⟨h.1,?_⟩
 rcases h.2 with h' | ⟨g,cap,cur,hv,hg,hh,r⟩
 ·exact .inl h'
 ·exact .inr ⟨g,cap,cur,hv,hg,(hk g (by rw [hv];rfl)).trans hh,r⟩
theorem own_mono {W:World} {b b' e c n:Nat} {v:Value} {xs:List Value} (h:W.ownsRow b' e c v n xs) (hb:b≤b'):W.ownsRow b e c v n xs:=by
 refine ⟨h.1,?_⟩
 rcases h.2 with h' | ⟨g,cap,cur,hv,hg,r⟩
 ·exact .inl h'
 ·exact .inr ⟨g,cap,cur,hv,Nat.le_trans hb hg,r⟩
theorem own_slice {W:World} {b e c n:Nat} {v:Value} {xs:List Value} (h:W.ownsRow b e c v n xs):∃ra cap,v = .slice ra n cap:=by
 rcases h.2 with ⟨rfl,h0⟩|⟨g,cap,cur,rfl,_⟩
 ·exact ⟨none,0,by rw [h0]⟩
 ·exact ⟨_,_,rfl⟩
theorem Row.len {w:World} {base:Nat}:∀{f:Fo} {cs:List Value} {bs:List Nat},Row w base f cs bs→cs.length=f.len*5
 | .nil,cs,bs,h=>by rw [h.1];rfl
 | .cons k n t s d r,cs,bs,⟨kv,kcs,kbs,rcs,rbs,hc,_,_,_,hr⟩=>by
  rw [hc];simp [Fo.len,Row.len hr];omega
theorem Row.kept {w w' : World} {base:Nat}:∀{f:Fo} {cs:List Value} {bs:List Nat},Row w base f cs bs→(∀g∈bs,w'.heap[g]?=w.heap[g]?)→Row w' base f cs bs
 | .nil,cs,bs,h,_=>h
 | .cons k n t s d r,cs,bs,⟨kv,kcs,kbs,rcs,rbs,hc,hb,ho,hs,hr⟩,hk =>
  ⟨kv,kcs,kbs,rcs,rbs,hc,hb,own_same ho (fun g hg=>hk g (by rw [hb];simp [mem_own1,hg])),Row.kept hs (fun g hg=>hk g (by rw [hb];simp [hg])),Row.kept hr (fun g hg=>hk g (by rw [hb];simp [hg]))⟩
theorem Row.mono {w:World} {base base' : Nat} (hb' : base' ≤ base):∀{f:Fo} {cs:List Value} {bs:List Nat},Row w base f cs bs→Row w base' f cs bs
 | .nil,_,_,h=>h
 | .cons _ _ _ _ _ _,_,_,⟨kv,kcs,kbs,rcs,rbs,hc,hb,ho,hs,hr⟩=>⟨kv,kcs,kbs,rcs,rbs,hc,hb,own_mono ho hb', Row.mono hb' hs,Row.mono hb' hr⟩
theorem Row.lt {w:World} {base:Nat}:∀{f:Fo} {cs:List Value} {bs:List Nat},Row w base f cs bs→∀g∈bs,base≤g∧g<w.heap.size
 | .nil,cs,bs,h,g,hg=>by rw [h.2] at hg;cases hg
 | .cons k n t s d r,cs,bs,⟨kv,kcs,kbs,rcs,rbs,hc,hb,ho,hs,hr⟩,g,hg=>by
  rw [hb] at hg
  simp only [List.mem_append,mem_own1] at hg
  rcases hg with (hg|hg)|hg
  ·exact ho.lt g hg
  ·exact Row.lt hs g hg
  ·exact Row.lt hr g hg
theorem Row.app {w:World} {base:Nat}:∀{f g:Fo} {cs cs' : List Value} {bs bs' : List Nat},Row w base f cs bs→Row w base g cs' bs' → Row w base (f.app g) (cs++cs') (bs++bs')
 | .nil,g,cs,cs', bs,bs', h,h' => by rw [h.1,h.2];exact h'
 | .cons k n t s d r,g,cs,cs', bs,bs', ⟨kv,kcs,kbs,rcs,rbs,hc,hb,ho,hs,hr⟩,h' =>
  ⟨kv,kcs,kbs,rcs++cs', rbs++bs', by rw [hc];rfl,by rw [hb];simp,ho,hs,Row.app hr h'⟩
theorem Row.one {w:World} {base:Nat}:∀{f:Fo} {cs:List Value} {bs:List Nat},Row w base f cs bs→∀u∈cs,u.oneCell' = true
 | .nil,cs,bs,h,u,hu=>by rw [h.1] at hu;cases hu
 | .cons k n t s d r,cs,bs,⟨kv,kcs,kbs,rcs,rbs,hc,hb,ho,hs,hr⟩,u,hu=>by
  obtain ⟨ra,cap,rfl⟩:=own_slice ho
  rw [hc] at hu
  simp only [List.mem_cons] at hu
  rcases hu with rfl|rfl|rfl|rfl|rfl|hu
  ·rfl
  ·rfl
  ·rfl
  ·rfl
  ·rfl
  ·exact Row.one hr u hu
theorem Row.single {w:World} {base:Nat} {k n:Int} {t:List UInt8} {s:Fo} {d:Bool} {kv:Value} {kcs:List Value} {kbs:List Nat} (ho:w.ownsRow base 32 5 kv s.len kcs) (hs:Row w base s kcs kbs) :
  Row w base (.cons k n t s d .nil) [.int .u8 k, .int .i64 n,S t,kv, .bool d] (own1 kv++kbs):=⟨kv,kcs,kbs,[],[],rfl,by simp,ho,hs,rfl,rfl⟩
structure Tree (w:World) (base:Nat) (v:Value) (f:Fo):Prop where
 ex:∃cs bs,w.ownsRow base 32 5 v f.len cs∧Row w base f cs bs∧(own1 v++bs).Nodup
theorem Tree.nil (w:World) (base:Nat):Tree w base (.slice none 0 0) .nil:=⟨[],[],World.ownsRow_nil _ _ _ _,⟨rfl,rfl⟩,by simp [own1,Value.ownBlock]⟩
theorem Tree.mono {w:World} {base base' : Nat} {v:Value} {f:Fo} (h:Tree w base v f) (hb:base' ≤ base):Tree w base' v f:=by
 obtain ⟨cs,bs,h1,h2,h3⟩:=h.ex
 exact ⟨cs,bs,own_mono h1 hb,h2.mono hb,h3⟩
theorem Tree.kept {w w' : World} {base:Nat} {v:Value} {f:Fo} (h:Tree w base v f) (hk:∀g,base≤g→g<w.heap.size→w'.heap[g]?=w.heap[g]?):Tree w' base v f:=by
 obtain ⟨cs,bs,h1,h2,h3⟩:=h.ex
 exact ⟨cs,bs,own_same h1 (fun g hg=>hk g (h1.lt g hg).1 (h1.lt g hg).2),h2.kept (fun g hg=>hk g (h2.lt g hg).1 (h2.lt g hg).2),h3⟩
theorem Tree.slice {w:World} {base:Nat} {v:Value} {f:Fo} (h:Tree w base v f):∃ra cap,v = .slice ra f.len cap:=by
 obtain ⟨cs,bs,h1,_⟩:=h.ex
 exact own_slice h1
structure ButB (B rb:Nat) (w w' : World):Prop where
 os:w'.os=w.os
 tape:w'.tape=w.tape
 output:w'.output=w.output
 size:w.heap.size≤w'.heap.size
 block:∀g,g<B→g≠rb→w'.heap[g]?=w.heap[g]?
theorem ButB.trans {B rb:Nat} {a b c:World} (h:ButB B rb a b) (k:ButB B rb b c):ButB B rb a c :=
 ⟨k.os.trans h.os,k.tape.trans h.tape,k.output.trans h.output,Nat.le_trans h.size k.size,fun g hg hne=>(k.block g hg hne).trans (h.block g hg hne)⟩
def five (b:Nat) (W:World) (v0 v1 v2 v3 v4:Value):World:=((((W.setCell ⟨b,0,none⟩ v0).setCell ⟨b,1,none⟩ v1).setCell ⟨b,2,none⟩ v2).setCell ⟨b,3,none⟩ v3).setCell ⟨b,4,none⟩ v4
theorem five_at {W:World} {b:Nat} {a0 a1 a2 a3 a4:Value} {t:TypeId} (h:W.heap[b]?=some (.cells #[a0,a1,a2,a3,a4] t (0,0))) (v0 v1 v2 v3 v4:Value) :
  (five b W v0 v1 v2 v3 v4).heap[b]?=some (.cells #[v0,v1,v2,v3,v4] t (0,0)):=set_at (set_at (set_at (set_at (set_at h v0) v1) v2) v3) v4
theorem five_other {W:World} {b g:Nat} (hg:g≠b) (v0 v1 v2 v3 v4:Value):(five b W v0 v1 v2 v3 v4).heap[g]?=W.heap[g]?:=by
 unfold five
 rw [Below.heap_setCell _ _ _ _ hg,Below.heap_setCell _ _ _ _ hg,Below.heap_setCell _ _ _ _ hg,Below.heap_setCell _ _ _ _ hg,Below.heap_setCell _ _ _ _ hg]
theorem cells5 {W:World} {b:Nat} {a0 a1 a2 a3 a4:Value} {t:TypeId} (h:W.heap[b]?=some (.cells #[a0,a1,a2,a3,a4] t (0,0))) :
  W.cell? ⟨b,0,none⟩=some a0∧W.cell? ⟨b,1,none⟩=some a1∧W.cell? ⟨b,2,none⟩=some a2∧W.cell? ⟨b,3,none⟩=some a3∧W.cell? ⟨b,4,none⟩=some a4∧∀j,W.frozen? ⟨b,j,none⟩=false:=by
 refine ⟨?_,?_,?_,?_,?_,fun j=>?_⟩<;>simp [World.cell?,World.frozen?,h]
abbrev Z5:Obj := .cells #[.int .u8 0, .int .i64 0, .string ⟨#[]⟩, .slice none 0 0, .bool false] 32
end Go.Proofs.YtkgnigloboajcaaGreatDoor
