/- keyword, Prim, and what stands on them.; How forms, and the parser, lie in memory.; The parser: where it is; how it gives up. -/
import Derived.Test.YtkgnigloboajcaaGreatDoorK06
import Derived.Test.YtkgnigloboajcaaGreatDoorK17
import Derived.BigQuiet
import Derived.Maps.Own
import Derived.Maps.Views
import Derived.StringKeys
import Derived.Deep.AppendLies
import Derived.Laws.AppendOwnNone
set_option maxRecDepth 100000
set_option maxHeartbeats 4000000
namespace Go.Proofs.YtkgnigloboajcaaGreatDoor
open Go.RowKit
def PL (w:World):Prop:=∀j:Nat,j<22→w.cell? ⟨0,(j+1)*2,none⟩=some (S (primL.getD j ([],0)).1)∧w.cell? ⟨0,(j+1)*2+1,none⟩=some (.int .i64 (primL.getD j ([],0)).2)
def SL (w:World):Prop:=∀j:Nat,j<15→w.cell? ⟨1,(j+1)*4,none⟩=some (S (shpL.getD j ([],0,0,0)).1)∧w.cell? ⟨1,(j+1)*4+1,none⟩=some (.int .i64 (shpL.getD j ([],0,0,0)).2.1) ∧
 w.cell? ⟨1,(j+1)*4+2,none⟩=some (.int .i64 (shpL.getD j ([],0,0,0)).2.2.1)∧w.cell? ⟨1,(j+1)*4+3,none⟩=some (.int .i64 (shpL.getD j ([],0,0,0)).2.2.2)
theorem below_drewN {n:Nat} {w0 w:World} (h:Below n w0 w) (k:Nat):Below n w0 (w.drewN k):=h.trans ⟨rfl,rfl,rfl,Nat.le_refl _,fun _ _=>rfl⟩
theorem cell_lt {w:World} {g o:Nat} {v:Value} (h:w.cell? ⟨g,o,none⟩=some v):g<w.heap.size:=by
 rcases Nat.lt_or_ge g w.heap.size with h' | h'
 ·exact h'
 ·simp [World.cell?,Array.getElem?_eq_none h'] at h
theorem PL.lt {w:World} (h:PL w):0<w.heap.size:=cell_lt (h 0 (by decide)).1
theorem SL.lt {w:World} (h:SL w):1<w.heap.size:=cell_lt (h 0 (by decide)).1
theorem PL.kept {w w' : World} (h:PL w) (hb:w'.heap[0]?=w.heap[0]?):PL w' := by
 intro j hj
 have e:∀o,w'.cell? ⟨0,o,none⟩=w.cell? ⟨0,o,none⟩:=fun o=>by simp only [World.cell?,hb]
 rw [e,e];exact h j hj
theorem SL.kept {w w' : World} (h:SL w) (hb:w'.heap[1]?=w.heap[1]?):SL w' := by
 intro j hj
 have e:∀o,w'.cell? ⟨1,o,none⟩=w.cell? ⟨1,o,none⟩:=fun o=>by simp only [World.cell?,hb]
 rw [e,e,e,e];exact h j hj
theorem kwOf_at {s:List UInt8} {j:Nat} (hs:s≠[]) (h1:(shpL.getD j ([],0,0,0)).1=s) (hj:j<15) (h2:∀i,i<j→(shpL.getD i ([],0,0,0)).1≠s):kwOf s=some (j+1):=by
 unfold kwOf
 rw [if_neg hs]
 have:shpL.findIdx? (fun x=>x.1 == s)=some j:=by
  rw [List.findIdx?_eq_some_iff_getElem]
  have hl:shpL.length=15:=rfl
  refine ⟨by omega,?_,fun i hi=>?_⟩
  ·have:=h1;rw [List.getD_eq_getElem?_getD,List.getElem?_eq_getElem (by omega)] at this;simpa using this
  ·have:=h2 i hi;rw [List.getD_eq_getElem?_getD,List.getElem?_eq_getElem (by omega)] at this;simpa using this
 rw [this];rfl
theorem kwOf_none {s:List UInt8} (h2:∀i,i<15→(shpL.getD i ([],0,0,0)).1≠s):kwOf s=none:=by
 unfold kwOf
 split
 ·rfl
 ·have:shpL.findIdx? (fun x=>x.1 == s)=none:=by
   rw [List.findIdx?_eq_none_iff]
   intro x hx
   obtain ⟨i,hi,rfl⟩:=List.getElem_of_mem hx
   have hl:shpL.length=15:=rfl
   have:=h2 i (by omega);rw [List.getD_eq_getElem?_getD,List.getElem?_eq_getElem hi] at this;simpa using this
  rw [this];rfl
theorem primOf_at {s:List UInt8} {j:Nat} (h1:(primL.getD j ([],0)).1=s) (hj:j<22) (h2:∀i,i<j→(primL.getD i ([],0)).1≠s):primOf s=some (j+1):=by
 unfold primOf
 have:primL.findIdx? (fun x=>x.1 == s)=some j:=by
  rw [List.findIdx?_eq_some_iff_getElem]
  have hl:primL.length=22:=rfl
  refine ⟨by omega,?_,fun i hi=>?_⟩
  ·have:=h1;rw [List.getD_eq_getElem?_getD,List.getElem?_eq_getElem (by omega)] at this;simpa using this
  ·have:=h2 i hi;rw [List.getD_eq_getElem?_getD,List.getElem?_eq_getElem (by omega)] at this;simpa using this
 rw [this];rfl
theorem primOf_none {s:List UInt8} (h2:∀i,i<22→(primL.getD i ([],0)).1≠s):primOf s=none:=by
 unfold primOf
 have:primL.findIdx? (fun x=>x.1 == s)=none:=by
  rw [List.findIdx?_eq_none_iff]
  intro x hx
  obtain ⟨i,hi,rfl⟩:=List.getElem_of_mem hx
  have hl:primL.length=22:=rfl
  have:=h2 i (by omega);rw [List.getD_eq_getElem?_getD,List.getElem?_eq_getElem hi] at this;simpa using this
 rw [this];rfl
def kwV (o:Option Nat):Value:=match o with|some k => .tuple #[.int .u8 k, .bool true]|none => .tuple #[.int .u8 0, .bool false]
def primV (o:Option Nat):Value:=match o with|some p => .tuple #[.int .u8 p, .int .i64 (argsOf p), .bool true]|none => .tuple #[.int .u8 0, .int .i64 0, .bool false]
theorem keyword_any (s:List UInt8) (w:World) (hs:s.length≤maxLen) (hT:SL w) :
  Calls Tryz.prog 147 #[S s] w fun e w' => e = .returned (kwV (kwOf s))∧Below w.heap.size w w' := by
 have HT:Hid (SL w):=hT
 clear hT
 by_cases h0:s=[]
 ·subst h0
  have HK:Hid (kwOf []=none):=rfl
  go_enter Tryz.func147,Tryz.ntmps147
  go_wp2
  go_loopw [4] (fun v wr=>v = .int .u8 1∧wr=w) (fun _ _=>0)
  case atStart=>exact ⟨rfl,rfl⟩
  case round =>
   obtain ⟨rfl,rfl⟩:=hrel
   go_wp2
   go_ret2
   exact ⟨by rw [HK.out];rfl,Below.refl _ _⟩
 ·have h1:s.isEmpty=false:=by simpa using h0
  have H0:Hid (s≠[]):=h0
  clear h0
  go_enter Tryz.func147,Tryz.ntmps147
  go_wp2
  go_loopw [4] (fun v wr=>∃j:Nat,v = .int .u8 (j+1:Nat)∧j≤15∧Hid (∀i,i<j→(shpL.getD i ([],0,0,0)).1≠s)∧wr=w) (fun v _=>16-(intOf v).toNat)
  case atStart=>exact ⟨0,rfl,by omega,fun i hi=>absurd hi (by omega),rfl⟩
  case round =>
   obtain ⟨j,rfl,hj,HN,rfl⟩:=hrel
   by_cases hlt:j<15
   ·have k1:(j:Int)+1≤15:=by omega
    obtain ⟨c0,_,_,_⟩:=HT.out j hlt
    obtain ⟨x,hx⟩:∃x,(shpL.getD j ([],0,0,0)).1=x:=⟨_,rfl⟩
    rw [hx] at c0
    have HX:Hid _:=hx
    by_cases he:x=s
    ·subst he
     have HK:Hid (kwOf x=some (j+1)):=kwOf_at H0.out HX.out hlt HN.out
     clear hx
     go_wp2
     go_ret2
     exact ⟨by rw [HK.out];rfl,Below.refl _ _⟩
    ·have h2:(x == s)=false:=beq_eq_false_iff_ne.2 he
     have HN2:Hid (∀i,i<j+1→(shpL.getD i ([],0,0,0)).1≠s):=fun i hi=>by
      rcases Nat.lt_or_ge i j with h|h
      ·exact HN.out i h
      ·obtain rfl:i=j:=by omega
       rw [HX.out];exact he
     clear he hx
     go_wp2
     go_roundw
     case rel=>exact ⟨j+1,by go_num,by omega,HN2,trivial⟩
     case measure=>simp [intOf];omega
   ·have k1:¬ (j:Int)+1≤15:=by omega
    have HK:Hid (kwOf s=none):=kwOf_none (fun i hi=>HN.out i (by omega))
    go_wp2
    go_ret2
    exact ⟨by rw [HK.out];rfl,Below.refl _ _⟩
theorem prim_any (s:List UInt8) (w:World) (hs:s.length≤maxLen) (hT:PL w) :
  Calls Tryz.prog 10 #[S s] w fun e w' => e = .returned (primV (primOf s))∧Below w.heap.size w w' := by
 have HT:Hid (PL w):=hT
 clear hT
 go_enter Tryz.func10,Tryz.ntmps10
 go_wp2
 go_loopw [5] (fun v wr=>∃j:Nat,v = .int .u8 (j+1:Nat)∧j≤22∧Hid (∀i,i<j→(primL.getD i ([],0)).1≠s)∧wr=w) (fun v _=>23-(intOf v).toNat)
 case atStart=>exact ⟨0,rfl,by omega,fun i hi=>absurd hi (by omega),rfl⟩
 case round =>
  obtain ⟨j,rfl,hj,HN,rfl⟩:=hrel
  by_cases hlt:j<22
  ·have k1:(j:Int)+1≤22:=by omega
   obtain ⟨c0,c1⟩:=HT.out j hlt
   obtain ⟨x,hx⟩:∃x,(primL.getD j ([],0)).1=x:=⟨_,rfl⟩
   obtain ⟨y,hy⟩:∃y,(primL.getD j ([],0)).2=y:=⟨_,rfl⟩
   rw [hx] at c0
   rw [hy] at c1
   have HX:Hid _:=hx
   have HY:Hid _:=hy
   by_cases he:x=s
   ·subst he
    have HK:Hid (primOf x=some (j+1)):=primOf_at HX.out hlt HN.out
    clear hx hy
    go_wp2_with fail
    go_quiet (fail)
    go_wp2
    go_ret3
    refine ⟨?_,below_drewN (Below.refl _ _) _⟩
    rw [HK.out]
    have hy2:=HY.out
    rw [List.getD_eq_getElem?_getD] at hy2
    simp [primV,argsOf,hy2]
   ·have h2:(x == s)=false:=beq_eq_false_iff_ne.2 he
    have HN2:Hid (∀i,i<j+1→(primL.getD i ([],0)).1≠s):=fun i hi=>by
     rcases Nat.lt_or_ge i j with h|h
     ·exact HN.out i h
     ·obtain rfl:i=j:=by omega
      rw [HX.out];exact he
    clear he hx hy
    go_wp2
    go_roundw
    case rel=>exact ⟨j+1,by go_num,by omega,HN2,trivial⟩
    case measure=>simp [intOf];omega
  ·have k1:¬ (j:Int)+1≤22:=by omega
   have HK:Hid (primOf s=none):=primOf_none (fun i hi=>HN.out i (by omega))
   go_wp2
   go_ret3
   exact ⟨by rw [HK.out];rfl,Below.refl _ _⟩
def IntB (w:World) (g:Nat):Prop:=∃cur fr,w.heap[g]?=some (.cells cur 3 fr)
structure KP (B:Nat) (X:Nat→Prop) (w w' : World):Prop where
 os:w'.os=w.os
 tape:w'.tape=w.tape
 output:w'.output=w.output
 size:w.heap.size≤w'.heap.size
 block:∀g,g<w.heap.size→¬ X g→(g<B∨¬ IntB w g)→w'.heap[g]?=w.heap[g]?
theorem KP.refl (B:Nat) (X:Nat→Prop) (w:World):KP B X w w:=⟨rfl,rfl,rfl,Nat.le_refl _,fun _ _ _ _=>rfl⟩
theorem KP.trans {B:Nat} {X:Nat→Prop} {a b c:World} (h:KP B X a b) (k:KP B X b c):KP B X a c :=
 ⟨k.os.trans h.os,k.tape.trans h.tape,k.output.trans h.output,Nat.le_trans h.size k.size,fun g hg hx hi=>by
  have e:=h.block g hg hx hi
  exact (k.block g (Nat.lt_of_lt_of_le hg h.size) hx (hi.imp id (fun hn hi2=>hn (by obtain ⟨c,f,q⟩:=hi2;exact ⟨c,f,e.symm.trans q⟩)))).trans e⟩
theorem KP.of {B:Nat} {X:Nat→Prop} {a b:World} (h:Below a.heap.size a b):KP B X a b:=⟨h.os,h.tape,h.output,h.size,fun g hg _ _=>h.block g hg⟩
theorem KP.mono {B:Nat} {X Y:Nat→Prop} {a b:World} (h:KP B X a b) (hx:∀g,g<a.heap.size→X g→Y g):KP B Y a b:=⟨h.os,h.tape,h.output,h.size,fun g hg hn hi=>h.block g hg (fun h=>hn (hx g hg h)) hi⟩
theorem KP.below {B C:Nat} {X:Nat→Prop} {a b:World} (h:KP B X a b) (hC:C≤B) (hs:C≤a.heap.size) (hx:∀g,X g→C≤g):Below C a b:=⟨h.os,h.tape,h.output,h.size,fun g hg=>h.block g (by omega) (fun h' => by have:=hx g h'; omega) (.inl (by omega))⟩
theorem KP.at {B:Nat} {X:Nat→Prop} {a b:World} (h:KP B X a b) {g:Nat} {cs:Array Value} {e:TypeId} {fr:Nat × Nat} (hc:a.heap[g]?=some (.cells cs e fr)) (he:e≠3) (hx:¬ X g):b.heap[g]?=some (.cells cs e fr) :=
 (h.block g (Array.getElem?_eq_some_iff.1 hc).1 hx (.inr (by rintro ⟨c,f,q⟩;rw [hc] at q;cases q;exact he rfl))).trans hc
theorem KP.own {B:Nat} {X:Nat→Prop} {a b:World} (h:KP B X a b) {base e sz n:Nat} {v:Value} {xs:List Value} (ho:a.ownsRow base e sz v n xs) (he:e≠3) (hx:∀g,v.ownBlock=some g→¬ X g):b.ownsRow base e sz v n xs:=by
 refine ⟨ho.1,?_⟩
 rcases ho.2 with h' | ⟨g,cap,cur,hv,hg,hh,r⟩
 ·exact .inl h'
 ·exact .inr ⟨g,cap,cur,hv,hg,h.at hh he (hx g (by rw [hv];rfl)),r⟩
def FRow (w:World) (base:Nat):Fm→List Value→List Nat→Prop
 | .nil,cs,bs=>cs=[]∧bs=[]
 | .cons k t ns ks dk dn dt ds dd r,cs,bs=>∃nv kv dv kcs kbs dcs dbs rcs rbs,cs = .int .u8 k::S t::nv::kv :: .int .u8 dk :: .int .i64 dn::S dt::dv :: .bool dd::rcs∧bs=own1 nv++(own1 kv++kbs)++(own1 dv++dbs)++rbs ∧
   w.ownsRow base 9 1 nv ns.length (ns.map S)∧(w.ownsRow base 36 9 kv ks.len kcs∧FRow w base ks kcs kbs)∧(w.ownsRow base 32 5 dv ds.len dcs∧Row w base ds dcs dbs)∧FRow w base r rcs rbs
theorem FRow.len {w:World} {base:Nat}:∀{f:Fm} {cs:List Value} {bs:List Nat},FRow w base f cs bs→cs.length=f.len*9
 | .nil,cs,bs,h=>by rw [h.1];rfl
 | .cons k t ns ks dk dn dt ds dd r,cs,bs,⟨nv,kv,dv,kcs,kbs,dcs,dbs,rcs,rbs,hc,_,_,_,_,hr⟩=>by
  rw [hc];simp [Fm.len,FRow.len hr];omega
theorem FRow.kept {w w' : World} {base:Nat}:∀{f:Fm} {cs:List Value} {bs:List Nat},FRow w base f cs bs→(∀g∈bs,w'.heap[g]?=w.heap[g]?)→FRow w' base f cs bs
 | .nil,cs,bs,h,_=>h
 | .cons k t ns ks dk dn dt ds dd r,cs,bs,⟨nv,kv,dv,kcs,kbs,dcs,dbs,rcs,rbs,hc,hb,h1,⟨h2,h3⟩,⟨h4,h5⟩,hr⟩,hk =>
  ⟨nv,kv,dv,kcs,kbs,dcs,dbs,rcs,rbs,hc,hb,own_same h1 (fun g hg=>hk g (by rw [hb];simp [mem_own1,hg])),⟨own_same h2 (fun g hg=>hk g (by rw [hb];simp [mem_own1,hg])),FRow.kept h3 (fun g hg=>hk g (by rw [hb];simp [hg]))⟩,
   ⟨own_same h4 (fun g hg=>hk g (by rw [hb];simp [mem_own1,hg])),h5.kept (fun g hg=>hk g (by rw [hb];simp [hg]))⟩,FRow.kept hr (fun g hg=>hk g (by rw [hb];simp [hg]))⟩
theorem FRow.mono {w:World} {base base' : Nat} (hb' : base' ≤ base):∀{f:Fm} {cs:List Value} {bs:List Nat},FRow w base f cs bs→FRow w base' f cs bs
 | .nil,_,_,h=>h
 | .cons _ _ _ _ _ _ _ _ _ _,_,_,⟨nv,kv,dv,kcs,kbs,dcs,dbs,rcs,rbs,hc,hb,h1,⟨h2,h3⟩,⟨h4,h5⟩,hr⟩=>⟨nv,kv,dv,kcs,kbs,dcs,dbs,rcs,rbs,hc,hb,own_mono h1 hb', ⟨own_mono h2 hb', FRow.mono hb' h3⟩,⟨own_mono h4 hb', h5.mono hb'⟩,FRow.mono hb' hr⟩
theorem FRow.lt {w:World} {base:Nat}:∀{f:Fm} {cs:List Value} {bs:List Nat},FRow w base f cs bs→∀g∈bs,base≤g∧g<w.heap.size
 | .nil,cs,bs,h,g,hg=>by rw [h.2] at hg;cases hg
 | .cons k t ns ks dk dn dt ds dd r,cs,bs,⟨nv,kv,dv,kcs,kbs,dcs,dbs,rcs,rbs,hc,hb,h1,⟨h2,h3⟩,⟨h4,h5⟩,hr⟩,g,hg=>by
  rw [hb] at hg
  simp only [List.mem_append,mem_own1] at hg
  rcases hg with ((hg|hg|hg)|hg|hg)|hg
  ·exact h1.lt g hg
  ·exact h2.lt g hg
  ·exact FRow.lt h3 g hg
  ·exact h4.lt g hg
  ·exact h5.lt g hg
  ·exact FRow.lt hr g hg
theorem own_not {w:World} {base e sz n:Nat} {v:Value} {xs:List Value} (ho:w.ownsRow base e sz v n xs) (he:e≠3) {g:Nat} (hg:v.ownBlock=some g):¬ IntB w g:=by
 rcases ho.2 with ⟨h', _⟩|⟨g', cap,cur,hv,_,hh,_⟩
 ·subst h'; cases hg
 ·subst hv;cases hg
  rintro ⟨c,f,q⟩;rw [hh] at q;cases q;exact he rfl
theorem Row.not {w:World} {base:Nat}:∀{f:Fo} {cs:List Value} {bs:List Nat},Row w base f cs bs→∀g∈bs,¬ IntB w g
 | .nil,cs,bs,h,g,hg=>by rw [h.2] at hg;cases hg
 | .cons k n t s d r,cs,bs,⟨kv,kcs,kbs,rcs,rbs,hc,hb,ho,hs,hr⟩,g,hg=>by
  rw [hb] at hg
  simp only [List.mem_append,mem_own1] at hg
  rcases hg with (hg|hg)|hg
  ·exact own_not ho (by decide) hg
  ·exact Row.not hs g hg
  ·exact Row.not hr g hg
theorem FRow.not {w:World} {base:Nat}:∀{f:Fm} {cs:List Value} {bs:List Nat},FRow w base f cs bs→∀g∈bs,¬ IntB w g
 | .nil,cs,bs,h,g,hg=>by rw [h.2] at hg;cases hg
 | .cons k t ns ks dk dn dt ds dd r,cs,bs,⟨nv,kv,dv,kcs,kbs,dcs,dbs,rcs,rbs,hc,hb,h1,⟨h2,h3⟩,⟨h4,h5⟩,hr⟩,g,hg=>by
  rw [hb] at hg
  simp only [List.mem_append,mem_own1] at hg
  rcases hg with ((hg|hg|hg)|hg|hg)|hg
  ·exact own_not h1 (by decide) hg
  ·exact own_not h2 (by decide) hg
  ·exact FRow.not h3 g hg
  ·exact own_not h4 (by decide) hg
  ·exact Row.not h5 g hg
  ·exact FRow.not hr g hg
theorem FRow.app {w:World} {base:Nat}:∀{f g:Fm} {cs cs' : List Value} {bs bs' : List Nat},FRow w base f cs bs→FRow w base g cs' bs' → FRow w base (f.app g) (cs++cs') (bs++bs')
 | .nil,g,cs,cs', bs,bs', h,h' => by rw [h.1,h.2];exact h'
 | .cons k t ns ks dk dn dt ds dd r,g,cs,cs', bs,bs', ⟨nv,kv,dv,kcs,kbs,dcs,dbs,rcs,rbs,hc,hb,h1,h2,h3,hr⟩,h' =>
  ⟨nv,kv,dv,kcs,kbs,dcs,dbs,rcs++cs', rbs++bs', by rw [hc];rfl,by rw [hb];simp,h1,h2,h3,FRow.app hr h'⟩
theorem FRow.one {w:World} {base:Nat}:∀{f:Fm} {cs:List Value} {bs:List Nat},FRow w base f cs bs→∀u∈cs,u.oneCell' = true
 | .nil,cs,bs,h,u,hu=>by rw [h.1] at hu;cases hu
 | .cons k t ns ks dk dn dt ds dd r,cs,bs,⟨nv,kv,dv,kcs,kbs,dcs,dbs,rcs,rbs,hc,hb,h1,⟨h2,h3⟩,⟨h4,h5⟩,hr⟩,u,hu=>by
  obtain ⟨ra,cap,rfl⟩:=own_slice h1
  obtain ⟨ra2,cap2,rfl⟩:=own_slice h2
  obtain ⟨ra3,cap3,rfl⟩:=own_slice h4
  rw [hc] at hu
  simp only [List.mem_cons] at hu
  rcases hu with rfl|rfl|rfl|rfl|rfl|rfl|rfl|rfl|rfl|hu
  all_goals first|rfl|exact FRow.one hr u hu
structure FTree (w:World) (base:Nat) (v:Value) (f:Fm):Prop where
 ex:∃cs bs,w.ownsRow base 36 9 v f.len cs∧FRow w base f cs bs∧(own1 v++bs).Nodup
theorem FTree.nil (w:World) (base:Nat):FTree w base (.slice none 0 0) .nil:=⟨[],[],World.ownsRow_nil _ _ _ _,⟨rfl,rfl⟩,by simp [own1,Value.ownBlock]⟩
theorem FTree.mono {w:World} {base base' : Nat} {v:Value} {f:Fm} (h:FTree w base v f) (hb:base' ≤ base):FTree w base' v f:=by
 obtain ⟨cs,bs,h1,h2,h3⟩:=h.ex
 exact ⟨cs,bs,own_mono h1 hb,h2.mono hb,h3⟩
theorem FTree.slice {w:World} {base:Nat} {v:Value} {f:Fm} (h:FTree w base v f):∃ra cap,v = .slice ra f.len cap:=by
 obtain ⟨cs,bs,h1,_⟩:=h.ex
 exact own_slice h1
theorem FTree.keep {B:Nat} {X:Nat→Prop} {w w' : World} {base:Nat} {v:Value} {f:Fm} (h:FTree w base v f) (k:KP B X w w') (hx:∀g,base≤g→g<w.heap.size→¬ X g):FTree w' base v f:=by
 obtain ⟨cs,bs,h1,h2,h3⟩:=h.ex
 exact ⟨cs,bs,k.own h1 (by decide) (fun g hg=>hx g (h1.lt g hg).1 (h1.lt g hg).2),h2.kept (fun g hg=>k.block g (h2.lt g hg).2 (hx g (h2.lt g hg).1 (h2.lt g hg).2) (.inr (h2.not g hg))),h3⟩
abbrev datV (x:Dt) (v:Value):Value := .agg #[.int .u8 x.k, .int .i64 x.n,S x.t,v, .bool x.d]
abbrev frmV (x:Frm) (nv kv dv:Value):Value := .agg #[.int .u8 x.kind,S x.text,nv,kv, .int .u8 x.dat.k, .int .i64 x.dat.n,S x.dat.t,dv, .bool x.dat.d]
structure FOne (w:World) (base:Nat) (x:Frm) (nv kv dv:Value) (bs:List Nat):Prop where
 row:∃kcs kbs dcs dbs,bs=own1 nv++(own1 kv++kbs)++(own1 dv++dbs)∧w.ownsRow base 9 1 nv x.names.length (x.names.map S)∧(w.ownsRow base 36 9 kv x.kids.len kcs∧FRow w base x.kids kcs kbs)∧(w.ownsRow base 32 5 dv x.dat.s.len dcs∧Row w base x.dat.s dcs dbs)
 nodup:bs.Nodup
theorem FOne.fm {w:World} {base:Nat} {x:Frm} {nv kv dv:Value} {bs:List Nat} (h:FOne w base x nv kv dv bs) :
  FRow w base (x.fm .nil) [.int .u8 x.kind,S x.text,nv,kv, .int .u8 x.dat.k, .int .i64 x.dat.n,S x.dat.t,dv, .bool x.dat.d] bs:=by
 obtain ⟨kcs,kbs,dcs,dbs,hb,h1,h2,h3⟩:=h.row
 exact ⟨nv,kv,dv,kcs,kbs,dcs,dbs,[],[],rfl,by rw [hb];simp,h1,h2,h3,rfl,rfl⟩
theorem FOne.lt {w:World} {base:Nat} {x:Frm} {nv kv dv:Value} {bs:List Nat} (h:FOne w base x nv kv dv bs):∀g∈bs,base≤g∧g<w.heap.size:=h.fm.lt
theorem FOne.slices {w:World} {base:Nat} {x:Frm} {nv kv dv:Value} {bs:List Nat} (h:FOne w base x nv kv dv bs):∃a1 c1 a2 c2 a3 c3,nv = .slice a1 x.names.length c1∧kv = .slice a2 x.kids.len c2∧dv = .slice a3 x.dat.s.len c3:=by
 obtain ⟨kcs,kbs,dcs,dbs,_,h1,h2,h3⟩:=h.row
 obtain ⟨a1,c1,e1⟩:=own_slice h1
 obtain ⟨a2,c2,e2⟩:=own_slice h2.1
 obtain ⟨a3,c3,e3⟩:=own_slice h3.1
 exact ⟨a1,c1,a2,c2,a3,c3,e1,e2,e3⟩
theorem FOne.mono {w:World} {base base' : Nat} {x:Frm} {nv kv dv:Value} {bs:List Nat} (h:FOne w base x nv kv dv bs) (hb:base' ≤ base):FOne w base' x nv kv dv bs:=by
 obtain ⟨kcs,kbs,dcs,dbs,he,h1,h2,h3⟩:=h.row
 exact ⟨⟨kcs,kbs,dcs,dbs,he,own_mono h1 hb,⟨own_mono h2.1 hb,h2.2.mono hb⟩,⟨own_mono h3.1 hb,h3.2.mono hb⟩⟩,h.nodup⟩
theorem FOne.kept {w w' : World} {base:Nat} {x:Frm} {nv kv dv:Value} {bs:List Nat} (h:FOne w base x nv kv dv bs) (hk:∀g∈bs,w'.heap[g]?=w.heap[g]?):FOne w' base x nv kv dv bs:=by
 obtain ⟨kcs,kbs,dcs,dbs,hb,h1,⟨h2,h3⟩,⟨h4,h5⟩⟩:=h.row
 exact ⟨⟨kcs,kbs,dcs,dbs,hb,own_same h1 (fun g hg=>hk g (by rw [hb];simp [mem_own1,hg])),⟨own_same h2 (fun g hg=>hk g (by rw [hb];simp [mem_own1,hg])),h3.kept (fun g hg=>hk g (by rw [hb];simp [hg]))⟩,
   ⟨own_same h4 (fun g hg=>hk g (by rw [hb];simp [mem_own1,hg])),h5.kept (fun g hg=>hk g (by rw [hb];simp [hg]))⟩⟩,h.nodup⟩
theorem FOne.keep {B:Nat} {X:Nat→Prop} {w w' : World} {base:Nat} {x:Frm} {nv kv dv:Value} {bs:List Nat} (h:FOne w base x nv kv dv bs) (k:KP B X w w') (hx:∀g,base≤g→g<w.heap.size→¬ X g):FOne w' base x nv kv dv bs :=
 h.kept fun g hg=>k.block g (h.lt g hg).2 (hx g (h.lt g hg).1 (h.lt g hg).2) (.inr (h.fm.not g hg))
theorem own1_nil:own1 (.slice none 0 0)=[]:=by simp [own1,Value.ownBlock]
theorem own1_nodup (v:Value):(own1 v).Nodup:=by unfold own1;cases v.ownBlock<;>simp
theorem nodup_cut {l m:List Nat} {c:Nat} (hl:l.Nodup) (hm:m.Nodup) (h1:∀g∈l,g<c) (h2:∀g∈m,c≤g):(l++m).Nodup:=by
 rw [List.nodup_append]
 exact ⟨hl,hm,fun a ha b hb e=>by have:=h1 a ha;have:=h2 b hb;omega⟩
open Go.RowKit Go.Maps Go.ChangeMaps
def fnV (n:Nat):Value:=if n=0 then .nilFunc else .func (.func n) #[] #[]
def fnD (n:Nat):DataW Unit := .lit (.int .i64 n)
def RF (v:Value):Option (DataW Unit × List MemPlace):=match v with
 | .nilFunc=>some (fnD 0,[])
 | .func (.func (n+1)) ⟨[]⟩ ⟨[]⟩=>some (fnD (n+1),[])
 | _=>none
theorem RF_mk (n:Nat):RF (fnV n)=some (fnD n,[]):=by
 cases n with
 | zero=>rfl
 | succ n=>rfl
theorem fnD_inj {a b:Nat} (h:fnD a=fnD b):a=b:=by
 unfold fnD at h
 simp only [DataW.lit.injEq,Lit.int.injEq,true_and] at h
 omega
theorem RF_inv {v:Value} {n:Nat} {ps:List MemPlace} (h:RF v=some (fnD n,ps)):v=fnV n:=by
 unfold RF at h
 split at h
 ·have:=fnD_inj (Prod.mk.inj (Option.some.inj h)).1
  subst this;rfl
 ·rename_i m
  have:=fnD_inj (Prod.mk.inj (Option.some.inj h)).1
  subst this;rfl
 ·cases h
def MF (w:World) (b n:Nat) (f:List UInt8→Nat):Prop:=∃D:DataW Unit,IsMap D∧w.ownsMap Tryz.prog 9 RF b n D∧∀s:List UInt8,D.atKey (.string s) (fnD 0)=fnD (f s)
theorem MF.made (w:World):MF (w.alloc (.map #[] 0)) w.heap.size 0 (fun _=>0):=⟨.map [],⟨[],rfl⟩,World.ownsMap_made w _ _ _,fun _=>rfl⟩
theorem MF.kept {w w' : World} {b n:Nat} {f:List UInt8→Nat} (h:MF w b n f) (hb:w'.heap[b]?=w.heap[b]?):MF w' b n f:=by
 obtain ⟨D,h1,⟨es,clock,h2,h3,h4,h5⟩,h6⟩:=h
 exact ⟨D,h1,⟨es,clock,hb.trans h2,h3,h4,h5⟩,h6⟩
theorem MF.map {w:World} {b n:Nat} {f:List UInt8→Nat} (h:MF w b n f):∃es clock,w.heap[b]?=some (.map es clock):=by
 obtain ⟨D,_,⟨es,clock,h2,_⟩,_⟩:=h
 exact ⟨es,clock,h2⟩
theorem str_key {s:List UInt8} (hs:s.length≤maxLen):keyOf Tryz.prog 9 (S s)=some (.string s):=by
 have:=Go.WideMaps.keyOf_string_mk (P:=Tryz.prog) Tryz.underlying9 (s:=⟨s.toArray⟩) (by simpa [ByteArray.size] using hs)
 simpa using this
theorem MF.look {w:World} {b n:Nat} {f:List UInt8→Nat} (h:MF w b n f) {s:List UInt8} (hs:s.length≤maxLen):(Instr.lookup 103 (.map (some b)) (S s) false).run Tryz.prog w = .ok (fnV (f s)) w:=by
 obtain ⟨D,h1,h2,h3⟩:=h
 obtain ⟨v,ps,hrun,hv⟩:=h2.lookup (string_keyed Tryz.underlying9) Tryz.underlying103 (z:=fnV 0) (Tryz.zeroValue149 w) (RF_mk 0) (str_key hs)
 rw [h3 s] at hv
 rw [hrun,RF_inv hv]
theorem MF.put {w:World} {b n:Nat} {f:List UInt8→Nat} (h:MF w b n f) {s:List UInt8} (hs:s.length≤maxLen) (hn:n<maxLen) (l:Nat):∃w', (Instr.mapUpdate 103 (.map (some b)) (S s) (fnV l)).run Tryz.prog w = .ok () w' ∧ MF w' b (n+1) (fun k=>if k=s then l else f k)∧w.grownBy w' (some b):=by
 obtain ⟨D,h1,h2,h3⟩:=h
 obtain ⟨w', hrun,ho,hg⟩:=h2.update (string_keyed Tryz.underlying9) Tryz.underlying103 hn (str_key hs) (RF_mk l)
 refine ⟨w', hrun,⟨_,h1.put _ _,ho,fun k=>?_⟩,hg⟩
 by_cases he:k=s
 ·subst he
  show _=fnD (if k=k then l else f k)
  rw [if_pos rfl]
  exact atKey_put_same h1 (by first|exact rfl|exact ⟨_,_,rfl⟩|exact trivial|simp [WideAt.IsKeyLit]) _ _
 ·show _=fnD (if k=s then l else f k)
  rw [if_neg he,atKey_put_other (fun e=>he (Lit.string.inj e))]
  exact h3 k
def rowFn (s:List UInt8):Nat:=match kwOf s with
 | some 1=>102
 | some 4=>104
 | some 5=>105
 | some 6=>105
 | some 8=>106
 | some _=>103
 | none=>0
structure PX (w:World) (B pb mb:Nat) (ps:List Int):Prop where
 ex:∃v,w.heap[pb]?=some (.cells #[.map (some mb),v] 106 (0,0))∧w.ownsRow B 3 1 v ps.length (ps.map (.int .i64 ·))
 hB:B≤pb
 mf:∃n,MF w mb n rowFn
 hm:B≤mb
abbrev isP (pb:Nat):Nat→Prop:=fun g=>g=pb
theorem PX.lt {w:World} {B pb mb:Nat} {ps:List Int} (h:PX w B pb mb ps):pb<w.heap.size:=by obtain ⟨v,hv,_⟩:=h.ex;exact (Array.getElem?_eq_some_iff.1 hv).1
theorem PX.ne {w:World} {B pb mb:Nat} {ps:List Int} (h:PX w B pb mb ps):mb≠pb:=by
 obtain ⟨v,hv,_⟩:=h.ex
 obtain ⟨n,hn⟩:=h.mf
 obtain ⟨es,c,hm⟩:=hn.map
 rintro rfl;rw [hv] at hm;cases hm
theorem PX.same {w w' : World} {B pb mb:Nat} {ps:List Int} (h:PX w B pb mb ps) (hb:Below w.heap.size w w'):PX w' B pb mb ps:=by
 obtain ⟨v,hv,ho⟩:=h.ex
 obtain ⟨n,hn⟩:=h.mf
 obtain ⟨es,c,hm⟩:=hn.map
 exact ⟨⟨v,(hb.block _ h.lt).trans hv,own_same ho (fun g hg=>hb.block g (ho.lt g hg).2)⟩,h.hB,⟨n,hn.kept (hb.block _ (Array.getElem?_eq_some_iff.1 hm).1)⟩,h.hm⟩
theorem PX.grown {w w' : World} {B pb mb m:Nat} {ps:List Int} (h:PX w B pb mb ps) (hb:∀g,g<w.heap.size→g≠m→w'.heap[g]?=w.heap[g]?) (h1:pb≠m) (h2:mb≠m) (h3:¬ IntB w m):PX w' B pb mb ps:=by
 obtain ⟨v,hv,ho⟩:=h.ex
 obtain ⟨n,hn⟩:=h.mf
 obtain ⟨es,c,hm⟩:=hn.map
 refine ⟨⟨v,(hb _ h.lt h1).trans hv,own_same ho (fun g hg=>hb g (ho.lt g hg).2 (fun e=>?_))⟩,h.hB,⟨n,hn.kept (hb _ (Array.getElem?_eq_some_iff.1 hm).1 h2)⟩,h.hm⟩
 subst e
 rcases ho.2 with ⟨e0,_⟩|⟨g', cap,cur,hv', _,hh,_⟩
 ·subst e0;cases hg
 ·subst hv'; cases hg;exact h3 ⟨cur,_,hh⟩
theorem infoI:(Tryz.prog.info? 3).map (fun i=>(i.zero,i.size,i.bytes))=some (some (.int .i64 0),1,8):=by kernel_rfl
theorem set_atC {W:World} {b j:Nat} {cs:Array Value} {t:TypeId} (h:W.heap[b]?=some (.cells cs t (0,0))) (v:Value):(W.setCell ⟨b,j,none⟩ v).heap[b]?=some (.cells (cs.setIfInBounds j v) t (0,0)):=by
 have hlt:=(Array.getElem?_eq_some_iff.1 h).1
 rw [Array.getElem?_eq_getElem hlt] at h
 have h2:=Option.some.inj h
 show (W.heap.modify b _)[b]?=_
 rw [Array.getElem?_modify]
 simp [h2,hlt]
theorem new_cell (W:World) (a:Array Value) (e:TypeId) (j:Nat) (u:Value) (h:a[j]?=some u):(W.alloc (.cells a e)).cell? ⟨W.heap.size,j,none⟩=some u:=by
 simp only [World.cell?,World.alloc_heap_new]
 simpa using h
theorem ad_add (b o j:Nat):(⟨b,o,none⟩:Addr).add j=⟨b,o+j,none⟩:=Go.WideShapes.add_plain ..
theorem kp_grown {B:Nat} {X:Nat→Prop} {W w' : World} {v:Value} {n:Nat} {xs:List Value} (ho:W.ownsRow B 3 1 v n xs) (hg:W.grownBy w' v.ownBlock):KP B X W w' :=
 ⟨hg.os,hg.tape,hg.output,hg.size,fun g hlt _ hi=>hg.block g hlt (fun e=>by
  rcases ho.2 with ⟨e0,_⟩|⟨g', cap,cur,hv', hb,hh,_⟩
  ·subst e0;cases e
  ·subst hv'
   simp only [Value.ownBlock,Option.some.injEq] at e
   rcases hi with h|h
   ·omega
   ·exact h (by rw [e];exact ⟨cur,_,hh⟩))⟩
theorem KP.set {B pb:Nat} {a b:World} (h:KP B (isP pb) a b) (o:Nat) (v:Value):KP B (isP pb) a (b.setCell ⟨pb,o,none⟩ v) :=
 ⟨h.os,h.tape,h.output,by rw [World.size_setCell];exact h.size,fun g hg hx hi=>(Below.heap_setCell _ _ _ g hx).trans (h.block g hg hx hi)⟩
theorem enter_any (B pb mb:Nat) (ps:List Int) (i:Int) (w:World) (hP:PX w B pb mb ps) (hl:ps.length≤1000000) (hB:B≤w.heap.size) :
  Calls Tryz.prog 142 #[.pointer (some ⟨pb,0,none⟩), .int .i64 i] w fun e w' => (∃v,e = .returned v)∧PX w' B pb mb (ps++[i])∧KP B (isP pb) w w' := by
 obtain ⟨v,hv,ho⟩:=hP.ex
 obtain ⟨n,hn⟩:=hP.mf
 obtain ⟨es,ck,hmp⟩:=hn.map
 have hne:=hP.ne
 have hlt:=hP.lt
 have hbb:=hP.hB
 have hmm:=hP.hm
 obtain ⟨i0,hi0,hz0,hz1,hz2⟩:=info_parts infoI
 have HV:Hid _:=hv
 have HO:Hid (w.ownsRow B 3 1 v ps.length (ps.map (.int .i64 ·))):=ho
 have HN:Hid (MF w mb n rowFn):=hn
 have HM:Hid _:=hmp
 have c1:w.cell? ⟨pb,1,none⟩=some v:=by simp [World.cell?,hv]
 clear hP hv ho hn hmp
 go_enter Tryz.func142,Tryz.ntmps142
 go_wp2_with (at_builtin;refine stop_of ?_)
 unfold Hid
 refine wpList_append_lies _ rfl _ _ 38 rfl B 3 i0 (.int .i64 0) 1 8 Tryz.underlying38 hi0 hz0 hz1 hz2 rfl (by decide) v ps.length (ps.map (.int .i64 ·)) rfl (HO.out.alloc _) ⟨w.heap.size,0,none⟩ 1 1 [.int .i64 i] rfl rfl (fun j u hu=>?_) (fun u hu=>?_) (by omega) (by unfold maxLen;omega) (by omega) (by rw [World.size_alloc];omega) _ rfl ?_
 ·rw [ad_add,Nat.zero_add]
  exact new_cell w _ _ j u (by simpa using hu)
 ·simp at hu;subst hu;rfl
 intro g cp w2 hown hgr hat hl2
 have hk:=kp_grown (X:=isP pb) (HO.out.alloc _) hgr
 have k0:KP B (isP pb) w (w.alloc (.cells #[.int .i64 i] 3)):=KP.of ((Below.refl _ w).alloc (Nat.le_refl _) _)
 have HK:Hid (KP B (isP pb) w w2):=k0.trans hk
 have hvb:v.ownBlock≠some pb:=fun e=>by
  rcases HO.out.2 with ⟨e0,_⟩|⟨g', cap,cur,hv', _,hh,_⟩
  ·subst e0;cases e
  ·subst hv'; cases e;rw [HV.out] at hh;cases hh
 have q2:w2.heap[pb]?=some (.cells #[.map (some mb),v] 106 (0,0)) :=
  (hgr.block pb (by rw [World.size_alloc];omega) (fun e=>hvb e.symm)).trans ((Below.heap_alloc _ _ _ hlt).trans HV.out)
 have hgp:g≠pb:=fun e=>by
  rcases hat with h|h
  ·exact hvb (e ▸ h)
  ·rw [World.size_alloc] at h;omega
 have HOW:Hid (w2.ownsRow B 3 1 (.slice (some ⟨g,0,none⟩) (ps.length+1) cp) (ps.length+1) (ps.map (.int .i64 ·)++[.int .i64 i])):=hown
 have HMF:Hid (MF w2 mb n rowFn):=HN.out.kept (HK.out.block mb (Array.getElem?_eq_some_iff.1 HM.out).1 hne (.inr (by rintro ⟨c,f,q⟩;rw [HM.out] at q;cases q)))
 have c2:w2.cell? ⟨pb,1,none⟩=some v:=by simp [World.cell?,q2]
 have f2:w2.frozen? ⟨pb,1,none⟩=false:=by simp [World.frozen?,q2]
 have HQ:Hid _:=q2
 clear hown hgr hat hl2 hk k0 q2 c1
 go_wp2
 refine bodyPost_end (results_none rfl _ _ _) rfl ⟨⟨_,rfl⟩,⟨⟨.slice (some ⟨g,0,none⟩) (ps.length+1) cp,?_,?_⟩,hbb,⟨n,HMF.out.kept (Below.heap_setCell _ _ _ _ hne)⟩,hmm⟩,HK.out.set 1 _⟩
 ·exact set_atC HQ.out _
 ·rw [List.length_append,List.map_append]
  exact own_same HOW.out (fun k hk=>Below.heap_setCell _ _ _ _ (by cases hk;exact hgp))
theorem leave_any (B pb mb:Nat) (ps:List Int) (i:Int) (w:World) (hP:PX w B pb mb (ps++[i])) (hl:ps.length≤1000000) :
  Calls Tryz.prog 144 #[.pointer (some ⟨pb,0,none⟩)] w fun e w' => (∃v,e = .returned v)∧PX w' B pb mb ps∧KP B (isP pb) w w' := by
 obtain ⟨v,hv,ho⟩:=hP.ex
 obtain ⟨n,hn⟩:=hP.mf
 have hne:=hP.ne
 have hbb:=hP.hB
 have hmm:=hP.hm
 obtain ⟨es,ck,hmp⟩:=hn.map
 rcases ho.2 with ⟨_,h0⟩|⟨g,cap,cur,hv', hbg,hh,h1,h2,h3,h4⟩
 ·simp at h0
 subst hv'
 rw [List.length_append,List.length_singleton] at hv h1 h4
 have HV:Hid (w.heap[pb]?=some (.cells #[.map (some mb), .slice (some ⟨g,0,none⟩) (ps.length+1) cap] 106 (0,0))):=hv
 have HO:Hid (w.ownsRow B 3 1 (.slice (some ⟨g,0,none⟩) ps.length cap) ps.length (ps.map (.int .i64 ·))):=by
  refine ⟨by simp, .inr ⟨g,cap,cur,rfl,hbg,hh,by omega,h2,h3,?_⟩⟩
  have:=congrArg (List.take ps.length) h4
  rw [List.take_take,Nat.min_eq_left (by omega),List.map_append,List.take_left' (by simp)] at this
  rw [Nat.mul_one];exact this
 have HN:Hid (MF w mb n rowFn):=hn
 have hgp:g≠pb:=by rintro rfl;rw [hv] at hh;cases hh
 have c1:w.cell? ⟨pb,1,none⟩=some (.slice (some ⟨g,0,none⟩) (ps.length+1) cap):=by simp [World.cell?,hv]
 have f1:w.frozen? ⟨pb,1,none⟩=false:=by simp [World.frozen?,hv]
 have k1:((ps.length:Int)+1-1)=(ps.length:Int):=by omega
 clear hP hv ho hn hmp hh h3 h4
 go_enter Tryz.func144,Tryz.ntmps144
 go_wp2_with fail
 go_region
 refine bodyPost_end (results_none rfl _ _ _) rfl ⟨⟨_,rfl⟩,⟨⟨.slice (some ⟨g,0,none⟩) ps.length cap,?_,?_⟩,hbb,⟨n,HN.out.kept (Below.heap_setCell _ _ _ _ hne)⟩,hmm⟩,?_⟩
 ·exact set_atC HV.out _
 ·exact own_same HO.out (fun k hk=>Below.heap_setCell _ _ _ _ (by cases hk;exact hgp))
 ·exact ((KP.refl B (isP pb) w).set 1 _).trans (KP.of (Below.refl _ _).drew)
theorem cloneI_any (B:Nat) (ps:List Int) (v:Value) (w:World) (ho:w.ownsRow B 3 1 v ps.length (ps.map (.int .i64 ·))) (hl:ps.length≤1000000) :
  Calls Tryz.prog 151 #[v] w fun e w' => ∃v', e = .returned v' ∧ w'.ownsRow w.heap.size 3 1 v' ps.length (ps.map (.int .i64 ·))∧Below w.heap.size w w' := by
 have HO:Hid (w.ownsRow B 3 1 v ps.length (ps.map (.int .i64 ·))):=ho
 rcases ho.2 with ⟨rfl,h0⟩|⟨g,cap,cur,rfl,hbg,hh,h1,h2,h3,h4⟩
 ·obtain rfl:ps=[]:=List.length_eq_zero_iff.1 h0
  clear ho h0
  have qT:∀(w:World),(binOp .eql 38 (.slice none 0 0) (.slice none 0 0)).run Tryz.prog w = .ok (.bool true) w:=fun w=>Lib.run_eql_slice_nil w 38 _ none 0 0 0 0 Tryz.underlying38
  go_enter Tryz.func151,Tryz.ntmps151
  go_wp2
  go_ret
  exact ⟨_,rfl,World.ownsRow_nil _ _ _ _,Below.refl _ _⟩
 ·obtain ⟨i1,hi1,hy0,hy1,hy2⟩:=info_parts infoI
  have qT:∀(w:World),(binOp .eql 38 (.slice (some ⟨g,0,none⟩) ps.length cap) (.slice none 0 0)).run Tryz.prog w = .ok (.bool false) w:=fun w=>Lib.run_eql_slice_nil w 38 _ (some ⟨g,0,none⟩) ps.length cap 0 0 Tryz.underlying38
  clear ho hbg hh h1 h2 h3 h4
  go_enter Tryz.func151,Tryz.ntmps151
  go_wp2_with (at_builtin;refine stop_of ?_)
  unfold Hid
  have al:=(Below.refl _ w).alloc (Nat.le_refl w.heap.size) (.cells #[] 3)
  have hw:(w.alloc (.cells #[] 3)).ownsRow w.heap.size 3 1 (.slice (some ⟨w.heap.size,0,none⟩) 0 0) 0 []:=⟨by simp, .inr ⟨w.heap.size,0, #[],rfl,Nat.le_refl _,World.alloc_heap_new _ _,Nat.le_refl _,by unfold maxLen;omega,rfl,rfl⟩⟩
  have hn:∀(j:Nat) (u:Value),(ps.map (.int .i64 ·))[j]?=some u→(w.alloc (.cells #[] 3)).cell? ((⟨g,0,none⟩:Addr).add j)=some u:=fun j u hj=>(World.ownsRow.alloc HO.out _).cells rfl j u hj
  have h1:∀u∈ps.map (Value.int .i64 ·),u.oneCell' = true:=fun u hu=>by obtain ⟨x,_,rfl⟩:=List.mem_map.1 hu;rfl
  refine wpList_append_own _ rfl _ _ 38 rfl w.heap.size 3 i1 (.int .i64 0) 1 8 Tryz.underlying38 hi1 hy0 hy1 hy2 rfl (by decide) _ 0 [] rfl hw ⟨g,0,none⟩ ps.length cap (ps.map (.int .i64 ·)) rfl (by simp) hn h1 (by unfold maxLen;omega) (by omega) al.size ?_
  intro v' w' hown hgr _
  rw [Nat.zero_add,List.nil_append] at hown
  have HB:Hid (Below w.heap.size w w'):=al.grown hgr al.size (fun k hk=>by cases hk;exact Nat.le_refl _)
  have HW:Hid (w'.ownsRow w.heap.size 3 1 v' ps.length (ps.map (.int .i64 ·))):=hown
  clear hown hgr hn hw al h1
  go_wp2
  go_ret
  exact ⟨_,rfl,HW.out,HB.out⟩
def faultF (er:Int) (v:Value):List PanicEntry:=[{ v := .iface 100 (.agg #[.int .i64 er,v]),recovered:=false }]
def GaveUp (B:Nat) (X:Nat→Prop) (er:Int) (ps:List Int) (w:World) (e:Ending) (w' : World):Prop :=
 ∃v,e = .panicked (faultF er v)∧w'.ownsRow w.heap.size 3 1 v ps.length (ps.map (.int .i64 ·))∧KP B X w w'
theorem giveUp_any (B pb mb:Nat) (ps:List Int) (er:Int) (w:World) (hP:PX w B pb mb ps) (hl:ps.length≤1000000) :
  Calls Tryz.prog 109 #[.pointer (some ⟨pb,0,none⟩), .int .i64 er] w fun e w' => GaveUp B (isP pb) er ps w e w' := by
 obtain ⟨v,hv,ho⟩:=hP.ex
 have HO:Hid (w.ownsRow B 3 1 v ps.length (ps.map (.int .i64 ·))):=ho
 have c1:w.cell? ⟨pb,1,none⟩=some v:=by simp [World.cell?,hv]
 clear hP hv ho
 go_enter Tryz.func109,Tryz.ntmps109
 go_wp2_with fail
 refine (cloneI_any B ps v w HO.out hl).mono ?_
 rintro e w1 ⟨v', rfl,ho1,hb1⟩
 obtain ⟨ra,cap,rfl⟩:=own_slice ho1
 have H1:Hid (w1.ownsRow w.heap.size 3 1 (.slice ra ps.length cap) ps.length (ps.map (.int .i64 ·))):=ho1
 have HB:Hid (Below w.heap.size w w1):=hb1
 clear ho1 hb1
 go_wp2_with fail
 exact ⟨rfl,_,rfl,H1.out,KP.of HB.out⟩
end Go.Proofs.YtkgnigloboajcaaGreatDoor
