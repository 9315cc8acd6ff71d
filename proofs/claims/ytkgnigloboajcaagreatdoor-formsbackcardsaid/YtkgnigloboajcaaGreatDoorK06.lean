/- Trees that grow.; A function whose result lies in five cells, at its end.; The reader's dotted. -/
import Derived.Test.YtkgnigloboajcaaGreatDoorK05
import Derived.Deep.AppendLies
import Derived.Deep.Upon
namespace Go.Proofs.YtkgnigloboajcaaGreatDoor
open Go.RowKit
theorem Fo.len0 {f:Fo} (h:f.len=0):f = .nil:=by cases f with|nil=>rfl|cons k n t s d r=>simp [Fo.len] at h
theorem tree_append {W w' : World} {base n m:Nat} {v v' : Value} {f g:Fo} {cs news:List Value} {bs nbs:List Nat} (_:W.ownsRow base 32 5 v n cs) (hr:Row W base f cs bs) (hd:(own1 v++bs).Nodup) (hn:Row W base g news nbs) (hnd:nbs.Nodup)
  (hdis:∀x∈nbs,x ∉ own1 v++bs) (hf:f.len=n) (hg:g.len=m) (hown:w'.ownsRow base 32 5 v' (n+m) (cs++news)) (hgr:W.grownBy w' v.ownBlock) (hw:v'.ownBlock=v.ownBlock∨v'.ownBlock=some W.heap.size) :
  w'.ownsRow base 32 5 v' (f.app g).len (cs++news)∧Row w' base (f.app g) (cs++news) (bs++nbs)∧(own1 v' ++ (bs++nbs)).Nodup:=by
 have hvb:∀x∈bs++nbs,some x≠v.ownBlock:=by
  intro x hx e
  have hm:x∈own1 v:=mem_own1.2 e.symm
  rcases List.mem_append.1 hx with h|h
  ·exact (List.nodup_append.1 hd).2.2 x hm x h rfl
  ·exact hdis x h (List.mem_append_left _ hm)
 have hlt:∀x∈bs++nbs,x<W.heap.size:=by
  intro x hx
  rcases List.mem_append.1 hx with h|h
  ·exact (hr.lt x h).2
  ·exact (hn.lt x h).2
 refine ⟨by rw [Fo.len_app,hf,hg];exact hown,(hr.app hn).kept (fun x hx=>hgr.block x (hlt x hx) (hvb x hx)),?_⟩
 rw [List.nodup_append]
 refine ⟨?_,?_,?_⟩
 ·unfold own1;cases v'.ownBlock<;>simp
 ·rw [List.nodup_append]
  refine ⟨(List.nodup_append.1 hd).2.1,hnd,fun x hx y hy e=>?_⟩
  subst e
  exact hdis x hy (List.mem_append_right _ hx)
 ·intro x hx y hy e
  subst e
  rw [mem_own1] at hx
  rcases hw with h|h
  ·rw [h] at hx;exact hvb x hy hx.symm
  ·rw [h] at hx
   have:=hlt x hy
   simp at hx;omega
theorem Row.alloc {w:World} {base:Nat} {f:Fo} {cs:List Value} {bs:List Nat} (h:Row w base f cs bs) (o:Obj):Row (w.alloc o) base f cs bs:=h.kept (fun g hg=>Below.heap_alloc _ _ _ (h.lt g hg).2)
theorem ButB.refl (B rb:Nat) (w:World):ButB B rb w w:=⟨rfl,rfl,rfl,Nat.le_refl _,fun _ _ _=>rfl⟩
theorem ButB.set {B rb b o:Nat} {w w' : World} (h:ButB B rb w w') (hB:B≤b) (v:Value):ButB B rb w (w'.setCell ⟨b,o,none⟩ v) :=
 h.trans ⟨rfl,rfl,rfl,by simp [World.setCell],fun g hg _=>Below.heap_setCell _ _ _ _ (by show g≠b;omega)⟩
theorem results5 {fn:Func} {tmps:Array Value} {s b:Nat} {v0 v1 v2 v3 v4:Value} {W:World} (hres:fn.results = #[.cell s 32]) (hs:tmps[s]?=some (.pointer (some ⟨b,0,none⟩)))
  (h:W.heap[b]?=some (.cells #[v0,v1,v2,v3,v4] 32 (0,0))):(results fn tmps).run Tryz.prog W = .ok (.agg #[v0,v1,v2,v3,v4]) W:=by
 obtain ⟨y0,y1,y2,y3,y4,_⟩:=cells5 h
 obtain ⟨hlt,he⟩:=Array.getElem?_eq_some_iff.1 hs
 simp [results,hres,go_sem,y0,y1,y2,y3,y4,hlt,he]
theorem bodyPost_five {fn:Func} {R:Ending→World→Prop} {a:Act} {s b:Nat} {w6:World} {a0 a1 a2 a3 a4 v0 v1 v2 v3 v4:Value} (hres:fn.results = #[.cell s 32]) (hs:a.tmps[s]?=some (.pointer (some ⟨b,0,none⟩))) (hd:a.defers=[])
  (h:w6.heap[b]?=some (.cells #[a0,a1,a2,a3,a4] 32 (0,0)))
  (hR:∀W5:World,(∀g,g≠b→W5.heap[g]?=w6.heap[g]?)→(∀B rb,B≤b→ButB B rb w6 W5)→R (.returned (.agg #[v0,v1,v2,v3,v4])) W5) :
  bodyPost Tryz.prog fn R .ret a (((((w6.setCell ⟨b,0,none⟩ v0).setCell ⟨b,1,none⟩ v1).setCell ⟨b,2,none⟩ v2).setCell ⟨b,3,none⟩ v3).setCell ⟨b,4,none⟩ v4):=by
 have h5:=five_at h v0 v1 v2 v3 v4
 have o5:∀g,g≠b→(five b w6 v0 v1 v2 v3 v4).heap[g]?=w6.heap[g]?:=fun g hg=>five_other hg _ _ _ _ _
 have b5:∀B rb,B≤b→ButB B rb w6 (five b w6 v0 v1 v2 v3 v4):=fun B rb hB=>(((((ButB.refl B rb w6).set hB v0).set hB v1).set hB v2).set hB v3).set hB v4
 unfold five at h5 o5 b5
 generalize ((((w6.setCell ⟨b,0,none⟩ v0).setCell ⟨b,1,none⟩ v1).setCell ⟨b,2,none⟩ v2).setCell ⟨b,3,none⟩ v3).setCell ⟨b,4,none⟩ v4=W5 at h5 o5 b5 ⊢
 exact ⟨hd,_,results5 hres hs h5,hR W5 o5 b5⟩
theorem wp_append_nothing {P:Program} (w:World) {o:Oper} {a:Act} {K:Act→World→Prop} {Q:Exit→Act→World→Prop} (s x:Operand) (t:TypeId)
  (ho:o.op = .call { callee := .builtin .append,args := #[s,x],argTypes := #[t,t] }) (e:TypeId) (i:TypeInfo) (ht:P.underlying t=some (.slice e)) (hi:P.info? e=some i) (base xa:Option Addr) (n c xc:Nat) (hle:n≤c)
  (hs:a.eval s = .slice base n c) (hx:a.eval x = .slice xa 0 xc) (h:K (a.put o.dst (.slice base n c)) w):o.wp P a w K Q:=by
 have hr:(Builtin.append_ #[t,t] o.type #[.slice base n c, .slice xa 0 xc]).run P w = .ok (.slice base n c) w:=by
  refine run_append_nothing w t t o.type e i ht hi base n c hle _ ?_
  cases xa with
  | none=>exact Src.ofNil w ht xc
  | some ad=>exact Src.ofSlice w ht ad 0 xc [] (by simp) (fun j u hj=>by simp at hj) (fun u hu=>by cases hu)
 unfold Oper.wp execOp
 simp only [ho,resolve,invoke,builtin,Sem.run_bind,Sem.run_pure,Result.andThen_ok,List.map_toArray,List.map_cons,List.map_nil,hs,hx,hr]
 exact h
theorem stop_of {P:Prop} (h:Hid P):P:=h
theorem cell_five_new (W:World) (a0 a1 a2 a3 a4:Value) (t:TypeId) (j:Nat) (u:Value) (h:[a0,a1,a2,a3,a4][j]?=some u):(W.alloc (.cells #[a0,a1,a2,a3,a4] t)).cell? ((⟨W.heap.size,0,none⟩:Addr).add j)=some u:=by
 have hn:=World.alloc_heap_new W (.cells #[a0,a1,a2,a3,a4] t)
 have e:((⟨W.heap.size,0,none⟩:Addr).add j)=⟨W.heap.size,j,none⟩:=by simp [Addr.add];exact fun h=>h.symm
 rw [e]
 simp only [World.cell?,hn]
 simpa using h
theorem cell_five_at (W:World) (b:Nat) (hb:W.heap.size=b) (a0 a1 a2 a3 a4:Value) (t:TypeId) (j:Nat) (u:Value) (h:[a0,a1,a2,a3,a4][j]?=some u):(W.alloc (.cells #[a0,a1,a2,a3,a4] t)).cell? ((⟨b,0,none⟩:Addr).add j)=some u:=by
 subst hb;exact cell_five_new W a0 a1 a2 a3 a4 t j u h
theorem five_one (k n:Int) (t:List UInt8) (ra:Option Addr) (m c:Nat) (d:Bool):∀u∈[Value.int .u8 k, .int .i64 n,S t, .slice ra m c, .bool d],u.oneCell' = true:=by
 intro u hu
 simp only [List.mem_cons,List.not_mem_nil,or_false] at hu
 rcases hu with rfl|rfl|rfl|rfl|rfl<;>rfl
theorem infoDat:(Tryz.prog.info? 32).map (fun i=>(i.zero,i.size,i.bytes))=some (some (.agg #[.int .u8 0, .int .i64 0, .string ⟨#[]⟩, .slice none 0 0, .bool false]),5,64):=by kernel_rfl
end Go.Proofs.YtkgnigloboajcaaGreatDoor
