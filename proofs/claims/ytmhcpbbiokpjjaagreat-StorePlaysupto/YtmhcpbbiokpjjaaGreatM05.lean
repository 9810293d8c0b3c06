/-
  Several texts, laid together.
-/
import Derived.Maps.Ext
import Derived.Maps.OwnSet
import Derived.Maps.RangeWalk
import Derived.Sort.KeysCollected
import Derived.Test.YtmhcpbbiokpjjaaGreatM04
set_option maxHeartbeats 6400000
set_option maxRecDepth 100000
namespace Go.Proofs.YtmhcpbbiokpjjaaGreat
open Go.RowKit
def Box (w:World) (B:Nat) (t:TypeId) (x y:Value):Prop:=w.heap[B]? = some (.cells #[x,y] t (0,0))
section
variable {w w':World} {B:Nat} {t:TypeId} {x y:Value}
theorem Box.lt (h:Box w B t x y):B<w.heap.size:=(Array.getElem?_eq_some_iff.1 h).1
theorem Box.below (h:Box w B t x y) (hb:Below w.heap.size w w'):Box w' B t x y:=(hb.block B h.lt).trans h
theorem Box.turned {S:Nat->Prop} (h:Box w B t x y) (ht:Zaa S w w') (hS:¬ S B):Box w' B t x y:=(ht.block B h.lt hS).trans h
theorem Box.cells (h:Box w B t x y):w.cell? ⟨B,0,none⟩=some x/\w.cell? ⟨B,1,none⟩=some y:=by
 unfold Box at h;simp [World.cell?,h]
theorem Box.thaw (h:Box w B t x y):w.frozen? ⟨B,0,none⟩=false/\w.frozen? ⟨B,1,none⟩=false:=by
 unfold Box at h;simp [World.frozen?,h]
theorem Box.new (w:World) (t:TypeId) (x y:Value):Box (w.alloc (.cells #[x,y] t)) w.heap.size t x y:=by
 unfold Box World.alloc;simp
theorem Box.put (h:Box w B t x y) (x' y':Value):Box ((w.setCell ⟨B,0,none⟩ x').setCell ⟨B,1,none⟩ y') B t x' y':=by
 unfold Box at h ⊢;simp [World.setCell,Array.getElem?_modify,h]
theorem Box.put0 (h:Box w B t x y) (x':Value):Box (w.setCell ⟨B,0,none⟩ x') B t x' y:=by
 unfold Box at h ⊢;simp [World.setCell,Array.getElem?_modify,h]
end
def Box4 (w:World) (B:Nat) (t:TypeId) (x y z v:Value):Prop:=w.heap[B]? = some (.cells #[x,y,z,v] t (0,0))
section
variable {w w':World} {B:Nat} {t:TypeId} {x y z v:Value}
theorem Box4.lt (h:Box4 w B t x y z v):B<w.heap.size:=(Array.getElem?_eq_some_iff.1 h).1
theorem Box4.below {K:Nat} (h:Box4 w B t x y z v) (hb:Below K w w') (hK:B<K):Box4 w' B t x y z v:=(hb.block B hK).trans h
theorem Box4.turned {S:Nat->Prop} (h:Box4 w B t x y z v) (ht:Zaa S w w') (hS:¬ S B):Box4 w' B t x y z v:=(ht.block B h.lt hS).trans h
theorem Box4.cells (h:Box4 w B t x y z v):w.cell? ⟨B,0,none⟩=some x/\w.cell? ⟨B,1,none⟩=some y/\w.cell? ⟨B,2,none⟩=some z/\w.cell? ⟨B,3,none⟩=some v:=by
 unfold Box4 at h;simp [World.cell?,h]
theorem Box4.thaw (h:Box4 w B t x y z v):w.frozen? ⟨B,0,none⟩=false/\w.frozen? ⟨B,1,none⟩=false/\w.frozen? ⟨B,2,none⟩=false/\w.frozen? ⟨B,3,none⟩=false:=by
 unfold Box4 at h;simp [World.frozen?,h]
theorem Box4.new (w:World) (t:TypeId) (x y z v:Value):Box4 (w.alloc (.cells #[x,y,z,v] t)) w.heap.size t x y z v:=by
 unfold Box4 World.alloc;simp
theorem Box4.put1 (h:Box4 w B t x y z v) (y':Value):Box4 (w.setCell ⟨B,1,none⟩ y') B t x y' z v:=by
 unfold Box4 at h ⊢;simp [World.setCell,Array.getElem?_modify,h]
theorem Box4.put2 (h:Box4 w B t x y z v) (z':Value):Box4 (w.setCell ⟨B,2,none⟩ z') B t x y z' v:=by
 unfold Box4 at h ⊢;simp [World.setCell,Array.getElem?_modify,h]
theorem Box4.put3 (h:Box4 w B t x y z v) (v':Value):Box4 (w.setCell ⟨B,3,none⟩ v') B t x y z v':=by
 unfold Box4 at h ⊢;simp [World.setCell,Array.getElem?_modify,h]
end
theorem Zaa.chain {w w1 w2:World} {v v1:Value} (h:Zaa (λ k=>v.ownBlock=some k) w w1) (m:ZaS w v v1) (k:Zaa (λ k=>v1.ownBlock=some k) w1 w2):Zaa (λ k=>v.ownBlock=some k) w w2 :=
 h.trans k (λ i hi q=>by
  rcases m with e | e
  ·rw [<- e]; exact q
  ·have:=e i q
   omega)
theorem ZaS.refl (w:World) (v:Value):ZaS w v v:=.inl rfl
theorem ZaS.chain {w w1:World} {v v1 v2:Value} (h:ZaS w v v1) (hs:w.heap.size<=w1.heap.size) (k:ZaS w1 v1 v2):ZaS w v v2:=by
 rcases k with e | e
 ·rcases h with f | f
  ·exact .inl (e.trans f)
  ·exact .inr (λ g hg=>f g (by rw [<- e]; exact hg))
 ·exact .inr (λ g hg=>Nat.le_trans hs (e g hg))
theorem BAt.turned {S:Nat->Prop} {w w':World} {a:Option Addr} {n c:Nat} {bs:Bs} (h:BAt w (.slice a n c) bs) (ht:Zaa S w w') (hS:0<n->∀ p,a=some p->¬ S p.block):BAt w' (.slice a n c) bs:=by
 obtain ⟨ao,c',e,h1,h2,h3⟩:=h;cases e;exact ⟨a,c,rfl,h1,h2,h3.turned ht hS⟩
theorem Znm {w:World} {R:Nat} (h:R<w.heap.size) {w':World} (ht:Zaa (λ i=>i=R) w w'):Below R w w':=ht.below (Nat.le_of_lt h) (λ k hk q=>by have q':k=R:=q; omega)
theorem ZaJ (x y:Bs):Op.bytesLess x y=decide (x<y):=by
 induction x generalizing y with
 | nil=>cases y <;> simp [Op.bytesLess]
 | cons a x ih =>
  cases y with
  | nil=>simp [Op.bytesLess]
  | cons b y =>
   rw [Op.bytesLess,ih y,Bool.eq_iff_iff]
   by_cases h1:a<b <;> by_cases h2:a=b <;> by_cases h3:x<y <;> simp [List.cons_lt_cons_iff,h1,h2,h3]
def encU:Enc UInt64:=⟨λ x=>[.int .u64 (x.toNat:Int)],1,λ _=>rfl,by decide,by intro x u h; simp at h; subst h; rfl⟩
theorem RdG.nums {w:World} {b off:Nat} {xs:List UInt64} (h:RdG encU w (some ⟨b,off,none⟩) xs) {i:Nat} {x:UInt64} (hx:xs[i]? = some x):b<w.heap.size/\w.cell? ⟨b,off+i,none⟩=some (.int .u64 (x.toNat:Int)):=by
 obtain ⟨b', off', e', hlt, hc⟩ := h (by rcases Nat.lt_or_ge i xs.length with q | q
                                         · omega
                                         · rw [List.getElem?_eq_none q] at hx; cases hx)
 obtain ⟨rfl,rfl⟩:b=b'/\off=off':=by simpa using e'
 have h0:=hc i x hx 0 _ rfl;exact ⟨hlt,by simpa [encU] using h0⟩
theorem Zfg {α:Type} {es:List α} {p:α->Bool} {i:Nat} {e:α} (h:es[i]? = some e) (ht:(es.take i).any p=false) (hx:p e=false):(es.take (i+1)).any p=false:=by
 rw [List.take_add_one,h,List.any_append,ht];simp [hx]
theorem ZhD {α:Type} {es:List α} {p:α->Bool} {i:Nat} {e:α} (h:es[i]? = some e) (hx:p e=true):es.any p=true :=
 List.any_eq_true.2 ⟨e,List.mem_of_getElem? h,hx⟩
theorem bdrewN (w:World) (m:Nat):Below w.heap.size w (w.drewN m):=⟨rfl,rfl,rfl,Nat.le_refl _,λ _ _=>rfl⟩
theorem Zg4 {α:Type} (E:Enc α) (e t bytes:Nat) (z:Value) (hinfo:(Tryz.prog.info? e).map (λ i=>(i.zero,i.size,i.bytes))=some (some z,E.size,bytes)) (hu:Tryz.prog.underlying t=some (.slice e)) (he:Tryz.prog.elem t=e)
  {ao:Option Addr} {n c k:Nat} (hc:n<=c) (hk:k<=n) :
  ∃ a' c',(∀ w,(Instr.slice t (.slice ao n c) none (some (.int .i64 (k:Int))) none).run Tryz.prog w=.ok (.slice a' k c') w)/\k<=c'/\c'<=c/\∀ w (xs:List α),RdG E w ao xs->RdG E w a' (xs.take k):=by
 obtain ⟨i0,hi0,hz0,hz1,hz2⟩:=info_parts hinfo;refine ⟨if c=0 then ao else ao.map (·.add 0),c,λ w=>?_,by omega,Nat.le_refl _,?_⟩
 ·rw [run_slice_h w t ao n c (by rw [he]; exact hu) .i64 (k:Int) (by omega) (by omega)]
  have:(sizeOf (Tryz.prog.elem t)).run Tryz.prog w=.ok E.size w:=by
   rw [he];simp [sizeOf,typeInfo,hi0,hz1]
  rw [this];simp only [Result.andThen,sliced,Int.toNat_natCast,Nat.zero_mul,Nat.sub_zero]
 ·intro w xs h
  split
  ·exact h.take k
  ·intro h0;obtain ⟨b,off,rfl,hlt,hcc⟩:=h (by simp at h0; omega);simp only [Option.map_some,Zas,Nat.add_zero];exact RdG.take (λ _=>⟨b,off,rfl,hlt,hcc⟩) k h0
theorem Zgh (w:World) (x y z v x' y' z' v' x'' y'' z'' v'':Value) (t t' t'':TypeId) :
  Box4 (((w.alloc (.cells #[x,y,z,v] t)).alloc (.cells #[x',y',z',v'] t')).alloc (.cells #[x'',y'',z'',v''] t'')) w.heap.size t x y z v /\
  Box4 (((w.alloc (.cells #[x,y,z,v] t)).alloc (.cells #[x',y',z',v'] t')).alloc (.cells #[x'',y'',z'',v''] t'')) (w.heap.size+1) t' x' y' z' v' /\
  Box4 (((w.alloc (.cells #[x,y,z,v] t)).alloc (.cells #[x',y',z',v'] t')).alloc (.cells #[x'',y'',z'',v''] t'')) (w.heap.size+2) t'' x'' y'' z'' v'':=by
 have s1:(w.alloc (.cells #[x,y,z,v] t)).heap.size=w.heap.size+1:=by simp
 have s2:((w.alloc (.cells #[x,y,z,v] t)).alloc (.cells #[x',y',z',v'] t')).heap.size=w.heap.size+2:=by simp
 refine ⟨?_,?_,?_⟩
 ·have h:=Box4.new w t x y z v;exact (h.below (bz1 _ (.cells #[x',y',z',v'] t')) (by rw [s1]; omega)).below (bz1 _ (.cells #[x'',y'',z'',v''] t'')) (by rw [s2]; omega)
 ·have h:=Box4.new (w.alloc (.cells #[x,y,z,v] t)) t' x' y' z' v';rw [s1] at h;exact h.below (bz1 _ (.cells #[x'',y'',z'',v''] t'')) (by rw [s2]; omega)
 ·have h:=Box4.new ((w.alloc (.cells #[x,y,z,v] t)).alloc (.cells #[x',y',z',v'] t')) t'' x'' y'' z'' v'';rw [s2] at h;exact h
theorem OwnG.rdc {α:Type} {E:Enc α} {e:TypeId} {w:World} {base n cap:Nat} {ao:Option Addr} {xs:List α} (h:OwnG E e w base (.slice ao n cap) xs):RdG E w ao xs/\n<=cap:=by
 have hn:xs.length=n:=ZaF h;obtain ⟨a,c,q,h1,_,r,_⟩:=OwnG.form h;rw [hn] at q h1;cases q;exact ⟨r,h1⟩
theorem ZaI (w:World) (Q:Nat) (a b c d:Value):Zaa (λ i=>i=Q) w ((((w.setCell ⟨Q,0,none⟩ a).setCell ⟨Q,1,none⟩ b).setCell ⟨Q,2,none⟩ c).setCell ⟨Q,3,none⟩ d) :=
 ((((Zaa.refl (λ i=>i=Q) w).setCell (p:=⟨Q,0,none⟩) (.inl (show Q=Q from rfl)) a).setCell (p:=⟨Q,1,none⟩) (.inl (show Q=Q from rfl)) b).setCell (p:=⟨Q,2,none⟩) (.inl (show Q=Q from rfl)) c).setCell (p:=⟨Q,3,none⟩) (.inl (show Q=Q from rfl)) d
theorem bz3 (u:World) (o1 o2 o3:Obj):Below u.heap.size u (((u.alloc o1).alloc o2).alloc o3):=(bz2 u o1 o2).trans ((bz1 _ o3).mono (bz2 u o1 o2).size)
theorem keepA {w1 u:World} {o:Obj} (h:Hid (Below w1.heap.size w1 u)):Hid (Below w1.heap.size w1 (u.alloc o)):=h.out.trans ((bz1 u o).mono h.out.size)
theorem keepD {w1 u:World} (h:Hid (Below w1.heap.size w1 u)):Hid (Below w1.heap.size w1 u.drew):=h.out.drew
theorem Zma {ops:Array Oper} {o:Oper} {a:Act} {w:World} {K:Act->World->Prop} {Q:Exit->Act->World->Prop} {X:Prop} (hg:o.guard=none) (x:Operand) (f:Nat) (ts:Array TypeId)
  (hop:o.op=.call { callee:=.value (.func f),args:=#[x],argTypes:=ts }) (en:∀ args w,(callFunc f args).run Tryz.prog w=.ok (.enter f args) w) (u v:Value) (hx:a.eval x=u)
  (hc:Calls Tryz.prog f #[u] w λ e w'=>e=.returned v/\w'=w) (h:K (a.put o.dst v) w) :
  if Region.wanted o (yielded ops a.tmps)=true then Oper.wp Tryz.prog o a w K Q else X:=by
 have hw:Region.wanted o (yielded ops a.tmps)=true:=by simp [Region.wanted,hg]
 rw [if_pos hw];unfold Oper.wp
 have e:(execOp a.eval o).run Tryz.prog w=.ok (.enter f #[u]) w:=by
  have hf:a.eval (.func f)=.func (.func f) #[] #[]:=rfl;simp [execOp,hop,resolve,invoke,hx,hf,Deferred.ofValue,en]
 rw [e,Oper.upon_enter];refine hc.mono ?_;rintro e w' ⟨rfl,rfl⟩;exact h
theorem Zke (w:World) (x y z v x' y' z' v':Value) (t t':TypeId) :
  Box4 ((w.alloc (.cells #[x,y,z,v] t)).alloc (.cells #[x',y',z',v'] t')).drew w.heap.size t x y z v /\
  Box4 ((w.alloc (.cells #[x,y,z,v] t)).alloc (.cells #[x',y',z',v'] t')).drew (w.heap.size+1) t' x' y' z' v' /\
  Below w.heap.size w ((w.alloc (.cells #[x,y,z,v] t)).alloc (.cells #[x',y',z',v'] t')).drew:=by
 have s1:(w.alloc (.cells #[x,y,z,v] t)).heap.size=w.heap.size+1:=by simp
 refine ⟨?_,?_,(bz2 _ _ _).drew⟩
 ·exact (Box4.new w t x y z v).below (bz1 _ (.cells #[x',y',z',v'] t')).drew (by rw [s1]; omega)
 ·have h:=Box4.new (w.alloc (.cells #[x,y,z,v] t)) t' x' y' z' v';rw [s1] at h;exact h
theorem Zny {α:Type} (E:Enc α) (w:World) (y:α) (t:TypeId) (c:Array Value) (hc:c=(E.cells y).toArray):RdG E (w.alloc (.cells c t)) (some ⟨w.heap.size,0,none⟩) [y]:=by
 subst hc;intro _;refine ⟨w.heap.size,0,rfl,by simp,?_⟩;intro i x hx j u hu
 have hi:i=0:=by
  rcases Nat.eq_zero_or_pos i with q | q
  ·exact q
  ·rw [List.getElem?_eq_none (by simp; omega)] at hx; cases hx
 subst hi;cases hx;have:=ZaC E w y t j u hu;rw [Zas] at this;rw [Nat.zero_mul,Nat.zero_add];exact this
theorem OwnG.whole {α:Type} {E:Enc α} {e:TypeId} {w:World} {base:Nat} {v:Value} {xs:List α} {n:Nat} (h:OwnG E e w base v xs) (hn:xs.length=n):∃ a c,v=.slice a n c/\n<=c/\RdG E w a xs:=by
 obtain ⟨a,c,q,h1,_,r,_⟩:=OwnG.form h;rw [hn] at q h1;exact ⟨a,c,q,h1,r⟩
theorem ZaR (bs:Bs) (i j:Nat):((⟨bs.toArray⟩:ByteArray).extract i j).data.toList=(bs.drop i).take (j - i):=by
 simp [ByteArray.data_extract,List.extract_eq_take_drop]
theorem ZbL {w w3:World} {b2:Nat} (hb:Below w.heap.size w w3) (h2:w.heap.size<=b2) (v0 v1:Value) :
  Below w.heap.size w ((w3.setCell ⟨b2,0,none⟩ v0).setCell ⟨b2,1,none⟩ v1)/\Zaa (λ i=>i=b2) w3 ((w3.setCell ⟨b2,0,none⟩ v0).setCell ⟨b2,1,none⟩ v1):=by
 have t:Zaa (λ i=>i=b2) w3 ((w3.setCell ⟨b2,0,none⟩ v0).setCell ⟨b2,1,none⟩ v1) :=
  ((Zaa.refl (λ i=>i=b2) w3).setCell (p:=⟨b2,0,none⟩) (.inl (show b2=b2 from rfl)) v0).setCell (p:=⟨b2,1,none⟩) (.inl (show b2=b2 from rfl)) v1
 exact ⟨hb.trans (t.below hb.size (λ i hi q=>by have q':i=b2:=q; omega)),t⟩
def Za1 (w:World) (pa:Option Addr) (n:Nat):Prop:=0<n->∀ p,pa=some p->w.heap.size<=p.block
theorem Za1.none (w:World) (n:Nat):Za1 w none n:=λ _ _ h=>by cases h
theorem OwnG.newRow {α:Type} {E:Enc α} {e:TypeId} {w w':World} {B n c:Nat} {la:Option Addr} {xs:List α} (h:OwnG E e w' B (.slice la n c) xs) (hB:w.heap.size<=B):Za1 w la n:=by
 intro h0 p hp;obtain ⟨a1,c1,e1,_,_,_,h4⟩:=OwnG.form h;simp only [Value.slice.injEq] at e1;obtain ⟨g,eg⟩:=h4 (by omega);have e2:la=some ⟨g,0,Option.none⟩:=e1.1.trans eg;have hl:=(h.lt g (by rw [e2]; rfl)).1;rw [e2] at hp;cases hp;exact Nat.le_trans hB hl
def heldR (v:Value):Option (DataW Value×List MemPlace):=some (.held v,[])
theorem keyedS:Maps.Keyed Tryz.prog 9:=Maps.string_keyed Tryz.underlying9
theorem Zft (s:ByteArray) (h:s.size<=maxLen):keyOf Tryz.prog 9 (.string s)=some (.string s.data.toList):=WideMaps.keyOf_string_mk Tryz.underlying9 h
structure KeyK (α:Type) where
 ty:TypeId
 val:α->Value
 lit:α->Lit
 fit:α->Prop
 keyed:Maps.Keyed Tryz.prog ty
 key:∀ x,fit x->keyOf Tryz.prog ty (val x)=some (lit x)
 inj:∀ {x y},lit x=lit y->x=y
def kU:KeyK UInt64 where
 ty:=53
 val:=λ x=>.int .u64 (x.toNat:Int)
 lit:=λ x=>.int .u64 (x.toNat:Int)
 fit:=λ _=>True
 keyed:=Maps.int_keyed Tryz.underlying53
 key:=λ x _=>Maps.keyOf_int_mk Tryz.underlying53 (by
  have:=x.toNat_lt;simp [Lit.wf,IntKind.min,IntKind.max,IntKind.signed,IntKind.bits]
  omega)
 inj:=λ {x y} h=>by
  injection h with _ h
  exact UInt64.toNat_inj.1 (by omega)
def kS:KeyK Bs where
 ty:=9
 val:=λ x=>.string ⟨x.toArray⟩
 lit:=λ x=>.string x
 fit:=λ x=>x.length<=maxLen
 keyed:=keyedS
 key:=λ x h=>Zft ⟨x.toArray⟩ (by simpa [ByteArray.size] using h)
 inj:=λ h=>by cases h; rfl
section
variable {α:Type} (K:KeyK α)
def MapG (w:World) (m:Nat) (f:α->Option Value) (n:Nat):Prop :=
 ∃ D:DataW Value,w.ownsMap Tryz.prog K.ty heldR m n D/\Maps.size D=n/\(∀ x,Maps.has D (K.lit x)=(f x).isSome)/\∀ x v,f x=some v->∀ zd,D.atKey (K.lit x) zd=.held v
variable {K} {w w':World} {m n:Nat} {f:α->Option Value}
theorem Zel {D:DataW Value} (h:w.ownsMap Tryz.prog K.ty heldR m n D):w.ownsMap Tryz.prog K.ty heldR m (Maps.size D) D:=by
 obtain ⟨es,clock,hb,F,_,rfl⟩:=h;refine ⟨es,clock,hb,F,?_,rfl⟩;simp [Maps.size,length_sorted]
theorem MapG.block (h:MapG K w m f n):∃ es clock,w.heap[m]? = some (.map es clock):=by
 obtain ⟨D,⟨es,clock,hb,_⟩,_⟩:=h;exact ⟨es,clock,hb⟩
theorem MapG.turned {S:Nat->Prop} (h:MapG K w m f n) (ht:Zaa S w w') (hS:¬ S m):MapG K w' m f n:=by
 obtain ⟨D,⟨es,clock,hb,r⟩,q⟩:=h;exact ⟨D,⟨es,clock,(ht.block m (Array.getElem?_eq_some_iff.1 hb).1 hS).trans hb,r⟩,q⟩
theorem MapG.new (hm:w.heap[m]? = some (.map #[] 0)):MapG K w m (λ _=>none) 0 :=
 ⟨.map [],⟨#[],0,hm,⟨by simp,MapKept.stamped_empty 0,by simp⟩,Nat.le_refl _,rfl⟩,rfl,λ _=>rfl,λ _ _ h=>by cases h⟩
theorem MapG.look (h:MapG K w m f n) {t e:TypeId} (ht:Tryz.prog.underlying t=some (.map K.ty e)) {z:Value} (hz:(zeroValue e).run Tryz.prog w=.ok z w) (x:α) (hx:K.fit x) :
  (Instr.lookup t (.map (some m)) (K.val x) true).run Tryz.prog w=.ok (.tuple #[(f x).getD z,.bool (f x).isSome]) w:=by
 obtain ⟨D,ho,_,hh,ha⟩:=h;obtain ⟨v,ps,hrun,hv⟩:=ho.look_ok K.keyed ht hz (zd:=.held z) (zp:=[]) rfl (K.key x hx);rw [hrun,hh]
 have e:DataW.held v=D.atKey (K.lit x) (.held z):=by
  have:=Option.some.inj hv;exact congrArg Prod.fst this
 cases hf:f x with
 | none =>
  rw [Maps.atKey_of_not_has (by rw [hh,hf]; rfl)] at e;cases e
  rfl
 | some u =>
  rw [ha _ u hf] at e;cases e
  rfl
def gput [DecidableEq α] (f:α->Option Value) (x:α) (v:Value):α->Option Value:=λ y=>if y=x then some v else f y
def gdel [DecidableEq α] (f:α->Option Value) (x:α):α->Option Value:=λ y=>if y=x then none else f y
theorem KeyK.ne (K:KeyK α) {x y:α} (h:y≠x):K.lit y≠K.lit x:=λ e=>h (K.inj e)
theorem MapG.put [DecidableEq α] (h:MapG K w m f n) {t e:TypeId} (ht:Tryz.prog.underlying t=some (.map K.ty e)) (x:α) (hx:K.fit x) (hn:n<maxLen) (v:Value) :
  ∃ w',(Instr.mapUpdate t (.map (some m)) (K.val x) v).run Tryz.prog w=.ok () w'/\MapG K w' m (gput f x v) (if (f x).isSome then n else n+1)/\w.grownBy w' (some m):=by
 obtain ⟨D,ho,hsz,hh,ha⟩:=h;obtain ⟨w',hrun,h1,h2⟩:=ho.update K.keyed ht hn (K.key x hx) (d:=.held v) (ps:=[]) (val:=v) rfl;have hkl:WideAt.IsKeyLit (K.lit x):=K.keyed.key (K.key x hx)
 have hsz':Maps.size (D.put (K.lit x) (.held v))=if (f x).isSome then n else n+1:=by
  rw [Maps.size_put (ho.tidy K.keyed),hh,hsz]
 refine ⟨w',hrun,⟨_,?_,hsz',?_,?_⟩,h2⟩
 ·rw [<- hsz'];exact Zel h1
 ·intro y;unfold gput;by_cases e:y=x
  ·rw [if_pos e,e,Maps.has_put_same ho.isMap hkl]
   rfl
  ·rw [if_neg e,Maps.has_put_other (K.ne e),hh]
 ·intro y u hy zd;unfold gput at hy;by_cases e:y=x
  ·rw [if_pos e] at hy;cases hy;rw [e,Maps.atKey_put_same ho.isMap hkl]
  ·rw [if_neg e] at hy;rw [Maps.atKey_put_other (K.ne e),ha y u hy]
theorem MapG.del [DecidableEq α] (h:MapG K w m f n) {t e:TypeId} (ht:Tryz.prog.underlying t=some (.map K.ty e)) (x:α) (hx:K.fit x) (hi:(f x).isSome=true) (k2 ty:TypeId) :
  ∃ w',(Builtin.delete_ #[t,k2] ty #[.map (some m),K.val x]).run Tryz.prog w=.ok (.tuple #[]) w'/\MapG K w' m (gdel f x) (n - 1)/\w.grownBy w' (some m):=by
 obtain ⟨D,ho,hsz,hh,ha⟩:=h;obtain ⟨w',hrun,h1,h2⟩:=ho.drop K.keyed ht (K.key x hx) ty
 have hsz':Maps.size (D.del (K.lit x))=n - 1:=by
  have:=Maps.size_del (k:=K.lit x) (ho.tidy K.keyed);rw [hh,hi,hsz] at this;simp at this;omega
 refine ⟨w',hrun,⟨_,?_,hsz',?_,?_⟩,h2.grown⟩
 ·rw [<- hsz'];exact Zel h1
 ·intro y;unfold gdel;by_cases e:y=x
  ·rw [if_pos e,e,Maps.has_del_same]
   rfl
  ·rw [if_neg e,Maps.has_del_other (K.ne e),hh]
 ·intro y u hy zd;unfold gdel at hy;by_cases e:y=x
  ·rw [if_pos e] at hy;cases hy
  ·rw [if_neg e] at hy;rw [Maps.atKey_del_other (K.ne e),ha y u hy]
end
def ZbM (w:World) (m:Nat) (f:Bs->Option Value) (n:Nat):Prop :=
 ∃ D:DataW Value,w.ownsMap Tryz.prog 9 heldR m n D/\Maps.size D=n/\(∀ x,Maps.has D (.string x)=(f x).isSome)/\∀ x v,f x=some v->∀ zd,D.atKey (.string x) zd=.held v
theorem ZiU {w:World} {m n:Nat} {D:DataW Value} (h:w.ownsMap Tryz.prog 9 heldR m n D):w.ownsMap Tryz.prog 9 heldR m (Maps.size D) D:=by
 obtain ⟨es,clock,hb,F,_,rfl⟩:=h;refine ⟨es,clock,hb,F,?_,rfl⟩;simp [Maps.size,length_sorted]
theorem ZbM.block {w:World} {m n:Nat} {f:Bs->Option Value} (h:ZbM w m f n):∃ es clock,w.heap[m]? = some (.map es clock):=by
 obtain ⟨D,⟨es,clock,hb,_⟩,_⟩:=h;exact ⟨es,clock,hb⟩
theorem ZbM.turned {S:Nat->Prop} {w w':World} {m n:Nat} {f:Bs->Option Value} (h:ZbM w m f n) (ht:Zaa S w w') (hS:¬ S m):ZbM w' m f n:=by
 obtain ⟨D,⟨es,clock,hb,r⟩,q⟩:=h;exact ⟨D,⟨es,clock,(ht.block m (Array.getElem?_eq_some_iff.1 hb).1 hS).trans hb,r⟩,q⟩
theorem Tryz.info39:(Tryz.prog.info? 39).map (λ i=>(i.zero,i.size,i.bytes))=some (some (.slice none 0 0),1,24):=by kernel_rfl
theorem zeroS (w:World):(zeroValue 39).run Tryz.prog w=.ok (.slice none 0 0) w:=by
 obtain ⟨i0,hi0,hz0,_,_⟩:=info_parts Tryz.info39;simp [zeroValue,typeInfo,hi0,hz0]
theorem ZbM.look {w:World} {m n:Nat} {f:Bs->Option Value} (h:ZbM w m f n) (s:ByteArray) (hs:s.size<=maxLen) :
  (Instr.lookup 200 (.map (some m)) (.string s) true).run Tryz.prog w=.ok (.tuple #[(f s.data.toList).getD (.slice none 0 0),.bool (f s.data.toList).isSome]) w:=by
 obtain ⟨D,ho,_,hh,ha⟩:=h;obtain ⟨v,ps,hrun,hv⟩:=ho.look_ok keyedS Tryz.underlying200 (zeroS w) (zd:=.held (.slice none 0 0)) (zp:=[]) rfl (Zft s hs);rw [hrun,hh]
 have e:DataW.held v=D.atKey (.string s.data.toList) (.held (.slice none 0 0)):=by
  have:=Option.some.inj hv;exact congrArg Prod.fst this
 cases hf:f s.data.toList with
 | none =>
  rw [Maps.atKey_of_not_has (by rw [hh,hf]; rfl)] at e;cases e
  rfl
 | some u =>
  rw [ha _ u hf] at e;cases e
  rfl
theorem ZbM.look1 {w:World} {m n:Nat} {f:Bs->Option Value} (h:ZbM w m f n) (s:ByteArray) (hs:s.size<=maxLen) :
  (Instr.lookup 200 (.map (some m)) (.string s) false).run Tryz.prog w=.ok ((f s.data.toList).getD (.slice none 0 0)) w:=by
 obtain ⟨D,ho,_,hh,ha⟩:=h;obtain ⟨v,ps,hrun,hv⟩:=ho.lookup keyedS Tryz.underlying200 (zeroS w) (zd:=.held (.slice none 0 0)) (zp:=[]) rfl (Zft s hs);rw [hrun]
 have e:DataW.held v=D.atKey (.string s.data.toList) (.held (.slice none 0 0)):=by
  have:=Option.some.inj hv;exact congrArg Prod.fst this
 cases hf:f s.data.toList with
 | none =>
  rw [Maps.atKey_of_not_has (by rw [hh,hf]; rfl)] at e;cases e
  rfl
 | some u =>
  rw [ha _ u hf] at e;cases e
  rfl
theorem ZbM.len {w:World} {m n:Nat} {f:Bs->Option Value} (h:ZbM w m f n) (ty:TypeId):(Builtin.len_ #[200] ty #[.map (some m)]).run Tryz.prog w=.ok (.int .i64 n) w:=by
 obtain ⟨D,ho,hn,_⟩:=h;rw [ho.len Tryz.underlying200 ty,hn]
def fput (f:Bs->Option Value) (x:Bs) (v:Value):Bs->Option Value:=λ y=>if y=x then some v else f y
theorem Zmf {x y:Bs} (h:y≠x):(Lit.string y)≠(Lit.string x):=λ e=>h (by cases e; rfl)
theorem ZbM.put {w:World} {m n:Nat} {f:Bs->Option Value} (h:ZbM w m f n) (s:ByteArray) (hs:s.size<=maxLen) (hn:n<maxLen) (v:Value) :
  ∃ w',(Instr.mapUpdate 200 (.map (some m)) (.string s) v).run Tryz.prog w=.ok () w'/\ZbM w' m (fput f s.data.toList v) (if (f s.data.toList).isSome then n else n+1)/\w.grownBy w' (some m):=by
 obtain ⟨D,ho,hsz,hh,ha⟩:=h;obtain ⟨w',hrun,h1,h2⟩:=ho.update keyedS Tryz.underlying200 hn (Zft s hs) (d:=.held v) (ps:=[]) (val:=v) rfl;have hkl:WideAt.IsKeyLit (.string s.data.toList):=keyedS.key (Zft s hs)
 have hsz':Maps.size (D.put (.string s.data.toList) (.held v))=if (f s.data.toList).isSome then n else n+1:=by
  rw [Maps.size_put (ho.tidy keyedS),hh,hsz]
 refine ⟨w',hrun,⟨_,?_,hsz',?_,?_⟩,h2⟩
 ·rw [<- hsz'];exact ZiU h1
 ·intro x;unfold fput;by_cases e:x=s.data.toList
  ·rw [if_pos e,e,Maps.has_put_same ho.isMap hkl]
   rfl
  ·rw [if_neg e,Maps.has_put_other (Zmf e),hh]
 ·intro x u hx zd;unfold fput at hx;by_cases e:x=s.data.toList
  ·rw [if_pos e] at hx;cases hx;rw [e,Maps.atKey_put_same ho.isMap hkl]
  ·rw [if_neg e] at hx;rw [Maps.atKey_put_other (Zmf e),ha x u hx]
end Go.Proofs.YtmhcpbbiokpjjaaGreat
