/-
  Several texts, laid together.
-/
import Derived.Maps.Ext
import Derived.Maps.OwnSet
import Derived.Maps.RangeWalk
import Derived.Sort.KeysCollected
import Derived.Test.YtlojblelpaegpaaGreatM03
set_option maxHeartbeats 6400000
set_option maxRecDepth 100000
open Go renaming World->Ap,TypeId->AP,Value->Ar,DataW->Di,length_sorted->GW,zeroValue->EC
open Array renaming getElem?_eq_some_iff->AX,getElem?_modify->BD
open Go.World renaming cell?->BC,frozen?->Cb,alloc->Fi,setCell->Ca
open Nat renaming le_trans->AZ,le_refl->Az,zero_mul->Ff
open Go.Op renaming bytesLess->BI
open Go.Maps renaming Keyed->Hh,size->Da
open Go.Value renaming slice->Aa
open Go.Obj renaming cells->Ai
open Go.Proofs.Tryz renaming prog->Am
namespace Go.Proofs.YtlojblelpaegpaaGreat
open Go.RowKit
variable{D:Di Ar}{S:Nat->Prop}{a ao:Option Addr}{base c i n:Nat}{e t:AP}{u w w' w1:Ap}{v:Ar}{α:Type}
def Box(w:Ap)(B:Nat)(t:AP)(x y:Ar):Prop:=w.heap[B]? = some (Ai #[x,y] t (0,0))
section
variable{w w':World}{B:Nat}{t:TypeId}{x y:Value}
theorem Box.lt(h:Box w B t x y):B<w.heap.size:=(AX.1 h).1
theorem Box.below(h:Box w B t x y)(a:Below w.heap.size w w'):Box w' B t x y:=(a.block B h.lt).trans h
theorem Box.turned(h:Box w B t x y)(b:Zaa S w w')(a:¬S B):Box w' B t x y:=(b.block B h.lt a).trans h
theorem Box.cells(h:Box w B t x y):w.cell? ⟨B,0,none⟩=some x/\w.cell? ⟨B,1,none⟩=some y:=by
 unfold Box at h;simp[BC,h]
theorem Box.thaw(h:Box w B t x y):w.frozen? ⟨B,0,none⟩=false/\w.frozen? ⟨B,1,none⟩=false:=by
 unfold Box at h;simp[Cb,h]
theorem Box.new(w:Ap)(t:AP)(x y:Ar):Box (w.alloc (Ai #[x,y] t)) w.heap.size t x y:=by
 unfold Box Fi;simp
theorem Box.put(h:Box w B t x y)(a b:Ar):Box ((w.setCell ⟨B,0,none⟩ a).setCell ⟨B,1,none⟩ b) B t a b:=by
 unfold Box at h ⊢;simp[Ca,BD,h]
theorem Box.put0(h:Box w B t x y)(a:Ar):Box (w.setCell ⟨B,0,none⟩ a) B t a y:=by
 unfold Box at h ⊢;simp[Ca,BD,h]
end
def Box4(w:Ap)(B:Nat)(t:AP)(x y z v:Ar):Prop:=w.heap[B]? = some (Ai #[x,y,z,v] t (0,0))
section
variable{w w':World}{B:Nat}{t:TypeId}{x y z v:Value}
theorem Box4.lt(h:Box4 w B t x y z v):B<w.heap.size:=(AX.1 h).1
theorem Box4.below{K:Nat}(h:Box4 w B t x y z v)(b:Below K w w')(a:B<K):Box4 w' B t x y z v:=(b.block B a).trans h
theorem Box4.turned(h:Box4 w B t x y z v)(b:Zaa S w w')(a:¬S B):Box4 w' B t x y z v:=(b.block B h.lt a).trans h
theorem Box4.cells(h:Box4 w B t x y z v):w.cell? ⟨B,0,none⟩=some x/\w.cell? ⟨B,1,none⟩=some y/\w.cell? ⟨B,2,none⟩=some z/\w.cell? ⟨B,3,none⟩=some v:=by
 unfold Box4 at h;simp[BC,h]
theorem Box4.thaw(h:Box4 w B t x y z v):w.frozen? ⟨B,0,none⟩=false/\w.frozen? ⟨B,1,none⟩=false/\w.frozen? ⟨B,2,none⟩=false/\w.frozen? ⟨B,3,none⟩=false:=by
 unfold Box4 at h;simp[Cb,h]
theorem Box4.new(w:Ap)(t:AP)(x y z v:Ar):Box4 (w.alloc (Ai #[x,y,z,v] t)) w.heap.size t x y z v:=by
 unfold Box4 Fi;simp
theorem Box4.put1(h:Box4 w B t x y z v)(a:Ar):Box4 (w.setCell ⟨B,1,none⟩ a) B t x a z v:=by
 unfold Box4 at h ⊢;simp[Ca,BD,h]
theorem Box4.put2(h:Box4 w B t x y z v)(a:Ar):Box4 (w.setCell ⟨B,2,none⟩ a) B t x y a v:=by
 unfold Box4 at h ⊢;simp[Ca,BD,h]
theorem Box4.put3(h:Box4 w B t x y z v)(v':Ar):Box4 (w.setCell ⟨B,3,none⟩ v') B t x y z v':=by
 unfold Box4 at h ⊢;simp[Ca,BD,h]
end
theorem Zaa.chain{b:Ap}{a:Ar}(h:Zaa (λ k=>v.ownBlock=some k) w w1)(m:ZaP w v a)(k:Zaa (λ k=>a.ownBlock=some k) w1 b):Zaa (λ k=>v.ownBlock=some k) w b :=
 h.trans k (λ i hi q=>by
  rcases m with e|e
  ·rw[<- e];exact q
  ·have:=e i q
   omega)
theorem ZaP.refl(w:Ap)(v:Ar):ZaP w v v:=.inl rfl
theorem ZaP.chain{b c:Ar}(h:ZaP w v b)(d:w.heap.size<=w1.heap.size)(k:ZaP w1 b c):ZaP w v c:=by
 rcases k with e|e
 ·rcases h with f|f
  ·exact .inl (e.trans f)
  ·exact .inr (λ g a=>f g (by rw[<- e];exact a))
 ·exact .inr (λ g a=>AZ d (e g a))
theorem BAt.turned{bs:Bs}(h:BAt w (Aa a n c) bs)(i:Zaa S w w')(g:0<n->∀p,a=some p->¬S p.block):BAt w' (Aa a n c) bs:=by
 obtain⟨ao,c',e,b,d,f⟩:=h;cases e;exact⟨a,c,rfl,b,d,f.turned i g⟩
theorem Zpd{R:Nat}(h:R<w.heap.size)(a:Zaa (λ i=>i=R) w w'):Below R w w':=a.below (Nat.le_of_lt h) (λ k b q=>by have c:k=R:=q;omega)
theorem ZaY(x y:Bs):BI x y=decide (x<y):=by
 induction x generalizing y with
 | nil=>cases y <;> simp[BI]
 | cons a x f =>
  cases y with
  | nil=>simp[BI]
  | cons b y =>
   rw[BI,f y,Bool.eq_iff_iff]
   by_cases c:a<b <;> by_cases d:a=b <;> by_cases e:x<y <;> simp[List.cons_lt_cons_iff,c,d,e]
def encU:Enc UInt64:=⟨λ x=>[.int .u64 (x.toNat:Int)],1,λ _=>rfl,by decide,by intro x u h;simp at h;subst h;rfl⟩
theorem RdG.nums {w:World} {b off:Nat} {xs:List UInt64} (h:RdG encU w (some ⟨b,off,none⟩) xs) {i:Nat} {x:UInt64} (hx:xs[i]? = some x):b<w.heap.size/\w.cell? ⟨b,off+i,none⟩=some (.int .u64 (x.toNat:Int)):=by
 obtain ⟨b', off', e', hlt, hc⟩ := h (by rcases Nat.lt_or_ge i xs.length with q | q
                                         · omega
                                         · rw [List.getElem?_eq_none q] at hx; cases hx)
 obtain ⟨rfl,rfl⟩:b=b'/\off=off':=by simpa using e'
 have h0:=hc i x hx 0 _ rfl;exact ⟨hlt,by simpa [encU] using h0⟩
theorem ZeB{es:List α}{p:α->Bool}{e:α}(h:es[i]? = some e)(a:(es.take i).any p=false)(b:p e=false):(es.take (i+1)).any p=false:=by
 rw[List.take_add_one,h,List.any_append,a];simp[b]
theorem Zjo{es:List α}{p:α->Bool}{e:α}(h:es[i]? = some e)(a:p e=true):es.any p=true :=
 List.any_eq_true.2 ⟨e,List.mem_of_getElem? h,a⟩
theorem bdrewN(w:Ap)(m:Nat):Below w.heap.size w (w.drewN m):=⟨rfl,rfl,rfl,Az _,λ _ _=>rfl⟩
theorem Zf6(E:Enc α)(e t a:Nat)(z:Ar)(d:(Am.info? e).map (λ i=>(i.zero,i.size,i.bytes))=some (some z,E.size,a))(q:Am.underlying t=some (.slice e))(p:Am.elem t=e){k:Nat}(u:n<=c)(v:k<=n):
  ∃m c',(∀w,(Instr.slice t (Aa ao n c) none (some (.int .i64 (k:Int))) none).run Am w=.ok (Aa m k c') w)/\k<=c'/\c'<=c/\∀w (xs:List α),RdG E w ao xs->RdG E w m (xs.take k):=by
 obtain⟨i0,g,r,l,s⟩:=info_parts d;refine⟨if c=0 then ao else ao.map (·.add 0),c,λ w=>?_,by omega,Az _,?_⟩
 ·rw[run_slice_h w t ao n c (by rw[p];exact q) .i64 (k:Int) (by omega) (by omega)]
  have:(sizeOf (Am.elem t)).run Am w=.ok E.size w:=by
   rw[p];simp[sizeOf,typeInfo,g,l]
  rw[this];simp only[Result.andThen,sliced,Int.toNat_natCast,Ff,Nat.sub_zero]
 ·intro w xs h
  split
  ·exact h.take k
  ·intro o;obtain⟨b,off,rfl,j,f⟩:=h (by simp at o;omega);simp only[Option.map_some,Zap,Nat.add_zero];exact RdG.take (λ _=>⟨b,off,rfl,j,f⟩) k o
theorem Ziq(w:Ap)(x y z v g i j v' c d e b:Ar)(t f a:AP):
  Box4 (((w.alloc (Ai #[x,y,z,v] t)).alloc (Ai #[g,i,j,v'] f)).alloc (Ai #[c,d,e,b] a)) w.heap.size t x y z v /\
  Box4 (((w.alloc (Ai #[x,y,z,v] t)).alloc (Ai #[g,i,j,v'] f)).alloc (Ai #[c,d,e,b] a)) (w.heap.size+1) f g i j v' /\
  Box4 (((w.alloc (Ai #[x,y,z,v] t)).alloc (Ai #[g,i,j,v'] f)).alloc (Ai #[c,d,e,b] a)) (w.heap.size+2) a c d e b:=by
 have s1:(w.alloc (Ai #[x,y,z,v] t)).heap.size=w.heap.size+1:=by simp
 have s2:((w.alloc (Ai #[x,y,z,v] t)).alloc (Ai #[g,i,j,v'] f)).heap.size=w.heap.size+2:=by simp
 refine⟨?_,?_,?_⟩
 ·have h:=Box4.new w t x y z v;exact(h.below (bz1 _ (Ai #[g,i,j,v'] f)) (by rw[s1];omega)).below (bz1 _ (Ai #[c,d,e,b] a)) (by rw[s2];omega)
 ·have h:=Box4.new (w.alloc (Ai #[x,y,z,v] t)) f g i j v';rw[s1]at h;exact h.below (bz1 _ (Ai #[c,d,e,b] a)) (by rw[s2];omega)
 ·have h:=Box4.new ((w.alloc (Ai #[x,y,z,v] t)).alloc (Ai #[g,i,j,v'] f)) a c d e b;rw[s2]at h;exact h
theorem OwnG.rdc{E:Enc α}{cap:Nat}{xs:List α}(h:OwnG E e w base (Aa ao n cap) xs):RdG E w ao xs/\n<=cap:=by
 have d:xs.length=n:=Zam h;obtain⟨a,c,q,b,_,r,_⟩:=OwnG.form h;rw[d]at q b;cases q;exact⟨r,b⟩
theorem ZaC(w:Ap)(Q:Nat)(a b c d:Ar):Zaa (λ i=>i=Q) w ((((w.setCell ⟨Q,0,none⟩ a).setCell ⟨Q,1,none⟩ b).setCell ⟨Q,2,none⟩ c).setCell ⟨Q,3,none⟩ d) :=
 ((((Zaa.refl (λ i=>i=Q) w).setCell (p:=⟨Q,0,none⟩) (.inl (show Q=Q from rfl)) a).setCell (p:=⟨Q,1,none⟩) (.inl (show Q=Q from rfl)) b).setCell (p:=⟨Q,2,none⟩) (.inl (show Q=Q from rfl)) c).setCell (p:=⟨Q,3,none⟩) (.inl (show Q=Q from rfl)) d
theorem bz3(u:Ap)(a b c:Obj):Below u.heap.size u (((u.alloc a).alloc b).alloc c):=(bz2 u a b).trans ((bz1 _ c).mono (bz2 u a b).size)
theorem keepA{o:Obj}(h:Hid (Below w1.heap.size w1 u)):Hid (Below w1.heap.size w1 (u.alloc o)):=h.o.trans ((bz1 u o).mono h.o.size)
theorem keepD(h:Hid (Below w1.heap.size w1 u)):Hid (Below w1.heap.size w1 u.drew):=h.o.drew
theorem ZoN{b:Array Oper}{o:Oper}{a:Act}{K:Act->Ap->Prop}{Q:Exit->Act->Ap->Prop}{X:Prop}(j:o.guard=none)(x:Operand)(f:Nat)(ts:Array AP)
  (c:o.op=.call { callee:=.value (.func f),args:=#[x],argTypes:=ts }) (d:∀args w,(callFunc f args).run Am w=.ok (.enter f args) w) (u v:Ar) (l:a.eval x=u)
  (g:Calls Am f #[u] w λ e w'=>e=.returned v/\w'=w) (h:K (a.put o.dst v) w) :
  if Region.wanted o (yielded b a.tmps)=true then Oper.wp Am o a w K Q else X:=by
 have k:Region.wanted o (yielded b a.tmps)=true:=by simp[Region.wanted,j]
 rw[AE k];unfold Oper.wp
 have e:(execOp a.eval o).run Am w=.ok (.enter f #[u]) w:=by
  have i:a.eval (.func f)=.func (.func f) #[] #[]:=rfl;simp[execOp,c,resolve,invoke,l,i,Deferred.ofValue,d]
 rw[e,Oper.upon_enter];refine g.mono ?_;rintro e w' ⟨rfl,rfl⟩;exact h
theorem Znb(w:Ap)(x y z v b c d v':Ar)(t a:AP):
  Box4 ((w.alloc (Ai #[x,y,z,v] t)).alloc (Ai #[b,c,d,v'] a)).drew w.heap.size t x y z v /\
  Box4 ((w.alloc (Ai #[x,y,z,v] t)).alloc (Ai #[b,c,d,v'] a)).drew (w.heap.size+1) a b c d v' /\
  Below w.heap.size w ((w.alloc (Ai #[x,y,z,v] t)).alloc (Ai #[b,c,d,v'] a)).drew:=by
 have s1:(w.alloc (Ai #[x,y,z,v] t)).heap.size=w.heap.size+1:=by simp
 refine⟨?_,?_,(bz2 _ _ _).drew⟩
 ·exact(Box4.new w t x y z v).below (bz1 _ (Ai #[b,c,d,v'] a)).drew (by rw[s1];omega)
 ·have h:=Box4.new (w.alloc (Ai #[x,y,z,v] t)) a b c d v';rw[s1]at h;exact h
theorem Zld(E:Enc α)(w:Ap)(y:α)(t:AP)(c:Array Ar)(b:c=(E.cells y).toArray):RdG E (w.alloc (Ai c t)) (some ⟨w.heap.size,0,none⟩) [y]:=by
 subst b;intro _;refine⟨w.heap.size,0,rfl,by simp,?_⟩;intro i x a j u d
 have hi:i=0:=by
  rcases Nat.eq_zero_or_pos i with q|q
  ·exact q
  ·rw[List.getElem?_eq_none (by simp;omega)]at a;cases a
 subst hi;cases a;have:=Zau E w y t j u d;rw[Zap]at this;rw[Ff,Nat.zero_add];exact this
theorem OwnG.whole{E:Enc α}{xs:List α}(h:OwnG E e w base v xs)(d:xs.length=n):∃a c,v=Aa a n c/\n<=c/\RdG E w a xs:=by
 obtain⟨a,c,q,b,_,r,_⟩:=OwnG.form h;rw[d]at q b;exact⟨a,c,q,b,r⟩
theorem ZaT(bs:Bs)(i j:Nat):((⟨bs.toArray⟩:ByteArray).extract i j).data.toList=(bs.drop i).take (j - i):=by
 simp[ByteArray.data_extract,List.extract_eq_take_drop]
theorem ZfX{a:Ap}{b2:Nat}(c:Below w.heap.size w a)(d:w.heap.size<=b2)(v0 b:Ar):
  Below w.heap.size w ((a.setCell ⟨b2,0,none⟩ v0).setCell ⟨b2,1,none⟩ b)/\Zaa (λ i=>i=b2) a ((a.setCell ⟨b2,0,none⟩ v0).setCell ⟨b2,1,none⟩ b):=by
 have t:Zaa (λ i=>i=b2) a ((a.setCell ⟨b2,0,none⟩ v0).setCell ⟨b2,1,none⟩ b) :=
  ((Zaa.refl (λ i=>i=b2) a).setCell (p:=⟨b2,0,none⟩) (.inl (show b2=b2 from rfl)) v0).setCell (p:=⟨b2,1,none⟩) (.inl (show b2=b2 from rfl)) b
 exact⟨c.trans (t.below c.size (λ i hi q=>by have e:i=b2:=q;omega)),t⟩
def ZaM(w:Ap)(pa:Option Addr)(n:Nat):Prop:=0<n->∀p,pa=some p->w.heap.size<=p.block
theorem ZaM.none(w:Ap)(n:Nat):ZaM w none n:=λ _ _ h=>by cases h
theorem OwnG.newRow{E:Enc α}{B:Nat}{xs:List α}(h:OwnG E e w' B (Aa a n c) xs)(j:w.heap.size<=B):ZaM w a n:=by
 intro m p hp;obtain⟨a1,l,b,_,_,_,i⟩:=OwnG.form h;simp only[Value.slice.injEq]at b;obtain⟨g,f⟩:=i (by omega);have d:a=some ⟨g,0,Option.none⟩:=b.1.trans f;have k:=(h.lt g (by rw[d];rfl)).1;rw[d]at hp;cases hp;exact AZ j k
def heldR(v:Ar):Option (Di Ar×List MemPlace):=some (.held v,[])
theorem keyedS:Hh Am 9:=Maps.string_keyed Tryz.underlying9
theorem ZgZ (s:ByteArray) (h:s.size<=maxLen):keyOf Tryz.prog 9 (.string s)=some (.string s.data.toList):=WideMaps.keyOf_string_mk Tryz.underlying9 h
structure KeyK(α:Type) where
 ty:AP
 val:α->Ar
 lit:α->Lit
 fit:α->Prop
 keyed:Hh Am ty
 key:∀x,fit x->keyOf Am ty (val x)=some (lit x)
 inj:∀{x y},lit x=lit y->x=y
def kU:KeyK UInt64 where
 ty:=44
 val:=λ x=>.int .u64 (x.toNat:Int)
 lit:=λ x=>.int .u64 (x.toNat:Int)
 fit:=λ _=>True
 keyed:=Maps.int_keyed Tryz.underlying44
 key:=λ x _=>Maps.keyOf_int_mk Tryz.underlying44 (by
  have:=x.toNat_lt;simp [Lit.wf,IntKind.min,IntKind.max,IntKind.signed,IntKind.bits]
  omega)
 inj:=λ {x y} h=>by
  injection h with _ h
  exact UInt64.toNat_inj.1 (by omega)
def kS:KeyK Bs where
 ty:=9
 val:=λ x=>.string ⟨x.toArray⟩
 lit:=λ x=>.string x
 fit:=λ x=>x.length<=maxLen
 keyed:=keyedS
 key:=λ x h=>ZgZ ⟨x.toArray⟩ (by simpa [ByteArray.size] using h)
 inj:=λ h=>by cases h; rfl
section
variable{α:Type}(K:KeyK α)
def MapG(w:Ap)(m:Nat)(f:α->Option Ar)(n:Nat):Prop :=
 ∃D:Di Ar,w.ownsMap Am K.ty heldR m n D/\Da D=n/\(∀x,Maps.has D (K.lit x)=(f x).isSome)/\∀x v,f x=some v->∀zd,D.atKey (K.lit x) zd=.held v
variable{K}{w w':World}{m n:Nat}{f:α->Option Value}
theorem Ze3(h:w.ownsMap Am K.ty heldR m n D):w.ownsMap Am K.ty heldR m (Da D) D:=by
 obtain⟨es,a,b,F,_,rfl⟩:=h;refine⟨es,a,b,F,?_,rfl⟩;simp[Da,GW]
theorem MapG.block(h:MapG K w m f n):∃es a,w.heap[m]? = some (.map es a):=by
 obtain⟨D,⟨es,a,b,_⟩,_⟩:=h;exact⟨es,a,b⟩
theorem MapG.lt(h:MapG K w m f n):m<w.heap.size:=by
 obtain⟨D,a,_⟩:=h;exact a.lt
theorem MapG.turned(h:MapG K w m f n)(d:Zaa S w w')(c:¬S m):MapG K w' m f n:=by
 obtain⟨D,⟨es,a,b,r⟩,q⟩:=h;exact⟨D,⟨es,a,(d.block m (AX.1 b).1 c).trans b,r⟩,q⟩
theorem MapG.new(a:w.heap[m]? = some (.map #[] 0)):MapG K w m (λ _=>none) 0 :=
 ⟨.map [],⟨#[],0,a,⟨by simp,MapKept.stamped_empty 0,by simp⟩,Az _,rfl⟩,rfl,λ _=>rfl,λ _ _ h=>by cases h⟩
theorem MapG.look(h:MapG K w m f n)(i:Am.underlying t=some (.map K.ty e)){z:Ar}(l:(EC e).run Am w=.ok z w)(x:α)(k:K.fit x):
  (Instr.lookup t (.map (some m)) (K.val x) true).run Am w=.ok (.tuple #[(f x).getD z,.bool (f x).isSome]) w:=by
 obtain⟨D,g,_,c,d⟩:=h;obtain⟨v,ps,a,j⟩:=g.look_ok K.keyed i l (zd:=.held z) (zp:=[]) rfl (K.key x k);rw[a,c]
 have e:DataW.held v=D.atKey (K.lit x) (.held z):=by
  have:=Option.some.inj j;exact A4 Prod.fst this
 cases b:f x with
 | none =>
  rw[Maps.atKey_of_not_has (by rw[c,b];rfl)]at e;cases e
  rfl
 | some u =>
  rw[d _ u b]at e;cases e
  rfl
def gput [DecidableEq α] (f:α->Option Ar) (x:α) (v:Ar):α->Option Ar:=λ y=>if y=x then some v else f y
def gdel [DecidableEq α] (f:α->Option Ar) (x:α):α->Option Ar:=λ y=>if y=x then none else f y
theorem KeyK.ne(K:KeyK α){x y:α}(h:y≠x):K.lit y≠K.lit x:=λ e=>h (K.inj e)
theorem MapG.put [DecidableEq α] (h:MapG K w m f n) (s:Am.underlying t=some (.map K.ty e)) (x:α) (l:K.fit x) (r:n<maxLen) (v:Ar) :
  ∃w',(Instr.mapUpdate t (.map (some m)) (K.val x) v).run Am w=.ok () w'/\MapG K w' m (gput f x v) (if(f x).isSome then n else n+1)/\w.grownBy w' (some m):=by
 obtain⟨D,i,j,k,q⟩:=h;obtain⟨w',c,o,p⟩:=i.update K.keyed s r (K.key x l) (d:=.held v) (ps:=[]) (val:=v) rfl;have b:WideAt.IsKeyLit (K.lit x):=K.keyed.key (K.key x l)
 have a:Da (D.put (K.lit x) (.held v))=if(f x).isSome then n else n+1:=by
  rw[Maps.size_put (i.tidy K.keyed),k,j]
 refine⟨w',c,⟨_,?_,a,?_,?_⟩,p⟩
 ·rw[<- a];exact Ze3 o
 ·intro y;unfold gput;by_cases e:y=x
  ·rw[AE e,e,Maps.has_put_same i.isMap b]
   rfl
  ·rw[Aw e,Maps.has_put_other (K.ne e),k]
 ·intro y u g zd;unfold gput at g;by_cases e:y=x
  ·rw[AE e]at g;cases g;rw[e,Maps.atKey_put_same i.isMap b]
  ·rw[Aw e]at g;rw[Maps.atKey_put_other (K.ne e),q y u g]
theorem MapG.del [DecidableEq α] (h:MapG K w m f n) (p:Am.underlying t=some (.map K.ty e)) (x:α) (q:K.fit x) (hi:(f x).isSome=true) (r ty:AP) :
  ∃w',(Builtin.delete_ #[t,r] ty #[.map (some m),K.val x]).run Am w=.ok (.tuple #[]) w'/\MapG K w' m (gdel f x) (n - 1)/\w.grownBy w' (some m):=by
 obtain⟨D,i,d,g,o⟩:=h;obtain⟨w',b,j,l⟩:=i.drop K.keyed p (K.key x q) ty
 have a:Da (D.del (K.lit x))=n - 1:=by
  have:=Maps.size_del (k:=K.lit x) (i.tidy K.keyed);rw[g,hi,d]at this;simp at this;omega
 refine⟨w',b,⟨_,?_,a,?_,?_⟩,l.grown⟩
 ·rw[<- a];exact Ze3 j
 ·intro y;unfold gdel;by_cases e:y=x
  ·rw[AE e,e,Maps.has_del_same]
   rfl
  ·rw[Aw e,Maps.has_del_other (K.ne e),g]
 ·intro y u c zd;unfold gdel at c;by_cases e:y=x
  ·rw[AE e]at c;cases c
  ·rw[Aw e]at c;rw[Maps.atKey_del_other (K.ne e),o y u c]
end
def Zb2 (w:World) (m:Nat) (f:Bs->Option Value) (n:Nat):Prop :=
 ∃ D:DataW Value,w.ownsMap Tryz.prog 9 heldR m n D/\Maps.size D=n/\(∀ x,Maps.has D (.string x)=(f x).isSome)/\∀ x v,f x=some v->∀ zd,D.atKey (.string x) zd=.held v
theorem Zm9{m:Nat}(h:w.ownsMap Am 9 heldR m n D):w.ownsMap Am 9 heldR m (Da D) D:=by
 obtain⟨es,a,b,F,_,rfl⟩:=h;refine⟨es,a,b,F,?_,rfl⟩;simp[Da,GW]
theorem Zb2.block {w:World} {m n:Nat} {f:Bs->Option Value} (h:Zb2 w m f n):∃ es clock,w.heap[m]? = some (.map es clock):=by
 obtain ⟨D,⟨es,clock,hb,_⟩,_⟩:=h;exact ⟨es,clock,hb⟩
theorem Zb2.turned {S:Nat->Prop} {w w':World} {m n:Nat} {f:Bs->Option Value} (h:Zb2 w m f n) (ht:Zaa S w w') (hS:¬ S m):Zb2 w' m f n:=by
 obtain ⟨D,⟨es,clock,hb,r⟩,q⟩:=h;exact ⟨D,⟨es,clock,(ht.block m (Array.getElem?_eq_some_iff.1 hb).1 hS).trans hb,r⟩,q⟩
theorem Tryz.info61:(Am.info? 61).map (λ i=>(i.zero,i.size,i.bytes))=some (some (Aa none 0 0),1,24):=by kernel_rfl
theorem zeroS(w:Ap):(EC 61).run Am w=.ok (Aa none 0 0) w:=by
 obtain⟨i0,a,b,_,_⟩:=info_parts Tryz.info61;simp[EC,typeInfo,a,b]
theorem Zb2.look {w:World} {m n:Nat} {f:Bs->Option Value} (h:Zb2 w m f n) (s:ByteArray) (hs:s.size<=maxLen) :
  (Instr.lookup 209 (.map (some m)) (.string s) true).run Tryz.prog w=.ok (.tuple #[(f s.data.toList).getD (.slice none 0 0),.bool (f s.data.toList).isSome]) w:=by
 obtain ⟨D,ho,_,hh,ha⟩:=h;obtain ⟨v,ps,hrun,hv⟩:=ho.look_ok keyedS Tryz.underlying209 (zeroS w) (zd:=.held (.slice none 0 0)) (zp:=[]) rfl (ZgZ s hs);rw [hrun,hh]
 have e:DataW.held v=D.atKey (.string s.data.toList) (.held (.slice none 0 0)):=by
  have:=Option.some.inj hv;exact congrArg Prod.fst this
 cases hf:f s.data.toList with
 | none =>
  rw [Maps.atKey_of_not_has (by rw [hh,hf]; rfl)] at e;cases e
  rfl
 | some u =>
  rw [ha _ u hf] at e;cases e
  rfl
theorem Zb2.look1 {w:World} {m n:Nat} {f:Bs->Option Value} (h:Zb2 w m f n) (s:ByteArray) (hs:s.size<=maxLen) :
  (Instr.lookup 209 (.map (some m)) (.string s) false).run Tryz.prog w=.ok ((f s.data.toList).getD (.slice none 0 0)) w:=by
 obtain ⟨D,ho,_,hh,ha⟩:=h;obtain ⟨v,ps,hrun,hv⟩:=ho.lookup keyedS Tryz.underlying209 (zeroS w) (zd:=.held (.slice none 0 0)) (zp:=[]) rfl (ZgZ s hs);rw [hrun]
 have e:DataW.held v=D.atKey (.string s.data.toList) (.held (.slice none 0 0)):=by
  have:=Option.some.inj hv;exact congrArg Prod.fst this
 cases hf:f s.data.toList with
 | none =>
  rw [Maps.atKey_of_not_has (by rw [hh,hf]; rfl)] at e;cases e
  rfl
 | some u =>
  rw [ha _ u hf] at e;cases e
  rfl
theorem Zb2.len {w:World} {m n:Nat} {f:Bs->Option Value} (h:Zb2 w m f n) (ty:TypeId):(Builtin.len_ #[209] ty #[.map (some m)]).run Tryz.prog w=.ok (.int .i64 n) w:=by
 obtain ⟨D,ho,hn,_⟩:=h;rw [ho.len Tryz.underlying209 ty,hn]
def fput(f:Bs->Option Ar)(x:Bs)(v:Ar):Bs->Option Ar:=λ y=>if y=x then some v else f y
theorem Zo7{x y:Bs}(h:y≠x):(Lit.string y)≠(Lit.string x):=λ e=>h (by cases e;rfl)
theorem Zb2.put {w:World} {m n:Nat} {f:Bs->Option Value} (h:Zb2 w m f n) (s:ByteArray) (hs:s.size<=maxLen) (hn:n<maxLen) (v:Value) :
  ∃ w',(Instr.mapUpdate 209 (.map (some m)) (.string s) v).run Tryz.prog w=.ok () w'/\Zb2 w' m (fput f s.data.toList v) (if (f s.data.toList).isSome then n else n+1)/\w.grownBy w' (some m):=by
 obtain ⟨D,ho,hsz,hh,ha⟩:=h;obtain ⟨w',hrun,h1,h2⟩:=ho.update keyedS Tryz.underlying209 hn (ZgZ s hs) (d:=.held v) (ps:=[]) (val:=v) rfl;have hkl:WideAt.IsKeyLit (.string s.data.toList):=keyedS.key (ZgZ s hs)
 have hsz':Maps.size (D.put (.string s.data.toList) (.held v))=if (f s.data.toList).isSome then n else n+1:=by
  rw [Maps.size_put (ho.tidy keyedS),hh,hsz]
 refine ⟨w',hrun,⟨_,?_,hsz',?_,?_⟩,h2⟩
 ·rw [<- hsz'];exact Zm9 h1
 ·intro x;unfold fput;by_cases e:x=s.data.toList
  ·rw [if_pos e,e,Maps.has_put_same ho.isMap hkl]
   rfl
  ·rw [if_neg e,Maps.has_put_other (Zo7 e),hh]
 ·intro x u hx zd;unfold fput at hx;by_cases e:x=s.data.toList
  ·rw [if_pos e] at hx;cases hx;rw [e,Maps.atKey_put_same ho.isMap hkl]
  ·rw [if_neg e] at hx;rw [Maps.atKey_put_other (Zo7 e),ha x u hx]
end Go.Proofs.YtlojblelpaegpaaGreat
