/-
  Several texts, laid together.
-/
import Derived.Test.YtmhcpbbiokpjjaaGreatM05
import Derived.Lib.AppendStr
set_option maxHeartbeats 6400000
set_option maxRecDepth 100000
namespace Go.Proofs.YtmhcpbbiokpjjaaGreat
open Go.RowKit
structure Zcz (w:World) (m:Nat) (S:Nat->Prop) (F:Fs) (f:Bs->Option Value) (X:Bs->Prop):Prop where
 map:ZbM w m f F.length
 no:∀ x,fget F x=none->f x=none
 yes:∀ x bs,fget F x=some bs->∃ v,f x=some v/\(X x∨OwnB w v bs)
 apart:∀ x y u v g,x≠y->f x=some u->f y=some v->u.ownBlock=some g->v.ownBlock≠some g
 own:∀ x v g,f x=some v->v.ownBlock=some g->S g
structure ZaE (w:World) (b m:Nat) (f:Bs->Option Value) (a k:Int) (d:Dk) (S:Nat->Prop) (X:Bs->Prop):Prop where
 cells:w.heap[b]? = some (.cells #[.map (some m),.int .i64 (d.writes:Int),.bool d.dead,.bool d.armed,.int .i64 a,.int .i64 k] 204 (0,0))
 cut:d.armed=true->a=(d.after:Int)/\k=(d.keep:Int)
 files:Zcz w m S d.files f X
 mine:S b/\S m
 lt:∀ i,S i->i<w.heap.size
abbrev Zal (w:World) (b m:Nat) (f:Bs->Option Value) (a k:Int) (d:Dk) (S:Nat->Prop):Prop:=ZaE w b m f a k d S (λ _=>False)
def Zao (w:World) (b:Nat) (d:Dk) (S:Nat->Prop):Prop:=∃ m f a k,Zal w b m f a k d S
theorem OwnB.block {w:World} {v:Value} {bs:Bs} (h:OwnB w v bs) {g:Nat} (hg:v.ownBlock=some g):∃ cur,w.heap[g]? = some (.cells cur 5 (0,0)):=by
 rcases h.2 with ⟨rfl,_⟩ | ⟨g',cap,cur,rfl,_,hb,_⟩
 ·simp [Value.ownBlock] at hg
 ·have:g'=g:=by simpa [Value.ownBlock] using hg
  subst this;exact ⟨cur,hb⟩
theorem OwnB.turned {S:Nat->Prop} {w w':World} {v:Value} {bs:Bs} (h:OwnB w v bs) (ht:Zaa S w w') (hS:∀ g,v.ownBlock=some g->¬ S g):OwnB w' v bs:=ZaX h ht hS
theorem Zcz.turned {T S:Nat->Prop} {X:Bs->Prop} {w w':World} {m:Nat} {F:Fs} {f:Bs->Option Value} (h:Zcz w m S F f X) (ht:Zaa T w w') (hm:¬ T m) (hf:∀ x v g,f x=some v->¬ X x->v.ownBlock=some g->¬ T g):Zcz w' m S F f X where
 map:=h.map.turned ht hm
 no:=h.no
 yes:=λ x bs hx=>by
  obtain ⟨v,hv,ho⟩:=h.yes x bs hx;refine ⟨v,hv,?_⟩
  rcases ho with q | q
  ·exact .inl q
  ·by_cases hX:X x
   ·exact .inl hX
   ·exact .inr (q.turned ht (λ g hg=>hf x v g hv hX hg))
 apart:=h.apart
 own:=h.own
theorem Zcz.mono {S S':Nat->Prop} {X X':Bs->Prop} {w:World} {m:Nat} {F:Fs} {f:Bs->Option Value} (h:Zcz w m S F f X) (hS:∀ i,S i->S' i) (hX:∀ x,X x->X' x):Zcz w m S' F f X' where
 map:=h.map
 no:=h.no
 yes:=λ x bs hx=>by
  obtain ⟨v,hv,ho⟩:=h.yes x bs hx;exact ⟨v,hv,ho.imp (hX x) id⟩
 apart:=h.apart
 own:=λ x v g h1 h2=>hS g (h.own x v g h1 h2)
theorem ZaE.mono {S S':Nat->Prop} {X X':Bs->Prop} {w:World} {b m:Nat} {f:Bs->Option Value} {a k:Int} {d:Dk} (h:ZaE w b m f a k d S X) (hS:∀ i,S i->S' i) (hX:∀ x,X x->X' x) (hl:∀ i,S' i->i<w.heap.size):ZaE w b m f a k d S' X' :=
 ⟨h.cells,h.cut,h.files.mono hS hX,⟨hS _ h.mine.1,hS _ h.mine.2⟩,hl⟩
section
variable {S:Nat->Prop} {X:Bs->Prop} {w w':World} {b m:Nat} {f:Bs->Option Value} {a k:Int} {d:Dk}
theorem ZaE.lt_b (h:ZaE w b m f a k d S X):b<w.heap.size:=(Array.getElem?_eq_some_iff.1 h.cells).1
theorem ZaE.m_ne (h:ZaE w b m f a k d S X):m≠b:=by
 obtain ⟨es,c,hm⟩:=h.files.map.block;intro e;rw [e,h.cells] at hm;cases hm
theorem ZaE.file (h:ZaE w b m f a k d S X) (x:Bs):(fget d.files x=none/\f x=none)∨∃ bs v,fget d.files x=some bs/\f x=some v/\(X x∨OwnB w v bs):=by
 cases e:fget d.files x with
 | none=>exact .inl ⟨rfl,h.files.no x e⟩
 | some bs =>
  obtain ⟨v,h1,h2⟩:=h.files.yes x bs e;exact .inr ⟨bs,v,rfl,h1,h2⟩
theorem ZaE.some_iff (h:ZaE w b m f a k d S X) (x:Bs):(f x).isSome=(fget d.files x).isSome:=by
 rcases h.file x with ⟨h1,h2⟩ | ⟨bs,v,h1,h2,_⟩ <;> rw [h1,h2] <;> rfl
theorem Zal.row_ne (h:Zal w b m f a k d S) {x:Bs} {v:Value} {g:Nat} (hx:f x=some v) (hg:v.ownBlock=some g):g≠b/\g≠m:=by
 rcases h.file x with ⟨_,h2⟩ | ⟨bs,u,_,h2,ho⟩
 ·rw [h2] at hx; cases hx
 ·rw [h2] at hx;cases hx;have ho:OwnB w v bs:=ho.elim False.elim id;obtain ⟨cur,hc⟩:=ho.block hg;refine ⟨λ e=>?_,λ e=>?_⟩
  ·rw [e,h.cells] at hc; cases hc
  ·obtain ⟨es,c,hm⟩:=h.files.map.block;rw [e,hm] at hc;cases hc
theorem ZaE.cell (h:ZaE w b m f a k d S X) :
  w.cell? ⟨b,0,none⟩=some (.map (some m))/\w.cell? ⟨b,1,none⟩=some (.int .i64 (d.writes:Int))/\w.cell? ⟨b,2,none⟩=some (.bool d.dead)/\w.cell? ⟨b,3,none⟩=some (.bool d.armed) /\
  w.cell? ⟨b,4,none⟩=some (.int .i64 a)/\w.cell? ⟨b,5,none⟩=some (.int .i64 k)/\∀ i,w.frozen? ⟨b,i,none⟩=false:=by
 simp [World.cell?,World.frozen?,h.cells]
theorem Zal.wrote (h:Zal w b m f a k d S) (ht:Zaa (λ i=>i=b) w w') {d':Dk} {a' k':Int} (hf:d'.files=d.files)
  (hc:w'.heap[b]? = some (.cells #[.map (some m),.int .i64 (d'.writes:Int),.bool d'.dead,.bool d'.armed,.int .i64 a',.int .i64 k'] 204 (0,0))) (hcut:d'.armed=true->a'=(d'.after:Int)/\k'=(d'.keep:Int)):Zal w' b m f a' k' d' S :=
 ⟨hc,hcut,by rw [hf]; exact h.files.turned ht h.m_ne (λ x v g h1 _ h2=>(h.row_ne h1 h2).1),h.mine,λ i hi=>Nat.lt_of_lt_of_le (h.lt i hi) ht.size⟩
theorem ZaE.stays (h:ZaE w b m f a k d S X) {T:Nat->Prop} (ht:Zaa T w w') (hT:∀ i,S i->¬ T i):ZaE w' b m f a k d S X :=
 ⟨(ht.block b h.lt_b (hT b h.mine.1)).trans h.cells,h.cut,h.files.turned ht (hT m h.mine.2) (λ x v g h1 _ h2=>hT g (h.files.own x v g h1 h2)),h.mine,λ i hi=>Nat.lt_of_lt_of_le (h.lt i hi) ht.size⟩
theorem ZaE.below (h:ZaE w b m f a k d S X) (hb:Below w.heap.size w w'):ZaE w' b m f a k d S X:=h.stays (T:=λ _=>False) (Zaa.ofBelow hb) (λ _ _ q=>q)
theorem Zao.stays (h:Zao w b d S) {T:Nat->Prop} (ht:Zaa T w w') (hT:∀ i,S i->¬ T i):Zao w' b d S:=by
 obtain ⟨m,f,a,k,h⟩:=h;exact ⟨m,f,a,k,ZaE.stays h ht hT⟩
theorem Zao.below (h:Zao w b d S) (hb:Below w.heap.size w w'):Zao w' b d S:=h.stays (T:=λ _=>False) (Zaa.ofBelow hb) (λ _ _ q=>q)
theorem Zao.lt (h:Zao w b d S):∀ i,S i->i<w.heap.size:=by
 obtain ⟨m,f,a,k,h⟩:=h;exact ZaE.lt h
end
def Zaj (S:Nat->Prop) (w w':World):Nat->Prop:=λ i=>S i∨(w.heap.size<=i/\i<w'.heap.size)
abbrev idv (i:UInt64):Value:=.int .u64 (i.toNat:Int)
def nview (l:List (Nm UInt64)):Bs->Option Value:=λ n=>(nget l n).map idv
def Zc6 (S:Nat->Prop) (v:Value):Prop:=∀ p n c,v=.slice (some p) n c->0<n->S p.block
structure Zaq (w:World) (s b:Nat) (M:Nat->Nat) (r t:Nat) (F:Nat->UInt64->Option Value) (st:St) (S:Nat->Prop):Prop where
 cells:w.heap[s]? = some (.cells #[.pointer (some ⟨b,0,none⟩),.map (some (M 0)),.map (some (M 1)),.map (some (M 2)),.map (some (M 3)),.map (some r),.map (some t)] 176 (0,0))
 objs:∀ k,k<4->∃ n,n<=st.objs.length/\MapG kU w (M k) (F k) n
 refs:MapG kS w r (nview st.refs) st.refs.length
 tags:MapG kS w t (nview st.tags) st.tags.length
 gone:∀ k:Nat,k<4->∀ i,oget st.objs (k:Int) i=none->F k i=none
 there:∀ k:Nat,k<4->∀ i bs,oget st.objs (k:Int) i=some bs->∃ v,F k i=some v/\BAt w v bs/\Zc6 S v
 inj:∀ j k,j<4->k<4->M j=M k->j=k
 apart:(∀ k,k<4->M k≠r/\M k≠t)/\r≠t
 own:S s/\S r/\S t/\∀ k,k<4->S (M k)
 lt:∀ i,S i->i<w.heap.size
def Zac (w:World) (s b:Nat) (st:St) (S:Nat->Prop):Prop:=∃ M r t F,Zaq w s b M r t F st S
theorem ZlL {w:World} {m:Nat} {es:Array MapEntry} {c:Nat} (h:w.heap[m]? = some (.map es c)) (o:Nat):w.cell? ⟨m,o,none⟩=none:=by
 simp [World.cell?,h]
theorem BAt.no_map {w:World} {a:Option Addr} {n c m cl:Nat} {bs:Bs} {es:Array MapEntry} (h:BAt w (.slice a n c) bs) (hm:w.heap[m]? = some (.map es cl)):0<n->∀ p,a=some p->p.block≠m:=by
 intro h0 p hp e;obtain ⟨ao,c',e',h1,h2,h3⟩:=h;cases e';obtain ⟨g,off,e2,hlt,hc⟩:=h3 h0;rw [hp] at e2;cases e2;obtain ⟨x,hx⟩:=Zaf (xs:=bs) rfl h0;have:=hc 0 x hx 0 (.int .u8 (x.toNat:Int)) rfl;have e:g=m:=e;rw [e,ZlL hm] at this;cases this
section
variable {w w':World} {s b:Nat} {M:Nat->Nat} {r t:Nat} {F:Nat->UInt64->Option Value} {st:St} {S:Nat->Prop}
theorem Zaq.lt_s (h:Zaq w s b M r t F st S):s<w.heap.size:=(Array.getElem?_eq_some_iff.1 h.cells).1
theorem Zaq.map_ne (h:Zaq w s b M r t F st S):r≠s/\t≠s/\∀ k,k<4->M k≠s:=by
 refine ⟨λ e=>?_,λ e=>?_,λ k hk e=>?_⟩
 ·obtain ⟨es,c,hm⟩:=h.refs.block;rw [e,h.cells] at hm; cases hm
 ·obtain ⟨es,c,hm⟩:=h.tags.block;rw [e,h.cells] at hm; cases hm
 ·obtain ⟨n,_,hn⟩:=h.objs k hk;obtain ⟨es,c,hm⟩:=hn.block;rw [e,h.cells] at hm; cases hm
theorem Zaq.cell (h:Zaq w s b M r t F st S) :
  w.cell? ⟨s,0,none⟩=some (.pointer (some ⟨b,0,none⟩))/\w.cell? ⟨s,1,none⟩=some (.map (some (M 0)))/\w.cell? ⟨s,2,none⟩=some (.map (some (M 1)))/\w.cell? ⟨s,3,none⟩=some (.map (some (M 2))) /\
  w.cell? ⟨s,4,none⟩=some (.map (some (M 3)))/\w.cell? ⟨s,5,none⟩=some (.map (some r))/\w.cell? ⟨s,6,none⟩=some (.map (some t)):=by
 simp [World.cell?,h.cells]
theorem Zaq.mono {S':Nat->Prop} (h:Zaq w s b M r t F st S) (hS:∀ i,S i->S' i) (hl:∀ i,S' i->i<w.heap.size):Zaq w s b M r t F st S' where
 cells:=h.cells
 objs:=h.objs
 refs:=h.refs
 tags:=h.tags
 gone:=h.gone
 there:=λ k hk i bs hx=>by
  obtain ⟨v,h1,h2,h3⟩:=h.there k hk i bs hx;exact ⟨v,h1,h2,λ p n c e h0=>hS _ (h3 p n c e h0)⟩
 inj:=h.inj
 apart:=h.apart
 own:=⟨hS _ h.own.1,hS _ h.own.2.1,hS _ h.own.2.2.1,λ k hk=>hS _ (h.own.2.2.2 k hk)⟩
 lt:=hl
theorem Zi4 {v:Value} {bs:Bs} {T:Nat->Prop} (h:BAt w v bs) (hw:Zc6 S v) (ht:Zaa T w w') (hT:∀ i,S i->¬ T i):BAt w' v bs:=by
 obtain ⟨ao,c,rfl,h1,h2,h3⟩:=h;exact ⟨ao,c,rfl,h1,h2,h3.turned ht (λ h0 p hp=>hT _ (hw p _ c (by rw [hp]) h0))⟩
theorem Zaq.stays (h:Zaq w s b M r t F st S) {T:Nat->Prop} (ht:Zaa T w w') (hT:∀ i,S i->¬ T i):Zaq w' s b M r t F st S where
 cells:=(ht.block s h.lt_s (hT s h.own.1)).trans h.cells
 objs:=λ k hk=>by
  obtain ⟨n,h1,h2⟩:=h.objs k hk;exact ⟨n,h1,h2.turned ht (hT _ (h.own.2.2.2 k hk))⟩
 refs:=h.refs.turned ht (hT _ h.own.2.1)
 tags:=h.tags.turned ht (hT _ h.own.2.2.1)
 gone:=h.gone
 there:=λ k hk i bs hx=>by
  obtain ⟨v,h1,h2,h3⟩:=h.there k hk i bs hx;exact ⟨v,h1,Zi4 h2 h3 ht hT,h3⟩
 inj:=h.inj
 apart:=h.apart
 own:=h.own
 lt:=λ i hi=>Nat.lt_of_lt_of_le (h.lt i hi) ht.size
theorem Zaq.below (h:Zaq w s b M r t F st S) (hb:Below w.heap.size w w'):Zaq w' s b M r t F st S:=h.stays (T:=λ _=>False) (Zaa.ofBelow hb) (λ _ _ q=>q)
theorem ZeD {v:Value} {bs:Bs} {m cl:Nat} {es:Array MapEntry} (h:BAt w v bs) (hm:w.heap[m]? = some (.map es cl)) (ht:Zaa (λ i=>i=m) w w'):BAt w' v bs:=by
 obtain ⟨ao,c,rfl,h1,h2,h3⟩:=h;have hn:=BAt.no_map ⟨ao,c,rfl,h1,h2,h3⟩ hm;exact ⟨ao,c,rfl,h1,h2,h3.turned ht (λ h0 p hp q=>hn h0 p hp q)⟩
theorem Zaq.add (h:Zaq w s b M r t F st S) {k:Nat} (hk:k<4) {i:UInt64} (hi:oget st.objs (k:Int) i=none) {v:Value} {bs:Bs} (hv:BAt w v bs) (hw:Zc6 S v) {n:Nat} (hm:MapG kU w' (M k) (gput (F k) i v) n) (hn:n<=st.objs.length+1) (ht:Zaa (λ x=>x=M k) w w') :
  Zaq w' s b M r t (λ j=>if j=k then gput (F k) i v else F j) { st with objs:=st.objs++[⟨(k:Int),i,bs⟩] } S:=by
 obtain ⟨nk,_,hk2⟩:=h.objs k hk;obtain ⟨es,cl,hblk⟩:=hk2.block;refine ⟨?_,?_,?_,?_,?_,?_,h.inj,h.apart,h.own,λ i hi=>Nat.lt_of_lt_of_le (h.lt i hi) ht.size⟩
 ·exact (ht.block s h.lt_s (λ e=>h.map_ne.2.2 k hk e.symm)).trans h.cells
 ·intro j hj;by_cases e:j=k
  ·subst e;exact ⟨n,by simpa using hn,by simpa using hm⟩
  ·obtain ⟨nj,h1,h2⟩:=h.objs j hj;refine ⟨nj,by simp; omega,?_⟩;simp only [if_neg e];exact h2.turned ht (λ q=>e (h.inj j k hj hk q))
 ·exact h.refs.turned ht (λ q=>(h.apart.1 k hk).1 q.symm)
 ·exact h.tags.turned ht (λ q=>(h.apart.1 k hk).2 q.symm)
 ·intro j hj x hx;have hx:oget (st.objs++[⟨(k:Int),i,bs⟩]) (j:Int) x=none:=hx;rw [Zcq] at hx
  cases e:oget st.objs (j:Int) x with
  | some y=>rw [e] at hx; cases hx
  | none =>
   rw [e] at hx;by_cases q:j=k
   ·subst q
    have hne:x≠i:=λ q=>by
     subst q;simp at hx
    simp only [if_true,gput,if_neg hne];exact h.gone j hj x e
   ·simp only [if_neg q];exact h.gone j hj x e
 ·intro j hj x y hx;have hx:oget (st.objs++[⟨(k:Int),i,bs⟩]) (j:Int) x=some y:=hx;rw [Zcq] at hx
  cases e:oget st.objs (j:Int) x with
  | some z =>
   rw [e] at hx;cases hx;obtain ⟨u,h1,h2,h3⟩:=h.there j hj x y e;refine ⟨u,?_,ZeD h2 hblk ht,h3⟩;by_cases q:j=k
   ·subst q
    have hne:x≠i:=λ q=>by
     subst q;rw [hi] at e;cases e
    simp only [if_true,gput,if_neg hne];exact h1
   ·simp only [if_neg q];exact h1
  | none =>
   rw [e] at hx;by_cases q:(k:Int)=(j:Int)/\i=x
   ·simp only [q,and_self,if_true] at hx;cases hx;obtain ⟨q1,rfl⟩:=q
    obtain rfl:k=j:=by omega
    exact ⟨v,by simp [gput],ZeD hv hblk ht,hw⟩
   ·simp only [q,if_false] at hx;cases hx
theorem Zac.stays (h:Zac w s b st S) {T:Nat->Prop} (ht:Zaa T w w') (hT:∀ i,S i->¬ T i):Zac w' s b st S:=by
 obtain ⟨M,r,t,F,h⟩:=h;exact ⟨M,r,t,F,h.stays ht hT⟩
theorem Zac.below (h:Zac w s b st S) (hb:Below w.heap.size w w'):Zac w' s b st S:=h.stays (T:=λ _=>False) (Zaa.ofBelow hb) (λ _ _ q=>q)
theorem Zac.mono {S':Nat->Prop} (h:Zac w s b st S) (hS:∀ i,S i->S' i) (hl:∀ i,S' i->i<w.heap.size):Zac w s b st S':=by
 obtain ⟨M,r,t,F,h⟩:=h;exact ⟨M,r,t,F,h.mono hS hl⟩
theorem Zac.lt (h:Zac w s b st S):∀ i,S i->i<w.heap.size:=by
 obtain ⟨M,r,t,F,h⟩:=h;exact h.lt
end
def Duo (w:World) (s b:Nat) (st:St) (d:Dk) (U:Nat->Prop):Prop:=∃ S T,Zac w s b st S/\Zao w b d T/\(∀ i,S i->¬ T i)/\(∀ i,S i∨T i->U i)/\∀ i,U i->i<w.heap.size
section
variable {w w':World} {s b:Nat} {st:St} {d:Dk} {U:Nat->Prop}
theorem Duo.stays (h:Duo w s b st d U) {T:Nat->Prop} (ht:Zaa T w w') (hT:∀ i,U i->¬ T i):Duo w' s b st d U:=by
 obtain ⟨S,D,h1,h2,h3,h4,h5⟩:=h;exact ⟨S,D,h1.stays ht (λ i hi=>hT i (h4 i (.inl hi))),h2.stays ht (λ i hi=>hT i (h4 i (.inr hi))),h3,h4,λ i hi=>Nat.lt_of_lt_of_le (h5 i hi) ht.size⟩
theorem Duo.below (h:Duo w s b st d U) (hb:Below w.heap.size w w'):Duo w' s b st d U:=h.stays (T:=λ _=>False) (Zaa.ofBelow hb) (λ _ _ q=>q)
theorem Duo.mono {U':Nat->Prop} (h:Duo w s b st d U) (hU:∀ i,U i->U' i) (hl:∀ i,U' i->i<w.heap.size):Duo w s b st d U':=by
 obtain ⟨S,D,h1,h2,h3,h4,h5⟩:=h;exact ⟨S,D,h1,h2,h3,λ i hi=>hU i (h4 i hi),hl⟩
theorem Duo.lt (h:Duo w s b st d U):∀ i,U i->i<w.heap.size:=by
 obtain ⟨S,D,_,_,_,_,h5⟩:=h;exact h5
end
theorem Znx (a b:Nat) (ha:a<18446744073709551616) (hb:b<18446744073709551616):bits BinOp.or IntKind.u64 (a:Int) (b:Int)=((a ||| b:Nat):Int):=by
 have hx:a ||| b<2 ^ 64:=Nat.or_lt_two_pow ha hb
 have h1:(BitVec.ofInt 64 (a:Int)).toNat=a:=by
  rw [BitVec.ofInt_natCast,BitVec.toNat_ofNat]; exact Nat.mod_eq_of_lt (by omega)
 have h2:(BitVec.ofInt 64 (b:Int)).toNat=b:=by
  rw [BitVec.ofInt_natCast,BitVec.toNat_ofNat]; exact Nat.mod_eq_of_lt (by omega)
 show IntKind.u64.wrap ((BitVec.ofInt 64 (a:Int) ||| BitVec.ofInt 64 (b:Int)).toNat:Int)=_;rw [BitVec.toNat_or,h1,h2,IntKind.wrap_u64];omega
theorem Zjv {v:Nat} (y:UInt8) (hv:v<72057594037927936):bits BinOp.or IntKind.u64 ((v:Int)*256) (IntKind.u64.wrap (y.toNat:Int))=((v*256+y.toNat:Nat):Int):=by
 have hy:=y.toNat_lt
 have c0:(v:Int)*256=((2 ^ 8*v:Nat):Int):=by omega
 have c1:IntKind.u64.wrap (y.toNat:Int)=((y.toNat:Nat):Int):=by rw [IntKind.wrap_u64]; omega
 rw [c0,c1,Znx _ _ (by omega) (by omega),<- Nat.two_pow_add_eq_or_of_lt (by omega) _];omega
theorem ZcV {w:World} {a:Option Addr} {L c:Nat} {bs:Bs} (h:BAt w (.slice a L c) bs) (hl:bs.length=L) (h8:L<=8) :
  Calls Tryz.prog 216 #[.slice a L c] w λ e w'=>e=.returned (.int .u64 (val bs:Int))/\w'=w:=by
 have H:Hid (RdG encB w a bs/\bs.length=L):=by
  obtain ⟨ao,c',e,_,_,h3⟩:=h;cases e;exact ⟨h3,hl⟩
 clear h hl;go_enter Tryz.func216,Tryz.ntmps216;go_wp2_with fail;go_loopg [3,8] L (λ m vv iv wr=>wr=w/\∃ (i v:Nat),iv=.int .i64 i/\i+m=L/\vv=.int .u64 (v:Int)/\Hid (val (bs.take i)=v))
 case atStart=>exact ⟨rfl,0,0,rfl,by omega,rfl,rfl⟩
 case round =>
  obtain ⟨hwr,i,v,rfl,hi,rfl,HR⟩:=hrel;subst hwr;by_cases hin:i<L
  ·have id:(i:Int)<(L:Int):=by omega
   obtain ⟨b,off,rfl,hlt,hc⟩:=H.out.1 (by rw [H.out.2]; omega)
   have hil:i<bs.length:=by rw [H.out.2]; exact hin
   obtain ⟨y,hy⟩:∃ y,bs[i]=y:=⟨_,rfl⟩
   have cy:wr.cell? ⟨b,off+i,none⟩=some (.int .u8 (y.toNat:Int)):=by
    have:=hc i y (by rw [List.getElem?_eq_getElem hil,hy]) 0 _ rfl;rw [show i*encB.size+0=i from (by show i*1+0=i; omega)] at this;exact this
   have hvt:=ZeY bs i hil;have hlt2:=Zf8 (bs.take i);rw [HR.out] at hvt hlt2;rw [hy] at hvt
   have hv2:v<72057594037927936:=by
    have:(bs.take i).length<=7:=by rw [List.length_take]; omega
    have:=Nat.pow_le_pow_right (n:=256) (by decide) this
    have e:256 ^ 7=72057594037927936:=by decide
    omega
   have hor:=Zjv y hv2;have HV:Hid (val (bs.take (i+1))=v*256+y.toNat):=hvt;clear hvt hlt2 hil hc hy;go_wp2;go_roundg (gk - 1)
   case measure=>omega
   case rel=>exact ⟨rfl,i+1,v*256+y.toNat,by go_num,by omega,by go_num,HV.out⟩
  ·obtain rfl:i=L:=by omega
   have e:bs.take i=bs:=List.take_of_length_le (by rw [H.out.2]; omega)
   have HH:Hid (val bs=v):=by rw [<- e]; exact HR.out
   clear e;go_wp2;go_ret;exact ⟨by rw [HH.out]; rfl,rfl⟩
theorem Zb2 {w:World} {base:Nat} {v:Value} {bs:Bs} (n:Nat) (ho:OwnG encB 5 w base v bs) (hb:base<=w.heap.size) (hl:bs.length<=100000000000000) :
  Calls Tryz.prog 162 #[v,.int .u64 (n:Int)] w λ e w'=>∃ v',e=.returned v'/\Hid (OwnG encB 5 w' base v' (bs++low 8 n)/\Below base w w'/\Zaa (λ k=>v.ownBlock=some k) w w'):=by
 have H:Hid (OwnG encB 5 w base v bs/\base<=w.heap.size/\bs.length<=100000000000000):=⟨ho,hb,hl⟩
 clear ho hb hl;go_enter Tryz.func162,Tryz.ntmps162;go_wp2_with fail;go_loopg [0,5] 8 (λ m bv iv wr=>iv=.int .i64 (8*(m:Int) - 8)/\m<=8/\Hid (OwnG encB 5 wr base bv (bs++low (8 - m) (n / 256 ^ m))/\Below base w wr/\Zaa (λ k=>v.ownBlock=some k) w wr/\ZaS w v bv))
 case atStart=>exact ⟨rfl,Nat.le_refl _,by simpa [low] using H.out.1,Below.refl _ _,Zaa.refl _ _,ZaS.refl _ _⟩
 case round =>
  obtain ⟨rfl,hm,HR⟩:=hrel
  cases gk with
  | zero =>
   go_wp2;go_ret;exact ⟨_,rfl,by simpa using HR.out.1,HR.out.2.1,HR.out.2.2.1⟩
  | succ gk =>
   obtain ⟨y,hy⟩:∃ y:UInt8,UInt8.ofNat (n / 256 ^ gk)=y:=⟨_,rfl⟩
   have hc:(n:Int) / 2 ^ (8*(gk+1) - 8) % 256=(y.toNat:Int):=by
    have e1:((2:Int) ^ (8*gk))=((256 ^ gk:Nat):Int):=by
     rw [show (256:Nat) ^ gk=2 ^ (8*gk) by rw [Nat.pow_mul]];exact (Int.natCast_pow 2 (8*gk)).symm
    rw [<- hy,UInt8.toNat_ofNat',show 8*(gk+1) - 8=8*gk by omega,e1,<- Int.natCast_ediv];omega
   have hs:low (8 - gk) (n / 256 ^ gk)=low (8 - (gk+1)) (n / 256 ^ (gk+1))++[y]:=by
    rw [show 8 - gk=(8 - (gk+1))+1 by omega,low,hy,Nat.div_div_eq_div_mul,<- Nat.pow_succ]
   have HS:Hid _:=hs
   have hll:(bs++low (8 - (gk+1)) (n / 256 ^ (gk+1))).length<=100000000000008:=by
    rw [List.length_append,Zav];have:=H.out.2.2;omega
   clear hs hy;go_wp2_with (at_builtin; refine Zak encB 5 39 1 (.int .u8 0) rfl Tryz.info5 Tryz.underlying39 rfl (.tmp 10) (.tmp 15) rfl base _ _ y _ rfl HR.out.1 rfl (by omega) (by simp only [maxLen]; omega) (Nat.le_trans H.out.2.1 HR.out.2.1.size) _ (by first | rfl | (rw [hc]; rfl)) ?_; intro v4 w4 ho4 hb4 hm4 ht4);go_wp2;go_roundg gk
   case measure=>omega
   case rel=>exact ⟨by go_num,by omega,by rw [HS.out,<- List.append_assoc]; exact ho4,HR.out.2.1.trans hb4,HR.out.2.2.1.chain HR.out.2.2.2 ht4,HR.out.2.2.2.chain HR.out.2.1.size hm4⟩
theorem ZfI:∀ xs:Bs,Lib.strCells ⟨xs.toArray⟩=encB.all xs
 | []=>rfl
 | x::t=>by
  have ih:=ZfI t;show Lib.strCells ⟨(x::t).toArray⟩=encB.cells x++encB.all t;rw [<- ih];simp [Lib.strCells,encB]
theorem appS {ops:Array Oper} {rest:List Oper} {o:Oper} {a:Act} {w:World} {Q:Exit->Act->World->Prop} (hgd:o.guard=none) (s x:Operand)
  (hop:o.op=.call { callee:=.builtin .append,args:=#[s,x],argTypes:=#[39,9] }) (base:Nat) (v:Value) (ss xs:Bs) (hs:a.eval s=v) (hown:OwnG encB 5 w base v ss)
  (hx:a.eval x=tx xs) (hlen:ss.length+xs.length<=140737488355328) (hb:base<=w.heap.size)
  (h:∀ v' w',OwnG encB 5 w' base v' (ss++xs)->Below base w w'->Zaa (λ k=>v.ownBlock=some k) w w'->wpList Tryz.prog ops Q rest (a.put o.dst v') w') :
  wpList Tryz.prog ops Q (o::rest) a w:=by
 obtain ⟨i0,hi0,hz0,hz1,hz2⟩:=info_parts Tryz.info5
 have hsz:(⟨xs.toArray⟩:ByteArray).size=xs.length:=by show xs.toArray.size=_; simp
 refine Lib.wpList_append_own_string w hgd s x 39 9 hop base 5 i0 Tryz.underlying39 Tryz.underlying9 hi0 hz0 hz1 hz2 v ss.length (encB.all ss) hs hown ⟨xs.toArray⟩ hx (by rw [hsz]; simp only [maxLen]; omega) (by rw [hsz]; exact hlen) hb ?_;intro v' w' h1 h2 _;have ht:Zaa (λ k=>v.ownBlock=some k) w w':=(Zaa.refl _ _).grown h2 (λ k _ e=>e);refine h v' w' ?_ (OwnG.turn hown hb ht) ht;unfold OwnG;rw [List.length_append,encB.all_append];rw [hsz,ZfI] at h1;exact h1
theorem ZdX {w:World} {base:Nat} {v:Value} {bs:Bs} (s:Bs) (hs:s.length<=255) (ho:OwnG encB 5 w base v bs) (hb:base<=w.heap.size) (hl:bs.length<=100000000000000) :
  Calls Tryz.prog 161 #[v,tx s] w λ e w'=>∃ v',e=.returned v'/\Hid (OwnG encB 5 w' base v' (bs++UInt8.ofNat s.length::s)/\Below base w w'/\Zaa (λ k=>v.ownBlock=some k) w w'):=by
 have H:Hid (OwnG encB 5 w base v bs/\base<=w.heap.size/\bs.length<=100000000000000/\s.length<=255):=⟨ho,hb,hl,hs⟩
 obtain ⟨y,hy⟩:∃ y:UInt8,UInt8.ofNat s.length=y:=⟨_,rfl⟩
 have hc:(s.length:Int) % 256=(y.toNat:Int):=by
  rw [<- hy,UInt8.toNat_ofNat'];omega
 rw [hy]
 obtain ⟨t,ht⟩:∃ t:ByteArray,t=⟨s.toArray⟩:=⟨_,rfl⟩
 have hts:t.size=s.length:=by rw [ht]; show s.toArray.size=_; simp
 rw [<- hts] at hc;have HT:Hid (t=⟨s.toArray⟩):=ht;rw [show tx s=.string t by rw [ht]];clear ho hb hl hy ht hs hts;go_enter Tryz.func161,Tryz.ntmps161
 go_wp2_with (first
  | (at_builtin; refine Zak encB 5 39 1 (.int .u8 0) rfl Tryz.info5 Tryz.underlying39 rfl (.tmp 5) (.tmp 9) rfl base _ bs y _ rfl H.out.1 rfl (by have:=H.out.2.2.1; omega) (by have:=H.out.2.2.1; simp only [maxLen]; omega) H.out.2.1 _ (by first | rfl | (rw [hc]; rfl)) ?_; intro v4 w4 ho4 hb4 hm4 ht4; have H4:Hid (OwnG encB 5 w4 base v4 (bs++[y])/\Below base w w4/\Zaa (λ k=>v.ownBlock=some k) w w4/\ZaS w v v4):=⟨ho4,hb4,ht4,hm4⟩; clear ho4 hb4 hm4 ht4)
  | (at_builtin; refine appS rfl (.tmp 10) (.tmp 11) rfl base _ (bs++[y]) s rfl H4.out.1 (by show Value.string t=_; rw [HT.out]) (by have:=H.out.2.2.1; have:=H.out.2.2.2; rw [List.length_append]; simp; omega) (Nat.le_trans H.out.2.1 H4.out.2.1.size) ?_; intro v5 w5 ho5 hb5 ht5))
 go_wp2;go_ret;exact ⟨_,rfl,by rw [List.append_assoc] at ho5; exact ho5,H4.out.2.1.trans hb5,H4.out.2.2.1.chain H4.out.2.2.2 ht5⟩
end Go.Proofs.YtmhcpbbiokpjjaaGreat
