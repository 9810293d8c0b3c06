/-
  Several texts, laid together.
-/
import Derived.Test.YtlojblelpaegpaaGreatM21
import Derived.Lib.SlicesCompact
import Derived.Sort.Walk0
set_option maxHeartbeats 6400000
set_option maxRecDepth 100000
open List renaming getElem?_eq_getElem->Aq,replicate->Bb,length_replicate->DQ,take_of_length_le->Av,length_cons->A3,length_set->DA,getElem?_set_ne->CA,getElem?_set_self->Cl,ext_getElem?->Cu,getElem?_eq_none->AL,size_toArray->C3,getElem_mem->Cx,mem_append->AK,mem_singleton->A2,le_antisymm->Ez,mem_cons_self->Ba,pairwise_cons->Bn,mem_cons->Bw,any_eq_true->D7
open Go renaming World->Ap,Value->Ar,info_parts->Cd,run_make_full->Ge,maxLen->AG,madeCells->Gj,toList_madeCells_one->Gf,Calls->At,bytes->Bt,bodyPost_ret->As,results_tmp2->AA,callFunc->Cq
open Go.Instr renaming makeSlice->ER
open Go.RowKit renaming Below->An
open Nat renaming le_refl->Az,mul_one->Dc,succ_mul->Gk,mul_le_mul_right->Dd,div_lt_of_lt_mul->Fz,mul_comm->DV,mod_lt->FS,div_add_mod->Gn
open Go.RowKit.Below renaming refl->Ao
open Go.Value renaming int->Ab,slice->Aa,bool->Ad,string->Ae,pointer->Ah
open Go.Ending renaming returned->Aj
open Go.IntKind renaming i64->Ak,u64->Al
open Go.Proofs.Tryz renaming prog->Am
open Go.Proofs.Tryz
namespace Go.Proofs.YtlojblelpaegpaaGreat
open Go.RowKit
variable{a:List Bs}{ao:Option Addr}{b bs p:Bs}{base c cap g i n:Nat}{m:Int}{v:Ar}{w w':Ap}{α:Type}
def xints(bs:Bs):List Int:=bs.map (λ b=>(b.toNat:Int))
theorem ZmZ{j:Nat}(a:j<bs.length):(xints bs).getD j 0=(bs[j].toNat:Int):=by
 simp[xints,List.getD,Aq a]
theorem BAt.xbytes(h:BAt w v bs):Zcn w v (xints bs):=by
 obtain⟨ao,c,rfl,k,l,e⟩:=h;refine⟨ao,c,by simp[xints],by simp[xints];omega,?_⟩;by_cases d:0<bs.length
 ·obtain⟨b,off,rfl,i,f⟩:=e d;refine .inr ⟨b,off,rfl,λ j g=>?_⟩
  have a:j<bs.length:=by simpa[xints]using g
  rw[ZmZ a];have:=f j bs[j] (Aq a) 0 _ rfl;rw[show off+(j*encB.size+0)=off+j from(by show off+(j*1+0)=off+j;omega)]at this;exact this
 ·obtain rfl:bs=[]:=List.eq_nil_of_length_eq_zero (by omega);exact .inl rfl
theorem xpart(h:BAt w v bs)(t:TypeId):Zd6 (w.alloc (.cells #[v] t)) (Aa (some ⟨w.heap.size,0,none⟩) 1 1) [xints bs]:=by
 refine⟨_,1,rfl,by simp,.inr ⟨w.heap.size,0,rfl,λ j a=>?_⟩⟩
 obtain rfl:j=0:=by simpa using a
 exact⟨v,by simp,(h.below (bz1 w _)).xbytes⟩
theorem Zjx(x:Int)(d:1<=m)(m2:m<=9223372036854775807):wrap64 (x % m)=x % m:=by
 have a:=Int.emod_nonneg x (b:=m) (by omega);have c:=Int.emod_lt_of_pos x (b:=m) (by omega);rw[wrap64];omega
theorem ZiD(E:Enc α)(x:α)(v:Ar)(h:E.cells x=[v]):∀n,E.all (Bb n x)=Bb n v
 | 0=>rfl
 | n+1=>by
  have:=ZiD E x v h n;simp only[Enc.all,List.replicate_succ,List.flatMap_cons,h]at this ⊢;rw[this]
  rfl
theorem Tryz.info3:(Am.info? 3).map (λ i=>(i.zero,i.size,i.bytes))=some (some (Ab Ak 0),1,8):=by kernel_rfl
theorem Zgs(n:Nat)(j:n<=1000000)(w:Ap):
  ∃w',(ER 23 (Ab Ak (n:Int)) (Ab Ak (n:Int))).run Am w=.ok (Aa (some ⟨w.heap.size,0,none⟩) n n) w'/\OwnG encI 3 w' w.heap.size (Aa (some ⟨w.heap.size,0,none⟩) n n) (Bb n 0)/\An w.heap.size w w':=by
 obtain⟨i0,a,b,c,d⟩:=Cd Tryz.info3;obtain⟨w',f,g,h⟩:=Ge (P:=Am) w w.heap.size 23 3 i0 _ 1 underlying23 a b c Ak Ak n (by rw[d];omega) (by simp only[AG];omega) (Az _);refine⟨w',f,?_,(Ao _ w).grown h (Az _) (λ k i=>by cases i)⟩;unfold OwnG
 have e:encI.all (Bb n (0:Int))=(Gj (Ab Ak 0).cells (n*1)).toList:=by
  rw[show(Ab Ak 0).cells=#[Ab Ak 0]from rfl,Gf,Dc];exact ZiD encI 0 _ rfl n
 rw[DQ,e];exact g
theorem ZjM(n:Nat)(j:n<=1000000)(w:Ap):
  ∃w',(ER 61 (Ab Ak (n:Int)) (Ab Ak (n:Int))).run Am w=.ok (Aa (some ⟨w.heap.size,0,none⟩) n n) w'/\OwnG encB 5 w' w.heap.size (Aa (some ⟨w.heap.size,0,none⟩) n n) (Bb n 0)/\An w.heap.size w w':=by
 obtain⟨i0,a,b,c,d⟩:=Cd Tryz.info5;obtain⟨w',f,g,h⟩:=Ge (P:=Am) w w.heap.size 61 5 i0 _ 1 underlying61 a b c Ak Ak n (by rw[d];omega) (by simp only[AG];omega) (Az _);refine⟨w',f,?_,(Ao _ w).grown h (Az _) (λ k i=>by cases i)⟩;unfold OwnG
 have e:encB.all (Bb n (0:UInt8))=(Gj (Ab .u8 0).cells (n*1)).toList:=by
  rw[show(Ab .u8 0).cells=#[Ab .u8 0]from rfl,Gf,Dc];exact ZiD encB 0 _ rfl n
 rw[DQ,e];exact g
theorem Zhf{a:List Int}(h:OwnG encI 3 w base (Aa (some ⟨g,0,none⟩) n cap) a)(hi:i<a.length):
  w.cell? ⟨g,i,none⟩=some (Ab Ak a[i])/\w.frozen? ⟨g,i,none⟩=false:=by
 have c:a.length=n:=Zam h;subst c;have b:w.ownsRow base 3 1 (Aa (some ⟨g,0,none⟩) a.length cap) a.length (encI.all a):=h;refine⟨?_,b.frozenAt _⟩;rw[b.cellAt _ (by rw[Dc];exact hi)];have:=encI.all_get a i 0 a[i] (Aq hi) (by decide);rw[show i*encI.size+0=i from(by show i*1+0=i;omega)]at this;rw[this]
 rfl
theorem ZhD{a:List Int}(h:OwnG encI 3 w base (Aa (some ⟨g,0,none⟩) n cap) a)(hi:i<a.length)(y:Int):
  OwnG encI 3 (w.setCell ⟨g,i,none⟩ (Ab Ak y)) base (Aa (some ⟨g,0,none⟩) n cap) (a.set i y):=by
 have:=OwnG.put h (i:=i) (j:=0) (Aq hi) (by decide) y (Ab Ak y) (by simp[encI]);rw[show i*encI.size+0=i from(by show i*1+0=i;omega)]at this;exact this
theorem ZkU(a:1<=m)(hi:i<3):((poss p m).take i++Bb (3 - i) 0).set i (pos1 p m i)=(poss p m).take (i+1)++Bb (3 - (i+1)) 0:=by
 have h:¬m<1:=by omega
 match i,hi with
 | 0,_=>simp[poss,h,Bb]
 | 1,_=>simp[poss,h,Bb]
 | 2,_=>simp[poss,h]
theorem ZeG(p:Bs)(m:Int)(a:m<1)(w:Ap):
  At Am 154 #[tx p,Ab Ak m] w λ e w'=>e=Aj (Aa none 0 0)/\w'=w:=by
 go_enter func154,ntmps154;go_wp2;go_ret;exact⟨rfl,rfl⟩
theorem ZeN(p:Bs)(m:Int)(r:1<=m)(x:m<=9223372036854775807)(hp:p.length<=9223372036854775807)(w:Ap):
  At Am 154 #[tx p,Ab Ak m] w λ e w'=>∃v',e=Aj v'/\OwnG encI 3 w' w.heap.size v' (poss p m)/\An w.heap.size w w':=by
 have S:¬m<1:=by omega
 obtain⟨q,R,u,C,I,H,M,N⟩:=ZaU w p;have B:BAt q (Aa (some ⟨w.heap.size,0,none⟩) p.length R) p:=H.at M (N hp);have hid:=Zo8 9 _ _ _ (xpart B 61)
 have G:Hid (An w.heap.size w q/\q.heap.size=w.heap.size+1):=⟨C,I⟩
 clear C I H B M N;go_enter func154,ntmps154;go_wp2_with fail;refine hid.mono ?_;rintro e f ⟨rfl,n⟩;have E:Hid (idFolds (idStep 14695981039346656037 (9 % 256)) [xints p]=pid p):=rfl
 obtain⟨d,hd⟩:=Xa (idFolds (idStep 14695981039346656037 (9 % 256)) [xints p])
 rw[hd]at E ⊢
 have t:Hid (An w.heap.size w f):=by
  show An _ _ _;rw[n];exact G.o.1.trans ((bz1 q _).mono G.o.1.size)
 clear n hid hd u G;obtain⟨A,j,F,D⟩:=Zgs 3 (by decide) f;have L:(ER 23 (Ab Ak 3) (Ab Ak 3)).run Am f=.ok (Aa (some ⟨f.heap.size,0,none⟩) 3 3) A:=j
 have P:Hid (OwnG encI 3 A w.heap.size (Aa (some ⟨f.heap.size,0,none⟩) 3 3) (Bb 3 0)/\An w.heap.size w A):=⟨F.low t.o.size,t.o.trans (D.mono t.o.size)⟩
 clear j F D;go_wp2_with fail;go_loopg[17] 3 (λ k v wr=>∃i:Nat,v=Ab Ak i/\i+k=3/\Hid (OwnG encI 3 wr w.heap.size (Aa (some ⟨f.heap.size,0,none⟩) 3 3) ((poss p m).take i++Bb (3 - i) 0)/\An w.heap.size w wr))
 case atStart=>exact⟨0,rfl,by omega,P.o⟩
 case round =>
  obtain⟨i,rfl,hi,g⟩:=hrel;by_cases h:i<3
  ·have id:(i:Int)<3:=by omega
   have a:((poss p m).take i++Bb (3 - i) 0).length=3:=by simp[Zdx r];omega
   obtain⟨J,T⟩:=Zhf g.o.1 (i:=i) (by rw[a];exact h)
   obtain⟨y,V⟩:∃y,wr.cell? ⟨f.heap.size,i,none⟩=some y:=⟨_,J⟩
   clear J;have b:=ZhD g.o.1 (i:=i) (by rw[a];exact h) (pos1 p m i);rw[ZkU r h]at b;have z:=Zdo d i
   obtain⟨s,c⟩:=Xa (spread d i)
   have K:pos1 p m i=s % m:=by rw[pos1,<- E.o,c]
   rw[c]at z;have U:=Zjx s r x
   have l:∀w,At Am 203 #[Ab Al d,Ab Ak i] w λ e w'=>e=Aj (Ab Al s)/\w'=w:=λ w=>by rw[<- c];exact ZjN d i w
   have Q:Hid _:=b;have O:Hid (pos1 p m i=s % m):=K;clear a b c K;go_wp2_with(go_at_call 203;refine(l _).mono ?_;rintro e w' ⟨rfl,rfl⟩);go_roundg (gk - 1)
   case measure=>omega
   case rel =>
    refine⟨i+1,by go_num,by omega,?_,g.o.2.trans (OwnG.turn g.o.1 g.o.2.size ((Zaa.refl (λ k=>(Aa (some ⟨f.heap.size,0,none⟩) 3 3).ownBlock=some k) _).setCell (p:=⟨f.heap.size,i,none⟩) (.inl rfl) _))⟩;rw[<- O.o];exact Q.o
  ·obtain rfl:i=3:=by omega
   have e:(poss p m).take 3++Bb (3 - 3) 0=poss p m:=by rw[Av (by rw[Zdx r];omega)];simp
   rw[e]at g;go_wp2;go_ret;exact⟨_,rfl,g.o.1,g.o.2⟩
theorem ZfV(p:Bs)(m:Int)(a:m<=9223372036854775807)(hp:p.length<=9223372036854775807)(w:Ap):
  At Am 154 #[tx p,Ab Ak m] w λ e w'=>∃v',e=Aj v'/\OwnG encI 3 w' w.heap.size v' (poss p m)/\An w.heap.size w w':=by
 by_cases h:m<1
 ·rw[ZgL h];refine(ZeG p m h w).mono ?_;rintro e w' ⟨rfl,rfl⟩;exact⟨_,rfl,OwnG.nil _ _ _ _,Ao _ _⟩
 ·exact ZeN p m (by omega) a hp w
theorem ZkP(a:1<=m)(hi:i<3):(poss p m).take (i+1)=(poss p m).take i++[pos1 p m i]:=by
 have h:¬m<1:=by omega
 match i,hi with
 | 0,_=>simp[poss,h]
 | 1,_=>simp[poss,h]
 | 2,_=>simp[poss,h]
theorem ZeE(p:Bs)(m:Int)(l:m<1)(hp:p.length<=9223372036854775807)(w:Ap):
  At Am 158 #[tx p,Ab Ak m] w λ e w'=>∃v',e=Aj v'/\OwnG encI 3 w' w.heap.size v' []/\An w.heap.size w w':=by
 have k:¬1<=m:=by omega
 obtain⟨f,j,a,c,i,d,g,h⟩:=ZaU w p;have b:BAt f (Aa (some ⟨w.heap.size,0,none⟩) p.length j) p:=d.at g (h hp);have hid:=Zh1 9 _ _ _ b.xbytes;have G:Hid (An w.heap.size w f):=c;clear c i d b g h;go_enter func158,ntmps158;go_wp2_with fail;refine hid.mono ?_;rintro e n ⟨rfl,rfl⟩;clear hid a;go_wp2_with fail;refine wp_loop_rounds 1 ?_;rw[rounds_succ];go_wp2;go_ret;exact⟨_,rfl,OwnG.nil _ _ _ _,G.o⟩
theorem Zex(p:Bs)(m:Int)(l:1<=m)(s:m<=9223372036854775807)(hp:p.length<=9223372036854775807)(w:Ap):
  At Am 158 #[tx p,Ab Ak m] w λ e w'=>∃v',e=Aj v'/\OwnG encI 3 w' w.heap.size v' (poss p m)/\An w.heap.size w w':=by
 obtain⟨A,F,q,x,E,z,C,D⟩:=ZaU w p;have u:BAt A (Aa (some ⟨w.heap.size,0,none⟩) p.length F) p:=z.at C (D hp);have hid:=Zh1 9 _ _ _ u.xbytes;have G:Hid (An w.heap.size w A):=x;clear x E z u C D;go_enter func158,ntmps158;go_wp2_with fail;refine hid.mono ?_;rintro e J ⟨rfl,rfl⟩;have y:Hid (idFold (idStep 14695981039346656037 (9 % 256)) (xints p)=pid p):=rfl
 obtain⟨d,hd⟩:=Xa (idFold (idStep 14695981039346656037 (9 % 256)) (xints p))
 rw[hd]at y ⊢;clear hid hd q;go_wp2_with fail;go_loopg[5,7] 3 (λ k H v wr=>∃i:Nat,v=Ab Ak i/\i+k=3/\Hid (OwnG encI 3 wr w.heap.size H ((poss p m).take i)/\An w.heap.size w wr))
 case atStart=>exact⟨0,rfl,by omega,OwnG.nil _ _ _ _,G.o⟩
 case round =>
  obtain⟨i,rfl,hi,g⟩:=hrel;by_cases r:i<3
  ·have id:(i:Int)<3:=by omega
   have b:((poss p m).take i).length=i:=by simp[Zdx l];omega
   have t:=Zdo d i
   obtain⟨j,a⟩:=Xa (spread d i)
   have B:pos1 p m i=j % m:=by rw[pos1,<- y.o,a]
   rw[a]at t;have I:=Zjx j l s
   have h:∀w,At Am 206 #[Ab Al d,Ab Ak i] w λ e w'=>e=Aj (Ab Al j)/\w'=w:=λ w=>by rw[<- a];exact Ziw d i w
   have n:Hid (pos1 p m i=j % m/\((poss p m).take i).length=i):=⟨B,b⟩
   clear a B b
   go_wp2_with(first
    | (go_at_call 206;refine(h _).mono ?_;rintro e w' ⟨rfl,rfl⟩)
    | (at_builtin;refine Zag encI 3 23 8 (Ab Ak 0) rfl Tryz.info3 underlying23 rfl (.tmp 19) (.tmp 27) rfl w.heap.size _ ((poss p m).take i) (j % m) _ rfl g.o.1 rfl (by rw[n.o.2];omega) (by rw[n.o.2];simp only[AG];omega) g.o.2.size _ rfl ?_;intro v4 K f c _ _))
   go_roundg (gk - 1)
   case measure=>omega
   case rel=>exact⟨i+1,by go_num,by omega,by rw[ZkP l r,n.o.1];exact f,g.o.2.trans c⟩
  ·obtain rfl:i=3:=by omega
   have e:(poss p m).take 3=poss p m:=Av (by rw[Zdx l];omega);rw[e]at g;go_wp2;go_ret;exact⟨_,rfl,g.o.1,g.o.2⟩
theorem ZeH(p:Bs)(m:Int)(a:m<=9223372036854775807)(hp:p.length<=9223372036854775807)(w:Ap):
  At Am 158 #[tx p,Ab Ak m] w λ e w'=>∃v',e=Aj v'/\OwnG encI 3 w' w.heap.size v' (poss p m)/\An w.heap.size w w':=by
 by_cases h:m<1
 ·rw[ZgL h];exact ZeE p m h hp w
 ·exact Zex p m (by omega) a hp w
def setV(l:List Ar):List Ar->Nat->List Ar
 | [],_=>l
 | v::t,j=>setV (l.set j v) t (j+1)
theorem ZiP:∀(cs l:List Ar) (j k:Nat),j+cs.length<=l.length->(setV l cs j)[k]? = if k<j then l[k]? else if k<j+cs.length then cs[k - j]? else l[k]?
 | [],l,j,k,_=>by
  unfold setV;rw[List.length_nil,Nat.add_zero];by_cases h:k<j
  ·rw[AE h]
  ·rw[Aw h,Aw h]
 | v::t,l,j,k,h=>by
  unfold setV;rw[A3]at h;rw[ZiP t _ _ _ (by rw[DA];omega)];by_cases a:k<j
  ·rw[AE (by omega),AE a,CA (by omega)]
  ·rw[Aw a];by_cases c:k=j
   ·subst c;rw[AE (by omega),AE (by rw[A3];omega),Cl (by omega)];simp
   ·rw[Aw (by omega)];by_cases b:k<j+1+t.length
    ·rw[AE b,AE (by rw[A3];omega),show k - j=(k - (j+1))+1 by omega,List.getElem?_cons_succ]
    ·rw[Aw b,Aw (by rw[A3];omega),CA (by omega)]
section
variable{α:Type}{E:Enc α}{t:TypeId}{w:World}{base g n cap:Nat}{xs:List α}
theorem ZpR(hi:i<xs.length)(y:α):setV (E.all xs) (E.cells y) (i*E.size)=E.all (xs.set i y):=by
 have d:i*E.size+E.size<=xs.length*E.size:=by
  rw[<- Gk];exact Dd _ hi
 refine Cu (λ k=>?_);rw[ZiP _ _ _ _ (by rw[E.len,E.all_length];exact d),E.len];by_cases g:k<xs.length*E.size
 ·have hq:k / E.size<xs.length:=Fz (by rw[DV];exact g);have c:k % E.size<E.size:=FS _ E.pos
  have e:k=k / E.size*E.size+k % E.size:=by rw[DV];exact(Gn k E.size).symm
  obtain⟨q,b⟩:=Xa (k / E.size)
  obtain⟨j,a⟩:=Xa (k % E.size)
  rw[b,a]at e;rw[b]at hq;rw[a]at c;subst e
  have f:(xs.set i y)[q]? = some (if q=i then y else xs[q]):=by
   by_cases e:q=i
   ·subst e;rw[Cl hq,AE rfl]
   ·rw[CA (λ z=>e z.symm),Aw e,Aq hq]
  rw[E.all_get (xs.set i y) q j _ f c,E.all_get xs q j xs[q] (Aq hq) c]
  rcases Nat.lt_trichotomy q i with h|h|h
  ·have:q*E.size+E.size<=i*E.size:=by rw[<- Gk];exact Dd _ h
   rw[AE (by omega),Aw (by omega)]
  ·subst h;rw[Aw (by omega),AE (by omega),AE rfl,Nat.add_sub_cancel_left]
  ·have:i*E.size+E.size<=q*E.size:=by rw[<- Gk];exact Dd _ h
   rw[Aw (by omega),Aw (by omega),Aw (by omega)]
 ·rw[Aw (by omega),Aw (by omega),AL (by rw[E.all_length];omega),AL (by rw[E.all_length,DA];omega)]
theorem Zd2{e:TypeId}{size:Nat}:∀(cs:List Ar) (w:Ap) (l:List Ar) (j:Nat),w.ownsRow base e size (Aa (some ⟨g,0,none⟩) n cap) n l->(layL w g cs j).ownsRow base e size (Aa (some ⟨g,0,none⟩) n cap) n (setV l cs j)
 | [],_,_,_,h=>h
 | v::t,_,_,j,h=>Zd2 t _ _ _ (h.stored j v).1
theorem OwnG.lay(h:OwnG E t w base (Aa (some ⟨g,0,none⟩) n cap) xs)(hi:i<xs.length)(y:α):OwnG E t (layL w g (E.cells y) (i*E.size)) base (Aa (some ⟨g,0,none⟩) n cap) (xs.set i y):=by
 have a:xs.length=n:=Zam h
 have b:w.ownsRow base t E.size (Aa (some ⟨g,0,none⟩) n cap) n (E.all xs):=by
  unfold OwnG at h;rw[a]at h;exact h
 unfold OwnG;rw[DA,<- ZpR hi,a];exact Zd2 _ _ _ _ b
theorem OwnG.there(h:OwnG E t w base (Aa (some ⟨g,0,none⟩) n cap) xs)(hi:i<xs.length)(k:Nat)(c:k=E.size)(o:Nat)(f:o=i*E.size):w.there g o k:=by
 subst c f;have e:xs.length=n:=Zam h;subst e;have a:w.ownsRow base t E.size (Aa (some ⟨g,0,none⟩) xs.length cap) xs.length (E.all xs):=h;intro j b;refine⟨?_,a.frozenAt _⟩
 have d:i*E.size+E.size<=xs.length*E.size:=by
  rw[<- Gk];exact Dd _ hi
 rw[a.cellAt _ (by omega),E.all_get xs i j xs[i] (Aq hi) b,Aq (by rw[E.len];exact b)]
 rfl
end
theorem ZiZ(E:Enc α)(x:α)(t e:TypeId)(z:Ar)(a:Nat)(m:z.cells=(E.cells x).toArray)(b:(Am.info? e).map (λ i=>(i.zero,i.size,i.bytes))=some (some z,E.size,a))(B:Am.underlying t=some (.slice e))(n:Nat)(y:n<=1000000)(u:a<=1000)(w:Ap):
  ∃w',(ER t (Ab Ak (n:Int)) (Ab Ak (n:Int))).run Am w=.ok (Aa (some ⟨w.heap.size,0,none⟩) n n) w'/\OwnG E e w' w.heap.size (Aa (some ⟨w.heap.size,0,none⟩) n n) (Bb n x)/\An w.heap.size w w':=by
 obtain⟨i0,f,g,h,j⟩:=Cd b;have v:a*n<=1000*1000000:=Nat.mul_le_mul u y;obtain⟨w',o,p,q⟩:=Ge (P:=Am) w w.heap.size t e i0 z E.size B f g h Ak Ak n (by rw[j];omega) (by simp only[AG];omega) (Az _);refine⟨w',o,?_,(Ao _ w).grown q (Az _) (λ k d=>by cases d)⟩;unfold OwnG
 have e:E.all (Bb n x)=(Gj z.cells (n*E.size)).toList:=by
  have A:z.cells.size=E.size:=by rw[m,C3,E.len]
  refine Cu (λ k=>?_);by_cases d:k<n*E.size
  ·have hq:k / E.size<n:=Fz (by rw[DV];exact d);have l:k % E.size<E.size:=FS _ E.pos
   have e:k=k / E.size*E.size+k % E.size:=by rw[DV];exact(Gn k E.size).symm
   have r:(E.all (Bb n x))[k]? = (E.cells x)[k % E.size]? := by
    have:=E.all_get (Bb n x) (k / E.size) (k % E.size) x (by rw[List.getElem?_replicate,AE hq]) l;rw[<- e]at this;exact this
   rw[r,Gj,Array.toList_map,List.getElem?_map,Array.toList_range,List.getElem?_range d,A];simp only[Option.map_some]
   have c:k % E.size<(E.cells x).length:=by rw[E.len];exact l
   have s:(E.cells x).toArray[k % E.size]! = (E.cells x)[k % E.size]:=by
    rw[EF (E.cells x).toArray (k % E.size) (by rw[C3];exact c),List.getElem_toArray]
   rw[Aq c,m,s]
  ·rw[AL (by rw[E.all_length,DQ];omega),AL (by rw[Array.length_toList,size_madeCells];omega)]
 rw[DQ,e];exact p
structure CV where
 tree:UInt64
 pa:Option Addr
 pn:Nat
 pc:Nat
 date:Int
 note:Bs
def CV.cells(v:CV):List Ar:=[Ab Al (v.tree.toNat:Int),Aa v.pa v.pn v.pc,Ab Ak v.date,tx v.note]
def cv0:CV:=⟨0,none,0,0,0,[]⟩
def encCv:Enc CV:=⟨λ v=>v.cells,4,λ _=>rfl,by decide,by intro x u h;simp[CV.cells]at h;rcases h with rfl|rfl|rfl|rfl <;> rfl⟩
theorem RdG.coms {w:World} {b off:Nat} {vs:List CV} (h:RdG encCv w (some ⟨b,off,none⟩) vs) {i:Nat} {v:CV} (hx:vs[i]? = some v) :
  w.cell? ⟨b,off+i*4,none⟩=some (.int .u64 (v.tree.toNat:Int))/\w.cell? ⟨b,off+i*4+1,none⟩=some (.slice v.pa v.pn v.pc)/\w.cell? ⟨b,off+i*4+2,none⟩=some (.int .i64 v.date)/\w.cell? ⟨b,off+i*4+3,none⟩=some (tx v.note):=by
 obtain ⟨b', off', e, hlt, hc⟩ := h (by rcases Nat.lt_or_ge i vs.length with q | q
                                        · omega
                                        · rw [List.getElem?_eq_none q] at hx; cases hx)
 obtain ⟨rfl,rfl⟩:b=b'/\off=off':=by simpa using e
 have h0:=hc i v hx 0 _ rfl;have h1:=hc i v hx 1 _ rfl;have h2:=hc i v hx 2 _ rfl;have h3:=hc i v hx 3 _ rfl;exact ⟨by simpa [encCv] using h0,by simpa [encCv,Nat.add_assoc] using h1,by simpa [encCv,Nat.add_assoc] using h2,by simpa [encCv,Nat.add_assoc] using h3⟩
structure CvAt(w:Ap)(g:Nat)(v:CV)(c:Cm):Prop where
 tree:v.tree=c.tree
 date:v.date=c.date
 note:v.note=c.note
 rd:RdG encU w v.pa c.ps
 len:c.ps.length=v.pn
 far:0<c.ps.length->∀p,v.pa=some p->p.block≠g
theorem CvAt.turn{v:CV}{c:Cm}(h:CvAt w g v c)(b:Zaa (λ k=>k=g) w w'):CvAt w' g v c :=
 ⟨h.tree,h.date,h.note,h.rd.turned b (λ a p hp q=>h.far a p hp q),h.len,h.far⟩
theorem CvAt.below{v:CV}{c:Cm}(h:CvAt w g v c)(a:An w.heap.size w w'):CvAt w' g v c :=
 ⟨h.tree,h.date,h.note,h.rd.below a,h.len,h.far⟩
structure CL(w u:Ap)(g:Nat)(st:St)(ids:List UInt64)(n k:Nat)(cvs:List CV):Prop where
 own:OwnG encCv 58 u g (Aa (some ⟨g,0,none⟩) n n) cvs
 len:cvs.length=n
 bel:An g w u
 at_:∀(i:Nat) (v:CV) (x:UInt64),i<k->cvs[i]? = some v->ids[i]? = some x->CvAt u g v (st.com x)
 has:∀x∈ids.take k,st.has 3 x=true
theorem infoK:(Am.info? 58).map (λ i=>(i.zero,i.size,i.bytes))=some (some (.agg #[Ab Al 0,Aa none 0 0,Ab Ak 0,Ae ⟨#[]⟩]),4,56):=by kernel_rfl
theorem sliceK:Am.underlying 90=some (.slice 58):=by kernel_rfl
theorem ZjE{s b:Nat}{st:St}{S:Nat->Prop}{ia:Option Addr}{ids:List UInt64}(h:Zac w s b st S)(hI:RdG encU w ia ids)(hn:ids.length=n)(hs:n<=100000):
  At Am 31 #[Ah (some ⟨s,0,none⟩),Aa ia n c] w λ e w'=>∃v r,e=Aj (.tuple #[v,Ab Ak r])/\Hid (((r=0/\v=Aa (some ⟨w.heap.size,0,none⟩) n n/\∃a,CL w w' w.heap.size st ids n n a)∨(¬(∀x∈ids,st.has 3 x=true)/\r=5/\v=Aa none 0 0))/\An w.heap.size w w'):=by
 obtain⟨g,Q⟩:=Xa w.heap.size
 obtain⟨w1,U,O1,B1⟩:=ZiZ encCv cv0 90 58 (.agg #[Ab Al 0,Aa none 0 0,Ab Ak 0,Ae ⟨#[]⟩]) 56 rfl infoK sliceK n (by omega) (by decide) w;rw[Q]at U O1 B1
 have H:Hid (Zac w s b st S/\RdG encU w ia ids/\ids.length=n/\w.heap.size=g):=⟨h,hI,hn,Q⟩
 have G0:Hid (∃a,CL w w1 g st ids n 0 a):=⟨_,O1,by simp,B1,λ i v x h=>absurd h (Nat.not_lt_zero _),by simp⟩
 rw[Q];clear h hI hn Q O1 B1;go_enter func31,ntmps31;go_wp2_with fail;clear U;go_loopg[16] n (λ k v wr=>∃i:Nat,v=Ab Ak i/\i+k=n/\Hid (∃a,CL w wr g st ids n i a))
 case atStart=>exact⟨0,rfl,by omega,G0.o⟩
 case round =>
  obtain⟨i,rfl,hi,HR⟩:=hrel;clear G0;obtain⟨a,hC⟩:=HR.o;have l:Hid (CL w wr g st ids n i a):=hC;clear HR hC;by_cases ab:i<n
  ·have id:(i:Int)<(n:Int):=by omega
   have ad:(0:Int)<=(i:Int):=by omega
   have F:i<ids.length:=by rw[H.o.2.2.1];exact ab
   obtain⟨x,hx⟩:=Xa (ids[i])
   have t:ids[i]? = some x:=by rw[Aq F,hx]
   have A:An w.heap.size w wr:=by rw[H.o.2.2.2];exact l.o.bel
   obtain⟨pb,off,rfl,_⟩:=H.o.2.1.some_of t;have cx:=((H.o.2.1.below A).nums t).2
   obtain⟨gb,D⟩:=Xa (st.has 3 x)
   have E:=ZhS (H.o.1.below A) x gb D
   obtain⟨cm,B⟩:=Xa (st.com x)
   rw[B]at E
   have V:ids.take (i+1)=ids.take i++[x]:=by rw[List.take_add_one,t];rfl
   have L:Hid (ids[i]? = some x/\st.com x=cm/\st.has 3 x=gb/\ids.take (i+1)=ids.take i++[x]/\x∈ids):=⟨t,B,D,V,by rw[<- hx];exact Cx F⟩
   clear F hx t A D B V;go_wp2_with fail;refine E.mono ?_;rintro e w2 ⟨pa,pc,rfl,J⟩;clear E cx
   obtain⟨pn,I⟩:=Xa cm.ps.length
   obtain⟨u,K⟩:=Xa cm.tree
   obtain⟨dt,C⟩:=Xa cm.date
   obtain⟨nt,G⟩:=Xa cm.note
   rw[I,K,C,G]
   have X:Hid (cm.ps.length=pn/\cm.tree=u/\cm.date=dt/\cm.note=nt):=⟨I,K,C,G⟩
   clear I K C G
   obtain⟨m,d⟩:=Xb (w2.alloc (.cells #[Ab Al (u.toNat:Int),Aa pa pn pc,Ab Ak dt,tx nt] 58))
   obtain⟨Z,P⟩:=Xa w2.heap.size
   have z0:m.cell? ⟨Z,0,none⟩=some (Ab Al (u.toNat:Int)):=by rw[d,<- P];simp
   have z1:m.cell? ⟨Z,1,none⟩=some (Aa pa pn pc):=by rw[d,<- P];simp
   have z2:m.cell? ⟨Z,2,none⟩=some (Ab Ak dt):=by rw[d,<- P];simp
   have z3:m.cell? ⟨Z,3,none⟩=some (tx nt):=by rw[d,<- P];simp
   have W:Hid (An wr.heap.size wr m):=by
    show An _ _ _;rw[d];exact J.o.2.2.1.trans ((bz1 w2 _).mono J.o.2.2.1.size)
   have R3:Hid (RdG encU m pa cm.ps/\ZaM wr pa cm.ps.length):=by
    refine⟨?_,J.o.2.2.2⟩;rw[d];exact J.o.1.below (bz1 _ _)
   clear J
   go_upto_region 6 with fail
   rw[<- d];clear d P
   cases gb with
   | false =>
    have f:Hid (¬(∀x∈ids,st.has 3 x=true)/\An g w m):=⟨λ q=>Bool.noConfusion ((q x L.o.2.2.2.2).symm.trans L.o.2.2.1),l.o.bel.trans (W.o.mono (by rw[<- H.o.2.2.2];exact l.o.bel.size))⟩
    go_wp2_with fail;refine As (AA rfl _ _ _) rfl ?_;exact⟨_,_,rfl,.inr ⟨f.o.1,rfl,rfl⟩,f.o.2⟩
   | true =>
    have hO:=l.o.own.below W.o;have T:=l.o.len;have TH:Hid (m.there g (i*4) 4):=hO.there (i:=i) (by omega) 4 rfl (i*4) rfl;have R:=hO.lay (i:=i) (by omega) ⟨u,pa,pn,pc,dt,nt⟩;have N:Hid (OwnG encCv 58 (layL m g [Ab Al (u.toNat:Int),Aa pa pn pc,Ab Ak dt,tx nt] (i*4)) g (Aa (some ⟨g,0,none⟩) n n) (a.set i ⟨u,pa,pn,pc,dt,nt⟩)):=R;clear hO R T
    obtain⟨Y,z⟩:=Xb (layL m g [Ab Al (u.toNat:Int),Aa pa pn pc,Ab Ak dt,tx nt] (i*4))
    have f:Hid (∃a,CL w Y g st ids n (i+1) a):=by
     have hT:Zaa (λ k=>k=g) m Y:=by rw[z];exact Zal _ _ _
     have ac:g<=wr.heap.size:=by rw[<- H.o.2.2.2];exact l.o.bel.size
     have hB:An g w m:=l.o.bel.trans (W.o.mono ac);refine⟨a.set i ⟨u,pa,pn,pc,dt,nt⟩,by rw[z];exact N.o,by rw[DA];exact l.o.len,hB.trans (hT.below (by have:=hB.size;have:=H.o.2.2.2;omega) (λ k hk e=>by have e':k=g:=e;omega)),λ j v y hj hv M=>?_,λ y M=>?_⟩
     ·by_cases e:i=j
      ·subst e;rw[Cl (by have:=l.o.len;omega)]at hv;cases hv;rw[L.o.1]at M;cases M;rw[L.o.2.1];have Q:g<wr.heap.size:=(World.ownsRow.lt l.o.own g rfl).2
       have c0:CvAt m g ⟨u,pa,pn,pc,dt,nt⟩ cm:=⟨X.o.2.1.symm,X.o.2.2.1.symm,X.o.2.2.2.symm,R3.o.1,X.o.1,λ h0 p hp q=>by
        have:=R3.o.2 h0 p hp
        omega⟩
       exact c0.turn hT
      ·rw[CA e]at hv;exact((l.o.at_ j v y (by omega) hv M).below W.o).turn hT
     ·rw[L.o.2.2.2.1]at M
      rcases AK.1 M with q|q
      ·exact l.o.has y q
      ·rw[A2]at q;rw[q];exact L.o.2.2.1
    have aa:Hid (Y=layL m g [Ab Al (u.toNat:Int),Aa pa pn pc,Ab Ak dt,tx nt] (i*4)):=z;clear z N;go_wp2_with(refine Zaj rfl 58 (.tmp 32) (.tmp 31) rfl g (i*4) #[Ab Al (u.toNat:Int),Aa pa pn pc,Ab Ak dt,tx nt] rfl rfl TH.o (by kernel_rfl) (by simp[Value.oneCell',tx]) ?_;intro W5 O;obtain rfl:W5=Y:=O.trans aa.o.symm;clear O);go_roundg (gk - 1)
    case measure=>omega
    case rel=>exact⟨i+1,by go_num,by omega,f.o⟩
  ·obtain rfl:i=n:=by omega
   have id:¬(i:Int)<(i:Int):=by omega
   have f:Hid ((∃a,CL w wr g st ids i i a)/\An g w wr):=⟨⟨a,l.o⟩,l.o.bel⟩
   clear l;go_wp2;refine As (AA rfl _ _ _) rfl ?_;exact⟨_,_,rfl,.inl ⟨rfl,rfl,f.o.1⟩,f.o.2⟩
theorem Zbv(a:Bs):¬a<a:=List.lt_irrefl a
theorem Zgg{a c:Bs}(h:a<b)(k:b<c):a<c:=List.lt_trans h k
theorem ZdO{a:Bs}(h:a<b):¬b<a:=List.lt_asymm h
theorem ZgU(a b:Bs):a<b∨a=b∨b<a:=by
 by_cases h:a<b
 ·exact .inl h
 ·by_cases k:b<a
  ·exact .inr (.inr k)
  ·exact .inr (.inl (Ez k h))
def insB(s:Bs):List Bs->List Bs
 | []=>[s]
 | x::t=>if s<x then s::x::t else x::insB s t
def withB(l:List Bs)(s:Bs):List Bs:=if l.any (·==s)then l else insB s l
def srt(l:List Bs):List Bs:=l.foldl withB []
def Zbw(l:List Bs):Prop:=l.Pairwise (·<·)
theorem Zb3:∀{a b:List Bs},Zbw a->Zbw b->(∀x,x∈a↔x∈b)->a=b
 | [],[],_,_,_=>rfl
 | [],y::b,_,_,h=>absurd ((h y).2 (Ba ..)) (by simp)
 | x::a,[],_,_,h=>absurd ((h x).1 (Ba ..)) (by simp)
 | x::a,y::b,ha,hb,h=>by
  have c:=Bn.1 ha;have d:=Bn.1 hb
  have g:x=y:=by
   rcases Bw.1 ((h x).1 (Ba ..))with e|e
   ·exact e
   ·rcases Bw.1 ((h y).2 (Ba ..))with f|f
    ·exact f.symm
    ·exact absurd (d.1 x e) (ZdO (c.1 y f))
  subst g
  congr 1
  refine Zb3 c.2 d.2 ?_;intro z;have i:=h z;simp only[Bw]at i
  constructor
  ·intro q
   rcases i.1 (.inr q)with e|e
   ·subst e;exact absurd (c.1 z q) (Zbv z)
   ·exact e
  ·intro q
   rcases i.2 (.inr q)with e|e
   ·subst e;exact absurd (d.1 z q) (Zbv z)
   ·exact e
theorem Zfz(s:Bs):∀(l:List Bs) (x:Bs),x∈insB s l↔x=s∨x∈l
 | [],x=>by simp[insB]
 | y::t,x=>by
  by_cases h:s<y
  ·simp[insB,h]
  ·have:=Zfz s t x;simp only[insB,h,Eg,Bw,this]
   constructor
   ·rintro(q|q|q) <;> simp[q]
   ·rintro(q|q|q) <;> simp[q]
theorem ZeA(s:Bs):∀(l:List Bs),Zbw l->s ∉ l->Zbw (insB s l)
 | [],_,_=>by simp[insB,Zbw]
 | y::t,hr,hs=>by
  have a:=Bn.1 hr;by_cases h:s<y
  ·simp only[insB,h,Fa];refine Bn.2 ⟨?_,hr⟩;intro z b
   rcases Bw.1 b with e|e
   ·subst e;exact h
   ·exact Zgg h (a.1 z e)
  ·simp only[insB,h,Eg];refine Bn.2 ⟨?_,ZeA s t a.2 (λ q=>hs (List.mem_cons_of_mem _ q))⟩;intro z b
   rcases(Zfz s t z).1 b with e|e
   ·subst e
    rcases ZgU y z with q|q|q
    ·exact q
    ·exact absurd (q ▸ Ba ..) hs
    ·exact absurd q h
   ·exact a.1 z e
theorem Zlf(l:List Bs)(s x:Bs):x∈withB l s↔x∈l∨x=s:=by
 unfold withB
 split
 ·rename_i h
  have a:s∈l:=by
   obtain⟨y,b,e⟩:=D7.1 h
   have:y=s:=by simpa using e
   exact this ▸ b
  constructor
  ·exact .inl
  ·rintro(q|q)
   ·exact q
   ·exact q ▸ a
 ·rw[Zfz];exact Or.comm
theorem Zgq(l:List Bs)(s:Bs)(h:Zbw l):Zbw (withB l s):=by
 unfold withB
 split
 ·exact h
 ·rename_i q
  refine ZeA s l h (λ m=>q ?_);exact D7.2 ⟨s,m,by simp⟩
theorem Zft:∀(l a:List Bs),Zbw a->Zbw (l.foldl withB a)/\∀x,x∈l.foldl withB a↔x∈a∨x∈l
 | [],a,h=>⟨h,by simp⟩
 | s::t,a,h=>by
  obtain⟨b,c⟩:=Zft t (withB a s) (Zgq a s h);refine⟨b,λ x=>?_⟩;rw[List.foldl_cons,c x,Zlf];simp only[Bw];exact or_assoc
theorem Zbf(l:List Bs):Zbw (srt l):=(Zft l [] List.Pairwise.nil).1
theorem Zbh(l:List Bs)(x:Bs):x∈srt l↔x∈l:=by
 have:=(Zft l [] List.Pairwise.nil).2 x;simpa[srt]using this
open Go.Lib in
theorem Zci(d:Array Bs)(hd:∀i j,i<j->j<d.size->d[i]! <= d[j]!):∀m,m<=d.size->Zbw (compactUpTo d m)/\∀x,x∈compactUpTo d m↔∃j,j<m/\d[j]! = x
 | 0,_=>⟨by simp[compactUpTo,Zbw],by simp[compactUpTo]⟩
 | m+1,hm=>by
  obtain⟨p,l⟩:=Zci d hd m (by omega);rw[compactUpTo_succ];by_cases f:keeps d m=true
  ·rw[AE f];refine⟨?_,?_⟩
   ·refine List.pairwise_append.2 ⟨p,by simp,?_⟩;intro y u z o;rw[A2]at o;subst o;obtain⟨j,g,rfl⟩:=(l y).1 u;have r:=hd j m g (by omega)
    rcases ZgU d[j]! d[m]! with q|q|q
    ·exact q
    ·exfalso
     have k:0<m:=by omega
     have b:d[m]! ≠ d[m - 1]! := by
      intro e;rw[keeps_neg k e]at f;cases f
     rcases Nat.lt_or_ge j (m - 1)with h|h
     ·have n:=hd j (m - 1) h (by omega);have s:=hd (m - 1) m (by omega) (by omega);rw[q]at n;exact b (Ez n s)
     ·have:j=m - 1:=by omega
      rw[<- this]at b;exact b q.symm
    ·exact absurd q r
   ·intro x;rw[AK,l,A2]
    constructor
    ·rintro(⟨j,g,e⟩ | e)
     ·exact⟨j,by omega,e⟩
     ·exact⟨m,by omega,e.symm⟩
    ·rintro⟨j,g,e⟩;by_cases a:j=m
     ·subst a;exact .inr e.symm
     ·exact .inl ⟨j,by omega,e⟩
  ·rw[Aw f,List.append_nil];refine⟨p,λ x=>?_⟩;rw[l]
   constructor
   ·rintro⟨j,g,e⟩;exact⟨j,by omega,e⟩
   ·rintro⟨j,g,e⟩;by_cases a:j=m
    ·subst a
     have k:0<j:=by
      rcases Nat.eq_zero_or_pos j with z|z
      ·subst z;exact absurd (keeps_lt_one d 0 (by omega)) f
      ·exact z
     have t:d[j]! = d[j - 1]! := by
      by_cases c:d[j]! = d[j - 1]!
      ·exact c
      ·exact absurd (keeps_pos c) f
     exact⟨j - 1,by omega,by rw[<- t,e]⟩
    ·exact⟨j,by omega,e⟩
theorem Zgw(g:List Bs):Lib.compact (g.mergeSort λ x y=>decide (x<=y))=srt g:=by
 have hp:(g.mergeSort λ x y=>decide (x<=y)).Pairwise (λ x y=>decide (x<=y)=true):=by
  refine List.pairwise_mergeSort ?_ ?_ g
  ·intro a b c n o;simp only[A5]at n o ⊢;exact List.le_trans n o
  ·intro a b;rw[Bool.or_eq_true,A5,A5]
   rcases ZgU a b with q|q|q
   ·exact .inl (ZdO q)
   ·subst q;exact .inl (Zbv a)
   ·exact .inr (ZdO q)
 have d:=List.mergeSort_perm g (λ x y=>decide (x<=y));generalize (g.mergeSort λ x y=>decide (x<=y))=zs at hp d
 have hq:=Zci zs.toArray (λ i j m f=>by
  have k:j<zs.length:=by simpa using f
  have:=List.pairwise_iff_getElem.1 hp i j (by omega) k m
  have l:zs.toArray[i]! = zs[i]'(by omega):=by simp[show i<zs.length by omega]
  have p:zs.toArray[j]! = zs[j]:=by simp[k]
  rw[l,p]
  simpa using this) zs.length (by simp)
 refine Zb3 hq.1 (Zbf g) (λ x=>?_);rw[show Lib.compact zs=Lib.compactUpTo zs.toArray zs.length from rfl,hq.2,Zbh,<- d.mem_iff]
 constructor
 ·rintro⟨j,f,e⟩
  have l:zs.toArray[j]! = zs[j]:=by simp[f]
  rw[<- e,l];exact Cx f
 ·intro h;obtain⟨j,f,e⟩:=List.getElem_of_mem h;exact⟨j,f,by simp[f,e]⟩
theorem ZfS{p:Bs->Bool}(h:i<a.length)(b:(a.take i).any p=false)(c:p (el a i)=false):(a.take (i+1)).any p=false:=by
 rw[List.take_succ_eq_append_getElem h,List.any_append,b,<- Za9 h];simp[c]
theorem Zic{p:Bs->Bool}(h:i<a.length)(b:p (el a i)=true):a.any p=true :=
 D7.2 ⟨_,Zcj h,b⟩
theorem Zjr(x:Bs)(w:Ap)(m:Rd w ao a)(r:a.length=n)(z:n<=4000000000000000000)(f:Bool)(q:a.any (·==x)=f):
  At Am 205 #[Aa ao n c,Ae ⟨x.toArray⟩] w λ e w'=>e=Aj (Ad f)/\w'=w:=by
 have H:Hid (Rd w ao a/\a.length=n/\a.any (·==x)=f):=⟨m,r,q⟩
 clear m r q;go_enter func205,ntmps205;go_wp2_with fail;go_loopg[5] n (λ k v wr=>∃(i:Nat),v=Ab Ak i/\i+k=n/\wr=w/\Hid ((a.take i).any (·==x)=false))
 case atStart=>exact⟨0,rfl,by omega,rfl,rfl⟩
 case round =>
  obtain⟨i,rfl,hi,rfl,j⟩:=hrel;by_cases d:i<n
  ·have id:(i:Int)<(n:Int):=by omega
   obtain⟨l,u,_⟩:=H.o;obtain⟨b1,A,rfl,s,b⟩:=l (by omega)
   obtain⟨y,h⟩:=Xa (el a i)
   have t:=b i (by omega);rw[h]at t;have X:Hid (el a i=y):=h;clear l u b h
   cases g:y==x with
   | true =>
    go_wp2;go_ret;exact⟨by rw[<- H.o.2.2,Zic (p:=(·==x)) (i:=i) (by rw[H.o.2.1];exact d) (by rw[X.o];exact g)];rfl,rfl⟩
   | false =>
    go_wp2;go_roundg (gk - 1)
    case measure=>omega
    case rel=>exact⟨i+1,by go_num,by omega,rfl,ZfS (p:=(·==x)) (by rw[H.o.2.1];exact d) j.o (by rw[X.o];exact g)⟩
  ·obtain rfl:i=n:=by omega
   go_wp2;go_ret;refine⟨?_,rfl⟩;have e:=j.o;rw[Av (by rw[H.o.2.1];omega)]at e;rw[<- H.o.2.2,e]
   rfl
theorem ZpT{b:List Bs}(g:Nat)(t D:Array Ar)(p:Bs->Bool)(w:Ap)(G:∀args w,(Cq g args).run Am w=.ok (.enter g args) w)
  (hp:∀(W:Ap) (x:Bs),x∈b->An w.heap.size w W->At Am g (t++#[Ae ⟨x.toArray⟩]++D) W λ e w'=>e=Aj (Ad (p x))/\An W.heap.size W w')
  (z:Rd w ao b) (A:b.length=n) (I:n<=4000000000000000000) :
  At Am 229 #[Aa ao n c,.func (.func g) t D] w λ e w'=>∃r:Int,e=Aj (Ab Ak r)/\decide (0<=r)=b.any p/\An w.heap.size w w':=by
 have H:Hid (Rd w ao b/\b.length=n):=⟨z,A⟩
 clear z A;go_enter func229,ntmps229;go_wp2_with fail;go_loopg[5,8] n (λ k _ v wr=>∃(i:Nat),v=Ab Ak i/\i+k=n/\Hid ((b.take i).any p=false)/\An w.heap.size w wr)
 case atStart=>exact⟨0,rfl,by omega,rfl,Ao _ _⟩
 case round =>
  obtain⟨i,rfl,hi,s,j⟩:=hrel;by_cases m:i<n
  ·have id:(i:Int)<(n:Int):=by omega
   obtain⟨u,F⟩:=H.o;have R:=u.below j;have f:el b i∈b:=Zcj (by omega);obtain⟨b1,J,rfl,C,l⟩:=R (by omega)
   obtain⟨y,q⟩:=Xa (el b i)
   have E:=l i (by omega);rw[q]at E f;have X:Hid (el b i=y):=q;have a:=hp wr y f j;have B:Hid (An w.heap.size w wr):=j;clear u F l q R hp j
   cases d:p y with
   | true =>
    rw[d]at a;go_wp2_with(go_at_fn g;refine a.mono ?_;rintro e w' ⟨rfl,h⟩);go_ret;exact⟨i,rfl,by rw[Zic (p:=p) (i:=i) (by rw[H.o.2];exact m) (by rw[X.o];exact d)];simp,B.o.trans (h.mono B.o.size)⟩
   | false =>
    rw[d]at a;go_wp2_with(go_at_fn g;refine a.mono ?_;rintro e w' ⟨rfl,h⟩);go_roundg (gk - 1)
    case measure=>omega
    case rel=>exact⟨i+1,by go_num,by omega,ZfS (p:=p) (by rw[H.o.2];exact m) s.o (by rw[X.o];exact d),B.o.trans (h.mono B.o.size)⟩
  ·obtain rfl:i=n:=by omega
   go_wp2;go_ret;refine⟨-1,rfl,?_,j⟩;have e:=s.o;rw[Av (by rw[H.o.2];omega)]at e;rw[e]
   rfl
theorem Zhc(g:Nat)(b d:Array Ar)(p:Bs->Bool)(w:Ap)(i:∀args w,(Cq g args).run Am w=.ok (.enter g args) w)
  (hp:∀(W:Ap) (x:Bs),x∈a->An w.heap.size w W->At Am g (b++#[Ae ⟨x.toArray⟩]++d) W λ e w'=>e=Aj (Ad (p x))/\An W.heap.size W w')
  (j:Rd w ao a) (l:a.length=n) (s:n<=4000000000000000000) (f:Bool) (k:a.any p=f) :
  At Am 219 #[Aa ao n c,.func (.func g) b d] w λ e w'=>e=Aj (Ad f)/\An w.heap.size w w':=by
 have h:=ZpT (c:=c) g b d p w i hp j l s;rw[k]at h;clear hp j l i k;go_enter func219,ntmps219;go_wp2_with fail;refine h.mono ?_;rintro e w' ⟨r,rfl,m,q⟩;have R:Hid (decide (0<=r)=f):=m;clear m;go_wp2;go_ret;exact⟨by rw[<- R.o];rfl,q⟩
theorem Zm6(p:Bs)(B:Nat)(d:Bs)(w:Ap)(b:w.cell? ⟨B,0,none⟩=some (Ae ⟨p.toArray⟩)):
  At Am 220 #[Ae ⟨d.toArray⟩,Ah (some ⟨B,0,none⟩)] w λ e w'=>e=Aj (Ad (under p d))/\w'=w:=by
 have h:=Zhh ⟨p.toArray⟩ ⟨d.toArray⟩ w
 obtain⟨f,a⟩:=Xa (under p d)
 change At Am 221 #[Ae ⟨p.toArray⟩,Ae ⟨d.toArray⟩] w λ e w'=>e=Aj (Ad (under p d))/\w'=w at h
 rw[a]at h ⊢;clear a;go_enter func220,ntmps220;go_wp2_with fail;refine h.mono ?_;rintro e w' ⟨rfl,rfl⟩;go_wp2;go_ret;exact⟨rfl,rfl⟩
theorem ZoB:∀args w,(Cq 220 args).run Am w=.ok (.enter 220 args) w:=enters_of func220 (by kernel_rfl) rfl
theorem Zho{d:List Bs}(p:Bs)(w:Ap)(i:Rd w ao d)(k:d.length=n)(q:n<=4000000000000000000)(f:Bool)(j:d.any (under p)=f):
  At Am 200 #[Ae ⟨p.toArray⟩,Aa ao n c] w λ e w'=>e=Aj (Ad f)/\An w.heap.size w w':=by
 have a:An w.heap.size w (w.alloc (.cells #[Ae ⟨p.toArray⟩] 9)):=(Ao _ w).alloc (Az _) _
 have h:=Zhc (c:=c) 220 #[] #[Ah (some ⟨w.heap.size,0,none⟩)] (under p) (w.alloc (.cells #[Ae ⟨p.toArray⟩] 9)) ZoB
  (λ W x _ b=>(Zm6 p w.heap.size x W ((b.cell (p:=⟨w.heap.size,0,none⟩) (by simp)).trans (by simp))).mono λ e w' ⟨l,m⟩=>⟨l,m ▸ Ao _ _⟩) (i.below a) k q f j
 clear i k j;have g:Hid (An w.heap.size w (w.alloc (.cells #[Ae ⟨p.toArray⟩] 9))):=a;clear a;go_enter func200,ntmps200;go_wp2_with fail;refine h.mono ?_;rintro e w' ⟨rfl,b⟩;go_wp2;go_ret;exact⟨rfl,g.o.trans (b.mono g.o.size)⟩
end Go.Proofs.YtlojblelpaegpaaGreat
