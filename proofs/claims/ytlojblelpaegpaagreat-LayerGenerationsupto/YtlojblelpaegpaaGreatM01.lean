/-
  Several texts, laid together.
-/
import Derived.Test.YtlojblelpaegpaaGreatM00
import Derived.Lib.AppendZeros
import Derived.Lib.SlBytesConst
import Derived.Laws.IdiomStrings
set_option maxHeartbeats 6400000
set_option maxRecDepth 100000
open Go renaming World->Ap,TypeId->AP,Value->Ar,bytes->Bt,Operand->CJ,maxLen->AG,yielded->Dg,info_parts->Cd,Calls->At,grownCap->FA,grownCap_le_maxLen->Gs,sizeOf->EV
open Go.RowKit renaming Below->An
open Go.Region renaming wanted->Br
open List renaming length_append->AD,getElem?_eq_getElem->Aq,eq_nil_of_length_eq_zero->AT,take_add_one->AO,take_of_length_le->Av,getElem?_eq_none->AL,length_cons->A3
open Nat renaming le_refl->Az,zero_le->BG,eq_zero_or_pos->B9,lt_or_ge->Cp,mul_one->Dc,pow_succ->Fh,mul_comm->DV,pow_le_pow_right->Dv
open Go.World renaming ownsRow_made->Fo,cell?_alloc_mark->F0
open Go.Value renaming int->Ab,string->Ae,slice->Aa
open UInt8 renaming ofNat->AW,toNat_ofNat'->Bk
open Go.Obj renaming cells->Ai
open Go.Ending renaming returned->Aj
open Go.Proofs.Tryz renaming prog->Am
open Go.Proofs.Tryz
namespace Go.Proofs.YtlojblelpaegpaaGreat
open Go.RowKit
variable{C:Array Oper}{K:Act->Ap->Prop}{Q:Exit->Act->Ap->Prop}{S:Nat->Prop}{X:Prop}{a:Act}{ao:Option Addr}{b base c cap g i k n:Nat}{bs l x xs:Bs}{e:AP}{p:Addr}{u v:Ar}{w w':Ap}{α:Type}
theorem ZhP{size m:Nat}{xs:List Ar}(h:w.ownsRow base e size (Aa ao n cap) m xs){a:Addr}(b:ao=some a):(Aa (some a) n cap).ownBlock=some a.block:=by
 rcases h.2 with⟨e,_⟩ | ⟨g,c,d,e,_⟩
 ·cases e;cases b
 ·cases e;cases b;rfl
theorem Zaa.cell(h:Zaa S w w')(hp:p.block<w.heap.size)(a:¬S p.block):w'.cell? p=w.cell? p :=
 World.cell?_of_block (w:=w) (h.block _ hp a)
theorem Za2{o:Oper}(E:Enc α)(e t:AP)(c:Nat)(z:Ar)(O:z.cells.size=E.size)
  (f:(Am.info? e).map (λ i=>(i.zero,i.size,i.bytes))=some (some z,E.size,c)) (M:Am.underlying t=some (.slice e)) (n:o.guard=none) (s x:CJ)
  (q:o.op=.call { callee:=.builtin .append,args:=#[s,x],argTypes:=#[t,t] }) (base:Nat) (v:Ar) (g:List α) (y:α) (L:a.eval s=v) (d:OwnG E e w base v g)
  (b:Nat) (N:a.eval x=Aa (some ⟨b,0,none⟩) 1 1) (J:∀j u,(E.cells y)[j]? = some u->w.cell? ((⟨b,0,none⟩:Addr).add j)=some u) (l:(g.length+1)*c<=140737488355328) (m:g.length+1<=AG) (D:base<=w.heap.size)
  (h:∀v' w',OwnG E e w' base v' (g++[y])->An base w w'->ZaP w v v'->Zaa (λ k=>v.ownBlock=some k) w w'->K (a.put o.dst v') w') :
  if Br o (Dg C a.tmps)=true then Oper.wp Am o a w K Q else X:=by
 obtain⟨i0,p,r,A,B⟩:=Cd f;refine Zbq n s x t q base e i0 _ E.size c M p r A B O E.pos v g.length (E.all g) L d ⟨b,0,none⟩ 1 1 (E.cells y) N (by rw[E.len,Nat.one_mul]) J (E.one y) m l D ?_;intro v' w' G H I;have F:Zaa (λ k=>v.ownBlock=some k) w w':=(Zaa.refl _ _).grown H (λ k _ e=>e);refine h v' w' ?_ (OwnG.turn d D F) I F;unfold OwnG;rw[AD,E.all_append];simpa[Enc.all]using G
theorem bz1(u:Ap)(o:Obj):An u.heap.size u (u.alloc o):=(Below.refl _ u).alloc (Az _) o
theorem bz2(u:Ap)(o a:Obj):An u.heap.size u ((u.alloc o).alloc a):=(bz1 u o).trans ((bz1 (u.alloc o) a).mono (bz1 u o).size)
theorem Zql{a:List Bs}(h:Own w base (Aa (some ⟨g,0,none⟩) n cap) a)(hi:i<a.length):
  w.cell? ⟨g,i,none⟩=some (Ae ⟨(el a i).toArray⟩)/\w.frozen? ⟨g,i,none⟩=false:=by
 have c:a.length=n:=Zam h;subst c;have b:w.ownsRow base 9 1 (Aa (some ⟨g,0,none⟩) a.length cap) a.length (a.map encStr):=h;refine⟨?_,b.frozenAt _⟩;rw[b.cellAt _ (by omega),List.getElem?_map,Aq hi,Za9 hi]
 rfl
theorem ZpG{a:List Bs}(h:Own w base (Aa (some ⟨g,0,none⟩) n cap) a)(i:Nat)(y:Bs):
  Own (w.setCell ⟨g,i,none⟩ (Ae ⟨y.toArray⟩)) base (Aa (some ⟨g,0,none⟩) n cap) (a.set i y):=by
 have c:a.length=n:=Zam h;subst c;have b:w.ownsRow base 9 1 (Aa (some ⟨g,0,none⟩) a.length cap) a.length (a.map encStr):=h;unfold Own;rw[List.length_set,List.map_set];exact(b.stored i _).1
structure SW(S:Ap->Prop) where
 w:Ap
 ok:S w
theorem Zab{P:Program}{S:Ap->Prop}{id:Nat}{l:List Oper}(e:P.follows .mixedOrders=true)(d:Region.lexB .any l.toArray=true)(c:S w.drew)
  (h:wpQuiet P l.toArray (λ w'=>∃u:SW S,w'=u.w) (λ b=>∀w',(∃u:SW S,w'=u.w)->Q .normal b w') l a):(Code.region id l.toArray true).wp P Q a w :=
 wp_region_quiet (C:=λ w'=>∃u:SW S,w'=u.w) e d ⟨⟨w.drew,c⟩,rfl⟩ (by simpa using h)
def encB:Enc UInt8:=⟨λ b=>[Ab .u8 (b.toNat:Int)],1,λ _=>rfl,by decide,by intro x u h;simp at h;subst h;rfl⟩
def BAt(w:Ap)(v:Ar)(bs:Bs):Prop:=∃ao c,v=Aa ao bs.length c/\bs.length<=c/\c<=9223372036854775807/\RdG encB w ao bs
abbrev OwnB(w:Ap)(v:Ar)(bs:Bs):Prop:=OwnG encB 5 w 0 v bs
theorem OwnB.at(h:OwnB w v bs):BAt w v bs:=by
 obtain⟨ao,c,e,a,b,d,_⟩:=OwnG.form h;exact⟨ao,c,e,a,b,d⟩
theorem BAt.below(h:BAt w v bs)(f:An w.heap.size w w'):BAt w' v bs:=by
 obtain⟨ao,c,e,a,b,d⟩:=h;exact⟨ao,c,e,a,b,d.below f⟩
theorem Zah(h:An w.drew.heap.size w.drew w'):An w.heap.size w w':=⟨h.os,h.tape,h.output,h.size,h.block⟩
theorem Tryz.info5:(Am.info? 5).map (λ i=>(i.zero,i.size,i.bytes))=some (some (Ab .u8 0),1,1):=by kernel_rfl
theorem Zmg(w:Ap):OwnG encB 5 (w.alloc (Ai #[] 5)) w.heap.size (Aa (some ⟨w.heap.size,0,none⟩) 0 0) [] :=
 Fo w #[] 0 (Az _) (BG _) rfl
theorem appB{d:Array Oper}{rest:List Oper}{o:Oper}(f:o.guard=none)(s x:CJ)
  (g:o.op=.call { callee:=.builtin .append,args:=#[s,x],argTypes:=#[61,61] }) (base:Nat) (v u:Ar) (e xs:Bs) (n:a.eval s=v) (b:OwnG encB 5 w base v e)
  (p:a.eval x=u) (m:BAt w u xs) (i:e.length+xs.length<=140737488355328) (l:base<=w.heap.size)
  (h:∀v' w',OwnG encB 5 w' base v' (e++xs)->An base w w'->ZaP w v v'->Zaa (λ k=>v.ownBlock=some k) w w'->wpList Am d Q rest (a.put o.dst v') w') :
  wpList Am d Q (o::rest) a w:=by
 obtain⟨ao,c,rfl,q,r,j⟩:=m;exact Za7 encB 5 61 1 (Ab .u8 0) rfl Tryz.info5 underlying61 f s x g base v e xs ao _ c n b p j rfl (by omega) (by simp only[AG];omega) l h
theorem Zih(w:Ap):
  At Am 167 #[Aa none n c] w λ e w'=>e=Aj (Aa none 0 0)/\w'=w:=by
 have q:∀(w:Ap) (a:Option Addr) (n c b c':Nat),(binOp .eql 61 (Aa a n c) (Aa none b c')).run Am w=.ok (.bool a.isNone) w:=λ w a n c b c'=>Lib.run_eql_slice_nil w _ _ a n c b c' underlying61
 go_enter func167,ntmps167;go_wp2;go_ret;exact⟨rfl,rfl⟩
theorem ZiC(w:Ap)(g:BAt w (Aa (some p) n c) xs)(i:xs.length<=140737488355328):
  At Am 167 #[Aa (some p) n c] w λ e w'=>∃v',e=Aj v'/\OwnG encB 5 w' w.heap.size v' xs/\An w.heap.size w w':=by
 have H:Hid (BAt w (Aa (some p) n c) xs):=g;clear g
 have q:∀(w:Ap) (a:Option Addr) (n c f c':Nat),(binOp .eql 61 (Aa a n c) (Aa none f c')).run Am w=.ok (.bool a.isNone) w:=λ w a n c f c'=>Lib.run_eql_slice_nil w _ _ a n c f c' underlying61
 go_enter func167,ntmps167;go_wp2_with(at_builtin;(refine appB rfl (.tmp 5) (.tmp 6) rfl w.heap.size _ _ [] xs rfl (Zmg w) rfl (H.o.below (bz1 w _)) (by simp;omega) (by simp) ?_;intro h j b d _ _));go_wp2;go_ret;rw[List.nil_append]at b;exact⟨h,rfl,b,(bz1 w _).trans d⟩
theorem Zjy(w:Ap)(h:BAt w v xs)(g:xs.length<=140737488355328):
  At Am 167 #[v] w λ e w'=>∃v',e=Aj v'/\OwnG encB 5 w' w.heap.size v' xs/\An w.heap.size w w':=by
 have a:=h;obtain⟨ao,c,rfl,i,j,f⟩:=h
 cases ao with
 | none =>
  have d:xs=[]:=by
   rcases B9 xs.length with q|q
   ·exact AT q
   ·obtain⟨b,off,e,_⟩:=f q;cases e
  subst d;refine(Zih w).mono ?_;rintro e w' ⟨rfl,rfl⟩;exact⟨_,rfl,OwnG.nil _ _ _ _,Below.refl _ _⟩
 | some p=>exact ZiC w a g
theorem ZlS(w:Ap):At Am 182 #[Aa none 0 0,Ab .i64 0] w λ e w'=>e=Aj (Aa none 0 0)/\w'=w:=by
 go_enter func182,ntmps182;go_wp2;go_ret;exact⟨rfl,rfl⟩
theorem ZlH(w:Ap)(n:Nat)(l:0<n)(s:n<=140737488355328):
  At Am 182 #[Aa none 0 0,Ab .i64 (n:Int)] w λ e w'=>∃v',e=Aj v'/\OwnG encB 5 w' w.heap.size v' []/\An w.heap.size w w':=by
 obtain⟨i0,g,i,j,k⟩:=Cd Tryz.info5;have h:=Lib.run_append_nil_zeros (P:=Am) w 61 3 61 5 i0 (Ab .u8 0) .i64 .i64 underlying61 underlying3 g i n l (by rw[j];decide) (by omega) (by rw[k];omega)
 obtain⟨C,d⟩:=Xa (FA w n 0 5)
 obtain⟨Y,f⟩:=Xa (Builtin.zeroCells (Ab .u8 0).cells n++Builtin.zeroCells (Ab .u8 0).cells (FA w n 0 5 - n))
 have b:=grownCap_ge w n 0 5;have a:=Gs w n 0 5 (by simp only[AG];omega)
 have c:Y.size=C*1:=by
  rw[<- f,<- d];simp only[Array.size_append,size_zeroCells];simp[Value.cells];omega
 rw[f,d]at h;rw[d]at b a
 have K:Hid (Y.size=C*1/\n<=C/\C<=AG):=⟨c,b,a⟩
 have m:C<=9223372036854775807:=by simpa[AG]using a
 have p:Hid _:=h;clear h d f c a
 have r:decide ((0:Int)<(n:Int))=true:=by simpa using l
 have t:decide ((n:Int)<0)=false:=by simp
 go_enter func182,ntmps182;go_wp2_with(at_builtin;refine Lib.wpList_append_run _ rfl (.tmp 20) (.tmp 21) 61 3 rfl _ _ rfl rfl _ _ p.o ?_);go_wp2;go_ret;refine⟨_,rfl,⟨rfl,.inr ⟨w.heap.size,C,Y,rfl,Az _,heap_alloc_new w _,BG _,K.o.2.2,K.o.1,?_⟩⟩,((Zaa.refl (λ _=>False) w).alloc _).drew.below (Az _) (λ _ _ q=>q)⟩;simp[Enc.all]
theorem Znd(w:Ap)(n:Nat)(a:n<=140737488355328):
  At Am 182 #[Aa none 0 0,Ab .i64 (n:Int)] w λ e w'=>∃v',e=Aj v'/\OwnG encB 5 w' w.heap.size v' []/\An w.heap.size w w':=by
 rcases B9 n with rfl|h
 ·refine(ZlS w).mono ?_;rintro e w' ⟨rfl,rfl⟩;exact⟨_,rfl,OwnG.nil _ _ _ _,Below.refl _ _⟩
 ·exact ZlH w n h a
def ZaF(w:Ap)(v:Ar)(xss:List Bs):Prop:=∃ao c,v=Aa ao xss.length c/\(0<xss.length->∃b off,ao=some ⟨b,off,none⟩/\b<w.heap.size) /\
 ∀j x b off,xss[j]? = some x->ao=some ⟨b,off,none⟩->∃u,w.cell? ⟨b,off+j,none⟩=some u/\BAt w u x
theorem Za8{a:List Bs}(h:a[i]? = some x):(a.take (i+1)).flatten=(a.take i).flatten++x:=by
 rw[AO,h];simp
theorem ZdK(a:List Bs)(i:Nat):(a.take i).flatten.length<=a.flatten.length:=by
 have:a.flatten=(a.take i).flatten++(a.drop i).flatten:=by rw[<- List.flatten_append,List.take_append_drop]
 rw[this];simp
theorem Zaf{xs:List α}(a:xs.length=n)(hi:i<n):∃x,xs[i]? = some x:=⟨xs[i]'(by omega),Aq (by omega)⟩
theorem Zce{a:List Bs}(w:Ap)(h:ZaF w v a)(Y:a.length<=1000000)(Z:a.flatten.length<=262144):
  At Am 116 #[v] w λ e w'=>∃v',e=Aj v'/\OwnG encB 5 w' w.heap.size v' a.flatten/\An w.heap.size w w':=by
 have P:ZaF w v a:=h;obtain⟨ao,c,rfl,F,Q⟩:=h
 obtain⟨n,z⟩:=Xa a.length
 obtain⟨N,E⟩:=Xa a.flatten.length
 rw[z]at Y F ⊢
 have H:Hid (ZaF w (Aa ao n c) a/\a.length=n/\a.flatten.length=N):=⟨by rw[<- z];exact P,z,E⟩
 rw[E]at Z;have A:Hid (0<n->∃b off,ao=some ⟨b,off,none⟩/\b<w.heap.size):=F;have B:Hid (∀j x b off,a[j]? = some x->ao=some ⟨b,off,none⟩->∃u,w.cell? ⟨b,off+j,none⟩=some u/\BAt w u x):=Q;clear P F Q z E;go_enter func116,ntmps116;go_wp2;go_loopg[3,11] n (λ k sv J wr=>wr=w/\∃i:Nat,J=Ab .i64 i/\i+k=n/\sv=Ab .i64 ((a.take i).flatten.length:Int))
 case atStart=>exact⟨rfl,0,rfl,by omega,rfl⟩
 case round =>
  obtain⟨T,i,rfl,hi,rfl⟩:=hrel;have I:=T.symm;subst I;clear T;by_cases m:i<n
  ·have id:(i:Int)<(n:Int):=by omega
   obtain⟨x,d⟩:=Zaf H.o.2.1 m;obtain⟨b1,D,rfl,y⟩:=A.o (by omega);obtain⟨u,C,a2,c2,rfl,_,_,_⟩:=B.o i x b1 D d rfl;have X:Hid (a[i]? = some x):=d;have t:=Za8 d;have g:=ZdK a (i+1);rw[t,AD,H.o.2.2]at g
   obtain⟨s,G⟩:=Xa ((a.take i).flatten.length)
   have SS:Hid (_=_):=G;rw[G]at g ⊢
   obtain⟨U,r⟩:=Xa x.length
   rw[r]at g C;have W:Hid (x.length=U):=r;clear d t G r
   have nn:decide ((s:Int)+(U:Int)<0)=false:=by simp;omega
   go_wp2;go_roundg (gk - 1)
   all_goals first
    | omega
    | exact⟨rfl,i+1,by go_num,by omega,by rw[Za8 X.o,AD,SS.o,W.o];go_num⟩
  ·obtain rfl:i=n:=by omega
   have e0:(a.take i).flatten.length=N:=by rw[Av (by rw[H.o.2.1];exact Az _)];exact H.o.2.2
   rw[e0];have S:=Znd w N (by omega);go_wp2_with fail;refine S.mono ?_;rintro e w1 ⟨v1,rfl,M,L⟩
   have V:Hid (OwnG encB 5 w1 w.heap.size v1 []/\An w.heap.size w w1):=⟨M,L⟩
   clear M L S;go_wp2_with fail;go_loopg[6,27] i (λ k lv J K=>∃j:Nat,J=Ab .i64 j/\j+k=i/\Hid (OwnG encB 5 K w.heap.size lv (a.take j).flatten/\An w.heap.size w K))
   case atStart=>exact⟨0,rfl,by omega,V.o⟩
   case round =>
    obtain⟨j,rfl,hj,f⟩:=hrel;by_cases m:j<i
    ·have id:(j:Int)<(i:Int):=by omega
     obtain⟨x,d⟩:=Zaf H.o.2.1 m;obtain⟨b1,D,rfl,y⟩:=A.o (by omega);obtain⟨u,C,R⟩:=B.o j x b1 D d rfl;have aa:=(f.o.2.cell (p:=⟨b1,D+j,none⟩) y).trans C;have X:Hid (a[j]? = some x):=d;have t:=Za8 d;have g:=ZdK a (j+1);rw[t,AD,H.o.2.2]at g
     have O:Hid (BAt wr u x/\(a.take j).flatten.length+x.length<=N):=⟨R.below f.o.2,g⟩
     clear d t g C R;go_wp2_with(at_builtin;(refine appB rfl (.tmp 31) (.tmp 32) rfl w.heap.size _ _ (a.take j).flatten x rfl f.o.1 rfl O.o.1 (by have:=O.o.2;omega) f.o.2.size ?_;intro v2 K q l _ _));go_wp2;go_roundg (gk - 1)
     all_goals first
      | omega
      | exact⟨j+1,by go_num,by omega,by rw[Za8 X.o];exact q,f.o.2.trans l⟩
    ·obtain rfl:j=i:=by omega
     have e0:(a.take j).flatten=a.flatten:=by rw[Av (by rw[H.o.2.1];exact Az _)]
     go_wp2;go_ret;exact⟨_,rfl,by rw[<- e0];exact f.o.1,f.o.2⟩
abbrev tx(n:Bs):Ar:=Ae ⟨n.toArray⟩
theorem Za1(h:BAt w v bs):(convert 61 9 v).run Am w=.ok (tx bs) w:=by
 obtain⟨ao,c,rfl,k,l,d⟩:=h;by_cases a:0<bs.length
 ·obtain⟨b,off,rfl,i,f⟩:=d a;refine run_convert_bytes_back (P:=Am) w 61 9 5 ⟨b,off,none⟩ c bs underlying61 underlying5 underlying9 (λ j g=>?_);have:=f j bs[j] (Aq g) 0 _ rfl;rw[Zap]
  have e:off+(j*encB.size+0)=off+j:=by show off+(j*1+0)=off+j;omega
  rw[e]at this;exact this
 ·obtain rfl:bs=[]:=AT (by omega);have e0:([]:Bs).length=0:=rfl;rw[e0,run_convert_bytes_string (P:=Am) w 61 9 5 ao 0 c underlying61 underlying5 underlying9]
  cases ao <;> simp[Conv.bytesToString,loadCells]
  all_goals rfl
theorem ZfY(w:Ap)(bs:Bs)(t:AP)(fr:Nat×Nat)(c:Array Ar)(d:c=(bs.map (λ x=>Ab .u8 (x.toNat:Int))).toArray)(n:Nat)(g:n=bs.length)(h:bs.length<=1000000):BAt (w.alloc (Ai c t fr)) (Aa (some ⟨w.heap.size,0,none⟩) n n) bs:=by
 subst d;subst g;refine⟨_,_,rfl,Az _,by omega,λ _=>⟨w.heap.size,0,rfl,by simp,λ i x a j u b=>?_⟩⟩
 have f:j=0:=by
  rcases B9 j with q|q
  ·exact q
  ·rw[AL (by show([_]:List Ar).length<=j;simp;omega)]at b;cases b
 subst f
 have hi:i<bs.length:=by
  rcases Cp i bs.length with q|q
  ·exact q
  ·rw[AL q]at a;cases a
 have e:0+(i*encB.size+0)=i:=by show 0+(i*1+0)=i;omega
 rw[e,F0];rw[Aq hi]at a;cases a;simp[hi];simpa[encB]using b
theorem ZbV(h:BAt w u x)(t:AP):ZaF (w.alloc (Ai #[u] t)) (Aa (some ⟨w.heap.size,0,none⟩) 1 1) [x]:=by
 refine⟨_,1,rfl,λ _=>⟨w.heap.size,0,rfl,by simp⟩,λ j y b off a c=>?_⟩;cases c
 have d:j=0:=by
  rcases B9 j with q|q
  ·exact q
  ·rw[AL (by simp;omega)]at a;cases a
 subst d;cases a;exact⟨u,by simp,h.below (bz1 w _)⟩
theorem ZgB{y:Bs}(h:BAt w u x)(k:BAt w v y)(t:AP):ZaF (w.alloc (Ai #[u,v] t)) (Aa (some ⟨w.heap.size,0,none⟩) 2 2) [x,y]:=by
 refine⟨_,2,rfl,λ _=>⟨w.heap.size,0,rfl,by simp⟩,λ j z b off a c=>?_⟩;cases c
 match j,a with
 | 0,a =>
  cases a;exact⟨u,by simp,h.below (bz1 w _)⟩
 | 1,a =>
  cases a;exact⟨v,by simp,k.below (bz1 w _)⟩
 | j+2,a=>simp at a
theorem ZkW(a b:Bs):Ae ((⟨a.toArray⟩:ByteArray)++(⟨b.toArray⟩:ByteArray))=tx (a++b):=by
 show Ae _=Ae _
 congr 1
theorem ZbC{c:Array Ar}{t:AP}(h:w.heap[b]? = some (Ai c t (0,0)))(i:Nat)(u:Ar):(w.setCell ⟨b,i,none⟩ u).heap[b]? = some (Ai (c.setIfInBounds i u) t (0,0)):=by
 simp[World.setCell,Array.getElem?_modify,h]
theorem Zad(i:Nat)(u:Ar):Zaa (λ k=>k=b) w (w.setCell ⟨b,i,none⟩ u):=(Zaa.refl (λ k=>k=b) w).setCell (p:=⟨b,i,none⟩) (.inl (show b=b from rfl)) u
structure Raw(w:Ap)(g:Nat)(bs:Bs):Prop where
 lt:g<w.heap.size
 cell:∀j x,bs[j]? = some x->w.cell? ⟨g,j,none⟩=some (Ab .u8 (x.toNat:Int))
 thaw:∀j,j<bs.length->w.frozen? ⟨g,j,none⟩=false
theorem Raw.at(h:Raw w g bs)(b:bs.length<=c)(d:c<=9223372036854775807):BAt w (Aa (some ⟨g,0,none⟩) bs.length c) bs:=by
 refine⟨_,c,rfl,b,d,λ _=>⟨g,0,rfl,h.lt,λ i x k j u a=>?_⟩⟩
 have f:j=0:=by
  rcases B9 j with q|q
  ·exact q
  ·rw[AL (by show([_]:List Ar).length<=j;simp;omega)]at a;cases a
 subst f
 have e:0+(i*encB.size+0)=i:=by show 0+(i*1+0)=i;omega
 rw[e,h.cell i x k];exact a
theorem ZaU(w:Ap)(bs:Bs):∃W' c,(convert 9 61 (tx bs)).run Am w=.ok (Aa (some ⟨w.heap.size,0,none⟩) bs.length c) W'/\An w.heap.size w W'/\W'.heap.size=w.heap.size+1/\Raw W' w.heap.size bs/\bs.length<=c/\(bs.length<=AG->c<=9223372036854775807):=by
 refine⟨_,_,run_bytes_of_string (P:=Am) w 9 61 5 ⟨bs.toArray⟩ underlying9 underlying61 underlying5,?_,?_,⟨?_,?_,?_⟩,?_,?_⟩
 ·exact Zah (bz1 w.drew _)
 ·show(w.heap.push _).size=_;simp
 ·show w.heap.size<(w.heap.push _).size;simp
 ·intro j x b
  have a:j<bs.length:=by
   rcases Cp j bs.length with q|q
   ·exact q
   ·rw[AL q]at b;cases b
  have d:=bytesRow_at ⟨bs.toArray⟩ (FA w (⟨bs.toArray⟩:ByteArray).size 0 5) j (by simpa using a);refine((F0 w.drew _ 5 _ j).trans d).trans ?_;rw[Aq a]at b;cases b;simp
 ·intro j a
  have g:j<(bytesRow ⟨bs.toArray⟩ (FA w (⟨bs.toArray⟩:ByteArray).size 0 5)).size:=by
   have d:=bytesRow_at ⟨bs.toArray⟩ (FA w (⟨bs.toArray⟩:ByteArray).size 0 5) j (by simpa using a);exact(Array.getElem?_eq_some_iff.1 d).1
  obtain⟨C,e⟩:=Xa (bytesRow ⟨bs.toArray⟩ (FA w (⟨bs.toArray⟩:ByteArray).size 0 5))
  rw[e]at g ⊢
  have f:(w.drew.alloc (Ai C 5 (C.size,C.size+1))).heap[w.heap.size]? = some (Ai C 5 (C.size,C.size+1)):=by
   show(w.heap.push _)[w.heap.size]? = _;simp
  simp only[World.frozen?,f];simp;omega
 ·exact grownCap_ge _ _ _ _
 ·intro h;have:=Gs w (⟨bs.toArray⟩:ByteArray).size 0 5 h;simp only[AG]at this;omega
theorem ZfC(o:n<=c)(p:k<=n):
  ∃g c',(∀w,(Instr.slice 61 (Aa ao n c) none (some (Ab .i64 (k:Int))) none).run Am w=.ok (Aa g k c') w)/\k<=c'/\c'<=c/\∀w (xs:Bs),RdG encB w ao xs->RdG encB w g (xs.take k):=by
 obtain⟨i0,d,l,f,m⟩:=Cd Tryz.info5;refine⟨if c=0 then ao else ao.map (·.add 0),c,λ w=>?_,by omega,Az _,?_⟩
 ·rw[run_slice_h w 61 ao n c underlying61 .i64 (k:Int) (by omega) (by omega)]
  have:(EV (Am.elem 61)).run Am w=.ok 1 w:=by
   have j:Am.elem 61=5:=by kernel_rfl
   rw[j];simp[EV,typeInfo,d,f]
  rw[this];simp only[Result.andThen,sliced,Int.toNat_natCast,Dc,Nat.sub_zero]
 ·intro w xs h
  split
  ·exact h.take k
  ·intro i;obtain⟨b,off,rfl,e,a⟩:=h (by simp at i;omega);simp only[Option.map_some,Zap,Nat.add_zero];exact RdG.take (λ _=>⟨b,off,rfl,e,a⟩) k i
theorem ZfM(o:n<=c)(p:k<=n):
  ∃i c',(∀w,(Instr.slice 61 (Aa ao n c) (some (Ab .i64 (k:Int))) none none).run Am w=.ok (Aa i (n - k) c') w)/\n - k<=c'/\c'<=c/\∀w (xs:Bs),xs.length=n->RdG encB w ao xs->RdG encB w i (xs.drop k):=by
 obtain⟨i0,e,l,g,m⟩:=Cd Tryz.info5;refine⟨if c=k then ao else ao.map (·.add k),c - k,λ w=>?_,by omega,by omega,?_⟩
 ·rw[run_slice_l w 61 ao n c underlying61 .i64 (k:Int) (by omega) (by omega)]
  have:(EV (Am.elem 61)).run Am w=.ok 1 w:=by
   have j:Am.elem 61=5:=by kernel_rfl
   rw[j];simp[EV,typeInfo,e,g]
  rw[this];simp only[Result.andThen,sliced,Int.toNat_natCast,Dc]
 ·intro w xs q h
  split
  ·intro a;simp at a;omega
  ·intro a;obtain⟨b,off,rfl,f,d⟩:=h (by simp at a;omega);simp only[Option.map_some,Zap];have:=RdG.drop (E:=encB) (b:=b) (off:=off) (xs:=xs) (λ _=>⟨b,off,rfl,f,d⟩) k a;rw[show k*encB.size=k from Dc k]at this;exact this
theorem Zbr{o:Oper}(E:Enc α)(e t:AP)(d:Nat)(z:Ar)(hz:z.cells.size=E.size)
  (g:(Am.info? e).map (λ i=>(i.zero,i.size,i.bytes))=some (some z,E.size,d)) (D:Am.underlying t=some (.slice e)) (m:o.guard=none) (s x:CJ)
  (A:o.op=.call { callee:=.builtin .append,args:=#[s,x],argTypes:=#[t,t] }) (base:Nat) (v:Ar) (l xs:List α) (ao:Option Addr) (n c:Nat) (N:a.eval s=v) (f:OwnG E e w base v l)
  (P:a.eval x=Aa ao n c) (Z:RdG E w ao xs) (G:xs.length=n) (q:(l.length+n)*d<=140737488355328) (r:l.length+n<=AG) (M:base<=w.heap.size)
  (h:∀v' w',OwnG E e w' base v' (l++xs)->An base w w'->ZaP w v v'->Zaa (λ k=>v.ownBlock=some k) w w'->K (a.put o.dst v') w') :
  if Br o (Dg C a.tmps)=true then Oper.wp Am o a w K Q else X:=by
 obtain⟨i0,p,I,J,L⟩:=Cd g;by_cases R:0<xs.length
 ·obtain⟨b,off,rfl,Y,V⟩:=Z R
  refine Zbq m s x t A base e i0 _ E.size d D p I J L hz E.pos v l.length (E.all l) N f ⟨b,off,none⟩ n c (E.all xs) P (by rw[E.all_length,G]) (by
   intro k u W;obtain⟨i,j,y,rfl,hj,hy,D⟩:=E.all_split xs k u W;rw[Zap]
   exact V i y hy j u D) (E.all_one xs) r q M ?_
  intro v' w' S T U;have O:Zaa (λ k=>v.ownBlock=some k) w w':=(Zaa.refl _ _).grown T (λ k _ e=>e);refine h v' w' ?_ (OwnG.turn f M O) U O;unfold OwnG;rw[AD,E.all_append,G];exact S
 ·obtain rfl:xs=[]:=AT (by omega);obtain rfl:n=0:=G.symm;obtain⟨F,cap,rfl,H,_,_⟩:=f.form
  have hw:Br o (Dg C a.tmps)=true:=by simp[Br,m]
  rw[AE hw];have B:=Zbl t o.type e i0 D p F l.length cap H ao c w;unfold Oper.wp;simp[execOp,A,resolve,invoke,builtin,N,P,B,Result.andThen];exact h _ w (by rw[List.append_nil];exact f) (Below.refl _ _) (.inl rfl) (Zaa.refl _ _)
theorem oz(w:Ap)(base:Nat)(a:base<=w.heap.size):OwnG encB 5 (w.alloc (Ai #[] 5)) base (Aa (some ⟨w.heap.size,0,none⟩) 0 0) [] :=
 Zbm (Fo w #[] 0 (Az _) (BG _) rfl) a
theorem ob1(u:Ap):OwnG encB 5 (u.alloc (Ai #[] 5)) u.heap.size (Aa (some ⟨u.heap.size,0,none⟩) 0 0) []:=oz u _ (Az _)
theorem ob2(u:Ap)(o:Obj):OwnG encB 5 ((u.alloc (Ai #[] 5)).alloc o) u.heap.size (Aa (some ⟨u.heap.size,0,none⟩) 0 0) []:=(ob1 u).below (bz1 _ _)
theorem ob3(u:Ap)(o:Obj):OwnG encB 5 ((u.alloc o).alloc (Ai #[] 5)) u.heap.size (Aa (some ⟨u.heap.size+1,0,none⟩) 0 0) []:=by
 have:=oz (u.alloc o) u.heap.size (by simp)
 have e:(u.alloc o).heap.size=u.heap.size+1:=by simp
 rw[e]at this;exact this
theorem OwnG.stays{E:Enc α}{a:List α}(h:OwnG E e w base v a)(c:Zaa S w w')(b:∀g,v.ownBlock=some g->¬S g):OwnG E e w' base v a:=Za3 h c b
theorem Zlp(h:OwnG encB 5 w base (Aa (some ⟨g,0,none⟩) n cap) bs)(hi:i<bs.length):
  ∃y:UInt8,bs[i]? = some y/\w.cell? ⟨g,i,none⟩=some (Ab .u8 (y.toNat:Int))/\w.frozen? ⟨g,i,none⟩=false:=by
 have b:bs.length=n:=Zam h;subst b;have a:w.ownsRow base 5 1 (Aa (some ⟨g,0,none⟩) bs.length cap) bs.length (encB.all bs):=h;refine⟨bs[i],Aq hi,?_,a.frozenAt _⟩;rw[a.cellAt _ (by rw[Dc];exact hi)];have:=encB.all_get bs i 0 bs[i] (Aq hi) (by decide);rw[show i*encB.size+0=i from(by show i*1+0=i;omega)]at this;rw[this]
 rfl
theorem ZiM(h:OwnG encB 5 w base (Aa (some ⟨g,0,none⟩) n cap) bs)(hi:i<bs.length)(y:UInt8):
  OwnG encB 5 (w.setCell ⟨g,i,none⟩ (Ab .u8 (y.toNat:Int))) base (Aa (some ⟨g,0,none⟩) n cap) (bs.set i y):=by
 have:=OwnG.put h (i:=i) (j:=0) (Aq hi) (by decide) y (Ab .u8 (y.toNat:Int)) (by simp[encB]);rw[show i*encB.size+0=i from(by show i*1+0=i;omega)]at this;exact this
def Grew(w u:Ap):Prop:=An w.heap.size w u
theorem RdG.turned{E:Enc α}{T:Nat->Prop}{xs:List α}(h:RdG E w ao xs)(d:Zaa T w w')(e:0<xs.length->∀p,ao=some p->¬T p.block):RdG E w' ao xs:=by
 intro c;obtain⟨b,off,rfl,a,f⟩:=h c;exact⟨b,off,rfl,Nat.lt_of_lt_of_le a d.size,λ i x k j u g=>(d.cell (p:=⟨b,off+(i*E.size+j),none⟩) a (show ¬T b from e c ⟨b,off,none⟩ rfl)).trans (f i x k j u g)⟩
def val(bs:Bs):Nat:=bs.foldl (λ v b=>v*256+b.toNat) 0
theorem Zis(a b:Bs):val (a++b)=val a*256 ^ b.length+val b:=by
 have key:∀(b:Bs) (v:Nat),b.foldl (λ v b=>v*256+b.toNat) v=v*256 ^ b.length+val b:=by
  intro b
  induction b with
  | nil=>intro v;simp[val]
  | cons x t c =>
   intro v
   have e:val (x::t)=x.toNat*256 ^ t.length+val t:=by
    show List.foldl _ (0*256+x.toNat) t=_;rw[c,Nat.zero_mul,Nat.zero_add]
   rw[List.foldl_cons,c,e,A3,Fh,Nat.add_mul,Nat.mul_assoc v,DV 256,Nat.add_assoc]
 unfold val;rw[List.foldl_append,key]
 rfl
theorem Zg0(a:Bs):val a<256 ^ a.length:=by
 induction a with
 | nil=>decide
 | cons x t c =>
  have e:val (x::t)=x.toNat*256 ^ t.length+val t:=by
   have:=Zis [x] t;rw[show[x]++t=x::t from rfl]at this;rw[this];simp[val]
  have b:=x.toNat_lt;rw[e,A3,Fh,DV _ 256];have:x.toNat*256 ^ t.length<=255*256 ^ t.length:=Nat.mul_le_mul_right _ (by omega);omega
theorem ZfB(l:Bs)(i:Nat)(hi:i<l.length):val (l.take (i+1))=val (l.take i)*256+l[i].toNat:=by
 rw[AO,Aq hi];show val (_++[l[i]])=_;rw[Zis];simp[val]
theorem ZiT(l:Bs)(x:UInt8):val (l++[x])=val l*256+x.toNat:=by
 rw[Zis];simp[val]
theorem Zp0(h:l.length<=8):val l<18446744073709551616:=by
 have a:=Zg0 l;have b:=Dv (n:=256) (by decide) h
 have e:256 ^ 8=18446744073709551616:=by decide
 omega
theorem val_1(h:l.length<=1):val l<=255:=by
 have a:=Zg0 l;have b:=Dv (n:=256) (by decide) h
 have e:256 ^ 1=256:=by decide
 omega
def low:Nat->Nat->Bs
 | 0,_=>[]
 | k+1,n=>low k (n / 256)++[AW n]
theorem Zar:∀k n,(low k n).length=k
 | 0,_=>rfl
 | k+1,n=>by simp[low,Zar k]
theorem Zii:∀k n,val (low k n)=n % 256 ^ k
 | 0,n=>by simp[low,val,Nat.mod_one]
 | k+1,n=>by
  rw[low,ZiT,Zii k,Fh,DV (256 ^ k),Nat.mod_mul,Bk];omega
theorem Zh4(l:Bs):low l.length (val l)=l:=by
 have key:∀n (l:Bs),l.length=n->low n (val l)=l:=by
  intro n
  induction n with
  | zero=>intro l h;rw[AT h];rfl
  | succ n b =>
   intro l h
   have a:l≠[]:=by intro e;rw[e]at h;simp at h
   obtain⟨t,x,rfl⟩:∃t x,l=t++[x]:=⟨l.dropLast,l.getLast a,(List.dropLast_concat_getLast a).symm⟩
   have c:=x.toNat_lt;rw[ZiT,low,show(val t*256+x.toNat) / 256=val t by omega,b t (by simpa using h)]
   congr 2
   apply UInt8.toNat_inj.1;rw[Bk];omega
 exact key _ l rfl
def b8(x:UInt64):Bs:=low 8 x.toNat
theorem Zb0(x:UInt64):(b8 x).length=8:=Zar _ _
theorem ZiX (x:UInt64):val (b8 x)=x.toNat:=by
 rw [b8,Zii];have:=x.toNat_lt
 exact Nat.mod_eq_of_lt (by have e : 256 ^ 8 = 2 ^ 64 := by decide
                            omega)
theorem Zbg(h:l.length<=8):(UInt64.ofNat (val l)).toNat=val l:=by
 have:=Zp0 h;rw[UInt64.toNat_ofNat'];omega
theorem ZoU(h:l.length=8):b8 (UInt64.ofNat (val l))=l:=by
 rw[b8,Zbg (by omega)];have:=Zh4 l;rw[h]at this;exact this
theorem ZdA(x:UInt64):UInt64.ofNat (val (b8 x))=x:=by
 rw[ZiX];simp
theorem ZaD(n k:Nat)(x:n<18446744073709551616)(D:k<=8)(w:Ap):
  At Am 49 #[Ab .u64 (n:Int),Ab .i64 (k:Int)] w λ e w'=>e=Aj (tx (low k n))/\An w.heap.size w w':=by
 go_enter func49,ntmps49;go_wp2_with fail;go_loopg[0,5,6] k (λ m B C A wr=>∃(i p:Nat) (s:ByteArray),A=Ab .i64 i/\i+m=k/\B=Ab .u64 (p:Int)/\C=Ae s/\p<18446744073709551616/\Hid (∃t:Bs,s=⟨t.toArray⟩/\t.length=i/\low k n=low m p++t/\An w.heap.size w wr))
 case atStart=>exact⟨0,n,_,rfl,by omega,rfl,rfl,x,[],rfl,rfl,by simp,Below.refl _ _⟩
 case round =>
  obtain⟨i,p,s,rfl,hi,rfl,rfl,hp,h⟩:=hrel;by_cases v:i<k
  ·have id:(i:Int)<(k:Int):=by omega
   have j:=Za1 (ZfY wr [AW p] 5 (0,0) #[Ab .u8 ((p:Int) % 256)] (by simp[Bk]) 1 rfl (by simp))
   obtain⟨z,f⟩:∃z:ByteArray,z=⟨[AW p].toArray⟩:=⟨_,rfl⟩
   rw[show tx [AW p]=Ae z by rw[f]]at j
   have y:¬(9223372036854775807<z.size+s.size):=by
    obtain⟨t,a,d,_⟩:=h.o;rw[f,a];show ¬(9223372036854775807<1+t.toArray.size);simp only[List.size_toArray];omega
   have u:Hid (z=⟨[AW p].toArray⟩):=f;clear f;go_wp2;go_roundg (gk - 1)
   case measure=>omega
   case rel =>
    obtain⟨t,a,d,b,c⟩:=h.o;refine⟨i+1,p / 256,z++s,by go_num,by omega,by go_num,rfl,by omega,AW p::t,?_,by simp[d],?_,c.trans ((bz1 wr _).mono c.size)⟩
    ·rw[u.o,a]
     rfl
    ·obtain⟨g,rfl⟩:∃g,gk=g+1:=⟨gk - 1,by omega⟩
     rw[b,Nat.add_sub_cancel];simp[low]
  ·obtain rfl:i=k:=by omega
   obtain⟨t,a,d,b,c⟩:=h.o
   have r:gk=0:=by omega
   rw[r]at b
   have q:low i n=t:=by rw[b];rfl
   have l:Hid (s=⟨(low i n).toArray⟩/\An w.heap.size w wr):=⟨by rw[q];exact a,c⟩
   clear a d b c q r;go_wp2;go_ret;exact⟨by rw[l.o.1];rfl,l.o.2⟩
theorem ZaG(s:ByteArray)(A:s.size<=8)(w:Ap):
  At Am 55 #[Ae s] w λ e w'=>e=Aj (Ab .u64 (val s.data.toList:Int))/\w'=w:=by
 obtain⟨L,k⟩:=Xa s.size
 have l:s.data.toList.length=L:=by rw[<- k];rfl
 go_enter func55,ntmps55;go_wp2_with fail;go_loopg[3,4] L (λ m z x wr=>wr=w/\∃(i v:Nat),x=Ab .i64 i/\i+m=L/\z=Ab .u64 (v:Int)/\v<18446744073709551616/\Hid (val (s.data.toList.take i)=v))
 case atStart=>exact⟨rfl,0,0,rfl,by omega,rfl,by omega,rfl⟩
 case round =>
  obtain⟨d,i,v,rfl,hi,rfl,B,f⟩:=hrel;subst d;by_cases q:i<L
  ·have id:(i:Int)<(L:Int):=by omega
   have b:i<s.data.toList.length:=by omega
   have a:=ZfB s.data.toList i b;have c:=Zg0 (s.data.toList.take i);rw[f.o]at a c
   have r:v<72057594037927936:=by
    have:(s.data.toList.take i).length<=7:=by rw[List.length_take];omega
    have:=Dv (n:=256) (by decide) this
    have e:256 ^ 7=72057594037927936:=by decide
    omega
   have p:i<s.size:=by omega
   have g:s.data.toList[i]=s[i]:=by simp[ByteArray.getElem_eq_getElem_data]
   rw[g]at a
   obtain⟨y,t⟩:=Xa (s[i])
   have u:=y.toNat_lt;rw[t]at a;have j:Hid (val (s.data.toList.take (i+1))=v*256+y.toNat):=a;clear a c g b;go_wp2;go_roundg (gk - 1)
   case measure=>omega
   case rel=>exact⟨rfl,i+1,v*256+y.toNat,by go_num,by omega,by go_num,by omega,j.o⟩
  ·obtain rfl:i=L:=by omega
   have e:s.data.toList.take i=s.data.toList:=Av (by omega)
   have h:Hid (val s.data.toList=v):=by rw[<- e];exact f.o
   clear e;go_wp2;go_ret;exact⟨by rw[h.o];rfl,rfl⟩
end Go.Proofs.YtlojblelpaegpaaGreat
