/-
  How a list of acts that came in reads, out of its reading as data, within the second form's bound. No condition.
-/
import Derived.Test.YtakgkgmopmcecaaGreatM13
import Derived.ProofKit
import Derived.OpenShut
import Derived.ShutString
import Derived.Below
import Derived.SizedLaws
import Derived.Deep.SlicePairs
import Derived.JoinedCond
set_option maxHeartbeats 6400000
set_option maxRecDepth 100000
open Go.IntKind renaming i64->Ak,u8->Em
open Go.DataW renaming trod->Da,trod_int->D5,trod_string->GJ
open Go.Deep renaming open_slice->EV,add_add->FO,choose_lt->Fm
open Nat renaming zero_le->Bw,mul_one->Df,eq_zero_or_pos->Cc
open List renaming range->BI,length_map->A4,length_range->Fl,getElem?_eq_some_iff->AG,getElem?_eq_none->AM,mem_map->BJ,mem_range->Ey
open Go.World renaming cells?_some->Ez,cell?_spot->EL,block_lt_of_cell?->CY
open Go.Value renaming slice->Aa,int->Ab,string->Ae
open Go.Proofs.Tryz renaming prog->Am
open Go.Proofs.Tryz
namespace Go.Proofs.YtakgkgmopmcecaaGreat
open Go.ChangeShapes Go.WideShapes Go.ChangeAt Go.RowKit
variable {H:Type}{n:Int}
theorem Ms(h:(Lit.int Ak n).wf=true): -9223372036854775808<=n/\n<=9223372036854775807:=by
 have a:Ak.min = -9223372036854775808:=by decide
 have b:Ak.max=9223372036854775807:=by decide
 simpa[Lit.wf,a,b]using h
theorem wf_u8(h:(Lit.int .u8 n).wf=true):∃y:UInt8,n=(y.toNat:Int):=by
 have a:Em.min=0:=by decide
 have b:Em.max=255:=by decide
 have c:0<=n/\n<=255:=by simpa[Lit.wf,a,b]using h
 refine⟨UInt8.ofNat n.toNat,?_⟩;rw[UInt8.toNat_ofNat'];omega
def AV.fit(a:AV):Prop:=a.nm.size<=140737488355328/\(-9223372036854775808<=a.dt/\a.dt<=9223372036854775807)/\(-9223372036854775808<=a.kp/\a.kp<=9223372036854775807)
theorem dJ(d:DataW H):0<Rows.uptoBulk d:=by
 cases d with
 | lit l=>cases l <;> simp[Rows.uptoBulk]
 | nil=>simp[Rows.uptoBulk]
 | ptr d=>simp[Rows.uptoBulk]
 | slice es a=>simp[Rows.uptoBulk]
 | agg ps=>simp[Rows.uptoBulk]
 | iface t d=>simp[Rows.uptoBulk]
 | map es=>simp[Rows.uptoBulk]
 | held h=>simp[Rows.uptoBulk]
theorem Ko:∀l:List (DataW H),l.length<=Rows.uptoBulkAll l
 | []=>by simp[Rows.uptoBulkAll]
 | d::t=>by
  have a:=Ko t;have b:=dJ d;simp only[Rows.uptoBulkAll,List.length_cons];omega
theorem OC:∀(l:List (DataW H)) (d:DataW H),d∈l->Rows.uptoBulk d<=Rows.uptoBulkAll l
 | [],_,h=>by cases h
 | x::t,d,h=>by
  simp only[Rows.uptoBulkAll]
  rcases List.mem_cons.1 h with rfl|q
  omega;have:=OC t d q;omega
section
variable {H:Type}{enc:TypeId×Value->H}{W:World}{spare:Nat->Bool}{held:Bool}{fuel:Nat}{v:Value}{x:DataW H×List MemPlace}
theorem Ty(h:Da enc Am W 0 spare held fuel 24 [v]=some x):∃(a:Option Addr) (n c:Nat) (xs:List UInt8),v=Aa a n c/\xs.length=n/\n<=c/\c<=9223372036854775807/\n<=Rows.uptoBulk x.1/\gQ gP W a xs:=by
 rcases EV underlying24 h with⟨e,_⟩ | ⟨y,l,c,m,k,D,O,e,_,J,L,o,N,H⟩
 obtain rfl:v=Aa none 0 0:=by simpa using e
 exact⟨none,0,0,[],rfl,rfl,by omega,by omega,Bw _,gQ.nil _ _ _⟩
 ·obtain rfl:v=Aa (some y) l c:=by simpa using e
  have K:l<=m:=by rw[o];split <;> omega
  have C:Am.cellsOf 5=1:=by kernel_rfl
  have p:l<=Rows.uptoBulk x.1:=by
   rw[N];have:=Ko ((BI l).map D);rw[A4,Fl]at this;simp only[Rows.uptoBulk];omega
  have each:∀i,i<l->∃q:UInt8,W.cell? (y.add i)=some (Ab .u8 (q.toNat:Int)):=by
   intro i hi;obtain⟨E,t,G⟩:=H i (by omega);rw[C,Df]at t;obtain⟨_,w,d⟩:=Ez t;obtain⟨z,e0,_,s⟩:=D5 underlying5 G;obtain⟨q,rfl⟩:=wf_u8 s;subst e0;have:=d 0 (by simp);rw[FO]at this;exact⟨q,this⟩
  haveI:Inhabited (UInt8):=⟨0⟩
  obtain⟨q,hq⟩:=Fm each;refine⟨some y,l,c,(BI l).map q,rfl,by simp,J,by unfold maxLen at L;omega,p,?_⟩;intro F
  have g:0<l:=by simpa using F
  obtain⟨b,off,f⟩:=y
  have first:=(hq 0 g)
  have M:f=none:=by
   have:=EL first
   simpa[Addr.add]using this
  subst M;refine⟨b,off,rfl,?_,?_⟩
  have:=CY W _ first
  rw[F8]at this;exact this;intro i z A j u r
  have hi:i<l:=by
   have:=(AG.1 A).1;simpa using this
  obtain rfl:z=q i:=by simpa[hi]using A.symm
  have I:j=0:=by
   rcases Cc j with B|B
   exact B;rw[AM (by show([_]:List Value).length<=j;simp;omega)]at r;cases r
  subst I
  have:=(hq i hi)
  rw[F8]at this;rw[show off+(i*gP.size+0)=off+i from(by show off+(i*1+0)=off+i;omega),this];exact r
theorem Q6(h:Da enc Am W 0 spare held fuel 23 [v]=some x):∃(a:Option Addr) (n c:Nat) (xs:List Int),v=Aa a n c/\xs.length=n/\n<=c/\c<=9223372036854775807/\n<=Rows.uptoBulk x.1/\gQ encI W a xs:=by
 rcases EV underlying23 h with⟨e,_⟩ | ⟨y,l,c,m,k,D,O,e,_,I,K,o,N,G⟩
 obtain rfl:v=Aa none 0 0:=by simpa using e
 exact⟨none,0,0,[],rfl,rfl,by omega,by omega,Bw _,gQ.nil _ _ _⟩
 ·obtain rfl:v=Aa (some y) l c:=by simpa using e
  have J:l<=m:=by rw[o];split <;> omega
  have B:Am.cellsOf 3=1:=by kernel_rfl
  have p:l<=Rows.uptoBulk x.1:=by
   rw[N];have:=Ko ((BI l).map D);rw[A4,Fl]at this;simp only[Rows.uptoBulk];omega
  have each:∀i,i<l->∃q:Int,W.cell? (y.add i)=some (Ab Ak q):=by
   intro i hi;obtain⟨C,s,F⟩:=G i (by omega);rw[B,Df]at s;obtain⟨_,t,d⟩:=Ez s;obtain⟨z,e0,_,M⟩:=D5 underlying3 F;subst e0;have:=d 0 (by simp);rw[FO]at this;exact⟨z,this⟩
  haveI:Inhabited (Int):=⟨0⟩
  obtain⟨q,hq⟩:=Fm each;refine⟨some y,l,c,(BI l).map q,rfl,by simp,I,by unfold maxLen at K;omega,p,?_⟩;intro E
  have g:0<l:=by simpa using E
  obtain⟨b,off,f⟩:=y
  have first:=(hq 0 g)
  have L:f=none:=by
   have:=EL first
   simpa[Addr.add]using this
  subst L;refine⟨b,off,rfl,?_,?_⟩
  have:=CY W _ first
  rw[F8]at this;exact this;intro i z w j u r
  have hi:i<l:=by
   have:=(AG.1 w).1;simpa using this
  obtain rfl:z=q i:=by simpa[hi]using w.symm
  have H:j=0:=by
   rcases Cc j with A|A
   exact A;rw[AM (by show([_]:List Value).length<=j;simp;omega)]at r;cases r
  subst H
  have:=(hq i hi)
  rw[F8]at this;rw[show off+(i*encI.size+0)=off+i from(by show off+(i*1+0)=off+i;omega),this];exact r
theorem Yo(h:Da enc Am W 0 spare held fuel 67 [v]=some x):∃(a:Option Addr) (n c:Nat) (xs:List Bs),v=Aa a n c/\xs.length=n/\n<=c/\c<=9223372036854775807/\n<=Rows.uptoBulk x.1/\gQ ms W a xs/\∀p∈xs,p.length<=Rows.uptoBulk x.1:=by
 rcases EV underlying67 h with⟨e,_⟩ | ⟨y,l,c,m,k,D,G,e,_,P,R,o,C,N⟩
 obtain rfl:v=Aa none 0 0:=by simpa using e
 exact⟨none,0,0,[],rfl,rfl,by omega,by omega,Bw _,gQ.nil _ _ _,λ p q=>(by cases q)⟩
 ·obtain rfl:v=Aa (some y) l c:=by simpa using e
  have Q:l<=m:=by rw[o];split <;> omega
  have H:Am.cellsOf 9=1:=by kernel_rfl
  have r:l<=Rows.uptoBulk x.1:=by
   rw[C];have:=Ko ((BI l).map D);rw[A4,Fl]at this;simp only[Rows.uptoBulk];omega
  have each:∀i,i<l->∃q:Bs,W.cell? (y.add i)=some (tx q)/\q.length<=Rows.uptoBulk x.1:=by
   intro i hi;obtain⟨I,w,K⟩:=N i (by omega);rw[H,Df]at w;obtain⟨_,B,d⟩:=Ez w;obtain⟨s,e0,M,_⟩:=GJ underlying9 K;subst e0;have:=d 0 (by simp);rw[FO]at this;refine⟨s.data.toList,by simpa using this,?_⟩;rw[C];have A:=OC ((BI l).map D) (D i) (BJ.2 ⟨i,Ey.2 hi,rfl⟩)
   have L:D i=.lit (.string s.data.toList)/\G i=[]:=by simpa using M
   rw[L.1]at A;simp only[Rows.uptoBulk]at A ⊢;omega
  haveI:Inhabited (Bs):=⟨[]⟩
  obtain⟨q,hq⟩:=Fm each;refine⟨some y,l,c,(BI l).map q,rfl,by simp,P,by unfold maxLen at R;omega,r,?_,?_⟩;intro J
  have g:0<l:=by simpa using J
  obtain⟨b,off,f⟩:=y
  have first:=(hq 0 g).1
  have S:f=none:=by
   have:=EL first
   simpa[Addr.add]using this
  subst S;refine⟨b,off,rfl,?_,?_⟩
  have:=CY W _ first
  rw[F8]at this;exact this;intro i z E j u t
  have hi:i<l:=by
   have:=(AG.1 E).1;simpa using this
  obtain rfl:z=q i:=by simpa[hi]using E.symm
  have O:j=0:=by
   rcases Cc j with F|F
   exact F;rw[AM (by show([_]:List Value).length<=j;simp;omega)]at t;cases t
  subst O;have:=(hq i hi).1;rw[F8]at this;rw[show off+(i*ms.size+0)=off+i from(by show off+(i*1+0)=off+i;omega),this];exact t;intro p hp;obtain⟨i,hi,rfl⟩:=BJ.1 hp;exact(hq i (Ey.1 hi)).2
theorem YT{f m n o g i j:Value}(h:Da enc Am W 0 spare held fuel 69 [f,m,n,o,g,i,j]=some x)(l:Rows.uptoBulk x.1<=1048576):∃(a:AV) (data:Bs) (ps:List Bs) (qs:List Int),f=Ab Ak a.k/\m=Aa a.da a.dn a.dc/\n=Aa a.pa a.pn a.pc/\o=Aa a.qa a.qn a.qc/\g=Ae a.nm/\i=Ab Ak a.dt/\j=Ab Ak a.kp/\H7 W a data ps qs/\a.fit:=by
 have z0:Am.cellsOf 3=1:=by kernel_rfl
 have d:Am.cellsOf 24=1:=by kernel_rfl
 have e:Am.cellsOf 67=1:=by kernel_rfl
 have z3:Am.cellsOf 23=1:=by kernel_rfl
 have z4:Am.cellsOf 9=1:=by kernel_rfl
 have z5:Am.cellsOf 2=1:=by kernel_rfl
 obtain⟨xs,c,P,u,_,t,b⟩:=DataW.trod_struct underlying69 h
 match xs,t with
 | [y0,y1,y2,y3,y4,y5,y6],_ =>
  have g0:Da enc Am W 0 spare held c 3 [f]=some y0:=by simpa[z0,d,e,z3,z4,z5]using b 0 _ rfl
  have g1:Da enc Am W 0 spare held c 24 [m]=some y1:=by simpa[z0,d,e,z3,z4,z5]using b 1 _ rfl
  have g2:Da enc Am W 0 spare held c 67 [n]=some y2:=by simpa[z0,d,e,z3,z4,z5]using b 2 _ rfl
  have B:Da enc Am W 0 spare held c 23 [o]=some y3:=by simpa[z0,d,e,z3,z4,z5]using b 3 _ rfl
  have C:Da enc Am W 0 spare held c 9 [g]=some y4:=by simpa[z0,d,e,z3,z4,z5]using b 4 _ rfl
  have D:Da enc Am W 0 spare held c 2 [i]=some y5:=by simpa[z0,d,e,z3,z4,z5]using b 5 _ rfl
  have E:Da enc Am W 0 spare held c 3 [j]=some y6:=by simpa[z0,d,e,z3,z4,z5]using b 6 _ rfl
  obtain⟨k,e0,_,w0⟩:=D5 underlying3 g0
  obtain rfl:f=Ab Ak k:=by simpa using e0
  obtain⟨da,dn,dc,data,rfl,q,v,N,O,w⟩:=Ty g1;obtain⟨pa,pn,pc,ps,rfl,G,Q,R,S,H,I⟩:=Yo g2;obtain⟨qa,qn,qc,qs,rfl,J,T,U,V,K⟩:=Q6 B;obtain⟨nm,y,r,_⟩:=GJ underlying9 C
  obtain rfl:g=Ae nm:=by simpa using y
  obtain⟨dt,z,_,L⟩:=D5 underlying2 D
  obtain rfl:i=Ab Ak dt:=by simpa using z
  obtain⟨kp,A,_,M⟩:=D5 underlying3 E
  obtain rfl:j=Ab Ak kp:=by simpa using A
  have s:x.1=.agg [y0.1,y1.1,y2.1,y3.1,y4.1,y5.1,y6.1]:=by rw[u];rfl
  rw[s]at l;simp only[Rows.uptoBulk,Rows.uptoBulkAll]at l
  have F:nm.size<=1048576:=by
   rw[r]at l;simp only[Rows.uptoBulk]at l;have:nm.data.toList.length=nm.size:=Array.length_toList;omega
  refine⟨⟨k,da,dn,dc,pa,pn,pc,qa,qn,qc,nm,dt,kp⟩,data,ps,qs,rfl,rfl,rfl,rfl,rfl,rfl,rfl,⟨⟨da,dc,by rw[q],by rw[q];exact v,by omega,w⟩,q,?_,H,G,?_,λ p hp=>?_,K,J,?_⟩,⟨?_,Ms L,Ms M⟩⟩
  show dn<=_;omega
  show pn*24<=_;omega
  have:=I p hp;omega
  show qn*8<=_;omega
  show nm.size<=_;omega
theorem eF{a:Option Addr}{len cap:Nat}(h:Da enc Am W 0 spare held fuel 22 [Aa a len cap]=some x)(o:Rows.uptoBulk x.1<=1048576):∃l:List AV,nA W a len l/\len<=1048576/\∀a∈l,a.fit:=by
 rcases EV underlying22 h with⟨e,_⟩ | ⟨y,l,c,m,k,D,K,e,_,L,M,t,J,G⟩
 simp only[List.cons.injEq,Value.slice.injEq,and_true]at e;obtain⟨rfl,rfl,rfl⟩:=e;exact⟨[],⟨gQ.nil _ _ _,rfl,λ a q=>(by cases q)⟩,by omega,λ a q=>(by cases q)⟩
 ·simp only[List.cons.injEq,Value.slice.injEq,and_true]at e;obtain⟨rfl,rfl,rfl⟩:=e
  have I:len<=m:=by rw[t];split <;> omega
  have B:Am.cellsOf 69=7:=by kernel_rfl
  rw[J]at o
  have v:len<=1048576:=by
   have:=Ko ((BI len).map D);rw[A4,Fl]at this;simp only[Rows.uptoBulk]at o;omega
  have each:∀i,i<len->∃q:AV,(∀j u,(kY.cells q)[j]? = some u->W.cell? (y.add (i*7+j))=some u)/\(∃data ps qs,H7 W q data ps qs)/\q.fit:=by
   intro i hi;obtain⟨r,A,E⟩:=G i (by omega);rw[B]at A;obtain⟨_,n,f⟩:=Ez A
   have F:Rows.uptoBulk (D i)<=1048576:=by
    have:=OC ((BI len).map D) (D i) (BJ.2 ⟨i,Ey.2 hi,rfl⟩);simp only[Rows.uptoBulk]at o;omega
   match r,n with
   | [v0,v1,v2,v3,v4,v5,v6],_ =>
    obtain⟨q,data,ps,qs,rfl,rfl,rfl,rfl,rfl,rfl,rfl,hq,w⟩:=YT E F;refine⟨q,?_,⟨data,ps,qs,hq⟩,w⟩;intro j u d
    have H:j<7:=by
     have:=(AG.1 d).1;simpa[kY]using this
    have:=f j (by omega);rw[FO]at this;rw[this]
    match j,H,d with
    | 0,_,d=>simpa[kY]using d
    | 1,_,d=>simpa[kY]using d
    | 2,_,d=>simpa[kY]using d
    | 3,_,d=>simpa[kY]using d
    | 4,_,d=>simpa[kY]using d
    | 5,_,d=>simpa[kY]using d
    | 6,_,d=>simpa[kY]using d
  haveI:Inhabited AV:=⟨⟨0,none,0,0,none,0,0,none,0,0,⟨#[]⟩,0,0⟩⟩
  obtain⟨q,hq⟩:=Fm each;refine⟨(BI len).map q,⟨?_,by simp,?_⟩,v,?_⟩;intro C
  have s:0<len:=by simpa using C
  obtain⟨b,off,p⟩:=y
  have first:=(hq 0 s).1 0 (Ab Ak (q 0).k) rfl
  have o:p=none:=by
   have:=EL first
   simpa[Addr.add]using this
  subst o;refine⟨b,off,rfl,?_,?_⟩
  have:=CY W _ first
  rw[F8]at this;exact this;intro i z g j u d
  have hi:i<len:=by
   have:=(AG.1 g).1;simpa using this
  obtain rfl:z=q i:=by simpa[hi]using g.symm
  have:=(hq i hi).1 j u d;rw[F8]at this;exact this;intro z g;obtain⟨i,hi,rfl⟩:=BJ.1 g;exact(hq i (Ey.1 hi)).2.1;intro z g;obtain⟨i,hi,rfl⟩:=BJ.1 g;exact(hq i (Ey.1 hi)).2.2
end
theorem Uf:ownKnob Am.godebug=none:=by kernel_rfl
theorem laidOut:laidOutB Am=true:=by kernel_rfl
end Go.Proofs.YtakgkgmopmcecaaGreat
