/-
  Several texts, laid together.
-/
import Derived.Test.YtlojblelpaegpaaGreatM06
import Derived.Test.YtlojblelpaegpaaGreatM07
set_option maxHeartbeats 6400000
set_option maxRecDepth 100000
open List renaming drop_zero->He,getElem?_eq_getElem->Aq,drop_eq_getElem_cons->BV,getElem_mem->Cx,getD->Cf,drop_of_length_le->Dj
open Go.Value renaming ownBlock->BY,slice->Aa,int->Ab
namespace Go.Proofs.YtlojblelpaegpaaGreat
open Go.RowKit
variable{K ps:List Int}{kc pc pn:Nat}{pa:Option Addr}{w w':World}
def kat(K:List Int)(p:Int):Int:=K.getD p.toNat 0
def unkR(K:List Int):List Int->Int×Bool
 | []=>(0,false)
 | p::ps=>if kat K p=0 then(p,true)else unkR K ps
def topG(K:List Int)(ps:List Int)(g:Int):Int:=ps.foldl (λ g p=>max g (kat K p)) g
theorem ZkT(K:List Int):∀(ps:List Int) (g:Int),g<=topG K ps g
 | [],_=>Int.le_refl _
 | p::ps,g=>by
  have:=ZkT K ps (max g (kat K p));show g<=topG K ps (max g (kat K p));omega
theorem Zpj{I:Option Addr}{t:Nat}(J:RdG encI w I K)(M:K.length=t)(L:RdG encI w pa ps)(hp:ps.length=pn)(g:∀p∈ps,0<=p/\p<(t:Int))(P:pn<=4000000000000000000)(r:Int×Bool)(N:unkR K ps=r):
  Calls Tryz.prog 87 #[Aa I t kc,Aa pa pn pc] w λ e w'=>e=.returned (.tuple #[Ab .i64 r.1,.bool r.2])/\w'=w:=by
 have H:Hid (RdG encI w I K/\K.length=t/\RdG encI w pa ps/\ps.length=pn/\∀p∈ps,0<=p/\p<(t:Int)):=⟨J,M,L,hp,g⟩
 have z:Hid (unkR K ps=r):=N;obtain⟨q,s⟩:=r;clear J M L hp g N;go_enter Tryz.func87,Tryz.ntmps87;go_wp2_with fail;go_loopg[10] pn (λ k v wr=>wr=w/\∃i:Nat,v=Ab .i64 i/\i+k=pn/\Hid (unkR K (ps.drop i)=(q,s)))
 case atStart=>exact⟨rfl,0,rfl,by omega,by rw[He];exact z⟩
 case round =>
  obtain⟨F,i,rfl,hi,u⟩:=hrel;subst F;clear z;by_cases g:i<pn
  ·have id:(i:Int)<(pn:Int):=by omega
   have d:i<ps.length:=by rw[H.o.2.2.2.1];exact g
   obtain⟨x,A⟩:=Xa (ps[i])
   have j:ps[i]? = some x:=by rw[Aq d,A]
   have m:ps.drop i=x::ps.drop (i+1):=by rw[BV d,A]
   have l:=H.o.2.2.2.2 x (by rw[<- A];exact Cx d);obtain⟨b,off,rfl,_⟩:=H.o.2.2.1.some_of j;have Q:=H.o.2.2.1.ints j
   obtain⟨c,rfl⟩:∃c:Nat,x=(c:Int):=⟨x.toNat,by omega⟩
   have n:c<K.length:=by rw[H.o.2.1];omega
   obtain⟨y,G⟩:=Xa (K[c])
   have f:K[c]? = some y:=by rw[Aq n,G]
   obtain⟨S,O,rfl,_⟩:=H.o.1.some_of f;have R:=H.o.1.ints f
   have h:kat K (c:Int)=y:=by
    show K.getD c 0=y;simp[Cf,f]
   have U:(c:Int)<(t:Int):=l.2;have T:(0:Int)<=(c:Int):=l.1
   have B:Hid (unkR K ((c:Int)::ps.drop (i+1))=(q,s)):=by
    have:=u.o;rw[m]at this;exact this
   by_cases E:y=0
   ·have a:Hid (((c:Int),true)=(q,s)):=by
     have:=B.o;unfold unkR at this;rw[h,AE E]at this;exact this
    subst E;clear u B m A j G f h l d n;go_wp2;refine bodyPost_ret (results_tmp2 rfl _ _ _) rfl ?_;have C:q=(c:Int):=(A4 Prod.fst a.o).symm;have D:s=true:=(A4 Prod.snd a.o).symm;rw[C,D];exact⟨rfl,rfl⟩
   ·have a:Hid (unkR K (ps.drop (i+1))=(q,s)):=by
     have:=B.o;unfold unkR at this;rw[h,Aw E]at this;exact this
    clear u B m A j G f h l d n;go_wp2;go_roundg (gk - 1)
    case measure=>omega
    case rel=>exact⟨rfl,i+1,by go_num,by omega,a.o⟩
  ·have a:Hid ((0,false)=(q,s)):=by
    have:=u.o;rw[Dj (by rw[H.o.2.2.2.1];omega)]at this;exact this
   have id:¬(i:Int)<(pn:Int):=by omega
   clear u;go_wp2;refine bodyPost_ret (results_tmp2 rfl _ _ _) rfl ?_;have C:q=0:=(A4 Prod.fst a.o).symm;have D:s=false:=(A4 Prod.snd a.o).symm;rw[C,D];exact⟨rfl,rfl⟩
theorem Zg7{E:Option Addr}{l:Nat}(F:RdG encI w E K)(I:K.length=l)(G:RdG encI w pa ps)(hp:ps.length=pn)(c:∀p∈ps,0<=p/\p<(l:Int))(Q:pn<=4000000000000000000)(r:Int)(J:min (topG K ps 0) 249+1=r):
  Calls Tryz.prog 88 #[Aa E l kc,Aa pa pn pc] w λ e w'=>e=.returned (Ab .i64 r)/\w'=w:=by
 have H:Hid (RdG encI w E K/\K.length=l/\RdG encI w pa ps/\ps.length=pn/\∀p∈ps,0<=p/\p<(l:Int)):=⟨F,I,G,hp,c⟩
 have B:Hid (min (topG K ps 0) 249+1=r):=J;clear F I G hp c J;go_enter Tryz.func88,Tryz.ntmps88;go_wp2_with fail;go_loopg[5,10] pn (λ k N v wr=>wr=w/\∃(i:Nat) (g:Int),v=Ab .i64 i/\N=Ab .i64 g/\i+k=pn/\0<=g/\Hid (topG K (ps.drop i) g=topG K ps 0))
 case atStart=>exact⟨rfl,0,0,rfl,rfl,by omega,Int.le_refl _,by rw[He];exact(rfl:topG K ps 0=topG K ps 0)⟩
 case round =>
  obtain⟨D,i,g,rfl,rfl,hi,U,z⟩:=hrel;subst D;by_cases c:i<pn
  ·have id:(i:Int)<(pn:Int):=by omega
   have a:i<ps.length:=by rw[H.o.2.2.2.1];exact c
   obtain⟨x,A⟩:=Xa (ps[i])
   have h:ps[i]? = some x:=by rw[Aq a,A]
   have q:ps.drop i=x::ps.drop (i+1):=by rw[BV a,A]
   have j:=H.o.2.2.2.2 x (by rw[<- A];exact Cx a);obtain⟨b,off,rfl,_⟩:=H.o.2.2.1.some_of h;have R:=H.o.2.2.1.ints h
   obtain⟨f,rfl⟩:∃f:Nat,x=(f:Int):=⟨x.toNat,by omega⟩
   have t:f<K.length:=by rw[H.o.2.1];omega
   obtain⟨y,L⟩:=Xa (K[f])
   have d:K[f]? = some y:=by rw[Aq t,L]
   obtain⟨V,M,rfl,_⟩:=H.o.1.some_of d;have S:=H.o.1.ints d
   have s:kat K (f:Int)=y:=by
    show K.getD f 0=y;simp[Cf,d]
   have Y:(f:Int)<(l:Int):=j.2;have X:(0:Int)<=(f:Int):=j.1
   have u:Hid (topG K (ps.drop (i+1)) (max g y)=topG K ps 0):=by
    have:=z.o;rw[q]at this;rw[<- s];exact this
   clear z q A h L d s j a t;by_cases P:g<y
   ·have n:max g y=y:=by omega
    rw[n]at u;clear n;go_wp2;go_roundg (gk - 1)
    case measure=>omega
    case rel=>exact⟨rfl,i+1,y,by go_num,by first | rfl | go_num,by omega,by omega,u.o⟩
   ·have n:max g y=g:=by omega
    rw[n]at u;clear n;go_wp2
    all_goals
     go_roundg (gk - 1)
     case measure=>omega
     case rel=>exact⟨rfl,i+1,g,by go_num,by first | rfl | (congr 1;omega),by omega,by omega,u.o⟩
  ·have m:Hid (min g 249+1=r):=by
    have:=z.o;rw[Dj (by rw[H.o.2.2.2.1];omega)]at this;have e:g=topG K ps 0:=this;rw[e];exact B.o
   have id:¬(i:Int)<(pn:Int):=by omega
   clear z;by_cases T:g<249
   ·have W:IntKind.i64.wrap (g+1)=g+1:=by rw[IntKind.wrap_i64];omega
    have e:r=g+1:=by have:=m.o;omega
    subst e;go_wp2
    all_goals
     go_ret;first | exact⟨rfl,rfl⟩ | exact⟨by rw[show min g 249=g by omega];rfl,rfl⟩
   ·have e:r=250:=by have:=m.o;omega
    subst e;by_cases C:g=249
    ·subst C;go_wp2
     all_goals
      go_ret;exact⟨rfl,rfl⟩
    ·have O:249<g:=by omega
     go_wp2
     all_goals
      go_ret;first | exact⟨rfl,rfl⟩ | exact⟨by rw[show min g 249=249 by omega];rfl,rfl⟩
structure Rw where
 id:UInt64
 tree:UInt64
 date:Int
 ps:List Int
 gen:Int
 fb:Bs
structure LV where
 id:UInt64
 tree:UInt64
 date:Int
 pa:Option Addr
 pn:Nat
 pc:Nat
 gen:Int
 fa:Option Addr
 fn:Nat
 fc:Nat
def LV.cells(v:LV):List Value:=[Ab .u64 (v.id.toNat:Int),Ab .u64 (v.tree.toNat:Int),Ab .i64 v.date,Aa v.pa v.pn v.pc,Ab .i64 v.gen,Aa v.fa v.fn v.fc]
def LvAt(w:World)(v:LV)(r:Rw):Prop:=v.id=r.id/\v.tree=r.tree/\v.date=r.date/\v.gen=r.gen/\RdG encI w v.pa r.ps/\r.ps.length=v.pn/\BAt w (Aa v.fa v.fn v.fc) r.fb/\r.fb.length=v.fn
theorem LvAt.below{v:LV}{r:Rw}(h:LvAt w v r)(a:Below w.heap.size w w'):LvAt w' v r:=⟨h.1,h.2.1,h.2.2.1,h.2.2.2.1,h.2.2.2.2.1.below a,h.2.2.2.2.2.1,h.2.2.2.2.2.2.1.below a,h.2.2.2.2.2.2.2⟩
def wu(z:Int):Nat:=(z % 18446744073709551616).toNat
theorem OwnG.ne_box{α:Type}{E:Enc α}{t c:TypeId}{base B:Nat}{v:Value}{xs:List α}{C:Array Value}(h:OwnG E t w base v xs)(b:w.heap[B]? = some (.cells C c (0,0)))(a:t≠c):¬v.ownBlock=some B:=by
 intro e
 rcases h.2 with⟨rfl,_⟩ | ⟨g,cap,d,rfl,i,f,_⟩
 ·simp[BY]at e
 ·have:g=B:=by simpa[BY]using e
  subst this;rw[f]at b;cases b;exact a rfl
theorem shidL{p:Prop}(h:p):Hid p:=h
def encL:Enc LV:=⟨λ v=>v.cells,6,λ _=>rfl,by decide,by intro x u h;simp[LV.cells]at h;rcases h with rfl|rfl|rfl|rfl|rfl|rfl <;> rfl⟩
theorem RdG.lrows {w:World} {b off:Nat} {vs:List LV} (h:RdG encL w (some ⟨b,off,none⟩) vs) {i:Nat} {v:LV} (hx:vs[i]? = some v) :
  w.cell? ⟨b,off+i*6,none⟩=some (.int .u64 (v.id.toNat:Int))/\w.cell? ⟨b,off+i*6+1,none⟩=some (.int .u64 (v.tree.toNat:Int))/\w.cell? ⟨b,off+i*6+2,none⟩=some (.int .i64 v.date)/\w.cell? ⟨b,off+i*6+3,none⟩=some (.slice v.pa v.pn v.pc)/\w.cell? ⟨b,off+i*6+4,none⟩=some (.int .i64 v.gen)/\w.cell? ⟨b,off+i*6+5,none⟩=some (.slice v.fa v.fn v.fc):=by
 obtain ⟨b', off', e, hlt, hc⟩ := h (by rcases Nat.lt_or_ge i vs.length with q | q
                                        · omega
                                        · rw [List.getElem?_eq_none q] at hx; cases hx)
 obtain ⟨rfl,rfl⟩:b=b'/\off=off':=by simpa using e
 have h0:=hc i v hx 0 _ rfl;have h1:=hc i v hx 1 _ rfl;have h2:=hc i v hx 2 _ rfl;have h3:=hc i v hx 3 _ rfl;have h4:=hc i v hx 4 _ rfl;have h5:=hc i v hx 5 _ rfl;exact ⟨by simpa [encL] using h0,by simpa [encL,Nat.add_assoc] using h1,by simpa [encL,Nat.add_assoc] using h2,by simpa [encL,Nat.add_assoc] using h3,by simpa [encL,Nat.add_assoc] using h4,by simpa [encL,Nat.add_assoc] using h5⟩
structure Lvs(w:World)(vs:List LV)(rs:List Rw):Prop where
 len:vs.length=rs.length
 at_:∀(i:Nat) (v:LV) (r:Rw),vs[i]? = some v->rs[i]? = some r->LvAt w v r
theorem Lvs.below{vs:List LV}{a:List Rw}(h:Lvs w vs a)(d:Below w.heap.size w w'):Lvs w' vs a:=⟨h.len,λ i v r b c=>(h.at_ i v r b c).below d⟩
end Go.Proofs.YtlojblelpaegpaaGreat
