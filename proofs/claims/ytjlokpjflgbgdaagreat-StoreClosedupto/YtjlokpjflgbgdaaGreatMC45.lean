/-
  How a list of acts that came in reads, out of its reading as data, within the second form's bound. No condition.
-/
import Derived.Test.YtjlokpjflgbgdaaGreatMC31
import Derived.ProofKit
import Derived.OpenShut
import Derived.ShutString
import Derived.Below
import Derived.SizedLaws
import Derived.Deep.SlicePairs
import Derived.JoinedCond
set_option maxHeartbeats 6400000
set_option maxRecDepth 100000
namespace Go.Proofs.YtjlokpjflgbgdaaGreat
open Go.ChangeShapes Go.WideShapes Go.ChangeAt Go.RowKit
theorem wf_i64 {n:Int} (h:(Lit.int .i64 n).wf=true) : -9223372036854775808<=n/\n<=9223372036854775807:=by
 have e1:IntKind.i64.min = -9223372036854775808:=by decide
 have e2:IntKind.i64.max=9223372036854775807:=by decide
 simpa [Lit.wf,e1,e2] using h
theorem wf_u8 {n:Int} (h:(Lit.int .u8 n).wf=true):∃ y:UInt8,n=(y.toNat:Int):=by
 have e1:IntKind.u8.min=0:=by decide
 have e2:IntKind.u8.max=255:=by decide
 have h':0<=n/\n<=255:=by simpa [Lit.wf,e1,e2] using h
 refine ⟨UInt8.ofNat n.toNat,?_⟩;rw [UInt8.toNat_ofNat'];omega
def AV.fit (a:AV):Prop:=a.nm.size<=140737488355328/\(-9223372036854775808<=a.dt/\a.dt<=9223372036854775807)/\(-9223372036854775808<=a.kp/\a.kp<=9223372036854775807)
theorem bulk_pos {H:Type} (d:DataW H):0<Rows.uptoBulk d:=by
 cases d with
 | lit l=>cases l <;> simp [Rows.uptoBulk]
 | nil=>simp [Rows.uptoBulk]
 | ptr d=>simp [Rows.uptoBulk]
 | slice es sp=>simp [Rows.uptoBulk]
 | agg ps=>simp [Rows.uptoBulk]
 | iface t d=>simp [Rows.uptoBulk]
 | map es=>simp [Rows.uptoBulk]
 | held h=>simp [Rows.uptoBulk]
theorem bulk_many {H:Type}:∀ l:List (DataW H),l.length<=Rows.uptoBulkAll l
 | []=>by simp [Rows.uptoBulkAll]
 | d::t=>by
  have h1:=bulk_many t;have h2:=bulk_pos d;simp only [Rows.uptoBulkAll,List.length_cons];omega
theorem bulk_mem {H:Type}:∀ (l:List (DataW H)) (d:DataW H),d∈l->Rows.uptoBulk d<=Rows.uptoBulkAll l
 | [],_,h=>by cases h
 | x::t,d,h=>by
  simp only [Rows.uptoBulkAll]
  rcases List.mem_cons.1 h with rfl | q
  ·omega
  ·have:=bulk_mem t d q;omega
section
variable {H:Type} {enc:TypeId×Value->H} {W:World} {spare:Nat->Bool} {held:Bool} {fuel:Nat} {v:Value} {x:DataW H×List MemPlace}
theorem bytes_view (h:DataW.trod enc Tryz.prog W 0 spare held fuel 39 [v]=some x):∃ (a:Option Addr) (n c:Nat) (xs:List UInt8),v=.slice a n c/\xs.length=n/\n<=c/\c<=9223372036854775807/\n<=Rows.uptoBulk x.1/\RdG encB W a xs:=by
 rcases Go.Deep.open_slice Tryz.underlying39 h with ⟨hcs,_⟩ | ⟨y,l,c,m,k,D,Pl,hcs,_,hl,hm,hmm,hx,hc⟩
 ·obtain rfl:v=.slice none 0 0:=by simpa using hcs
  exact ⟨none,0,0,[],rfl,rfl,by omega,by omega,Nat.zero_le _,RdG.nil _ _ _⟩
 ·obtain rfl:v=.slice (some y) l c:=by simpa using hcs
  have hlm:l<=m:=by rw [hmm]; split <;> omega
  have ce:Tryz.prog.cellsOf 5=1:=by kernel_rfl
  have hnl:l<=Rows.uptoBulk x.1:=by
   rw [hx];have:=bulk_many ((List.range l).map D);rw [List.length_map,List.length_range] at this;simp only [Rows.uptoBulk];omega
  have each:∀ i,i<l->∃ q:UInt8,W.cell? (y.add i)=some (.int .u8 (q.toNat:Int)):=by
   intro i hi;obtain ⟨cs',h1,h2⟩:=hc i (by omega);rw [ce,Nat.mul_one] at h1;obtain ⟨_,hlen,hcell⟩:=World.cells?_some h1;obtain ⟨z,e0,_,hwf⟩:=DataW.trod_int Tryz.underlying5 h2;obtain ⟨q,rfl⟩:=wf_u8 hwf;subst e0;have:=hcell 0 (by simp);rw [Go.Deep.add_add] at this;exact ⟨q,this⟩
  haveI:Inhabited (UInt8):=⟨0⟩
  obtain ⟨q,hq⟩:=Go.Deep.choose_lt each;refine ⟨some y,l,c,(List.range l).map q,rfl,by simp,hl,by unfold maxLen at hm; omega,hnl,?_⟩
  ·intro h0
   have h0':0<l:=by simpa using h0
   obtain ⟨b,off,spot⟩:=y
   have first:=(hq 0 h0')
   have hs:spot=none:=by
    have:=World.cell?_spot first
    simpa [Addr.add] using this
   subst hs;refine ⟨b,off,rfl,?_,?_⟩
   ·have:=World.block_lt_of_cell? W _ first
    rw [addr_plus] at this;exact this
   ·intro i z hz j u hu
    have hi:i<l:=by
     have:=(List.getElem?_eq_some_iff.1 hz).1;simpa using this
    obtain rfl:z=q i:=by simpa [hi] using hz.symm
    have hj:j=0:=by
     rcases Nat.eq_zero_or_pos j with q' | q'
     ·exact q'
     ·rw [List.getElem?_eq_none (by show ([_]:List Value).length<=j; simp; omega)] at hu; cases hu
    subst hj
    have:=(hq i hi)
    rw [addr_plus] at this;rw [show off+(i*encB.size+0)=off+i from (by show off+(i*1+0)=off+i; omega),this];exact hu
theorem ints_view (h:DataW.trod enc Tryz.prog W 0 spare held fuel 41 [v]=some x):∃ (a:Option Addr) (n c:Nat) (xs:List Int),v=.slice a n c/\xs.length=n/\n<=c/\c<=9223372036854775807/\n<=Rows.uptoBulk x.1/\RdG encI W a xs:=by
 rcases Go.Deep.open_slice Tryz.underlying41 h with ⟨hcs,_⟩ | ⟨y,l,c,m,k,D,Pl,hcs,_,hl,hm,hmm,hx,hc⟩
 ·obtain rfl:v=.slice none 0 0:=by simpa using hcs
  exact ⟨none,0,0,[],rfl,rfl,by omega,by omega,Nat.zero_le _,RdG.nil _ _ _⟩
 ·obtain rfl:v=.slice (some y) l c:=by simpa using hcs
  have hlm:l<=m:=by rw [hmm]; split <;> omega
  have ce:Tryz.prog.cellsOf 3=1:=by kernel_rfl
  have hnl:l<=Rows.uptoBulk x.1:=by
   rw [hx];have:=bulk_many ((List.range l).map D);rw [List.length_map,List.length_range] at this;simp only [Rows.uptoBulk];omega
  have each:∀ i,i<l->∃ q:Int,W.cell? (y.add i)=some (.int .i64 q):=by
   intro i hi;obtain ⟨cs',h1,h2⟩:=hc i (by omega);rw [ce,Nat.mul_one] at h1;obtain ⟨_,hlen,hcell⟩:=World.cells?_some h1;obtain ⟨z,e0,_,hwf⟩:=DataW.trod_int Tryz.underlying3 h2;subst e0;have:=hcell 0 (by simp);rw [Go.Deep.add_add] at this;exact ⟨z,this⟩
  haveI:Inhabited (Int):=⟨0⟩
  obtain ⟨q,hq⟩:=Go.Deep.choose_lt each;refine ⟨some y,l,c,(List.range l).map q,rfl,by simp,hl,by unfold maxLen at hm; omega,hnl,?_⟩
  ·intro h0
   have h0':0<l:=by simpa using h0
   obtain ⟨b,off,spot⟩:=y
   have first:=(hq 0 h0')
   have hs:spot=none:=by
    have:=World.cell?_spot first
    simpa [Addr.add] using this
   subst hs;refine ⟨b,off,rfl,?_,?_⟩
   ·have:=World.block_lt_of_cell? W _ first
    rw [addr_plus] at this;exact this
   ·intro i z hz j u hu
    have hi:i<l:=by
     have:=(List.getElem?_eq_some_iff.1 hz).1;simpa using this
    obtain rfl:z=q i:=by simpa [hi] using hz.symm
    have hj:j=0:=by
     rcases Nat.eq_zero_or_pos j with q' | q'
     ·exact q'
     ·rw [List.getElem?_eq_none (by show ([_]:List Value).length<=j; simp; omega)] at hu; cases hu
    subst hj
    have:=(hq i hi)
    rw [addr_plus] at this;rw [show off+(i*encI.size+0)=off+i from (by show off+(i*1+0)=off+i; omega),this];exact hu
theorem txts_view (h:DataW.trod enc Tryz.prog W 0 spare held fuel 40 [v]=some x):∃ (a:Option Addr) (n c:Nat) (xs:List Bs),v=.slice a n c/\xs.length=n/\n<=c/\c<=9223372036854775807/\n<=Rows.uptoBulk x.1/\RdG encT W a xs/\∀ p∈xs,p.length<=Rows.uptoBulk x.1:=by
 rcases Go.Deep.open_slice Tryz.underlying40 h with ⟨hcs,_⟩ | ⟨y,l,c,m,k,D,Pl,hcs,_,hl,hm,hmm,hx,hc⟩
 ·obtain rfl:v=.slice none 0 0:=by simpa using hcs
  exact ⟨none,0,0,[],rfl,rfl,by omega,by omega,Nat.zero_le _,RdG.nil _ _ _,λ p q=>(by cases q)⟩
 ·obtain rfl:v=.slice (some y) l c:=by simpa using hcs
  have hlm:l<=m:=by rw [hmm]; split <;> omega
  have ce:Tryz.prog.cellsOf 9=1:=by kernel_rfl
  have hnl:l<=Rows.uptoBulk x.1:=by
   rw [hx];have:=bulk_many ((List.range l).map D);rw [List.length_map,List.length_range] at this;simp only [Rows.uptoBulk];omega
  have each:∀ i,i<l->∃ q:Bs,W.cell? (y.add i)=some (tx q)/\q.length<=Rows.uptoBulk x.1:=by
   intro i hi;obtain ⟨cs',h1,h2⟩:=hc i (by omega);rw [ce,Nat.mul_one] at h1;obtain ⟨_,hlen,hcell⟩:=World.cells?_some h1;obtain ⟨s,e0,hD,_⟩:=DataW.trod_string Tryz.underlying9 h2;subst e0;have:=hcell 0 (by simp);rw [Go.Deep.add_add] at this;refine ⟨s.data.toList,by simpa using this,?_⟩;rw [hx];have h5:=bulk_mem ((List.range l).map D) (D i) (List.mem_map.2 ⟨i,List.mem_range.2 hi,rfl⟩)
   have h6:D i=.lit (.string s.data.toList)/\Pl i=[]:=by simpa using hD
   rw [h6.1] at h5;simp only [Rows.uptoBulk] at h5 ⊢;omega
  haveI:Inhabited (Bs):=⟨[]⟩
  obtain ⟨q,hq⟩:=Go.Deep.choose_lt each;refine ⟨some y,l,c,(List.range l).map q,rfl,by simp,hl,by unfold maxLen at hm; omega,hnl,?_,?_⟩
  ·intro h0
   have h0':0<l:=by simpa using h0
   obtain ⟨b,off,spot⟩:=y
   have first:=(hq 0 h0').1
   have hs:spot=none:=by
    have:=World.cell?_spot first
    simpa [Addr.add] using this
   subst hs;refine ⟨b,off,rfl,?_,?_⟩
   ·have:=World.block_lt_of_cell? W _ first
    rw [addr_plus] at this;exact this
   ·intro i z hz j u hu
    have hi:i<l:=by
     have:=(List.getElem?_eq_some_iff.1 hz).1;simpa using this
    obtain rfl:z=q i:=by simpa [hi] using hz.symm
    have hj:j=0:=by
     rcases Nat.eq_zero_or_pos j with q' | q'
     ·exact q'
     ·rw [List.getElem?_eq_none (by show ([_]:List Value).length<=j; simp; omega)] at hu; cases hu
    subst hj;have:=(hq i hi).1;rw [addr_plus] at this;rw [show off+(i*encT.size+0)=off+i from (by show off+(i*1+0)=off+i; omega),this];exact hu
  ·intro p hp;obtain ⟨i,hi,rfl⟩:=List.mem_map.1 hp;exact (hq i (List.mem_range.1 hi)).2
theorem act_view {c0 c1 c2 c3 c4 c5 c6:Value} (h:DataW.trod enc Tryz.prog W 0 spare held fuel 43 [c0,c1,c2,c3,c4,c5,c6]=some x) (hs:Rows.uptoBulk x.1<=1048576):∃ (a:AV) (data:Bs) (ps:List Bs) (qs:List Int),c0=.int .i64 a.k/\c1=.slice a.da a.dn a.dc/\c2=.slice a.pa a.pn a.pc/\c3=.slice a.qa a.qn a.qc/\c4=.string a.nm/\c5=.int .i64 a.dt/\c6=.int .i64 a.kp/\ActAt W a data ps qs/\a.fit:=by
 have z0:Tryz.prog.cellsOf 3=1:=by kernel_rfl
 have z1:Tryz.prog.cellsOf 39=1:=by kernel_rfl
 have z2:Tryz.prog.cellsOf 40=1:=by kernel_rfl
 have z3:Tryz.prog.cellsOf 41=1:=by kernel_rfl
 have z4:Tryz.prog.cellsOf 9=1:=by kernel_rfl
 have z5:Tryz.prog.cellsOf 2=1:=by kernel_rfl
 obtain ⟨xs,k',hk,hxy,_,hxl,hf⟩:=DataW.trod_struct Tryz.underlying43 h
 match xs,hxl with
 | [y0,y1,y2,y3,y4,y5,y6],_ =>
  have g0:DataW.trod enc Tryz.prog W 0 spare held k' 3 [c0]=some y0:=by simpa [z0,z1,z2,z3,z4,z5] using hf 0 _ rfl
  have g1:DataW.trod enc Tryz.prog W 0 spare held k' 39 [c1]=some y1:=by simpa [z0,z1,z2,z3,z4,z5] using hf 1 _ rfl
  have g2:DataW.trod enc Tryz.prog W 0 spare held k' 40 [c2]=some y2:=by simpa [z0,z1,z2,z3,z4,z5] using hf 2 _ rfl
  have g3:DataW.trod enc Tryz.prog W 0 spare held k' 41 [c3]=some y3:=by simpa [z0,z1,z2,z3,z4,z5] using hf 3 _ rfl
  have g4:DataW.trod enc Tryz.prog W 0 spare held k' 9 [c4]=some y4:=by simpa [z0,z1,z2,z3,z4,z5] using hf 4 _ rfl
  have g5:DataW.trod enc Tryz.prog W 0 spare held k' 2 [c5]=some y5:=by simpa [z0,z1,z2,z3,z4,z5] using hf 5 _ rfl
  have g6:DataW.trod enc Tryz.prog W 0 spare held k' 3 [c6]=some y6:=by simpa [z0,z1,z2,z3,z4,z5] using hf 6 _ rfl
  obtain ⟨k,e0,_,w0⟩:=DataW.trod_int Tryz.underlying3 g0
  obtain rfl:c0=.int .i64 k:=by simpa using e0
  obtain ⟨da,dn,dc,data,rfl,d1,d2,d3,d4,d5⟩:=bytes_view g1;obtain ⟨pa,pn,pc,ps,rfl,p1,p2,p3,p4,p5,p6⟩:=txts_view g2;obtain ⟨qa,qn,qc,qs,rfl,q1,q2,q3,q4,q5⟩:=ints_view g3;obtain ⟨nm,e4,e4b,_⟩:=DataW.trod_string Tryz.underlying9 g4
  obtain rfl:c4=.string nm:=by simpa using e4
  obtain ⟨dt,e5,_,w5⟩:=DataW.trod_int Tryz.underlying2 g5
  obtain rfl:c5=.int .i64 dt:=by simpa using e5
  obtain ⟨kp,e6,_,w6⟩:=DataW.trod_int Tryz.underlying3 g6
  obtain rfl:c6=.int .i64 kp:=by simpa using e6
  have hx1:x.1=.agg [y0.1,y1.1,y2.1,y3.1,y4.1,y5.1,y6.1]:=by rw [hxy]; rfl
  rw [hx1] at hs;simp only [Rows.uptoBulk,Rows.uptoBulkAll] at hs
  have hnm:nm.size<=1048576:=by
   rw [e4b] at hs;simp only [Rows.uptoBulk] at hs;have:nm.data.toList.length=nm.size:=Array.length_toList;omega
  refine ⟨⟨k,da,dn,dc,pa,pn,pc,qa,qn,qc,nm,dt,kp⟩,data,ps,qs,rfl,rfl,rfl,rfl,rfl,rfl,rfl,⟨⟨da,dc,by rw [d1],by rw [d1]; exact d2,by omega,d5⟩,d1,?_,p5,p1,?_,λ p hp=>?_,q5,q1,?_⟩,⟨?_,wf_i64 w5,wf_i64 w6⟩⟩
  ·show dn<=_;omega
  ·show pn*24<=_;omega
  ·have:=p6 p hp;omega
  ·show qn*8<=_;omega
  ·show nm.size<=_;omega
theorem acts_view {a:Option Addr} {len cap:Nat} (h:DataW.trod enc Tryz.prog W 0 spare held fuel 22 [.slice a len cap]=some x) (hs:Rows.uptoBulk x.1<=1048576):∃ l:List AV,Acts W a len l/\len<=1048576/\∀ a∈l,a.fit:=by
 rcases Go.Deep.open_slice Tryz.underlying22 h with ⟨hcs,_⟩ | ⟨y,l,c,m,k,D,Pl,hcs,_,hl,hm,hmm,hx,hc⟩
 ·simp only [List.cons.injEq,Value.slice.injEq,and_true] at hcs;obtain ⟨rfl,rfl,rfl⟩:=hcs;exact ⟨[],⟨RdG.nil _ _ _,rfl,λ a q=>(by cases q)⟩,by omega,λ a q=>(by cases q)⟩
 ·simp only [List.cons.injEq,Value.slice.injEq,and_true] at hcs;obtain ⟨rfl,rfl,rfl⟩:=hcs
  have hlm:len<=m:=by rw [hmm]; split <;> omega
  have ce:Tryz.prog.cellsOf 43=7:=by kernel_rfl
  rw [hx] at hs
  have hnl:len<=1048576:=by
   have:=bulk_many ((List.range len).map D);rw [List.length_map,List.length_range] at this;simp only [Rows.uptoBulk] at hs;omega
  have each:∀ i,i<len->∃ q:AV,(∀ j u,(encA.cells q)[j]? = some u->W.cell? (y.add (i*7+j))=some u)/\(∃ data ps qs,ActAt W q data ps qs)/\q.fit:=by
   intro i hi;obtain ⟨cs',h1,h2⟩:=hc i (by omega);rw [ce] at h1;obtain ⟨_,hlen,hcell⟩:=World.cells?_some h1
   have hD:Rows.uptoBulk (D i)<=1048576:=by
    have:=bulk_mem ((List.range len).map D) (D i) (List.mem_map.2 ⟨i,List.mem_range.2 hi,rfl⟩);simp only [Rows.uptoBulk] at hs;omega
   match cs',hlen with
   | [v0,v1,v2,v3,v4,v5,v6],_ =>
    obtain ⟨q,data,ps,qs,rfl,rfl,rfl,rfl,rfl,rfl,rfl,hq,hq2⟩:=act_view h2 hD;refine ⟨q,?_,⟨data,ps,qs,hq⟩,hq2⟩;intro j u hu
    have hj:j<7:=by
     have:=(List.getElem?_eq_some_iff.1 hu).1;simpa [encA] using this
    have:=hcell j (by omega);rw [Go.Deep.add_add] at this;rw [this]
    match j,hj,hu with
    | 0,_,hu=>simpa [encA] using hu
    | 1,_,hu=>simpa [encA] using hu
    | 2,_,hu=>simpa [encA] using hu
    | 3,_,hu=>simpa [encA] using hu
    | 4,_,hu=>simpa [encA] using hu
    | 5,_,hu=>simpa [encA] using hu
    | 6,_,hu=>simpa [encA] using hu
  haveI:Inhabited AV:=⟨⟨0,none,0,0,none,0,0,none,0,0,⟨#[]⟩,0,0⟩⟩
  obtain ⟨q,hq⟩:=Go.Deep.choose_lt each;refine ⟨(List.range len).map q,⟨?_,by simp,?_⟩,hnl,?_⟩
  ·intro h0
   have h0':0<len:=by simpa using h0
   obtain ⟨b,off,spot⟩:=y
   have first:=(hq 0 h0').1 0 (.int .i64 (q 0).k) rfl
   have hs:spot=none:=by
    have:=World.cell?_spot first
    simpa [Addr.add] using this
   subst hs;refine ⟨b,off,rfl,?_,?_⟩
   ·have:=World.block_lt_of_cell? W _ first
    rw [addr_plus] at this;exact this
   ·intro i z hz j u hu
    have hi:i<len:=by
     have:=(List.getElem?_eq_some_iff.1 hz).1;simpa using this
    obtain rfl:z=q i:=by simpa [hi] using hz.symm
    have:=(hq i hi).1 j u hu;rw [addr_plus] at this;exact this
  ·intro z hz;obtain ⟨i,hi,rfl⟩:=List.mem_map.1 hz;exact (hq i (List.mem_range.1 hi)).2.1
  ·intro z hz;obtain ⟨i,hi,rfl⟩:=List.mem_map.1 hz;exact (hq i (List.mem_range.1 hi)).2.2
end
theorem own_knob:ownKnob Tryz.prog.godebug=none:=by kernel_rfl
theorem laidOut:laidOutB Tryz.prog=true:=by kernel_rfl
end Go.Proofs.YtjlokpjflgbgdaaGreat
