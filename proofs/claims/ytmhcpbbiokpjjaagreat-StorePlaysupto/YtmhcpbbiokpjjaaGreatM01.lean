/-
  Several texts, laid together.
-/
import Derived.Test.YtmhcpbbiokpjjaaGreatM00
import Derived.Laws.Strings3
import Derived.Laws.DeepStrings4
import Derived.Deep.LoopGhost
import Derived.Deep.RegionHeld3
import Derived.Deep.DeepCutAuto
import Derived.BigRegion
import Derived.BigQuiet
import Derived.Lib.AppendZeros
import Derived.Lib.SlBytesConst
import Derived.Laws.IdiomStrings
set_option maxHeartbeats 6400000
set_option maxRecDepth 100000
namespace Go.Proofs.YtmhcpbbiokpjjaaGreat
open Go.RowKit
theorem Zaa.cell {S:Nat->Prop} {w w':World} (h:Zaa S w w') {p:Addr} (hp:p.block<w.heap.size) (hS:¬ S p.block):w'.cell? p=w.cell? p :=
 World.cell?_of_block (w:=w) (h.block _ hp hS)
theorem Za8 {α:Type} {ops:Array Oper} {o:Oper} {a:Act} {w:World} {K:Act->World->Prop} {Q:Exit->Act->World->Prop} {X:Prop} (E:Enc α) (e t:TypeId) (bytes:Nat) (z:Value) (hz:z.cells.size=E.size)
  (hinfo:(Tryz.prog.info? e).map (λ i=>(i.zero,i.size,i.bytes))=some (some z,E.size,bytes)) (hu:Tryz.prog.underlying t=some (.slice e)) (hgd:o.guard=none) (s x:Operand)
  (hop:o.op=.call { callee:=.builtin .append,args:=#[s,x],argTypes:=#[t,t] }) (base:Nat) (v:Value) (ss:List α) (y:α) (hs:a.eval s=v) (hown:OwnG E e w base v ss)
  (b:Nat) (hx:a.eval x=.slice (some ⟨b,0,none⟩) 1 1) (hc:∀ j u,(E.cells y)[j]? = some u->w.cell? ((⟨b,0,none⟩:Addr).add j)=some u) (hlen:(ss.length+1)*bytes<=140737488355328) (hmax:ss.length+1<=maxLen) (hb:base<=w.heap.size)
  (h:∀ v' w',OwnG E e w' base v' (ss++[y])->Below base w w'->ZaS w v v'->Zaa (λ k=>v.ownBlock=some k) w w'->K (a.put o.dst v') w') :
  if Region.wanted o (yielded ops a.tmps)=true then Oper.wp Tryz.prog o a w K Q else X:=by
 obtain ⟨i0,hi0,hz0,hz1,hz2⟩:=info_parts hinfo;refine Zbq hgd s x t hop base e i0 _ E.size bytes hu hi0 hz0 hz1 hz2 hz E.pos v ss.length (E.all ss) hs hown ⟨b,0,none⟩ 1 1 (E.cells y) hx (by rw [E.len,Nat.one_mul]) hc (E.one y) hmax hlen hb ?_;intro v' w' h1 h2 h3;have ht:Zaa (λ k=>v.ownBlock=some k) w w':=(Zaa.refl _ _).grown h2 (λ k _ e=>e);refine h v' w' ?_ (OwnG.turn hown hb ht) h3 ht;unfold OwnG;rw [List.length_append,E.all_append];simpa [Enc.all] using h1
theorem bz1 (u:World) (o:Obj):Below u.heap.size u (u.alloc o):=(Below.refl _ u).alloc (Nat.le_refl _) o
theorem bz2 (u:World) (o o':Obj):Below u.heap.size u ((u.alloc o).alloc o'):=(bz1 u o).trans ((bz1 (u.alloc o) o').mono (bz1 u o).size)
theorem ZkJ {w:World} {base g n cap:Nat} {ss:List Bs} (h:Own w base (.slice (some ⟨g,0,none⟩) n cap) ss) {i:Nat} (hi:i<ss.length) :
  w.cell? ⟨g,i,none⟩=some (.string ⟨(el ss i).toArray⟩)/\w.frozen? ⟨g,i,none⟩=false:=by
 have hn:ss.length=n:=ZaF h;subst hn;have h':w.ownsRow base 9 1 (.slice (some ⟨g,0,none⟩) ss.length cap) ss.length (ss.map encStr):=h;refine ⟨?_,h'.frozenAt _⟩;rw [h'.cellAt _ (by omega),List.getElem?_map,List.getElem?_eq_getElem hi,Zdx hi]
 rfl
theorem Zja {w:World} {base g n cap:Nat} {ss:List Bs} (h:Own w base (.slice (some ⟨g,0,none⟩) n cap) ss) (i:Nat) (y:Bs) :
  Own (w.setCell ⟨g,i,none⟩ (.string ⟨y.toArray⟩)) base (.slice (some ⟨g,0,none⟩) n cap) (ss.set i y):=by
 have hn:ss.length=n:=ZaF h;subst hn;have h':w.ownsRow base 9 1 (.slice (some ⟨g,0,none⟩) ss.length cap) ss.length (ss.map encStr):=h;unfold Own;rw [List.length_set,List.map_set];exact (h'.stored i _).1
structure SW (S:World->Prop) where
 w:World
 ok:S w
theorem Zab {P:Program} {S:World->Prop} {id:Nat} {Q:Exit->Act->World->Prop} {a:Act} {w:World} {l:List Oper} (hm:P.follows .mixedOrders=true) (hB:Region.lexB .any l.toArray=true) (h0:S w.drew)
  (h:wpQuiet P l.toArray (λ w'=>∃ u:SW S,w'=u.w) (λ a'=>∀ w',(∃ u:SW S,w'=u.w)->Q .normal a' w') l a):(Code.region id l.toArray true).wp P Q a w :=
 wp_region_quiet (C:=λ w'=>∃ u:SW S,w'=u.w) hm hB ⟨⟨w.drew,h0⟩,rfl⟩ (by simpa using h)
def encB:Enc UInt8:=⟨λ b=>[.int .u8 (b.toNat:Int)],1,λ _=>rfl,by decide,by intro x u h; simp at h; subst h; rfl⟩
def BAt (w:World) (v:Value) (bs:Bs):Prop:=∃ ao c,v=.slice ao bs.length c/\bs.length<=c/\c<=9223372036854775807/\RdG encB w ao bs
abbrev OwnB (w:World) (v:Value) (bs:Bs):Prop:=OwnG encB 5 w 0 v bs
theorem OwnB.at {w:World} {v:Value} {bs:Bs} (h:OwnB w v bs):BAt w v bs:=by
 obtain ⟨ao,c,e,h1,h2,h3,_⟩:=OwnG.form h;exact ⟨ao,c,e,h1,h2,h3⟩
theorem BAt.below {w w':World} {v:Value} {bs:Bs} (h:BAt w v bs) (hb:Below w.heap.size w w'):BAt w' v bs:=by
 obtain ⟨ao,c,e,h1,h2,h3⟩:=h;exact ⟨ao,c,e,h1,h2,h3.below hb⟩
theorem Zag {w w':World} (h:Below w.drew.heap.size w.drew w'):Below w.heap.size w w':=⟨h.os,h.tape,h.output,h.size,h.block⟩
theorem Tryz.info5:(Tryz.prog.info? 5).map (λ i=>(i.zero,i.size,i.bytes))=some (some (.int .u8 0),1,1):=by kernel_rfl
theorem Zi1 (w:World):OwnG encB 5 (w.alloc (.cells #[] 5)) w.heap.size (.slice (some ⟨w.heap.size,0,none⟩) 0 0) [] :=
 World.ownsRow_made w #[] 0 (Nat.le_refl _) (Nat.zero_le _) rfl
theorem appB {ops:Array Oper} {rest:List Oper} {o:Oper} {a:Act} {w:World} {Q:Exit->Act->World->Prop} (hgd:o.guard=none) (s x:Operand)
  (hop:o.op=.call { callee:=.builtin .append,args:=#[s,x],argTypes:=#[39,39] }) (base:Nat) (v u:Value) (ss xs:Bs) (hs:a.eval s=v) (hown:OwnG encB 5 w base v ss)
  (hx:a.eval x=u) (hr:BAt w u xs) (hlen:ss.length+xs.length<=140737488355328) (hb:base<=w.heap.size)
  (h:∀ v' w',OwnG encB 5 w' base v' (ss++xs)->Below base w w'->ZaS w v v'->Zaa (λ k=>v.ownBlock=some k) w w'->wpList Tryz.prog ops Q rest (a.put o.dst v') w') :
  wpList Tryz.prog ops Q (o::rest) a w:=by
 obtain ⟨ao,c,rfl,h1,h2,h3⟩:=hr;exact Zcj encB 5 39 1 (.int .u8 0) rfl Tryz.info5 Tryz.underlying39 hgd s x hop base v ss xs ao _ c hs hown hx h3 rfl (by omega) (by simp only [maxLen]; omega) hb h
theorem ZgD {n c:Nat} (w:World) :
  Calls Tryz.prog 133 #[.slice none n c] w λ e w'=>e=.returned (.slice none 0 0)/\w'=w:=by
 have q:∀ (w:World) (a:Option Addr) (n c n' c':Nat),(binOp .eql 39 (.slice a n c) (.slice none n' c')).run Tryz.prog w=.ok (.bool a.isNone) w:=λ w a n c n' c'=>Lib.run_eql_slice_nil w _ _ a n c n' c' Tryz.underlying39
 go_enter Tryz.func133,Tryz.ntmps133;go_wp2;go_ret;exact ⟨rfl,rfl⟩
theorem Zgx {p:Addr} {n c:Nat} {xs:Bs} (w:World) (ha:BAt w (.slice (some p) n c) xs) (hn:xs.length<=140737488355328) :
  Calls Tryz.prog 133 #[.slice (some p) n c] w λ e w'=>∃ v',e=.returned v'/\OwnG encB 5 w' w.heap.size v' xs/\Below w.heap.size w w':=by
 have H:Hid (BAt w (.slice (some p) n c) xs):=ha;clear ha
 have q:∀ (w:World) (a:Option Addr) (n c n' c':Nat),(binOp .eql 39 (.slice a n c) (.slice none n' c')).run Tryz.prog w=.ok (.bool a.isNone) w:=λ w a n c n' c'=>Lib.run_eql_slice_nil w _ _ a n c n' c' Tryz.underlying39
 go_enter Tryz.func133,Tryz.ntmps133;go_wp2_with (at_builtin; (refine appB rfl (.tmp 5) (.tmp 6) rfl w.heap.size _ _ [] xs rfl (Zi1 w) rfl (H.out.below (bz1 w _)) (by simp; omega) (by simp) ?_; intro v2 w2 hown2 hbel2 _ _));go_wp2;go_ret;rw [List.nil_append] at hown2;exact ⟨v2,rfl,hown2,(bz1 w _).trans hbel2⟩
theorem Zb5 {v:Value} {xs:Bs} (w:World) (h:BAt w v xs) (hn:xs.length<=140737488355328) :
  Calls Tryz.prog 133 #[v] w λ e w'=>∃ v',e=.returned v'/\OwnG encB 5 w' w.heap.size v' xs/\Below w.heap.size w w':=by
 have h':=h;obtain ⟨ao,c,rfl,h1,h2,h3⟩:=h
 cases ao with
 | none =>
  have h0:xs=[]:=by
   rcases Nat.eq_zero_or_pos xs.length with q | q
   ·exact List.eq_nil_of_length_eq_zero q
   ·obtain ⟨b,off,e,_⟩:=h3 q;cases e
  subst h0;refine (ZgD w).mono ?_;rintro e w' ⟨rfl,rfl⟩;exact ⟨_,rfl,OwnG.nil _ _ _ _,Below.refl _ _⟩
 | some p=>exact Zgx w h' hn
theorem ZkC (w:World):Calls Tryz.prog 159 #[.slice none 0 0,.int .i64 0] w λ e w'=>e=.returned (.slice none 0 0)/\w'=w:=by
 go_enter Tryz.func159,Tryz.ntmps159;go_wp2;go_ret;exact ⟨rfl,rfl⟩
theorem ZjR (w:World) (n:Nat) (h0:0<n) (hn:n<=140737488355328) :
  Calls Tryz.prog 159 #[.slice none 0 0,.int .i64 (n:Int)] w λ e w'=>∃ v',e=.returned v'/\OwnG encB 5 w' w.heap.size v' []/\Below w.heap.size w w':=by
 obtain ⟨i0,hi0,hz0,hz1,hz2⟩:=info_parts Tryz.info5;have hr:=Lib.run_append_nil_zeros (P:=Tryz.prog) w 39 3 39 5 i0 (.int .u8 0) .i64 .i64 Tryz.underlying39 Tryz.underlying3 hi0 hz0 n h0 (by rw [hz1]; decide) (by omega) (by rw [hz2]; omega)
 obtain ⟨C,hC⟩:∃ C,grownCap w n 0 5=C:=⟨_,rfl⟩
 obtain ⟨Y,hY⟩:∃ Y,Builtin.zeroCells (Value.int .u8 0).cells n++Builtin.zeroCells (Value.int .u8 0).cells (grownCap w n 0 5 - n)=Y:=⟨_,rfl⟩
 have hge:=grownCap_ge w n 0 5;have hcm:=grownCap_le_maxLen w n 0 5 (by simp only [maxLen]; omega)
 have hsz:Y.size=C*1:=by
  rw [<- hY,<- hC];simp only [Array.size_append,size_zeroCells];simp [Value.cells];omega
 rw [hY,hC] at hr;rw [hC] at hge hcm
 have K:Hid (Y.size=C*1/\n<=C/\C<=maxLen):=⟨hsz,hge,hcm⟩
 have hC1:C<=9223372036854775807:=by simpa [maxLen] using hcm
 have hR:Hid _:=hr;clear hr hC hY hsz hcm
 have gt:decide ((0:Int)<(n:Int))=true:=by simpa using h0
 have ng:decide ((n:Int)<0)=false:=by simp
 go_enter Tryz.func159,Tryz.ntmps159;go_wp2_with (at_builtin; refine Lib.wpList_append_run _ rfl (.tmp 20) (.tmp 21) 39 3 rfl _ _ rfl rfl _ _ hR.out ?_);go_wp2;go_ret;refine ⟨_,rfl,⟨rfl,.inr ⟨w.heap.size,C,Y,rfl,Nat.le_refl _,heap_alloc_new w _,Nat.zero_le _,K.out.2.2,K.out.1,?_⟩⟩,((Zaa.refl (λ _=>False) w).alloc _).drew.below (Nat.le_refl _) (λ _ _ q=>q)⟩;simp [Enc.all]
theorem ZlW (w:World) (n:Nat) (hn:n<=140737488355328) :
  Calls Tryz.prog 159 #[.slice none 0 0,.int .i64 (n:Int)] w λ e w'=>∃ v',e=.returned v'/\OwnG encB 5 w' w.heap.size v' []/\Below w.heap.size w w':=by
 rcases Nat.eq_zero_or_pos n with rfl | h
 ·refine (ZkC w).mono ?_;rintro e w' ⟨rfl,rfl⟩;exact ⟨_,rfl,OwnG.nil _ _ _ _,Below.refl _ _⟩
 ·exact ZjR w n h hn
def Zau (w:World) (v:Value) (xss:List Bs):Prop:=∃ ao c,v=.slice ao xss.length c/\(0<xss.length->∃ b off,ao=some ⟨b,off,none⟩/\b<w.heap.size) /\
 ∀ j x b off,xss[j]? = some x->ao=some ⟨b,off,none⟩->∃ u,w.cell? ⟨b,off+j,none⟩=some u/\BAt w u x
theorem Zau.below {w w':World} {v:Value} {xss:List Bs} (h:Zau w v xss) (hb:Below w.heap.size w w'):Zau w' v xss:=by
 obtain ⟨ao,c,e,h1,h2⟩:=h;refine ⟨ao,c,e,λ h0=>?_,λ j x b off hj ha=>?_⟩
 ·obtain ⟨b,off,e,hlt⟩:=h1 h0;exact ⟨b,off,e,Nat.lt_of_lt_of_le hlt hb.size⟩
 ·obtain ⟨u,hu,hx⟩:=h2 j x b off hj ha
  have hlt:b<w.heap.size:=by
   obtain ⟨b', off', e', hlt⟩ := h1 (by rcases Nat.lt_or_ge j xss.length with q | q
                                        · omega
                                        · rw [List.getElem?_eq_none q] at hj; cases hj)
   rw [ha] at e';cases e';exact hlt
  exact ⟨u,(hb.cell hlt).trans hu,hx.below hb⟩
theorem ZaZ {xss:List Bs} {i:Nat} {x:Bs} (h:xss[i]? = some x):(xss.take (i+1)).flatten=(xss.take i).flatten++x:=by
 rw [List.take_add_one,h];simp
theorem Zdn (xss:List Bs) (i:Nat):(xss.take i).flatten.length<=xss.flatten.length:=by
 have:xss.flatten=(xss.take i).flatten++(xss.drop i).flatten:=by rw [<- List.flatten_append,List.take_append_drop]
 rw [this];simp
theorem Zaf {α:Type} {xs:List α} {i n:Nat} (hl:xs.length=n) (hi:i<n):∃ x,xs[i]? = some x:=⟨xs[i]'(by omega),List.getElem?_eq_getElem (by omega)⟩
theorem ZbW {v:Value} {xss:List Bs} (w:World) (h:Zau w v xss) (hl:xss.length<=1000000) (hn:xss.flatten.length<=262144) :
  Calls Tryz.prog 106 #[v] w λ e w'=>∃ v',e=.returned v'/\OwnG encB 5 w' w.heap.size v' xss.flatten/\Below w.heap.size w w':=by
 have h':Zau w v xss:=h;obtain ⟨ao,c,rfl,h1,h2⟩:=h
 obtain ⟨n,en⟩:∃ n,xss.length=n:=⟨_,rfl⟩
 obtain ⟨N,eN⟩:∃ N,xss.flatten.length=N:=⟨_,rfl⟩
 rw [en] at hl h1 ⊢
 have H:Hid (Zau w (.slice ao n c) xss/\xss.length=n/\xss.flatten.length=N):=⟨by rw [<- en]; exact h',en,eN⟩
 rw [eN] at hn;have A:Hid (0<n->∃ b off,ao=some ⟨b,off,none⟩/\b<w.heap.size):=h1;have B:Hid (∀ j x b off,xss[j]? = some x->ao=some ⟨b,off,none⟩->∃ u,w.cell? ⟨b,off+j,none⟩=some u/\BAt w u x):=h2;clear h' h1 h2 en eN;go_enter Tryz.func106,Tryz.ntmps106;go_wp2;go_loopg [3,11] n (λ k sv iv wr=>wr=w/\∃ i:Nat,iv=.int .i64 i/\i+k=n/\sv=.int .i64 ((xss.take i).flatten.length:Int))
 case atStart=>exact ⟨rfl,0,rfl,by omega,rfl⟩
 case round =>
  obtain ⟨hw,i,rfl,hi,rfl⟩:=hrel;have hw':=hw.symm;subst hw';clear hw;by_cases hin:i<n
  ·have id:(i:Int)<(n:Int):=by omega
   obtain ⟨x,hx⟩:=Zaf H.out.2.1 hin;obtain ⟨b1,o1,rfl,hlt⟩:=A.out (by omega);obtain ⟨u,hu,a2,c2,rfl,_,_,_⟩:=B.out i x b1 o1 hx rfl;have X:Hid (xss[i]? = some x):=hx;have e1:=ZaZ hx;have e2:=Zdn xss (i+1);rw [e1,List.length_append,H.out.2.2] at e2
   obtain ⟨s,hs⟩:∃ s,(xss.take i).flatten.length=s:=⟨_,rfl⟩
   have SS:Hid (_=_):=hs;rw [hs] at e2 ⊢
   obtain ⟨xl,hxl⟩:∃ xl,x.length=xl:=⟨_,rfl⟩
   rw [hxl] at e2 hu;have XL:Hid (x.length=xl):=hxl;clear hx e1 hs hxl
   have nn:decide ((s:Int)+(xl:Int)<0)=false:=by simp; omega
   go_wp2;go_roundg (gk - 1)
   all_goals first
    | omega
    | exact ⟨rfl,i+1,by go_num,by omega,by rw [ZaZ X.out,List.length_append,SS.out,XL.out]; go_num⟩
  ·obtain rfl:i=n:=by omega
   have e0:(xss.take i).flatten.length=N:=by rw [List.take_of_length_le (by rw [H.out.2.1]; exact Nat.le_refl _)]; exact H.out.2.2
   rw [e0];have hg:=ZlW w N (by omega);go_wp2_with fail;refine hg.mono ?_;rintro e w1 ⟨v1,rfl,O1,B1⟩
   have HB:Hid (OwnG encB 5 w1 w.heap.size v1 []/\Below w.heap.size w w1):=⟨O1,B1⟩
   clear O1 B1 hg;go_wp2_with fail;go_loopg [6,27] i (λ k lv iv w2=>∃ j:Nat,iv=.int .i64 j/\j+k=i/\Hid (OwnG encB 5 w2 w.heap.size lv (xss.take j).flatten/\Below w.heap.size w w2))
   case atStart=>exact ⟨0,rfl,by omega,HB.out⟩
   case round =>
    obtain ⟨j,rfl,hj,HR⟩:=hrel;by_cases hin:j<i
    ·have id:(j:Int)<(i:Int):=by omega
     obtain ⟨x,hx⟩:=Zaf H.out.2.1 hin;obtain ⟨b1,o1,rfl,hlt⟩:=A.out (by omega);obtain ⟨u,hu,hB⟩:=B.out j x b1 o1 hx rfl;have hu2:=(HR.out.2.cell (p:=⟨b1,o1+j,none⟩) hlt).trans hu;have X:Hid (xss[j]? = some x):=hx;have e1:=ZaZ hx;have e2:=Zdn xss (j+1);rw [e1,List.length_append,H.out.2.2] at e2
     have XB:Hid (BAt wr u x/\(xss.take j).flatten.length+x.length<=N):=⟨hB.below HR.out.2,e2⟩
     clear hx e1 e2 hu hB;go_wp2_with (at_builtin; (refine appB rfl (.tmp 31) (.tmp 32) rfl w.heap.size _ _ (xss.take j).flatten x rfl HR.out.1 rfl XB.out.1 (by have:=XB.out.2; omega) HR.out.2.size ?_; intro v2 w2 hown2 hbel2 _ _));go_wp2;go_roundg (gk - 1)
     all_goals first
      | omega
      | exact ⟨j+1,by go_num,by omega,by rw [ZaZ X.out]; exact hown2,HR.out.2.trans hbel2⟩
    ·obtain rfl:j=i:=by omega
     have e0:(xss.take j).flatten=xss.flatten:=by rw [List.take_of_length_le (by rw [H.out.2.1]; exact Nat.le_refl _)]
     go_wp2;go_ret;exact ⟨_,rfl,by rw [<- e0]; exact HR.out.1,HR.out.2⟩
abbrev tx (n:Bs):Value:=.string ⟨n.toArray⟩
theorem ZaY {w:World} {v:Value} {bs:Bs} (h:BAt w v bs):(convert 39 9 v).run Tryz.prog w=.ok (tx bs) w:=by
 obtain ⟨ao,c,rfl,h1,h2,h3⟩:=h;by_cases h0:0<bs.length
 ·obtain ⟨b,off,rfl,hlt,hc⟩:=h3 h0;refine run_convert_bytes_back (P:=Tryz.prog) w 39 9 5 ⟨b,off,none⟩ c bs Tryz.underlying39 Tryz.underlying5 Tryz.underlying9 (λ j hj=>?_);have:=hc j bs[j] (List.getElem?_eq_getElem hj) 0 _ rfl;rw [Zas]
  have e:off+(j*encB.size+0)=off+j:=by show off+(j*1+0)=off+j; omega
  rw [e] at this;exact this
 ·obtain rfl:bs=[]:=List.eq_nil_of_length_eq_zero (by omega);have e0:([]:Bs).length=0:=rfl;rw [e0,run_convert_bytes_string (P:=Tryz.prog) w 39 9 5 ao 0 c Tryz.underlying39 Tryz.underlying5 Tryz.underlying9]
  cases ao <;> simp [Conv.bytesToString,loadCells]
  all_goals rfl
theorem ZeP (w:World) (bs:Bs) (t:TypeId) (fr:Nat×Nat) (c:Array Value) (hc:c=(bs.map (λ x=>Value.int .u8 (x.toNat:Int))).toArray) (n:Nat) (hn:n=bs.length) (hb:bs.length<=1000000):BAt (w.alloc (.cells c t fr)) (.slice (some ⟨w.heap.size,0,none⟩) n n) bs:=by
 subst hc;subst hn;refine ⟨_,_,rfl,Nat.le_refl _,by omega,λ _=>⟨w.heap.size,0,rfl,by simp,λ i x hx j u hu=>?_⟩⟩
 have hj:j=0:=by
  rcases Nat.eq_zero_or_pos j with q | q
  ·exact q
  ·rw [List.getElem?_eq_none (by show ([_]:List Value).length<=j; simp; omega)] at hu; cases hu
 subst hj
 have hi:i<bs.length:=by
  rcases Nat.lt_or_ge i bs.length with q | q
  ·exact q
  ·rw [List.getElem?_eq_none q] at hx; cases hx
 have e:0+(i*encB.size+0)=i:=by show 0+(i*1+0)=i; omega
 rw [e,World.cell?_alloc_mark];rw [List.getElem?_eq_getElem hi] at hx;cases hx;simp [hi];simpa [encB] using hu
theorem ZaB {w:World} {u:Value} {x:Bs} (h:BAt w u x) (t:TypeId):Zau (w.alloc (.cells #[u] t)) (.slice (some ⟨w.heap.size,0,none⟩) 1 1) [x]:=by
 refine ⟨_,1,rfl,λ _=>⟨w.heap.size,0,rfl,by simp⟩,λ j y b off hy hb=>?_⟩;cases hb
 have hj:j=0:=by
  rcases Nat.eq_zero_or_pos j with q | q
  ·exact q
  ·rw [List.getElem?_eq_none (by simp; omega)] at hy; cases hy
 subst hj;cases hy;exact ⟨u,by simp,h.below (bz1 w _)⟩
theorem Zdt {w:World} {u v:Value} {x y:Bs} (h:BAt w u x) (k:BAt w v y) (t:TypeId):Zau (w.alloc (.cells #[u,v] t)) (.slice (some ⟨w.heap.size,0,none⟩) 2 2) [x,y]:=by
 refine ⟨_,2,rfl,λ _=>⟨w.heap.size,0,rfl,by simp⟩,λ j z b off hz hb=>?_⟩;cases hb
 match j,hz with
 | 0,hz =>
  cases hz;exact ⟨u,by simp,h.below (bz1 w _)⟩
 | 1,hz =>
  cases hz;exact ⟨v,by simp,k.below (bz1 w _)⟩
 | j+2,hz=>simp at hz
theorem ZkU (w:World) (bs:Bs) (t t':TypeId) (fr:Nat×Nat) (c:Array Value) (hc:c=(bs.map (λ x=>Value.int .u8 (x.toNat:Int))).toArray) (n:Nat) (hn:n=bs.length) (hb:bs.length<=1000000) :
  Zau ((w.alloc (.cells c t fr)).alloc (.cells #[.slice (some ⟨w.heap.size,0,none⟩) n n] t')) (.slice (some ⟨w.heap.size+1,0,none⟩) 1 1) [bs]:=by
 have:=ZaB (ZeP w bs t fr c hc n hn hb) t';rw [show (w.alloc (.cells c t fr)).heap.size=w.heap.size+1 by simp] at this;exact this
theorem ZjP (a b:Bs):Value.string ((⟨a.toArray⟩:ByteArray)++(⟨b.toArray⟩:ByteArray))=tx (a++b):=by
 show Value.string _=Value.string _
 congr 1
theorem Zay {w:World} {b:Nat} {c:Array Value} {t:TypeId} (h:w.heap[b]? = some (.cells c t (0,0))) (i:Nat) (u:Value):(w.setCell ⟨b,i,none⟩ u).heap[b]? = some (.cells (c.setIfInBounds i u) t (0,0)):=by
 simp [World.setCell,Array.getElem?_modify,h]
theorem Zae {w:World} {b:Nat} (i:Nat) (u:Value):Zaa (λ k=>k=b) w (w.setCell ⟨b,i,none⟩ u):=(Zaa.refl (λ k=>k=b) w).setCell (p:=⟨b,i,none⟩) (.inl (show b=b from rfl)) u
structure Raw (w:World) (g:Nat) (bs:Bs):Prop where
 lt:g<w.heap.size
 cell:∀ j x,bs[j]? = some x->w.cell? ⟨g,j,none⟩=some (.int .u8 (x.toNat:Int))
 thaw:∀ j,j<bs.length->w.frozen? ⟨g,j,none⟩=false
theorem Raw.at {w:World} {g c:Nat} {bs:Bs} (h:Raw w g bs) (h1:bs.length<=c) (h2:c<=9223372036854775807):BAt w (.slice (some ⟨g,0,none⟩) bs.length c) bs:=by
 refine ⟨_,c,rfl,h1,h2,λ _=>⟨g,0,rfl,h.lt,λ i x hx j u hu=>?_⟩⟩
 have hj:j=0:=by
  rcases Nat.eq_zero_or_pos j with q | q
  ·exact q
  ·rw [List.getElem?_eq_none (by show ([_]:List Value).length<=j; simp; omega)] at hu; cases hu
 subst hj
 have e:0+(i*encB.size+0)=i:=by show 0+(i*1+0)=i; omega
 rw [e,h.cell i x hx];exact hu
theorem Zbl (w:World) (bs:Bs):∃ W' c,(convert 9 39 (tx bs)).run Tryz.prog w=.ok (.slice (some ⟨w.heap.size,0,none⟩) bs.length c) W'/\Below w.heap.size w W'/\W'.heap.size=w.heap.size+1/\Raw W' w.heap.size bs/\bs.length<=c/\(bs.length<=maxLen->c<=9223372036854775807):=by
 refine ⟨_,_,run_bytes_of_string (P:=Tryz.prog) w 9 39 5 ⟨bs.toArray⟩ Tryz.underlying9 Tryz.underlying39 Tryz.underlying5,?_,?_,⟨?_,?_,?_⟩,?_,?_⟩
 ·exact Zag (bz1 w.drew _)
 ·show (w.heap.push _).size=_; simp
 ·show w.heap.size<(w.heap.push _).size; simp
 ·intro j x hx
  have hj:j<bs.length:=by
   rcases Nat.lt_or_ge j bs.length with q | q
   ·exact q
   ·rw [List.getElem?_eq_none q] at hx; cases hx
  have hb:=bytesRow_at ⟨bs.toArray⟩ (grownCap w (⟨bs.toArray⟩:ByteArray).size 0 5) j (by simpa using hj);refine ((World.cell?_alloc_mark w.drew _ 5 _ j).trans hb).trans ?_;rw [List.getElem?_eq_getElem hj] at hx;cases hx;simp
 ·intro j hj
  have hs:j<(bytesRow ⟨bs.toArray⟩ (grownCap w (⟨bs.toArray⟩:ByteArray).size 0 5)).size:=by
   have hb:=bytesRow_at ⟨bs.toArray⟩ (grownCap w (⟨bs.toArray⟩:ByteArray).size 0 5) j (by simpa using hj);exact (Array.getElem?_eq_some_iff.1 hb).1
  obtain ⟨C,hC⟩:∃ C,bytesRow ⟨bs.toArray⟩ (grownCap w (⟨bs.toArray⟩:ByteArray).size 0 5)=C:=⟨_,rfl⟩
  rw [hC] at hs ⊢
  have hh:(w.drew.alloc (.cells C 5 (C.size,C.size+1))).heap[w.heap.size]? = some (.cells C 5 (C.size,C.size+1)):=by
   show (w.heap.push _)[w.heap.size]? = _;simp
  simp only [World.frozen?,hh];simp;omega
 ·exact grownCap_ge _ _ _ _
 ·intro h;have:=grownCap_le_maxLen w (⟨bs.toArray⟩:ByteArray).size 0 5 h;simp only [maxLen] at this;omega
theorem Zcl {ao:Option Addr} {n c k:Nat} (hc:n<=c) (hk:k<=n) :
  ∃ a' c',(∀ w,(Instr.slice 39 (.slice ao n c) none (some (.int .i64 (k:Int))) none).run Tryz.prog w=.ok (.slice a' k c') w)/\k<=c'/\c'<=c/\∀ w (xs:Bs),RdG encB w ao xs->RdG encB w a' (xs.take k):=by
 obtain ⟨i0,hi0,hz0,hz1,hz2⟩:=info_parts Tryz.info5;refine ⟨if c=0 then ao else ao.map (·.add 0),c,λ w=>?_,by omega,Nat.le_refl _,?_⟩
 ·rw [run_slice_h w 39 ao n c Tryz.underlying39 .i64 (k:Int) (by omega) (by omega)]
  have:(sizeOf (Tryz.prog.elem 39)).run Tryz.prog w=.ok 1 w:=by
   have he:Tryz.prog.elem 39=5:=by kernel_rfl
   rw [he];simp [sizeOf,typeInfo,hi0,hz1]
  rw [this];simp only [Result.andThen,sliced,Int.toNat_natCast,Nat.mul_one,Nat.sub_zero]
 ·intro w xs h
  split
  ·exact h.take k
  ·intro h0;obtain ⟨b,off,rfl,hlt,hcc⟩:=h (by simp at h0; omega);simp only [Option.map_some,Zas,Nat.add_zero];exact RdG.take (λ _=>⟨b,off,rfl,hlt,hcc⟩) k h0
theorem ZbU {ao:Option Addr} {n c k:Nat} (hc:n<=c) (hk:k<=n) :
  ∃ a' c',(∀ w,(Instr.slice 39 (.slice ao n c) (some (.int .i64 (k:Int))) none none).run Tryz.prog w=.ok (.slice a' (n - k) c') w)/\n - k<=c'/\c'<=c/\∀ w (xs:Bs),xs.length=n->RdG encB w ao xs->RdG encB w a' (xs.drop k):=by
 obtain ⟨i0,hi0,hz0,hz1,hz2⟩:=info_parts Tryz.info5;refine ⟨if c=k then ao else ao.map (·.add k),c - k,λ w=>?_,by omega,by omega,?_⟩
 ·rw [run_slice_l w 39 ao n c Tryz.underlying39 .i64 (k:Int) (by omega) (by omega)]
  have:(sizeOf (Tryz.prog.elem 39)).run Tryz.prog w=.ok 1 w:=by
   have he:Tryz.prog.elem 39=5:=by kernel_rfl
   rw [he];simp [sizeOf,typeInfo,hi0,hz1]
  rw [this];simp only [Result.andThen,sliced,Int.toNat_natCast,Nat.mul_one]
 ·intro w xs hl h
  split
  ·intro h0;simp at h0;omega
  ·intro h0;obtain ⟨b,off,rfl,hlt,hcc⟩:=h (by simp at h0; omega);simp only [Option.map_some,Zas];have:=RdG.drop (E:=encB) (b:=b) (off:=off) (xs:=xs) (λ _=>⟨b,off,rfl,hlt,hcc⟩) k h0;rw [show k*encB.size=k from Nat.mul_one k] at this;exact this
theorem Zbs {α:Type} {ops:Array Oper} {o:Oper} {a:Act} {w:World} {K:Act->World->Prop} {Q:Exit->Act->World->Prop} {X:Prop} (E:Enc α) (e t:TypeId) (bytes:Nat) (z:Value) (hz:z.cells.size=E.size)
  (hinfo:(Tryz.prog.info? e).map (λ i=>(i.zero,i.size,i.bytes))=some (some z,E.size,bytes)) (hu:Tryz.prog.underlying t=some (.slice e)) (hgd:o.guard=none) (s x:Operand)
  (hop:o.op=.call { callee:=.builtin .append,args:=#[s,x],argTypes:=#[t,t] }) (base:Nat) (v:Value) (ss xs:List α) (ao:Option Addr) (n c:Nat) (hs:a.eval s=v) (hown:OwnG E e w base v ss)
  (hx:a.eval x=.slice ao n c) (hr:RdG E w ao xs) (hl:xs.length=n) (hlen:(ss.length+n)*bytes<=140737488355328) (hmax:ss.length+n<=maxLen) (hb:base<=w.heap.size)
  (h:∀ v' w',OwnG E e w' base v' (ss++xs)->Below base w w'->ZaS w v v'->Zaa (λ k=>v.ownBlock=some k) w w'->K (a.put o.dst v') w') :
  if Region.wanted o (yielded ops a.tmps)=true then Oper.wp Tryz.prog o a w K Q else X:=by
 obtain ⟨i0,hi0,hz0,hz1,hz2⟩:=info_parts hinfo;by_cases h0:0<xs.length
 ·obtain ⟨b,off,rfl,hlt,hc⟩:=hr h0
  refine Zbq hgd s x t hop base e i0 _ E.size bytes hu hi0 hz0 hz1 hz2 hz E.pos v ss.length (E.all ss) hs hown ⟨b,off,none⟩ n c (E.all xs) hx (by rw [E.all_length,hl]) (by
   intro k u hk;obtain ⟨i,j,y,rfl,hj,hy,hu⟩:=E.all_split xs k u hk;rw [Zas]
   exact hc i y hy j u hu) (E.all_one xs) hmax hlen hb ?_
  intro v' w' h1 h2 h3;have ht:Zaa (λ k=>v.ownBlock=some k) w w':=(Zaa.refl _ _).grown h2 (λ k _ e=>e);refine h v' w' ?_ (OwnG.turn hown hb ht) h3 ht;unfold OwnG;rw [List.length_append,E.all_append,hl];exact h1
 ·obtain rfl:xs=[]:=List.eq_nil_of_length_eq_zero (by omega);obtain rfl:n=0:=hl.symm;obtain ⟨ao2,cap,rfl,hle,_,_⟩:=hown.form
  have hw:Region.wanted o (yielded ops a.tmps)=true:=by simp [Region.wanted,hgd]
  rw [if_pos hw];have hrun:=ZbI t o.type e i0 hu hi0 ao2 ss.length cap hle ao c w;unfold Oper.wp;simp [execOp,hop,resolve,invoke,builtin,hs,hx,hrun,Result.andThen];exact h _ w (by rw [List.append_nil]; exact hown) (Below.refl _ _) (.inl rfl) (Zaa.refl _ _)
theorem oz (w:World) (base:Nat) (hb:base<=w.heap.size):OwnG encB 5 (w.alloc (.cells #[] 5)) base (.slice (some ⟨w.heap.size,0,none⟩) 0 0) [] :=
 ZbA (World.ownsRow_made w #[] 0 (Nat.le_refl _) (Nat.zero_le _) rfl) hb
theorem ob1 (u:World):OwnG encB 5 (u.alloc (.cells #[] 5)) u.heap.size (.slice (some ⟨u.heap.size,0,none⟩) 0 0) []:=oz u _ (Nat.le_refl _)
theorem ob2 (u:World) (o:Obj):OwnG encB 5 ((u.alloc (.cells #[] 5)).alloc o) u.heap.size (.slice (some ⟨u.heap.size,0,none⟩) 0 0) []:=(ob1 u).below (bz1 _ _)
theorem ob3 (u:World) (o:Obj):OwnG encB 5 ((u.alloc o).alloc (.cells #[] 5)) u.heap.size (.slice (some ⟨u.heap.size+1,0,none⟩) 0 0) []:=by
 have:=oz (u.alloc o) u.heap.size (by simp)
 have e:(u.alloc o).heap.size=u.heap.size+1:=by simp
 rw [e] at this;exact this
theorem OwnG.stays {α:Type} {E:Enc α} {S:Nat->Prop} {e:TypeId} {w w':World} {base:Nat} {v:Value} {ss:List α} (h:OwnG E e w base v ss) (ht:Zaa S w w') (hS:∀ g,v.ownBlock=some g->¬ S g):OwnG E e w' base v ss:=ZaX h ht hS
theorem Zmu {w:World} {base g n cap:Nat} {bs:Bs} (h:OwnG encB 5 w base (.slice (some ⟨g,0,none⟩) n cap) bs) {i:Nat} (hi:i<bs.length) :
  ∃ y:UInt8,bs[i]? = some y/\w.cell? ⟨g,i,none⟩=some (.int .u8 (y.toNat:Int))/\w.frozen? ⟨g,i,none⟩=false:=by
 have hn:bs.length=n:=ZaF h;subst hn;have h':w.ownsRow base 5 1 (.slice (some ⟨g,0,none⟩) bs.length cap) bs.length (encB.all bs):=h;refine ⟨bs[i],List.getElem?_eq_getElem hi,?_,h'.frozenAt _⟩;rw [h'.cellAt _ (by rw [Nat.mul_one]; exact hi)];have:=encB.all_get bs i 0 bs[i] (List.getElem?_eq_getElem hi) (by decide);rw [show i*encB.size+0=i from (by show i*1+0=i; omega)] at this;rw [this]
 rfl
theorem Zk1 {w:World} {base g n cap:Nat} {bs:Bs} (h:OwnG encB 5 w base (.slice (some ⟨g,0,none⟩) n cap) bs) {i:Nat} (hi:i<bs.length) (y:UInt8) :
  OwnG encB 5 (w.setCell ⟨g,i,none⟩ (.int .u8 (y.toNat:Int))) base (.slice (some ⟨g,0,none⟩) n cap) (bs.set i y):=by
 have:=OwnG.put h (i:=i) (j:=0) (List.getElem?_eq_getElem hi) (by decide) y (.int .u8 (y.toNat:Int)) (by simp [encB]);rw [show i*encB.size+0=i from (by show i*1+0=i; omega)] at this;exact this
theorem Zno (y:UInt8):((y+1).toNat:Int)=((y.toNat:Int)+1) % 256:=by
 rw [UInt8.toNat_add];simp
def Grew (w u:World):Prop:=Below w.heap.size w u
theorem RdG.turned {α:Type} {E:Enc α} {T:Nat->Prop} {w w':World} {ao:Option Addr} {xs:List α} (h:RdG E w ao xs) (ht:Zaa T w w') (hT:0<xs.length->∀ p,ao=some p->¬ T p.block):RdG E w' ao xs:=by
 intro h0;obtain ⟨b,off,rfl,hlt,hc⟩:=h h0;exact ⟨b,off,rfl,Nat.lt_of_lt_of_le hlt ht.size,λ i x hx j u hu=>(ht.cell (p:=⟨b,off+(i*E.size+j),none⟩) hlt (show ¬ T b from hT h0 ⟨b,off,none⟩ rfl)).trans (hc i x hx j u hu)⟩
end Go.Proofs.YtmhcpbbiokpjjaaGreat
