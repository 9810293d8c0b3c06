/-
  The reference's SetRef, DropRef and SetTag, each by a contract.
-/
import Derived.Test.YtmhcpbbiokpjjaaGreatM26
set_option maxHeartbeats 6400000
set_option maxRecDepth 100000
namespace Go.Proofs.YtmhcpbbiokpjjaaGreat
open Go.RowKit
theorem Zcb:∀ args w,(callFunc 126 args).run Tryz.prog w=.ok (.enter 126 args) w:=enters_of Tryz.func126 (by kernel_rfl) rfl
theorem Zcd:∀ args w,(callFunc 96 args).run Tryz.prog w=.ok (.enter 96 args) w:=enters_of Tryz.func96 (by kernel_rfl) rfl
theorem Zgy (a0 a1 a2 a3 a4 a5 a6 a7 a8 n0 n1 n2 n3 n4 n5 n6 n7 n8:Value):setL #[a0,a1,a2,a3,a4,a5,a6,a7,a8] (#[n0,n1,n2,n3,n4,n5,n6,n7,n8]:Array Value).toList 0=#[n0,n1,n2,n3,n4,n5,n6,n7,n8]:=by simp [setL]
theorem Zgm {Z:Nat->Prop} {w:World} {m:Value} {st:St} {d:Dk} (hZ:∀ i,Z i->i<w.heap.size) (h:RMS Z w m st d) (hst:st.ok) (hsz:st.size<=1000000) (hok:d.ok) (hw:d.writes<=1000000) (n:Bs) (hn:n.length<=140737488355328) (i:UInt64) (Q) (hQ:sref st d n i=Q) :
  Calls Tryz.prog 47 #[m,tx n,.int .u64 (i.toNat:Int)] w λ e w'=>∃ m' r,e=.returned (.tuple #[m',.int .i64 r])/\Hid (r=Q.2.2/\RMS Z w' m' Q.1 Q.2.1/\Below w.heap.size w w'):=by
 obtain ⟨fa,fl,fc,oa,on,oc,ra,rn,rc,ta,tn,tc,rfl,h1,h2,h3,h4⟩:=h
 have ho:on<=1000000:=by rw [<- h2.len]; unfold St.size at hsz; omega
 have hrl:rn<=1000000:=by rw [<- h3.len]; unfold St.size at hsz; omega
 have htl:tn<=1000000:=by rw [<- h4.len]; unfold St.size at hsz; omega
 have L:Hid (LG encF (Zy Z w) w fa fl fc d.files/\LG encO (Zy Z w) w oa on oc st.objs/\LG encN (Zy Z w) w ra rn rc st.refs/\LG encN (Zy Z w) w ta tn tc st.tags):=⟨h1.into ZaT,h2.into ZaT,h3.into ZaT,h4.into ZaT⟩
 have HZ:Hid (∀ i,Zy Z w i->i<w.heap.size+2):=Zgu hZ
 have RB:Hid (∀ W',Below w.heap.size w W'->RMS (Zy Z w) W' (rm d (.slice fa fl fc) (.slice oa on oc) (.slice ra rn rc) (.slice ta tn tc)) st d):=λ W' b=>⟨fa,fl,fc,oa,on,oc,ra,rn,rc,ta,tn,tc,rfl,L.out.1.below b,L.out.2.1.below b,L.out.2.2.1.below b,L.out.2.2.2.below b⟩
 obtain ⟨nb,hnb⟩:∃ nb:ByteArray,nb=⟨n.toArray⟩:=⟨_,rfl⟩
 have hns:nb.size=n.length:=by rw [hnb]; show n.toArray.size=_; simp
 rw [show tx n=.string nb by rw [hnb]]
 obtain ⟨W,hW⟩:∃ W,(w.alloc (nineC d (.slice fa fl fc) (.slice oa on oc) (.slice ra rn rc) (.slice ta tn tc))).alloc zeroC=W:=⟨_,rfl⟩
 have P0:Hid (Two w W d (.slice fa fl fc) (.slice oa on oc) (.slice ra rn rc) (.slice ta tn tc)):=by rw [<- hW]; exact Two.new w d _ _ _ _
 have TH:=hid (BoxA.there (show BoxA W (w.heap.size+1) 32 #[.slice none 0 0,.int .i64 0,.bool false,.bool false,.int .i64 0,.int .i64 0,.slice none 0 0,.slice none 0 0,.slice none 0 0] from P0.out.res) (o:=0) (n:=9) (by simp));obtain ⟨x0,x1,x2,x3,x4,x5,x6,x7,x8⟩:=P0.out.box.cells;have hnm:=Zap nb (by omega) W;rw [show isName nb.data.toList=isName n by rw [hnb]] at hnm
 cases hin:isName n with
 | false =>
  have ez:Q=(st,d,2):=by rw [<- hQ]; unfold sref; rw [if_pos hin]
  subst ez;rw [hin] at hnm;clear h1 h2 h3 h4 hZ hsz hok hw hns hnb hQ hin;go_enter Tryz.func47,Tryz.ntmps47;go_wp2_with fail;refine hnm.mono ?_;rintro e w' ⟨rfl,rfl⟩;go_wp2_with (refine Zah rfl 32 (.tmp 6) (.tmp 11) rfl (w.heap.size+1) 0 #[.slice fa fl fc,.int .i64 (d.writes:Int),.bool d.armed,.bool d.dead,.int .i64 (d.after:Int),.int .i64 (d.keep:Int),.slice oa on oc,.slice ra rn rc,.slice ta tn tc] rfl rfl TH.out (by kernel_rfl) (by simp [Value.oneCell']) ?_; intro w4 hw4; have hT:Zaa (λ i=>i=w.heap.size+1) w' w4:=(by rw [hw4]; exact Zam _ _ _); have hN:=(BoxA.lays (show BoxA w' (w.heap.size+1) 32 #[.slice none 0 0,.int .i64 0,.bool false,.bool false,.int .i64 0,.int .i64 0,.slice none 0 0,.slice none 0 0,.slice none 0 0] from P0.out.res) (#[.slice fa fl fc,.int .i64 (d.writes:Int),.bool d.armed,.bool d.dead,.int .i64 (d.after:Int),.int .i64 (d.keep:Int),.slice oa on oc,.slice ra rn rc,.slice ta tn tc]:Array Value).toList 0); rw [<- hw4,Zgy] at hN; obtain ⟨z0,z1,z2,z3,z4,z5,z6,z7,z8⟩:=Nine.cells (show Nine w4 (w.heap.size+1) _ _ _ _ _ _ _ _ _ from hN); have HT:=hid hT; clear hT hN hw4);refine bodyPost_ret (v:=.tuple #[(rm d (.slice fa fl fc) (.slice oa on oc) (.slice ra rn rc) (.slice ta tn tc)),.int .i64 2]) ?_ rfl ⟨_,_,rfl,?_⟩
  ·simp [results,Tryz.f47];go_simp
  ·exact ⟨rfl,Zan P0.out.bel (RB.out _ P0.out.bel) HT.out⟩
 | true =>
  rw [hin] at hnm;have nl:=Za7 hin
  obtain ⟨g,hg⟩:∃ g,st.has 3 i=g:=⟨_,rfl⟩
  have hha:=λ (u:World) (b:Below W.heap.size W u)=>ZaA (d:=d) (vf:=.slice fa fl fc) (oc:=oc) (vr:=.slice ra rn rc) (vt:=.slice ta tn tc) (w:=u) (h2.rd.below (P0.out.bel.trans (b.mono P0.out.bel.size))) h2.len ho 3 i g hg
  have hha1:=hha W (Below.refl _ _)
  cases g with
  | false =>
   have ez:Q=(st,d,5):=by rw [<- hQ]; unfold sref; rw [if_neg (by rw [hin]; decide),if_pos hg]
   subst ez;clear h1 h2 h3 h4 hZ hsz hok hw hns hnb hQ hin hha hg;go_enter Tryz.func47,Tryz.ntmps47;go_wp2_with fail;refine hnm.mono ?_;rintro e w' ⟨rfl,rfl⟩;go_wp2_with fail;refine hha1.mono ?_;rintro e w2 ⟨rfl,B2⟩;have P2:Hid (Two w w2 d (.slice fa fl fc) (.slice oa on oc) (.slice ra rn rc) (.slice ta tn tc)):=P0.out.below B2;clear x0 x1 x2 x3 x4 x5 x6 x7 x8 hha1 TH;obtain ⟨x0,x1,x2,x3,x4,x5,x6,x7,x8⟩:=P2.out.box.cells;have TH:=hid (BoxA.there (show BoxA w2 (w.heap.size+1) 32 #[.slice none 0 0,.int .i64 0,.bool false,.bool false,.int .i64 0,.int .i64 0,.slice none 0 0,.slice none 0 0,.slice none 0 0] from P2.out.res) (o:=0) (n:=9) (by simp));go_wp2_with (refine Zah rfl 32 (.tmp 6) (.tmp 16) rfl (w.heap.size+1) 0 #[.slice fa fl fc,.int .i64 (d.writes:Int),.bool d.armed,.bool d.dead,.int .i64 (d.after:Int),.int .i64 (d.keep:Int),.slice oa on oc,.slice ra rn rc,.slice ta tn tc] rfl rfl TH.out (by kernel_rfl) (by simp [Value.oneCell']) ?_; intro w4 hw4; have hT:Zaa (λ i=>i=w.heap.size+1) w2 w4:=(by rw [hw4]; exact Zam _ _ _); have hN:=(BoxA.lays (show BoxA w2 (w.heap.size+1) 32 #[.slice none 0 0,.int .i64 0,.bool false,.bool false,.int .i64 0,.int .i64 0,.slice none 0 0,.slice none 0 0,.slice none 0 0] from P2.out.res) (#[.slice fa fl fc,.int .i64 (d.writes:Int),.bool d.armed,.bool d.dead,.int .i64 (d.after:Int),.int .i64 (d.keep:Int),.slice oa on oc,.slice ra rn rc,.slice ta tn tc]:Array Value).toList 0); rw [<- hw4,Zgy] at hN; obtain ⟨z0,z1,z2,z3,z4,z5,z6,z7,z8⟩:=Nine.cells (show Nine w4 (w.heap.size+1) _ _ _ _ _ _ _ _ _ from hN); have HT:=hid hT; clear hT hN hw4);refine bodyPost_ret (v:=.tuple #[(rm d (.slice fa fl fc) (.slice oa on oc) (.slice ra rn rc) (.slice ta tn tc)),.int .i64 5]) ?_ rfl ⟨_,_,rfl,?_⟩
   ·simp [results,Tryz.f47];go_simp
   ·exact ⟨rfl,Zan P2.out.bel (RB.out _ P2.out.bel) HT.out⟩
  | true =>
   have hi0:i≠0:=by
    intro e;rw [e,Zdc hst] at hg;cases hg
   have ez:sapp st d (4,labB i n)=Q:=by 
    rw [<- hQ];unfold sref;rw [if_neg (by rw [hin]; decide),if_neg (by rw [hg]; decide)]
   have hfit:st.fits (4,labB i n)=true:=by unfold St.fits; rw [if_pos (.inl rfl)]; simp [Zbz,ZbC,Zaz,hin,hg,hi0]
   have ADD:Hid (∀ u:World,Below W.heap.size W u->Calls Tryz.prog 126 #[(rm d (.slice fa fl fc) (.slice oa on oc) (.slice ra rn rc) (.slice ta tn tc)),.int .i64 4,tx (labB i n)] u λ e w'=>∃ v,e=.returned v/\Hid (∃ m' r,v=.tuple #[m',.int .i64 r]/\r=Q.2.2/\RMS (Zy Z w) w' m' Q.1 Q.2.1/\Below u.heap.size u w')):=by
    intro u b;have b0:=P0.out.bel.trans (b.mono P0.out.bel.size);have h:=Zdm (λ i q=>by have:=HZ.out i q; have:=P0.out.size; have:=b.size; omega) (RB.out u b0) hsz hok hw 4 (by omega) (by omega) (labB i n) (by rw [Zaz]; omega) hfit;rw [ez] at h;refine h.mono ?_;rintro e w' ⟨m',r,rfl,H⟩;exact ⟨_,rfl,m',r,rfl,H.out.1,H.out.2.1,H.out.2.2⟩
   have NUM:Hid (∀ u:World,Calls Tryz.prog 96 #[.int .u64 (i.toNat:Int),.int .i64 8] u λ e w'=>∃ v,e=.returned v/\Hid (v=tx (b8 i)/\Below u.heap.size u w')):=by
    intro u;refine (ZaG (i:UInt64).toNat 8 (UInt64.toNat_lt _) (by omega) u).mono ?_;rintro e w' ⟨rfl,hb⟩;exact ⟨_,rfl,rfl,hb⟩
   obtain ⟨s8,hs8⟩:∃ s8:ByteArray,s8=⟨(b8 i).toArray⟩:=⟨_,rfl⟩
   rw [show tx (b8 i)=.string s8 by rw [hs8]] at NUM
   have l8:s8.size=8:=by rw [hs8]; show (b8 i).toArray.size=8; simp [b8,Zav]
   have a1:¬ (9223372036854775807<s8.size+nb.size):=by omega
   have eb:tx (labB i n)=.string (s8++nb):=by
    rw [hs8,hnb];show Value.string _=Value.string _
    congr 1 <;> (apply ByteArray.ext; simp [labB])
   rw [eb] at ADD;clear h1 h2 h3 h4 hZ hsz hok hw hns hQ hin nl eb ez hfit hs8 l8 hha hg hi0 hnb;go_enter Tryz.func47,Tryz.ntmps47;go_wp2_with fail;refine hnm.mono ?_;rintro e w' ⟨rfl,rfl⟩;go_wp2_with fail;refine hha1.mono ?_;rintro e w2 ⟨rfl,B2⟩
   have P2:Hid (Two w w2 d (.slice fa fl fc) (.slice oa on oc) (.slice ra rn rc) (.slice ta tn tc)/\Below w'.heap.size w' w2):=⟨P0.out.below B2,B2⟩
   clear x0 x1 x2 x3 x4 x5 x6 x7 x8 hha1 TH B2;obtain ⟨x0,x1,x2,x3,x4,x5,x6,x7,x8⟩:=P2.out.1.box.cells
   go_upto_region 5 with fail
   have W0:Hid (Below w2.heap.size w2 w2.drew):=(Below.refl _ _).drew
   go_region_law
    (first
     | (refine ZcJ rfl (.tmp 17) (.const (.int .i64 4)) (.tmp 21) 126 #[32,3,9] rfl Zcb (rm d (.slice fa fl fc) (.slice oa on oc) (.slice ra rn rc) (.slice ta tn tc)) (.int .i64 4) (.string (s8++nb)) rfl rfl rfl _ (ADD.out w5 B5.out) ?_; intro v6 w6 h6; obtain ⟨m6,r6,rfl,e6,R6,B6⟩:=h6.out; obtain ⟨fa4,fl4,fc4,oa4,on4,oc4,ra4,rn4,rc4,ta4,tn4,tc4,rfl,q1,q2,q3,q4⟩:=R6; have P6:Hid (Two w w6 d (.slice fa fl fc) (.slice oa on oc) (.slice ra rn rc) (.slice ta tn tc)/\r6=Q.2.2/\RMS (Zy Z w) w6 (rm Q.2.1 (.slice fa4 fl4 fc4) (.slice oa4 on4 oc4) (.slice ra4 rn4 rc4) (.slice ta4 tn4 tc4)) Q.1 Q.2.1):=⟨P5.out.below B6,e6,fa4,fl4,fc4,oa4,on4,oc4,ra4,rn4,rc4,ta4,tn4,tc4,rfl,q1,q2,q3,q4⟩; obtain ⟨z0,z1,z2,z3,z4,z5,z6,z7,z8⟩:=P6.out.1.res.cells; have gz:=P6.out.1.res.thaw; have g0:=gz 0; have g1:=gz 1; have g2:=gz 2; have g3:=gz 3; have g4:=gz 4; have g5:=gz 5; have g6:=gz 6; have g7:=gz 7; have g8:=gz 8; have l2:=P6.out.1.res.lt; clear gz; clear e6 B6 q1 q2 q3 q4 h6)
     | (refine Zbc rfl (.tmp 18) (.const (.int .i64 8)) 96 #[52,3] rfl Zcd (.int .u64 (i.toNat:Int)) (.int .i64 8) rfl rfl _ (NUM.out _) ?_; intro v5 w5 h5; obtain ⟨rfl,b5⟩:=h5.out; have B5:Hid (Below w'.heap.size w' w5):=P2.out.2.trans ((W0.out.trans (b5.mono W0.out.size)).mono P2.out.2.size); have P5:Hid (Two w w5 d (.slice fa fl fc) (.slice oa on oc) (.slice ra rn rc) (.slice ta tn tc)):=P2.out.1.below (W0.out.trans (b5.mono W0.out.size)); obtain ⟨y0,y1,y2,y3,y4,y5,y6,y7,y8⟩:=P5.out.box.cells; clear h5 b5))
   all_goals
    go_wp2;refine bodyPost_ret (v:=.tuple #[(rm Q.2.1 (.slice fa4 fl4 fc4) (.slice oa4 on4 oc4) (.slice ra4 rn4 rc4) (.slice ta4 tn4 tc4)),.int .i64 r6]) ?_ rfl ⟨_,_,rfl,?_⟩
    ·simp [results,Tryz.f47];go_simp
    ·exact ⟨P6.out.2.1,Zan P6.out.1.bel P6.out.2.2 (Zad _ _ _ _ _ _ _ _ _ _ _)⟩
theorem Zfi {Z:Nat->Prop} {w:World} {m:Value} {st:St} {d:Dk} (hZ:∀ i,Z i->i<w.heap.size) (h:RMS Z w m st d) (_hst:st.ok) (hsz:st.size<=1000000) (hok:d.ok) (hw:d.writes<=1000000) (n:Bs) (hn:n.length<=140737488355328) (Q) (hQ:sdrop st d n=Q) :
  Calls Tryz.prog 51 #[m,tx n] w λ e w'=>∃ m' r,e=.returned (.tuple #[m',.int .i64 r])/\Hid (r=Q.2.2/\RMS Z w' m' Q.1 Q.2.1/\Below w.heap.size w w'):=by
 obtain ⟨fa,fl,fc,oa,on,oc,ra,rn,rc,ta,tn,tc,rfl,h1,h2,h3,h4⟩:=h
 have ho:on<=1000000:=by rw [<- h2.len]; unfold St.size at hsz; omega
 have hrl:rn<=1000000:=by rw [<- h3.len]; unfold St.size at hsz; omega
 have htl:tn<=1000000:=by rw [<- h4.len]; unfold St.size at hsz; omega
 have L:Hid (LG encF (Zy Z w) w fa fl fc d.files/\LG encO (Zy Z w) w oa on oc st.objs/\LG encN (Zy Z w) w ra rn rc st.refs/\LG encN (Zy Z w) w ta tn tc st.tags):=⟨h1.into ZaT,h2.into ZaT,h3.into ZaT,h4.into ZaT⟩
 have HZ:Hid (∀ i,Zy Z w i->i<w.heap.size+2):=Zgu hZ
 have RB:Hid (∀ W',Below w.heap.size w W'->RMS (Zy Z w) W' (rm d (.slice fa fl fc) (.slice oa on oc) (.slice ra rn rc) (.slice ta tn tc)) st d):=λ W' b=>⟨fa,fl,fc,oa,on,oc,ra,rn,rc,ta,tn,tc,rfl,L.out.1.below b,L.out.2.1.below b,L.out.2.2.1.below b,L.out.2.2.2.below b⟩
 obtain ⟨nb,hnb⟩:∃ nb:ByteArray,nb=⟨n.toArray⟩:=⟨_,rfl⟩
 have hns:nb.size=n.length:=by rw [hnb]; show n.toArray.size=_; simp
 rw [show tx n=.string nb by rw [hnb]]
 obtain ⟨W,hW⟩:∃ W,(w.alloc (nineC d (.slice fa fl fc) (.slice oa on oc) (.slice ra rn rc) (.slice ta tn tc))).alloc zeroC=W:=⟨_,rfl⟩
 have P0:Hid (Two w W d (.slice fa fl fc) (.slice oa on oc) (.slice ra rn rc) (.slice ta tn tc)):=by rw [<- hW]; exact Two.new w d _ _ _ _
 have TH:=hid (BoxA.there (show BoxA W (w.heap.size+1) 32 #[.slice none 0 0,.int .i64 0,.bool false,.bool false,.int .i64 0,.int .i64 0,.slice none 0 0,.slice none 0 0,.slice none 0 0] from P0.out.res) (o:=0) (n:=9) (by simp));obtain ⟨x0,x1,x2,x3,x4,x5,x6,x7,x8⟩:=P0.out.box.cells;have hnm:=Zap nb (by omega) W;rw [show isName nb.data.toList=isName n by rw [hnb]] at hnm
 cases hin:isName n with
 | false =>
  have ez:Q=(st,d,2):=by rw [<- hQ]; unfold sdrop; rw [if_pos hin]
  subst ez;rw [hin] at hnm;clear h1 h2 h3 h4 hZ hsz hok hw hns hnb hQ hin;go_enter Tryz.func51,Tryz.ntmps51;go_wp2_with fail;refine hnm.mono ?_;rintro e w' ⟨rfl,rfl⟩;go_wp2_with (refine Zah rfl 32 (.tmp 4) (.tmp 9) rfl (w.heap.size+1) 0 #[.slice fa fl fc,.int .i64 (d.writes:Int),.bool d.armed,.bool d.dead,.int .i64 (d.after:Int),.int .i64 (d.keep:Int),.slice oa on oc,.slice ra rn rc,.slice ta tn tc] rfl rfl TH.out (by kernel_rfl) (by simp [Value.oneCell']) ?_; intro w4 hw4; have hT:Zaa (λ i=>i=w.heap.size+1) w' w4:=(by rw [hw4]; exact Zam _ _ _); have hN:=(BoxA.lays (show BoxA w' (w.heap.size+1) 32 #[.slice none 0 0,.int .i64 0,.bool false,.bool false,.int .i64 0,.int .i64 0,.slice none 0 0,.slice none 0 0,.slice none 0 0] from P0.out.res) (#[.slice fa fl fc,.int .i64 (d.writes:Int),.bool d.armed,.bool d.dead,.int .i64 (d.after:Int),.int .i64 (d.keep:Int),.slice oa on oc,.slice ra rn rc,.slice ta tn tc]:Array Value).toList 0); rw [<- hw4,Zgy] at hN; obtain ⟨z0,z1,z2,z3,z4,z5,z6,z7,z8⟩:=Nine.cells (show Nine w4 (w.heap.size+1) _ _ _ _ _ _ _ _ _ from hN); have HT:=hid hT; clear hT hN hw4);refine bodyPost_ret (v:=.tuple #[(rm d (.slice fa fl fc) (.slice oa on oc) (.slice ra rn rc) (.slice ta tn tc)),.int .i64 2]) ?_ rfl ⟨_,_,rfl,?_⟩
  ·simp [results,Tryz.f51];go_simp
  ·exact ⟨rfl,Zan P0.out.bel (RB.out _ P0.out.bel) HT.out⟩
 | true =>
  rw [hin] at hnm;have nl:=Za7 hin
  obtain ⟨f,hf⟩:∃ f,(nget st.refs n).isSome=f:=⟨_,rfl⟩
  have hfi:=λ (u:World) (b:Below w.heap.size w u)=>ZbZ (c:=rc) st.refs n u (L.out.2.2.1.rd.below b) L.out.2.2.1.len hrl
  rw [hf,show tx n=.string nb by rw [hnb]] at hfi
  cases f with
  | false =>
   have ez:Q=(st,d,5):=by rw [<- hQ]; unfold sdrop; rw [if_neg (by rw [hin]; decide),if_pos hf]
   subst ez;clear h1 h2 h3 h4 hZ hsz hok hw hns hnb hQ hin hf;go_enter Tryz.func51,Tryz.ntmps51;go_wp2_with fail;refine hnm.mono ?_;rintro e w' ⟨rfl,rfl⟩;have hfi1:=hfi w' P0.out.bel;clear hfi;go_wp2_with fail;refine hfi1.mono ?_;rintro e w3 ⟨r3,rfl,FR,rfl⟩
   obtain rfl:r3 = -1:=by
    rcases FR.out with ⟨_,q⟩ | ⟨q,_⟩
    ·exact q
    ·cases q
   clear FR;go_wp2_with (refine Zah rfl 32 (.tmp 4) (.tmp 15) rfl (w.heap.size+1) 0 #[.slice fa fl fc,.int .i64 (d.writes:Int),.bool d.armed,.bool d.dead,.int .i64 (d.after:Int),.int .i64 (d.keep:Int),.slice oa on oc,.slice ra rn rc,.slice ta tn tc] rfl rfl TH.out (by kernel_rfl) (by simp [Value.oneCell']) ?_; intro w4 hw4; have hT:Zaa (λ i=>i=w.heap.size+1) w3 w4:=(by rw [hw4]; exact Zam _ _ _); have hN:=(BoxA.lays (show BoxA w3 (w.heap.size+1) 32 #[.slice none 0 0,.int .i64 0,.bool false,.bool false,.int .i64 0,.int .i64 0,.slice none 0 0,.slice none 0 0,.slice none 0 0] from P0.out.res) (#[.slice fa fl fc,.int .i64 (d.writes:Int),.bool d.armed,.bool d.dead,.int .i64 (d.after:Int),.int .i64 (d.keep:Int),.slice oa on oc,.slice ra rn rc,.slice ta tn tc]:Array Value).toList 0); rw [<- hw4,Zgy] at hN; obtain ⟨z0,z1,z2,z3,z4,z5,z6,z7,z8⟩:=Nine.cells (show Nine w4 (w.heap.size+1) _ _ _ _ _ _ _ _ _ from hN); have HT:=hid hT; clear hT hN hw4);refine bodyPost_ret (v:=.tuple #[(rm d (.slice fa fl fc) (.slice oa on oc) (.slice ra rn rc) (.slice ta tn tc)),.int .i64 5]) ?_ rfl ⟨_,_,rfl,?_⟩
   ·simp [results,Tryz.f51];go_simp
   ·exact ⟨rfl,Zan P0.out.bel (RB.out _ P0.out.bel) HT.out⟩
  | true =>
   have ez:sapp st d (4,labB 0 n)=Q:=by 
    rw [<- hQ];unfold sdrop;rw [if_neg (by rw [hin]; decide),if_neg (by rw [hf]; decide)]
   have hfit:st.fits (4,labB 0 n)=true:=by unfold St.fits; rw [if_pos (.inl rfl)]; simp [Zbz,ZbC,Zaz,hin,hf]
   have ADD:Hid (∀ u:World,Below W.heap.size W u->Calls Tryz.prog 126 #[(rm d (.slice fa fl fc) (.slice oa on oc) (.slice ra rn rc) (.slice ta tn tc)),.int .i64 4,tx (labB 0 n)] u λ e w'=>∃ v,e=.returned v/\Hid (∃ m' r,v=.tuple #[m',.int .i64 r]/\r=Q.2.2/\RMS (Zy Z w) w' m' Q.1 Q.2.1/\Below u.heap.size u w')):=by
    intro u b;have b0:=P0.out.bel.trans (b.mono P0.out.bel.size);have h:=Zdm (λ i q=>by have:=HZ.out i q; have:=P0.out.size; have:=b.size; omega) (RB.out u b0) hsz hok hw 4 (by omega) (by omega) (labB 0 n) (by rw [Zaz]; omega) hfit;rw [ez] at h;refine h.mono ?_;rintro e w' ⟨m',r,rfl,H⟩;exact ⟨_,rfl,m',r,rfl,H.out.1,H.out.2.1,H.out.2.2⟩
   have NUM:Hid (∀ u:World,Calls Tryz.prog 96 #[.int .u64 0,.int .i64 8] u λ e w'=>∃ v,e=.returned v/\Hid (v=tx (b8 0)/\Below u.heap.size u w')):=by
    intro u;refine (ZaG (0:UInt64).toNat 8 (UInt64.toNat_lt _) (by omega) u).mono ?_;rintro e w' ⟨rfl,hb⟩;exact ⟨_,rfl,rfl,hb⟩
   obtain ⟨s8,hs8⟩:∃ s8:ByteArray,s8=⟨(b8 0).toArray⟩:=⟨_,rfl⟩
   rw [show tx (b8 0)=.string s8 by rw [hs8]] at NUM
   have l8:s8.size=8:=by rw [hs8]; show (b8 0).toArray.size=8; simp [b8,Zav]
   have a1:¬ (9223372036854775807<s8.size+nb.size):=by omega
   have eb:tx (labB 0 n)=.string (s8++nb):=by
    rw [hs8,hnb];show Value.string _=Value.string _
    congr 1 <;> (apply ByteArray.ext; simp [labB])
   rw [eb] at ADD;clear h1 h2 h3 h4 hZ hsz hok hw hns hQ hin nl eb ez hfit hs8 l8 hf hnb;go_enter Tryz.func51,Tryz.ntmps51;go_wp2_with fail;refine hnm.mono ?_;rintro e w' ⟨rfl,rfl⟩
   have P2:Hid (Two w w' d (.slice fa fl fc) (.slice oa on oc) (.slice ra rn rc) (.slice ta tn tc)/\Below w'.heap.size w' w'):=⟨P0.out,Below.refl _ _⟩
   clear TH;have hfi1:=hfi w' P2.out.1.bel;clear hfi;go_wp2_with fail;refine hfi1.mono ?_;rintro e w3 ⟨r3,rfl,FR,rfl⟩
   have h3p:¬ r3<0:=by
    rcases FR.out with ⟨q,_⟩ | ⟨_,k,q⟩
    ·cases q
    ·omega
   clear FR
   go_upto_region 5 with fail
   have W0:Hid (Below w3.heap.size w3 w3.drew):=(Below.refl _ _).drew
   go_region_law
    (first
     | (refine ZcJ rfl (.tmp 16) (.const (.int .i64 4)) (.tmp 19) 126 #[32,3,9] rfl Zcb (rm d (.slice fa fl fc) (.slice oa on oc) (.slice ra rn rc) (.slice ta tn tc)) (.int .i64 4) (.string (s8++nb)) rfl rfl rfl _ (ADD.out w5 B5.out) ?_; intro v6 w6 h6; obtain ⟨m6,r6,rfl,e6,R6,B6⟩:=h6.out; obtain ⟨fa4,fl4,fc4,oa4,on4,oc4,ra4,rn4,rc4,ta4,tn4,tc4,rfl,q1,q2,q3,q4⟩:=R6; have P6:Hid (Two w w6 d (.slice fa fl fc) (.slice oa on oc) (.slice ra rn rc) (.slice ta tn tc)/\r6=Q.2.2/\RMS (Zy Z w) w6 (rm Q.2.1 (.slice fa4 fl4 fc4) (.slice oa4 on4 oc4) (.slice ra4 rn4 rc4) (.slice ta4 tn4 tc4)) Q.1 Q.2.1):=⟨P5.out.below B6,e6,fa4,fl4,fc4,oa4,on4,oc4,ra4,rn4,rc4,ta4,tn4,tc4,rfl,q1,q2,q3,q4⟩; obtain ⟨z0,z1,z2,z3,z4,z5,z6,z7,z8⟩:=P6.out.1.res.cells; have gz:=P6.out.1.res.thaw; have g0:=gz 0; have g1:=gz 1; have g2:=gz 2; have g3:=gz 3; have g4:=gz 4; have g5:=gz 5; have g6:=gz 6; have g7:=gz 7; have g8:=gz 8; have l2:=P6.out.1.res.lt; clear gz; clear e6 B6 q1 q2 q3 q4 h6)
     | (refine Zbc rfl (.const (.int .u64 0)) (.const (.int .i64 8)) 96 #[52,3] rfl Zcd (.int .u64 0) (.int .i64 8) rfl rfl _ (NUM.out _) ?_; intro v5 w5 h5; obtain ⟨rfl,b5⟩:=h5.out; have B5:Hid (Below w3.heap.size w3 w5):=P2.out.2.trans ((W0.out.trans (b5.mono W0.out.size)).mono P2.out.2.size); have P5:Hid (Two w w5 d (.slice fa fl fc) (.slice oa on oc) (.slice ra rn rc) (.slice ta tn tc)):=P2.out.1.below (W0.out.trans (b5.mono W0.out.size)); obtain ⟨y0,y1,y2,y3,y4,y5,y6,y7,y8⟩:=P5.out.box.cells; clear h5 b5))
   all_goals
    go_wp2;refine bodyPost_ret (v:=.tuple #[(rm Q.2.1 (.slice fa4 fl4 fc4) (.slice oa4 on4 oc4) (.slice ra4 rn4 rc4) (.slice ta4 tn4 tc4)),.int .i64 r6]) ?_ rfl ⟨_,_,rfl,?_⟩
    ·simp [results,Tryz.f51];go_simp
    ·exact ⟨P6.out.2.1,Zan P6.out.1.bel P6.out.2.2 (Zad _ _ _ _ _ _ _ _ _ _ _)⟩
theorem Zgp {Z:Nat->Prop} {w:World} {m:Value} {st:St} {d:Dk} (hZ:∀ i,Z i->i<w.heap.size) (h:RMS Z w m st d) (hst:st.ok) (hsz:st.size<=1000000) (hok:d.ok) (hw:d.writes<=1000000) (n:Bs) (hn:n.length<=140737488355328) (i:UInt64) (Q) (hQ:stag st d n i=Q) :
  Calls Tryz.prog 49 #[m,tx n,.int .u64 (i.toNat:Int)] w λ e w'=>∃ m' r,e=.returned (.tuple #[m',.int .i64 r])/\Hid (r=Q.2.2/\RMS Z w' m' Q.1 Q.2.1/\Below w.heap.size w w'):=by
 obtain ⟨fa,fl,fc,oa,on,oc,ra,rn,rc,ta,tn,tc,rfl,h1,h2,h3,h4⟩:=h
 have ho:on<=1000000:=by rw [<- h2.len]; unfold St.size at hsz; omega
 have hrl:rn<=1000000:=by rw [<- h3.len]; unfold St.size at hsz; omega
 have htl:tn<=1000000:=by rw [<- h4.len]; unfold St.size at hsz; omega
 have L:Hid (LG encF (Zy Z w) w fa fl fc d.files/\LG encO (Zy Z w) w oa on oc st.objs/\LG encN (Zy Z w) w ra rn rc st.refs/\LG encN (Zy Z w) w ta tn tc st.tags):=⟨h1.into ZaT,h2.into ZaT,h3.into ZaT,h4.into ZaT⟩
 have HZ:Hid (∀ i,Zy Z w i->i<w.heap.size+2):=Zgu hZ
 have RB:Hid (∀ W',Below w.heap.size w W'->RMS (Zy Z w) W' (rm d (.slice fa fl fc) (.slice oa on oc) (.slice ra rn rc) (.slice ta tn tc)) st d):=λ W' b=>⟨fa,fl,fc,oa,on,oc,ra,rn,rc,ta,tn,tc,rfl,L.out.1.below b,L.out.2.1.below b,L.out.2.2.1.below b,L.out.2.2.2.below b⟩
 obtain ⟨nb,hnb⟩:∃ nb:ByteArray,nb=⟨n.toArray⟩:=⟨_,rfl⟩
 have hns:nb.size=n.length:=by rw [hnb]; show n.toArray.size=_; simp
 rw [show tx n=.string nb by rw [hnb]]
 obtain ⟨W,hW⟩:∃ W,(w.alloc (nineC d (.slice fa fl fc) (.slice oa on oc) (.slice ra rn rc) (.slice ta tn tc))).alloc zeroC=W:=⟨_,rfl⟩
 have P0:Hid (Two w W d (.slice fa fl fc) (.slice oa on oc) (.slice ra rn rc) (.slice ta tn tc)):=by rw [<- hW]; exact Two.new w d _ _ _ _
 have TH:=hid (BoxA.there (show BoxA W (w.heap.size+1) 32 #[.slice none 0 0,.int .i64 0,.bool false,.bool false,.int .i64 0,.int .i64 0,.slice none 0 0,.slice none 0 0,.slice none 0 0] from P0.out.res) (o:=0) (n:=9) (by simp));obtain ⟨x0,x1,x2,x3,x4,x5,x6,x7,x8⟩:=P0.out.box.cells;have hnm:=Zap nb (by omega) W;rw [show isName nb.data.toList=isName n by rw [hnb]] at hnm
 cases hin:isName n with
 | false =>
  have ez:Q=(st,d,2):=by rw [<- hQ]; unfold stag; rw [if_pos hin]
  subst ez;rw [hin] at hnm;clear h1 h2 h3 h4 hZ hsz hok hw hns hnb hQ hin;go_enter Tryz.func49,Tryz.ntmps49;go_wp2_with fail;refine hnm.mono ?_;rintro e w' ⟨rfl,rfl⟩;go_wp2_with (refine Zah rfl 32 (.tmp 6) (.tmp 11) rfl (w.heap.size+1) 0 #[.slice fa fl fc,.int .i64 (d.writes:Int),.bool d.armed,.bool d.dead,.int .i64 (d.after:Int),.int .i64 (d.keep:Int),.slice oa on oc,.slice ra rn rc,.slice ta tn tc] rfl rfl TH.out (by kernel_rfl) (by simp [Value.oneCell']) ?_; intro w4 hw4; have hT:Zaa (λ i=>i=w.heap.size+1) w' w4:=(by rw [hw4]; exact Zam _ _ _); have hN:=(BoxA.lays (show BoxA w' (w.heap.size+1) 32 #[.slice none 0 0,.int .i64 0,.bool false,.bool false,.int .i64 0,.int .i64 0,.slice none 0 0,.slice none 0 0,.slice none 0 0] from P0.out.res) (#[.slice fa fl fc,.int .i64 (d.writes:Int),.bool d.armed,.bool d.dead,.int .i64 (d.after:Int),.int .i64 (d.keep:Int),.slice oa on oc,.slice ra rn rc,.slice ta tn tc]:Array Value).toList 0); rw [<- hw4,Zgy] at hN; obtain ⟨z0,z1,z2,z3,z4,z5,z6,z7,z8⟩:=Nine.cells (show Nine w4 (w.heap.size+1) _ _ _ _ _ _ _ _ _ from hN); have HT:=hid hT; clear hT hN hw4);refine bodyPost_ret (v:=.tuple #[(rm d (.slice fa fl fc) (.slice oa on oc) (.slice ra rn rc) (.slice ta tn tc)),.int .i64 2]) ?_ rfl ⟨_,_,rfl,?_⟩
  ·simp [results,Tryz.f49];go_simp
  ·exact ⟨rfl,Zan P0.out.bel (RB.out _ P0.out.bel) HT.out⟩
 | true =>
  rw [hin] at hnm;have nl:=Za7 hin
  obtain ⟨g,hg⟩:∃ g,st.has 3 i=g:=⟨_,rfl⟩
  have hha:=λ (u:World) (b:Below W.heap.size W u)=>ZaA (d:=d) (vf:=.slice fa fl fc) (oc:=oc) (vr:=.slice ra rn rc) (vt:=.slice ta tn tc) (w:=u) (h2.rd.below (P0.out.bel.trans (b.mono P0.out.bel.size))) h2.len ho 3 i g hg
  have hha1:=hha W (Below.refl _ _)
  cases g with
  | false =>
   have ez:Q=(st,d,5):=by rw [<- hQ]; unfold stag; rw [if_neg (by rw [hin]; decide),if_pos hg]
   subst ez;clear h1 h2 h3 h4 hZ hsz hok hw hns hnb hQ hin hha hg;go_enter Tryz.func49,Tryz.ntmps49;go_wp2_with fail;refine hnm.mono ?_;rintro e w' ⟨rfl,rfl⟩;go_wp2_with fail;refine hha1.mono ?_;rintro e w2 ⟨rfl,B2⟩;have P2:Hid (Two w w2 d (.slice fa fl fc) (.slice oa on oc) (.slice ra rn rc) (.slice ta tn tc)):=P0.out.below B2;clear x0 x1 x2 x3 x4 x5 x6 x7 x8 hha1 TH;obtain ⟨x0,x1,x2,x3,x4,x5,x6,x7,x8⟩:=P2.out.box.cells;have TH:=hid (BoxA.there (show BoxA w2 (w.heap.size+1) 32 #[.slice none 0 0,.int .i64 0,.bool false,.bool false,.int .i64 0,.int .i64 0,.slice none 0 0,.slice none 0 0,.slice none 0 0] from P2.out.res) (o:=0) (n:=9) (by simp));go_wp2_with (refine Zah rfl 32 (.tmp 6) (.tmp 16) rfl (w.heap.size+1) 0 #[.slice fa fl fc,.int .i64 (d.writes:Int),.bool d.armed,.bool d.dead,.int .i64 (d.after:Int),.int .i64 (d.keep:Int),.slice oa on oc,.slice ra rn rc,.slice ta tn tc] rfl rfl TH.out (by kernel_rfl) (by simp [Value.oneCell']) ?_; intro w4 hw4; have hT:Zaa (λ i=>i=w.heap.size+1) w2 w4:=(by rw [hw4]; exact Zam _ _ _); have hN:=(BoxA.lays (show BoxA w2 (w.heap.size+1) 32 #[.slice none 0 0,.int .i64 0,.bool false,.bool false,.int .i64 0,.int .i64 0,.slice none 0 0,.slice none 0 0,.slice none 0 0] from P2.out.res) (#[.slice fa fl fc,.int .i64 (d.writes:Int),.bool d.armed,.bool d.dead,.int .i64 (d.after:Int),.int .i64 (d.keep:Int),.slice oa on oc,.slice ra rn rc,.slice ta tn tc]:Array Value).toList 0); rw [<- hw4,Zgy] at hN; obtain ⟨z0,z1,z2,z3,z4,z5,z6,z7,z8⟩:=Nine.cells (show Nine w4 (w.heap.size+1) _ _ _ _ _ _ _ _ _ from hN); have HT:=hid hT; clear hT hN hw4);refine bodyPost_ret (v:=.tuple #[(rm d (.slice fa fl fc) (.slice oa on oc) (.slice ra rn rc) (.slice ta tn tc)),.int .i64 5]) ?_ rfl ⟨_,_,rfl,?_⟩
   ·simp [results,Tryz.f49];go_simp
   ·exact ⟨rfl,Zan P2.out.bel (RB.out _ P2.out.bel) HT.out⟩
  | true =>
   have hi0:i≠0:=by
    intro e;rw [e,Zdc hst] at hg;cases hg
   obtain ⟨f,hf⟩:∃ f,(nget st.tags n).isSome=f:=⟨_,rfl⟩
   have hfi:=λ (u:World) (b:Below w.heap.size w u)=>ZbZ (c:=tc) st.tags n u (L.out.2.2.2.rd.below b) L.out.2.2.2.len htl
   rw [hf,show tx n=.string nb by rw [hnb]] at hfi
   cases f with
   | true =>
    have ez:Q=(st,d,6):=by rw [<- hQ]; unfold stag; rw [if_neg (by rw [hin]; decide),if_neg (by rw [hg]; decide),if_pos hf]
    subst ez;clear h1 h2 h3 h4 hZ hsz hok hw hns hnb hQ hin hf hha hg hi0;go_enter Tryz.func49,Tryz.ntmps49;go_wp2_with fail;refine hnm.mono ?_;rintro e w' ⟨rfl,rfl⟩;go_wp2_with fail;refine hha1.mono ?_;rintro e w2 ⟨rfl,B2⟩;have P2:Hid (Two w w2 d (.slice fa fl fc) (.slice oa on oc) (.slice ra rn rc) (.slice ta tn tc)):=P0.out.below B2;clear x0 x1 x2 x3 x4 x5 x6 x7 x8 hha1 TH B2;obtain ⟨x0,x1,x2,x3,x4,x5,x6,x7,x8⟩:=P2.out.box.cells;have TH:=hid (BoxA.there (show BoxA w2 (w.heap.size+1) 32 #[.slice none 0 0,.int .i64 0,.bool false,.bool false,.int .i64 0,.int .i64 0,.slice none 0 0,.slice none 0 0,.slice none 0 0] from P2.out.res) (o:=0) (n:=9) (by simp));have hfi1:=hfi w2 P2.out.bel;clear hfi;go_wp2_with fail;refine hfi1.mono ?_;rintro e w3 ⟨r3,rfl,FR,rfl⟩
    have h3p:(0:Int)<=r3:=by
     rcases FR.out with ⟨q,_⟩ | ⟨_,k,q⟩
     ·cases q
     ·omega
    clear FR;go_wp2_with (refine Zah rfl 32 (.tmp 6) (.tmp 22) rfl (w.heap.size+1) 0 #[.slice fa fl fc,.int .i64 (d.writes:Int),.bool d.armed,.bool d.dead,.int .i64 (d.after:Int),.int .i64 (d.keep:Int),.slice oa on oc,.slice ra rn rc,.slice ta tn tc] rfl rfl TH.out (by kernel_rfl) (by simp [Value.oneCell']) ?_; intro w4 hw4; have hT:Zaa (λ i=>i=w.heap.size+1) w3 w4:=(by rw [hw4]; exact Zam _ _ _); have hN:=(BoxA.lays (show BoxA w3 (w.heap.size+1) 32 #[.slice none 0 0,.int .i64 0,.bool false,.bool false,.int .i64 0,.int .i64 0,.slice none 0 0,.slice none 0 0,.slice none 0 0] from P2.out.res) (#[.slice fa fl fc,.int .i64 (d.writes:Int),.bool d.armed,.bool d.dead,.int .i64 (d.after:Int),.int .i64 (d.keep:Int),.slice oa on oc,.slice ra rn rc,.slice ta tn tc]:Array Value).toList 0); rw [<- hw4,Zgy] at hN; obtain ⟨z0,z1,z2,z3,z4,z5,z6,z7,z8⟩:=Nine.cells (show Nine w4 (w.heap.size+1) _ _ _ _ _ _ _ _ _ from hN); have HT:=hid hT; clear hT hN hw4);refine bodyPost_ret (v:=.tuple #[(rm d (.slice fa fl fc) (.slice oa on oc) (.slice ra rn rc) (.slice ta tn tc)),.int .i64 6]) ?_ rfl ⟨_,_,rfl,?_⟩
    ·simp [results,Tryz.f49];go_simp
    ·exact ⟨rfl,Zan P2.out.bel (RB.out _ P2.out.bel) HT.out⟩
   | false =>
    have ez:sapp st d (5,labB i n)=Q:=by 
     rw [<- hQ];unfold stag;rw [if_neg (by rw [hin]; decide),if_neg (by rw [hg]; decide),if_neg (by rw [hf]; decide)]
    have hfit:st.fits (5,labB i n)=true:=by unfold St.fits; rw [if_pos (.inr rfl)]; simp [Zbz,ZbC,Zaz,hin,hg,hf]
    have ADD:Hid (∀ u:World,Below W.heap.size W u->Calls Tryz.prog 126 #[(rm d (.slice fa fl fc) (.slice oa on oc) (.slice ra rn rc) (.slice ta tn tc)),.int .i64 5,tx (labB i n)] u λ e w'=>∃ v,e=.returned v/\Hid (∃ m' r,v=.tuple #[m',.int .i64 r]/\r=Q.2.2/\RMS (Zy Z w) w' m' Q.1 Q.2.1/\Below u.heap.size u w')):=by
     intro u b;have b0:=P0.out.bel.trans (b.mono P0.out.bel.size);have h:=Zdm (λ i q=>by have:=HZ.out i q; have:=P0.out.size; have:=b.size; omega) (RB.out u b0) hsz hok hw 5 (by omega) (by omega) (labB i n) (by rw [Zaz]; omega) hfit;rw [ez] at h;refine h.mono ?_;rintro e w' ⟨m',r,rfl,H⟩;exact ⟨_,rfl,m',r,rfl,H.out.1,H.out.2.1,H.out.2.2⟩
    have NUM:Hid (∀ u:World,Calls Tryz.prog 96 #[.int .u64 (i.toNat:Int),.int .i64 8] u λ e w'=>∃ v,e=.returned v/\Hid (v=tx (b8 i)/\Below u.heap.size u w')):=by
     intro u;refine (ZaG (i:UInt64).toNat 8 (UInt64.toNat_lt _) (by omega) u).mono ?_;rintro e w' ⟨rfl,hb⟩;exact ⟨_,rfl,rfl,hb⟩
    obtain ⟨s8,hs8⟩:∃ s8:ByteArray,s8=⟨(b8 i).toArray⟩:=⟨_,rfl⟩
    rw [show tx (b8 i)=.string s8 by rw [hs8]] at NUM
    have l8:s8.size=8:=by rw [hs8]; show (b8 i).toArray.size=8; simp [b8,Zav]
    have a1:¬ (9223372036854775807<s8.size+nb.size):=by omega
    have eb:tx (labB i n)=.string (s8++nb):=by
     rw [hs8,hnb];show Value.string _=Value.string _
     congr 1 <;> (apply ByteArray.ext; simp [labB])
    rw [eb] at ADD;clear h1 h2 h3 h4 hZ hsz hok hw hns hQ hin nl eb ez hfit hs8 l8 hha hg hi0 hf hnb;go_enter Tryz.func49,Tryz.ntmps49;go_wp2_with fail;refine hnm.mono ?_;rintro e w' ⟨rfl,rfl⟩;go_wp2_with fail;refine hha1.mono ?_;rintro e w2 ⟨rfl,B2⟩
    have P2:Hid (Two w w2 d (.slice fa fl fc) (.slice oa on oc) (.slice ra rn rc) (.slice ta tn tc)/\Below w'.heap.size w' w2):=⟨P0.out.below B2,B2⟩
    clear x0 x1 x2 x3 x4 x5 x6 x7 x8 hha1 TH B2;obtain ⟨x0,x1,x2,x3,x4,x5,x6,x7,x8⟩:=P2.out.1.box.cells;have hfi1:=hfi w2 P2.out.1.bel;clear hfi;go_wp2_with fail;refine hfi1.mono ?_;rintro e w3 ⟨r3,rfl,FR,rfl⟩
    obtain rfl:r3 = -1:=by
     rcases FR.out with ⟨_,q⟩ | ⟨q,_⟩
     ·exact q
     ·cases q
    clear FR
    go_upto_region 7 with fail
    have W0:Hid (Below w3.heap.size w3 w3.drew):=(Below.refl _ _).drew
    go_region_law
     (first
      | (refine ZcJ rfl (.tmp 23) (.const (.int .i64 5)) (.tmp 27) 126 #[32,3,9] rfl Zcb (rm d (.slice fa fl fc) (.slice oa on oc) (.slice ra rn rc) (.slice ta tn tc)) (.int .i64 5) (.string (s8++nb)) rfl rfl rfl _ (ADD.out w5 B5.out) ?_; intro v6 w6 h6; obtain ⟨m6,r6,rfl,e6,R6,B6⟩:=h6.out; obtain ⟨fa4,fl4,fc4,oa4,on4,oc4,ra4,rn4,rc4,ta4,tn4,tc4,rfl,q1,q2,q3,q4⟩:=R6; have P6:Hid (Two w w6 d (.slice fa fl fc) (.slice oa on oc) (.slice ra rn rc) (.slice ta tn tc)/\r6=Q.2.2/\RMS (Zy Z w) w6 (rm Q.2.1 (.slice fa4 fl4 fc4) (.slice oa4 on4 oc4) (.slice ra4 rn4 rc4) (.slice ta4 tn4 tc4)) Q.1 Q.2.1):=⟨P5.out.below B6,e6,fa4,fl4,fc4,oa4,on4,oc4,ra4,rn4,rc4,ta4,tn4,tc4,rfl,q1,q2,q3,q4⟩; obtain ⟨z0,z1,z2,z3,z4,z5,z6,z7,z8⟩:=P6.out.1.res.cells; have gz:=P6.out.1.res.thaw; have g0:=gz 0; have g1:=gz 1; have g2:=gz 2; have g3:=gz 3; have g4:=gz 4; have g5:=gz 5; have g6:=gz 6; have g7:=gz 7; have g8:=gz 8; have l2:=P6.out.1.res.lt; clear gz; clear e6 B6 q1 q2 q3 q4 h6)
      | (refine Zbc rfl (.tmp 24) (.const (.int .i64 8)) 96 #[52,3] rfl Zcd (.int .u64 (i.toNat:Int)) (.int .i64 8) rfl rfl _ (NUM.out _) ?_; intro v5 w5 h5; obtain ⟨rfl,b5⟩:=h5.out; have B5:Hid (Below w'.heap.size w' w5):=P2.out.2.trans ((W0.out.trans (b5.mono W0.out.size)).mono P2.out.2.size); have P5:Hid (Two w w5 d (.slice fa fl fc) (.slice oa on oc) (.slice ra rn rc) (.slice ta tn tc)):=P2.out.1.below (W0.out.trans (b5.mono W0.out.size)); obtain ⟨y0,y1,y2,y3,y4,y5,y6,y7,y8⟩:=P5.out.box.cells; clear h5 b5))
    all_goals
     go_wp2;refine bodyPost_ret (v:=.tuple #[(rm Q.2.1 (.slice fa4 fl4 fc4) (.slice oa4 on4 oc4) (.slice ra4 rn4 rc4) (.slice ta4 tn4 tc4)),.int .i64 r6]) ?_ rfl ⟨_,_,rfl,?_⟩
     ·simp [results,Tryz.f49];go_simp
     ·exact ⟨P6.out.2.1,Zan P6.out.1.bel P6.out.2.2 (Zad _ _ _ _ _ _ _ _ _ _ _)⟩
end Go.Proofs.YtmhcpbbiokpjjaaGreat
