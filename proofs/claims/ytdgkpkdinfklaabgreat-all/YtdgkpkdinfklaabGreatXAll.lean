import Derived.Test.YtdgkpkdinfklaabGreatRows
import Derived.Test.YtdgkpkdinfklaabGreatXUpI
import Derived.Test.YtdgkpkdinfklaabGreatGV
import Derived.Test.YtdgkpkdinfklaabGreatXRpP
import Derived.Test.YtdgkpkdinfklaabGreatGZ
import Derived.Test.YtdgkpkdinfklaabGreatGU
import Derived.Test.YtdgkpkdinfklaabGreatGF
import Derived.Test.YtdgkpkdinfklaabGreatXAllA
import Derived.SizedLaws
namespace Go.Proofs.YtdgkpkdinfklaabGreat
open Go.ChangeShapes Go.WideShapes Go.ChangeAt Go.RowKit
set_option maxHeartbeats 800000 in
set_option maxRecDepth 100000 in
theorem upto_all(a0:Option Addr)(len cap:Nat)(w:World)(h:IsScriptN w a0 len)(hsz:len*64≤140737488351232) :
  Calls Tryz.prog 4 #[.slice a0 len cap,.int .i64 1,.int .i64 7] w fun e w'=>e=.returned (.int .i64 (-1))∧Below w.heap.size w w':=by
 rcases h with rfl|⟨b,off,K,S,P,L,rfl,hlen,hsc,hnum⟩
 ·exact upto_none a0 cap 1 7 w
 ·refine(upto_idx (BookIn w) b off len cap 1 7 K S P L w hlen hsc ?_ ?_ ?_ ?_ ?_ ?_).mono fun e w' ⟨he,_,hI⟩=>⟨he,hI.2⟩
  ·exact⟨⟨[],none,0,[],none,0,.start w,Nat.le_refl _,Nat.le_refl _⟩,(Below.refl _ _).alloc (Nat.le_refl _) _⟩
  ·intro k W o hI;obtain⟨⟨gs,ga,gc,fs,aa,ca,hk,hl,hm⟩,hb⟩:=hI;exact⟨⟨gs,ga,gc,fs,aa,ca,hk.below ((Below.refl _ _).alloc (Nat.le_refl _) o),hl,hm⟩,hb.alloc hb.size o⟩
  ·intro k W hI;obtain⟨⟨gs,ga,gc,fs,aa,ca,hk,hl,hm⟩,hb⟩:=hI;exact⟨⟨gs,ga,gc,fs,aa,ca,hk,by omega,by omega⟩,hb⟩
  ·exact fun k W hI=>hI.2
  ·intro j W hj h1 h2 hI;obtain⟨la,ln,lc,Z,hL,hln,hz⟩:=hnum j hj;rw[hL];have hz':∀w',Below W.heap.size W w'→NumsAt w' la ln Z:=fun w' hw'=>hz w' (hI.2.trans (hw'.mono hI.2.size))
   obtain⟨⟨gs,ga,gc,fs,aa,ca,hk,hl,hm⟩,hb⟩:=hI;have quiet:∀{e:Ending} {w':World},(e=.returned (.bool true)∧Below W.heap.size W w')→(e=.returned (.bool true)∧BookIn w (j+1) w'):=fun⟨he,hb'⟩=>
    ⟨he,⟨gs,ga,gc,fs,aa,ca,hk.below hb',by omega,by omega⟩,hb.trans (hb'.mono hb.size)⟩
   have hK:K j=1∨K j=2∨K j=3∨K j=4∨K j=5∨K j=6∨K j=7:=by omega
   rcases hK with hK|hK|hK|hK|hK|hK|hK<;>rw[hK]
   ·exact(plays_check w.heap.size (S j) (P j) _ rfl W (hsc.s0 j hj)).mono fun e w' h=>quiet h
   ·exact(plays_strip w.heap.size (S j) (P j) _ rfl W (hsc.s0 j hj)).mono fun e w' h=>quiet h
   ·refine(plays_accs w.heap.size (S j) (P j) la ln lc gs ga gc fs aa ca W (hsc.s0 j hj) hk (by omega)).mono ?_;rintro e w' ⟨he,⟨fs',aa',ca',hk',hl'⟩,hb'⟩;exact⟨he,⟨gs,ga,gc,fs',aa',ca',hk',by omega,by omega⟩,hb.trans hb'⟩
   ·refine(plays_run w.heap.size (S j) (P j) la ln lc gs ga gc fs aa ca W (hsc.s0 j hj) (hsc.s1 j hj) hk (by omega)).mono ?_;rintro e w' ⟨he,⟨gs',ga',gc',hk',hl'⟩,hb'⟩;exact⟨he,⟨gs',ga',gc',fs,aa,ca,hk',by omega,by omega⟩,hb.trans hb'⟩
   ·refine(plays_pairs w.heap.size (S j) (P j) la ln lc gs ga gc fs aa ca W (hsc.s0 j hj) hk (by omega)).mono ?_;rintro e w' ⟨he,⟨gs',ga',gc',hk',hl'⟩,hb'⟩;exact⟨he,⟨gs',ga',gc',fs,aa,ca,hk',by omega,by omega⟩,hb.trans hb'⟩
   ·exact(plays_order w.heap.size (S j) (P j) _ rfl W (hsc.s0 j hj)).mono fun e w' h=>quiet h
   ·exact(plays_repair w.heap.size (S j) (P j) la ln lc Z W (hsc.s0 j hj) hln hz').mono fun e w' h=>quiet h
  ·intro k W hkl hI;obtain⟨⟨gs,ga,gc,fs,aa,ca,hk,hl,hm⟩,hb⟩:=hI;refine(holds_bb w.heap.size gs ga gc fs aa ca W hk (by omega) (by omega)).mono ?_;rintro e w' ⟨he,hb'⟩;exact⟨he,⟨gs,ga,gc,fs,aa,ca,hk.below hb',hl,hm⟩,hb.trans (hb'.mono hb.size)⟩
set_option maxHeartbeats 400000 in
theorem all_law(a0:Option Addr)(len cap:Nat)(w:World)(h:IsScriptN w a0 len)(hsz:len*64≤140737488351232) :
  Calls Tryz.prog 3 #[.slice a0 len cap] w fun e w'=>e=.returned (.bool true)∧Below w.heap.size w w':=by
 go_enter Tryz.func3,Tryz.ntmps3
 go_wp2_with fail
 refine(upto_all a0 len cap w h hsz).mono ?_;rintro e w1 ⟨rfl,hb⟩;go_wp2;go_ret;exact⟨rfl,hb⟩
set_option maxRecDepth 100000 in
theorem all_lifted(os:Os)(started:os.Started)(H:Type)(enc:TypeId×Value→H) :
  ReturnsInHanded {} Tryz.checked os 3 .any (Rows.allSpec.pre6 enc Tryz.prog Tryz.f3 Rows.allRow.domain false) (Rows.allSpec.post enc Tryz.prog Tryz.f3 false true false false):=by
 refine returnsInHanded_of_change_sized (C:=Tryz.checked) Tryz.own started (by kernel_rfl) Tryz.func3
  (ChangeSpec.witness6 (enc:=enc) (C:=Tryz.checked) false ⟨#[],#[.slice none 0 0],[]⟩ 8 (by kernel_rfl) (by kernel_rfl) (by kernel_rfl) (by kernel_rfl)) ?_
 intro W base args ds gs before hval0 hW _ hsz0 _;have hsz:(DataW.weightsEach Tryz.prog (Tryz.f3.params.toList++Rows.allSpec.plain.varTypes Tryz.prog) (ds++gs)).all (·≤reachBytes)=true:=hsz0;clear hsz0;have hval:∀(j:Nat) t v,Tryz.f3.params[j]?=some t→args[j]?=some v→Value.okWide Tryz.prog W .any base t v:=hval0;have hW':=hW;obtain⟨p,q,hA0,hV,rfl,_,_⟩:=hW;have hA:DataW.TrodAll enc Tryz.prog W 0 (fun _=>true) true Tryz.f3.params.toList args.toList ds p:=hA0;rw[Tryz.params3]at hA hval hsz;obtain⟨v0,d0,rfl,rfl,h0⟩:=trodAll_one hA;obtain⟨rfl,rfl⟩:=trodVars_none hV;obtain⟨a0,len,cap,rfl⟩:=okWide_slice Tryz.underlying22 (hval 0 22 v0 rfl rfl);have h0k:=h0;obtain⟨fuel,hf⟩:=h0;clear hA0 hval0;simp only[List.append_nil]at hW';have hlt:∀x∈p,x.block<W.heap.size:=fun x hx=>by simpa using hW'.lt x hx
 have hf':DataW.trod enc Tryz.prog W 0 (fun _=>true) true fuel 22 [.slice a0 len cap]=some (d0,p):=by simpa[Value.cells]using hf
 have hlen64:len*64≤140737488351232:=by
  rcases Deep.open_slice Tryz.underlying22 hf' with⟨hcs,_⟩|⟨a,len',cap',m,n,D,Pl,hcs,_,hl,hm,hmm,hx,_⟩
  ·simp at hcs;rw[hcs.2.1];decide
  ·simp only[List.cons.injEq,Value.slice.injEq,and_true]at hcs;obtain⟨rfl,rfl,rfl⟩:=hcs;simp only[Prod.mk.injEq]at hx;obtain⟨rfl,_⟩:=hx;have:=sized_slice hsz (j:=0) (t:=22) (e:=32) rfl rfl Tryz.underlying22;rw[Tryz.bytesOp]at this;simp only[List.length_map,List.length_range,reachBytes]at this;omega
 refine(all_law a0 len cap W (open_scriptN hf') hlen64).mono fun e W' ⟨he,hnx⟩=>?_
 subst he;refine⟨_,rfl,?_⟩;refine⟨_,_,_,[],p,[],hW',?_,?_,rfl,hnx.frame _,fun h=>by cases h⟩
 ·exact trodAll_mk1 (shut_bool Tryz.underlying4 true)
 ·exact trodAll_mk1 (Below.trod Tryz.laidOut (by kernel_rfl) (of_decide_eq_true (by kernel_rfl)) h0k hnx hlt)
theorem all_holds:Rows.AllSaid:=
 OpenClaim.holds_of_wide 3 Tryz.f3 rfl rfl rfl rfl rfl rfl rfl ⟨rfl,rfl,rfl,rfl,rfl⟩ rfl rfl rfl rfl rfl (by kernel_rfl) Tryz.func3 (by kernel_rfl)
  (of_decide_eq_true (by kernel_rfl)) (by unfold Func.isWrapper;rw[if_neg (of_decide_eq_false (by kernel_rfl))];exact⟨rfl,rfl⟩)
  (fun os started H enc _=>all_lifted os started H enc)
#print axioms all_holds
end Go.Proofs.YtdgkpkdinfklaabGreat
