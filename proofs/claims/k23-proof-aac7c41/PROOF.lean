import PyProof.Rows.All
import Wide.All
import OpenK.AllK
import Wide.FinOn
import PyProof.Seq
import PyProof.RangeIter
import PyProof.TupleIter
import PyProof.StrLoop
import PyProof.WalkInts
import PyProof.StationsW
import PyProof.ZipIter
import PyProof.ListNew
import Lean
import PyProof.EqAt
import PyProof.EqKinds
import PyProof.TupleCall
import PyProof.NeKinds
import KE.IntTextLaws
import KE.KIntText
import PyProof.Draws
import PyProof.EnumMake
import PyProof.EnumFor
import PyProof.NsDelKeeps
import PyProof.Rows.StrFit
import PyProof.Rows.SortShellK
import PyProof.DictKinds
import KE.KDictList
import PyProof.DictWalks
import KE.KEqDict
import PyProof.RaisesDict
import PySem.SetOps
import PySem.Challenge.RW_copperbook_k23_whole_joined_or_not
set_option Elab.async false
set_option linter.all false
set_option maxRecDepth 100000
/- These names keep the theorem's opening from writing out equations that only make the build larger: what is built must stay
   below 64 MiB. They say nothing and are used nowhere. -/
namespace PySem.W.Fast
def tw8918535098227609517:=0
def tw11477698705482997243:=0
def tw8338576115390194185:=0
def tw192985345316956521:=0
def tw5943933757550266371:=0
def tw8098839404517632943:=0
def tw7802896055443666215:=0
def tw5899811898823131851:=0
def tw9018389624151794464:=0
def tw10765269078305158529:=0
def tw8990619601466089563:=0
def te17310776536417370922:=0
def tw11686599430806618736:=0
def tw10225927640517142653:=0
def tw6761780070496232455:=0
def tw14049184991975846437:=0
def tw1047884886999758447:=0
def tw16905348340700281864:=0
def tw6822560691207179632:=0
def tw8693252940715002953:=0
def tw910857966925002503:=0
def tw11558842966954680183:=0
def tw18063419344305491528:=0
def tw9096669092278423536:=0
def tw11801840993330076129:=0
def tw11822528349819559613:=0
def tw6337709871232605462:=0
def tw13524220888638754052:=0
def tw18202133625279637746:=0
def tw12509753059310443540:=0
def tw6986731666631267707:=0
def tw8671760354095083405:=0
def tw11828779018511088742:=0
def tw8942238198983682185:=0
def tw3621403968940583337:=0
def tw17120313024276340954:=0
def tw15010252272126367335:=0
def tw9605241948187231844:=0
def tw2076853163087296517:=0
def tw14494578052931576373:=0
def tw14804619937599149798:=0
def tw3924226429583555821:=0
def tw16828027862446982179:=0
def tw15168811008671550683:=0
def tw14314120286983497312:=0
def tw867695499575110000:=0
def tw5826042216074046961:=0
def tw15926875802526755223:=0
def tw17854303310834415908:=0
def tw14475912142132802255:=0
def tw2102178595939168435:=0
def tw17202631596890441148:=0
def tw11360263685084238758:=0
def tw17893013772138579887:=0
def tw6231258232388701527:=0
def tw4280881781766957725:=0
def tw5365303608187419016:=0
def tw14900687601387284085:=0
def tw8945343791322340834:=0
def tw4560888173207809674:=0
def tw4472371270049964604:=0
def tw1094246637226289748:=0
def tw7872703797535341543:=0
def tw9520900050499884028:=0
def tw14269778438019432254:=0
def tw11163698587875090792:=0
def tw259494010497473706:=0
def tw16115447918842934676:=0
def tw18209630803551972250:=0
def tw2287510679943585683:=0
def tw13275115416780415948:=0
def tw6836090490441221097:=0
def tw293404059428623807:=0
def tw8466850200454151140:=0
def tw12994822281811696462:=0
def tw5289653810529500863:=0
def tw15214362146735958002:=0
def tw1903567964380283545:=0
def tw8559213017458489656:=0
def tw3884375487129777228:=0
def tw1260275629475644599:=0
def tw15816112642967987790:=0
def tw10717200716989222552:=0
def tw5558274859658715032:=0
def tw15460143766277119075:=0
def tw10062330803224360813:=0
def tw12406546076432786218:=0
def tw9888427552674392347:=0
def tw9970922507376613879:=0
def tw9699611342399652671:=0
def tw10892064567025180146:=0
def tw18360589020246217665:=0
def tw11016961726247783350:=0
def tw18310291362057168995:=0
def tw17220168175549584662:=0
def tw2956393082332497299:=0
def tw17903501812509595341:=0
def tw306121857242713566:=0
def tw14646084235234364382:=0
def tw8105199356384367299:=0
def tw14651747847264355776:=0
def tw12680933870833113453:=0
def tw8939468409693068952:=0
def tw2022860658314666804:=0
def tw10927544111310797496:=0
def tw3557499213505137644:=0
def tw3104234980183951762:=0
def tw9113218054171930431:=0
def tw3496268343744564537:=0
def tw17763770159463633074:=0
def tw6073698705174630131:=0
def tw15803106139464681556:=0
def tw9141314728968527993:=0
def tw7275994508610971355:=0
def tw4426295791357924619:=0
def tw17350672241492829629:=0
def tw17278877810557674120:=0
def tw4072306948382661780:=0
def tw11035706943210620847:=0
def tw7862233090999756176:=0
def tw3002370591399118740:=0
def tw12339744993446451911:=0
def tw11717724144349995739:=0
def tw17618723170830257410:=0
def tw10166157927551010249:=0
def tw5572612017617492204:=0
def tw10933975718464833466:=0
def tw10879104381796677422:=0
def tw16107047207023087314:=0
def tw17239410517254217611:=0
def tw359282084512766366:=0
def tw18025478933268980321:=0
def tw10572831677929062773:=0
def tw1768910123128720142:=0
def tw690569994272311561:=0
def tw15002656631014126618:=0
def tw12017340642391705202:=0
def tw1961262864621898788:=0
def tw11138697276320538768:=0
def tw1977184233748806221:=0
def tw14463537904301634156:=0
def tw1837115300023344147:=0
def tw8147125822998114956:=0
def tw2033962554059959290:=0
def tw16544499640053454247:=0
def tw1019440575188264645:=0
def tw6440585451832245247:=0
def tw5908133546698143303:=0
def tw18401969425349159436:=0
def tw12554003928099482271:=0
def tw1747051846857766415:=0
def tw13209872989069904115:=0
def tw917742990587705385:=0
def tw10867696590012927843:=0
def tw8775812770356178497:=0
def tw10598909030583535967:=0
def tw1944971767946704870:=0
def tw15320748392208740346:=0
def tw16895621781221263823:=0
def tw16912278360779672345:=0
def tw10722021804268820618:=0
def tw10288740743168385600:=0
def tw6838353662188815185:=0
def tw6137379090738948489:=0
def tw3114791209900162983:=0
def tw15416353690290369015:=0
def tw2046506389782201250:=0
def tw17870948422809160174:=0
def tw8063674527733219425:=0
def tw2539331720894742971:=0
def tw16723976200534967528:=0
def tw12174635290760066576:=0
def tw4012597332803159058:=0
def tw3345490607257504843:=0
def tw5092370744733089761:=0
def tw6648500710496567551:=0
def tw8517456435081264872:=0
def tw6061174914585972606:=0
def tw1506485398269237879:=0
def tw13489236764049965316:=0
def tw14083256025885678984:=0
def tw17545273605345526878:=0
def tw1232130308500236942:=0
def tw5119894344474954750:=0
def tw4289641235410029293:=0
def tw2078097523359341907:=0
def tw1333642673293193438:=0
def tw16679290836939404119:=0
def tw16631903030114965512:=0
def tw15930468885030141309:=0
def tw7573333185527502495:=0
def tw16915951968510309612:=0
def tw10632219657911761030:=0
def tw9078775522277445357:=0
def tw8788281312114288756:=0
def tw8650375125408213239:=0
def tw15979690528531878542:=0
def tw2397010709684225853:=0
def tw1885112075791910204:=0
def tw13000356784389597887:=0
def tw9358770271456226966:=0
def tw8008280306206283965:=0
def tw13491692486542693552:=0
def tw14260399668602944099:=0
def tw13881255024340066058:=0
def tw6544593768008471398:=0
def tw8796471761096775485:=0
def tw9635401965498582980:=0
def tw7515693651194810852:=0
def tw8887314560745317785:=0
def tw8332067116032639594:=0
def tw4254440540243693978:=0
def tw5046863277184926640:=0
def tw14479380988011255632:=0
def tw419547100220176703:=0
def tw16533015203692870694:=0
def tw14978073515923847318:=0
def tw8999979250468433566:=0
def tw14290561474309486007:=0
def tw10397726568314481689:=0
def tw12994035039637999692:=0
def tw16382831869807527800:=0
def tw14107684698124480175:=0
def tw269481296064786513:=0
def tw7005364119624975302:=0
def tw12276143780763159469:=0
def tw11762135371840005379:=0
def tw8658286275977256261:=0
def tw16749643915007334563:=0
def tw15956986620867932012:=0
def tw12344888457981153685:=0
def tw11234294989173763579:=0
def tw10051221213458155117:=0
def tw16554083838565661846:=0
def tw8356970362318092677:=0
def tw1518753009632816521:=0
def tw16826815921815796143:=0
def tw7666786843294703350:=0
def tw1016483225623758194:=0
def tw16673827774508108987:=0
def tw14078329641012774505:=0
def tw7357354521781645572:=0
def tw16990405586772532127:=0
def tw14151509480837472322:=0
def tw8546762612265420852:=0
def tw8469167454181964973:=0
def tw7823567635885200031:=0
def tw16934377352406460176:=0
def tw6249475215089155511:=0
def tw10849696546327115949:=0
def tw7302603200831148153:=0
def tw15835619120053327079:=0
def tw6591924303269112548:=0
def tw15495908551801221773:=0
def tw17633380866485666482:=0
def tw16615994534589276183:=0
def tw16234379228618817692:=0
def tw11116409445909549338:=0
def tw18171008812732273170:=0
def tw7126982718399307325:=0
def tw684393301640648702:=0
def tw4015816932829266725:=0
def tw3120499806451576343:=0
def tw13445951047017463359:=0
def tw4614856642781167583:=0
def tw1556978636618932858:=0
def tw3799969425933669451:=0
def tw6162193895975419074:=0
def tw7800290414945743020:=0
def tw7666415819248624025:=0
def tw15876307700832257291:=0
def tw372373368901243566:=0
def tw6167353192347361057:=0
def tw4507783560469925325:=0
def tw3845282092571279243:=0
def tw14051673928295349497:=0
def tw7906615207404214693:=0
def tw7236085551130357212:=0
def tw2490648310837527566:=0
def tw17689072719081286967:=0
def tw11383144751424916025:=0
def tw8601773874544142880:=0
def tw7649275717589033386:=0
def tw4170118688836686998:=0
def tw3998704796287007956:=0
def tw1205795500281925055:=0
def tw11968671704661113576:=0
def tw11682331478145937845:=0
def tw10456693019561870090:=0
def tw9537336861496244272:=0
def tw3898011443676150705:=0
def tw17989222949075370611:=0
def tw15130880103531706113:=0
def tw96904044703191533:=0
def tw8567191495897175990:=0
def tw4695457169970439398:=0
def tw3813166636508132857:=0
def tw16115771828806011193:=0
def tw10440069625516915522:=0
def tw15100159922195386508:=0
def tw14903408851903788698:=0
def tw3764797791724398538:=0
def tw16662205213403666707:=0
def tw9459427224797539783:=0
def tw5876917874376855036:=0
def tw18097862330766986840:=0
def tw1495085373896906910:=0
def tw12988630705608039067:=0
def tw891622197214168526:=0
def tw6876575796081158882:=0
def tw10280823075980089724:=0
def tw16688648890017814304:=0
def tw16185710023115291601:=0
def tw6060742355925787453:=0
def tw9406571315879368692:=0
def tw13786989623881894186:=0
def tw8285855947211561732:=0
def tw8532120196363755347:=0
def tw7428953263885597724:=0
def tw6375535925368604612:=0
def tw4858698614875843160:=0
def tw15982102714667026698:=0
def tw15430169161457754106:=0
def tw11986919032756987961:=0
def tw1025599692909791640:=0
def tw16363857326619459326:=0
def tw951483968830033593:=0
def tw4753772790187536812:=0
def tw3039612891137063:=0
def tw17487394762579027205:=0
def tw17106260650711603686:=0
def tw16896981372168085158:=0
def tw14486344843903484322:=0
def tw12289738384083801977:=0
def tw11202462932548036036:=0
def tw8960008491256533603:=0
def tw7484544666485880947:=0
def tw7026534839502081434:=0
def tw17786083073361871649:=0
def tw13052905719102050038:=0
def tw1136689658769792687:=0
def tw11053447787590835454:=0
def tw10184548105886624543:=0
def tw2583996523143890602:=0
def tw4745023306484219575:=0
def tw13898871343842535638:=0
def tw8959851295884661780:=0
def tw6626384448300062727:=0
def tw6356480769423797905:=0
def tw3120409997328574286:=0
def tw18090597849472156971:=0
def tw10411618137523853302:=0
def tw891634692629748999:=0
def tw7579369270622979991:=0
def tw2485724366697179065:=0
def tw16597840090198272391:=0
def tw12637281024229055384:=0
def tw8755008267231019747:=0
def tw8253623031694483970:=0
def tw4355188947477486738:=0
def tw3504156348343196300:=0
def tw3366371587745255770:=0
def tw17567152341255419213:=0
def tw1559682105875111444:=0
def tw10092033178266962798:=0
def tw3690139055060515910:=0
def tw15474982019172151352:=0
def tw9992409955294185416:=0
def tw9729347314753656377:=0
def tw9706492149538903575:=0
def tw9527415847240263693:=0
def tw9514909951118477848:=0
def tw9501816782873212276:=0
def tw9372528396850380186:=0
def tw9342667209317474687:=0
def tw934005320714723809:=0
def tw9323938365802595797:=0
def tw9192044517858038227:=0
def tw9157574927203830762:=0
def tw9150618117842785483:=0
def tw9071050200255399465:=0
def tw8860536998849288116:=0
def tw8809263696621071687:=0
def tw8678908313360192895:=0
def tw8493874350318471045:=0
def tw8387713656405166154:=0
def tw8349385770599163224:=0
def tw8271864526188505915:=0
def tw8265141974633666235:=0
def tw819212151938234262:=0
def tw7882228601787310483:=0
def tw7591092884469642309:=0
def tw7386896691999959297:=0
def tw6876325939299658293:=0
def tw680494526690429801:=0
def tw6797557652466412747:=0
def tw6752446569063341170:=0
def tw6636211385049773354:=0
def tw6531773586408311055:=0
def tw648730906302683599:=0
def tw6074086159313030918:=0
def tw604189109155753342:=0
def tw5848882968341766814:=0
def tw5774653332996786543:=0
def tw5553675695952368819:=0
def tw5472912118176064583:=0
end PySem.W.Fast
set_option genSizeOf false
namespace L2
open PySem
inductive Chn (h:Heap) (D:List Addr):Value→Prop
 | nil:Chn h D .none
 | cons {b:Addr} {ob:Obj} {us:Array Value} {c:Value}:b∈D→h.get? b = some ob→ob.data = .fields us→us[2]? = some c→Chn h D c→Chn h D (.ref b)
theorem Chn.kept {h h':Heap} {D D':List Addr} {v:Value} (n:Chn h D v) (k:∀ b∈D,∀ o,h.get? b = some o→h'.get? b = some o) (d:∀ b∈D,b∈D'):Chn h' D' v:=by
 induction n with
 | nil => exact .nil
 | cons q1 q2 q3 q4 _ ih => exact .cons (d _ q1) (k _ q1 _ q2) q3 q4 ih
theorem Chn.small {h:Heap} {D:List Addr} {v:Value} (n:Chn h D v):∃ D',Chn h D' v∧∀ b∈D',∃ (o:Obj) (us:Array Value),h.get? b = some o∧o.data = .fields us∧2 < us.size:=by
 induction n with
 | nil => exact ⟨[],.nil,fun b hb => absurd hb (by simp)⟩
 | @cons b ob us c q1 q2 q3 q4 _ ih =>
  obtain ⟨D',m,l⟩:=ih
  refine ⟨b :: D',.cons (by simp) q2 q3 q4 (m.kept (fun _ _ _ e => e) fun d hd => List.mem_cons_of_mem _ hd),fun d hd => ?_⟩
  rcases List.mem_cons.mp hd with rfl | hd
  ·exact ⟨ob,us,q2,q3,(Array.getElem?_eq_some_iff.mp q4).1⟩
  ·exact l d hd
def HdL (A:Around) (h:Heap) (D:List Addr):Prop:=A.handled = none∨∃ ea:Addr,A.handled = some (.ref ea)∧Chn h D (.ref ea)
def HdN (A:Around) (h:Heap):Prop:=∃ D,HdL A h D
theorem HdL.keptD {A:Around} {h h':Heap} {D:List Addr} (n:HdL A h D) (k:∀ b∈D,∀ o,h.get? b = some o→h'.get? b = some o):HdL A h' D:=by
 rcases n with z | ⟨ea,h1,h2⟩
 ·exact .inl z
 ·exact .inr ⟨ea,h1,h2.kept k fun _ q => q⟩
theorem HdN.small {A:Around} {h:Heap} (n:HdN A h):∃ D,HdL A h D∧∀ b∈D,∃ (o:Obj) (us:Array Value),h.get? b = some o∧o.data = .fields us∧2 < us.size:=by
 obtain ⟨D,n⟩:=n
 rcases n with z | ⟨ea,h1,h2⟩
 ·exact ⟨[],.inl z,fun b hb => absurd hb (by simp)⟩
 ·obtain ⟨D',m,l⟩:=h2.small
  exact ⟨D',.inr ⟨ea,h1,m⟩,l⟩
theorem HdN.but {A:Around} {h h':Heap} {it:Addr} (n:HdN A h) (k:Heap.SameBut it h h') (ne:∃ (o:Obj) (us:Array Value),h.get? it = some o∧o.data = .fields us∧us.size≤2):HdN A h':=by
 obtain ⟨D,n,l⟩:=n.small
 refine ⟨D,n.keptD fun b hb o e => (k.2 b fun q => ?_).trans e⟩
 obtain ⟨o1,us1,e1,e2,e3⟩:=l b hb
 obtain ⟨o2,us2,f1,f2,f3⟩:=ne
 rw [q,f1] at e1; cases e1
 rw [f2] at e2; cases e2
 omega
theorem entry_unchain:entryFor table "proto.unchain" = some Builtin.«proto.unchain»:=entryFor_of_tree (by kernel_rfl)
section
variable {prog:Program} {w:World} {A:Around} {E:Value→Shared→Prop} {s:Shared}
inductive Pth (h:Heap):Addr→Addr→Prop
 | refl (a:Addr):Pth h a a
 | step {a b o:Addr} {ob:Obj} {us:Array Value}:h.get? a = some ob→ob.data = .fields us→us[2]? = some (.ref b)→Pth h b o→Pth h a o
theorem Pth.snoc {h:Heap} {a o b:Addr} {ob:Obj} {us:Array Value} (p:Pth h a o) (h1:h.get? o = some ob) (h2:ob.data = .fields us) (h3:us[2]? = some (.ref b)):Pth h a b:=by
 induction p with
 | refl a => exact .step h1 h2 h3 (.refl b)
 | step q1 q2 q3 _ ih => exact .step q1 q2 q3 (ih h1)
def Far (h:Heap) (a o:Addr):Prop:=∃ (b:Addr) (ob:Obj) (us:Array Value),h.get? a = some ob∧ob.data = .fields us∧us[2]? = some (.ref b)∧Pth h b o
theorem Pth.far {h:Heap} {a o b:Addr} {ob:Obj} {us:Array Value} (p:Pth h a o) (h1:h.get? o = some ob) (h2:ob.data = .fields us) (h3:us[2]? = some (.ref b)):Far h a b:=by
 cases p with
 | refl => exact ⟨b,ob,us,h1,h2,h3,.refl b⟩
 | step q1 q2 q3 p => exact ⟨_,_,_,q1,q2,q3,p.snoc h1 h2 h3⟩
theorem unchain_on {e:Addr} {D:List Addr} {R:Result→Shared→Prop} (new:e ∉ D) (h:R (.ok (.ret .none)) s) {v:Value} (n:Chn s.heap D v):∀ (o slow:Addr) (tg:Bool),v = .ref o→Pth s.heap slow o→(tg = true→Far s.heap slow o) →
  codeAny (model prog w) A (.builtin "proto.unchain" ⟨[.ref e,.ref o,.ref slow,.bool tg],[]⟩) R s:=by
 induction n with
 | nil => intro o slow tg q; cases q
 | @cons b ob us c q1 q2 q3 q4 m ih =>
  intro o slow tg q p far
  cases q
  refine codeAny_builtin entry_unchain ?_
  unfold Builtin.«proto.unchain»
  dsimp only
  refine wpAny_bind (wpAny_field q2 q3 (x:=c) q4 ?_)
  cases m with
  | nil => exact wpAny_pure h
  | @cons b2 ob2 us2 c2 r1 r2 r3 r4 m2 =>
   have nbe:b2≠e:=fun q => new (q▸r1)
   rw [if_neg (show ¬ ((Value.ref b2 == Value.none) = true) from Bool.false_ne_true),if_neg (show ¬ ((Value.ref b2 == Value.ref e) = true) by simpa using nbe)]
   by_cases hs:b2 = slow
   ·subst hs
    rw [if_pos (by simp)]
    exact wpAny_bind (wpAny_rule (wpAny_pure h))
   ·rw [if_neg (show ¬ ((Value.ref b2 == Value.ref slow) = true) by simpa using hs)]
    cases tg with
    | false => exact wpAny_bind (wpAny_pure (wpAny_pure ⟨Code.quiet_builtin _ (by decide +kernel),ih b2 slow true rfl (p.snoc q2 q3 q4) fun _ => p.far q2 q3 q4⟩))
    | true =>
     obtain ⟨b3,ob3,us3,f1,f2,f3,p3⟩:=far rfl
     exact wpAny_bind (wpAny_field f1 f2 (x:=.ref b3) f3 (wpAny_pure ⟨Code.quiet_builtin _ (by decide +kernel),ih b2 b3 false rfl (p3.snoc q2 q3 q4) fun z => by cases z⟩))
theorem raise_on {α:Type} {Q:α→Shared→Prop} {e:Addr} {oe:Obj} {vs:Array Value} {D:List Addr} (hn:HdL A s.heap D) (he:s.heap.get? e = some oe) (hd:oe.data = .fields vs) (h2:2 < vs.size)
  (new:e ∉ D)
  (h:∀ h',(h' = s.heap∧A.handled = none)∨(∃ ea,A.handled = some (.ref ea)∧h' = s.heap.update e (Obj.mapFields (·.setIfInBounds 2 (.ref ea))))→Heap.SameBut e s.heap h'→(∃ o,h'.get? e = some o∧o.cls = oe.cls)→E (.ref e) { s with heap:=h' }):wpAny (model prog w) A (raiseNew (.ref e):Sem α) Q E s:=by
 unfold raiseNew
 refine wpAny_bind (wpAny_handled ?_)
 rcases hn with z | ⟨ea,z,n⟩
 ·rw [z]
  exact wpAny_bind (wpAny_pure (wpAny_throw (h s.heap (.inl ⟨rfl,z⟩) ⟨rfl,fun _ _ => rfl⟩ ⟨oe,he,rfl⟩)))
 ·have ne:ea≠e:=fun q => by cases n with | cons q1 => exact new (q▸q1)
  rw [z]
  dsimp only
  have hne:(Value.ref ea != Value.ref e) = true:=by
   rw [bne_iff_ne]; intro q; exact ne (Value.ref.inj q)
  rw [hne]
  have wf:∀ {P:Unit→Shared→Prop},P () { s with heap:=s.heap.update e (Obj.mapFields (·.setIfInBounds 2 (.ref ea))) }→wpAny (model prog w) A (updateField e 2 (.ref ea)) P E s:=fun {P} q => wpAny_setField he hd h2 q
  refine wpAny_bind (wpAny_holding (wpAny_runValue (unchain_on new ?_ n ea ea false rfl (.refl ea) fun z => by cases z)))
  exact wpAny_bind (wf (wpAny_throw (h _ (.inr ⟨ea,z,rfl⟩) (Heap.SameBut.update ..) ⟨_,Heap.get?_update_self _ he (Obj.isFreed_of_fields (Obj.data_mapFields hd _)),Obj.cls_mapFields ..⟩)))
theorem stop_on {α:Type} {Q:α→Shared→Prop} (hn:HdN A s.heap) (h:∀ h' e,(∀ b o,s.heap.get? b = some o→h'.get? b = some o)→(∃ o,h'.get? e = some o∧o.cls = .type "StopIteration")→E (.ref e) { s with heap:=h' }) :
  wpAny (model prog w) A (newExc (.type "StopIteration") [] >>= fun x => (raiseNew x:Sem α)) Q E s:=by
 refine wpAny_bind ?_
 unfold newExc newTuple
 refine wpAny_bind (wpAny_newObj_type ?_ (by show 0≤sizeLine; decide))
 refine wpAny_bind (m:=firstArgMember (.type "StopIteration") []) (wpAny_of_eq (a:=Value.none) rfl (wpAny_newObj_type ?_ (by size_fits)))
 generalize hp:s.heap.push _ = h1
 have k1:∀ b o,s.heap.get? b = some o→h1.get? b = some o:=fun b o e => hp▸Heap.get?_push_of_some _ e
 have k2:∀ ob b o,h1.get? b = some o→(h1.push ob).get? b = some o:=fun ob b o e => Heap.get?_push_of_some _ e
 obtain ⟨D,nD,lD⟩:=hn.small
 refine raise_on (e:=h1.objs.size) (vs:=_) (D:=D) ((nD.keptD fun b _ o e => k1 b o e).keptD fun b _ o e => k2 _ b o e) (Heap.get?_push_size _ rfl) rfl (by show 2 < 6; decide) (fun q => ?_) fun h' _ sb ex => h h' _ (fun b o e => (sb.2 b ?_).trans (k2 _ b o (k1 b o e))) ex
 ·obtain ⟨o,_,eo,_⟩:=lD _ q
  exact absurd (Heap.lt_size (k1 _ _ eo)) (Nat.lt_irrefl _)
 ·exact Nat.ne_of_lt (Heap.lt_size (k1 b o e))
theorem stopped {Q:Option Value→Shared→Prop} {e:Addr} (ex:∃ o,s.heap.get? e = some o∧o.cls = .type "StopIteration") (h:Q none s) :
  wpAny (model prog w) A (do if (← isInstance (.ref e) (.type "StopIteration")) = true then pure (none:Option Value) else throw (.ref e)) Q E s:=by
 obtain ⟨o,h1,h2⟩:=ex
 refine wpAny_bind (wpAny_isInstance (T:="StopIteration") (b:=true) ⟨o,h1,h2⟩ isSubtype_stop ?_)
 exact wpAny_pure h
theorem list_on {it l:Addr} {i:Nat} {items:Array Value} {Q:Option Value→Shared→Prop} (hn:HdN A s.heap) (hit:s.heap.IsListIter it l i) (hl:s.heap.IsList l items) (hx:items[i]? = none)
  (hQ:∀ h',Heap.ExtBut it s.heap h'→Q none { s with heap:=h' }):wpAny (model prog w) A (pyNext (.ref it)) Q E s:=by
 obtain ⟨o,ho,hc,hd⟩:=id hit
 obtain ⟨ol,hol,_,nl,hdl⟩:=hl
 unfold pyNext
 refine wpAny_bind (wpAny_attempt (wpAny_callSpecial?_slot (name:=Str.ofString "__next__") hit.typeIs slot_listiter_next (wpAny_call_entry slot_listiter_next hit.typeIs entry_listiter_next ?_ (args_listiter_next _))))
 refine (show ∀ {R:Fin→Shared→Prop} {F:Value→Shared→Prop},wpAny (model prog w) A.in1 (field (.ref it) 0 >>= _) R F s→wpAny (model prog w) A.in1 (Builtin.«list_iterator.__next__» _) R F s from fun z => z) (wpAny_bind (wpAny_field ho hd (x:=.ref l) rfl ?_))
 rw [if_neg (show ¬ ((Value.ref l == Value.none) = true) from Bool.false_ne_true)]
 refine wpAny_bind (wpAny_field (i:=1) ho hd (x:=.int i 0) rfl (wpAny_bind (wpAny_seqItems hol hdl ?_)))
 simp only [Int.toNat_natCast,hx]
 refine wpAny_bind (wpAny_rule (wpAny_bind (wpAny_setField ho hd (by simp) ?_)))
 have sb:Heap.SameBut it s.heap (s.heap.update it (Obj.mapFields (·.setIfInBounds 0 .none))):=Heap.SameBut.update ..
 refine stop_on (A:=A.in1) (s:={ s with heap:=_ }) (hn.but sb ⟨o,_,ho,hd,by simp⟩) fun h' e k ex => stopped (s:={ s with heap:=h' }) ex (hQ h' fun b o hb q => k b o ((sb.2 b hb).trans q))
theorem tuple_on {it l:Addr} {i:Nat} {items:Array Value} {Q:Option Value→Shared→Prop} (hn:HdN A s.heap) (hit:s.heap.IsTupleIter it l i) (hl:s.heap.IsTuple l items) (hx:items[i]? = none)
  (hQ:∀ h',Heap.ExtBut it s.heap h'→Q none { s with heap:=h' }):wpAny (model prog w) A (pyNext (.ref it)) Q E s:=by
 obtain ⟨o,ho,hc,hd⟩:=id hit
 obtain ⟨ol,hol,_,nl,hdl⟩:=hl
 unfold pyNext
 refine wpAny_bind (wpAny_attempt (wpAny_callSpecial?_slot (name:=Str.ofString "__next__") hit.typeIs F.slot_tuple_iterator_next (wpAny_call_entry F.slot_tuple_iterator_next hit.typeIs F.entry_tuple_iterator_next ?_ (F.args_tuple_iterator_next_1 _))))
 refine (show ∀ {R:Fin→Shared→Prop} {F:Value→Shared→Prop},wpAny (model prog w) A.in1 (field (.ref it) 0 >>= _) R F s→wpAny (model prog w) A.in1 (Builtin.«tuple_iterator.__next__» _) R F s from fun z => z) (wpAny_bind (wpAny_field ho hd (x:=.ref l) rfl ?_))
 rw [if_neg (show ¬ ((Value.ref l == Value.none) = true) from Bool.false_ne_true)]
 refine wpAny_bind (wpAny_field (i:=1) ho hd (x:=.int i 0) rfl (wpAny_bind (wpAny_seqItems hol hdl ?_)))
 simp only [Int.toNat_natCast,hx]
 refine wpAny_bind (wpAny_rule (wpAny_bind (wpAny_setField ho hd (by simp) ?_)))
 have sb:Heap.SameBut it s.heap (s.heap.update it (Obj.mapFields (·.setIfInBounds 0 .none))):=Heap.SameBut.update ..
 refine stop_on (A:=A.in1) (s:={ s with heap:=_ }) (hn.but sb ⟨o,_,ho,hd,by simp⟩) fun h' e k ex => stopped (s:={ s with heap:=h' }) ex (hQ h' fun b o hb q => k b o ((sb.2 b hb).trans q))
theorem range_on {it:Addr} {x left step:Int} {Q:Option Value→Shared→Prop} (hn:HdN A s.heap) (hit:IsRangeIter s.heap it x left step) (hleft:left≤0)
  (hQ:∀ h',Heap.ExtBut it s.heap h'→Q none { s with heap:=h' }):wpAny (model prog w) A (pyNext (.ref it)) Q E s:=by
 have hT:s.TypeIs (.ref it) "range_iterator":=⟨_,hit,rfl⟩
 unfold pyNext
 refine wpAny_bind (wpAny_attempt (wpAny_callSpecial?_slot (name:=Str.ofString "__next__") hT F.slot_range_iterator_next (wpAny_call_entry F.slot_range_iterator_next hT F.entry_range_iterator_next ?_ (F.args_range_iterator_next_1 _))))
 refine (show ∀ {R:Fin→Shared→Prop} {F:Value→Shared→Prop},wpAny (model prog w) A.in1 (field (.ref it) 0 >>= _) R F s→wpAny (model prog w) A.in1 (Builtin.«range_iterator.__next__» _) R F s from fun z => z) (wpAny_bind (wpAny_field hit rfl (x:=rawInt x) rfl ?_))
 refine (show ∀ {k:Value→Sem Fin} {R:Fin→Shared→Prop} {F:Value→Shared→Prop},wpAny (model prog w) A.in1 (k (rawInt left)) R F s→wpAny (model prog w) A.in1 (field (.ref it) 1 >>= k) R F s from fun z => wpAny_bind (wpAny_field hit rfl (x:=rawInt left) rfl z)) ?_
 refine (show ∀ {k:Value→Sem Fin} {R:Fin→Shared→Prop} {F:Value→Shared→Prop},wpAny (model prog w) A.in1 (k (rawInt step)) R F s→wpAny (model prog w) A.in1 (field (.ref it) 2 >>= k) R F s from fun z => wpAny_bind (wpAny_field hit rfl (x:=rawInt step) rfl z)) ?_
 refine (show ∀ {a b:Sem Fin} {R:Fin→Shared→Prop} {F:Value→Shared→Prop},wpAny (model prog w) A.in1 a R F s→wpAny (model prog w) A.in1 (if left≤0 then a else b) R F s from fun z => by rw [if_pos hleft]; exact z) ?_
 refine wpAny_bind (wpAny_rule (wpAny_bind ?_))
 exact stop_on (A:=A.in1) hn fun h' e k ex => stopped (s:={ s with heap:=h' }) ex (hQ h' fun b o _ q => k b o q)
theorem walks_on (I ax:Addr) (hne:ax≠I) (D:List Addr) (hI:I ∉ D) (items:Array Value) :
  Walks prog w A I ([I,ax] ++ D) [I] items.size (fun i v => items[i]? = some v) (fun i h => (h.IsListIter I ax i∧h.IsList ax items)∧HdL A h D) where
 sub:=fun b hb => by simp at hb; simp [hb]
 frame:=fun i h h' st k => ⟨⟨st.1.1.at fun o e => k I (by simp) o e,st.1.2.at fun o e => k ax (by simp) o e⟩,st.2.keptD fun b hb o e => k b (by simp [hb]) o e⟩
 item:=fun i s Q E hi st hQ => by
  refine wpAny_pyNext_list_item st.1.1 st.1.2 (x:=items[i]) (by simp [hi]) fun h' hit' sb => ?_
  refine hQ _ h' s.toks (by simp [hi]) ⟨⟨hit',st.1.2.extBut sb.extBut hne⟩,st.2.keptD fun b hb o e => (sb.2 b fun q => hI (q▸hb)).trans e⟩ fun b o hb e => (sb.2 b fun q => hb (by simp [q])).trans e
 done:=fun s Q E st hQ => list_on ⟨D,st.2⟩ st.1.1 st.1.2 (by simp) fun h' k => hQ h' s.toks fun b o hb e => k b o (fun q => hb (by simp [q])) e
 self:=fun _ _ _ _ st hQ => wpAny_pyIter_listiter st.1.1 hQ
theorem min_on {l:Addr} {xs:Array (Int × Tok)} {Q:Value→Shared→Prop} (hn:HdN A s.heap) (hl:s.heap.IsList l (intItems xs)) (hne:0 < xs.size)
  (h:∀ v h' tk,(intItems xs)[argBest (fun i j => decide (numAt xs i < numAt xs j)) (xs.size - 1)]? = some v→(∀ b o,s.heap.get? b = some o→h'.get? b = some o)→Q v { s with heap:=h',toks:=tk }) :
  wpAny (model prog w) A (call (.builtin "min") [.ref l]) Q E s:=by
 obtain ⟨D,nD,lD⟩:=hn.small
 have hlt:∀ b∈D,b < s.heap.objs.size:=fun b hb => let ⟨_,_,e,_⟩:=lD b hb; Heap.lt_size e
 refine call_min_walk (iter_intList hl fun s2 e st hfp hlI => ?_)
 subst e
 have nI:s.heap.objs.size ∉ D:=fun z => absurd (hlt _ z) (Nat.lt_irrefl _)
 refine ⟨_,_,_,_,_,_,_,rfl,walks_on (A:=A.in1) s.heap.objs.size l hlI D nI (intItems xs),⟨st,HdL.keptD (A:=A.in1) nD fun b _ o e => Heap.get?_push_of_some _ e⟩,fun b hb => ?_,by simpa [intItems] using hne,CmpOf.ints_lt (numAt xs) (fun _ _ => intItems_at),fun v h' tk hP hk => ?_⟩
 ·rcases List.mem_append.mp hb with z | z
  ·exact hfp b z
  ·rw [Heap.size_push]; exact Nat.lt_succ_of_lt (hlt b z)
 ·exact h v h' tk (by simpa [intItems] using hP) (old_kept hk)
end
end L2
namespace L2
open PySem
def TrC (h base:Heap) (e:Addr) (cls:Value) (a0:Value × Value) (fl:Value):Prop :=
 ∃ oe vs T oT ts,h.get? e = some oe∧(oe.cls = cls∧vs[0]? = some a0.1∧vs[2]? = some a0.2)∧oe.data = .fields vs∧vs[1]? = some (.ref T)∧base.get? T = none∧T≠e∧h.get? T = some oT∧oT.data = .fields ts∧ts[3]? = some fl
structure StepC (base:Heap) (l:List Env) (e:Addr) (cls:Value) (a0:Value × Value) (fl:Value) (h h':Heap):Prop where
 st:base.StaysIn h'
 ff:h'.FunFrames base l
 tr:TrC h' base e cls a0 fl
 up:h.UpToSlots h'
section
variable {M:Model} {A:Around} {E:Value→Shared→Prop} {s:Shared} {base:Heap} {env:Env} {outer:List Env} {L e:Addr} {cls:Value} {a0:Value × Value}
theorem entry_c {oe:Obj} {vs:Array Value} {head:Value} {hadNext:Bool} {Q:Unit→Shared→Prop} (hfr:A.frames = some (env :: outer)) (hl:s.heap.FunFrames base (env :: outer)) (hf:env.frame = some L)
  (he:s.heap.get? e = some oe) (hkb:base.StaysIn s.heap) (hen:base.get? e = none) (hd:oe.data = .fields vs) (hsz:1 < vs.size) (h0:vs[0]? = some a0.1) (h2:vs[2]? = some a0.2)
  (h:∀ h',StepC base (env :: outer) e oe.cls a0 (rawInt L) s.heap h'→Q () { s with heap:=h' }) :
  wpAny M A (do let a ← frameOf env; let pl ← entryPlaceOf L hadNext; let b ← EntryCells.newEntry head a .none (rawInt L) .none pl; setField (.ref e) 1 b) Q E s:=by
 have rec1:∀ b o,s.heap.get? b = some o→(∀ us,o.data≠.fields us)→b≠e:=fun b o hb hn q => by
  subst q
  rw [he] at hb; cases hb
  exact hn vs hd
 have efr:e ∉ (env :: outer).filterMap (·.frame):=fun hm => by
  obtain ⟨_,o,ho,hn⟩:=hl.mem hm
  exact rec1 e o ho hn rfl
 refine wpAny_bind (wpAny_frameOf_fun hfr hl hf fun g hg => wpAny_bind (wpAny_entryPlaceOf fun pl hpl => ?_))
 unfold EntryCells.newEntry newFields
 refine wpAny_bind (wpAny_newObj_type ?_ (hpl.sizeOk5 _ _ _ _ _))
 generalize ho:(Obj.mk (.type "traceback") none (.fields ([head,.ref L,.none,rawInt L,.none] ++ (if pl.isEmpty then List.replicate 6 Value.none else pl)).toArray) #[]) = ot
 have hoc:ot.data = .fields ([head,.ref L,.none,rawInt L,.none] ++ (if pl.isEmpty then List.replicate 6 Value.none else pl)).toArray:=by rw [← ho]
 have eg:g.get? e = some oe:=(hg.2.1 e efr).trans he
 have bg:base.StaysIn g:=fun b o hb => (hg.2.1 b fun hm => by rw [(hl.mem hm).1] at hb; cases hb).trans (hkb b o hb)
 have nT:g.objs.size≠e:=Nat.ne_of_gt (Heap.lt_size eg)
 have e2:(g.push ot).get? e = some oe:=Heap.get?_push_of_some _ eg
 refine wpAny_setField e2 hd hsz (h _ ?_)
 have d3:=Obj.data_mapFields hd (·.setIfInBounds 1 (Value.ref g.objs.size))
 have e3:=Heap.get?_update_self (Obj.mapFields (·.setIfInBounds 1 (Value.ref g.objs.size))) e2 (Obj.isFreed_of_fields d3)
 have keep:∀ b o,b≠e→g.get? b = some o→((g.push ot).update e (Obj.mapFields (·.setIfInBounds 1 (Value.ref g.objs.size)))).get? b = some o:=fun b o hb q => by
  rw [Heap.get?_update_other _ _ (Ne.symm hb)]
  exact Heap.get?_push_of_some _ q
 have T3:((g.push ot).update e (Obj.mapFields (·.setIfInBounds 1 (Value.ref g.objs.size)))).get? g.objs.size = some ot:=by
  rw [Heap.get?_update_other _ _ (Ne.symm nT)]
  exact Heap.get?_push_size g (by rw [← ho]; rfl)
 refine ⟨fun b o hb => keep b o (fun q => by rw [q,hen] at hb; cases hb) (bg b o hb),hl.of_keeps fun b o hb hn => ?_,⟨_,_,g.objs.size,ot,_,e3,⟨Obj.cls_mapFields _ _,?_,?_⟩,d3,by simp [hsz],bg.fresh,nT,T3,hoc,?_⟩,fun b o hb hn => ?_⟩
 ·obtain ⟨sl,q⟩:=hg.2.2 b o hb
  exact ⟨_,keep b _ (rec1 b o hb hn) q,rfl⟩
 ·rw [Array.getElem?_setIfInBounds_ne (by decide)]; exact h0
 ·rw [Array.getElem?_setIfInBounds_ne (by decide)]; exact h2
 ·first | (simp; done) | (rcases hpl with rfl | ⟨_,_,_,_,_,_,_,rfl⟩ <;> simp)
 ·obtain ⟨sl,q⟩:=hg.2.2 b o hb
  exact ⟨sl,keep b _ (rec1 b o hb hn) q⟩
theorem flight_c {l:List Env} {fl:Value} {Q:Unit→Shared→Prop} (hkb:base.StaysIn s.heap) (hl:s.heap.FunFrames base l) (ht:TrC s.heap base e cls a0 fl)
  (h:∀ h',StepC base l e cls a0 .none s.heap h'→(∀ b o,s.heap.get? b = some o→(∀ us,o.data≠.fields us)→h'.get? b = some o)→Q () { s with heap:=h' }):wpAny M A (setFlight (.ref e) none) Q E s:=by
 obtain ⟨oe,vs,T,oT,ts,he,hc,hd,h1,hnT,hTe,hT,hdT,h3⟩:=ht
 have z3:3 < ts.size:=(Array.getElem?_eq_some_iff.mp h3).1
 have nrec:∀ b o,s.heap.get? b = some o→(∀ us,o.data≠.fields us)→T≠b:=fun b o hb hn q => by
  subst q
  rw [hT] at hb; cases hb
  exact hn ts hdT
 unfold setFlight
 refine wpAny_bind (wpAny_field he hd h1 ?_)
 rw [if_pos (show (Value.ref T != Value.none) = true by simp)]
 refine wpAny_setField hT hdT z3 (h _ ⟨fun b o hb => ?_,hl.of_keeps fun b o hb hn => ⟨o,?_,rfl⟩,⟨oe,vs,T,_,_,?_,hc,hd,h1,hnT,hTe,Heap.get?_update_self _ hT (Obj.isFreed_of_fields (Obj.data_mapFields hdT _)),Obj.data_mapFields hdT _,by simp [z3]⟩,fun b o hb hn => ⟨o.slots,?_⟩⟩ fun b o hb hn => ?_)
 ·rw [Heap.get?_update_other _ _ (fun q => by rw [← q,hnT] at hb; cases hb)]; exact hkb b o hb
 ·rw [Heap.get?_update_other _ _ (nrec b o hb hn)]; exact hb
 ·rw [Heap.get?_update_other _ _ hTe]; exact he
 ·rw [Heap.get?_update_other _ _ (nrec b o hb hn)]; exact hb
 ·rw [Heap.get?_update_other _ _ (nrec b o hb hn)]; exact hb
theorem note_first {oe:Obj} {vs:Array Value} {Q:Unit→Shared→Prop} (hfr:A.frames = some (env :: outer)) (hl:s.heap.FunFrames base (env :: outer)) (hf:env.frame = some L)
  (he:s.heap.get? e = some oe) (hkb:base.StaysIn s.heap) (hen:base.get? e = none) (hd:oe.data = .fields vs) (h1:vs[1]? = some .none) (h0:vs[0]? = some a0.1) (h2:vs[2]? = some a0.2)
  (h:∀ h',StepC base (env :: outer) e oe.cls a0 (rawInt L) s.heap h'→Q () { s with heap:=h' }):wpAny M A (noteFrame (.ref e) env) Q E s:=by
 unfold noteFrame
 simp only [hf]
 refine wpAny_bind (wpAny_field he hd h1 ?_)
 rw [if_neg (by decide)]
 exact entry_c hfr hl hf he hkb hen hd (Array.getElem?_eq_some_iff.mp h1).1 h0 h2 h
theorem note_next {Q:Unit→Shared→Prop} (hfr:A.frames = some (env :: outer)) (hl:s.heap.FunFrames base (env :: outer)) (hf:env.frame = some L) (ht:TrC s.heap base e cls a0 .none) (hkb:base.StaysIn s.heap) (hen:base.get? e = none)
  (h:∀ h',StepC base (env :: outer) e cls a0 (rawInt L) s.heap h'→Q () { s with heap:=h' }):wpAny M A (noteFrame (.ref e) env) Q E s:=by
 obtain ⟨oe,vs,T,oT,ts,he,⟨hc,h0,h2⟩,hd,h1,hnT,hTe,hT,hdT,h3⟩:=ht
 subst hc
 have nrec:∀ b o,s.heap.get? b = some o→(∀ us,o.data≠.fields us)→T≠b:=fun b o hb hn q => by
  subst q
  rw [hT] at hb; cases hb
  exact hn ts hdT
 unfold noteFrame
 simp only [hf]
 refine wpAny_bind (wpAny_field he hd h1 ?_)
 rw [if_pos (show (Value.ref T != Value.none) = true by simp)]
 refine wpAny_bind (wpAny_field hT hdT h3 ?_)
 rw [if_neg (show ¬ ((Value.none == rawInt L) = true) by simp [rawInt])]
 refine wpAny_bind (wpAny_setField hT hdT (Array.getElem?_eq_some_iff.mp h3).1 ?_)
 refine entry_c (s:={ s with heap:=_ }) hfr (hl.of_keeps fun b o hb hn => ⟨o,by rw [Heap.get?_update_other _ _ (nrec b o hb hn)]; exact hb,rfl⟩) hf (by rw [Heap.get?_update_other _ _ hTe]; exact he) (fun b o hb => by
  rw [Heap.get?_update_other _ _ (fun q => by rw [← q,hnT] at hb; cases hb)]; exact hkb b o hb) hen hd (Array.getElem?_eq_some_iff.mp h1).1 h0 h2 fun h' S => h h' ⟨S.st,S.ff,S.tr,fun b o hb hn => S.up b o (by rw [Heap.get?_update_other _ _ (nrec b o hb hn)]; exact hb) hn⟩
theorem leave_first {oe:Obj} {vs:Array Value} {Q:Unit→Shared→Prop} (hfr:A.frames = some (env :: outer)) (hl:s.heap.FunFrames base (env :: outer)) (hf:env.frame = some L)
  (he:s.heap.get? e = some oe) (hkb:base.StaysIn s.heap) (hen:base.get? e = none) (hd:oe.data = .fields vs) (h1:vs[1]? = some .none) (h0:vs[0]? = some a0.1) (h2:vs[2]? = some a0.2)
  (h:∀ h',StepC base (env :: outer) e oe.cls a0 .none s.heap h'→Q () { s with heap:=h' }):wpAny M A (leaving env (.ref e)) Q E s:=by
 unfold leaving
 refine wpAny_bind (note_first hfr hl hf he hkb hen hd h1 h0 h2 fun h1 S => flight_c (s:={ s with heap:=h1 }) S.st S.ff S.tr fun h2 S2 _ => h h2 ⟨S2.st,S2.ff,S2.tr,S.up.trans S2.up⟩)
theorem leave_next {Q:Unit→Shared→Prop} (hfr:A.frames = some (env :: outer)) (hl:s.heap.FunFrames base (env :: outer)) (hf:env.frame = some L) (ht:TrC s.heap base e cls a0 .none) (hkb:base.StaysIn s.heap) (hen:base.get? e = none)
  (h:∀ h',StepC base (env :: outer) e cls a0 .none s.heap h'→Q () { s with heap:=h' }):wpAny M A (leaving env (.ref e)) Q E s:=by
 unfold leaving
 refine wpAny_bind (note_next hfr hl hf ht hkb hen fun h1 S => flight_c (s:={ s with heap:=h1 }) S.st S.ff S.tr fun h2 S2 _ => h h2 ⟨S2.st,S2.ff,S2.tr,S.up.trans S2.up⟩)
end
end L2
namespace L2
open PySem
section
variable {prog:Program} {w:World} {A:Around} {E:Value→Shared→Prop} {s:Shared} {z TI TO i1 i2 l1 l2:Addr} {xs ys:Array Value}
end
end L2
namespace L2
open PySem PySem.Spec PyProof.Rows
abbrev Key:=Sum Int Str
def keyIs:Key→Value→Bool
 | .inl k,v => Value.isInt k v
 | .inr x,v => Value.isStrOf x v
def keyH (w:World):Key→Int
 | .inl k => hashInt k
 | .inr x => hashStr w x
theorem keyIs_shape:∀ {k:Key} {v:Value},keyIs k v = true→(∃ i t,k = Sum.inl i∧v = Value.int i t)∨(∃ x t,k = Sum.inr x∧v = Value.str x t)
 | .inl i,v,h => by
  obtain ⟨t,e⟩:=Value.isInt_shape (k:=i) (v:=v) h
  exact .inl ⟨i,t,rfl,e⟩
 | .inr x,v,h => by
  obtain ⟨t,e⟩:=Value.isStrOf_shape (x:=x) (v:=v) h
  exact .inr ⟨x,t,rfl,e⟩
theorem keyIs_int (i:Int) (t:Tok):keyIs (.inl i) (.int i t) = true:=by simp [keyIs,Value.isInt]
theorem keyIs_str (x:Str) (t:Tok):keyIs (.inr x) (.str x t) = true:=by simp [keyIs,Value.isStrOf]
theorem key_ll (a b:Int):decide ((Sum.inl a:Key) = Sum.inl b) = (a == b):=by
 by_cases e:a = b
 ·subst e; simp
 ·have h:¬ (Sum.inl a:Key) = Sum.inl b:=fun q => e (Sum.inl.inj q)
  rw [decide_eq_false h]
  exact (beq_eq_false_iff_ne.mpr e).symm
theorem key_rr (a b:Str):decide ((Sum.inr a:Key) = Sum.inr b) = decide (a = b):=by
 by_cases e:a = b
 ·subst e; simp
 ·have h:¬ (Sum.inr a:Key) = Sum.inr b:=fun q => e (Sum.inr.inj q)
  rw [decide_eq_false h,decide_eq_false e]
theorem key_lr (a:Int) (b:Str):decide ((Sum.inl a:Key) = Sum.inr b) = false:=decide_eq_false (fun q => nomatch q)
theorem key_rl (a:Str) (b:Int):decide ((Sum.inr a:Key) = Sum.inl b) = false:=decide_eq_false (fun q => nomatch q)
def mixKind (prog:Program) (w:World):PySem.KeyKind prog w Key where
 is:=keyIs
 hash:=keyH w
 inj:=fun v a b ha hb => by
  rcases keyIs_shape ha with ⟨i,t,rfl,rfl⟩ | ⟨x,t,rfl,rfl⟩
  ·rcases keyIs_shape hb with ⟨j,u,rfl,e⟩ | ⟨y,u,rfl,e⟩
   ·injection e with e1 _; rw [e1]
   ·exact nomatch e
  ·rcases keyIs_shape hb with ⟨j,u,rfl,e⟩ | ⟨y,u,rfl,e⟩
   ·exact nomatch e
   ·injection e with e1 _; rw [e1]
 byValue:=fun k v h => by
  rcases keyIs_shape h with ⟨i,t,rfl,rfl⟩ | ⟨x,t,rfl,rfl⟩ <;> rfl
 pyHash:=fun hv h => by
  rcases keyIs_shape hv with ⟨i,t,rfl,rfl⟩ | ⟨x,t,rfl,rfl⟩
  ·exact wpAny_pyHash_int h
  ·exact wpAny_pyHash_str h
 eqBool:=fun hu hv h => by
  rcases keyIs_shape hu with ⟨i,t,rfl,rfl⟩ | ⟨x,t,rfl,rfl⟩
  ·rcases keyIs_shape hv with ⟨j,u,rfl,rfl⟩ | ⟨y,u,rfl,rfl⟩
   ·rw [key_ll] at h; exact wpAny_eqBool_int h
   ·rw [key_lr] at h; exact SeqAt.EqAt.int_str i t y u _ _ _ _ h
  ·rcases keyIs_shape hv with ⟨j,u,rfl,rfl⟩ | ⟨y,u,rfl,rfl⟩
   ·rw [key_rl] at h; exact SeqAt.EqAt.str_int x t j u _ _ _ _ h
   ·rw [key_rr] at h; exact wpAny_eqBool_str h
 «strs»:=fun k x t v h => by
  rcases keyIs_shape h with ⟨i,u,rfl,e⟩ | ⟨y,u,rfl,e⟩
  ·exact nomatch e
  ·injection e with e1 _
   subst e1
   cases v <;> rfl
theorem mixKind_int (prog:Program) (w:World) (i:Int) (t:Tok):(mixKind prog w).is (.inl i) (.int i t) = true:=keyIs_int i t
theorem mixKind_str (prog:Program) (w:World) (x:Str) (t:Tok):(mixKind prog w).is (.inr x) (.str x t) = true:=keyIs_str x t
end L2
namespace L2
open PySem PySem.Spec PyProof.Rows
inductive V where
 | non | bl (b:Bool) | int (i:Int) | str (x:Str) | byt (b:Array UInt8) | flt (b:UInt64) | ref (a:Addr) | ty (n:String)
 deriving DecidableEq
def RelV:V→Value→Prop
 | .non,u => u = Value.none
 | .bl b,u => u = Value.bool b
 | .int i,u => ∃ t,u = Value.int i t
 | .str x,u => ∃ t,u = Value.str x t
 | .byt b,u => ∃ t,u = Value.bytes b t
 | .flt b,u => ∃ t,u = Value.float b t
 | .ref a,u => u = Value.ref a
 | .ty n,u => u = Value.type n
abbrev Vals:List V→List Value→Prop:=Paired RelV
theorem Vals.length {xs:List V} {us:List Value} (r:Vals xs us):xs.length = us.length:=Paired.length r
theorem Vals.get:∀ {xs:List V} {us:List Value} {i:Nat} {x:V},Vals xs us→xs[i]? = some x→∃ u,us[i]? = some u∧RelV x u
 | _,_,_,_,.nil,e => by simp at e
 | _,_,0,_,.cons r _,e => by simp at e; subst e; exact ⟨_,rfl,r⟩
 | _,_,i + 1,x,.cons _ t,e => by
  obtain ⟨u,h1,h2⟩:=Vals.get (i:=i) (x:=x) t (by simpa using e)
  exact ⟨u,by simpa using h1,h2⟩
theorem Vals.append:∀ {xs ys:List V} {us ws:List Value},Vals xs us→Vals ys ws→Vals (xs ++ ys) (us ++ ws)
 | _,_,_,_,.nil,s => s
 | _,_,_,_,.cons r t,s => .cons r (Vals.append t s)
theorem Vals.take:∀ {xs:List V} {us:List Value} (n:Nat),Vals xs us→Vals (xs.take n) (us.take n)
 | _,_,0,_ => .nil
 | _,_,_ + 1,.nil => .nil
 | _,_,n + 1,.cons r t => .cons r (Vals.take n t)
theorem Vals.drop:∀ {xs:List V} {us:List Value} (n:Nat),Vals xs us→Vals (xs.drop n) (us.drop n)
 | _,_,0,r => r
 | _,_,_ + 1,.nil => .nil
 | _,_,n + 1,.cons _ t => Vals.drop n t
def RelO:Option V→Option Value→Prop
 | some v,some u => RelV v u
 | none,none => True
 | _,_ => False
def KV {κ:Type}:List (κ × V)→List (κ × Value)→Prop:=Paired fun (p:κ × V) (q:κ × Value) => p.1 = q.1∧RelV p.2 q.2
def kV:Key→V
 | .inl i => .int i
 | .inr x => .str x
inductive HO where
 | lst (xs:List V)
 | tup (xs:List V)
 | dK (kvs:List (Key × V)) | dT (kvs:List (List Key × V))
 | set (S:Int→Bool) (n:Nat)
 | ins (C dx:Addr) (fs:List (Str × V))
 | own (x:Addr)
 | xd (fs:List (Str × V))
 | met (f x:Addr)
 | rng (lo hi:Int)
 | frz (o:Obj) (u:HO)
 | tbl (ps:Array Value)
 | ext (φ:Heap→Prop)
abbrev Hp:=Addr→Option HO
def upd (H:Hp) (a:Addr) (o:HO):Hp:=fun b => if b = a then some o else H b
theorem upd_same {H:Hp} {a:Addr} {o:HO}:upd H a o a = some o:=by unfold upd; rw [if_pos rfl]
theorem upd_ne {H:Hp} {a b:Addr} {o:HO} (h:b≠a):upd H a o b = H b:=by unfold upd; rw [if_neg h]
theorem ne_of {H:Hp} {a b:Addr} {o u:HO} (h:H a = some o) (h':H b = some u) (d:o≠u):a≠b:=by
 intro e; subst e; rw [h] at h'; exact d (Option.some.inj h')
theorem ne_of_none {H:Hp} {a b:Addr} {o:HO} (h:H a = some o) (h':H b = none):a≠b:=by
 intro e; subst e; rw [h] at h'; cases h'
section
variable (P:Program) (w:World)
def ObjOk (H:Hp) (h:Heap) (a:Addr):HO→Prop
 | .lst xs => xs.length≤sizeLine∧∃ (its:List Value) (n:Nat),Vals xs its∧h.get? a = some { cls:=.type "list",data:=.seq its.toArray n }
 | .tup xs => xs.length≤sizeLine∧∃ its:List Value,Vals xs its∧IsTup h a its.toArray
 | .dK kvs => kvs.length≤sizeLine∧(a == sysModules) = false∧∃ vs,KV kvs vs∧h.DictOf (mixKind P w) a vs
 | .dT kvs => kvs.length≤sizeLine∧(a == sysModules) = false∧∃ xs:List (List Key × Addr × Value),
   Paired (fun (p:List Key × V) (q:List Key × Addr × Value) => p.1 = q.1∧H q.2.1 = some (.tup (p.1.map kV))∧RelV p.2 q.2.2) kvs xs ∧
   ∃ o es ep,h.get? a = some o∧o.ExactDict∧o.data = .dict es ep∧es.toList = xs.map (entryOfKey (tupleKind (mixKind P w)))∧(xs.map (·.1)).Nodup
 | .set S n => h.SetOf (intKind P w) a S n
 | .ins C dx fs => H dx = some (.own a)∧fs.length≤1000∧dx≠a∧h.get? a = some (PySem.W.instObj C dx) ∧
   ∃ mA,h.Ns1 dx mA∧(∀ f,RelO (fs.lookup f) (mA f))∧PySem.Within mA (fs.map (·.1))
 | .own _ => ∃ o,h.get? a = some o
 | .xd fs => ∃ mA,h.Ns1 a mA∧∀ f,RelO (fs.lookup f) (mA f)
 | .rng lo hi => ∃ t u v,h.get? a = some { cls:=.type "range",data:=.fields #[.int lo t,.int hi u,.int 1 v] }
 | .frz o u => h.get? a = some o∧ObjOk H h a u
 | .tbl ps => h.get? a = some { cls:=.none,data:=.fields ps }
 | .met f x => h.get? a = some (PySem.W.methodObj (.ref f) (.ref x))
 | .ext φ => φ h∧(∃ o,h.get? a = some o)∧∀ h1 h2:Heap,φ h1→(∀ o,h1.get? a = some o→h2.get? a = some o)→φ h2
def HOk (H:Hp) (h:Heap):Prop:=∀ a o,H a = some o→ObjOk P w H h a o
end
section
variable {P:Program} {w:World} {H H':Hp} {h h':Heap} {a:Addr} {o:HO}
theorem ObjOk.lt (x:ObjOk P w H h a o):a < h.objs.size:=by
 cases o with
 | lst xs => obtain ⟨_,_,_,_,e⟩:=x; exact Heap.lt_size e
 | tup xs => obtain ⟨_,_,_,p⟩:=x; exact p.lt
 | dK kvs => obtain ⟨_,_,_,_,o,_,_,e,_⟩:=x; exact Heap.lt_size e
 | dT kvs => obtain ⟨_,_,_,_,o,_,_,e,_⟩:=x; exact Heap.lt_size e
 | set S n => obtain ⟨o,_,_,_,e,_⟩:=x; exact Heap.lt_size e
 | ins C dx fs => obtain ⟨_,_,_,e,_⟩:=x; exact Heap.lt_size e
 | own y => obtain ⟨_,e⟩:=x; exact Heap.lt_size e
 | xd fs => obtain ⟨_,⟨_,_,_,e,_⟩,_⟩:=x; exact Heap.lt_size e
 | rng lo hi => obtain ⟨_,_,_,e⟩:=x; exact Heap.lt_size e
 | frz ob u => obtain ⟨e,_⟩:=x; exact Heap.lt_size e
 | tbl ps => exact Heap.lt_size (show h.get? a = some _ from x)
 | met f y => exact Heap.lt_size (show h.get? a = some _ from x)
 | ext φ => obtain ⟨_,⟨_,e⟩,_⟩:=x; exact Heap.lt_size e
theorem Paired.mapP {α β:Type} {F G:α→β→Prop}:∀ {l₁:List α} {l₂:List β},Paired F l₁ l₂→(∀ a b,F a b→G a b)→Paired G l₁ l₂
 | _,_,.nil,_ => .nil
 | _,_,.cons r t,f => .cons (f _ _ r) (Paired.mapP t f)
theorem ObjOk.stay (x:ObjOk P w H h a o) (k:∀ b u,(b = a∨H b = some (.own a))→h.get? b = some u→h'.get? b = some u)
  (ho:∀ b,H b = some (.own a)→H' b = some (.own a)) (ht:∀ b xs,H b = some (.tup xs)→H' b = some (.tup xs)):ObjOk P w H' h' a o:=by
 induction o with
 | lst xs => obtain ⟨z,its,n,r,e⟩:=x; exact ⟨z,its,n,r,k _ _ (.inl rfl) e⟩
 | tup xs => obtain ⟨z,its,r,ob,e,c⟩:=x; exact ⟨z,its,r,ob,k _ _ (.inl rfl) e,c⟩
 | dK kvs => obtain ⟨z,y,vs,r,ob,es,ep,e,c⟩:=x; exact ⟨z,y,vs,r,ob,es,ep,k _ _ (.inl rfl) e,c⟩
 | dT kvs =>
  obtain ⟨z,y,xs,r,ob,es,ep,e,c⟩:=x
  exact ⟨z,y,xs,Paired.mapP r fun p q z => ⟨z.1,ht _ _ z.2.1,z.2.2⟩,ob,es,ep,k _ _ (.inl rfl) e,c⟩
 | set S n => obtain ⟨ob,es,ep,t,e,c⟩:=x; exact ⟨ob,es,ep,t,k _ _ (.inl rfl) e,c⟩
 | ins C dx fs =>
  obtain ⟨d,z,ne,e,mA,⟨od,es,ep,e2,c⟩,r⟩:=x
  exact ⟨ho _ d,z,ne,k _ _ (.inl rfl) e,mA,⟨od,es,ep,k _ _ (.inr d) e2,c⟩,r⟩
 | own y => obtain ⟨ob,e⟩:=x; exact ⟨ob,k _ _ (.inl rfl) e⟩
 | xd fs => obtain ⟨mA,⟨od,es,ep,e,c⟩,r⟩:=x; exact ⟨mA,⟨od,es,ep,k _ _ (.inl rfl) e,c⟩,r⟩
 | rng lo hi => obtain ⟨t,u,v,e⟩:=x; exact ⟨t,u,v,k _ _ (.inl rfl) e⟩
 | frz ob u ih => obtain ⟨e,q⟩:=x; exact ⟨k _ _ (.inl rfl) e,ih q⟩
 | tbl ps =>
  have e:h.get? a = some { cls:=.none,data:=.fields ps }:=x
  show h'.get? a = some { cls:=.none,data:=.fields ps }
  exact k a _ (.inl rfl) e
 | met f y =>
  have e:h.get? a = some (PySem.W.methodObj (.ref f) (.ref y)):=x
  show h'.get? a = some (PySem.W.methodObj (.ref f) (.ref y))
  exact k a _ (.inl rfl) e
 | ext φ => obtain ⟨p,⟨o,e⟩,st⟩:=x; exact ⟨st _ _ p fun o q => k _ _ (.inl rfl) q,⟨o,k _ _ (.inl rfl) e⟩,st⟩
theorem HOk.lt (x:HOk P w H h) (e:H a = some o):a < h.objs.size:=(x a o e).lt
theorem HOk.fresh (x:HOk P w H h) (e:h.objs.size≤a):H a = none:=by
 cases q:H a with
 | none => rfl
 | some u => exact absurd (Nat.lt_of_lt_of_le (x.lt q) e) (Nat.lt_irrefl _)
theorem HOk.kept (x:HOk P w H h) (k:∀ b u,h.get? b = some u→h'.get? b = some u):HOk P w H h':=fun a o e =>
 (x a o e).stay (fun b u _ q => k b u q) (fun _ q => q) fun _ _ q => q
theorem HOk.laid (x:HOk P w H h) (k:∀ b u,h.get? b = some u→h'.get? b = some u) (hp:h.objs.size≤a) (new:ObjOk P w (upd H a o) h' a o):HOk P w (upd H a o) h':=fun b u e => by
 have hn:=x.fresh hp
 by_cases hb:b = a
 ·subst hb; rw [upd_same] at e; cases e; exact new
 ·rw [upd_ne hb] at e
  exact (x b u e).stay (fun c v _ q => k c v q) (fun c q => by rw [upd_ne (ne_of_none q hn)]; exact q) fun c xs q => by rw [upd_ne (ne_of_none q hn)]; exact q
end
def Rd (H:Hp) (a:Addr) (u:HO):Prop:=H a = some u∨∃ o,H a = some (.frz o u)
theorem Rd.ok {P:Program} {w:World} {H:Hp} {h:Heap} {a:Addr} {u:HO} (r:Rd H a u) (x:HOk P w H h):ObjOk P w H h a u:=by
 rcases r with r | ⟨o,r⟩
 ·exact x a u r
 ·obtain ⟨_,q⟩:=x a _ r
  exact q
def Mut:Option HO→Prop
 | some (.lst _) => True
 | some (.dK _) => True
 | some (.dT _) => True
 | some (.set _ _) => True
 | some (.ins _ _ _) => True
 | some (.ext _) => True
 | _ => False
section
variable {P:Program} {w:World} {H:Hp} {h h':Heap} {x e:Addr} {o':HO}
theorem HOk.write (ok:HOk P w H h) (mu:Mut (H x)) (he:e = x∨H e = some (.own x)) (k:∀ b u,b≠e→h.get? b = some u→h'.get? b = some u) (heo:∃ u,h'.get? e = some u)
  (new:ObjOk P w (upd H x o') h' x o'):HOk P w (upd H x o') h':=fun b u q => by
 have nown:∀ c y,H c = some (.own y)→c≠x:=fun c y r z => by subst z; rw [r] at mu; exact mu
 have ntup:∀ c xs,H c = some (.tup xs)→c≠x:=fun c xs r z => by subst z; rw [r] at mu; exact mu
 by_cases hb:b = x
 ·subst hb; rw [upd_same] at q; cases q; exact new
 ·rw [upd_ne hb] at q
  by_cases hbe:b = e
  ·have q':H b = some (.own x):=by
    rcases he with z | z
    ·exact absurd (hbe.trans z) hb
    ·rw [hbe]; exact z
   rw [q] at q'; cases q'
   obtain ⟨v,hv⟩:=heo
   exact ⟨v,by rw [hbe]; exact hv⟩
  ·refine (ok b u q).stay (fun c v hc r => k c v ?_ r) (fun c r => by rw [upd_ne (nown c b r)]; exact r) fun c xs r => by rw [upd_ne (ntup c xs r)]; exact r
   rcases hc with rfl | hc
   ·exact hbe
   ·rintro rfl
    rcases he with z | z
    ·exact nown c b hc z
    ·rw [hc] at z; cases z; exact hb rfl
end
structure Un (fs ex:List Addr) (H H':Hp) (h h':Heap):Prop where
 keep:∀ b o,h.get? b = some o→H b = none→b ∉ fs→b ∉ ex→h'.get? b = some o
 slot:∀ b o,h.get? b = some o→H b = none→b∈fs→b ∉ ex→∃ sl,h'.get? b = some { o with slots:=sl }
 free:∀ b o,h.get? b = some o→H b = none→b ∉ ex→H' b = none
 there:∀ b o,h.get? b = some o→b ∉ ex→∃ o',h'.get? b = some o'
 tups:∀ b xs,H b = some (.tup xs)→H' b = some (.tup xs)
 frzs:∀ b o u,H b = some (.frz o u)→H' b = some (.frz o u)
 tbls:∀ b ps,H b = some (.tbl ps)→∃ more,H' b = some (.tbl (ps ++ more))
section
variable {fs fs' ex ex':List Addr} {H H1 H2:Hp} {h h1 h2 h':Heap} {a x e:Addr} {o:HO}
theorem Un.any (u:Un fs ex H H1 h h1) {b:Addr} {ob:Obj} (q:h.get? b = some ob) (n:H b = none) (hx:b ∉ ex):∃ sl,h1.get? b = some { ob with slots:=sl }:=by
 by_cases hb:b∈fs
 ·exact u.slot b ob q n hb hx
 ·exact ⟨ob.slots,u.keep b ob q n hb hx⟩
theorem Un.kept (k:∀ b u,h.get? b = some u→h'.get? b = some u):Un fs ex H H h h' :=
 ⟨fun b ob q _ _ _ => k b ob q,fun b ob q _ _ _ => ⟨ob.slots,k b ob q⟩,fun _ _ _ n _ => n,fun b ob q _ => ⟨ob,k b ob q⟩,fun _ _ q => q,fun _ _ _ q => q,fun _ ps q => ⟨#[],by rw [q]; simp⟩⟩
theorem Un.refl:Un fs ex H H h h:=Un.kept fun _ _ q => q
theorem Un.laid (k:∀ b u,h.get? b = some u→h'.get? b = some u) (hp:h.objs.size≤a) (hn:H a = none):Un fs ex H (upd H a o) h h' where
 keep:=fun b u q _ _ _ => k b u q
 slot:=fun b u q _ _ _ => ⟨u.slots,k b u q⟩
 free:=fun b u q n _ => by rw [upd_ne (Nat.ne_of_lt (Nat.lt_of_lt_of_le (Heap.lt_size q) hp))]; exact n
 there:=fun b u q _ => ⟨u,k b u q⟩
 tups:=fun b xs q => by rw [upd_ne (ne_of_none q hn)]; exact q
 frzs:=fun b u xs q => by rw [upd_ne (ne_of_none q hn)]; exact q
 tbls:=fun b ps q => ⟨#[],by rw [upd_ne (ne_of_none q hn),q]; simp⟩
theorem Un.write (mu:Mut (H x)) (he:e = x∨H e = some (.own x)) (k:∀ b u,b≠e→h.get? b = some u→h'.get? b = some u) (heo:∃ u,h'.get? e = some u):Un fs ex H (upd H x o) h h':=by
 have hx:∀ b,H b = none→b≠x:=fun b n z => by subst z; rw [n] at mu; exact mu
 have hb:∀ b,H b = none→b≠e:=fun b n z => by
  subst z
  rcases he with r | r
  ·exact hx b n r
  ·rw [n] at r; cases r
 have hm:∀ b u,H b = some u→¬ Mut (some u)→b≠x:=fun b u q nm z => by subst z; rw [q] at mu; exact nm mu
 refine ⟨fun b u q n _ _ => k b u (hb b n) q,fun b u q n _ _ => ⟨u.slots,k b u (hb b n) q⟩,fun b u q n _ => by rw [upd_ne (hx b n)]; exact n,fun b u q _ => ?_,
  fun b xs q => by rw [upd_ne (hm b _ q fun z => z)]; exact q,fun b u xs q => by rw [upd_ne (hm b _ q fun z => z)]; exact q,fun b ps q => ⟨#[],by rw [upd_ne (hm b _ q fun z => z),q]; simp⟩⟩
 by_cases hbe:b = e
 ·subst hbe; exact heo
 ·exact ⟨u,k b u hbe q⟩
end
def trk (h:Heap) (H:Hp):List Addr:=(List.range h.objs.size).filter fun a => (H a).isSome
def hidT (h:Heap) (H:Hp):Heap:=PySem.W.hideAll h (trk h H)
theorem hidT_size (h:Heap) (H:Hp):(hidT h H).objs.size = h.objs.size:=PySem.W.hideAll_size _ _
theorem hidT_get {h:Heap} {H:Hp} {b:Addr} {o:Obj} (e:h.get? b = some o) (n:H b = none):(hidT h H).get? b = some o :=
 PySem.W.hideAll_get _ e fun hm => by
  have q:(H b).isSome = true:=(List.mem_filter.mp hm).2
  rw [n] at q; simp at q
theorem of_hidT {h:Heap} {H:Hp} {b:Addr} {o:Obj} (e:(hidT h H).get? b = some o):h.get? b = some o∧H b = none:=by
 have e':h.get? b = some o:=PySem.W.of_hideAll (trk h H) e
 refine ⟨e',?_⟩
 cases q:H b with
 | none => rfl
 | some x =>
  have hm:b∈trk h H:=List.mem_filter.mpr ⟨List.mem_range.mpr (Heap.lt_size e'),by simp [q]⟩
  have z:(hidT h H).get? b = none:=PySem.W.hideAll_none (trk h H) hm
  rw [z] at e; cases e
end L2
namespace L2
open PySem PySem.Spec PyProof.Rows
structure Mod (K:PySem.W.Frag) (mg:Str→Option Value) (base:Heap):Prop where
 kin:K.In base
 glob:base.Ns mainGlobals mg
 blt:∃ mb,base.Ns builtinsNs mb∧∀ x:Str,x≠"__name__"→mb x = bootBuiltins x
 nolimit:base.NoLimit
structure Cx where
 prog:Program
 w:World
 K:PySem.W.Frag
 mg:Str→Option Value
 base:Heap
 A:Around
 N:List Str
 s₀:Shared
 H₀:Hp
 env:Env
 outer:List Env
 stack:List Env
 ex:List Addr
 fn:Str→Bool
 calm:Bool
 pn:List (Addr × Obj)
 xe:Value→Shared→Prop
def frs (l:List Env):List Addr:=l.filterMap (·.frame)
abbrev Cx.fs (X:Cx):List Addr:=frs X.outer
def Vis (sc:Scope) (x:Str):Prop:=sc.names.lookup x = some .local∨sc.names.lookup x = some .cell∨sc.names.lookup x = some .free
def Loc (sc:Scope) (x:Str):Prop:=sc.names.lookup x = some .local∨sc.names.lookup x = some .cell
def Look (env:Env) (h:Heap) (m:Str→Option Value) (x:Str) (u:Value):Prop :=
 (env.kindOf x = some .local∧m x = some u)∨((env.kindOf x = some .cell∨env.kindOf x = some .free)∧∃ c,env.cells.lookup x = some c∧h.IsCell c (some u))
structure Cx.Ok (X:Cx):Prop where
 mod:Mod X.K X.mg X.base
 kind:X.env.scope.kind = .function
 glob:X.env.globals = mainGlobals
 blt:X.env.builtins = builtinsNs
 above:X.s₀.heap.objs.size≤X.env.locals
 inj:∀ x y c,X.env.cells.lookup x = some c→X.env.cells.lookup y = some c→x = y
 has:∀ x,(X.env.kindOf x = some .cell∨X.env.kindOf x = some .free)→∃ c,X.env.cells.lookup x = some c
 cab:∀ x c,X.fn x = true→X.env.cells.lookup x = some c→X.s₀.heap.objs.size≤c
 hd:X.calm = true→X.A.handled = none
 frames:X.A.frames = some X.stack
 stk:X.stack = X.outer∨(X.stack = X.env :: X.outer∧X.env.frame = some X.env.locals)
 exf:∀ b∈X.ex,b≠X.env.locals∧∀ x c,X.env.cells.lookup x = some c→c≠b
 bs:∀ b o,X.base.get? b = some o→X.s₀.heap.get? b = some o∧X.H₀ b = none
 bsz:X.base.objs.size≤X.s₀.heap.objs.size
 noex:∀ b o,X.base.get? b = some o→b ∉ X.ex
 exfs:∀ b∈X.ex,b ∉ X.fs
 funs:X.s₀.heap.FunFrames X.base X.outer
 frf:∀ b∈X.fs,X.H₀ b = none
inductive CxO (H:Hp):Value→Prop
 | nil:CxO H .none
 | cons {b:Addr} {ob:Obj} {us:Array Value} {u:HO} {c:Value}:H b = some (.frz ob u)→ob.data = .fields us→us[2]? = some c→CxO H c→CxO H (.ref b)
theorem CxO.mono {H H':Hp} {c:Value} (h:CxO H c) (k:∀ b o u,H b = some (.frz o u)→H' b = some (.frz o u)):CxO H' c:=by
 induction h with
 | nil => exact .nil
 | cons q1 q2 q3 _ ih => exact .cons (k _ _ _ q1) q2 q3 ih
theorem CxO.chn {P:Program} {w:World} {H:Hp} {h:Heap} {c:Value} (n:CxO H c) (ok:HOk P w H h):∃ D,Chn h D c∧∀ b∈D,∃ o u,H b = some (.frz o u):=by
 induction n with
 | nil => exact ⟨[],.nil,fun b hb => absurd hb (by simp)⟩
 | @cons b ob us u c q1 q2 q3 _ ih =>
  obtain ⟨D,m,l⟩:=ih
  refine ⟨b :: D,.cons (by simp) (ok b _ q1).1 q2 q3 (m.kept (fun _ _ _ e => e) fun d hd => List.mem_cons_of_mem _ hd),fun d hd => ?_⟩
  rcases List.mem_cons.mp hd with rfl | hd
  ·exact ⟨_,_,q1⟩
  ·exact l d hd
def HdF (A:Around) (H:Hp):Prop:=A.handled = none∨∃ ea:Addr,A.handled = some (.ref ea)∧CxO H (.ref ea)
theorem HdF.mono {A:Around} {H H':Hp} (h:HdF A H) (k:∀ b o u,H b = some (.frz o u)→H' b = some (.frz o u)):HdF A H':=by
 rcases h with z | ⟨ea,h1,h2⟩
 ·exact .inl z
 ·exact .inr ⟨ea,h1,h2.mono k⟩
theorem HdF.now {P:Program} {w:World} {A:Around} {H:Hp} {h:Heap} (n:HdF A H) (ok:HOk P w H h):HdN A h:=by
 rcases n with z | ⟨ea,h1,h2⟩
 ·exact ⟨[],.inl z⟩
 ·obtain ⟨D,m,_⟩:=h2.chn ok
  exact ⟨D,.inr ⟨ea,h1,m⟩⟩
structure Inv (X:Cx) (pins:List (Addr × Obj)) (σ:List (Option V)) (H:Hp) (s:Shared):Prop where
 ok:X.Ok
 os:s.os = X.s₀.os
 bare:AllBare s.gens
 base:Un X.fs X.ex X.H₀ H X.s₀.heap s.heap
 loc:∃ m,s.heap.Ns X.env.locals m∧∀ (i:Nat) (x:Str) (v:V),X.N[i]? = some x→σ[i]? = some (some v)→Vis X.env.scope x→∃ u,RelV v u∧Look X.env s.heap m x u
 cell:∀ x c,X.env.cells.lookup x = some c→∃ v,s.heap.IsCell c v
 free:H X.env.locals = none
 freeC:∀ x c,X.env.cells.lookup x = some c→H c = none
 pin:∀ p∈X.pn ++ pins,s.heap.get? p.1 = some p.2∧H p.1 = none∧p.1≠X.env.locals∧p.1 ∉ X.fs∧∀ v,p.2.data≠.cell v
 hok:HOk X.prog X.w H s.heap
 len:σ.length = X.N.length
 hn:HdF X.A H
section
variable {X:Cx} {pins:List (Addr × Obj)} {σ:List (Option V)} {H H':Hp} {s:Shared} {h':Heap}
theorem Cx.Ok.nofr (ok:X.Ok) {b:Addr} {o:Obj} (e:X.base.get? b = some o):b ∉ X.fs:=fun hb => by
 have:=(ok.funs.mem hb).1
 rw [e] at this; cases this
theorem Inv.bs (I:Inv X pins σ H s):∀ b o,X.base.get? b = some o→s.heap.get? b = some o∧H b = none:=fun b o e =>
 ⟨I.base.keep b o (I.ok.bs b o e).1 (I.ok.bs b o e).2 (I.ok.nofr e) (I.ok.noex b o e),I.base.free b o (I.ok.bs b o e).1 (I.ok.bs b o e).2 (I.ok.noex b o e)⟩
theorem Inv.bk (I:Inv X pins σ H s):∀ b o,X.base.get? b = some o→s.heap.get? b = some o:=fun b o e => (I.bs b o e).1
theorem Inv.mod (I:Inv X pins σ H s):Mod X.K X.mg X.base:=I.ok.mod
theorem Inv.kIn (I:Inv X pins σ H s):X.K.In s.heap:=I.ok.mod.kin.keeps I.bk
theorem Inv.fr (I:Inv X pins σ H s):∃ m,Fr X.base X.env.locals s.heap m :=
 let ⟨m,hn,_⟩:=I.loc
 ⟨m,hn,I.bk,Nat.le_trans I.ok.bsz I.ok.above⟩
theorem Inv.lt (I:Inv X pins σ H s):X.env.locals < s.heap.objs.size:=let ⟨_,hn,_⟩:=I.loc; hn.lt
theorem Inv.sz (I:Inv X pins σ H s):X.s₀.heap.objs.size≤s.heap.objs.size:=Nat.le_trans I.ok.above (Nat.le_of_lt I.lt)
theorem Inv.nofs (I:Inv X pins σ H s) {a:Addr} (h:s.heap.objs.size≤a):a ∉ X.fs:=fun hb => by
 obtain ⟨_,o,ho,_⟩:=I.ok.funs.mem hb
 exact absurd (Nat.lt_of_lt_of_le (Heap.lt_size ho) (Nat.le_trans I.sz h)) (Nat.lt_irrefl _)
theorem Inv.cne (I:Inv X pins σ H s):∀ x c,X.env.cells.lookup x = some c→c≠X.env.locals:=fun x c e z => by
 obtain ⟨v,o,ho,hd⟩:=I.cell x c e
 obtain ⟨m,⟨o',es,ep,ho',hd',_⟩,_⟩:=I.loc
 rw [z,ho'] at ho; cases ho; rw [hd'] at hd; cases hd
theorem Inv.funs (I:Inv X pins σ H s):s.heap.FunFrames X.base X.outer:=by
 have all:∀ (l:List Env),(∀ b∈frs l,b∈X.fs)→X.s₀.heap.FunFrames X.base l→s.heap.FunFrames X.base l:=by
  intro l
  induction l with
  | nil => intro _ _; trivial
  | cons env r ih =>
   intro hs hl
   obtain ⟨hk,⟨L,o,hf,hn,ho,hd⟩,hr⟩:=hl
   have hL:L∈X.fs:=hs L (by unfold frs; rw [List.filterMap_cons,hf]; exact List.mem_cons_self)
   obtain ⟨sl,e⟩:=I.base.slot L o ho (I.ok.frf L hL) hL fun z => I.ok.exfs L z hL
   exact ⟨hk,⟨L,_,hf,hn,e,hd⟩,ih (fun b hb => hs b (by unfold frs; rw [List.filterMap_cons,hf]; exact List.mem_cons_of_mem _ hb)) hr⟩
 exact all X.outer (fun _ hb => hb) I.ok.funs
theorem Inv.stack (I:Inv X pins σ H s):s.heap.FunFrames X.base X.stack:=by
 rcases I.ok.stk with e | ⟨e,hf⟩
 ·rw [e]; exact I.funs
 ·rw [e]
  obtain ⟨m,hn,_⟩:=I.loc
  refine .cons (by rw [I.ok.kind]; decide) hf hn ?_ I.funs
  exact Heap.get?_none_of_le (Nat.le_trans I.ok.bsz I.ok.above)
theorem Inv.stkSub (I:Inv X pins σ H s):∀ b∈frs X.stack,b∈X.env.locals :: X.fs:=fun b hb => by
 rcases I.ok.stk with e | ⟨e,hf⟩
 ·rw [e] at hb; exact List.mem_cons_of_mem _ hb
 ·rw [e] at hb
  unfold frs at hb
  rw [List.filterMap_cons,hf] at hb
  exact hb
theorem Inv.stkFree (I:Inv X pins σ H s):∀ b∈frs X.stack,H b = none:=fun b hb => by
 rcases List.mem_cons.mp (I.stkSub b hb) with e | hb
 ·rw [e]; exact I.free
 ·obtain ⟨_,o,ho,_⟩:=I.ok.funs.mem hb
  exact I.base.free b o ho (I.ok.frf b hb) fun z => I.ok.exfs b z hb
theorem Inv.step {g':Array GenState} {t':Nat} {d':Drawn} {ch:List Addr} (I:Inv X pins σ H s)
  (hch:∀ b∈ch,(b∈X.ex∨X.s₀.heap.objs.size≤b)∧b≠X.env.locals∧(∀ x c,X.env.cells.lookup x = some c→c≠b)∧∀ p∈X.pn ++ pins,p.1≠b)
  (keep:∀ b o,b≠X.env.locals→b ∉ X.fs→b ∉ ch→s.heap.get? b = some o→H b = none→h'.get? b = some o)
  (slot:∀ b o,b≠X.env.locals→b∈X.fs→b ∉ ch→s.heap.get? b = some o→H b = none→∃ sl,h'.get? b = some { o with slots:=sl }) (free:∀ b o,b ∉ ch→s.heap.get? b = some o→H b = none→H' b = none)
  (there:∀ b o,b ∉ ch→s.heap.get? b = some o→∃ o',h'.get? b = some o')
  (tups:∀ b xs,H b = some (.tup xs)→H' b = some (.tup xs)) (frzs:∀ b o u,H b = some (.frz o u)→H' b = some (.frz o u)) (tbls:∀ b ps,H b = some (.tbl ps)→∃ more,H' b = some (.tbl (ps ++ more)))
  (ns:∀ m,s.heap.Ns X.env.locals m→h'.Ns X.env.locals m) (hok:HOk X.prog X.w H' h') (hg:AllBare g') :
  Inv X pins σ H' { s with heap:=h',gens:=g',drawn:=d',toks:=t' }:=by
 have neL:∀ b o,X.s₀.heap.get? b = some o→b≠X.env.locals:=fun b o e => Nat.ne_of_lt (Nat.lt_of_lt_of_le (Heap.lt_size e) I.ok.above)
 have neC:∀ b o,X.s₀.heap.get? b = some o→b ∉ X.ex→b ∉ ch:=fun b o e hx hb => by
  rcases (hch b hb).1 with z | z
  ·exact hx z
  ·exact absurd (Nat.lt_of_lt_of_le (Heap.lt_size e) z) (Nat.lt_irrefl _)
 have cellK:∀ x c,X.env.cells.lookup x = some c→∀ v,s.heap.IsCell c v→h'.IsCell c v:=fun x c e v ⟨o,ho,hd⟩ => by
  have nch:c ∉ ch:=fun z => (hch c z).2.2.1 x c e rfl
  by_cases hc:c∈X.fs
  ·obtain ⟨sl,q⟩:=slot c o (I.cne x c e) hc nch ho (I.freeC x c e)
   exact ⟨_,q,hd⟩
  ·exact ⟨o,keep c o (I.cne x c e) hc nch ho (I.freeC x c e),hd⟩
 refine ⟨I.ok,I.os,hg,⟨fun b o e n hb hx => ?_,fun b o e n hb hx => ?_,fun b o e n hx => ?_,fun b o e hx => ?_,fun b xs e => tups b xs (I.base.tups b xs e),fun b o xs e => frzs b o xs (I.base.frzs b o xs e),fun b ps e => ?_⟩,?_,fun x c e => ?_,?_,fun x c e => ?_,fun p hp => ?_,hok,I.len,I.hn.mono frzs⟩
 ·exact keep b o (neL b o e) hb (neC b o e hx) (I.base.keep b o e n hb hx) (I.base.free b o e n hx)
 ·obtain ⟨sl,e1⟩:=I.base.slot b o e n hb hx
  obtain ⟨sl',e2⟩:=slot b _ (neL b o e) hb (neC b o e hx) e1 (I.base.free b o e n hx)
  exact ⟨sl',e2⟩
 ·obtain ⟨o',e1⟩:=I.base.there b o e hx
  exact free b o' (neC b o e hx) e1 (I.base.free b o e n hx)
 ·obtain ⟨o',e1⟩:=I.base.there b o e hx
  exact there b o' (neC b o e hx) e1
 ·obtain ⟨m1,e1⟩:=I.base.tbls b ps e
  obtain ⟨m2,e2⟩:=tbls b _ e1
  exact ⟨m1 ++ m2,by rw [e2,Array.append_assoc]⟩
 ·obtain ⟨m,hn,hl⟩:=I.loc
  refine ⟨m,ns m hn,fun i x v e1 e2 e3 => ?_⟩
  obtain ⟨u,r,l⟩:=hl i x v e1 e2 e3
  refine ⟨u,r,?_⟩
  rcases l with l | ⟨k,c,e,z⟩
  ·exact .inl l
  ·exact .inr ⟨k,c,e,cellK x c e _ z⟩
 ·obtain ⟨v,z⟩:=I.cell x c e
  exact ⟨v,cellK x c e v z⟩
 ·obtain ⟨m,⟨o,_,_,ho,_⟩,_⟩:=I.loc
  exact free _ o (fun z => (hch _ z).2.1 rfl) ho I.free
 ·obtain ⟨v,o,ho,hd⟩:=I.cell x c e
  exact free c o (fun z => (hch c z).2.2.1 x c e rfl) ho (I.freeC x c e)
 ·obtain ⟨e,n,ne,nf,d⟩:=I.pin p hp
  have nch:p.1 ∉ ch:=fun z => (hch p.1 z).2.2.2 p hp rfl
  exact ⟨keep p.1 p.2 ne nf nch e n,free p.1 p.2 nch e n,ne,nf,d⟩
theorem Inv.un {t':Nat} (I:Inv X pins σ H s) (u:Un X.fs [] H H' s.heap h') (hok:HOk X.prog X.w H' h'):Inv X pins σ H' { s with heap:=h',toks:=t' }:=by
 obtain ⟨m,⟨o,es,ep,ho,r⟩,_⟩:=id I.loc
 obtain ⟨sl,hL⟩:=u.any ho I.free (by simp)
 exact I.step (g':=s.gens) (d':=s.drawn) (ch:=[]) (fun _ z => nomatch z) (fun b o _ hb _ e n => u.keep b o e n hb (by simp)) (fun b o _ hb _ e n => u.slot b o e n hb (by simp)) (fun b o _ e n => u.free b o e n (by simp)) (fun b o _ e => u.there b o e (by simp)) u.tups u.frzs u.tbls (fun m' hm => by
  obtain ⟨o',es',ep',ho',r'⟩:=hm
  rw [ho] at ho'; cases ho'
  exact ⟨_,es',ep',hL,r'⟩) hok I.bare
theorem Inv.call {g':Array GenState} {t':Nat} {d':Drawn} {ch:List Addr} (I:Inv X pins σ H s) (u:Un (frs X.stack) ch H H' s.heap h') (hok:HOk X.prog X.w H' h') (hg:AllBare g')
  (hch:∀ b∈ch,(b∈X.ex∨X.s₀.heap.objs.size≤b)∧b≠X.env.locals∧(∀ x c,X.env.cells.lookup x = some c→c≠b)∧∀ p∈X.pn ++ pins,p.1≠b) :
  Inv X pins σ H' { s with heap:=h',gens:=g',drawn:=d',toks:=t' }:=by
 obtain ⟨m,⟨o,es,ep,ho,r⟩,_⟩:=id I.loc
 obtain ⟨sl,hL⟩:=u.any ho I.free fun z => (hch _ z).2.1 rfl
 exact I.step (ch:=ch) hch (fun b o hL hb hc e n => u.keep b o e n (fun z => (List.mem_cons.mp (I.stkSub b z)).elim hL hb) hc) (fun b o _ _ hc e n => u.any e n hc) (fun b o hc e n => u.free b o e n hc) (fun b o hc e => u.there b o e hc) u.tups u.frzs u.tbls (fun m' hm => by
  obtain ⟨o',es',ep',ho',r'⟩:=hm
  rw [ho] at ho'; cases ho'
  exact ⟨_,es',ep',hL,r'⟩) hok hg
theorem Inv.turned {t':Nat} {it:Addr} (I:Inv X pins σ H s) (k:∀ b o,b≠it→s.heap.get? b = some o→h'.get? b = some o) (hn:H it = none) (hL:it≠X.env.locals)
  (h1:it∈X.ex∨X.s₀.heap.objs.size≤it) (h2:∀ x c,X.env.cells.lookup x = some c→c≠it) (h3:∀ p∈X.pn ++ pins,p.1≠it):Inv X pins σ H { s with heap:=h',toks:=t' }:=by
 have nit:∀ b u,H b = some u→b≠it:=fun b u e z => by rw [z,hn] at e; cases e
 refine I.step (g':=s.gens) (d':=s.drawn) (ch:=[it]) (fun b hb => ?_) (fun b o _ _ hc e _ => k b o (fun z => hc (by simp [z])) e) (fun b o _ _ hc e _ => ⟨o.slots,k b o (fun z => hc (by simp [z])) e⟩) (fun _ _ _ _ n => n)
  (fun b o hc e => ⟨o,k b o (fun z => hc (by simp [z])) e⟩) (fun _ _ e => e) (fun _ _ _ e => e) (fun b ps e => ⟨#[],by rw [e]; simp⟩) (fun m hm => ?_) (fun b u e => ?_) I.bare
 ·have e:b = it:=by simpa using hb
  subst e
  exact ⟨h1,hL,h2,h3⟩
 ·obtain ⟨o,es,ep,ho,r⟩:=hm
  exact ⟨o,es,ep,k _ o (Ne.symm hL) ho,r⟩
 ·refine (I.hok b u e).stay (fun c v hc q => k c v ?_ q) (fun _ q => q) fun _ _ q => q
  rcases hc with z | z
  ·rw [z]; exact nit b u e
  ·exact nit c _ z
theorem Inv.tok (I:Inv X pins σ H s) (t:Nat):Inv X pins σ H { s with toks:=t }:=I.un (h':=s.heap) (t':=t) Un.refl I.hok
theorem Inv.kept {t':Nat} (I:Inv X pins σ H s) (k:∀ b u,s.heap.get? b = some u→h'.get? b = some u):Inv X pins σ H { s with heap:=h',toks:=t' }:=I.un (Un.kept k) (I.hok.kept k)
theorem Inv.laid {a:Addr} {o:HO} {t':Nat} (I:Inv X pins σ H s) (k:∀ b u,s.heap.get? b = some u→h'.get? b = some u) (hp:s.heap.objs.size≤a) (new:ObjOk X.prog X.w (upd H a o) h' a o) :
  Inv X pins σ (upd H a o) { s with heap:=h',toks:=t' }:=I.un (Un.laid k hp (I.hok.fresh hp)) (I.hok.laid k hp new)
theorem Inv.write {x e:Addr} {o:HO} {t':Nat} (I:Inv X pins σ H s) (mu:Mut (H x)) (he:e = x∨H e = some (.own x)) (k:∀ b u,b≠e→s.heap.get? b = some u→h'.get? b = some u) (heo:∃ u,h'.get? e = some u)
  (new:ObjOk X.prog X.w (upd H x o) h' x o):Inv X pins σ (upd H x o) { s with heap:=h',toks:=t' }:=I.un (Un.write mu he k heo) (I.hok.write mu he k heo new)
theorem Inv.weak {σ':List (Option V)} (I:Inv X pins σ H s) (hl:σ'.length = σ.length) (w:∀ (i:Nat) v,σ'[i]? = some (some v)→σ[i]? = some (some v)):Inv X pins σ' H s :=
 ⟨I.ok,I.os,I.bare,I.base,let ⟨m,hn,hl'⟩:=I.loc; ⟨m,hn,fun i x v e1 e2 e3 => hl' i x v e1 (w i v e2) e3⟩,I.cell,I.free,I.freeC,I.pin,I.hok,hl.trans I.len,I.hn⟩
theorem Inv.pins_of {pins':List (Addr × Obj)} (I:Inv X pins σ H s) (h:∀ p∈pins',s.heap.get? p.1 = some p.2∧H p.1 = none∧p.1≠X.env.locals∧p.1 ∉ X.fs∧∀ v,p.2.data≠.cell v):Inv X pins' σ H s :=
 ⟨I.ok,I.os,I.bare,I.base,I.loc,I.cell,I.free,I.freeC,fun p hp => (List.mem_append.mp hp).elim (fun z => I.pin p (List.mem_append_left _ z)) (h p),I.hok,I.len,I.hn⟩
theorem nodup_ix {N:List Str} (hN:N.Nodup) {i j:Nat} {x:Str} (a:N[i]? = some x) (b:N[j]? = some x):i = j:=by
 obtain ⟨h1,e1⟩:=List.getElem?_eq_some_iff.mp a
 obtain ⟨h2,e2⟩:=List.getElem?_eq_some_iff.mp b
 exact (List.getElem_inj hN).mp (e1.trans e2.symm)
theorem store_ok2 {M:Model} {A:Around} {E:Value→Shared→Prop} {i:Nat} {x:Str} {v:V} {u:Value} {Q:Unit→Shared→Prop} (I:Inv X pins σ H s) (hN:X.N.Nodup) (hi:X.N[i]? = some x) (hx:Loc X.env.scope x) (r:RelV v u)
  (h:∀ s',Inv X pins (σ.set i (some v)) H s'→(∃ a,Heap.SameBut a s.heap s'.heap∧(a = X.env.locals∨X.env.cells.lookup x = some a))→Q () s') (hf:X.fn x = true∨X.env.scope.names.lookup x = some .local:=by first | exact .inl rfl | exact .inr rfl | assumption):wpAny M A (storeName X.env x u) Q E s:=by
 obtain ⟨m,hn,hl⟩:=id I.loc
 have hcls:(X.env.scope.kind == .class || (X.env.scope.kind == .module && X.env.locals != X.env.globals)) = false:=by rw [I.ok.kind]; rfl
 have hiσ:i < σ.length:=by rw [I.len]; exact (List.getElem?_eq_some_iff.mp hi).1
 have cne:=I.cne
 have tracked:∀ {a:Addr} {h':Heap},(∃ o,s.heap.get? a = some o∧H a = none)→Heap.SameBut a s.heap h'→HOk X.prog X.w H h':=fun {a h'} ha hs b ob e => by
  obtain ⟨_,_,hfree⟩:=ha
  refine (I.hok b ob e).stay (fun c w' hc q => (hs.2 c ?_).trans q) (fun _ q => q) fun _ _ q => q
  rintro rfl
  rcases hc with rfl | hc
  ·rw [hfree] at e; cases e
  ·rw [hfree] at hc; cases hc
 rcases hx with hk | hk
 ·refine wpAny_storeName_local hk hn (fun h' hn' hs => ?_) hcls
  obtain ⟨oL,_,_,hoL,_⟩:=id hn
  refine h _ ⟨I.ok,I.os,I.bare,⟨fun b o e n hb hx => ?_,fun b o e n hb hx => ?_,I.base.free,fun b o e hx => ?_,I.base.tups,I.base.frzs,I.base.tbls⟩,⟨_,hn',fun j y v' e1 e2 e3 => ?_⟩,fun y c e => ?_,I.free,I.freeC,fun p hp => ?_,tracked ⟨oL,hoL,I.free⟩ hs,by simpa using I.len,I.hn⟩ ⟨_,hs,.inl rfl⟩
  ·exact (hs.2 b (Nat.ne_of_lt (Nat.lt_of_lt_of_le (Heap.lt_size e) I.ok.above))).trans (I.base.keep b o e n hb hx)
  ·obtain ⟨sl,e1⟩:=I.base.slot b o e n hb hx
   exact ⟨sl,(hs.2 b (Nat.ne_of_lt (Nat.lt_of_lt_of_le (Heap.lt_size e) I.ok.above))).trans e1⟩
  ·obtain ⟨o',e1⟩:=I.base.there b o e hx
   exact ⟨o',(hs.2 b (Nat.ne_of_lt (Nat.lt_of_lt_of_le (Heap.lt_size e) I.ok.above))).trans e1⟩
  ·by_cases hj:j = i
   ·subst hj
    rw [hi] at e1; cases e1
    rw [List.getElem?_set_self hiσ] at e2
    cases e2
    exact ⟨u,r,.inl ⟨hk,by simp⟩⟩
   ·rw [List.getElem?_set_ne (Ne.symm hj)] at e2
    obtain ⟨u',r',q⟩:=hl j y v' e1 e2 e3
    refine ⟨u',r',?_⟩
    rcases q with ⟨k,e⟩ | ⟨k,c,e,z⟩
    ·refine .inl ⟨k,?_⟩
     have:y≠x:=fun e => hj (nodup_ix hN e1 (e▸hi))
     simp [this,e]
    ·exact .inr ⟨k,c,e,z.sameBut hs (cne y c e)⟩
  ·obtain ⟨w',z⟩:=I.cell y c e
   exact ⟨w',z.sameBut hs (cne y c e)⟩
  ·obtain ⟨e,n,ne,nf,d⟩:=I.pin p hp
   exact ⟨(hs.2 p.1 ne).trans e,n,ne,nf,d⟩
 ·have hfn:X.fn x = true:=by
   rcases hf with z | z
   ·exact z
   ·rw [z] at hk; cases hk
  obtain ⟨c,hc⟩:=I.ok.has x (.inl hk)
  obtain ⟨w',z⟩:=I.cell x c hc
  refine wpAny_storeName_cell I.ok.kind hk hc z (fun h' hc' hs => ?_)
  obtain ⟨oc,hoc,hocd⟩:=id z
  refine h { s with heap:=h' } ⟨I.ok,I.os,I.bare,⟨fun b o e n hb hx => ?_,fun b o e n hb hx => ?_,I.base.free,fun b o e hx => ?_,I.base.tups,I.base.frzs,I.base.tbls⟩,⟨m,hn.sameBut hs (Ne.symm (cne x c hc)),fun j y v' e1 e2 e3 => ?_⟩,fun y c' e => ?_,I.free,I.freeC,fun p hp => ?_,tracked ⟨oc,hoc,I.freeC x c hc⟩ hs,by simpa using I.len,I.hn⟩ ⟨c,hs,.inr hc⟩
  ·exact (hs.2 b (Nat.ne_of_lt (Nat.lt_of_lt_of_le (Heap.lt_size e) (I.ok.cab x c hfn hc)))).trans (I.base.keep b o e n hb hx)
  ·obtain ⟨sl,e1⟩:=I.base.slot b o e n hb hx
   exact ⟨sl,(hs.2 b (Nat.ne_of_lt (Nat.lt_of_lt_of_le (Heap.lt_size e) (I.ok.cab x c hfn hc)))).trans e1⟩
  ·obtain ⟨o',e1⟩:=I.base.there b o e hx
   exact ⟨o',(hs.2 b (Nat.ne_of_lt (Nat.lt_of_lt_of_le (Heap.lt_size e) (I.ok.cab x c hfn hc)))).trans e1⟩
  ·by_cases hj:j = i
   ·subst hj
    rw [hi] at e1; cases e1
    rw [List.getElem?_set_self hiσ] at e2
    cases e2
    exact ⟨u,r,.inr ⟨.inl hk,c,hc,hc'⟩⟩
   ·rw [List.getElem?_set_ne (Ne.symm hj)] at e2
    obtain ⟨u',r',q⟩:=hl j y v' e1 e2 e3
    refine ⟨u',r',?_⟩
    rcases q with q | ⟨k,c',e,z'⟩
    ·exact .inl q
    ·refine .inr ⟨k,c',e,z'.sameBut hs ?_⟩
     rintro rfl
     exact hj (nodup_ix hN e1 (I.ok.inj _ _ _ e hc▸hi))
  ·by_cases hcc:c' = c
   ·subst hcc; exact ⟨_,hc'⟩
   ·obtain ⟨w2,z2⟩:=I.cell y c' e
    exact ⟨w2,z2.sameBut hs hcc⟩
  ·obtain ⟨e,n,ne,nf,d⟩:=I.pin p hp
   refine ⟨(hs.2 p.1 ?_).trans e,n,ne,nf,d⟩
   intro q
   rw [q,hoc] at e
   have q':oc = p.2:=Option.some.inj e
   exact d w' (by rw [← q']; exact hocd)
theorem store_ok {M:Model} {A:Around} {E:Value→Shared→Prop} {i:Nat} {x:Str} {v:V} {u:Value} {Q:Unit→Shared→Prop} (I:Inv X pins σ H s) (hN:X.N.Nodup) (hi:X.N[i]? = some x) (hx:Loc X.env.scope x) (r:RelV v u)
  (h:∀ s',Inv X pins (σ.set i (some v)) H s'→Q () s') (hf:X.fn x = true∨X.env.scope.names.lookup x = some .local:=by first | exact .inl rfl | exact .inr rfl | assumption):wpAny M A (storeName X.env x u) Q E s :=
 store_ok2 I hN hi hx r (fun s' I' _ => h s' I') hf
theorem Inv.call' {s':Shared} {ch:List Addr} (I:Inv X pins σ H s) (ho:s'.os = s.os) (u:Un (frs X.stack) ch H H' s.heap s'.heap) (hok:HOk X.prog X.w H' s'.heap) (hg:AllBare s'.gens)
  (hch:∀ b∈ch,(b∈X.ex∨X.s₀.heap.objs.size≤b)∧b≠X.env.locals∧(∀ x c,X.env.cells.lookup x = some c→c≠b)∧∀ p∈X.pn ++ pins,p.1≠b):Inv X pins σ H' s':=by
 obtain ⟨h',g',d',t',o'⟩:=s'
 have e:o' = s.os:=ho
 subst e
 exact I.call (g':=g') (t':=t') (d':=d') u hok hg hch
end
abbrev XK:=Value→Option Addr→Hp→Prop
abbrev St:=List (Option V)
abbrev VK:=V→Hp→Prop
abbrev TE:=St→Hp→VK→Prop
abbrev TT:=St→Hp→(Bool→Hp→Prop)→Prop
abbrev TA:=St→Hp→(List V→Hp→Prop)→Prop
structure Ends where
 nx:St→Hp→Prop
 rt:VK
 bk:St→Hp→Prop:=fun _ _ => False
 ct:St→Hp→Prop:=fun _ _ => False
abbrev TS:=Ends→St→Hp→Prop
def EP (X:Cx) (pins:List (Addr × Obj)) (σ:St) (Q:VK) (u:Value) (s':Shared):Prop:=∃ v H',Inv X pins σ H' s'∧RelV v u∧Q v H'
def TP (X:Cx) (pins:List (Addr × Obj)) (σ:St) (Q:Bool→Hp→Prop) (b:Bool) (s':Shared):Prop:=∃ H',Inv X pins σ H' s'∧Q b H'
def AP (X:Cx) (pins:List (Addr × Obj)) (σ:St) (Q:List V→Hp→Prop) (us:List Value) (s':Shared):Prop:=∃ vs H',Inv X pins σ H' s'∧Vals vs us∧Q vs H'
def SP (X:Cx) (pins:List (Addr × Obj)) (D:Ends) (f:Flow) (s':Shared):Prop :=
 match f with
 | .next => ∃ σ' H',Inv X pins σ' H' s'∧D.nx σ' H'
 | .brk => ∃ σ' H',Inv X pins σ' H' s'∧D.bk σ' H'
 | .cont => ∃ σ' H',Inv X pins σ' H' s'∧D.ct σ' H'
 | .ret u => ∃ v σ' H',Inv X pins σ' H' s'∧RelV v u∧D.rt v H'
def PE (X:Cx) (e:Expr) (t:TE):Prop :=
 ∀ (pins:List (Addr × Obj)) (s:Shared) (σ:St) (H:Hp) (Q:VK),Inv X pins σ H s→t σ H Q→wpAny (model X.prog X.w) X.A (eval e X.env) (EP X pins σ Q) X.xe s
def PT (X:Cx) (e:Expr) (t:TT):Prop :=
 ∀ (pins:List (Addr × Obj)) (s:Shared) (σ:St) (H:Hp) (Q:Bool→Hp→Prop),Inv X pins σ H s→t σ H Q→wpAny (model X.prog X.w) X.A (isTrue e X.env (eval e X.env)) (TP X pins σ Q) X.xe s
def PW (X:Cx) (e:Expr) (t:TT):Prop :=
 ∀ (whole:Sem Value) (pins:List (Addr × Obj)) (s:Shared) (σ:St) (H:Hp) (Q:Bool→Hp→Prop),Inv X pins σ H s→t σ H Q→wpAny (model X.prog X.w) X.A (isTrue e X.env whole) (TP X pins σ Q) X.xe s
theorem PW.pt {X:Cx} {e:Expr} {t:TT} (h:PW X e t):PT X e t:=h _
def PA (X:Cx) (es:List Expr) (t:TA):Prop :=
 ∀ (pos:Pos) (pins:List (Addr × Obj)) (s:Shared) (σ:St) (H:Hp) (Q:List V→Hp→Prop),Inv X pins σ H s→t σ H Q→wpAny (model X.prog X.w) X.A (spliced (backTo pos (starEach es X.env))) (AP X pins σ Q) X.xe s
def PS (X:Cx) (st:Stmt) (t:TS):Prop :=
 ∀ (pins:List (Addr × Obj)) (s:Shared) (σ:St) (H:Hp) (D:Ends),Inv X pins σ H s→t D σ H→wpAny (model X.prog X.w) X.A (exec st X.env) (SP X pins D) X.xe s
def PSs (X:Cx) (st:List Stmt) (t:TS):Prop :=
 ∀ (pins:List (Addr × Obj)) (s:Shared) (σ:St) (H:Hp) (D:Ends),Inv X pins σ H s→t D σ H→wpAny (model X.prog X.w) X.A (execs st X.env) (SP X pins D) X.xe s
theorem thn {α:Type} {t:Sem α} {Q Q':α→Shared→Prop} {M:Model} {A:Around} {E:Value→Shared→Prop} {s:Shared} (h:wpAny M A t Q E s) (hQ:∀ a s,Q a s→Q' a s):wpAny M A t Q' E s:=wpAny_mono h hQ fun _ _ x => x
end L2
namespace L2
open PySem PySem.Spec PyProof.Rows
section
variable {X:Cx}
theorem bin {a b:Expr} {ta tb:TE} (ha:PE X a ta) (hb:PE X b tb) {pins:List (Addr × Obj)} {s:Shared} {σ:St} {H:Hp} {R:V→V→Hp→Prop} (I:Inv X pins σ H s) (h:ta σ H fun x H1 => tb σ H1 fun y H2 => R x y H2)
  {α:Type} {Q:α→Shared→Prop} {f:Value→Value→Sem α}
  (hf:∀ v u s2 x y H2,Inv X pins σ H2 s2→RelV x v→RelV y u→R x y H2→wpAny (model X.prog X.w) X.A (f v u) Q X.xe s2) :
  wpAny (model X.prog X.w) X.A (eval a X.env) (fun v s₁ => wpAny (model X.prog X.w) X.A (eval b X.env) (fun u s₂ => wpAny (model X.prog X.w) X.A (f v u) Q X.xe s₂) X.xe s₁) X.xe s:=by
 refine thn (ha pins s σ H _ I h) fun v s1 ⟨x,H1,I1,r1,q1⟩ => ?_
 refine thn (hb pins s1 σ H1 _ I1 q1) fun u s2 ⟨y,H2,I2,r2,q2⟩ => ?_
 exact hf v u s2 x y H2 I2 r1 r2 q2
def tVar (i:Nat):TE:=fun σ H Q => ∃ v,σ[i]? = some (some v)∧Q v H
def tC (v:V):TE:=fun _ H Q => Q v H
theorem pe_var {i:Nat} {x:Str} {pos:Pos} (hN:X.N[i]? = some x) (hv:Vis X.env.scope x) (hd:(x == ("__debug__":Str)) = false:=by decide) (hcd:(x == ("__classdict__":Str)) = false:=by decide):PE X (.Name x pos) (tVar i):=by
 intro pins s σ H Q I h
 obtain ⟨v,e,h⟩:=h
 obtain ⟨m,hn,hl⟩:=I.loc
 obtain ⟨u,r,l⟩:=hl i x v hN e hv
 have fin:EP X pins σ Q u s:=⟨v,H,I,r,h⟩
 rcases l with ⟨hk,hm⟩ | ⟨hk,c,hc,hcell⟩
 ·exact wpAny_Name (wpAny_loadName_local I.ok.kind hk hn hm fin) hd
 ·rcases hk with hk | hk
  ·exact wpAny_Name (wpAny_loadName_cell I.ok.kind hk hc hcell fin) hd
  ·exact wpAny_Name (wpAny_loadName_free I.ok.kind hk hc hcell fin hcd) hd
theorem pe_int {i j pos}:PE X (.Constant (.int i) j pos) (tC (.int i)):=fun _ _ _ H _ I h => wpAny_Constant_int ⟨.int i,H,I.tok _,⟨_,rfl⟩,h⟩
theorem pe_bl {b j pos}:PE X (.Constant (.bool b) j pos) (tC (.bl b)):=fun _ _ _ H _ I h => Constant_bool ⟨.bl b,H,I,rfl,h⟩
theorem pe_non {j pos}:PE X (.Constant .none j pos) (tC .non):=fun _ _ _ H _ I h => Constant_none ⟨.non,H,I,rfl,h⟩
theorem pe_str {x j pos}:PE X (.Constant (.str x) j pos) (tC (.str x)):=fun _ _ _ H _ I h => Calls.Constant_str ⟨.str x,H,I.tok _,⟨_,rfl⟩,h⟩
def Gl (X:Cx) (x:Str):Prop:=X.env.kindOf x = some .globalImplicit
theorem ld_glob {E:Value→Shared→Prop} {pins:List (Addr × Obj)} {s:Shared} {σ:St} {H:Hp} {x:Str} {u:Value} {pos:Pos} {Q:Value→Shared→Prop} (I:Inv X pins σ H s) (hg:Gl X x) (hm:X.mg x = some u) (h:Q u s)
  (hd:(x == ("__debug__":Str)) = false:=by decide):wpAny (model X.prog X.w) X.A (eval (.Name x pos) X.env) Q E s :=
 Calls.Name_function_global I.ok.kind hg (Calls.loadGlobal_global (by rw [I.ok.glob]; exact I.mod.glob.keeps I.bk) hm h) hd
theorem ld_blt {E:Value→Shared→Prop} {pins:List (Addr × Obj)} {s:Shared} {σ:St} {H:Hp} {x:Str} {u:Value} {pos:Pos} {Q:Value→Shared→Prop} (I:Inv X pins σ H s) (hg:Gl X x) (hm:X.mg x = none) (hv:bootBuiltins x = some u) (h:Q u s)
  (hn:x≠"__name__":=by decide) (hd:(x == ("__debug__":Str)) = false:=by decide):wpAny (model X.prog X.w) X.A (eval (.Name x pos) X.env) Q E s:=by
 obtain ⟨mb,h1,h2⟩:=I.mod.blt
 exact Calls.Name_function_global I.ok.kind hg (Calls.loadGlobal_builtin (by rw [I.ok.glob]; exact I.mod.glob.keeps I.bk) hm (by rw [I.ok.blt]; exact h1.keeps I.bk) ((h2 x hn).trans hv) h) hd
theorem pe_glob {x:Str} {v:V} {u:Value} {pos:Pos} (hg:Gl X x) (hm:X.mg x = some u) (r:RelV v u) (hd:(x == ("__debug__":Str)) = false:=by decide):PE X (.Name x pos) (tC v) :=
 fun _ _ _ H _ I h => ld_glob I hg hm ⟨v,H,I,r,h⟩ hd
theorem pe_bltn {x:Str} {v:V} {u:Value} {pos:Pos} (hg:Gl X x) (hm:X.mg x = none) (hv:bootBuiltins x = some u) (r:RelV v u) (hn:x≠"__name__":=by decide) (hd:(x == ("__debug__":Str)) = false:=by decide):PE X (.Name x pos) (tC v) :=
 fun _ _ _ H _ I h => ld_blt I hg hm hv ⟨v,H,I,r,h⟩ hn hd
variable {a b:Expr} {ta tb:TE} {pos:Pos}
def PC (X:Cx) (op:CmpOp) (a b:Expr) (t:TE):Prop :=
 ∀ (pins:List (Addr × Obj)) (s:Shared) (σ:St) (H:Hp) (Q:VK),Inv X pins σ H s→t σ H Q →
  wpAny (model X.prog X.w) X.A (eval a X.env) (fun v s₁ => wpAny (model X.prog X.w) X.A (eval b X.env) (fun u s₂ => wpAny (model X.prog X.w) X.A (compareOp op v u) (EP X pins σ Q) X.xe s₂) X.xe s₁) X.xe s
theorem nobehind (b:Expr) {op:CmpOp} (h:op≠.In) (h2:op≠.NotIn):behindInMarks op b = false:=by
 have e1:(op == CmpOp.In) = false:=by cases op <;> first | rfl | exact absurd rfl h
 have e2:(op == CmpOp.NotIn) = false:=by cases op <;> first | rfl | exact absurd rfl h2
 cases b <;> simp [behindInMarks,e1,e2]
def tIsN (ta:TE):TE:=fun σ H Q => ta σ H fun x H1 => Q (.bl (decide (x = .non))) H1
theorem RelV.none_iff {x:V} {v:Value} (r:RelV x v):(v == Value.none) = decide (x = .non):=by
 cases x with
 | non => cases r; rfl
 | bl _ => cases r; rfl
 | int _ => obtain ⟨t,rfl⟩:=r; rfl
 | str _ => obtain ⟨t,rfl⟩:=r; rfl
 | byt _ => obtain ⟨t,rfl⟩:=r; rfl
 | flt _ => obtain ⟨t,rfl⟩:=r; rfl
 | ref _ => cases r; rfl
 | ty _ => cases r; rfl
theorem pc_isN {j pos'} (ha:PE X a ta):PC X .Is a (.Constant .none j pos') (tIsN ta):=by
 intro pins s σ H Q I h
 refine thn (ha pins s σ H _ I h) fun v s1 ⟨x,H1,I1,r1,q1⟩ => ?_
 exact Constant_none (is_none_gen ⟨.bl _,H1,I1,by rw [r1.none_iff]; rfl,q1⟩)
def tB (t:TE):TT:=fun σ H Q => t σ H fun x H1 => ∃ c,x = .bl c∧Q c H1
theorem pe_cmp {op:CmpOp} {t:TE} (h:PC X op a b t) (h1:behindInMarks op b = false:=by first | exact nobehind _ (by decide) (by decide) | rfl):PE X (.Compare a [op] [b] pos) t:=fun pins s σ H Q I hw => wpAny_Compare1 (h pins s σ H Q I hw) h1
theorem pt_cmp {op:CmpOp} {t:TE} (h:PC X op a b t) (h1:behindInMarks op b = false:=by first | exact nobehind _ (by decide) (by decide) | rfl):PT X (.Compare a [op] [b] pos) (tB t):=by
 intro pins s σ H Q I hw
 refine wpAny_isTrue_Compare1 (thn (h pins s σ H _ I hw) fun v s1 h1 => thn h1 fun u s2 h2 => thn h2 fun c s3 ⟨x,H1,I1,r1,q1⟩ => ?_) h1
 obtain ⟨d,rfl,q⟩:=q1
 cases r1
 exact wpAny_truthy_bool ⟨H1,I1,q⟩
theorem pt_val {e:Expr} {t:TE} (h:PE X e t) (he:∀ whole,isTrue e X.env whole = (do let v ← whole; standAt e.pos; holding [v] (truthy v)):=by intro _; rfl):PT X e (tB t):=by
 intro pins s σ H Q I hw
 refine isTrue_plain (thn (h pins s σ H _ I hw) fun v s1 ⟨x,H1,I1,r1,q1⟩ => ?_) (he _)
 obtain ⟨d,rfl,q⟩:=q1
 cases r1
 exact wpAny_truthy_bool ⟨H1,I1,q⟩
variable {tA tB':TT} {rest:List Expr}
def tAnd (t u:TT):TT:=fun σ H Q => t σ H fun c H1 => if c = true then u σ H1 Q else Q false H1
def tOr (t u:TT):TT:=fun σ H Q => t σ H fun c H1 => if c = true then Q true H1 else u σ H1 Q
def tNot (t:TT):TT:=fun σ H Q => t σ H fun c H1 => Q (!c) H1
theorem pw_and1 (ha:PT X a tA):PW X (.BoolOp .And [a] pos) tA:=by
 intro wh pins s σ H Q I h
 refine isTrue_and (thn (ha pins s σ H Q I h) fun c s1 e => ?_)
 cases c with
 | true => exact isTrue_and_nil e
 | false => exact e
theorem pw_or1 (ha:PT X a tA):PW X (.BoolOp .Or [a] pos) tA:=by
 intro wh pins s σ H Q I h
 refine isTrue_or (thn (ha pins s σ H Q I h) fun c s1 e => ?_)
 cases c with
 | false => exact isTrue_or_nil e
 | true => exact e
theorem pw_and (ha:PT X a tA) (hb:PW X (.BoolOp .And (b :: rest) pos) tB'):PW X (.BoolOp .And (a :: b :: rest) pos) (tAnd tA tB'):=by
 intro wh pins s σ H Q I h
 refine isTrue_and (thn (ha pins s σ H _ I h) fun c s1 ⟨H1,I1,q1⟩ => ?_)
 cases c with
 | true => exact hb wh pins s1 σ H1 Q I1 q1
 | false => exact ⟨H1,I1,q1⟩
theorem pw_or (ha:PT X a tA) (hb:PW X (.BoolOp .Or (b :: rest) pos) tB'):PW X (.BoolOp .Or (a :: b :: rest) pos) (tOr tA tB'):=by
 intro wh pins s σ H Q I h
 refine isTrue_or (thn (ha pins s σ H _ I h) fun c s1 ⟨H1,I1,q1⟩ => ?_)
 cases c with
 | true => exact ⟨H1,I1,q1⟩
 | false => exact hb wh pins s1 σ H1 Q I1 q1
theorem pt_not (ha:PT X a tA):PT X (.UnaryOp .Not a pos) (tNot tA):=by
 intro pins s σ H Q I h
 exact isTrue_not (ha pins s σ H (fun c H1 => Q (!c) H1) I h)
def tAndV (ta tb:TE):TE:=fun σ H Q => ta σ H fun x H1 => ∃ c,x = .bl c∧if c = true then tb σ H1 Q else Q (.bl false) H1
def tNotV (ta:TE):TE:=fun σ H Q => ta σ H fun x H1 => ∃ c,x = .bl c∧Q (.bl (!c)) H1
theorem pe_one {op} {t:TE} (h:PE X a t):PE X (.BoolOp op [a] pos) t:=fun pins s σ H Q I hw => BoolOp_one (h pins s σ H Q I hw)
theorem pe_and (ha:PE X a ta) (hb:PE X (.BoolOp .And (b :: rest) pos) tb):PE X (.BoolOp .And (a :: b :: rest) pos) (tAndV ta tb):=by
 intro pins s σ H Q I h
 refine BoolOp_and (thn (ha pins s σ H _ I h) fun v s1 ⟨x,H1,I1,r1,q1⟩ => ?_)
 obtain ⟨c,rfl,q1⟩:=q1
 cases r1
 refine wpAny_truthy_bool ?_
 cases c with
 | true => exact hb pins s1 σ H1 Q I1 q1
 | false => exact ⟨.bl false,H1,I1,rfl,q1⟩
theorem pe_not (ha:PE X a ta):PE X (.UnaryOp .Not a pos) (tNotV ta):=by
 intro pins s σ H Q I h
 refine UnaryOp_ (thn (ha pins s σ H _ I h) fun v s1 ⟨x,H1,I1,r1,q1⟩ => ?_)
 obtain ⟨c,rfl,q1⟩:=q1
 cases r1
 exact not_of (wpAny_truthy_bool ⟨.bl (!c),H1,I1,rfl,q1⟩)
end
end L2
namespace L2
open PySem PySem.Spec PyProof.Rows
def SqL (K:PySem.W.Frag) (H:Hp) (a:Addr) (xs:List V):Prop :=
 Rd H a (.lst xs) ∨
  ∃ (o:Obj) (its:Array Value) (n:Nat),K.lookup a = some o∧o.cls = .type "list"∧o.dict = none∧o.data = .seq its n∧its.size≤sizeLine∧Vals xs its.toList
def SqT (K:PySem.W.Frag) (H:Hp) (a:Addr) (xs:List V):Prop :=
 Rd H a (.tup xs) ∨
  ∃ (o:Obj) (its:Array Value) (n:Nat),K.lookup a = some o∧o.cls = .type "tuple"∧o.data = .seq its n∧its.size≤sizeLine∧Vals xs its.toList
def absV:Value→Option V
 | .none => some .non
 | .bool b => some (.bl b)
 | .int i _ => some (.int i)
 | .str x _ => some (.str x)
 | .bytes b _ => some (.byt b)
 | .float b _ => some (.flt b)
 | .ref a => some (.ref a)
 | .type n => some (.ty n)
 | _ => none
theorem RelV.abs {x:V} {u:Value} (r:RelV x u):absV u = some x:=by
 cases x with
 | non => cases r; rfl
 | bl _ => cases r; rfl
 | int _ => obtain ⟨t,rfl⟩:=r; rfl
 | str _ => obtain ⟨t,rfl⟩:=r; rfl
 | byt _ => obtain ⟨t,rfl⟩:=r; rfl
 | flt _ => obtain ⟨t,rfl⟩:=r; rfl
 | ref _ => cases r; rfl
 | ty _ => cases r; rfl
theorem RelV.inj {x y:V} {u:Value} (r:RelV x u) (q:RelV y u):x = y:=Option.some.inj (r.abs.symm.trans q.abs)
theorem Vals.inj:∀ {xs ys:List V} {us:List Value},Vals xs us→Vals ys us→xs = ys
 | _,_,_,.nil,.nil => rfl
 | _,_,_,.cons r t,.cons r' t' => by rw [r.inj r',Vals.inj t t']
section
variable {X:Cx} {pins:List (Addr × Obj)} {σ:St} {H:Hp} {s:Shared} {a:Addr} {xs ys:List V}
theorem SqL.of {K:PySem.W.Frag} (h:H a = some (.lst xs)):SqL K H a xs:=.inl (.inl h)
theorem SqT.of {K:PySem.W.Frag} (h:H a = some (.tup xs)):SqT K H a xs:=.inl (.inl h)
theorem Inv.list (I:Inv X pins σ H s) (h:SqL X.K H a xs):∃ its:List Value,Vals xs its∧PlainL s.heap a its.toArray∧xs.length≤sizeLine:=by
 rcases h with h | ⟨o,its,n,hk,hc,hd,hs,hz,r⟩
 ·obtain ⟨z,its,n,r,e⟩:=h.ok I.hok
  exact ⟨its,r,⟨_,n,e,rfl,rfl,rfl⟩,z⟩
 ·refine ⟨its.toList,r,⟨o,n,I.kIn a o hk,hc,hd,by simpa using hs⟩,?_⟩
  have e:=r.length
  simp only [Array.length_toList] at e
  omega
theorem Inv.tuple (I:Inv X pins σ H s) (h:SqT X.K H a xs):∃ its:List Value,Vals xs its∧IsTup s.heap a its.toArray∧xs.length≤sizeLine:=by
 rcases h with h | ⟨o,its,n,hk,hc,hs,hz,r⟩
 ·obtain ⟨z,its,r,p⟩:=h.ok I.hok
  exact ⟨its,r,p,z⟩
 ·refine ⟨its.toList,r,⟨o,I.kIn a o hk,hc,n,by simpa using hs⟩,?_⟩
  have e:=r.length
  simp only [Array.length_toList] at e
  omega
theorem Inv.list_inj (I:Inv X pins σ H s) (h:SqL X.K H a xs) (h':SqL X.K H a ys):xs = ys:=by
 obtain ⟨its,r,⟨o,n,e,_,_,d⟩,_⟩:=I.list h
 obtain ⟨its',r',⟨o',n',e',_,_,d'⟩,_⟩:=I.list h'
 rw [e] at e'; cases e'
 rw [d] at d'
 injection d' with d1 _
 have:its = its':=by simpa using congrArg Array.toList d1
 subst this
 exact r.inj r'
theorem Inv.tuple_inj (I:Inv X pins σ H s) (h:SqT X.K H a xs) (h':SqT X.K H a ys):xs = ys:=by
 obtain ⟨its,r,⟨o,e,_,n,d⟩,_⟩:=I.tuple h
 obtain ⟨its',r',⟨o',e',_,n',d'⟩,_⟩:=I.tuple h'
 rw [e] at e'; cases e'
 rw [d] at d'
 injection d' with d1 _
 have:its = its':=by simpa using congrArg Array.toList d1
 subst this
 exact r.inj r'
end
section
variable {X:Cx} {pins:List (Addr × Obj)} {σ:St} {H:Hp} {s:Shared} {E:Value→Shared→Prop}
end
section
variable {X:Cx} {st:Stmt} {rest:List Stmt} {t u:TS} {e:Expr} {te:TE} {pos:Pos}
def tNext:TS:=fun D σ H => D.nx σ H
def tSeq (t u:TS):TS:=fun D σ H => t { D with nx:=u D } σ H
theorem pss_nil:PSs X [] tNext:=fun _ _ σ H _ I h => wpAny_execs_nil ⟨σ,H,I,h⟩
theorem pss_cons (h1:PS X st t) (h2:PSs X rest u):PSs X (st :: rest) (tSeq t u):=by
 intro pins s σ H D I h
 refine wpAny_execs_cons (thn (h1 pins s σ H { D with nx:=u D } I h) fun f s1 q => ?_)
 cases f with
 | next =>
  obtain ⟨σ',H',I',q⟩:=q
  exact h2 pins s1 σ' H' D I' q
 | ret v => exact q
 | brk => exact q
 | cont => exact q
theorem pss_one (h1:PS X st t):PSs X [st] t:=by
 intro pins s σ H D I h
 refine wpAny_execs_cons (thn (h1 pins s σ H D I h) fun f s1 q => ?_)
 cases f with
 | next => exact wpAny_execs_nil q
 | ret v => exact q
 | brk => exact q
 | cont => exact q
theorem Inv.quiet {pins:List (Addr × Obj)} {σ:St} {H:Hp} {s:Shared} (I:Inv X pins σ H s):interactive X.env = false:=by simp [interactive,I.ok.kind]
def tDrop (te:TE):TS:=fun D σ H => te σ H fun _ H1 => D.nx σ H1
theorem ps_expr (he:PE X e te) (hs:swapsWith e none pos.line X.env = pure false:=by rfl):PS X (.Expr e pos) (tDrop te):=by
 intro pins s σ H D I h
 exact wpAny_Expr_any (thn (he pins s σ H _ I h) fun v s1 ⟨x,H1,I1,r1,q1⟩ => ⟨σ,H1,I1,q1⟩) I.quiet hs
def tRet (te:TE):TS:=fun D σ H => te σ H D.rt
theorem ps_ret (he:PE X e te):PS X (.Return (some e) pos) (tRet te):=by
 intro pins s σ H D I h
 exact wpAny_Return_some (thn (he pins s σ H _ I h) fun v s1 ⟨x,H1,I1,r1,q1⟩ => ⟨x,σ,H1,I1,r1,q1⟩)
def tRetN:TS:=fun D _ H => D.rt .non H
theorem ps_retN:PS X (.Return none pos) tRetN:=fun _ _ σ H _ I h => wpAny_Return_none ⟨.non,σ,H,I,rfl,h⟩
def tIfS (c:TT) (t u:TS):TS:=fun D σ H => c σ H fun b H1 => if b = true then t D σ H1 else u D σ H1
theorem ps_if {c:Expr} {a b:List Stmt} {tc:TT} (hc:PT X c tc) (ha:PSs X a t) (hb:PSs X b u):PS X (.If c a b pos) (tIfS tc t u):=by
 intro pins s σ H D I h
 refine wpAny_If (thn (hc pins s σ H _ I h) fun d s1 ⟨H1,I1,q1⟩ => ?_)
 cases d with
 | true => exact ha pins s1 σ H1 D I1 q1
 | false => exact hb pins s1 σ H1 D I1 q1
def tNever:TS:=fun _ _ _ => False
theorem ps_never:PS X st tNever:=fun _ _ _ _ _ _ h => h.elim
end
abbrev TG:=V→St→Hp→(St→Hp→Prop)→Prop
abbrev TGs:=List V→St→Hp→(St→Hp→Prop)→Prop
def PG (X:Cx) (target:Expr) (t:TG):Prop :=
 ∀ (pins:List (Addr × Obj)) (s:Shared) (σ:St) (H:Hp) (v:V) (u:Value) (Q:St→Hp→Prop),Inv X pins σ H s→RelV v u→t v σ H Q →
  wpAny (model X.prog X.w) X.A (assign target X.env u) (fun _ s' => ∃ σ' H',Inv X pins σ' H' s'∧Q σ' H') X.xe s
def PGs (X:Cx) (ts:List Expr) (t:TGs):Prop :=
 ∀ (pins:List (Addr × Obj)) (s:Shared) (σ:St) (H:Hp) (vs:List V) (us:List Value) (Q:St→Hp→Prop),Inv X pins σ H s→Vals vs us→t vs σ H Q →
  wpAny (model X.prog X.w) X.A (assignInOrder ((assignEach ts X.env).map (·.2)) us) (fun _ s' => ∃ σ' H',Inv X pins σ' H' s'∧Q σ' H') X.xe s
section
variable {X:Cx} {pos:Pos}
def gName (i:Nat):TG:=fun v σ H Q => Q (σ.set i (some v)) H
theorem pg_name {i:Nat} {x:Str} (hN:X.N.Nodup) (hi:X.N[i]? = some x) (hx:Loc X.env.scope x) (hf:X.fn x = true∨X.env.scope.names.lookup x = some .local:=by first | exact .inl rfl | exact .inr rfl | assumption):PG X (.Name x pos) (gName i):=by
 intro pins s σ H v u Q I r h
 exact wpAny_assign_Name (store_ok I hN hi hx r (fun s' I' => ⟨_,H,I',h⟩) hf)
def gNil:TGs:=fun vs σ H Q => vs = []∧Q σ H
def gCons (t:TG) (u:TGs):TGs:=fun vs σ H Q => ∃ v r,vs = v :: r∧t v σ H fun σ' H' => u r σ' H' Q
theorem pgs_nil:PGs X [] gNil:=by
 intro pins s σ H vs us Q I r h
 obtain ⟨e,h⟩:=h
 subst e
 cases r
 exact assignInOrder_nil ⟨σ,H,I,h⟩
theorem pgs_cons {e:Expr} {es:List Expr} {t:TG} {u:TGs} (h1:PG X e t) (h2:PGs X es u)
  (hs:(assignEach (e :: es) X.env).map (·.2) = assign e X.env :: (assignEach es X.env).map (·.2):=by rfl):PGs X (e :: es) (gCons t u):=by
 intro pins s σ H vs us Q I r h
 obtain ⟨v,vr,e1,h⟩:=h
 subst e1
 cases r with
 | cons r rr =>
  rw [hs]
  refine assignInOrder_cons (thn (h1 pins s σ H _ _ _ I r h) fun _ s1 ⟨σ1,H1,I1,q1⟩ => ?_)
  exact h2 pins s1 σ1 H1 _ _ Q I1 rr q1
def gTup (K:PySem.W.Frag) (n:Nat) (t:TGs):TG:=fun v σ H Q => ∃ a xs,v = .ref a∧SqT K H a xs∧xs.length = n∧t xs σ H Q
theorem pg_tup {es:List Expr} {k:Nat} {t:TGs} {n:Nat} (hc:X.calm = true) (h:PGs X es t)
  (hn:(assignEach es X.env).length = n:=by rfl) (hst:(assignEach es X.env).findIdx? (·.1) = none:=by rfl):PG X (.Tuple es k pos) (gTup X.K n t):=by
 intro pins s σ H v u Q I r hw
 obtain ⟨a,xs,e1,hq,hl,hw⟩:=hw
 subst e1
 cases r
 obtain ⟨its,rv,ht,hz⟩:=I.tuple hq
 refine assign_Tuple_tuple (I.ok.hd hc) ht (by simp [hn,← hl,rv.length]) hst fun h' hx => ?_
 have I1:Inv X pins σ H { s with heap:=h' }:=I.kept (t':=s.toks) fun b o e => hx b o (Nat.ne_of_lt (Heap.lt_size e)) e
 exact h pins _ σ H xs _ Q I1 (by simpa using rv) hw
def tAsg (te:TE) (g:TG):TS:=fun D σ H => te σ H fun x H1 => g x σ H1 D.nx
theorem ps_set {i:Nat} {x:Str} {e:Expr} {te:TE} {pos':Pos} (hN:X.N.Nodup) (hi:X.N[i]? = some x) (hx:Loc X.env.scope x) (he:PE X e te) (hs:swapsWith e (some (.Name x pos')) pos.line X.env = pure false:=by rfl) (hf:X.fn x = true∨X.env.scope.names.lookup x = some .local:=by first | exact .inl rfl | exact .inr rfl | assumption) :
  PS X (.Assign [.Name x pos'] e pos) (tAsg te (gName i)):=by
 intro pins s σ H D I h
 refine wpAny_Assign_Name (thn (he pins s σ H _ I h) fun v s1 ⟨y,H1,I1,r1,q1⟩ => ?_) hs
 exact store_ok I1 hN hi hx r1 (fun s2 I2 => ⟨_,H1,I2,q1⟩) hf
end
section
variable {X:Cx} {pos:Pos}
def tWhile (c:TT) (tb:TS):TS:=fun D σ H => ∃ W:Nat→St→Hp→Prop,(∃ m,W m σ H)∧∀ m σ H,W m σ H →
 c σ H fun b H1 => if b = true then ∃ N:St→Hp→Prop,(∀ σ' H',N σ' H'→∃ m',m' < m∧W m' σ' H')∧tb { D with nx:=N,ct:=N,bk:=D.nx } σ H1 else D.nx σ H1
theorem ps_while {c:Expr} {body:List Stmt} {tc:TT} {tb:TS} (hp:PassesOwn (model X.prog X.w) X.A X.env X.xe) (hc:PT X c tc) (hb:PSs X body tb):PS X (.While c body [] pos) (tWhile tc tb):=by
 intro pins s σ H D I h
 obtain ⟨W,⟨m0,w0⟩,turn⟩:=h
 refine wpAny_While (codeAny_whileLoop (fun n s' => ∃ σ' H',Inv X pins σ' H' s'∧W n σ' H') ?_ m0 ⟨σ,H,I,w0⟩)
 rintro n s1 ⟨σ1,H1,I1,w1⟩
 refine wpAny_passesOwn hp (thn (hc pins s1 σ1 H1 _ I1 (turn n σ1 H1 w1)) fun b s2 ⟨H2,I2,q2⟩ => ?_)
 cases b with
 | true =>
  obtain ⟨N,hN,q2⟩:=q2
  rw [if_pos rfl]
  refine wpAny_passesOwn hp (thn (hb pins s2 σ1 H2 _ I2 q2) fun f s3 q3 => ?_)
  cases f with
  | next =>
   obtain ⟨σ3,H3,I3,n3⟩:=q3
   obtain ⟨m',hm,w3⟩:=hN σ3 H3 n3
   exact ⟨m',hm,σ3,H3,I3,w3⟩
  | cont =>
   obtain ⟨σ3,H3,I3,n3⟩:=q3
   obtain ⟨m',hm,w3⟩:=hN σ3 H3 n3
   exact ⟨m',hm,σ3,H3,I3,w3⟩
  | brk => exact q3
  | ret v => exact q3
 | false =>
  rw [if_neg Bool.false_ne_true]
  exact wpAny_execs_nil ⟨σ1,H2,I2,q2⟩
end
structure It where
 go:Nat→Hp→Prop
 yld:Nat→Hp→V→Hp→Prop
 stop:Nat→Hp→Prop
def FpOk (X:Cx) (pins:List (Addr × Obj)) (H:Hp) (b:Addr):Prop :=
 H b = none∧b≠X.env.locals∧b ∉ X.fs∧(b∈X.ex∨X.s₀.heap.objs.size≤b)∧(∀ x c,X.env.cells.lookup x = some c→c≠b)∧∀ p∈X.pn ++ pins,p.1≠b
theorem Inv.fpOk {X:Cx} {pins:List (Addr × Obj)} {σ:St} {H H':Hp} {s:Shared} {b:Addr} (I:Inv X pins σ H s) (hb:s.heap.objs.size≤b) (hn:H' b = none):FpOk X pins H' b:=by
 refine ⟨hn,Nat.ne_of_gt (Nat.lt_of_lt_of_le I.lt hb),I.nofs hb,.inr (Nat.le_trans I.sz hb),fun x c e z => ?_,fun p hp z => ?_⟩
 ·obtain ⟨v,q⟩:=I.cell x c e
  exact absurd (Nat.lt_of_lt_of_le q.lt (by rw [z]; exact hb)) (Nat.lt_irrefl _)
 ·exact absurd (Nat.lt_of_lt_of_le (Heap.lt_size (I.pin p hp).1) (by rw [z]; exact hb)) (Nat.lt_irrefl _)
structure Turn (P:Program) (w:World) (K:PySem.W.Frag) (tg:Expr) (J:It) (fp:List Addr) (it:Addr) (tn:Nat→Heap→Prop) (nm:Bool):Prop where
 mem:it∈fp
 obj:∀ i h,tn i h→∀ b∈fp,∃ o,h.get? b = some o∧∀ v,o.data≠.cell v
 keep:∀ i h h',tn i h→(∀ b∈fp,∀ o,h.get? b = some o→h'.get? b = some o)→tn i h'
 item:∀ (X:Cx),X.prog = P→X.w = w→X.K = K→(nm = true→X.calm = true)→∀ (i:Nat) (pins:List (Addr × Obj)) (s:Shared) (σ:St) (H:Hp) (E:Value→Shared→Prop),Inv X pins σ H s→(∀ b∈fp,FpOk X pins H b)→tn i s.heap→J.go i H →
  wpAny (model P w) X.A (pyNext (.ref it)) (fun r s1 => ∃ u,r = some u ∧
   wpAny (model P w) X.A (letOwnedTupleGo tg (.ref it) u) (fun _ s2 => ∃ x H',Inv X pins σ H' s2∧RelV x u∧J.yld i H x H'∧tn (i + 1) s2.heap∧∀ b∈fp,H' b = none) E s1) E s
 done:∀ (X:Cx),X.prog = P→X.w = w→X.K = K→(nm = true→X.calm = true)→∀ (i:Nat) (pins:List (Addr × Obj)) (s:Shared) (σ:St) (H:Hp) (E:Value→Shared→Prop),Inv X pins σ H s→(∀ b∈fp,FpOk X pins H b)→tn i s.heap→J.stop i H →
  wpAny (model P w) X.A (pyNext (.ref it)) (fun r s1 => r = none∧Inv X pins σ H s1) E s
 self:∀ (A:Around) (i:Nat) (s:Shared) (Q:Value→Shared→Prop) (E:Value→Shared→Prop),tn i s.heap→Q (.ref it) s→wpAny (model P w) A (pyIter (.ref it)) Q E s
def TurnX (X:Cx) (tg:Expr) (J:It) (fp:List Addr) (it:Addr) (tn:Nat→Heap→Prop):Prop:=∃ nm,Turn X.prog X.w X.K tg J fp it tn nm∧(nm = true→X.calm = true)
theorem TurnX.of {X:Cx} {tg:Expr} {J:It} {fp:List Addr} {it:Addr} {tn:Nat→Heap→Prop} (T:Turn X.prog X.w X.K tg J fp it tn false):TurnX X tg J fp it tn:=⟨false,T,fun z => by cases z⟩
abbrev TI:=St→Hp→(It→Hp→Prop)→Prop
def PIE (X:Cx) (pins:List (Addr × Obj)) (σ:St) (tg:Expr) (R:It→Hp→Prop) (itv:Value) (s2:Shared):Prop :=
 ∃ (it:Addr) (fp:List Addr) (tn:Nat→Heap→Prop) (J:It) (H':Hp),itv = .ref it∧Inv X pins σ H' s2∧TurnX X tg J fp it tn∧tn 0 s2.heap∧(∀ b∈fp,FpOk X pins H' b)∧R J H'
def PI (X:Cx) (tg iter:Expr) (wi:TI):Prop :=
 ∀ (pins:List (Addr × Obj)) (s:Shared) (σ:St) (H:Hp) (R:It→Hp→Prop),Inv X pins σ H s→wi σ H R →
  wpAny (model X.prog X.w) X.A (eval iter X.env) (fun v s1 => wpAny (model X.prog X.w) X.A (pyIter v) (PIE X pins σ tg R) X.xe s1) X.xe s
theorem go_of {M:Model} {A:Around} {E:Value→Shared→Prop} {s:Shared} {tg:Expr} {it:Addr} {u:Value} {o:Obj} {n:String} {vs:Array Value} {Q:Unit→Shared→Prop} (ho:s.heap.get? it = some o) (hc:o.cls = .type n) (hd:o.data = .fields vs)
  (hn:["enumerate","zip","dict_itemiterator","dict_reverseitemiterator","odict_iterator","itertools.zip_longest","itertools.pairwise"].contains n = false) (hQ:Q () s):wpAny M A (letOwnedTupleGo tg (.ref it) u) Q E s:=by
 unfold letOwnedTupleGo
 cases tg <;> first
  | exact wpAny_pure hQ
  | (cases u <;> first
    | exact wpAny_pure hQ
    | (refine wpAny_bind (wpAny_load ho ?_)
       rw [hc,hd]
       show wpAny M A (if (["enumerate","zip","dict_itemiterator","dict_reverseitemiterator","odict_iterator","itertools.zip_longest","itertools.pairwise"].contains n && vs[0]? == some (rawInt _)) = true then _ else _) Q E s
       rw [if_neg (by intro h; rw [hn,Bool.false_and] at h; cases h)]
       exact wpAny_pure hQ))
def Itl (K:PySem.W.Frag) (a:Addr):It :=
 ⟨fun i H => ∃ xs x,SqL K H a xs∧xs[i]? = some x,fun i H x H' => H' = H∧∀ xs,SqL K H a xs→xs[i]? = some x,fun i H => ∃ xs,SqL K H a xs∧xs.length≤i⟩
def Itt (K:PySem.W.Frag) (a:Addr):It :=
 ⟨fun i H => ∃ xs x,SqT K H a xs∧xs[i]? = some x,fun i H x H' => H' = H∧∀ xs,SqT K H a xs→xs[i]? = some x,fun i H => ∃ xs,SqT K H a xs∧xs.length≤i⟩
def Itr (lo:Int) (n:Nat):It:=⟨fun i _ => i < n,fun i H x H' => H' = H∧x = .int (lo + i),fun i _ => n≤i⟩
theorem turn_list {P:Program} {w:World} {K:PySem.W.Frag} {tg:Expr} (a it:Addr):Turn P w K tg (Itl K a) [it] it (fun i h => h.IsListIter it a i) false where
 mem:=by simp
 obj:=fun i h st b hb => by
  have e:b = it:=by simpa using hb
  subst e
  obtain ⟨o,e,c,d⟩:=st
  exact ⟨o,e,fun v z => by rw [d] at z; cases z⟩
 keep:=fun i h h' st k => st.at fun o e => k it (by simp) o e
 item:=by
  intro X hP hw hK hc i pins s σ H E I hf st hg
  subst hP hw hK
  obtain ⟨xs,x,hq,hx⟩:=hg
  obtain ⟨its,rv,p,hz⟩:=I.list hq
  obtain ⟨u,hu,ru⟩:=rv.get hx
  obtain ⟨f0,f1,f2,f3,f4,f5⟩:=hf it (by simp)
  refine wpAny_pyNext_list_item st p.isList (x:=u) (by simpa using hu) fun h' st' sb => ?_
  have I1:Inv X pins σ H { s with heap:=h' }:=I.turned (t':=s.toks) (fun b o hb e => (sb.2 b hb).trans e) f0 f1 f3 f4 f5
  obtain ⟨o,e,c,d⟩:=id st'
  exact ⟨u,rfl,go_of (s:={ s with heap:=h' }) e c d (by decide) ⟨x,H,I1,ru,⟨rfl,fun ys hy => by rw [I.list_inj hy hq]; exact hx⟩,st',fun b hb => (hf b hb).1⟩⟩
 done:=by
  intro X hP hw hK hc i pins s σ H E I hf st hg
  subst hP hw hK
  obtain ⟨xs,hq,hx⟩:=hg
  obtain ⟨its,rv,p,hz⟩:=I.list hq
  obtain ⟨f0,f1,f2,f3,f4,f5⟩:=hf it (by simp)
  have hl:=rv.length
  exact list_on (I.hn.now I.hok) st p.isList (by simp; omega) fun h' eb => ⟨rfl,I.turned (t':=s.toks) (fun b o hb e => eb b o hb e) f0 f1 f3 f4 f5⟩
 self:=fun _ _ _ _ _ st h => wpAny_pyIter_listiter st h
theorem turn_tuple {P:Program} {w:World} {K:PySem.W.Frag} {tg:Expr} (a it:Addr):Turn P w K tg (Itt K a) [it] it (fun i h => h.IsTupleIter it a i) false where
 mem:=by simp
 obj:=fun i h st b hb => by
  have e:b = it:=by simpa using hb
  subst e
  obtain ⟨o,e,c,d⟩:=st
  exact ⟨o,e,fun v z => by rw [d] at z; cases z⟩
 keep:=fun i h h' st k => st.at fun o e => k it (by simp) o e
 item:=by
  intro X hP hw hK hc i pins s σ H E I hf st hg
  subst hP hw hK
  obtain ⟨xs,x,hq,hx⟩:=hg
  obtain ⟨its,rv,p,hz⟩:=I.tuple hq
  obtain ⟨u,hu,ru⟩:=rv.get hx
  obtain ⟨f0,f1,f2,f3,f4,f5⟩:=hf it (by simp)
  refine wpAny_pyNext_tuple_item st (show s.heap.IsTuple a its.toArray from p) (x:=u) (by simpa using hu) fun h' st' sb => ?_
  have I1:Inv X pins σ H { s with heap:=h' }:=I.turned (t':=s.toks) (fun b o hb e => (sb.2 b hb).trans e) f0 f1 f3 f4 f5
  obtain ⟨o,e,c,d⟩:=id st'
  exact ⟨u,rfl,go_of (s:={ s with heap:=h' }) e c d (by decide) ⟨x,H,I1,ru,⟨rfl,fun ys hy => by rw [I.tuple_inj hy hq]; exact hx⟩,st',fun b hb => (hf b hb).1⟩⟩
 done:=by
  intro X hP hw hK hc i pins s σ H E I hf st hg
  subst hP hw hK
  obtain ⟨xs,hq,hx⟩:=hg
  obtain ⟨its,rv,p,hz⟩:=I.tuple hq
  obtain ⟨f0,f1,f2,f3,f4,f5⟩:=hf it (by simp)
  have hl:=rv.length
  exact tuple_on (I.hn.now I.hok) st (show s.heap.IsTuple a its.toArray from p) (by simp; omega) fun h' eb => ⟨rfl,I.turned (t':=s.toks) (fun b o hb e => eb b o hb e) f0 f1 f3 f4 f5⟩
 self:=fun _ _ _ _ _ st h => wpAny_pyIter_tupleiter st h
theorem turn_range {P:Program} {w:World} {K:PySem.W.Frag} {tg:Expr} (it:Addr) (lo:Int) (n:Nat):Turn P w K tg (Itr lo n) [it] it (fun i h => IsRangeIter h it (lo + (i:Nat) * 1) ((n:Int) - (i:Nat)) 1) false where
 mem:=by simp
 obj:=fun i h st b hb => by
  have e:b = it:=by simpa using hb
  subst e
  exact ⟨_,st,fun v z => by
   have z':Data.fields _ = Data.cell v:=z
   cases z'⟩
 keep:=fun i h h' st k => k it (by simp) _ st
 item:=by
  intro X hP hw hK hc i pins s σ H E I hf st hg
  subst hP hw hK
  obtain ⟨f0,f1,f2,f3,f4,f5⟩:=hf it (by simp)
  refine wpAny_pyNext_range_item st (by have:i < n:=hg; omega) fun h' st' sb => ?_
  obtain ⟨tk,htk⟩:∃ tk,tk = s.toks + 1:=⟨_,rfl⟩
  rw [← htk]
  have I1:Inv X pins σ H { s with heap:=h',toks:=tk }:=I.turned (fun b o hb e => (sb.2 b hb).trans e) f0 f1 f3 f4 f5
  have st2:IsRangeIter h' it (lo + ((i + 1:Nat):Int) * 1) ((n:Int) - ((i + 1:Nat):Int)) 1:=by
   rw [show lo + ((i + 1:Nat):Int) * 1 = lo + (i:Int) * 1 + 1 by omega,show (n:Int) - ((i + 1:Nat):Int) = (n:Int) - (i:Int) - 1 by omega]; exact st'
  refine ⟨_,rfl,go_of (s:={ s with heap:=h',toks:=tk }) (n:="range_iterator") st' rfl rfl (by decide) ⟨.int (lo + i),H,I1,⟨s.toks,?_⟩,⟨rfl,rfl⟩,st2,fun b hb => (hf b hb).1⟩⟩
  rw [Int.mul_one]
 done:=by
  intro X hP hw hK hc i pins s σ H E I hf st hg
  subst hP hw hK
  obtain ⟨f0,f1,f2,f3,f4,f5⟩:=hf it (by simp)
  exact range_on (I.hn.now I.hok) st (by have:n≤i:=hg; omega) fun h' eb => ⟨rfl,I.turned (t':=s.toks) (fun b o hb e => eb b o hb e) f0 f1 f3 f4 f5⟩
 self:=fun _ _ _ _ _ st h => wpAny_pyIter_rangeiter st h
end L2
namespace L2
open PySem PySem.Spec PyProof.Rows
section
variable {X:Cx} {tg:Expr}
def iList (K:PySem.W.Frag) (tl:TE):TI:=fun σ H R => tl σ H fun x H1 => ∃ a,x = .ref a∧(∃ xs,SqL K H1 a xs)∧R (Itl K a) H1
theorem pi_list {l:Expr} {tl:TE} (hl:PE X l tl):PI X tg l (iList X.K tl):=by
 intro pins s σ H R I h
 refine thn (hl pins s σ H _ I h) fun v s1 ⟨x,H1,I1,r1,q1⟩ => ?_
 obtain ⟨a,e,⟨xs,hq⟩,q⟩:=q1
 subst e
 cases r1
 obtain ⟨its,rv,p,hz⟩:=I1.list hq
 refine wpAny_pyIter_list p.isList ?_
 refine ⟨s1.heap.objs.size,[s1.heap.objs.size],_,_,H1,rfl,I1.kept (t':=s1.toks) fun b o e => Heap.get?_push_of_some _ e,TurnX.of (turn_list a _),⟨_,Heap.get?_push_size _ rfl,rfl,rfl⟩,fun b hb => ?_,q⟩
 have e:b = s1.heap.objs.size:=by simpa using hb
 subst e
 exact I1.fpOk (Nat.le_refl _) (I1.hok.fresh (Nat.le_refl _))
theorem range_it {pins:List (Addr × Obj)} {σ:St} {H:Hp} {s:Shared} {R:It→Hp→Prop} {E:Value→Shared→Prop} {lo hi:Int} {t u v:Tok} {tk:Nat} (I:Inv X pins σ H s) (h1:-(2 ^ 62)≤lo) (h2:lo < 2 ^ 62) (h3:-(2 ^ 62)≤hi) (h4:hi < 2 ^ 62)
  (q:R (Itr lo (hi - lo).toNat) H):wpAny (model X.prog X.w) X.A (pyIter (.ref s.heap.objs.size)) (PIE X pins σ tg R) E { s with heap:=s.heap.push { cls:=.type "range",data:=.fields #[.int lo t,.int hi u,.int 1 v] },toks:=tk }:=by
 refine wpAny_pyIter_range (IsRange.new ..) (small_one h1 h2 h3 h4) ?_
 have I1:Inv X pins σ H { s with heap:=s.heap.push { cls:=.type "range",data:=.fields #[.int lo t,.int hi u,.int 1 v] },toks:=tk }:=I.kept fun b o e => Heap.get?_push_of_some _ e
 refine ⟨(s.heap.push { cls:=.type "range",data:=.fields #[.int lo t,.int hi u,.int 1 v] }).objs.size,[(s.heap.push { cls:=.type "range",data:=.fields #[.int lo t,.int hi u,.int 1 v] }).objs.size],_,_,H,rfl,
  I1.kept (t':=tk) fun b o e => Heap.get?_push_of_some _ e,TurnX.of (turn_range _ lo (hi - lo).toNat),?_,fun b hb => ?_,q⟩
 ·have e1:lo + ((0:Nat):Int) * 1 = lo:=by simp
  have e2:(((hi - lo).toNat:Nat):Int) - ((0:Nat):Int) = Builtin.Range.rangeSize lo hi 1:=by rw [rangeSize_one]; split <;> omega
  show IsRangeIter _ _ (lo + ((0:Nat):Int) * 1) ((((hi - lo).toNat:Nat):Int) - ((0:Nat):Int)) 1
  rw [e1,e2]
  exact Heap.get?_push_size _ rfl
 ·have e:b = (s.heap.push { cls:=.type "range",data:=.fields #[.int lo t,.int hi u,.int 1 v] }).objs.size:=by simpa using hb
  subst e
  exact I1.fpOk (Nat.le_refl _) (I1.hok.fresh (Nat.le_refl _))
def iRng1 (ta:TA):TI:=fun σ H R => ta σ H fun vs H1 => ∃ j:Int,vs = [.int j]∧-(2 ^ 62)≤j∧j < 2 ^ 62∧R (Itr 0 j.toNat) H1
def iRng2 (ta:TA):TI:=fun σ H R => ta σ H fun vs H1 => ∃ i j:Int,vs = [.int i,.int j]∧(-(2 ^ 62)≤i∧i < 2 ^ 62∧-(2 ^ 62)≤j∧j < 2 ^ 62)∧R (Itr i (j - i).toNat) H1
theorem pi_range1 {a:Expr} {ta:TA} {p pos:Pos} (hg:Gl X "range") (hm:X.mg "range" = none) (ha:PA X [a] ta) (hs:starEach [a] X.env = [(false,eval a X.env)]:=by rfl):PI X tg (.Call (.Name "range" p) [a] [] pos) (iRng1 ta):=by
 intro pins s σ H R I h
 refine Call_ (ld_blt I hg hm boot_range (PyProof.Rows.callWith_type1 (thn (ha pos pins s σ H _ I h) fun us s1 ⟨vs,H1,I1,r1,q1⟩ => ?_) hs rfl))
 obtain ⟨j,e,q1,q2,q⟩:=q1
 subst e
 cases r1 with
 | cons r rr =>
  cases rr
  obtain ⟨t,rfl⟩:=r
  exact call_range_1 (range_it I1 (by omega) (by omega) q1 q2 (by simpa using q))
theorem pi_range2 {a b:Expr} {ta:TA} {p pos:Pos} (hg:Gl X "range") (hm:X.mg "range" = none) (ha:PA X [a,b] ta) (hs:starEach [a,b] X.env = [(false,eval a X.env),(false,eval b X.env)]:=by rfl) (hs2:starEach [b] X.env = [(false,eval b X.env)]:=by rfl) :
  PI X tg (.Call (.Name "range" p) [a,b] [] pos) (iRng2 ta):=by
 intro pins s σ H R I h
 refine Call_ (ld_blt I hg hm boot_range (PyProof.Rows.callWith_type1 (thn (ha pos pins s σ H _ I h) fun us s1 ⟨vs,H1,I1,r1,q1⟩ => ?_) (by rw [hs,hs2]) (by rw [hs2]; rfl)))
 obtain ⟨i,j,e,⟨q1,q2,q3,q4⟩,q⟩:=q1
 subst e
 cases r1 with
 | cons r rr =>
  cases rr with
  | cons r' rr =>
   cases rr
   obtain ⟨t,rfl⟩:=r
   obtain ⟨t',rfl⟩:=r'
   exact call_range_2 (range_it I1 q1 q2 q3 q4 q)
def tFor (wi:TI) (g:TG) (tb:TS):TS:=fun D σ H => wi σ H fun J H1 => ∃ W:Nat→Nat→St→Hp→Prop,(∃ m,W 0 m σ H1)∧∀ i m σ H,W i m σ H →
 (J.stop i H∧D.nx σ H)∨(J.go i H∧∃ N:St→Hp→Prop,(∀ σ' H',N σ' H'→∃ m',m' < m∧W (i + 1) m' σ' H')∧∀ x H',J.yld i H x H'→g x σ H' fun σ2 H2 => tb { D with nx:=N,ct:=N,bk:=D.nx } σ2 H2)
def pinsAt (fp:List Addr) (h:Heap):List (Addr × Obj):=fp.filterMap fun b => (h.get? b).map fun o => (b,o)
theorem mem_pinsAt {fp:List Addr} {h:Heap} {b:Addr} {o:Obj} (hb:b∈fp) (e:h.get? b = some o):(b,o)∈pinsAt fp h:=List.mem_filterMap.mpr ⟨b,hb,by rw [e]; rfl⟩
theorem of_pinsAt {fp:List Addr} {h:Heap} {p:Addr × Obj} (hp:p∈pinsAt fp h):p.1∈fp∧h.get? p.1 = some p.2:=by
 obtain ⟨b,hb,e⟩:=List.mem_filterMap.mp hp
 cases q:h.get? b with
 | none => rw [q] at e; cases e
 | some o =>
  rw [q] at e
  have e':(b,o) = p:=Option.some.inj e
  subst e'
  exact ⟨hb,q⟩
theorem Inv.pinned {pins:List (Addr × Obj)} {σ:St} {H:Hp} {s:Shared} {fp:List Addr} (I:Inv X pins σ H s) (hf:∀ b∈fp,FpOk X pins H b) (ho:∀ b∈fp,∃ o,s.heap.get? b = some o∧∀ v,o.data≠.cell v):Inv X (pins ++ pinsAt fp s.heap) σ H s :=
 I.pins_of fun p hp => (List.mem_append.mp hp).elim (fun z => I.pin p (List.mem_append_right _ z)) fun z => by
  obtain ⟨hb,e⟩:=of_pinsAt z
  obtain ⟨f0,f1,f2,_⟩:=hf p.1 hb
  obtain ⟨o,e',d⟩:=ho p.1 hb
  rw [e] at e'; cases e'
  exact ⟨e,f0,f1,f2,d⟩
theorem Inv.unpinned {pins pl:List (Addr × Obj)} {σ:St} {H:Hp} {s:Shared} (I:Inv X (pins ++ pl) σ H s):Inv X pins σ H s:=I.pins_of fun p hp => I.pin p (List.mem_append_right _ (List.mem_append_left _ hp))
theorem ps_for {iter:Expr} {body:List Stmt} {wi:TI} {g:TG} {tb:TS} {pos:Pos} (hp:PassesOwn (model X.prog X.w) X.A X.env X.xe) (hi:PI X tg iter wi) (hg:PG X tg g) (hb:PSs X body tb)
  (hs:∀ x,foldedSetIterable iter X.env x = pure x:=by intro _; rfl):PS X (.For tg iter body [] pos) (tFor wi g tb):=by
 intro pins s σ H D I h
 refine wpAny_For (thn (hi pins s σ H _ I h) fun v s1 h1 => thn h1 fun itv s2 h2 => ?_) hs
 obtain ⟨it,fp,tn,J,H2,e,I2,T,st2,f2,W,⟨m0,w0⟩,turn⟩:=h2
 subst e
 obtain ⟨nm,T,hc⟩:=T
 have stat:∀ {H':Hp},(∀ b∈fp,H' b = none)→∀ b∈fp,FpOk X pins H' b:=fun hn b hb => ⟨hn b hb,(f2 b hb).2⟩
 refine codeAny_forLoop_any (fun n s' => ∃ i σ' H',Inv X pins σ' H' s'∧tn i s'.heap∧(∀ b∈fp,H' b = none)∧W i n σ' H') ?_ m0 ⟨0,σ,H2,I2,st2,fun b hb => (f2 b hb).1,w0⟩
 rintro n s3 ⟨i,σ3,H3,I3,st3,fr3,w3⟩
 rcases turn i n σ3 H3 w3 with ⟨stop,qn⟩ | ⟨go,N,hN,step⟩
 ·refine wpAny_passesOwn hp (thn (T.done X rfl rfl rfl hc i pins s3 σ3 H3 X.xe I3 (stat fr3) st3 stop) fun r s4 ⟨hr,I4⟩ => ?_)
  subst hr
  exact wpAny_execs_nil ⟨σ3,H3,I4,qn⟩
 ·refine wpAny_passesOwn hp (thn (T.item X rfl rfl rfl hc i pins s3 σ3 H3 X.xe I3 (stat fr3) st3 go) fun r s4 ⟨u,hr,h4⟩ => ?_)
  subst hr
  refine wpAny_passesOwn hp (thn h4 fun _ s5 ⟨x,H5,I5,r5,y5,st5,fr5⟩ => ?_)
  have I5':=I5.pinned (stat fr5) (T.obj _ _ st5)
  refine wpAny_passesOwn hp (thn (hg _ s5 σ3 H5 x u _ I5' r5 (step x H5 y5)) fun _ s6 ⟨σ6,H6,I6,q6⟩ => ?_)
  refine wpAny_passesOwn hp (thn (hb _ s6 σ6 H6 _ I6 q6) fun f s7 q7 => ?_)
  have again:∀ {σ7:St} {H7:Hp},Inv X (pins ++ pinsAt fp s5.heap) σ7 H7 s7→N σ7 H7→∃ m,m < n∧∃ i σ' H',Inv X pins σ' H' s7∧tn i s7.heap∧(∀ b∈fp,H' b = none)∧W i m σ' H':=fun {σ7 H7} I7 n7 => by
   obtain ⟨m',hm,w7⟩:=hN σ7 H7 n7
   refine ⟨m',hm,i + 1,σ7,H7,I7.unpinned,T.keep _ _ _ st5 fun b hb o e => (I7.pin (b,o) (List.mem_append_right _ (List.mem_append_right _ (mem_pinsAt hb e)))).1,fun b hb => ?_,w7⟩
   obtain ⟨o,e,d⟩:=T.obj _ _ st5 b hb
   exact (I7.pin (b,o) (List.mem_append_right _ (List.mem_append_right _ (mem_pinsAt hb e)))).2.1
  cases f with
  | next => obtain ⟨σ7,H7,I7,n7⟩:=q7; exact again I7 n7
  | cont => obtain ⟨σ7,H7,I7,n7⟩:=q7; exact again I7 n7
  | brk => obtain ⟨σ7,H7,I7,q7⟩:=q7; exact ⟨σ7,H7,I7.unpinned,q7⟩
  | ret v => obtain ⟨x7,σ7,H7,I7,r7,q7⟩:=q7; exact ⟨x7,σ7,H7,I7.unpinned,r7,q7⟩
end
theorem for_list {K:PySem.W.Frag} {a:Addr} {xs:List V} {g:TG} {tb:TS} {D:Ends} {σ:St} {H:Hp} (Pv:Nat→St→Hp→Prop) (h0:Pv 0 σ H) (hl:∀ i σ H,i≤xs.length→Pv i σ H→SqL K H a xs)
  (hs:∀ i x σ H,xs[i]? = some x→Pv i σ H→g x σ H fun σ2 H2 => tb { D with nx:=Pv (i + 1),ct:=Pv (i + 1),bk:=D.nx } σ2 H2) (hd:∀ σ H,Pv xs.length σ H→D.nx σ H) :
  ∃ W:Nat→Nat→St→Hp→Prop,(∃ m,W 0 m σ H)∧∀ i m σ H,W i m σ H →
   ((Itl K a).stop i H∧D.nx σ H)∨((Itl K a).go i H∧∃ N:St→Hp→Prop,(∀ σ' H',N σ' H'→∃ m',m' < m∧W (i + 1) m' σ' H')∧∀ x H',(Itl K a).yld i H x H'→g x σ H' fun σ2 H2 => tb { D with nx:=N,ct:=N,bk:=D.nx } σ2 H2):=by
 refine ⟨fun i m σ H => m = xs.length - i∧i≤xs.length∧Pv i σ H,⟨xs.length,by simp,Nat.zero_le _,h0⟩,?_⟩
 rintro i m σ H ⟨rfl,hi,p⟩
 have q:=hl i σ H hi p
 by_cases hlt:i < xs.length
 ·refine .inr ⟨⟨xs,xs[i],q,by simp [hlt]⟩,Pv (i + 1),fun σ' H' p' => ⟨xs.length - (i + 1),by omega,rfl,hlt,p'⟩,fun x H' y => ?_⟩
  obtain ⟨e,y⟩:=y
  subst e
  exact hs i x σ _ (y xs q) p
 ·have e:i = xs.length:=by omega
  subst e
  exact .inl ⟨⟨xs,q,Nat.le_refl _⟩,hd σ H p⟩
theorem for_tup {K:PySem.W.Frag} {a:Addr} {xs:List V} {g:TG} {tb:TS} {D:Ends} {σ:St} {H:Hp} (Pv:Nat→St→Hp→Prop) (h0:Pv 0 σ H) (hl:∀ i σ H,i≤xs.length→Pv i σ H→SqT K H a xs)
  (hs:∀ i x σ H,xs[i]? = some x→Pv i σ H→g x σ H fun σ2 H2 => tb { D with nx:=Pv (i + 1),ct:=Pv (i + 1),bk:=D.nx } σ2 H2) (hd:∀ σ H,Pv xs.length σ H→D.nx σ H) :
  ∃ W:Nat→Nat→St→Hp→Prop,(∃ m,W 0 m σ H)∧∀ i m σ H,W i m σ H →
   ((Itt K a).stop i H∧D.nx σ H)∨((Itt K a).go i H∧∃ N:St→Hp→Prop,(∀ σ' H',N σ' H'→∃ m',m' < m∧W (i + 1) m' σ' H')∧∀ x H',(Itt K a).yld i H x H'→g x σ H' fun σ2 H2 => tb { D with nx:=N,ct:=N,bk:=D.nx } σ2 H2):=by
 refine ⟨fun i m σ H => m = xs.length - i∧i≤xs.length∧Pv i σ H,⟨xs.length,by simp,Nat.zero_le _,h0⟩,?_⟩
 rintro i m σ H ⟨rfl,hi,p⟩
 have q:=hl i σ H hi p
 by_cases hlt:i < xs.length
 ·refine .inr ⟨⟨xs,xs[i],q,by simp [hlt]⟩,Pv (i + 1),fun σ' H' p' => ⟨xs.length - (i + 1),by omega,rfl,hlt,p'⟩,fun x H' y => ?_⟩
  obtain ⟨e,y⟩:=y
  subst e
  exact hs i x σ _ (y xs q) p
 ·have e:i = xs.length:=by omega
  subst e
  exact .inl ⟨⟨xs,q,Nat.le_refl _⟩,hd σ H p⟩
theorem for_range {lo:Int} {n:Nat} {g:TG} {tb:TS} {D:Ends} {σ:St} {H:Hp} (Pv:Nat→St→Hp→Prop) (h0:Pv 0 σ H)
  (hs:∀ i σ H,i < n→Pv i σ H→g (.int (lo + i)) σ H fun σ2 H2 => tb { D with nx:=Pv (i + 1),ct:=Pv (i + 1),bk:=D.nx } σ2 H2) (hd:∀ σ H,Pv n σ H→D.nx σ H) :
  ∃ W:Nat→Nat→St→Hp→Prop,(∃ m,W 0 m σ H)∧∀ i m σ H,W i m σ H →
   ((Itr lo n).stop i H∧D.nx σ H)∨((Itr lo n).go i H∧∃ N:St→Hp→Prop,(∀ σ' H',N σ' H'→∃ m',m' < m∧W (i + 1) m' σ' H')∧∀ x H',(Itr lo n).yld i H x H'→g x σ H' fun σ2 H2 => tb { D with nx:=N,ct:=N,bk:=D.nx } σ2 H2):=by
 refine ⟨fun i m σ H => m = n - i∧i≤n∧Pv i σ H,⟨n,by simp,Nat.zero_le _,h0⟩,?_⟩
 rintro i m σ H ⟨rfl,hi,p⟩
 by_cases hlt:i < n
 ·refine .inr ⟨hlt,Pv (i + 1),fun σ' H' p' => ⟨n - (i + 1),by omega,rfl,hlt,p'⟩,fun x H' y => ?_⟩
  obtain ⟨e,y⟩:=y
  subst e y
  exact hs i σ _ hlt p
 ·have e:i = n:=by omega
  subst e
  exact .inl ⟨Nat.le_refl _,hd σ H p⟩
end L2
namespace L2
open PySem PySem.Spec PyProof.Rows
abbrev R2:=V→V→Hp→VK→Prop
def OpR (X:Cx) (f:Value→Value→Sem Value) (r:R2):Prop :=
 ∀ (pins:List (Addr × Obj)) (s:Shared) (σ:St) (H:Hp) (x y:V) (v u:Value) (Q:VK),Inv X pins σ H s→RelV x v→RelV y u→r x y H Q →
  wpAny (model X.prog X.w) X.A (f v u) (EP X pins σ Q) X.xe s
def UnR (X:Cx) (f:Value→Sem Value) (r:V→Hp→VK→Prop):Prop :=
 ∀ (pins:List (Addr × Obj)) (s:Shared) (σ:St) (H:Hp) (x:V) (v:Value) (Q:VK),Inv X pins σ H s→RelV x v→r x H Q →
  wpAny (model X.prog X.w) X.A (f v) (EP X pins σ Q) X.xe s
def CallR (X:Cx) (f:Value) (r:List V→Hp→VK→Prop):Prop :=
 ∀ (pins:List (Addr × Obj)) (s:Shared) (σ:St) (H:Hp) (xs:List V) (us:List Value) (Q:VK),Inv X pins σ H s→Vals xs us→r xs H Q →
  wpAny (model X.prog X.w) X.A (call f us) (EP X pins σ Q) X.xe s
def TruR (X:Cx) (r:V→Hp→(Bool→Hp→Prop)→Prop):Prop :=
 ∀ (pins:List (Addr × Obj)) (s:Shared) (σ:St) (H:Hp) (x:V) (v:Value) (Q:Bool→Hp→Prop),Inv X pins σ H s→RelV x v→r x H Q →
  wpAny (model X.prog X.w) X.A (truthy v) (TP X pins σ Q) X.xe s
def tOp (r:R2) (ta tb:TE):TE:=fun σ H Q => ta σ H fun x H1 => tb σ H1 fun y H2 => r x y H2 Q
def tUn (r:V→Hp→VK→Prop) (ta:TE):TE:=fun σ H Q => ta σ H fun x H1 => r x H1 Q
def rI (C:Int→Int→Prop) (g:Int→Int→V):R2:=fun x y H Q => ∃ i j,x = .int i∧y = .int j∧C i j∧Q (g i j) H
def rI0 (g:Int→Int→V):R2:=fun x y H Q => ∃ i j,x = .int i∧y = .int j∧Q (g i j) H
def rU (g:Int→V):V→Hp→VK→Prop:=fun x H Q => ∃ i,x = .int i∧Q (g i) H
section
variable {X:Cx} {a b c:Expr} {ta tb tc:TE} {pos:Pos}
theorem binT (ha:PE X a ta) (hb:PE X b tb) {pins:List (Addr × Obj)} {s:Shared} {σ:St} {H:Hp} {R:V→V→Hp→Prop} (I:Inv X pins σ H s)
  (h:ta σ H fun x H1 => tb σ H1 fun y H2 => R x y H2) {Q:Value→Shared→Prop} {f:Value→Value→Sem Value}
  (hf:∀ v u s2 x y H2,Inv X pins σ H2 s2→RelV x v→RelV y u→R x y H2→wpAny (model X.prog X.w) X.A (f v u) Q X.xe s2) :
  wpAny (model X.prog X.w) X.A (eval a X.env) (fun v s₁ => wpAny (model X.prog X.w) X.A (eval b X.env) (fun u s₂ => wpAny (model X.prog X.w) X.A (f v u) Q X.xe s₂) X.xe s₁) X.xe s:=by
 refine thn (ha pins s σ H _ I h) fun v s1 ⟨x,H1,I1,r1,q1⟩ => ?_
 refine thn (hb pins s1 σ H1 _ I1 q1) fun u s2 ⟨y,H2,I2,r2,q2⟩ => ?_
 exact hf v u s2 x y H2 I2 r1 r2 q2
theorem pe_op {op:Operator} {r:R2} (ho:OpR X (binaryOp op) r) (ha:PE X a ta) (hb:PE X b tb):PE X (.BinOp a op b pos) (tOp r ta tb):=by
 intro pins s σ H Q I h
 exact wpAny_BinOp (binT ha hb I h fun v u s2 x y H2 I2 rx ry q => ho pins s2 σ H2 x y v u Q I2 rx ry q)
theorem pe_un {op:UnaryOp} {r:V→Hp→VK→Prop} (ho:UnR X (unaryOp op) r) (ha:PE X a ta):PE X (.UnaryOp op a pos) (tUn r ta):=by
 intro pins s σ H Q I h
 exact UnaryOp_ (thn (ha pins s σ H _ I h) fun v s1 ⟨x,H1,I1,r1,q1⟩ => ho pins s1 σ H1 x v Q I1 r1 q1)
theorem opI {f:Value→Value→Sem Value} {C:Int→Int→Prop} {g:Int→Int→Int}
  (rule:∀ (i j:Int) (t u:Tok) (s:Shared) (Q:Value→Shared→Prop) (E:Value→Shared→Prop),C i j→Q (.int (g i j) s.toks) { s with toks:=s.toks + 1 }→wpAny (model X.prog X.w) X.A (f (.int i t) (.int j u)) Q E s) :
  OpR X f (rI C fun i j => .int (g i j)):=by
 intro pins s σ H x y v u Q I rx ry h
 obtain ⟨i,j,rfl,rfl,hc,q⟩:=h
 obtain ⟨t,rfl⟩:=rx
 obtain ⟨t',rfl⟩:=ry
 exact rule i j t t' s _ _ hc ⟨.int (g i j),H,I.tok _,⟨_,rfl⟩,q⟩
theorem opI0 {f:Value→Value→Sem Value} {g:Int→Int→Int}
  (rule:∀ (i j:Int) (t u:Tok) (s:Shared) (Q:Value→Shared→Prop) (E:Value→Shared→Prop),Q (.int (g i j) s.toks) { s with toks:=s.toks + 1 }→wpAny (model X.prog X.w) X.A (f (.int i t) (.int j u)) Q E s) :
  OpR X f (rI0 fun i j => .int (g i j)):=by
 intro pins s σ H x y v u Q I rx ry h
 obtain ⟨i,j,rfl,rfl,q⟩:=h
 obtain ⟨t,rfl⟩:=rx
 obtain ⟨t',rfl⟩:=ry
 exact rule i j t t' s _ _ ⟨.int (g i j),H,I.tok _,⟨_,rfl⟩,q⟩
theorem opB0 {f:Value→Value→Sem Value} {g:Int→Int→Bool}
  (rule:∀ (i j:Int) (t u:Tok) (s:Shared) (Q:Value→Shared→Prop) (E:Value→Shared→Prop),Q (.bool (g i j)) s→wpAny (model X.prog X.w) X.A (f (.int i t) (.int j u)) Q E s) :
  OpR X f (rI0 fun i j => .bl (g i j)):=by
 intro pins s σ H x y v u Q I rx ry h
 obtain ⟨i,j,rfl,rfl,q⟩:=h
 obtain ⟨t,rfl⟩:=rx
 obtain ⟨t',rfl⟩:=ry
 exact rule i j t t' s _ _ ⟨.bl (g i j),H,I,rfl,q⟩
def CDiv (i j:Int):Prop:=0 < j∧j < 1073741824
def CPow (i j:Int):Prop:=0≤j∧j≤1000000∧i.natAbs < 2 ^ 64
def CMul (i j:Int):Prop:=(-(2 ^ 64) < i∧i < 2 ^ 64)∨(-(2 ^ 64) < j∧j < 2 ^ 64)
theorem CMul.ok {i j:Int} (h:CMul i j):IntMulOk i j:=by
 rcases h with ⟨h1,h2⟩ | ⟨h1,h2⟩
 ·exact .of_left (intBits_le_64 h1 h2)
 ·exact .of_right (intBits_le_64 h1 h2)
theorem two_pow_nn (k:Nat):(0:Int)≤2 ^ k:=by
 rw [two_pow_cast]
 exact Int.natCast_nonneg _
theorem op_add:OpR X (binaryOp .Add) (rI0 fun i j => .int (i + j)):=opI0 fun _ _ _ _ _ _ _ q => add_int q
theorem op_sub:OpR X (binaryOp .Sub) (rI0 fun i j => .int (i - j)):=opI0 fun _ _ _ _ _ _ _ q => sub_int q
theorem op_mul:OpR X (binaryOp .Mult) (rI CMul fun i j => .int (i * j)):=opI fun _ _ _ _ _ _ _ hc q => mul_int q hc.ok
theorem op_fdiv:OpR X (binaryOp .FloorDiv) (rI CDiv fun i j => .int (i / j)):=opI fun i j _ _ _ _ _ hc q => by
 have h1:(0:Int) < j:=hc.1
 have h2:j < 1073741824:=hc.2
 exact floordiv_int (by omega) (by rw [Int.fdiv_eq_ediv_of_nonneg i (by omega)]; exact q) (.inl (PyProof.noPylong_small (by omega)))
theorem op_mod:OpR X (binaryOp .Mod) (rI (fun _ j => 0 < j) fun i j => .int (i % j)):=opI fun i j _ _ _ _ _ hc q => by
 have h1:(0:Int) < j:=hc
 exact mod_int' (by omega) (by rw [Int.fmod_eq_emod_of_nonneg i (by omega)]; exact q)
theorem op_shl:OpR X (binaryOp .LShift) (rI CPow fun i j => .int (i * 2 ^ j.toNat)):=opI fun _ _ _ _ _ _ _ hc q => lshift_int_small hc.1 hc.2.1 hc.2.2 q
theorem op_shr:OpR X (binaryOp .RShift) (rI (fun _ j => 0≤j) fun i j => .int (i / 2 ^ j.toNat)):=opI fun i j _ _ _ _ _ hc q =>
 rshift_int hc (by rw [Int.fdiv_eq_ediv_of_nonneg i (two_pow_nn _)]; exact q)
theorem op_and:OpR X (binaryOp .BitAnd) (rI0 fun i j => .int (Builtin.bitAnd i j)):=opI0 fun _ _ _ _ _ _ _ q => and_int q
theorem op_or:OpR X (binaryOp .BitOr) (rI0 fun i j => .int (Builtin.bitOr i j)):=opI0 fun _ _ _ _ _ _ _ q => or_int q
theorem unI {f:Value→Sem Value} {g:Int→Int}
  (rule:∀ (i:Int) (t:Tok) (s:Shared) (Q:Value→Shared→Prop) (E:Value→Shared→Prop),Q (.int (g i) s.toks) { s with toks:=s.toks + 1 }→wpAny (model X.prog X.w) X.A (f (.int i t)) Q E s) :
  UnR X f (rU fun i => .int (g i)):=by
 intro pins s σ H x v Q I rx h
 obtain ⟨i,rfl,q⟩:=h
 obtain ⟨t,rfl⟩:=rx
 exact rule i t s _ _ ⟨.int (g i),H,I.tok _,⟨_,rfl⟩,q⟩
theorem un_neg:UnR X (unaryOp .USub) (rU fun i => .int (-i)):=unI fun _ _ _ _ _ q => neg_int q
end
def scal:V→V→Bool
 | .non,.non => true | .non,.int _ => true | .int _,.non => true | .non,.bl _ => true | .bl _,.non => true | .non,.str _ => true | .str _,.non => true
 | .int _,.int _ => true | .bl _,.bl _ => true | .str _,.str _ => true | .byt _,.byt _ => true
 | .int _,.str _ => true | .str _,.int _ => true | .bl _,.str _ => true | .str _,.bl _ => true
 | _,_ => false
def rEq:R2:=fun x y H Q => scal x y = true∧Q (.bl (decide (x = y))) H
def rNe:R2:=fun x y H Q => scal x y = true∧Q (.bl (!decide (x = y))) H
theorem dec_int {i j:Int}:decide (V.int i = V.int j) = (i == j):=by
 rw [Bool.eq_iff_iff]
 simp
theorem dec_bl {i j:Bool}:decide (V.bl i = V.bl j) = (i == j):=by
 rw [Bool.eq_iff_iff]
 simp
theorem dec_str {i j:Str}:decide (V.str i = V.str j) = (i == j):=by
 rw [Bool.eq_iff_iff]
 simp
theorem dec_byt {i j:Array UInt8}:decide (V.byt i = V.byt j) = (i.toList == j.toList):=by
 rw [Bool.eq_iff_iff]
 cases i
 cases j
 simp
section
variable {X:Cx} {a b c:Expr} {ta tb tc:TE} {pos:Pos}
theorem fin_bl {pins:List (Addr × Obj)} {σ:St} {H:Hp} {s:Shared} {Q:VK} {k k':Bool} (I:Inv X pins σ H s) (q:Q (.bl k) H) (e:k = k'):EP X pins σ Q (.bool k') s:=by
 subst e
 exact ⟨.bl k,H,I,rfl,q⟩
theorem op_eq:OpR X (compareOp .Eq) rEq:=by
 intro pins s σ H x y v u Q I rx ry h
 obtain ⟨hs,q⟩:=h
 cases x with
 | non =>
  cases rx
  cases y with
  | non => cases ry; exact PySem.EqNone.eq_none_none (fin_bl I q (by simp))
  | bl j => cases ry; exact PySem.EqNone.eq_none_bool (fin_bl I q (by simp))
  | int j => obtain ⟨t',rfl⟩:=ry; exact PySem.EqNone.eq_none_int (fin_bl I q (by simp))
  | str j => obtain ⟨t',rfl⟩:=ry; exact PySem.EqNone.eq_none_str (fin_bl I q (by simp))
  | _ => exact absurd (show false = true from hs) Bool.false_ne_true
 | bl i =>
  cases rx
  cases y with
  | non => cases ry; exact PySem.EqNone.eq_bool_none (fin_bl I q (by simp))
  | bl j => cases ry; exact eq_bool (fin_bl I q dec_bl)
  | str j => obtain ⟨t',rfl⟩:=ry; exact PySem.EqMixed.eq_bool_str (fin_bl I q (by simp))
  | _ => exact absurd (show false = true from hs) Bool.false_ne_true
 | int i =>
  obtain ⟨t,rfl⟩:=rx
  cases y with
  | non => cases ry; exact PySem.EqNone.eq_int_none (fin_bl I q (by simp))
  | int j => obtain ⟨t',rfl⟩:=ry; exact eq_int (fin_bl I q dec_int)
  | str j => obtain ⟨t',rfl⟩:=ry; exact PySem.EqMixed.eq_int_str (fin_bl I q (by simp))
  | _ => exact absurd (show false = true from hs) Bool.false_ne_true
 | str i =>
  obtain ⟨t,rfl⟩:=rx
  cases y with
  | non => cases ry; exact PySem.EqNone.eq_str_none (fin_bl I q (by simp))
  | bl j => cases ry; exact PySem.EqMixed.eq_str_bool (fin_bl I q (by simp))
  | int j => obtain ⟨t',rfl⟩:=ry; exact PySem.EqMixed.eq_str_int (fin_bl I q (by simp))
  | str j => obtain ⟨t',rfl⟩:=ry; exact eq_str (fin_bl I q dec_str)
  | _ => exact absurd (show false = true from hs) Bool.false_ne_true
 | byt i =>
  obtain ⟨t,rfl⟩:=rx
  cases y with
  | byt j => obtain ⟨t',rfl⟩:=ry; exact PySem.W.eq_bytes (fin_bl I q dec_byt)
  | _ => exact absurd (show false = true from hs) Bool.false_ne_true
 | _ => cases y <;> exact absurd (show false = true from hs) Bool.false_ne_true
theorem op_ne:OpR X (compareOp .NotEq) rNe:=by
 intro pins s σ H x y v u Q I rx ry h
 obtain ⟨hs,q⟩:=h
 cases x with
 | non =>
  cases rx
  cases y with
  | non => cases ry; exact PySem.EqNone.ne_none_none (fin_bl I q (by simp))
  | bl j => cases ry; exact PySem.EqNone.ne_none_bool (fin_bl I q (by simp))
  | int j => obtain ⟨t',rfl⟩:=ry; exact PySem.EqNone.ne_none_int (fin_bl I q (by simp))
  | str j => obtain ⟨t',rfl⟩:=ry; exact PySem.EqNone.ne_none_str (fin_bl I q (by simp))
  | _ => exact absurd (show false = true from hs) Bool.false_ne_true
 | bl i =>
  cases rx
  cases y with
  | non => cases ry; exact PySem.EqNone.ne_bool_none (fin_bl I q (by simp))
  | bl j => cases ry; exact ne_bool (fin_bl I q (congrArg not dec_bl))
  | str j => obtain ⟨t',rfl⟩:=ry; exact PySem.EqMixed.ne_bool_str (fin_bl I q (by simp))
  | _ => exact absurd (show false = true from hs) Bool.false_ne_true
 | int i =>
  obtain ⟨t,rfl⟩:=rx
  cases y with
  | non => cases ry; exact PySem.EqNone.ne_int_none (fin_bl I q (by simp))
  | int j => obtain ⟨t',rfl⟩:=ry; exact ne_int (fin_bl I q (congrArg not dec_int))
  | str j => obtain ⟨t',rfl⟩:=ry; exact PySem.EqMixed.ne_int_str (fin_bl I q (by simp))
  | _ => exact absurd (show false = true from hs) Bool.false_ne_true
 | str i =>
  obtain ⟨t,rfl⟩:=rx
  cases y with
  | non => cases ry; exact PySem.EqNone.ne_str_none (fin_bl I q (by simp))
  | bl j => cases ry; exact PySem.EqMixed.ne_str_bool (fin_bl I q (by simp))
  | int j => obtain ⟨t',rfl⟩:=ry; exact PySem.EqMixed.ne_str_int (fin_bl I q (by simp))
  | str j => obtain ⟨t',rfl⟩:=ry; exact ne_str (fin_bl I q (congrArg not dec_str))
  | _ => exact absurd (show false = true from hs) Bool.false_ne_true
 | byt i =>
  obtain ⟨t,rfl⟩:=rx
  cases y with
  | byt j => obtain ⟨t',rfl⟩:=ry; exact PySem.W.ne_bytes (fin_bl I q (congrArg not dec_byt))
  | _ => exact absurd (show false = true from hs) Bool.false_ne_true
 | _ => cases y <;> exact absurd (show false = true from hs) Bool.false_ne_true
theorem op_lt:OpR X (compareOp .Lt) (rI0 fun i j => .bl (decide (i < j))):=opB0 fun _ _ _ _ _ _ _ q => lt_int q
theorem op_le:OpR X (compareOp .LtE) (rI0 fun i j => .bl (decide (i≤j))):=opB0 fun _ _ _ _ _ _ _ q => le_int q
theorem nomark (b:Expr) {op:CmpOp} (h:op≠.In:=by decide) (h2:op≠.NotIn:=by decide):behindInMarks op b = false:=by
 have e1:(op == CmpOp.In) = false:=by cases op <;> first | rfl | exact absurd rfl h
 have e2:(op == CmpOp.NotIn) = false:=by cases op <;> first | rfl | exact absurd rfl h2
 cases b <;> simp [behindInMarks,e1,e2]
theorem pe_cmpR {op:CmpOp} {r:R2} (ho:OpR X (compareOp op) r) (ha:PE X a ta) (hb:PE X b tb) (hm:behindInMarks op b = false):PE X (.Compare a [op] [b] pos) (tOp r ta tb):=by
 intro pins s σ H Q I h
 exact wpAny_Compare1 (binT ha hb I h fun v u s2 x y H2 I2 rx ry q => ho pins s2 σ H2 x y v u Q I2 rx ry q) hm
def tTest (t:TE):TT:=fun σ H Q => t σ H fun x H' => ∃ k,x = .bl k∧Q k H'
theorem pt_cmpR {op:CmpOp} {r:R2} (ho:OpR X (compareOp op) r) (ha:PE X a ta) (hb:PE X b tb) (hm:behindInMarks op b = false):PT X (.Compare a [op] [b] pos) (tTest (tOp r ta tb)):=by
 intro pins s σ H Q I h
 refine wpAny_isTrue_Compare1 (thn (ha pins s σ H _ I h) fun v s1 ⟨x,H1,I1,r1,q1⟩ => thn (hb pins s1 σ H1 _ I1 q1) fun u s2 ⟨y,H2,I2,r2,q2⟩ =>
  thn (ho pins s2 σ H2 x y v u _ I2 r1 r2 q2) fun c s3 ⟨z,H3,I3,r3,k,e,q3⟩ => ?_) hm
 subst e
 cases r3
 exact wpAny_truthy_bool ⟨H3,I3,q3⟩
def tChain (r r':R2) (ta tb tc:TE):TE:=fun σ H Q => ta σ H fun x H1 => tb σ H1 fun y H2 => r x y H2 fun z H3 => ∃ k,z = .bl k ∧
 (if k = true then tc σ H3 fun w' H4 => r' y w' H4 Q else Q (.bl false) H3)
theorem pe_chain {op op':CmpOp} {r r':R2} (ho:OpR X (compareOp op) r) (ho':OpR X (compareOp op') r') (ha:PE X a ta) (hb:PE X b tb) (hc:PE X c tc)
  (hm:lastMarks [op,op'] [b,c] = false:=by with_unfolding_all rfl):PE X (.Compare a [op,op'] [b,c] pos) (tChain r r' ta tb tc):=by
 intro pins s σ H Q I h
 refine Compare_chain (thn (ha pins s σ H _ I h) fun v s1 ⟨x,H1,I1,r1,q1⟩ => chain_link (thn (hb pins s1 σ H1 _ I1 q1) fun u s2 ⟨y,H2,I2,r2,q2⟩ =>
  thn (ho pins s2 σ H2 x y v u _ I2 r1 r2 q2) fun d s3 ⟨z,H3,I3,r3,k,e,q3⟩ => ?_)) hm
 subst e
 cases r3
 refine wpAny_truthy_bool ?_
 cases k with
 | false => exact ite_ff ⟨.bl false,H3,I3,rfl,q3⟩
 | true => exact ite_tt (chain_last (thn (hc pins s3 σ H3 _ I3 q3) fun w' s4 ⟨z',H4,I4,r4,q4⟩ => ho' pins s4 σ H4 y z' u w' Q I4 r2 r4 q4))
theorem pt_chain {op op':CmpOp} {r r':R2} (ho:OpR X (compareOp op) r) (ho':OpR X (compareOp op') r') (ha:PE X a ta) (hb:PE X b tb) (hc:PE X c tc)
  (hm:lastMarks [op,op'] [b,c] = false:=by with_unfolding_all rfl):PT X (.Compare a [op,op'] [b,c] pos) (tTest (tChain r r' ta tb tc)):=by
 intro pins s σ H Q I h
 refine isTrue_chain (thn (ha pins s σ H _ I h) fun v s1 ⟨x,H1,I1,r1,q1⟩ => test_link (thn (hb pins s1 σ H1 _ I1 q1) fun u s2 ⟨y,H2,I2,r2,q2⟩ =>
  thn (ho pins s2 σ H2 x y v u _ I2 r1 r2 q2) fun d s3 ⟨z,H3,I3,r3,k,e,q3⟩ => ?_)) hm
 subst e
 cases r3
 refine wpAny_truthy_bool ?_
 cases k with
 | false =>
  obtain ⟨k',e',q'⟩:=q3
  cases e'
  exact ite_ff ⟨H3,I3,q'⟩
 | true =>
  refine ite_tt (test_last (thn (hc pins s3 σ H3 _ I3 q3) fun w' s4 ⟨z',H4,I4,r4,q4⟩ => thn (ho' pins s4 σ H4 y z' u w' _ I4 r2 r4 q4) fun d' s5 ⟨z2,H5,I5,r5,k2,e2,q5⟩ => ?_))
  subst e2
  cases r5
  exact wpAny_truthy_bool ⟨H5,I5,q5⟩
def TruV (K:PySem.W.Frag) (x:V) (H:Hp) (k:Bool):Prop :=
 match x with
 | .non => k = false
 | .bl b => k = b
 | .int i => k = (i != 0)
 | .str y => y.length≤sizeLine∧k = ((y.length:Int) != 0)
 | .byt y => y.size≤sizeLine∧k = ((y.size:Int) != 0)
 | .ref p => (∃ xs,SqL K H p xs∧k = !xs.isEmpty)∨(∃ xs,SqT K H p xs∧k = !xs.isEmpty)∨∃ kvs,H p = some (.dK kvs)∧k = !kvs.isEmpty
 | _ => False
theorem isEmpty_kv {κ:Type} {kvs:List (κ × V)} {vs:List (κ × Value)} (r:KV kvs vs):(!vs.isEmpty) = !kvs.isEmpty:=by
 cases r <;> rfl
theorem isEmpty_of {xs:List V} {its:List Value} (r:Vals xs its):(!its.toArray.isEmpty) = !xs.isEmpty:=by
 cases r <;> simp
theorem line63:(sizeLine:Nat) < 2 ^ 63:=by rw [sizeLine_eq]; decide
theorem tru_ok:TruR X (fun x H Q => ∃ k,TruV X.K x H k∧Q k H):=by
 intro pins s σ H x v Q I rx h
 obtain ⟨k,e,q⟩:=h
 have hl:=line63
 have hs:sizeLine = 16777216:=sizeLine_eq
 cases x with
 | non =>
  cases rx
  have e':k = false:=e
  subst e'
  exact truthy_none ⟨H,I,q⟩
 | bl b =>
  cases rx
  have e':k = b:=e
  subst e'
  exact wpAny_truthy_bool ⟨H,I,q⟩
 | int i =>
  obtain ⟨t,rfl⟩:=rx
  have e':k = (i != 0):=e
  subst e'
  exact PySem.P.truthy_int ⟨H,I,q⟩
 | str y =>
  obtain ⟨t,rfl⟩:=rx
  obtain ⟨hy,e'⟩:y.length≤sizeLine∧k = ((y.length:Int) != 0):=e
  subst e'
  exact PySem.P.truthy_str (by omega) ⟨H,I.tok _,q⟩
 | byt y =>
  obtain ⟨t,rfl⟩:=rx
  obtain ⟨hy,e'⟩:y.size≤sizeLine∧k = ((y.size:Int) != 0):=e
  subst e'
  exact PySem.W.truthy_bytes (by omega) ⟨H,I.tok _,q⟩
 | ref p =>
  cases rx
  have e':(∃ xs,SqL X.K H p xs∧k = !xs.isEmpty)∨(∃ xs,SqT X.K H p xs∧k = !xs.isEmpty)∨∃ kvs,H p = some (.dK kvs)∧k = !kvs.isEmpty:=e
  rcases e' with ⟨xs,hx,e'⟩ | ⟨xs,hx,e'⟩ | ⟨kvs,hx,e'⟩
  ·subst e'
   obtain ⟨its,r,pl,hz⟩:=I.list hx
   have hlen:=r.length
   exact wpAny_truthy_list pl.isList (by simp only [List.size_toArray]; omega) ⟨H,I.tok _,by rw [isEmpty_of r]; exact q⟩
  ·subst e'
   obtain ⟨its,r,pl,hz⟩:=I.tuple hx
   have hlen:=r.length
   exact truthy_tuple pl (by simp only [List.size_toArray]; omega) ⟨H,I.tok _,by rw [isEmpty_of r]; exact q⟩
  ·subst e'
   obtain ⟨hz,hS,vs,r,m⟩:kvs.length≤sizeLine∧(p == sysModules) = false∧∃ vs,KV kvs vs∧s.heap.DictOf (mixKind X.prog X.w) p vs:=I.hok p _ hx
   have hlen:kvs.length = vs.length:=Paired.length r
   exact wpAny_truthy_dict hS m (by omega) ⟨H,I.tok _,by rw [isEmpty_kv r]; exact q⟩
 | _ => exact (show False from e).elim
theorem pt_truth (ha:PE X a ta) (he:∀ whole,isTrue a X.env whole = (do let v ← whole; standAt a.pos; holding [v] (truthy v))) :
  PT X a (fun σ H Q => ta σ H fun x H' => ∃ k,TruV X.K x H' k∧Q k H'):=by
 intro pins s σ H Q I h
 exact isTrue_plain (thn (ha pins s σ H _ I h) fun v s1 ⟨x,H1,I1,r1,q1⟩ => tru_ok pins s1 σ H1 x v Q I1 r1 q1) (he _)
theorem vals1 {x:V} {us:List Value} (r:Vals [x] us):∃ u,us = [u]∧RelV x u:=by
 cases r with
 | cons r1 r2 => cases r2; exact ⟨_,rfl,r1⟩
theorem vals2 {x y:V} {us:List Value} (r:Vals [x,y] us):∃ u w',us = [u,w']∧RelV x u∧RelV y w':=by
 cases r with
 | cons r1 r2 =>
  cases r2 with
  | cons r3 r4 => cases r4; exact ⟨_,_,rfl,r1,r3⟩
end
end L2
namespace L2
open PySem PySem.Spec PyProof.Rows
structure ObjM (h:Heap) (x dx C:Addr) (mA:Str→Option Value):Prop where
 obj:h.get? x = some (PySem.W.instObj C dx)
 ns:h.Ns1 dx mA
 ne:dx≠x
theorem lookIn_ns {h:Heap} {dx:Addr} {mA:Str→Option Value} (n:h.Ns1 dx mA):∃ od,h.get? dx = some od∧∀ name,PySem.W.lookIn name od = some (mA name):=by
 obtain ⟨o,es,ep,ho,hd,hk,_,hm⟩:=n
 refine ⟨o,ho,fun name => ?_⟩
 have e:=hm name
 unfold nsFind findBy at e
 rw [← Array.find?_toList] at e
 unfold PySem.W.lookIn
 rw [hd]
 dsimp only
 split
 ·rename_i y q
  rw [q] at e
  exact congrArg some e
 ·rename_i q
  rw [q] at e
  have a:es.toList.any (·.refKey) = false:=by
   rw [List.any_eq_false]
   intro y hy
   obtain ⟨z,t,hkey⟩:=hk y (Array.mem_toList_iff.mp hy)
   simp [DictEntry.refKey,hkey]
  have a':¬ es.toList.any (·.refKey) = true:=by rw [a]; exact Bool.false_ne_true
  rw [if_neg a']
  exact congrArg some e
theorem ObjM.look {h:Heap} {x dx C:Addr} {mA:Str→Option Value} (I:ObjM h x dx C mA):∃ od,PySem.W.InstAt h x (PySem.W.instObj C dx) C (some od)∧∀ name,PySem.W.lookIn name od = some (mA name) :=
 let ⟨od,ho,hl⟩:=lookIn_ns I.ns
 ⟨od,⟨I.obj,rfl,rfl,ho⟩,hl⟩
section
variable {prog:Program} {w:World} {A:Around} {E:Value→Shared→Prop} {s:Shared} {K:PySem.W.Frag} {x dx C f:Addr} {mA:Str→Option Value} {name:Str} {v:Value}
theorem get_map {expr:Bool} {Q:Value→Shared→Prop} (X:K.In s.heap) (I:ObjM s.heap x dx C mA) (hg:PySem.W.plainGet K C name = true) (hh:PySem.W.hasDictIn K C = true)
  (ha:PySem.W.findIn K (.ref C) name = some none) (hv:mA name = some v) (hv':PySem.W.handedIn v = true) (h:Q v { s with toks:=s.toks + 1 }) :
  wpAny (model prog w) A (getAttr (.ref x) name expr) Q E s:=by
 obtain ⟨od,J,hl⟩:=I.look
 exact PySem.W.get_value X J (PySem.W.plainGet_of hg).1 (PySem.W.findObj_own hh ha rfl (by rw [hl,hv])) hv' h
theorem get_meth {pl:Sem Bool} {Q:Value × List Value→Shared→Prop} (X:K.In s.heap) (I:ObjM s.heap x dx C mA) (hg:PySem.W.plainGet K C name = true)
  (hf:PySem.W.findIn K (.ref C) name = some (some (.ref f))) (ht:PySem.W.isFn K (.ref f) = true) (hv:mA name = none) (h:Q (.ref f,[.ref x]) s) :
  wpAny (model prog w) A (getMethod (.ref x) name pl) Q E s:=by
 obtain ⟨od,J,hl⟩:=I.look
 exact PySem.W.method_fn X J (PySem.W.plainGet_of hg).1 (PySem.W.plainGet_of hg).2 hf (beq_iff_eq.mp ht) (by show (PySem.W.lookIn name od).map (·.isSome) = some false; rw [hl,hv]; rfl) h
theorem set_map {ns:List Str} {Q:Unit→Shared→Prop} (X:K.In s.heap) (I:ObjM s.heap x dx C mA)
  (hs:PySem.W.findIn K (.ref C) "__setattr__" = some (some (.builtin "object.__setattr__"))) (hp:PySem.W.plainOver K C = true) (ht:PySem.W.takerIn K C name = some none) (hh:PySem.W.hasDictIn K C = true)
  (hw:PySem.Within mA ns) (hsz:ns.length≤sizeLine)
  (h:∀ h',ObjM h' x dx C (fun y => if y = name then some v else mA y)→Heap.SameBut dx s.heap h'→Q () { s with heap:=h',toks:=s.toks + 2 }) :
  wpAny (model prog w) A (setAttr (.ref x) name v) Q E s:=by
 obtain ⟨od,J,hl⟩:=I.look
 refine PySem.W.set_plain X J hs (PySem.W.osa_open (s:={ s with toks:=s.toks + 1 }) (r:=none) X J hp ht fun b => ?_)
 obtain ⟨cd,hc,hd'⟩:=PySem.W.any_some hh
 have hx:s.heap.get? x = some ⟨.ref C,some dx,.plain,#[]⟩:=I.obj
 refine wpAny_bind (wpAny_pure (wpAny_bind (wpAny_bind (wpAny_loadPart hx (wpAny_bind (PySem.W.Looks.here (s:={ s with toks:=s.toks + 1 }) (PySem.W.looks_clsIn X hc) ?_))))))
 rw [hd']
 refine wpAny_pure (a:=some dx) (wpAny_bind (wpAny_pure (wpAny_bind ?_)))
 refine wpAny_nsSet1 (s:={ s with toks:=s.toks + 1 }) I.ns fun h' hn2 hs2 => ?_
 obtain ⟨oD,esD,epD,hoD,hdD,hcD⟩:=hn2.count (PySem.Within.cons name v hw)
 refine wpAny_bind (wpAny_lookBehind hoD (by rw [hdD]; exact pastItsLine_dict (Nat.le_trans hcD (by rw [List.length_cons]; omega))) ?_)
 exact wpAny_pure (h _ ⟨(hs2.2 _ (Ne.symm I.ne)).trans I.obj,hn2,I.ne⟩ hs2)
theorem make_map {R:Result→Shared→Prop} {vs:List Value} {kw:List (Str × Value)} (X:K.In s.heap) (hm:PySem.W.makesIn K C = true)
  (hi:PySem.W.findIn K (.ref C) "__init__" = some (some (.ref f))) (hf:PySem.W.typeIn K (.ref f) = some (.type "function"))
  (h:codeAny (model prog w) (A.under (.builtin "type.__call__" ⟨.ref C :: vs,kw⟩)) (.call (.ref f) ⟨.ref (s.heap.objs.size + 1) :: vs,kw⟩) (PySem.W.InitBack (s.heap.objs.size + 1) R)
   { s with heap:=(s.heap.push PySem.W.emptyDict).push (PySem.W.instObj C s.heap.objs.size) }) :
  codeAny (model prog w) A (.call (.ref C) ⟨vs,kw⟩) R s:=by
 obtain ⟨hh,g,d,t,os⟩:=s
 exact PySem.W.make_core (PySem.W.makes_of X hm) (PySem.W.looks_findIn X hi) (fun self => PySem.W.bind_fn X self hf) (.inl rfl) h
end
def putF (f:Str) (v:V):List (Str × V)→List (Str × V)
 | [] => [(f,v)]
 | (g,x) :: r => if g = f then (g,v) :: r else (g,x) :: putF f v r
theorem lookup_putF (f g:Str) (v:V):∀ fs:List (Str × V),(putF f v fs).lookup g = if g = f then some v else fs.lookup g
 | [] => by
  show List.lookup g [(f,v)] = _
  by_cases h:g = f
  ·have hb:(g == f) = true:=beq_iff_eq.mpr h
   simp only [List.lookup,hb,if_pos h]
  ·have hb:(g == f) = false:=beq_eq_false_iff_ne.mpr h
   simp only [List.lookup,hb,if_neg h]
 | (k,x) :: r => by
  have ih:=lookup_putF f g v r
  rw [show putF f v ((k,x) :: r) = (if k = f then (k,v) :: r else (k,x) :: putF f v r) from rfl]
  by_cases hk:k = f
  ·rw [if_pos hk]
   by_cases h:g = k
   ·have hb:(g == k) = true:=beq_iff_eq.mpr h
    simp only [List.lookup,hb,if_pos (h.trans hk)]
   ·have hb:(g == k) = false:=beq_eq_false_iff_ne.mpr h
    simp only [List.lookup,hb,if_neg (fun e:g = f => h (e.trans hk.symm))]
  ·rw [if_neg hk]
   by_cases h:g = k
   ·have hb:(g == k) = true:=beq_iff_eq.mpr h
    simp only [List.lookup,hb,if_neg (fun e:g = f => hk (h.symm.trans e))]
   ·have hb:(g == k) = false:=beq_eq_false_iff_ne.mpr h
    simp only [List.lookup,hb]
    exact ih
theorem keys_putF (f:Str) (v:V):∀ fs:List (Str × V),f∈(putF f v fs).map (·.1)∧∀ g,g∈fs.map (·.1)→g∈(putF f v fs).map (·.1)
 | [] => ⟨by simp [putF],fun g h => by simp at h⟩
 | (k,x) :: r => by
  obtain ⟨i1,i2⟩:=keys_putF f v r
  rw [show putF f v ((k,x) :: r) = (if k = f then (k,v) :: r else (k,x) :: putF f v r) from rfl]
  by_cases hk:k = f
  ·rw [if_pos hk]
   subst hk
   exact ⟨by simp,fun g h => by simpa using h⟩
  ·rw [if_neg hk]
   refine ⟨?_,fun g h => ?_⟩
   ·rw [List.map_cons]
    exact List.mem_cons_of_mem _ i1
   ·rw [List.map_cons] at h ⊢
    rcases List.mem_cons.mp h with e | e
    ·exact List.mem_cons.mpr (.inl e)
    ·exact List.mem_cons_of_mem _ (i2 g e)
theorem length_putF (f:Str) (v:V):∀ fs:List (Str × V),(putF f v fs).length≤fs.length + 1
 | [] => by simp [putF]
 | (k,x) :: r => by
  have ih:=length_putF f v r
  rw [show putF f v ((k,x) :: r) = (if k = f then (k,v) :: r else (k,x) :: putF f v r) from rfl]
  by_cases hk:k = f
  ·rw [if_pos hk,List.length_cons,List.length_cons]; omega
  ·rw [if_neg hk,List.length_cons,List.length_cons]; omega
theorem RelO.some_of {v:V} {o:Option Value} (r:RelO (some v) o):∃ u,o = some u∧RelV v u:=by
 cases o with
 | none => exact (show False from r).elim
 | some u => exact ⟨u,rfl,r⟩
theorem RelO.none_of {o:Option Value} (r:RelO none o):o = none:=by
 cases o with
 | none => rfl
 | some u => exact (show False from r).elim
theorem handed_of {v:V} {u:Value} (r:RelV v u):PySem.W.handedIn u = true:=by
 cases v with
 | non => cases (show u = Value.none from r); rfl
 | bl b => cases (show u = Value.bool b from r); rfl
 | int i => obtain ⟨t,e⟩:=(show ∃ t,u = Value.int i t from r); cases e; rfl
 | str x => obtain ⟨t,e⟩:=(show ∃ t,u = Value.str x t from r); cases e; rfl
 | byt b => obtain ⟨t,e⟩:=(show ∃ t,u = Value.bytes b t from r); cases e; rfl
 | flt b => obtain ⟨t,e⟩:=(show ∃ t,u = Value.float b t from r); cases e; rfl
 | ref a => cases (show u = Value.ref a from r); rfl
 | ty n => cases (show u = Value.type n from r); rfl
section
variable {P:Program} {w:World} {H H':Hp} {h h':Heap} {a C dx:Addr} {fs fs':List (Str × V)}
theorem ins_get (hok:HOk P w H h) (e:H a = some (.ins C dx fs)):∃ mA,ObjM h a dx C mA∧(∀ f,RelO (fs.lookup f) (mA f))∧PySem.Within mA (fs.map (·.1))∧fs.length≤1000∧H dx = some (.own a):=by
 obtain ⟨d,z,ne,ob,mA,n,r,q⟩:=(show ObjOk P w H h a (.ins C dx fs) from hok a _ e)
 exact ⟨mA,⟨ob,n,ne⟩,r,q,z,d⟩
end
structure Cls (K:PySem.W.Frag) (C:Addr):Prop where
 pg:PySem.W.plainGet K C Str.empty = true
 hd:PySem.W.hasDictIn K C = true
 po:PySem.W.plainOver K C = true
 sa:PySem.W.findIn K (.ref C) "__setattr__" = some (some (.builtin "object.__setattr__"))
theorem Cls.get {K:PySem.W.Frag} {C:Addr} (c:Cls K C) (f:Str):PySem.W.plainGet K C f = true:=c.pg
def NoAttr (K:PySem.W.Frag) (C:Addr) (f:Str):Prop:=PySem.W.findIn K (.ref C) f = some none
theorem NoAttr.taker {K:PySem.W.Frag} {C:Addr} {f:Str} (n:NoAttr K C f):PySem.W.takerIn K C f = some none:=by
 unfold PySem.W.takerIn
 rw [show PySem.W.findIn K (.ref C) f = some none from n]
 rfl
structure Meth (K:PySem.W.Frag) (C:Addr) (m:Str) (f:Addr):Prop where
 at_:PySem.W.findIn K (.ref C) m = some (some (.ref f))
 fn:PySem.W.isFn K (.ref f) = true
 kp:PySem.W.keepIn K (.ref f) = true
section
variable {X:Cx} {pins:List (Addr × Obj)} {σ:St} {H:Hp} {s:Shared} {a C dx:Addr} {fs:List (Str × V)} {f:Str} {v:V} {A:Around} {E:Value→Shared→Prop}
theorem getattr_ok {b:Bool} {Q:Value→Shared→Prop} (I:Inv X pins σ H s) (e:H a = some (.ins C dx fs)) (c:Cls X.K C) (n:NoAttr X.K C f) (l:fs.lookup f = some v)
  (h:∀ u s',Inv X pins σ H s'→RelV v u→Q u s'):wpAny (model X.prog X.w) A (getAttr (.ref a) f b) Q E s:=by
 obtain ⟨mA,O,r,_,_,_⟩:=ins_get I.hok e
 obtain ⟨u,hu,ru⟩:=RelO.some_of (v:=v) (o:=mA f) (by rw [← l]; exact r f)
 exact get_map I.kIn O (c.get f) c.hd n hu (handed_of ru) (h u _ (I.tok _) ru)
theorem getmeth_ok {m:Str} {g:Addr} {pl:Sem Bool} {Q:Value × List Value→Shared→Prop} (I:Inv X pins σ H s) (e:H a = some (.ins C dx fs)) (c:Cls X.K C) (k:Meth X.K C m g) (l:fs.lookup m = none)
  (h:Q (.ref g,[.ref a]) s):wpAny (model X.prog X.w) A (getMethod (.ref a) m pl) Q E s:=by
 obtain ⟨mA,O,r,_,_,_⟩:=ins_get I.hok e
 have hn:mA m = none:=RelO.none_of (by rw [← l]; exact r m)
 exact get_meth I.kIn O (c.get m) k.at_ k.fn hn h
theorem setattr_ok {y:V} {u:Value} {Q:Unit→Shared→Prop} (I:Inv X pins σ H s) (e:H a = some (.ins C dx fs)) (c:Cls X.K C) (n:NoAttr X.K C f) (hl:fs.length < 1000) (ry:RelV y u)
  (h:∀ s',Inv X pins σ (upd H a (.ins C dx (putF f y fs))) s'→Q () s'):wpAny (model X.prog X.w) A (setAttr (.ref a) f u) Q E s:=by
 obtain ⟨mA,O,r,wi,_,ho⟩:=ins_get I.hok e
 have hz:(fs.map (·.1)).length≤sizeLine:=by rw [List.length_map,sizeLine_eq]; omega
 refine set_map I.kIn O c.sa c.po n.taker c.hd wi hz fun h' O' sb => h _ ?_
 have hd:∃ o,h'.get? dx = some o:=let ⟨o,_,_,e',_⟩:=O'.ns; ⟨o,e'⟩
 refine I.write (x:=a) (e:=dx) (by rw [e]; exact True.intro) (.inr ho) (fun b q hb z => (sb.2 b hb).trans z) hd ?_
 refine ⟨by rw [upd_ne O.ne]; exact ho,?_,O.ne,O'.obj,_,O'.ns,fun g => ?_,fun g hg => ?_⟩
 ·have:=length_putF f y fs; omega
 ·show RelO ((putF f y fs).lookup g) (if g = f then some u else mA g)
  rw [lookup_putF]
  by_cases q:g = f
  ·rw [if_pos q,if_pos q]; exact ry
  ·rw [if_neg q,if_neg q]; exact r g
 ·by_cases q:g = f
  ·rw [q]; exact (keys_putF f y fs).1
  ·refine (keys_putF f y fs).2 g (wi g fun z => hg ?_)
   show (if g = f then some u else mA g) = none
   rw [if_neg q]; exact z
theorem Inv.made (I:Inv X pins σ H s):Inv X pins σ (upd (upd H s.heap.objs.size (.own (s.heap.objs.size + 1))) (s.heap.objs.size + 1) (.ins C s.heap.objs.size []))
  { s with heap:=(s.heap.push PySem.W.emptyDict).push (PySem.W.instObj C s.heap.objs.size) }:=by
 have e1:(s.heap.push PySem.W.emptyDict).get? s.heap.objs.size = some PySem.W.emptyDict:=Heap.get?_push_size s.heap rfl
 have e2:((s.heap.push PySem.W.emptyDict).push (PySem.W.instObj C s.heap.objs.size)).get? (s.heap.objs.size + 1) = some (PySem.W.instObj C s.heap.objs.size):=by
  have:=Heap.get?_push_size (s.heap.push PySem.W.emptyDict) (o:=PySem.W.instObj C s.heap.objs.size) rfl
  rwa [Heap.size_push] at this
 have e3:(s.heap.push PySem.W.emptyDict).Ns s.heap.objs.size (fun _ => none):=⟨PySem.W.emptyDict,#[],_,e1,rfl,(fun e he => absurd he (by simp)),fun _ => rfl⟩
 have I1:=I.laid (a:=s.heap.objs.size) (o:=.own (s.heap.objs.size + 1)) (h':=s.heap.push PySem.W.emptyDict) (t':=s.toks) (fun b u q => Heap.get?_push_of_some _ q) (Nat.le_refl _) ⟨_,e1⟩
 refine I1.laid (a:=s.heap.objs.size + 1) (o:=.ins C s.heap.objs.size []) (t':=s.toks) (fun b u q => Heap.get?_push_of_some _ q) (Nat.le_of_eq (Heap.size_push _ _)) ?_
 have ne:s.heap.objs.size≠s.heap.objs.size + 1:=Nat.ne_of_lt (Nat.lt_succ_self _)
 refine ⟨by rw [upd_ne ne,upd_same],Nat.zero_le _,ne,e2,fun _ => none,(Heap.Ns1.of_empty e3).at fun o q => Heap.get?_push_of_some _ q,fun _ => True.intro,fun y hy => absurd rfl hy⟩
theorem attr_of {prog:Program} {w:World} {env:Env} {e:Expr} {f:Str} {pos:Pos} {s:Shared} {Q:Value→Shared→Prop} (hb:attributeBase e f env (eval e env) = eval e env)
  (h:wpAny (model prog w) A (eval e env) (fun o s₁ => wpAny (model prog w) A (getAttr o f true) Q E s₁) E s):wpAny (model prog w) A (eval (.Attribute e f pos) env) Q E s :=
 Attribute_any_ h (by rw [arm_eval_Attribute,hb])
end
def tFld (K:PySem.W.Frag) (ta:TE) (f:Str):TE:=fun σ H Q => ta σ H fun x H1 => ∃ a C dx fs v,x = .ref a∧H1 a = some (.ins C dx fs)∧Cls K C∧NoAttr K C f∧fs.lookup f = some v∧Q v H1
def sFld (K:PySem.W.Frag) (ta tv:TE) (f:Str):TS:=fun D σ H => tv σ H fun y H1 => ta σ H1 fun x H2 => ∃ a C dx fs,x = .ref a∧H2 a = some (.ins C dx fs)∧Cls K C∧NoAttr K C f∧fs.length < 1000 ∧
 D.nx σ (upd H2 a (.ins C dx (putF f y fs)))
section
variable {X:Cx} {o e value:Expr} {f:Str} {pos pos' tpos:Pos} {ta tv:TE}
theorem pe_fld (he:PE X e ta) (hb:attributeBase e f X.env (eval e X.env) = eval e X.env):PE X (.Attribute e f pos) (tFld X.K ta f):=by
 intro pins s σ H Q I h
 refine attr_of hb (thn (he pins s σ H _ I h) fun u s1 ⟨x,H1,I1,rx,a,C,dx,fs,v,ex,ea,c,n,l,q⟩ => ?_)
 subst ex
 obtain rfl:u = Value.ref a:=rx
 exact getattr_ok I1 ea c n l fun u' s2 I2 ru => ⟨v,H1,I2,ru,q⟩
theorem ps_fld (ha:PE X o ta) (hv:PE X value tv) (hs:swapsWith value (some (.Attribute o f pos')) pos.line X.env = pure false):PS X (.Assign [.Attribute o f pos'] value pos) (sFld X.K ta tv f):=by
 intro pins s σ H D I h
 refine plainObj_wpAny_Assign_Attribute (thn (hv pins s σ H _ I h) fun u s1 ⟨y,H1,I1,ry,q⟩ => thn (ha pins s1 σ H1 _ I1 q) fun ov s2 ⟨x,H2,I2,rx,a,C,dx,fs,ex,ea,c,n,l,q2⟩ => ?_) hs
 subst ex
 obtain rfl:ov = Value.ref a:=rx
 exact setattr_ok I2 ea c n l ry fun s3 I3 => ⟨σ,_,I3,q2⟩
theorem methcall_of {pl:Sem Bool} {m:Str} {apos:Pos} {args:List Expr} {pins:List (Addr × Obj)} {s:Shared} {σ:St} {H:Hp} {Q:Value→Shared→Prop} {te:TE} (he:PE X e te) (I:Inv X pins σ H s)
  (h:te σ H fun x H1 => ∃ a C dx fs g,x = .ref a∧H1 a = some (.ins C dx fs)∧Cls X.K C∧Meth X.K C m g∧fs.lookup m = none ∧
   ∀ s1,Inv X pins σ H1 s1→wpAny (model X.prog X.w) X.A (callWith pos (.ref g) [.ref a] (backTo pos (starEach args X.env)) (backToKw pos (keywordEach [] X.env))) Q X.xe s1)
  (ht:eval (.Call (.Attribute e m apos) args [] pos) X.env = (do
   let ov ← eval e X.env
   standAt apos.atName
   let (f,first) ← holding [ov] (getMethod ov m pl)
   callWith pos f first (backTo pos (starEach args X.env)) (backToKw pos (keywordEach [] X.env)))) :
  wpAny (model X.prog X.w) X.A (eval (.Call (.Attribute e m apos) args [] pos) X.env) Q X.xe s:=by
 refine PySem.W.methodCall_KW (pl:=pl) (thn (he pins s σ H _ I h) fun u s1 ⟨x,H1,I1,rx,a,C,dx,fs,g,ex,ea,c,k,l,q⟩ => ?_) ht
 subst ex
 obtain rfl:u = Value.ref a:=rx
 exact getmeth_ok I1 ea c k l (q s1 I1)
end
section
variable {X:Cx} {pins:List (Addr × Obj)} {σ:St} {H:Hp} {s:Shared} {A:Around} {E:Value→Shared→Prop} {Q:Value→Shared→Prop} {c:Value} {b:Bool}
inductive TyOf (K:PySem.W.Frag) (H:Hp):V→Value→Prop where
 | non:TyOf K H .non (.type "NoneType")
 | bl (x:Bool):TyOf K H (.bl x) (.type "bool")
 | int (i:Int):TyOf K H (.int i) (.type "int")
 | str (x:Str):TyOf K H (.str x) (.type "str")
 | flt (x:UInt64):TyOf K H (.flt x) (.type "float")
 | lst {a:Addr} {xs:List V} (e:H a = some (.lst xs)):TyOf K H (.ref a) (.type "list")
 | frz {a:Addr} {o:Obj} {xs:List V} (e:H a = some (.frz o (.lst xs))):TyOf K H (.ref a) (.type "list")
 | tup {a:Addr} {xs:List V} (e:H a = some (.tup xs)):TyOf K H (.ref a) (.type "tuple")
 | dK {a:Addr} {kvs:List (Key × V)} (e:H a = some (.dK kvs)):TyOf K H (.ref a) (.type "dict")
 | dT {a:Addr} {kvs:List (List Key × V)} (e:H a = some (.dT kvs)):TyOf K H (.ref a) (.type "dict")
 | ins {a C dx:Addr} {fs:List (Str × V)} (e:H a = some (.ins C dx fs)) (cl:Cls K C) (ha:PySem.W.findIn K (.ref C) "__class__" = some (some (.builtin "object.__class__")))
   (hn:PySem.W.specialIn K (.builtin "object.__class__") "__get__" = some (some (.builtin "getset_descriptor.__get__"))) (htk:PySem.W.takesIn K (.builtin "object.__class__") = some true)
   (hm:PySem.W.mroIn K C (.type "object") = some true):TyOf K H (.ref a) (.ref C)
theorem isinst_ok {x:V} {u t:Value} (I:Inv X pins σ H s) (rx:RelV x u) (ty:TyOf X.K H x t) (e:PySem.W.kitOne X.K t c = some b) (h:∀ tk,Q (.bool b) { s with toks:=tk }) :
  wpAny (model X.prog X.w) A (call (.builtin "isinstance") [u,c]) Q E s:=by
 cases ty with
 | non => cases (show u = Value.none from rx); exact PySem.W.kia_one PySem.W.kitx_none I.kIn True.intro e (fun z => nomatch z) h
 | bl y => cases (show u = Value.bool y from rx); exact PySem.W.kia_one PySem.W.kitx_bool I.kIn True.intro e (fun z => nomatch z) h
 | int i => obtain ⟨t,q⟩:=(show ∃ t,u = Value.int i t from rx); cases q; exact PySem.W.kia_one PySem.W.kitx_int I.kIn True.intro e (fun z => nomatch z) h
 | str y => obtain ⟨t,q⟩:=(show ∃ t,u = Value.str y t from rx); cases q; exact PySem.W.kia_one PySem.W.kitx_str I.kIn True.intro e (fun z => nomatch z) h
 | flt y => obtain ⟨t,q⟩:=(show ∃ t,u = Value.float y t from rx); cases q; exact PySem.W.kia_one PySem.W.kitx_float I.kIn True.intro e (fun z => nomatch z) h
 | @lst a xs ea =>
  cases (show u = Value.ref a from rx)
  obtain ⟨_,_,n,_,h1⟩:=(show ObjOk X.prog X.w H s.heap a (.lst xs) from I.hok a _ ea)
  exact PySem.W.kia_one PySem.W.kitx_list I.kIn ⟨_,h1,rfl⟩ e (fun z => nomatch z) h
 | @frz a ob xs ea =>
  cases (show u = Value.ref a from rx)
  obtain ⟨_,_,_,n,_,h1⟩:=(show ObjOk X.prog X.w H s.heap a (.frz ob (.lst xs)) from I.hok a _ ea)
  exact PySem.W.kia_one PySem.W.kitx_list I.kIn ⟨_,h1,rfl⟩ e (fun z => nomatch z) h
 | @tup a xs ea =>
  cases (show u = Value.ref a from rx)
  obtain ⟨_,_,_,p⟩:=(show ObjOk X.prog X.w H s.heap a (.tup xs) from I.hok a _ ea)
  obtain ⟨o,h1,h2,_⟩:=p
  exact PySem.W.kia_one PySem.W.kitx_tuple I.kIn ⟨o,h1,h2⟩ e (fun z => nomatch z) h
 | @dK a kvs ea =>
  cases (show u = Value.ref a from rx)
  obtain ⟨_,_,vs,_,p⟩:=(show ObjOk X.prog X.w H s.heap a (.dK kvs) from I.hok a _ ea)
  obtain ⟨o,es,ep,h1,h2,_⟩:=p
  exact PySem.W.kia_one PySem.W.kitx_dict I.kIn ⟨o,h1,h2.1⟩ e (fun z => nomatch z) h
 | @dT a kvs ea =>
  cases (show u = Value.ref a from rx)
  obtain ⟨_,_,xs,_,o,es,ep,h1,h2,_⟩:=(show ObjOk X.prog X.w H s.heap a (.dT kvs) from I.hok a _ ea)
  exact PySem.W.kia_one PySem.W.kitx_dict I.kIn ⟨o,h1,h2.1⟩ e (fun z => nomatch z) h
 | @ins a C dx fs ea cl ha hn htk hm =>
  cases (show u = Value.ref a from rx)
  obtain ⟨mA,O,_⟩:=ins_get I.hok ea
  obtain ⟨od,J,_⟩:=O.look
  exact PySem.W.kia_one (PySem.W.kitx_own (cl.get _) cl.hd ha hn htk hm) I.kIn J e (fun z => nomatch z) h
end
end L2
namespace L2
open PySem PySem.Spec PyProof.Rows
structure RoomC (c:Bool) (k:Nat) (A:Around):Prop where
 hd:c = true→A.handled = none
 dp:A.depth + 3 * k + 5 < recursionLimit
 un:A.units + 16 * k + 200 < cLine
abbrev Room:=RoomC true
theorem RoomC.mono {c c':Bool} {j k:Nat} {A:Around} (r:RoomC c k A) (h:j≤k) (hc:c' = true→c = true:=by decide):RoomC c' j A:=⟨fun z => r.hd (hc z),by have:=r.dp; omega,by have:=r.un; omega⟩
theorem RoomC.deeper {c:Bool} {k:Nat} {A:Around} (r:RoomC c (k + 1) A) (env:Env):RoomC c k (A.deeper env) :=
 ⟨r.hd,by have:=r.dp; show A.depth + 1 + 3 * k + 5 < _; omega,by have:=r.un; show A.units + 3 + 16 * k + 200 < _; omega⟩
theorem make_depth {A:Around} {C:Addr} {us:List Value} {kw:List (Str × Value)}:(A.under (.builtin "type.__call__" ⟨.ref C :: us,kw⟩)).depth = A.depth + 1:=by
 first | rfl | simp [Around.under,Code.weight,Code.isCreation,Code.isGuard,Code.isCaller,Code.frames,Code.isFrame,guardIds]
theorem make_units {A:Around} {C:Addr} {us:List Value} {kw:List (Str × Value)}:(A.under (.builtin "type.__call__" ⟨.ref C :: us,kw⟩)).units = A.units + 1:=by
 first | rfl | simp [Around.under,Code.cUnits,Code.frames,Code.isFrame]
theorem RoomC.make {c:Bool} {k:Nat} {A:Around} (r:RoomC c (k + 1) A) (C:Addr) (us:List Value) (kw:List (Str × Value)):RoomC c k (A.under (.builtin "type.__call__" ⟨.ref C :: us,kw⟩)) :=
 ⟨r.hd,by have:=r.dp; rw [make_depth]; omega,by have:=r.un; rw [make_units]; omega⟩
theorem RoomC.depth {c:Bool} {k:Nat} {A:Around} (r:RoomC c k A):A.depth < recursionLimit:=by have:=r.dp; omega
theorem RoomC.units {c:Bool} {k:Nat} {A:Around} (r:RoomC c k A):A.units + 64 < cLine:=by have:=r.un; omega
theorem RoomC.units0 {c:Bool} {k:Nat} {A:Around} (r:RoomC c k A):A.units < cLine:=by have:=r.un; omega
def tNil:TA:=fun _ H Q => Q [] H
def tCons (ta:TE) (tr:TA):TA:=fun σ H Q => ta σ H fun x H1 => tr σ H1 fun xs H2 => Q (x :: xs) H2
section
variable {X:Cx} {e:Expr} {es:List Expr} {te:TE} {t:TA} {pos:Pos}
theorem pa_nil:PA X [] tNil:=fun _ _ _ _ H Q I h => Calls.spliced_nil ⟨[],H,I,.nil,h⟩
theorem pa_cons (ha:PE X e te) (hr:PA X es t) (hs:starEach (e :: es) X.env = (false,eval e X.env) :: starEach es X.env:=by rfl):PA X (e :: es) (tCons te t):=by
 intro pos pins s σ H Q I h
 rw [hs]
 show wpAny _ _ (spliced ((false,eval e X.env) :: backTo pos (starEach es X.env))) _ _ s
 refine Calls.spliced_cons (thn (ha pins s σ H _ I h) fun u s1 ⟨x,H1,I1,r1,q1⟩ => ?_)
 exact thn (hr pos pins s1 σ H1 _ I1 q1) fun us s2 ⟨xs,H2,I2,r2,q2⟩ => ⟨x :: xs,H2,I2,.cons r1 r2,q2⟩
def tTup (t:TA):TE:=fun σ H Q => t σ H fun xs H1 => xs.length≤sizeLine∧∀ p,H1 p = none→Q (.ref p) (upd H1 p (.tup xs))
def tLst (t:TA):TE:=fun σ H Q => t σ H fun xs H1 => xs.length≤sizeLine∧∀ p,H1 p = none→Q (.ref p) (upd H1 p (.lst xs))
theorem pe_tup {x1} (h:PA X es t):PE X (.Tuple es x1 pos) (tTup t):=by
 intro pins s σ H Q I hq
 refine wpAny_Tuple_spliced (thn (h pos pins s σ H _ I hq) fun us s1 ⟨xs,H1,I1,r,z,q⟩ => ⟨by rw [← r.length]; exact z,?_⟩)
 have hf:H1 s1.heap.objs.size = none:=I1.hok.fresh (Nat.le_refl _)
 refine ⟨.ref s1.heap.objs.size,upd H1 s1.heap.objs.size (.tup xs),I1.laid (t':=s1.toks) (fun b u e => Heap.get?_push_of_some _ e) (Nat.le_refl _) ?_,rfl,q _ hf⟩
 exact ⟨z,us,r,⟨_,Heap.get?_push_size _ rfl,rfl,_,rfl⟩⟩
theorem pe_lst (h:PA X es t):PE X (.List es pos) (tLst t):=by
 intro pins s σ H Q I hq
 refine wpAny_List_spliced (thn (h pos pins s σ H _ I hq) fun us s1 ⟨xs,H1,I1,r,z,q⟩ => ⟨by rw [← r.length]; exact z,?_⟩)
 have hf:H1 s1.heap.objs.size = none:=I1.hok.fresh (Nat.le_refl _)
 refine ⟨.ref s1.heap.objs.size,upd H1 s1.heap.objs.size (.lst xs),I1.laid (t':=s1.toks) (fun b u e => Heap.get?_push_of_some _ e) (Nat.le_refl _) ?_,rfl,q _ hf⟩
 exact ⟨z,us,0,r,Heap.get?_push_size _ rfl⟩
end
abbrev Sp:=List V→Hp→VK→XK→Prop
abbrev CXT:=List Env→Hp→Shared→XK→Value→Shared→Prop
structure Env0 (P:Program) (w:World) (K:PySem.W.Frag) (mg:Str→Option Value) (base:Heap) (A:Around) (outer:List Env) (s:Shared) (H:Hp):Prop where
 frames:A.frames = some outer
 mod:Mod K mg base
 bs:∀ b o,base.get? b = some o→s.heap.get? b = some o∧H b = none
 bsz:base.objs.size≤s.heap.objs.size
 funs:s.heap.FunFrames base outer
 frf:∀ b∈frs outer,H b = none
 hok:HOk P w H s.heap
 bare:AllBare s.gens
 hn:HdF A H
def CE (outer:List Env) (P:Program) (w:World) (H:Hp) (s:Shared) (Q:VK) (u:Value) (s':Shared):Prop :=
 ∃ v H',s'.os = s.os∧AllBare s'.gens∧Un (frs outer) [] H H' s.heap s'.heap∧HOk P w H' s'.heap∧RelV v u∧Q v H'
def CR (CX:CXT) (outer:List Env) (P:Program) (w:World) (H:Hp) (s:Shared) (Q:VK) (E:XK) (r:Result) (s':Shared):Prop :=
 match r with
 | .ok (.ret u) => CE outer P w H s Q u s'
 | .ok _ => False
 | .error e => CX outer H s E e s'
structure FnOk (P:Program) (w:World) (K:PySem.W.Frag) (mg:Str→Option Value) (base:Heap) (CX:CXT) (k:Nat) (f:Addr) (fd:FuncData) (ps:List Str) (sp:Sp) (c:Bool:=true):Prop where
 len:∀ vs H Q E,sp vs H Q E→vs.length = ps.length
 run:∀ (A:Around) (outer:List Env) (s:Shared) (H:Hp) (args:Args) (us:List Value) (vs:List V) (Q:VK) (E:XK),RoomC c k A→Env0 P w K mg base A outer s H→BindsTo s fd args (ps.zip us)→Vals vs us→sp vs H Q E →
  codeAny (model P w) A (.call (.ref f) args) (CR CX outer P w H s Q E) s
theorem Env0.make {P:Program} {w:World} {K:PySem.W.Frag} {mg:Str→Option Value} {base:Heap} {A:Around} {outer:List Env} {s:Shared} {H:Hp} (e:Env0 P w K mg base A outer s H) (C:Addr) (us:List Value) (kw:List (Str × Value)) :
  Env0 P w K mg base (A.under (.builtin "type.__call__" ⟨.ref C :: us,kw⟩)) outer s H:=⟨by first | exact e.frames | (simpa [Around.under,Code.envs,Code.isFrame,pushEnvs] using e.frames),e.mod,e.bs,e.bsz,e.funs,e.frf,e.hok,e.bare,e.hn⟩
section
variable {X:Cx} {pins:List (Addr × Obj)} {σ:St} {H:Hp} {s s':Shared}
theorem Inv.env0 (I:Inv X pins σ H s):Env0 X.prog X.w X.K X.mg X.base X.A X.stack s H :=
 ⟨I.ok.frames,I.ok.mod,I.bs,Nat.le_trans I.ok.bsz I.sz,I.stack,I.stkFree,I.hok,I.bare,I.hn⟩
theorem Inv.after {Q:VK} {u:Value} (I:Inv X pins σ H s) (h:CE X.stack X.prog X.w H s Q u s'):EP X pins σ Q u s':=by
 obtain ⟨v,H',os,bare,un,hok,r,q⟩:=h
 obtain ⟨hh,g,d,t,os'⟩:=s'
 obtain rfl:os' = s.os:=os
 exact ⟨v,H',I.call (h':=hh) (g':=g) (d':=d) (t':=t) (ch:=[]) un hok bare (fun b z => absurd z (by simp)),r,q⟩
end
def tCall (sp:Sp) (dvs:List V) (E:XK) (t:TA):TE:=fun σ H Q => t σ H fun vs H1 => sp (vs ++ dvs) H1 Q E
def tMeth (C:Addr) (m:Str) (sp:Sp) (dvs:List V) (E:XK) (ta:TE) (t:TA):TE:=fun σ H Q => ta σ H fun x H1 => ∃ a dx fs,x = .ref a∧H1 a = some (.ins C dx fs)∧fs.lookup m = none ∧
 t σ H1 fun vs H2 => sp (x :: (vs ++ dvs)) H2 Q E
def tMake (C:Addr) (sp:Sp) (dvs:List V) (E:XK) (t:TA):TE:=fun σ H Q => t σ H fun vs H1 => ∀ x dx,H1 x = none→H1 dx = none→dx≠x →
 sp (.ref x :: (vs ++ dvs)) (upd (upd H1 dx (.own x)) x (.ins C dx [])) (fun v H2 => v = .non∧Q (.ref x) H2) E
def Binds (K:PySem.W.Frag) (fd:FuncData) (ps:List Str) (ds:List Value):Prop :=
 ∀ (s:Shared) (us:List Value),K.In s.heap→(us ++ ds).length = ps.length→BindsTo s fd ⟨us,[]⟩ (ps.zip (us ++ ds))
theorem Binds.all {K:PySem.W.Frag} {fd:FuncData} {ps:List Str} (h:∀ us:List Value,us.length = ps.length→bindArgs fd ⟨us,[]⟩ = pure (ps.zip us)):Binds K fd ps []:=fun s us _ hl => by
 rw [List.append_nil] at hl ⊢
 exact .of_eq (h us hl)
def Passes (CX:CXT) (X:Cx) (E:XK):Prop:=∀ (pins:List (Addr × Obj)) (σ:St) (H:Hp) (s:Shared) (e:Value) (s':Shared),Inv X pins σ H s→CX X.stack H s E e s'→X.xe e s'
section
variable {X:Cx} {CX:CXT} {k:Nat} {f C:Addr} {fd:FuncData} {ps:List Str} {sp:Sp} {dvs:List V} {ds:List Value} {E:XK} {x m:Str} {p pos apos:Pos} {e o:Expr} {es:List Expr} {ta:TE} {t:TA}
theorem run_fn {pins:List (Addr × Obj)} {σ:St} {H:Hp} {s:Shared} {Q:VK} {us:List Value} {vs:List V} {cm:Bool} (F:FnOk X.prog X.w X.K X.mg X.base CX k f fd ps sp cm) (hr:RoomC cm k X.A) (hb:Binds X.K fd ps ds) (hd:Vals dvs ds) (hx:Passes CX X E)
  (I:Inv X pins σ H s) (r:Vals vs us) (h:sp (vs ++ dvs) H Q E):wpAny (model X.prog X.w) X.A (call (.ref f) us) (EP X pins σ Q) X.xe s:=by
 have r2:Vals (vs ++ dvs) (us ++ ds):=r.append hd
 have hl:(us ++ ds).length = ps.length:=by rw [← r2.length]; exact F.len _ _ _ _ h
 refine wpAny_call (codeAny_mono (F.run X.A X.stack s H ⟨us,[]⟩ (us ++ ds) (vs ++ dvs) Q E hr I.env0 (hb s us I.kIn hl) r2 h) fun r s' hq => ?_)
 cases r with
 | error e => exact hx pins σ H s e s' I hq
 | ok fl =>
  cases fl with
  | ret u => exact I.after hq
  | next => exact False.elim hq
  | brk => exact False.elim hq
  | cont => exact False.elim hq
theorem pe_call {cm:Bool} (F:FnOk X.prog X.w X.K X.mg X.base CX k f fd ps sp cm) (hr:RoomC cm k X.A) (hg:Gl X x) (hm:X.mg x = some (.ref f)) (hk:PySem.W.keepIn X.K (.ref f) = true) (hb:Binds X.K fd ps ds) (hd:Vals dvs ds) (hx:Passes CX X E)
  (ha:PA X (e :: es) t) (hdb:(x == ("__debug__":Str)) = false:=by decide) (he:starEach (e :: es) X.env = (false,eval e X.env) :: starEach es X.env:=by rfl) (hpl:(backTo pos (starEach es X.env)).any (·.1) = false:=by rfl) :
  PE X (.Call (.Name x p) (e :: es) [] pos) (tCall sp dvs E t):=by
 intro pins s σ H Q I h
 refine wpAny_Call_Name_kw (ld_glob I hg hm ?_ hdb)
 refine PySem.W.callWith_K (h₀:=X.base) I.ok.mod.kin hk (thn (ha pos pins s σ H _ I h) fun us s1 ⟨vs,H1,I1,r,q⟩ => ⟨I1.kIn,?_⟩) he hpl
 exact run_fn F hr hb hd hx I1 r q
theorem pe_meth {pl:Sem Bool} (he:PE X o ta) (c:Cls X.K C) (hm:Meth X.K C m f) {cm:Bool} (F:FnOk X.prog X.w X.K X.mg X.base CX k f fd ps sp cm) (hr:RoomC cm k X.A) (hb:Binds X.K fd ps ds) (hd:Vals dvs ds) (hx:Passes CX X E) (ha:PA X (e :: es) t)
  (hst:starEach (e :: es) X.env = (false,eval e X.env) :: starEach es X.env:=by rfl) (hpl:(backTo pos (starEach es X.env)).any (·.1) = false:=by rfl)
  (ht:eval (.Call (.Attribute o m apos) (e :: es) [] pos) X.env = (do
   let ov ← eval o X.env
   standAt apos.atName
   let (f,first) ← holding [ov] (getMethod ov m pl)
   callWith pos f first (backTo pos (starEach (e :: es) X.env)) (backToKw pos (keywordEach [] X.env))):=by rfl) :
  PE X (.Call (.Attribute o m apos) (e :: es) [] pos) (tMeth C m sp dvs E ta t):=by
 intro pins s σ H Q I h
 refine PySem.W.methodCall_KW (pl:=pl) (thn (he pins s σ H _ I h) fun u s1 ⟨x,H1,I1,rx,a,dx,fs,ex,ea,l,q⟩ => ?_) ht
 subst ex
 obtain rfl:u = Value.ref a:=rx
 refine getmeth_ok I1 ea c hm l ?_
 refine PySem.W.callWith_K (first:=[.ref a]) (h₀:=X.base) I.ok.mod.kin hm.kp (thn (ha pos pins s1 σ H1 _ I1 q) fun us s2 ⟨vs,H2,I2,r,q2⟩ => ⟨I2.kIn,?_⟩) hst hpl
 exact run_fn (us:=.ref a :: us) (vs:=.ref a :: vs) F hr hb hd hx I2 (.cons rfl r) q2
structure Mk (K:PySem.W.Frag) (C f:Addr):Prop where
 makes:PySem.W.makesIn K C = true
 init:PySem.W.findIn K (.ref C) "__init__" = some (some (.ref f))
 fn:PySem.W.isFn K (.ref f) = true
 kp:PySem.W.keepIn K (.ref C) = true
theorem run_make {pins:List (Addr × Obj)} {σ:St} {H:Hp} {s:Shared} {Q:VK} {us:List Value} {vs:List V} (M:Mk X.K C f) (F:FnOk X.prog X.w X.K X.mg X.base CX k f fd ps sp) (hr:Room (k + 1) X.A) (hb:Binds X.K fd ps ds) (hd:Vals dvs ds)
  (hx:Passes CX X E) (I:Inv X pins σ H s) (r:Vals vs us)
  (h:∀ x dx,H x = none→H dx = none→dx≠x→sp (.ref x :: (vs ++ dvs)) (upd (upd H dx (.own x)) x (.ins C dx [])) (fun v H2 => v = .non∧Q (.ref x) H2) E) :
  wpAny (model X.prog X.w) X.A (call (.ref C) us) (EP X pins σ Q) X.xe s:=by
 have hq:=h (s.heap.objs.size + 1) s.heap.objs.size (I.hok.fresh (Nat.le_succ _)) (I.hok.fresh (Nat.le_refl _)) (Nat.ne_of_lt (Nat.lt_succ_self _))
 have I2:=Inv.made (C:=C) I
 have r2:Vals (V.ref (s.heap.objs.size + 1) :: (vs ++ dvs)) (Value.ref (s.heap.objs.size + 1) :: (us ++ ds)):=.cons rfl (r.append hd)
 have hl:(Value.ref (s.heap.objs.size + 1) :: us ++ ds).length = ps.length:=by
  have e:=r2.length
  rw [F.len _ _ _ _ hq] at e
  exact e.symm
 refine wpAny_call (make_map (f:=f) I.kIn M.makes M.init (beq_iff_eq.mp M.fn) (codeAny_mono (F.run _ X.stack _ _ ⟨Value.ref (s.heap.objs.size + 1) :: us,[]⟩ (Value.ref (s.heap.objs.size + 1) :: (us ++ ds)) _ _ E (hr.make C us [])
  (I2.env0.make C us []) (hb _ (Value.ref (s.heap.objs.size + 1) :: us) I2.kIn hl) r2 hq) fun r s' hq' => ?_))
 cases r with
 | error e => exact hx pins σ _ _ e s' I2 hq'
 | ok fl =>
  cases fl with
  | ret u =>
   obtain ⟨v,H',I3,rv,ev,q3⟩:=I2.after hq'
   subst ev
   exact ⟨rv,⟨V.ref (s.heap.objs.size + 1),H',I3,rfl,q3⟩⟩
  | next => exact False.elim hq'
  | brk => exact False.elim hq'
  | cont => exact False.elim hq'
theorem pe_make (M:Mk X.K C f) (F:FnOk X.prog X.w X.K X.mg X.base CX k f fd ps sp) (hr:Room (k + 1) X.A) (hg:Gl X x) (hm:X.mg x = some (.ref C)) (hb:Binds X.K fd ps ds) (hd:Vals dvs ds) (hx:Passes CX X E)
  (ha:PA X (e :: es) t) (hdb:(x == ("__debug__":Str)) = false:=by decide) (he:starEach (e :: es) X.env = (false,eval e X.env) :: starEach es X.env:=by rfl) (hpl:(backTo pos (starEach es X.env)).any (·.1) = false:=by rfl) :
  PE X (.Call (.Name x p) (e :: es) [] pos) (tMake C sp dvs E t):=by
 intro pins s σ H Q I h
 refine wpAny_Call_Name_kw (ld_glob I hg hm ?_ hdb)
 refine PySem.W.callWith_K (h₀:=X.base) I.ok.mod.kin M.kp (thn (ha pos pins s σ H _ I h) fun us s1 ⟨vs,H1,I1,r,q⟩ => ⟨I1.kIn,?_⟩) he hpl
 exact run_make M F hr hb hd hx I1 r q
end
section
variable {X:Cx} {CX:CXT} {k:Nat} {f C:Addr} {fd:FuncData} {ps ks:List Str} {sp:Sp} {E:XK} {x m:Str} {p pos apos kpos:Pos} {e o:Expr} {es:List Expr} {kws:List Keyword} {te ta:TE} {t tk:TA} {nm:Option Str}
variable {g:List Value→List Value→List Value} {gV:List V→List V→List V}
end
structure FnScope (N P:List Str) (sc:Scope):Prop where
 kind:sc.kind = .function
 co:sc.isCoroutine = false
 gen:sc.isGenerator = false
 nd:N.Nodup
 pre:N.take P.length = P
 par:∀ x∈P,sc.names.lookup x = some .local∨sc.names.lookup x = some .cell
 nofree:∀ y∈sc.names,y.2≠.free
theorem bindL_out {kindOf:Str→Option NameKind} {x:Str}:∀ {binds:List (Str × Value)} {m:Str→Option Value},(∀ v,(x,v) ∉ binds)→bindL kindOf binds m x = m x
 | [],_,_ => rfl
 | (n,v) :: r,m,h => by
  unfold bindL
  rw [bindL_out fun w hw => h w (List.mem_cons_of_mem _ hw)]
  split
  ·have:x≠n:=by rintro rfl; exact h v List.mem_cons_self
   simp [this]
  ·rfl
theorem bindC_out {kindOf:Str→Option NameKind} {x:Str}:∀ {binds:List (Str × Value)} {m:Str→Option Value},(∀ v,(x,v) ∉ binds)→bindC kindOf binds m x = m x
 | [],_,_ => rfl
 | (n,v) :: r,m,h => by
  unfold bindC
  rw [bindC_out fun w hw => h w (List.mem_cons_of_mem _ hw)]
  split
  ·rfl
  ·have:x≠n:=by rintro rfl; exact h v List.mem_cons_self
   simp [this]
theorem bindL_get {kindOf:Str→Option NameKind} {x:Str} {v:Value}:∀ {P:List Str} {vs:List Value} {i:Nat} {m:Str→Option Value},P.Nodup→P[i]? = some x→vs[i]? = some v→kindOf x = some .local →
  bindL kindOf (P.zip vs) m x = some v
 | [],_,_,_,_,h,_,_ => by simp at h
 | _ :: _,[],_,_,_,_,h,_ => by simp at h
 | p :: P,w :: vs,0,m,nd,h1,h2,hk => by
  simp at h1 h2; subst h1; subst h2
  show bindL kindOf ((p,w) :: P.zip vs) m p = _
  unfold bindL
  rw [bindL_out fun v hv => (List.nodup_cons.mp nd).1 (List.of_mem_zip hv).1,if_pos hk]
  simp
 | p :: P,w :: vs,i + 1,m,nd,h1,h2,hk => by
  show bindL kindOf ((p,w) :: P.zip vs) m x = _
  unfold bindL
  exact bindL_get (i:=i) (List.nodup_cons.mp nd).2 (by simpa using h1) (by simpa using h2) hk
theorem bindC_get {kindOf:Str→Option NameKind} {x:Str} {v:Value}:∀ {P:List Str} {vs:List Value} {i:Nat} {m:Str→Option Value},P.Nodup→P[i]? = some x→vs[i]? = some v→kindOf x≠some .local →
  bindC kindOf (P.zip vs) m x = some v
 | [],_,_,_,_,h,_,_ => by simp at h
 | _ :: _,[],_,_,_,_,h,_ => by simp at h
 | p :: P,w :: vs,0,m,nd,h1,h2,hk => by
  simp at h1 h2; subst h1; subst h2
  show bindC kindOf ((p,w) :: P.zip vs) m p = _
  unfold bindC
  rw [bindC_out fun v hv => (List.nodup_cons.mp nd).1 (List.of_mem_zip hv).1,if_neg hk]
  simp
 | p :: P,w :: vs,i + 1,m,nd,h1,h2,hk => by
  show bindC kindOf ((p,w) :: P.zip vs) m x = _
  unfold bindC
  exact bindC_get (i:=i) (List.nodup_cons.mp nd).2 (by simpa using h1) (by simpa using h2) hk
def start (N:List Str) (vs:List V):St:=vs.map some ++ List.replicate (N.length - vs.length) none
def cxOf (CX:CXT) (P:Program) (w:World) (K:PySem.W.Frag) (mg:Str→Option Value) (base:Heap) (N:List Str) (qual:Str) (scope:Scope) (f:Addr) (cd:Value) (A:Around) (outer:List Env) (s:Shared) (H:Hp) (E:XK) (c:Bool:=true):Cx where
 prog:=P
 w:=w
 K:=K
 mg:=mg
 base:=base
 A:=A.deeper (envOfC qual scope s.heap.objs.size f cd)
 N:=N
 s₀:=s
 H₀:=H
 env:=envOfC qual scope s.heap.objs.size f cd
 outer:=outer
 stack:=envOfC qual scope s.heap.objs.size f cd :: outer
 ex:=[]
 calm:=c
 fn:=fun _ => true
 pn:=[]
 xe:=fun e s' => wpAny (model P w) (A.deeper (envOfC qual scope s.heap.objs.size f cd)) (leaving (envOfC qual scope s.heap.objs.size f cd) e) (fun _ s'' => CX outer H s E e s'') (fun e' s'' => CX outer H s E e' s'') s'
theorem cell_has {sc:Scope} {n:Nat} {x:Str} (h:sc.names.lookup x = some .cell):∃ c,(cellsFrom n sc.names []).lookup x = some c:=by
 have q:=PySem.W.cellsFrom_some sc.names n [] (.inl h)
 exact Option.isSome_iff_exists.mp q
theorem inv_start {CX:CXT} {P:Program} {w:World} {K:PySem.W.Frag} {mg:Str→Option Value} {base:Heap} {N ps:List Str} {qual:Str} {scope:Scope} {f:Addr} {cd:Value} {A:Around} {outer:List Env} {s s1:Shared} {H:Hp} {E:XK} {us:List Value} {vs:List V}
  {c:Bool} (S:FnScope N ps scope) (hd:c = true→A.handled = none) (e0:Env0 P w K mg base A outer s H) (hl:vs.length = ps.length) (r:Vals vs us)
  (x:InCallC s s.heap.objs.size (bindL (envOfC qual scope s.heap.objs.size f cd).kindOf (ps.zip us) fun _ => none) (cellsFrom (s.heap.objs.size + 1) scope.names []) (bindC (envOfC qual scope s.heap.objs.size f cd).kindOf (ps.zip us) fun _ => none) s1) :
  Inv (cxOf CX P w K mg base N qual scope f cd A outer s H E c) [] (start N vs) H s1:=by
 have hpl:ps.length≤N.length:=by have:=congrArg List.length S.pre; rw [List.length_take] at this; omega
 obtain ⟨h1,tk,rfl,hk⟩:=x.done
 have noA:∀ b:Addr,b ∉ (cxOf CX P w K mg base N qual scope f cd A outer s H E c).ex:=fun b z => absurd (show b∈([]:List Addr) from z) (by simp)
 refine ⟨⟨e0.mod,S.kind,rfl,rfl,Nat.le_refl _,fun y z c h1 h2 => ?_,fun y hy => ?_,fun y c' _ h => ?_,hd,Around.frames_deeper e0.frames,.inr ⟨rfl,rfl⟩,fun b z => absurd z (noA b),e0.bs,e0.bsz,fun b _ _ => noA b,fun b z => absurd z (noA b),e0.funs,e0.frf⟩,
  rfl,e0.bare,Un.kept hk,⟨_,x.toInCall.ns,fun i y v h1 h2 h3 => ?_⟩,fun y c h => ⟨_,x.cell y c h⟩,e0.hok.fresh (Nat.le_refl _),fun y c h => ?_,fun p hp => absurd (show p∈([]:List (Addr × Obj)) from hp) (by simp),e0.hok.kept hk,?_,e0.hn⟩
 ·exact name_of_addr x.apart (PySem.mem_of_lookup h1) (PySem.mem_of_lookup h2)
 ·have hy:scope.names.lookup y = some .cell∨scope.names.lookup y = some .free:=hy
  rcases hy with hy | hy
  ·exact cell_has hy
  ·exact absurd rfl (S.nofree _ (PySem.mem_of_lookup hy))
 ·exact Nat.le_of_lt (x.above y c' (PySem.mem_of_lookup h))
 ·have hi:i < vs.length:=by
   unfold start at h2
   by_cases hi:i < vs.length
   ·exact hi
   ·rw [List.getElem?_append_right (by simpa using hi)] at h2
    rw [List.getElem?_replicate] at h2
    split at h2 <;> cases h2
  have ha:vs[i]? = some v:=by
   unfold start at h2
   rw [List.getElem?_append_left (by simpa using hi),List.getElem?_map] at h2
   cases e:vs[i]? with
   | none => rw [e] at h2; cases h2
   | some a => rw [e] at h2; cases h2; rfl
  obtain ⟨u,hu,rv⟩:=r.get ha
  have hp:ps[i]? = some y:=by
   rw [← S.pre,List.getElem?_take_of_lt (by omega)]; exact h1
  have ndP:ps.Nodup:=by rw [← S.pre]; exact S.nd.sublist (List.take_sublist _ _)
  refine ⟨u,rv,?_⟩
  rcases S.par y (List.mem_of_getElem? hp) with k | k
  ·exact .inl ⟨k,bindL_get ndP hp hu k⟩
  ·obtain ⟨c,e⟩:=cell_has (n:=s.heap.objs.size + 1) k
   refine .inr ⟨.inl k,c,e,?_⟩
   have q:=x.cell y c e
   rw [bindC_get ndP hp hu (by show scope.names.lookup y≠_; rw [k]; decide)] at q
   exact q
 ·exact e0.hok.fresh (Nat.le_of_lt (x.above y c (PySem.mem_of_lookup h)))
 ·unfold start
  show _ = N.length
  rw [List.length_append,List.length_map,List.length_replicate]
  omega
theorem fn_of {CX:CXT} {P:Program} {w:World} {K:PySem.W.Frag} {mg:Str→Option Value} {base:Heap} {k:Nat} {f:Addr} {name qual:Str} {params:Arguments} {body:List Stmt} {scope:Scope} {dV kV doc pm cdv ct oc:Value} {an od:Option Addr}
  {osl:Array (Option Value)} {N ps:List Str} {sp:Sp} {c:Bool} (lk:K.lookup f = some ⟨oc,od,.func (PySem.W.fnOf name qual params body scope dV kV doc pm an cdv ct),osl⟩) (hcd:PySem.W.codeIn K cdv qual = true) (S:FnScope N ps scope)
  (len:∀ vs H Q E,sp vs H Q E→vs.length = ps.length)
  (hbody:∀ (A:Around) (outer:List Env) (s:Shared) (H:Hp) (vs:List V) (Q:VK) (E:XK),RoomC c k (A.deeper (envOfC qual scope s.heap.objs.size f cdv))→sp vs H Q E →
   ∃ t,PSs (cxOf CX P w K mg base N qual scope f cdv A outer s H E c) body t∧t { nx:=fun _ H' => Q .non H',rt:=Q } (start N vs) H) :
  FnOk P w K mg base CX (k + 1) f (PySem.W.fnOf name qual params body scope dV kV doc pm an cdv ct) ps sp c:=by
 refine ⟨len,fun A outer s H args us vs Q E hr e0 hb r hsp => ?_⟩
 have hl:=len _ _ _ _ hsp
 have KX:K.In s.heap:=e0.mod.kin.keeps fun b o e => (e0.bs b o e).1
 have lim:s.heap.NoLimit:=e0.mod.nolimit.keeps fun b o e => (e0.bs b o e).1
 have hkind:∀ y∈ps.zip us,scope.names.lookup y.1 = some .local∨(scope.names.lookup y.1 = some .cell∧((cellsFrom (s.heap.objs.size + 1) scope.names []).lookup y.1).isSome = true):=fun ⟨n,v⟩ hy => by
  rcases S.par n (List.of_mem_zip hy).1 with q | q
  ·exact .inl q
  ·exact .inr ⟨q,PySem.W.cellsFrom_some _ _ _ (.inl q)⟩
 refine codeAny_call_function hr.depth (KX _ _ lk) rfl S.co S.gen rfl (PySem.W.codeRec_of KX hcd) (hb _ _ _ _ ?_)
 refine wpAny_newFunctionEnv_cells S.kind hkind fun env he s1 x => ?_
 subst he
 refine ⟨lim.keeps x.toInCall.keep,codeAny_func ?_⟩
 obtain ⟨t,ht,hq⟩:=hbody A outer s H vs Q E (hr.deeper _) hsp
 have I:Inv (cxOf CX P w K mg base N qual scope f cdv A outer s H E c) [] (start N vs) H s1:=inv_start S hr.hd e0 hl r x
 refine wpAny_mono (ht [] s1 (start N vs) H _ I hq) (fun fl s' hs => ?_) fun e s' hs => hs
 have fin:∀ {σ':St} {H':Hp} {v:V} {u:Value},Inv (cxOf CX P w K mg base N qual scope f cdv A outer s H E c) [] σ' H' s'→RelV v u→Q v H'→CE outer P w H s Q u s' :=
  fun {σ' H' v u} J rv q => ⟨v,H',J.os,J.bare,J.base,J.hok,rv,q⟩
 cases fl with
 | ret u =>
  obtain ⟨v,σ',H',J,rv,q⟩:=hs
  exact fin J rv q
 | next =>
  obtain ⟨σ',H',J,q⟩:=hs
  exact fin (v:=V.non) (u:=Value.none) J rfl q
 | brk =>
  obtain ⟨_,_,_,q⟩:=hs
  exact False.elim q
 | cont =>
  obtain ⟨_,_,_,q⟩:=hs
  exact False.elim q
end L2
namespace L2
open PySem PySem.Spec PyProof.Rows
section
variable {X:Cx} {x:Str} {p pos:Pos} {e:Expr} {es:List Expr} {t:TA} {id T:String} {r:List V→Hp→VK→Prop}
def tCB (r:List V→Hp→VK→Prop) (t:TA):TE:=fun σ H Q => t σ H fun vs H1 => r vs H1 Q
theorem pe_callB (hc:CallR X (.builtin id) r) (hg:Gl X x) (hm:X.mg x = none) (hv:bootBuiltins x = some (.builtin id)) (ha:PA X (e :: es) t) (hn:x≠"__name__":=by decide) (hdb:(x == ("__debug__":Str)) = false:=by decide)
  (he:starEach (e :: es) X.env = (false,eval e X.env) :: starEach es X.env:=by rfl) (hpl:(backTo pos (starEach es X.env)).any (·.1) = false:=by rfl):PE X (.Call (.Name x p) (e :: es) [] pos) (tCB r t):=by
 intro pins s σ H Q I h
 refine wpAny_Call_Name_kw (ld_blt I hg hm hv ?_ hn hdb)
 exact PyProof.Rows.callWith_builtin1 (thn (ha pos pins s σ H _ I h) fun us s1 ⟨vs,H1,I1,r1,q1⟩ => hc pins s1 σ H1 vs us Q I1 r1 q1) he hpl
theorem pe_callTy (hc:CallR X (.type T) r) (hg:Gl X x) (hm:X.mg x = none) (hv:bootBuiltins x = some (.type T)) (ha:PA X (e :: es) t) (hn:x≠"__name__":=by decide) (hdb:(x == ("__debug__":Str)) = false:=by decide)
  (he:starEach (e :: es) X.env = (false,eval e X.env) :: starEach es X.env:=by rfl) (hpl:(backTo pos (starEach es X.env)).any (·.1) = false:=by rfl):PE X (.Call (.Name x p) (e :: es) [] pos) (tCB r t):=by
 intro pins s σ H Q I h
 refine wpAny_Call_Name_kw (ld_blt I hg hm hv ?_ hn hdb)
 exact PyProof.Rows.callWith_type1 (thn (ha pos pins s σ H _ I h) fun us s1 ⟨vs,H1,I1,r1,q1⟩ => hc pins s1 σ H1 vs us Q I1 r1 q1) he hpl
end
end L2
namespace HT
open PySem PyProof.Rows
section
open PySem.SeqAt
open PySem.AutoSeq1 (wpAny_loadPart')
open PySem.MeetsSeq PySem.MeetsSeq2 PySem.MeetsSeq3
end
section
variable {prog:Program} {w:World} {A:Around} {E:Value→Shared→Prop} {s:Shared}
theorem cat_tup {t b:Addr} {vs ws:List Value} {Q:Value→Shared→Prop} (ht:IsTup s.heap t vs.toArray) (hb:IsTup s.heap b ws.toArray) (hv:vs≠[])
  (h1:ws = []→Q (.ref t) s) (h2:ws≠[]→Q (.ref s.heap.objs.size) { s with heap:=s.heap.push { cls:=.type "tuple",data:=.seq (vs ++ ws).toArray } })
  (hsz:vs.length + ws.length≤sizeLine):wpAny (model prog w) A (binaryOp .Add (.ref t) (.ref b)) Q E s:=by
 obtain ⟨⟨cls,dd,data,sl⟩,ho,hc,n,hd⟩:=id ht
 obtain ⟨⟨cls2,dd2,data2,sl2⟩,ho2,hc2,n2,hd2⟩:=id hb
 simp only at hc hd hc2 hd2
 subst hc hd hc2 hd2
 have e:vs.toArray ++ ws.toArray = (vs ++ ws).toArray:=by simp
 by_cases hw:ws = []
 ·exact concat_meets ⟨_,ho,rfl⟩ ⟨_,ho2,rfl⟩ noFill_tuple_add seq_tuple_add PySem.F.slot_tuple_add PySem.F.entry_tuple_add (PySem.F.args_tuple_add_2 _ _)
   (tuple_addW1 t b vs.toArray ws.toArray n n2 dd dd2 sl sl2 (by simpa using hv) (by simp [hw])) ⟨ho,ho2,h1 hw⟩
 ·refine concat_meets ⟨_,ho,rfl⟩ ⟨_,ho2,rfl⟩ noFill_tuple_add seq_tuple_add PySem.F.slot_tuple_add PySem.F.entry_tuple_add (PySem.F.args_tuple_add_2 _ _)
   (tuple_addW2 t b vs.toArray ws.toArray n n2 dd dd2 sl sl2 (by simpa using hv) (by simpa using hw) (by rw [List.size_toArray,List.size_toArray]; exact hsz)) ⟨ho,ho2,?_⟩
  rw [e]
  exact h2 hw
def sIx (n d:Nat):Option Int→Nat
 | none => d
 | some v => if v < 0 then (v + (n:Int)).toNat else min v.toNat n
end
end HT
namespace L2
open PySem PySem.Spec PyProof.Rows
abbrev TO:=St→Hp→(Option Int→Hp→Prop)→Prop
def PO (X:Cx) (e:Option Expr) (t:TO):Prop :=
 ∀ (pins:List (Addr × Obj)) (s:Shared) (σ:St) (H:Hp) (Q:Option Int→Hp→Prop),Inv X pins σ H s→t σ H Q →
  wpAny (model X.prog X.w) X.A (evalPart e X.env) (fun u s' => ∃ o H',Inv X pins σ H' s'∧IsPart u o∧Q o H') X.xe s
def tNoPart:TO:=fun _ H Q => Q none H
def tPart (t:TE):TO:=fun σ H Q => t σ H fun x H1 => ∃ i,x = .int i∧Q (some i) H1
theorem intsAre_of {ns:List Int}:∀ {us:List Value},Vals (ns.map V.int) us→IntsAre us ns:=by
 induction ns with
 | nil => intro us r; rw [List.map_nil] at r; cases r; exact .nil
 | cons n ns ih =>
  intro us r
  rw [List.map_cons] at r
  cases r with
  | cons r1 r2 =>
   obtain ⟨t,e⟩:=r1
   subst e
   exact .cons n t (ih r2)
section
variable {X:Cx} {e:Expr} {te:TE} {lo hi:Option Expr} {tl th:TO} {pos p2:Pos}
theorem po_none:PO X none tNoPart:=by
 intro pins s σ H Q I h
 rw [evalPart_none]
 exact wpAny_pure ⟨none,H,I,.none,h⟩
theorem po_some (h:PE X e te):PO X (some e) (tPart te):=by
 intro pins s σ H Q I hw
 rw [evalPart_some]
 refine thn (h pins s σ H _ I hw) fun u s1 ⟨x,H1,I1,r1,q1⟩ => ?_
 obtain ⟨i,rfl,q⟩:=q1
 obtain ⟨t,rfl⟩:=r1
 exact ⟨some i,H1,I1,.int i t,q⟩
def SlR (X:Cx) (r:V→Option Int→Option Int→Hp→VK→Prop):Prop :=
 ∀ (pins:List (Addr × Obj)) (s:Shared) (σ:St) (H:Hp) (x:V) (v vl vu:Value) (lo hi:Option Int) (sl:Addr) (Q:VK),Inv X pins σ H s→RelV x v→s.heap.IsSliceOf sl vl vu .none→IsPart vl lo→IsPart vu hi→r x lo hi H Q →
  ∃ T id,typeLookup (.type T) "__getitem__" = pure (some (.builtin id))∧s.TypeIs v T∧wpAny (model X.prog X.w) X.A (getItem v (.ref sl)) (EP X pins σ Q) X.xe s
def tSl (r:V→Option Int→Option Int→Hp→VK→Prop) (te:TE) (tl th:TO):TE:=fun σ H Q => te σ H fun x H1 => tl σ H1 fun l H2 => th σ H2 fun u H3 => r x l u H3 Q
theorem pe_slice {r:V→Option Int→Option Int→Hp→VK→Prop} (hr:SlR X r) (he:PE X e te) (hl:PO X lo tl) (hu:PO X hi th):PE X (.Subscript e (.Slice lo hi none p2) pos) (tSl r te tl th):=by
 intro pins s σ H Q I h
 refine Subscript_ (thn (he pins s σ H _ I h) fun v s1 ⟨x,H1,I1,r1,q1⟩ => ?_)
 refine wpAny_Slice (thn (hl pins s1 σ H1 _ I1 q1) fun vl s2 ⟨l,H2,I2,pl,q2⟩ => thn (hu pins s2 σ H2 _ I2 q2) fun vu s3 ⟨u,H3,I3,pu,q3⟩ => ?_)
 rw [evalPart_none]
 refine wpAny_pure ?_
 have I4:Inv X pins σ H3 { s3 with heap:=s3.heap.push { cls:=.type "slice",data:=.fields #[vl,vu,.none] } }:=I3.kept (t':=s3.toks) fun b ob q => Heap.get?_push_of_some _ q
 obtain ⟨T,id,hT,ht,hg⟩:=hr pins { s3 with heap:=s3.heap.push { cls:=.type "slice",data:=.fields #[vl,vu,.none] } } σ H3 x v vl vu l u s3.heap.objs.size Q I4 r1 (Heap.IsSliceOf.new ..) pl pu q3
 show wpAny (model X.prog X.w) X.A (subscriptTail e (.Slice lo hi none p2) v (.ref s3.heap.objs.size)) (EP X pins σ Q) X.xe { s3 with heap:=s3.heap.push { cls:=.type "slice",data:=.fields #[vl,vu,.none] } }
 exact tail_any (ops:=[.ref s3.heap.objs.size,v]) ht hT hg (by with_unfolding_all rfl)
def cutV (xs:List V) (lo hi:Option Int):List V:=(xs.drop (HT.sIx xs.length 0 lo)).take (HT.sIx xs.length xs.length hi - HT.sIx xs.length 0 lo)
theorem cutV_length (xs:List V) (lo hi:Option Int):(cutV xs lo hi).length≤xs.length:=by
 unfold cutV
 rw [List.length_take,List.length_drop]
 omega
def rCatT (K:PySem.W.Frag):R2:=fun x y H Q => ∃ a b xs ys,x = .ref a∧y = .ref b∧SqT K H a xs∧SqT K H b ys∧xs≠[]∧xs.length + ys.length≤sizeLine ∧
 (ys = []→Q (.ref a) H)∧(ys≠[]→∀ p,H p = none→Q (.ref p) (upd H p (.tup (xs ++ ys))))
theorem Vals.nil_iff {xs:List V} {us:List Value} (r:Vals xs us):us = []↔xs = []:=by
 cases r with
 | nil => simp
 | cons _ _ => simp
theorem op_catT:OpR X (binaryOp .Add) (rCatT X.K):=by
 intro pins s σ H x y v u Q I rx ry h
 obtain ⟨a,b,xs,ys,rfl,rfl,ha,hb,hx,hz,q1,q2⟩:=h
 cases rx
 cases ry
 obtain ⟨its,r1,p1,_⟩:=I.tuple ha
 obtain ⟨its2,r2,p2,_⟩:=I.tuple hb
 refine HT.cat_tup p1 p2 (fun z => hx (r1.nil_iff.mp z)) (fun z => ⟨.ref a,H,I,rfl,q1 (r2.nil_iff.mp z)⟩) (fun z => ?_) (by rw [← r1.length,← r2.length]; exact hz)
 refine ⟨.ref s.heap.objs.size,_,I.laid (t':=s.toks) (o:=.tup (xs ++ ys)) (fun b ob q => Heap.get?_push_of_some _ q) (Nat.le_refl _) ?_,rfl,q2 (fun w => z (r2.nil_iff.mpr w)) _ (I.hok.fresh (Nat.le_refl _))⟩
 exact ⟨by rw [List.length_append]; exact hz,_,r1.append r2,IsTup.new _ _⟩
end
end L2
namespace L2
open PySem PySem.Spec PyProof.Rows
def ixN (n:Nat) (i:Int):Option Nat:=if 0≤i then (if i < n then some i.toNat else none) else if -(n:Int)≤i then some (i + n).toNat else none
def atI {α:Type} (xs:List α) (i:Int):Option α:=(ixN xs.length i).bind fun j => xs[j]?
theorem ixN_seq {n:Nat} {i:Int} {j:Nat} (h:ixN n i = some j):seqIndex? i n = some j∧j < n∧-(n:Int)≤i∧i < n:=by
 unfold ixN at h
 by_cases h0:0≤i
 ·rw [if_pos h0] at h
  by_cases h1:i < n
  ·rw [if_pos h1] at h
   have e:i.toNat = j:=Option.some.inj h
   exact ⟨by rw [seqIndex_of h0 h1,e],by omega,by omega,h1⟩
  ·rw [if_neg h1] at h; cases h
 ·rw [if_neg h0] at h
  by_cases h1:-(n:Int)≤i
  ·rw [if_pos h1] at h
   have e:(i + n).toNat = j:=Option.some.inj h
   exact ⟨by rw [seqIndex_neg (by omega) h1,e],by omega,h1,by omega⟩
  ·rw [if_neg h1] at h; cases h
theorem atI_get {α:Type} {xs:List α} {i:Int} {v:α} (h:atI xs i = some v):∃ j,seqIndex? i xs.length = some j∧xs[j]? = some v∧j < xs.length∧-(xs.length:Int)≤i∧i < xs.length:=by
 unfold atI at h
 cases e:ixN xs.length i with
 | none => rw [e] at h; cases h
 | some j =>
  rw [e] at h
  obtain ⟨h1,h2,h3,h4⟩:=ixN_seq e
  exact ⟨j,h1,h,h2,h3,h4⟩
theorem atI_nat {α:Type} {xs:List α} {j:Nat} {v:α} (h:xs[j]? = some v):atI xs (j:Int) = some v:=by
 have hj:j < xs.length:=(List.getElem?_eq_some_iff.mp h).1
 have e:ixN xs.length (j:Int) = some j:=by
  unfold ixN
  rw [if_pos (by omega),if_pos (by omega)]; simp
 unfold atI; rw [e]; exact h
theorem atI_last {α:Type} (xs:List α) (v:α):atI (xs ++ [v]) (-1) = some v:=by
 have hl:(xs ++ [v]).length = xs.length + 1:=by simp
 have e:ixN (xs ++ [v]).length (-1) = some xs.length:=by
  unfold ixN
  rw [hl,if_neg (by decide),if_pos (by omega)]
  congr 1
  omega
 unfold atI
 rw [e]
 show (xs ++ [v])[xs.length]? = some v
 simp
def PlainIx (b:Expr):Prop:=∀ o i,subscripted b false o i = operate [o,i] (getItem o i)
def IxR (X:Cx) (r:R2):Prop :=
 ∀ (value slice:Expr) (pins:List (Addr × Obj)) (s:Shared) (σ:St) (H:Hp) (x y:V) (v u:Value) (Q:VK),Inv X pins σ H s→RelV x v→RelV y u→r x y H Q →
  subscripted slice false v u = operate [v,u] (getItem v u)→wpAny (model X.prog X.w) X.A (subscriptTail value slice v u) (EP X pins σ Q) X.xe s
def MtR (X:Cx) (id:String) (r:V→List V→Hp→VK→Prop):Prop :=
 ∀ (pins:List (Addr × Obj)) (s:Shared) (σ:St) (H:Hp) (x:V) (xs:List V) (v:Value) (us:List Value) (Q:VK),Inv X pins σ H s→RelV x v→Vals xs us→r x xs H Q →
  wpAny (model X.prog X.w) X.A (call (.builtin id) (v :: us)) (EP X pins σ Q) X.xe s
section
variable {X:Cx} {a b:Expr} {ta tb:TE} {pos:Pos}
theorem pe_ix {r:R2} (hr:IxR X r) (ha:PE X a ta) (hb:PE X b tb) (hs:PlainIx b):PE X (.Subscript a b pos) (tOp r ta tb):=by
 intro pins s σ H Q I h
 exact Subscript_ (binT ha hb I h fun v u s2 x y H2 I2 rx ry q => hr a b pins s2 σ H2 x y v u Q I2 rx ry q (hs _ _))
def rIxL (K:PySem.W.Frag):R2:=fun x y H Q => ∃ p xs i v,x = .ref p∧y = .int i∧SqL K H p xs∧atI xs i = some v∧Q v H
def rIxT (K:PySem.W.Frag):R2:=fun x y H Q => ∃ p xs i v,x = .ref p∧y = .int i∧SqT K H p xs∧atI xs i = some v∧Q v H
theorem ix_list:IxR X (rIxL X.K):=by
 intro value slice pins s σ H x y v u Q I rx ry h hs
 obtain ⟨p,xs,i,z,rfl,rfl,hq,he,q⟩:=h
 cases rx
 obtain ⟨t,rfl⟩:=ry
 obtain ⟨its,r,pl,hz⟩:=I.list hq
 obtain ⟨j,h1,h2,h3,h4,h5⟩:=atI_get he
 obtain ⟨w,ew,rw'⟩:=r.get h2
 have hl:=r.length
 have hn:=line63
 have fin:EP X pins σ Q w s:=⟨z,H,I,rw',q⟩
 by_cases h0:0≤i
 ·have hj:i.toNat = j:=by
   rw [seqIndex_of h0 h5] at h1
   exact Option.some.inj h1
  exact item_listR pl.isList h0 (by omega) (by rw [hj]; simpa using ew) fin hs
 ·have hj:(i + (its.toArray.size:Int)).toNat = j:=by
   rw [seqIndex_neg (by omega) h4] at h1
   rw [List.size_toArray,← hl]
   exact Option.some.inj h1
  exact subscriptTail_builtinR (x:=w) pl.isList.typeIs slot_list_getitem.lookup
   (wpAny_getItem_list_neg (Q:=fun r s' => r = w∧EP X pins σ Q r s') pl.isList (by omega) (by rw [List.size_toArray] <;> omega) (by omega) (by rw [hj]; simpa using ew) ⟨rfl,fin⟩) hs
theorem ix_tup:IxR X (rIxT X.K):=by
 intro value slice pins s σ H x y v u Q I rx ry h hs
 obtain ⟨p,xs,i,z,rfl,rfl,hq,he,q⟩:=h
 cases rx
 obtain ⟨t,rfl⟩:=ry
 obtain ⟨its,r,pl,hz⟩:=I.tuple hq
 obtain ⟨j,h1,h2,h3,h4,h5⟩:=atI_get he
 obtain ⟨w,ew,rw'⟩:=r.get h2
 have hl:=r.length
 have hn:=line63
 have fin:EP X pins σ Q w s:=⟨z,H,I,rw',q⟩
 exact subscriptTail_builtinR (x:=w) pl.typeIs slot_tuple_getitem.lookup
  (getItem_tuple (j:=j) (Q:=fun r s' => r = w∧EP X pins σ Q r s') pl (by omega) (by omega) (by rw [List.size_toArray,← hl]; exact h1) (by simpa using ew) ⟨rfl,fin⟩) hs
theorem slice_bounds (lo hi:Option Int) (n:Nat):(sliceBounds lo hi none n).1 = ((HT.sIx n 0 lo:Nat):Int)∧(sliceBounds lo hi none n).2.1 = ((HT.sIx n n hi:Nat):Int)∧(sliceBounds lo hi none n).2.2 = 1:=by
 refine ⟨?_,?_,rfl⟩
 ·cases lo with
  | none => simp [sliceBounds,HT.sIx]
  | some i =>
   simp only [sliceBounds,HT.sIx,Option.getD_none,show (1:Int) > 0 by decide,if_true]
   by_cases h:i < 0
   ·simp only [h,if_true] <;> omega
   ·simp only [h,if_false] <;> omega
 ·cases hi with
  | none => simp [sliceBounds,HT.sIx]
  | some i =>
   simp only [sliceBounds,HT.sIx,Option.getD_none,show (1:Int) > 0 by decide,if_true]
   by_cases h:i < 0
   ·simp only [h,if_true] <;> omega
   ·simp only [h,if_false] <;> omega
theorem slicePick_cut (its:List Value) (lo hi:Option Int):slicePick its.toArray lo hi none = ((its.drop (HT.sIx its.length 0 lo)).take (HT.sIx its.length its.length hi - HT.sIx its.length 0 lo)).toArray:=by
 obtain ⟨h1,h2,h3⟩:=slice_bounds lo hi its.toArray.size
 unfold slicePick
 rw [h1,h2,h3]
 simp only [sliceRange_one,pick_run,List.size_toArray] <;> rfl
def rSlL (K:PySem.W.Frag):V→Option Int→Option Int→Hp→VK→Prop:=fun x lo hi H Q => ∃ a xs,x = .ref a∧SqL K H a xs∧∀ p,H p = none→Q (.ref p) (upd H p (.lst (cutV xs lo hi)))
theorem sl_list:SlR X (rSlL X.K):=by
 intro pins s σ H x v vl vu lo hi sl Q I rx hs pl pu h
 obtain ⟨a,xs,rfl,hx,q⟩:=h
 cases rx
 obtain ⟨its,r,ht,hz⟩:=I.list hx
 have hlen:=r.length
 refine ⟨"list",_,slot_list_getitem.lookup,ht.isList.typeIs,?_⟩
 refine wpAny_getItem_list_slice ht.isList hs pl pu .none (by simp) ?_ (by rw [List.size_toArray] <;> omega)
 rw [slicePick_cut,← hlen]
 refine ⟨.ref s.heap.objs.size,_,I.laid (t':=s.toks) (o:=.lst (cutV xs lo hi)) (fun b ob q => Heap.get?_push_of_some _ q) (Nat.le_refl _) ?_,rfl,q _ (I.hok.fresh (Nat.le_refl _))⟩
 exact ⟨Nat.le_trans (cutV_length xs lo hi) hz,_,0,(r.drop (HT.sIx xs.length 0 lo)).take (HT.sIx xs.length xs.length hi - HT.sIx xs.length 0 lo),Heap.get?_push_size _ rfl⟩
theorem call_len_seq:CallR X (.builtin "len") (fun xs H Q => ∃ p ys,xs = [.ref p]∧(SqL X.K H p ys∨SqT X.K H p ys)∧Q (.int ys.length) H):=by
 intro pins s σ H xs us Q I r h
 obtain ⟨p,ys,rfl,hq,q⟩:=h
 obtain ⟨u,rfl,rx⟩:=vals1 r
 cases rx
 have hn:=line63
 rcases hq with hq | hq
 ·obtain ⟨its,r',pl,hz⟩:=I.list hq
  have hlen:=r'.length
  exact Calls.call_len_list pl.isList (by simp only [List.size_toArray] <;> omega) ⟨.int ys.length,H,I.tok _,⟨s.toks + 1,by rw [List.size_toArray,hlen]⟩,q⟩
 ·obtain ⟨its,r',pl,hz⟩:=I.tuple hq
  have hlen:=r'.length
  exact len_tuple pl (by simp only [List.size_toArray] <;> omega) ⟨.int ys.length,H,I.tok _,⟨s.toks + 1,by rw [List.size_toArray,hlen]⟩,q⟩
theorem call_list_of:CallR X (.type "list") (fun xs H Q => ∃ p ys,xs = [.ref p]∧(SqL X.K H p ys∨SqT X.K H p ys)∧∀ l,H l = none→Q (.ref l) (upd H l (.lst ys))):=by
 intro pins s σ H xs us Q I r h
 obtain ⟨p,ys,rfl,hq,q⟩:=h
 obtain ⟨u,rfl,rx⟩:=vals1 r
 cases rx
 have fin:∀ (its:List Value),Vals ys its→ys.length≤sizeLine→∀ (h':Heap) (c':Nat),(∀ b o',s.heap.get? b = some o'→h'.get? b = some o') →
   h'.get? s.heap.objs.size = some { cls:=.type "list",dict:=none,data:=.seq its.toArray c',slots:=#[] }→EP X pins σ Q (.ref s.heap.objs.size) { s with heap:=h' }:=fun its r' hz h' c' kp e =>
  ⟨.ref s.heap.objs.size,_,I.laid (t':=s.toks) kp (Nat.le_refl _) (show ObjOk X.prog X.w _ h' _ (.lst ys) from ⟨hz,its,c',r',e⟩),rfl,q _ (I.hok.fresh (Nat.le_refl _))⟩
 rcases hq with hq | hq
 ·obtain ⟨its,r',pl,hz⟩:=I.list hq
  have hlen:=r'.length
  obtain ⟨o,ho,hc,n,hd⟩:=pl.isList
  exact call_list_seq p (.inl rfl) ho hc hd (fun h' c' kp e => fin its r' hz h' c' kp e) (by simp only [List.size_toArray] <;> omega)
 ·obtain ⟨its,r',pl,hz⟩:=I.tuple hq
  have hlen:=r'.length
  obtain ⟨o,ho,hc,n,hd⟩:=pl
  exact call_list_seq p (.inr rfl) ho hc hd (fun h' c' kp e => fin its r' hz h' c' kp e) (by simp only [List.size_toArray] <;> omega)
def tyV (K:PySem.W.Frag) (T:String) (x:V) (H:Hp):Prop:=match x with
 | .str _ => T = "str"
 | .int _ => T = "int"
 | .ref p => (T = "list"∧∃ xs,SqL K H p xs)∨(T = "tuple"∧∃ o,K.lookup p = some o∧o.cls = .type "tuple"∧o.dict = none) ∨
   (T = "dict"∧((∃ kvs,H p = some (.dK kvs))∨∃ kvs,H p = some (.dT kvs)))∨(T = "set"∧∃ S n,H p = some (.set S n))
 | _ => False
theorem tyV_is {pins:List (Addr × Obj)} {σ:St} {H:Hp} {s:Shared} {T:String} {x:V} {v:Value} (I:Inv X pins σ H s) (r:RelV x v) (ty:tyV X.K T x H) :
  s.TypeIs v T∧∀ a,v = .ref a→∃ ob,s.heap.get? a = some ob∧ob.dict = none:=by
 cases x with
 | str z =>
  obtain ⟨t,rfl⟩:=r
  cases (show T = "str" from ty)
  exact ⟨typeIs_str s z t,fun _ e => nomatch e⟩
 | int i =>
  obtain ⟨t,rfl⟩:=r
  cases (show T = "int" from ty)
  exact ⟨typeIs_int s i t,fun _ e => nomatch e⟩
 | ref p =>
  cases r
  rcases ty with ⟨rfl,xs,hq⟩ | ⟨rfl,o,hk,hc,hd⟩ | ⟨rfl,hk⟩ | ⟨rfl,S,n,hk⟩
  ·obtain ⟨its,_,pl,_⟩:=I.list hq
   refine ⟨pl.isList.typeIs,fun a e => ?_⟩
   cases e
   obtain ⟨o,n,e,c,hd,_⟩:=pl
   exact ⟨o,e,hd⟩
  ·refine ⟨⟨o,I.kIn p o hk,hc⟩,fun a e => ?_⟩
   cases e
   exact ⟨o,I.kIn _ o hk,hd⟩
  ·have z:∃ o,s.heap.get? p = some o∧o.ExactDict:=by
    rcases hk with ⟨kvs,hk⟩ | ⟨kvs,hk⟩
    ·obtain ⟨_,_,_,_,o,_,_,e,ex,_⟩:=I.hok p _ hk
     exact ⟨o,e,ex⟩
    ·obtain ⟨_,_,_,_,o,_,_,e,ex,_⟩:=I.hok p _ hk
     exact ⟨o,e,ex⟩
   obtain ⟨o,e,ex⟩:=z
   refine ⟨⟨o,e,ex.1⟩,fun a e2 => ?_⟩
   cases e2
   exact ⟨o,e,ex.2.1⟩
  ·obtain ⟨o,_,_,_,e,ex,_⟩:=I.hok p _ hk
   refine ⟨⟨o,e,ex.1⟩,fun a e2 => ?_⟩
   cases e2
   exact ⟨o,e,ex.2.1⟩
 | _ => exact False.elim ty
def tBM0 (K:PySem.W.Frag) (T:String) (r:V→List V→Hp→VK→Prop) (to:TE):TE:=fun σ H Q => to σ H fun x H1 => tyV K T x H1∧r x [] H1 Q
def tBM (K:PySem.W.Frag) (T:String) (r:V→List V→Hp→VK→Prop) (to:TE) (t:TA):TE:=fun σ H Q => to σ H fun x H1 => tyV K T x H1∧t σ H1 fun xs H2 => r x xs H2 Q
variable {o e:Expr} {es:List Expr} {to:TE} {t:TA} {name:Str} {apos cpos:Pos} {T id:String} {r:V→List V→Hp→VK→Prop}
theorem pe_bm0 (pa:PlainAttrs T) (slot:Slot T name id) (hty:typeOf (.builtin id) = pure (.type "method_descriptor")) (hm:MtR X id r) (ho:PE X o to)
  (hbase:attributeBase o name X.env (eval o X.env) = eval o X.env:=by rfl) (hline:(apos.endLine == cpos.line) = true:=by rfl):PE X (.Call (.Attribute o name apos) [] [] cpos) (tBM0 X.K T r to):=by
 intro pins s σ H Q I h
 refine wpAny_Call_method0_late hbase hline (thn (ho pins s σ H _ I h) fun v s1 ⟨x,H1,I1,r1,ty,q1⟩ => ?_)
 obtain ⟨h1,h2⟩:=tyV_is I1 r1 ty
 exact ⟨T,id,pa,slot,hty,h1,h2,Calls.callWith_builtin rfl (PySem.evalArgs_none (hm pins s1 σ H1 x [] v [] Q I1 r1 .nil q1))⟩
theorem pe_bm (pa:PlainAttrs T) (slot:Slot T name id) (hty:typeOf (.builtin id) = pure (.type "method_descriptor")) (hm:MtR X id r) (ho:PE X o to) (ha:PA X (e :: es) t)
  (hbase:attributeBase o name X.env (eval o X.env) = eval o X.env:=by rfl)
  (hfew:((backTo cpos (starEach (e :: es) X.env)).all (fun x => !x.1) && (backToKw cpos (keywordEach [] X.env)).all (fun x => x.1.isSome)
   && decide ((e :: es).length + ([]:List Keyword).length + (if ([]:List Keyword).isEmpty then 0 else 1) < 30)) = true:=by rfl)
  (hline:(apos.endLine == cpos.line) = true:=by rfl) (hs:starEach (e :: es) X.env = (false,eval e X.env) :: starEach es X.env:=by rfl) (hplain:(backTo cpos (starEach es X.env)).any (·.1) = false:=by rfl) :
  PE X (.Call (.Attribute o name apos) (e :: es) [] cpos) (tBM X.K T r to t):=by
 intro pins s σ H Q I h
 refine wpAny_Call_method_late hbase hfew hline rfl (thn (ho pins s σ H _ I h) fun v s1 ⟨x,H1,I1,r1,ty,q1⟩ => ?_)
 obtain ⟨h1,h2⟩:=tyV_is I1 r1 ty
 refine ⟨T,id,pa,slot,hty,h1,h2,?_⟩
 have hA:=ha cpos pins s1 σ H1 _ I1 q1
 rw [hs] at hA ⊢
 refine Calls.callWith_builtin (by show (false || (backTo cpos (starEach es X.env)).any (·.1)) = false; rw [hplain] <;> rfl) (Calls.evalArgs_plain ?_)
 exact thn hA fun us s2 ⟨vs,H2,I2,r2,q2⟩ => hm pins s2 σ H2 x vs v us Q I2 r1 r2 q2
end
end L2
namespace L2
open PySem PySem.Spec PyProof.Rows
def MtM (X:Cx) (id:String) (r:V→List V→Hp→VK→Prop):Prop :=
 ∀ (pins:List (Addr × Obj)) (s:Shared) (σ:St) (H:Hp) (x:V) (xs:List V) (v:Value) (us:List Value) (Q:VK),Inv X pins σ H s→RelV x v→Vals xs us→r x xs H Q →
  wpAny (model X.prog X.w) X.A (call (.builtin id) (v :: us)) (EP X pins σ Q) X.xe s
theorem Vals.one:∀ {x:V} {us:List Value},Vals [x] us→∃ u,us = [u]∧RelV x u
 | _,_,.cons r .nil => ⟨_,rfl,r⟩
theorem Vals.zero:∀ {us:List Value},Vals [] us→us = []
 | _,.nil => rfl
theorem Vals.dropLast {xs:List V} {us:List Value} (h:Vals xs us):Vals xs.dropLast us.dropLast:=by
 induction h with
 | nil => exact .nil
 | cons r t ih =>
  cases t with
  | nil => exact .nil
  | cons q t' => exact .cons r ih
theorem erase_last {α:Type} (l:List α):l.eraseIdx (l.length - 1) = l.dropLast:=by
 induction l with
 | nil => rfl
 | cons a r ih =>
  cases r with
  | nil => rfl
  | cons b r =>
   have e:(a :: b :: r).length - 1 = ((b :: r).length - 1) + 1:=by
    have h1:(a :: b :: r).length = r.length + 2:=rfl
    have h2:(b :: r).length = r.length + 1:=rfl
    omega
   rw [e,List.eraseIdx_cons_succ,ih]
   all_goals rfl
section
variable {X:Cx} {pins:List (Addr × Obj)} {σ:St} {H:Hp} {s:Shared} {l b:Addr} {xs ys zs:List V}
theorem Inv.lset {its its':List Value} {n:Nat} {f:Array Value→Array Value} {t':Nat} (I:Inv X pins σ H s) (hH:H l = some (.lst xs))
  (e:s.heap.get? l = some { cls:=.type "list",data:=.seq its.toArray n }) (hf:f its.toArray = its'.toArray) (hv:Vals ys its') (hz:ys.length≤sizeLine) :
  Inv X pins σ (upd H l (.lst ys)) { s with heap:=s.heap.update l (Obj.mapSeq f),toks:=t' }:=by
 have q:=PySem.IsL.update e f
 rw [hf] at q
 refine I.write (x:=l) (e:=l) (by rw [hH]; exact trivial) (.inl rfl) (fun b' u hb hu => (Heap.get?_update_other s.heap (Obj.mapSeq f) (Ne.symm hb)).trans hu) ⟨_,q⟩ ?_
 exact ⟨hz,its',_,hv,q⟩
theorem Inv.fresh (I:Inv X pins σ H s):H s.heap.objs.size = none:=I.hok.fresh (Nat.le_refl _)
theorem Inv.lstM (I:Inv X pins σ H s) (hH:H l = some (.lst xs)):xs.length≤sizeLine∧∃ (its:List Value) (n:Nat),Vals xs its∧xs.length = its.length∧s.heap.get? l = some { cls:=.type "list",data:=.seq its.toArray n }:=by
 obtain ⟨z,its,n,r,e⟩:=I.hok l _ hH
 exact ⟨z,its,n,r,r.length,e⟩
theorem notLongL {n:Nat} (h:n≤sizeLine):Builtin.List.listTooLong n = false:=by
 unfold Builtin.List.listTooLong
 exact decide_eq_false (by omega)
end
section
variable {X:Cx}
def rAppend:V→List V→Hp→VK→Prop:=fun x vs H Q => ∃ l xs y,x = .ref l∧vs = [y]∧H l = some (.lst xs)∧xs.length < sizeLine∧Q .non (upd H l (.lst (xs ++ [y])))
theorem mt_append:MtM X "list.append" rAppend:=by
 intro pins s σ H x vs v us Q I rx rv h
 obtain ⟨l,xs,y,rfl,rfl,hH,hz,q⟩:=h
 cases rx
 obtain ⟨u,rfl,ru⟩:=rv.one
 obtain ⟨z,its,n,r,hl,e⟩:=I.lstM hH
 refine call_meets F.slot_list_append ⟨_,e,rfl⟩ F.entry_list_append (F.args_list_append_2 _ _) (PySem.list_append l its.toArray n u (by rw [List.size_toArray]; omega)) ⟨e,?_⟩
 refine ⟨.non,_,I.lset (its':=its ++ [u]) hH e (by simp) (r.append (.cons ru .nil)) ?_,rfl,q⟩
 rw [List.length_append,List.length_singleton]
 omega
def rExtend:V→List V→Hp→VK→Prop:=fun x vs H Q => ∃ l b xs zs,x = .ref l∧vs = [.ref b]∧H l = some (.lst xs)∧H b = some (.lst zs)∧xs.length + zs.length≤sizeLine∧Q .non (upd H l (.lst (xs ++ zs)))
theorem mt_extend:MtM X "list.extend" rExtend:=by
 intro pins s σ H x vs v us Q I rx rv h
 obtain ⟨l,b,xs,zs,rfl,rfl,hH,hB,hz,q⟩:=h
 cases rx
 obtain ⟨u,rfl,ru⟩:=rv.one
 cases ru
 obtain ⟨z,its,n,r,hl,e⟩:=I.lstM hH
 obtain ⟨z2,its2,n2,r2,hl2,e2⟩:=I.lstM hB
 have hsz:its.toArray.size + its2.toArray.size≤sizeLine:=by rw [List.size_toArray,List.size_toArray]; omega
 have hlong:¬ (!its.toArray.isEmpty && Builtin.List.listTooLong (its.toArray.size + its2.toArray.size)) = true:=by
  rw [notLongL hsz,Bool.and_false]
  exact Bool.false_ne_true
 refine call_meets F.slot_list_extend ⟨_,e,rfl⟩ F.entry_list_extend (F.args_list_extend_2 _ _)
  (AutoSeq1.list_extend_list_list_0 l its.toArray n b its2.toArray n2 hlong (by rw [List.size_toArray]; omega) (by omega)) ⟨e,e2,?_⟩
 refine ⟨.non,_,I.lset (its':=its ++ its2) hH e (by simp) (r.append r2) ?_,rfl,q⟩
 rw [List.length_append]
 omega
def rPop:V→List V→Hp→VK→Prop:=fun x vs H Q => ∃ l xs y,x = .ref l∧vs = []∧H l = some (.lst xs)∧xs[xs.length - 1]? = some y∧Q y (upd H l (.lst xs.dropLast))
theorem mt_pop:MtM X "list.pop" rPop:=by
 intro pins s σ H x vs v us Q I rx rv h
 obtain ⟨l,xs,y,rfl,rfl,hH,hy,q⟩:=h
 cases rx
 have hus:=rv.zero
 subst hus
 obtain ⟨z,its,n,r,hl,e⟩:=I.lstM hH
 obtain ⟨u,hu,ru⟩:=r.get hy
 have hy':its.toArray[its.toArray.size - 1]? = some u:=by
  show its.toArray[its.length - 1]? = some u
  rw [← Array.getElem?_toList,← hl]
  exact hu
 refine call_meets F.slot_list_pop ⟨_,e,rfl⟩ F.entry_list_pop (F.args_list_pop_1 _) (MeetsSeq.list_pop_last l its.toArray n u hy' (by rw [List.size_toArray]; omega)) ⟨e,?_⟩
 refine ⟨y,_,I.lset (its':=its.dropLast) hH e ?_ r.dropLast ?_,ru,q⟩
 ·show its.toArray.eraseIdxIfInBounds (its.toArray.size - 1) = its.dropLast.toArray
  rw [List.size_toArray,List.eraseIdxIfInBounds_toArray,erase_last]
 ·rw [List.length_dropLast]
  omega
def rClear:V→List V→Hp→VK→Prop:=fun x vs H Q => ∃ l xs,x = .ref l∧vs = []∧H l = some (.lst xs)∧Q .non (upd H l (.lst []))
theorem mt_clear:MtM X "list.clear" rClear:=by
 intro pins s σ H x vs v us Q I rx rv h
 obtain ⟨l,xs,rfl,rfl,hH,q⟩:=h
 cases rx
 have hus:=rv.zero
 subst hus
 obtain ⟨z,its,n,r,hl,e⟩:=I.lstM hH
 refine call_meets F.slot_list_clear ⟨_,e,rfl⟩ F.entry_list_clear (F.args_list_clear_1 _) (AutoSeq1.list_clear_list_0 l its.toArray n (by rw [List.size_toArray]; omega)) ⟨e,?_⟩
 exact ⟨.non,_,I.lset (its':=[]) (ys:=[]) hH e rfl .nil (Nat.zero_le _),rfl,q⟩
end
section
variable {prog:Program} {w:World} {A:Around} {E:Value→Shared→Prop} {s:Shared}
end
section
variable {X:Cx}
end
end L2
namespace Att
open PySem PySem.W PySem.Calls PyProof.Rows
theorem ints_of_wellAll {P:Params} {h:Heap}:∀ (ns:List Int) (vs:List Value),WellAll P h vs (ns.map WData.int)→IntsAre vs ns:=by
 intro ns
 induction ns with
 | nil =>
  intro vs w
  rw [List.map_nil] at w
  cases w
  exact .nil
 | cons n ns ih =>
  intro vs w
  rw [List.map_cons] at w
  cases w with
  | cons a b =>
   cases a
   exact .cons _ _ (ih _ b)
theorem script_of {l:OpenLaw} {n:Nat} (hn:l.most = some n) {P:Params} {h:Heap} {args:List WData} {vals:List Value}
  (hpre:l.row.toRowW.claim.pre args = true) (hwl:WellAll P h vals args) :
  ∃ a vs ns,vals = [Value.ref a]∧args = [WData.list (ns.map WData.int)]∧h.get? a = some { cls:=.type "list",data:=.seq vs.toArray }∧IntsAre vs ns∧ns.length≤n:=by
 have hsh:WShape.hasAll [] args [.list .int] = true:=(pre_splitW hpre).1
 have hc:l.pre.holds [] { args:=args } = true:=(pre_splitW hpre).2
 obtain ⟨d,r,rfl,h1,h2⟩:=hasAllW_cons hsh
 obtain rfl:=hasAllW_nil h2
 obtain ⟨xs,rfl,h3⟩:=hasW_list h1
 obtain ⟨ns,rfl⟩:=items_int h3
 have hlen:ns.length≤n:=by
  unfold OpenLaw.pre at hc
  have h4:(WTm.not (.lt (.lit (.int (n:Int))) (.len (.arg 0)))).holds [] { args:=[.list (ns.map .int)] } = true:=by
   have h4:=(holds_andW hc).1
   rw [hn] at h4
   exact h4
  have h5:=condW_of h4 (w_not (w_lt w_lit (w_len_list (w_arg rfl))))
  rw [List.length_map] at h5
  refine Nat.le_of_not_lt fun q => ?_
  have q':(n:Int) < ((ns.length:Nat):Int):=by omega
  first
   | (rw [decide_eq_true q'] at h5; exact absurd h5 (by decide))
   | (simp at h5; omega)
 cases hwl with
 | cons w1 w2 =>
  cases w2
  cases w1 with
  | list ho hall => exact ⟨_,_,ns,rfl,rfl,ho,ints_of_wellAll ns _ hall,hlen⟩
theorem post_true (l:OpenLaw) (args:List WData):l.row.toRowW.claim.post args (.bool true) args = true :=
 postW_of (r:=l.row.toRowW) (X:=(true == true))
  (show WShape.has [] (.bool true) .bool = true by first | rfl | decide | simp [WShape.has,WShape.arms,WShape.armsAll])
  (show (WTm.eq .res (.lit (.bool true))).value [] { args:=args,res:=some (.bool true),after:=args } = some (.bool (true == true)) from w_eq_bool (w_res rfl) w_lit) rfl
theorem attach_call {l:OpenLaw} {n:Nat} {q:Program} {loose:List Str} {XP:(Str→Option Value)→Heap→Prop} {YP:World→Heap→Prop} {d:DefRec}
  (hn:l.most = some n) (hdf:d.params.defaults = [])
  (call:∀ (w:World) (s₀ s₁:Shared) (mg mb:Str→Option Value) (fa:Addr) (o:Obj) (pm cd doc:Value) (a:Addr) (vs:List Value) (ns:List Int),
   Ground q loose [] XP w s₀ mg mb s₁.heap→YP w s₁.heap →
   s₁.heap.get? fa = some o→o.data = .func (docDef d.name d.params d.body d.scope pm cd doc)→s₁.heap.CodeRec cd d.name→mg d.name = some (.ref fa) →
   s₁.heap.get? a = some { cls:=.type "list",data:=.seq vs.toArray }→IntsAre vs ns→ns.length≤n→s₁.gens = #[] →
   codeAny (model l.prog w) callerA (.call (.ref fa) ⟨[.ref a],[]⟩) (fun r s' => r = .ok (.ret (.bool true))∧OldK s₁.heap s'.heap∧s'.os = s₁.os∧AllBare s'.gens) s₁) :
  WalkO q loose XP YP l.row.toRowW d [] (fun f vs => PySem.call f vs):=by
 intro w s₀ s₁ mg mb G Y fa o pm cd doc dV kV ho hd hcd hD hmg hg args vals as hpre hlay hrd hwl hlo
 obtain rfl:dV = .none:=Dflts.none hD hdf
 obtain rfl:kV = .none:=Dflts.noKw hD
 obtain ⟨a,vs,ns,rfl,rfl,hobj,hints,hlen⟩:=script_of hn hpre hwl
 refine enter_call (codeAny_mono (call w s₀ s₁ mg mb fa o pm cd doc a vs ns G Y ho (fd_plain hd) hcd hmg hobj hints hlen hg) fun r s' hq => ?_)
 obtain ⟨rfl,h2,h3,h4⟩:=hq
 exact ⟨.inl ⟨.bool true,.bool true,[],rfl,fun _ => rfl,.bool true,post_true l _,fun _ => ⟨List.Pairwise.nil,fun _ hm => (nomatch hm)⟩⟩,h2,h3,h4⟩
section
variable {prog:Program} {w:World} {A:Around} {E:Value→Shared→Prop} {s:Shared} {K:Frag}
end
end Att
namespace L2
open PySem PySem.Spec PyProof.Rows
theorem vals_ints:∀ {vs:List Value} {ns:List Int},IntsAre vs ns→Vals (ns.map V.int) vs
 | _,_,.nil => .nil
 | _,_,.cons n t h => .cons ⟨t,rfl⟩ (vals_ints h)
def Only (H:Hp):Prop:=∀ b,H b = none∨∃ o xs,H b = some (.frz o (.lst xs))
theorem law_call {P:Program} {w:World} {K:PySem.W.Frag} {mg mb:Str→Option Value} {CX:CXT} {k:Nat} {fa a:Addr} {fd:FuncData} {x:Str} {sp:Sp} {s₁:Shared} {vs:List Value} {ns:List Int}
  (KX:K.In s₁.heap) (hns:s₁.heap.Ns mainGlobals mg) (hb:s₁.heap.Ns builtinsNs mb) (hbb:∀ x:Str,x≠"__name__"→mb x = bootBuiltins x) (hlim:s₁.heap.NoLimit) (hg:s₁.gens = #[])
  (ha:s₁.heap.get? a = some { cls:=.type "list",data:=.seq vs.toArray }) (hi:IntsAre vs ns) (hl:ns.length≤sizeLine) (hr:Room k callerA)
  (F:∀ base:Heap,K.In base→base.Ns mainGlobals mg→FnOk P w K mg base CX k fa fd [x] sp) (hbind:∀ (s:Shared) (u:Value),BindsTo s fd ⟨[u],[]⟩ [(x,u)])
  (hsp:∀ H:Hp,Only H→SqL K H a (ns.map V.int)→sp [.ref a] H (fun v _ => v = .bl true) fun _ _ _ => False)
  (hCX:∀ H e s',CX [] H s₁ (fun _ _ _ => False) e s'→False) :
  codeAny (model P w) callerA (.call (.ref fa) ⟨[.ref a],[]⟩) (fun r s' => r = .ok (.ret (.bool true))∧OldK s₁.heap s'.heap∧s'.os = s₁.os∧AllBare s'.gens) s₁:=by
 have rv:=vals_ints hi
 have lenV:=hi.length
 have core:∀ H:Hp,Only H→SqL K H a (ns.map V.int)→HOk P w H s₁.heap→(∀ b,H b≠none→b = a)→(H a≠none→K.lookup a = none) →
   codeAny (model P w) callerA (.call (.ref fa) ⟨[.ref a],[]⟩) (fun r s' => r = .ok (.ret (.bool true))∧OldK s₁.heap s'.heap∧s'.os = s₁.os∧AllBare s'.gens) s₁:=by
  intro H hO hS hok hA hK
  have base_of:∀ {b:Addr} {o:Obj},s₁.heap.get? b = some o→H b = none→(hidT s₁.heap H).get? b = some o:=fun e n => hidT_get e n
  have noA:∀ {b:Addr} {o:Obj} {es:Array DictEntry} {ep:Nat},s₁.heap.get? b = some o→o.data = .dict es ep→H b = none:=fun {b o es ep} e d => by
   cases q:H b with
   | none => rfl
   | some u =>
    have e':b = a:=hA b (by rw [q]; simp)
    subst e'
    rw [ha] at e; cases e
    have d':Data.seq vs.toArray _ = Data.dict es ep:=d
    cases d'
  have nsK:∀ {b:Addr} {m:Str→Option Value},s₁.heap.Ns b m→(hidT s₁.heap H).Ns b m:=fun {b m} ⟨o,es,ep,e,d,r⟩ => ⟨o,es,ep,base_of e (noA e d),d,r⟩
  have hKb:K.In (hidT s₁.heap H):=fun b o e => base_of (KX b o e) (by
   cases q:H b with
   | none => rfl
   | some u =>
    have e':b = a:=hA b (by rw [q]; simp)
    subst e'
    rw [hK (by rw [q]; simp)] at e; cases e)
  have hM:Mod K mg (hidT s₁.heap H):=⟨hKb,nsK hns,⟨mb,nsK hb,hbb⟩,let ⟨mc,h1,h2⟩:=hlim; ⟨mc,nsK h1,h2⟩⟩
  have e0:Env0 P w K mg (hidT s₁.heap H) callerA [] s₁ H:=⟨rfl,hM,fun b o e => of_hidT e,Nat.le_of_eq (hidT_size _ _),trivial,fun b hb => absurd (show b∈([]:List Addr) from hb) (by simp),hok,.of_eq hg,.inl rfl⟩
  refine codeAny_mono ((F _ hKb (nsK hns)).run callerA [] s₁ H ⟨[.ref a],[]⟩ [.ref a] [.ref a] _ _ hr e0 (hbind s₁ (.ref a)) (.cons rfl .nil) (hsp H hO hS)) fun r s' h => ?_
  cases r with
  | error e => exact (hCX H e s' h).elim
  | ok fl =>
   cases fl with
   | next => exact False.elim h
   | brk => exact False.elim h
   | cont => exact False.elim h
   | ret u =>
    obtain ⟨v,H',os,bare,un,hok',r',q⟩:=h
    have q':v = .bl true:=q
    subst q'
    obtain rfl:u = Value.bool true:=r'
    refine ⟨rfl,OldK.of_keep fun b o e => ?_,os,bare⟩
    cases q:H b with
    | none => exact un.keep b o e q (by intro z; exact absurd (show b∈([]:List Addr) from z) (by simp)) (by simp)
    | some u =>
     rcases hO b with z | ⟨ob,xs,z⟩
     ·rw [q] at z; cases z
     ·have z2:=un.frzs b ob _ z
      obtain ⟨e1,_⟩:=hok b _ z
      obtain ⟨e2,_⟩:=hok' b _ z2
      rw [e] at e1; cases e1
      exact e2
 cases hk:K.lookup a with
 | some o =>
  have e:=KX a o hk
  rw [ha] at e
  cases e
  refine core (fun _ => none) (fun _ => .inl rfl) (.inr ⟨_,vs.toArray,_,hk,rfl,rfl,rfl,by rw [List.size_toArray,lenV]; exact hl,by simpa using rv⟩) (fun b u z => by have z':(none:Option HO) = some u:=z; cases z') (fun b z => absurd rfl z) fun z => absurd rfl z
 | none =>
  refine core (fun b => if b = a then some (.frz { cls:=.type "list",data:=.seq vs.toArray } (.lst (ns.map V.int))) else none) (fun b => ?_) (.inl (.inr ⟨{ cls:=.type "list",data:=.seq vs.toArray },if_pos rfl⟩)) (fun b u z => ?_) (fun b z => ?_) fun _ => hk
  ·by_cases hb:b = a
   ·exact .inr ⟨_,_,if_pos hb⟩
   ·exact .inl (if_neg hb)
  ·by_cases hb:b = a
   ·have z':=(if_pos hb).symm.trans z
    cases z'
    subst hb
    exact ⟨ha,by rw [List.length_map]; exact hl,vs,_,rv,ha⟩
   ·have z':=(if_neg hb).symm.trans z
    cases z'
  ·by_cases hb:b = a
   ·exact hb
   ·exact absurd (if_neg hb) z
end L2
namespace L2
open PySem PySem.Spec PyProof.Rows
abbrev KOf {K:PySem.W.Frag} {h:Heap} (_:K.In h):PySem.W.Frag:=K
theorem walk_of {l:PySem.W.OpenLaw} {n k:Nat} {q:Program} {loose:List Str} {XP:(Str→Option Value)→Heap→Prop} {YP:World→Heap→Prop} {d:DefRec} {K:Params→PySem.W.Frag} {CX:World→CXT} {sp:World→Sp} {x:Str}
  (hn:l.most = some n) (hn2:n≤sizeLine) (hdf:d.params.defaults = []) (hr:Room k callerA)
  (hY:∀ (w:World) (h:Heap),YP w h→(K w.params).In h)
  (F:∀ (w:World) (mg:Str→Option Value) (fa:Addr) (h:Heap),(K w.params).In h→h.Ns mainGlobals mg→mg d.name = some (.ref fa) →
   ∃ fd:FuncData,(∀ (s:Shared) (u:Value),BindsTo s fd ⟨[u],[]⟩ [(x,u)]) ∧
    ∀ base:Heap,(K w.params).In base→base.Ns mainGlobals mg→FnOk l.prog w (K w.params) mg base (CX w) k fa fd [x] (sp w))
  (hsp:∀ (w:World) (H:Hp) (a:Addr) (ns:List Int),ns.length≤n→Only H→SqL (K w.params) H a (ns.map V.int)→sp w [.ref a] H (fun v _ => v = .bl true) fun _ _ _ => False)
  (hCX:∀ (w:World) (H:Hp) (s:Shared) (e:Value) (s':Shared),CX w [] H s (fun _ _ _ => False) e s'→False) :
  PySem.W.WalkO q loose XP YP l.row.toRowW d [] (fun f vs => PySem.call f vs):=by
 refine Att.attach_call hn hdf fun w s₀ s₁ mg mb fa o pm cd doc a vs ns G Y ho hd hcd hmg hobj hints hlen hg => ?_
 have KX:=hY w _ Y
 obtain ⟨fd,hb,hF⟩:=F w mg fa _ KX G.T.g hmg
 exact law_call KX G.T.g G.T.b G.T.builtins G.T.nolimit hg hobj hints (Nat.le_trans hlen hn2) hr hF hb (fun H hO hS => hsp w H a ns hlen hO hS) fun H e s' => hCX w H s₁ e s'
end L2
namespace L2
open PySem PySem.Spec PyProof.Rows
def inClass (s:Stmt) (j:Nat):Stmt:=match s with
 | .ClassDef _ _ _ body _ _ _ _ _ _ _ => body.getD j (.Pass ⟨0,0,0,0⟩)
 | _ => .Pass ⟨0,0,0,0⟩
def defArgs (s:Stmt):Arguments:=match s with
 | .FunctionDef _ a _ _ _ _ _ _ _ _ => a
 | _ => { posonlyargs:=[],args:=[],vararg:=none,kwonlyargs:=[],kw_defaults:=[],kwarg:=none,defaults:=[] }
def defBody (s:Stmt):List Stmt:=match s with
 | .FunctionDef _ _ b _ _ _ _ _ _ _ => b
 | _ => []
def defScope (s:Stmt):Scope:=match s with
 | .FunctionDef _ _ _ _ _ _ sc _ _ _ => sc
 | _ => { kind:=.function,names:=[],isGenerator:=false,isCoroutine:=false }
structure Fun (K:PySem.W.Frag) (x qual:Str) (st:Stmt) (f:Addr) (fd:FuncData):Prop where
 ex:∃ (oc:Value) (od:Option Addr) (kV doc pm:Value) (an:Option Addr) (cdv ct:Value) (osl:Array (Option Value)),
  fd = PySem.W.fnOf x qual (defArgs st) (defBody st) (defScope st) .none kV doc pm an cdv ct∧K.lookup f = some ⟨oc,od,.func fd,osl⟩∧PySem.W.codeIn K cdv qual = true
 kp:PySem.W.keepIn K (.ref f) = true
section
variable {P:Program} {w:World} {K:PySem.W.Frag} {mg:Str→Option Value} {base:Heap}
theorem Fun.binds {x qual:Str} {st:Stmt} {f:Addr} {fd:FuncData} {ps:List Str} (F:Fun K x qual st f fd)
  (h:∀ (kV doc pm:Value) (an:Option Addr) (cdv ct:Value) (us:List Value),us.length = ps.length→bindArgs (PySem.W.fnOf x qual (defArgs st) (defBody st) (defScope st) .none kV doc pm an cdv ct) ⟨us,[]⟩ = pure (ps.zip us)):Binds K fd ps []:=by
 obtain ⟨oc,od,kV,doc,pm,an,cdv,ct,osl,rfl,lk,hcd⟩:=F.ex
 exact .all (h kV doc pm an cdv ct)
theorem fun_mk {x qual:Str} {st:Stmt} {f:Addr} {oc:Value} {od an:Option Addr} {osl:Array (Option Value)} {kV doc pm cdv ct:Value} (l:K.lookup f = some ⟨oc,od,.func (PySem.W.fnOf x qual (defArgs st) (defBody st) (defScope st) .none kV doc pm an cdv ct),osl⟩)
  (c:PySem.W.codeIn K cdv qual = true) (k:PySem.W.keepIn K (.ref f) = true):Fun K x qual st f (PySem.W.fnOf x qual (defArgs st) (defBody st) (defScope st) .none kV doc pm an cdv ct):=⟨⟨oc,od,kV,doc,pm,an,cdv,ct,osl,rfl,l,c⟩,k⟩
end
theorem hu_of {A:Around} {k:Nat} (hr:Room k A):A.units + 1 < cLine:=Nat.lt_of_le_of_lt (Nat.add_le_add_left (by decide:1≤64) _) hr.units
section
variable {X:Cx}
theorem pv (i:Nat) {x:Str} {pos:Pos} (hN:X.N[i]? = some x:=by rfl) (hv:Vis X.env.scope x:=by first | exact Or.inl rfl | exact Or.inr (Or.inl rfl) | exact Or.inr (Or.inr rfl)) (hd:(x == ("__debug__":Str)) = false:=by decide)
  (hcd:(x == ("__classdict__":Str)) = false:=by decide):PE X (.Name x pos) (tVar i):=pe_var hN hv hd hcd
end
theorem iteF {A B:Prop} (h:B):if false = true then A else B:=by
 rw [if_neg Bool.false_ne_true]
 exact h
theorem iteT {A B:Prop} (h:A):if true = true then A else B:=by
 rw [if_pos rfl]
 exact h
def Same (H H':Hp):Prop:=∀ b o,H b = some o→H' b = some o
theorem Same.refl (H:Hp):Same H H:=fun _ _ h => h
theorem Same.trans {H H1 H2:Hp} (a:Same H H1) (b:Same H1 H2):Same H H2:=fun c o h => b c o (a c o h)
end L2
namespace L2
open PySem PySem.Spec PyProof.Rows
theorem ObjOk.there {P:Program} {w:World} {H:Hp} {h:Heap} {a:Addr} {o:HO} (x:ObjOk P w H h a o):∃ u,h.get? a = some u:=by
 cases o with
 | lst xs => obtain ⟨_,_,_,_,e⟩:=x; exact ⟨_,e⟩
 | tup xs => obtain ⟨_,_,_,ob,e,_⟩:=x; exact ⟨_,e⟩
 | dK kvs => obtain ⟨_,_,_,_,ob,_,_,e,_⟩:=x; exact ⟨_,e⟩
 | dT kvs => obtain ⟨_,_,_,_,ob,_,_,e,_⟩:=x; exact ⟨_,e⟩
 | set S n => obtain ⟨ob,_,_,_,e,_⟩:=x; exact ⟨_,e⟩
 | ins C dx fs => obtain ⟨_,_,_,e,_⟩:=x; exact ⟨_,e⟩
 | own y => exact x
 | xd fs => obtain ⟨_,⟨_,_,_,e,_⟩,_⟩:=x; exact ⟨_,e⟩
 | rng lo hi => obtain ⟨_,_,_,e⟩:=x; exact ⟨_,e⟩
 | frz ob u => obtain ⟨e,_⟩:=x; exact ⟨_,e⟩
 | tbl ps => exact ⟨_,(show h.get? a = some _ from x)⟩
 | met f y => exact ⟨_,(show h.get? a = some _ from x)⟩
 | ext φ => obtain ⟨_,e,_⟩:=x; exact e
theorem HOk.free_of {P:Program} {w:World} {H:Hp} {h:Heap} {a:Addr} (x:HOk P w H h) (e:h.get? a = none):H a = none:=by
 cases q:H a with
 | none => rfl
 | some o => obtain ⟨u,z⟩:=(x a o q).there; rw [e] at z; cases z
structure Flies (h0 h:Heap) (H:Hp) (e C:Addr):Prop where
 ex:∃ oe vs T oT ts,∃ a0:Value × Value,h.get? e = some oe∧oe.cls = .ref C∧vs[0]? = some a0.1∧oe.data = .fields vs∧vs[1]? = some (.ref T)∧T≠e∧h.get? T = some oT∧oT.data = .fields ts∧ts[3]? = some .none∧h0.get? T = none∧H T = none∧vs[2]? = some a0.2∧CxO H a0.2
 new:h0.get? e = none
 free:H e = none
def XC (P:Program) (w:World):CXT:=fun outer H s E e s' => ∃ (ea C:Addr) (H':Hp),e = .ref ea∧s'.os = s.os∧AllBare s'.gens∧Un (frs outer) [] H H' s.heap s'.heap∧HOk P w H' s'.heap∧Flies s.heap s'.heap H' ea C∧E (.ref C) none H'
theorem Un.late {fs ex ch:List Addr} {H H':Hp} {h h1 h2:Heap} (u:Un fs ex H H' h h1) (fresh:∀ b∈ch,h.get? b = none)
  (k:∀ b o,b ∉ fs→b ∉ ch→h1.get? b = some o→h2.get? b = some o) (ks:∀ b o,b∈fs→h1.get? b = some o→∃ sl,h2.get? b = some { o with slots:=sl }):Un fs ex H H' h h2:=by
 have nch:∀ b o,h.get? b = some o→b ∉ ch:=fun b o q z => by have:=fresh b z; rw [q] at this; cases this
 refine ⟨fun b o q n hb hx => k b o hb (nch b o q) (u.keep b o q n hb hx),fun b o q n hb hx => ?_,u.free,fun b o q hx => ?_,u.tups,u.frzs,u.tbls⟩
 ·obtain ⟨sl,e1⟩:=u.slot b o q n hb hx
  obtain ⟨sl',e2⟩:=ks b _ hb e1
  exact ⟨sl',e2⟩
 ·obtain ⟨o',e1⟩:=u.there b o q hx
  by_cases hb:b∈fs
  ·obtain ⟨sl,e2⟩:=ks b o' hb e1
   exact ⟨_,e2⟩
  ·exact ⟨o',k b o' hb (nch b o q) e1⟩
section
variable {X:Cx} {pins:List (Addr × Obj)} {σ:St} {H H':Hp} {s s':Shared} {ea C:Addr} {a0:Value × Value} {h':Heap} {ch:List Addr}
theorem fly_after (I:Inv X pins σ H s) (hst:X.stack = X.env :: X.outer) (os:s'.os = s.os) (bare:AllBare s'.gens) (un:Un (frs X.stack) [] H H' s.heap s'.heap) (hok:HOk X.prog X.w H' s'.heap)
  (hch:∀ b∈ch,s.heap.get? b = none∧H' b = none) (hea:ea∈ch) (hcx:CxO H' a0.2) (L:StepC (PySem.W.hideAll s'.heap (ch ++ frs X.stack)) (X.env :: X.outer) ea (.ref C) a0 .none s'.heap h') :
  Inv X pins σ H' { s' with heap:=h' }∧Flies s.heap h' H' ea C:=by
 have I1:Inv X pins σ H' s':=I.call' (ch:=[]) os un hok bare (fun b z => absurd z (by simp))
 obtain ⟨st,ff,tr,up⟩:=L
 have FF:s'.heap.FunFrames X.base X.stack:=I1.stack
 have keep:∀ b o,b ∉ frs X.stack→b ∉ ch→s'.heap.get? b = some o→h'.get? b = some o:=fun b o hb hc e => st b o (PySem.W.hideAll_get _ e fun z => (List.mem_append.mp z).elim hc hb)
 have slots:∀ b o,b∈frs X.stack→s'.heap.get? b = some o→∃ sl,h'.get? b = some { o with slots:=sl }:=fun b o hb e => by
  obtain ⟨_,o',ho',hd⟩:=FF.mem hb
  rw [e] at ho'; cases ho'
  exact up b o e hd
 have un2:Un (frs X.stack) [] H H' s.heap h':=un.late (ch:=ch) (fun b hb => (hch b hb).1) keep slots
 have free:∀ b,H' b≠none→b ∉ frs X.stack∧b ∉ ch:=fun b n => ⟨fun z => n (I1.stkFree b z),fun z => n (hch b z).2⟩
 have hok2:HOk X.prog X.w H' h':=fun b o e => (hok b o e).stay (fun c u hc q => by
  have n:H' c≠none:=by
   rcases hc with z | z
   ·rw [z,e]; simp
   ·rw [z]; simp
  exact keep c u (free c n).1 (free c n).2 q) (fun _ q => q) fun _ _ q => q
 refine ⟨I.call' (s':={ s' with heap:=h' }) (ch:=[]) os un2 hok2 bare (fun b z => absurd z (by simp)),⟨?_,(hch ea hea).1,(hch ea hea).2⟩⟩
 obtain ⟨oe,vs,T,oT,ts,e1,⟨e2,e3,c3⟩,e4,e5,e6,e7,e8,e9,e10⟩:=tr
 have hT:s.heap.get? T = none∧H' T = none:=by
  cases q:s'.heap.get? T with
  | none =>
   refine ⟨?_,hok.free_of q⟩
   cases q2:s.heap.get? T with
   | none => rfl
   | some o => obtain ⟨o',z⟩:=un.there T o q2 (by simp); rw [q] at z; cases z
  | some o =>
   by_cases hc:T∈ch
   ·exact hch T hc
   ·by_cases hf:T∈frs X.stack
    ·have hf2:T∈frs (X.env :: X.outer):=hst▸hf
     obtain ⟨_,o',ho',hd⟩:=ff.mem hf2
     rw [e8] at ho'; cases ho'
     exact absurd e9 (hd ts)
    ·rw [PySem.W.hideAll_get _ q fun z => (List.mem_append.mp z).elim hc hf] at e6
     cases e6
 exact ⟨oe,vs,T,oT,ts,a0,e1,e2,e3,e4,e5,e7,e8,e9,e10,hT.1,hT.2,c3,hcx⟩
theorem frames_hid (I:Inv X pins σ H' s') (hst:X.stack = X.env :: X.outer) (ch:List Addr):s'.heap.FunFrames (PySem.W.hideAll s'.heap (ch ++ frs X.stack)) (X.env :: X.outer):=by
 have FF:s'.heap.FunFrames X.base X.stack:=I.stack
 rw [← hst]
 exact PySem.W.funFrames_hide FF fun env he a hf => List.mem_append_right _ (List.mem_filterMap.mpr ⟨env,he,hf⟩)
theorem leave_on (I:Inv X pins σ H s) (hst:X.stack = X.env :: X.outer) (hf:X.env.frame = some X.env.locals) (os:s'.os = s.os) (bare:AllBare s'.gens) (un:Un (frs X.stack) [] H H' s.heap s'.heap) (hok:HOk X.prog X.w H' s'.heap)
  (fl:Flies s.heap s'.heap H' ea C) {M:Model} {E:Value→Shared→Prop} {Q:Unit→Shared→Prop} (h:∀ h',Inv X pins σ H' { s' with heap:=h' }→Flies s.heap h' H' ea C→Q () { s' with heap:=h' }) :
  wpAny M X.A (leaving X.env (.ref ea)) Q E s':=by
 have I1:Inv X pins σ H' s':=I.call' (ch:=[]) os un hok bare (fun b z => absurd z (by simp))
 obtain ⟨oe,vs,T,oT,ts,a0,e1,e2,e3,e4,e5,e7,e8,e9,e10,e11,e12,c3,cx⟩:=fl.ex
 have hfr:X.A.frames = some (X.env :: X.outer):=by rw [← hst]; exact I.ok.frames
 refine leave_next (base:=PySem.W.hideAll s'.heap ([ea,T] ++ frs X.stack)) (cls:=.ref C) (a0:=a0) hfr (frames_hid I1 hst [ea,T]) hf
  ⟨oe,vs,T,oT,ts,e1,⟨e2,e3,c3⟩,e4,e5,PySem.W.hideAll_none _ (by simp),e7,e8,e9,e10⟩ (fun b o q => PySem.W.of_hideAll _ q) (PySem.W.hideAll_none _ (by simp)) fun h' L => ?_
 obtain ⟨J,F⟩:=fly_after (ch:=[ea,T]) I hst os bare un hok (fun b hb => by
  rcases List.mem_cons.mp hb with rfl | hb
  ·exact ⟨fl.new,fl.free⟩
  ·obtain rfl:b = T:=by simpa using hb
   exact ⟨e11,e12⟩) (by simp) cx L
 exact h h' J F
theorem leave_made (I:Inv X pins σ H s) (hst:X.stack = X.env :: X.outer) (hf:X.env.frame = some X.env.locals) {h1:Heap} {args:List Value} (hm:Heap.MadeExcOf s.heap h1 ea (.ref C) args)
  {M:Model} {E:Value→Shared→Prop} {Q:Unit→Shared→Prop} (h:∀ h',Inv X pins σ H { s with heap:=h' }→Flies s.heap h' H ea C→Q () { s with heap:=h' }) :
  wpAny M X.A (leaving X.env (.ref ea)) Q E { s with heap:=h1 }:=by
 have I1:Inv X pins σ H { s with heap:=h1 }:=I.kept (t':=s.toks) hm.keeps
 obtain ⟨t,e1,e2,e3⟩:=hm.there
 have hfr:X.A.frames = some (X.env :: X.outer):=by rw [← hst]; exact I.ok.frames
 refine leave_first (s:={ s with heap:=h1 }) (base:=PySem.W.hideAll h1 ([ea] ++ frs X.stack)) (a0:=(.ref t,.none)) hfr (frames_hid I1 hst [ea]) hf e1 (fun b o q => PySem.W.of_hideAll _ q)
  (PySem.W.hideAll_none _ (by simp)) rfl rfl rfl rfl fun h' L => ?_
 obtain ⟨J,F⟩:=fly_after (ch:=[ea]) (s':={ s with heap:=h1 }) I hst rfl I.bare (Un.kept hm.keeps) I1.hok (fun b hb => by
  obtain rfl:b = ea:=by simpa using hb
  exact ⟨hm.new,I.hok.free_of hm.new⟩) (by simp) .nil L
 exact h h' J F
end
def Throws (X:Cx) (E:XK):Prop:=∀ (pins:List (Addr × Obj)) (σ:St) (H:Hp) (s:Shared) (ea C:Addr) (h':Heap) (args:List Value),Inv X pins σ H s→Heap.MadeExcOf s.heap h' ea (.ref C) args→E (.ref C) none H→X.xe (.ref ea) { s with heap:=h' }
section
variable {P:Program} {w:World} {K:PySem.W.Frag} {mg:Str→Option Value} {base:Heap} {N ps:List Str} {qual:Str} {scope:Scope} {f:Addr} {cd:Value} {A:Around} {outer:List Env} {s:Shared} {H:Hp} {E:XK}
abbrev cxE (P:Program) (w:World) (K:PySem.W.Frag) (mg:Str→Option Value) (base:Heap) (N:List Str) (qual:Str) (scope:Scope) (f:Addr) (cd:Value) (A:Around) (outer:List Env) (s:Shared) (H:Hp) (E:XK) (c:Bool:=true):Cx :=
 cxOf (XC P w) P w K mg base N qual scope f cd A outer s H E c
theorem fresh_start {c:Bool} {pins:List (Addr × Obj)} {σ:St} {H1 H':Hp} {s1:Shared} {h':Heap} {ea C:Addr} (I:Inv (cxE P w K mg base N qual scope f cd A outer s H E c) pins σ H1 s1) (F:Flies s1.heap h' H' ea C):Flies s.heap h' H' ea C:=by
 have z:∀ b,s1.heap.get? b = none→s.heap.get? b = none:=fun b q => by
  cases q2:s.heap.get? b with
  | none => rfl
  | some o => obtain ⟨o',e⟩:=I.base.there b o q2 (by simp [cxOf]); rw [q] at e; cases e
 obtain ⟨oe,vs,T,oT,ts,a0,e1,e2,e3,e4,e5,e7,e8,e9,e10,e11,e12,c3,cx⟩:=F.ex
 exact ⟨⟨oe,vs,T,oT,ts,a0,e1,e2,e3,e4,e5,e7,e8,e9,e10,z _ e11,e12,c3,cx⟩,z _ F.new,F.free⟩
theorem passes_of {c:Bool}:Passes (XC P w) (cxE P w K mg base N qual scope f cd A outer s H E c) E:=by
 intro pins σ H1 s1 e s' I h
 obtain ⟨ea,C',H',rfl,os,bare,un,hok,fl,q⟩:=h
 refine leave_on I rfl rfl os bare un hok fl fun h' J F => ?_
 exact ⟨ea,C',H',rfl,J.os,J.bare,J.base,J.hok,fresh_start I F,q⟩
theorem throws_of {c:Bool}:Throws (cxE P w K mg base N qual scope f cd A outer s H E c) E:=by
 intro pins σ H1 s1 ea C h1 args I hm q
 refine leave_made I rfl rfl hm fun h' J F => ?_
 exact ⟨ea,C,H1,rfl,J.os,J.bare,J.base,J.hok,fresh_start I F,q⟩
theorem owns_of {c:Bool}:PassesOwn (model P w) (cxE P w K mg base N qual scope f cd A outer s H E c).A (cxE P w K mg base N qual scope f cd A outer s H E c).env (cxE P w K mg base N qual scope f cd A outer s H E c).xe:=PassesOwn.leaving
theorem Fun.okX {x:Str} {st:Stmt} {fd:FuncData} {k:Nat} {sp:Sp} {c:Bool} (F:Fun K x qual st f fd) (S:FnScope N ps (defScope st)) (len:∀ vs H Q E,sp vs H Q E→vs.length = ps.length)
  (hbody:∀ (cdv:Value) (A:Around) (outer:List Env) (s:Shared) (H:Hp) (vs:List V) (Q:VK) (E:XK),RoomC c k (A.deeper (envOfC qual (defScope st) s.heap.objs.size f cdv))→sp vs H Q E →
   ∃ t,PSs (cxE P w K mg base N qual (defScope st) f cdv A outer s H E c) (defBody st) t∧t { nx:=fun _ H' => Q .non H',rt:=Q } (start N vs) H):FnOk P w K mg base (XC P w) (k + 1) f fd ps sp c:=by
 obtain ⟨oc,od,kV,doc,pm,an,cdv,ct,osl,rfl,lk,hcd⟩:=F.ex
 exact fn_of lk hcd S len fun A outer s H vs Q E hr hsp => hbody cdv A outer s H vs Q E hr hsp
end
theorem exc_cls {K:PySem.W.Frag} {h:Heap} {C:Addr} {bmB:List Value} {newId:String} (X:K.In h) (q:PySem.W.excIn K C bmB newId = true) :
  ∃ nm qn N bs bm hdct sn sub ab col dd k0 k1 k2 k3 k5 mN,h.get? C = some (excClassObj nm qn C N bs bm hdct sn sub ab col dd k0 k1 k2 k3 k5 newId)∧h.Ns N mN∧mN "__init__" = none∧OwnTail h bmB bm:=by
 unfold PySem.W.excIn at q
 split at q
 ·rename_i dd cd sl ho
  split at q
  ·rename_i C' bm k0 k1 k2 k3 n k5 hm hs
   simp only [Bool.and_eq_true,beq_iff_eq,Bool.not_eq_true'] at q
   obtain ⟨⟨⟨⟨⟨e1,e2⟩,hdel⟩,ht⟩,hok⟩,hni⟩:=q
   subst e1 e2
   obtain ⟨nm,bs,mro,ns,qn,hd,sn,sub,ab,col,del⟩:=cd
   dsimp only at hm hdel hok hni
   subst hm hdel
   obtain ⟨l⟩:=sl
   have hs':l = [k0,k1,k2,k3,some (.builtin n),k5]:=hs
   subst hs'
   exact ⟨nm,qn,ns,bs,bm,hd,sn,sub,ab,col,dd,k0,k1,k2,k3,k5,_,X _ _ ho,.of_isNs (PySem.W.isNs_of_in X hok),PySem.W.nsMap_none_of_in X hok hni,PySem.W.tail_of_in X ht⟩
  ·cases q
 ·cases q
abbrev bmV:List Value:=[.type "ValueError",.type "Exception",.type "BaseException",.type "object"]
structure Err (K:PySem.W.Frag) (mg:Str→Option Value) (x:Str) (C:Addr):Prop where
 mg:mg x = some (.ref C)
 ex:PySem.W.excIn K C bmV "ValueError.__new__" = true
def tRaise (C:Addr) (ta:TA) (E:XK):TS:=fun _ σ H => ta σ H fun vs H1 => vs.length≤sizeLine∧E (.ref C) none H1
theorem ps_raise {X:Cx} {E:XK} {x:Str} {C:Addr} {e:Expr} {es:List Expr} {ta:TA} {np cpos pos:Pos} (hT:Throws X E) (hc:X.calm = true) (R:Err X.K X.mg x C) (hg:Gl X x) (ha:PA X (e :: es) ta)
  (hd:(x == ("__debug__":Str)) = false:=by decide) (he:starEach (e :: es) X.env = (false,eval e X.env) :: starEach es X.env:=by rfl) (hpl:(backTo cpos (starEach es X.env)).any (·.1) = false:=by rfl) :
  PS X (.Raise (some (.Call (.Name x np) (e :: es) [] cpos)) none pos) (tRaise C ta E):=by
 intro pins s σ H D I h
 obtain ⟨nm,qn,N,bs,bm,hdct,sn,sub,ab,col,dd,k0,k1,k2,k3,k5,mN,hC,hN,hni,T⟩:=exc_cls I.ok.mod.kin R.ex
 refine wpAny_Raise_call_subU (C:=C) (nm:=nm) (q:=qn) (N:=N) (bs:=bs) (bm:=bm) (hdct:=hdct) (sn:=sn) (sub:=sub) (ab:=ab) (col:=col) (dd:=dd) (k0:=k0) (k1:=k1) (k2:=k2) (k3:=k3) (k5:=k5)
  PySem.F.excBase_ValueError (by decide +kernel) PySem.F.excBase_ValueError (mN:=mN) (T.hasType (by decide +kernel)) (I.ok.hd hc) (by rw [he]; show (false || (backTo cpos (starEach es X.env)).any (·.1)) = false; rw [hpl]; rfl) hni
  (ld_glob I hg R.mg ⟨rfl,?_⟩ hd)
 have ha':=ha cpos pins s σ H _ I h
 rw [he] at ha' ⊢
 refine Calls.evalArgs_plain (thn ha' fun us s1 ⟨vs,H1,I1,r,hl,q⟩ => ?_)
 refine ⟨rfl,by rw [← r.length]; exact hl,I1.bk _ _ hC,hN.keeps I1.bk,T.keeps I1.bk,fun h' ea hm => ?_⟩
 exact hT pins σ H1 s1 ea C h' us I1 hm q
end L2
namespace L2
open PySem PySem.Spec PyProof.Rows
theorem comp_turns {prog:Program} {w:World} {A:Around} {R:Result→Shared→Prop} {s:Shared} {elt tg iter:Expr} {ifs:List Expr} {scope:Scope} {pos:Pos} {it acc:Value} {env:Env} (J:Nat→Shared→Prop)
  (turn:∀ n s,J n s→wpAny (model prog w) A (pyNext it) (fun r s1 => match r with
   | none => R (.ok .next) s1
   | some v => wpAny (model prog w) A (letOwnedTupleGo tg it v) (fun _ s2 => wpAny (model prog w) A (assign tg env v) (fun _ s3 =>
     wpAny (model prog w) A (forIn ifs true fun c r => if r = true then do let ok ← isTrue c env (eval c env); pure (ForInStep.yield ok) else pure (ForInStep.yield r)) (fun ok s4 =>
      if ok = true then wpAny (model prog w) A (eval elt env) (fun x s5 => wpAny (model prog w) A (call (.builtin "list.append") [acc,x]) (fun _ s6 => ∃ m,m < n∧J m s6) (fun _ _ => False) s5) (fun _ _ => False) s4
      else ∃ m,m < n∧J m s4) (fun _ _ => False) s3) (fun _ _ => False) s2) (fun _ _ => False) s1) (fun _ _ => False) s)
  (n:Nat) (h:J n s):codeAny (model prog w) A (.compLoop (.ListComp elt [⟨tg,iter,ifs,0⟩] scope pos) 0 it acc env) R s:=by
 refine codeAny_loop rfl J (fun n s hJ => ?_) n h
 show wpAny _ A ((compTurn (.ListComp elt [⟨tg,iter,ifs,0⟩] scope pos) 0 it acc env).onRaise _) _ _ s
 refine wpAny_noted (wpAny_noRaise ?_)
 rw [compTurn_list]
 refine wpAny_bind (wpAny_standAt (wpAny_bind (thn (turn n s hJ) fun r s1 h1 => ?_)))
 cases r with
 | none => exact wpAny_pure h1
 | some v =>
  refine wpAny_bind (thn h1 fun _ s2 h2 => wpAny_bind (thn h2 fun _ s3 h3 => wpAny_bind (thn h3 fun ok s4 h4 => ?_)))
  cases ok with
  | false => exact wpAny_pure ⟨rfl,h4⟩
  | true => exact wpAny_bind (wpAny_bind (thn h4 fun x s5 h5 => wpAny_bind (thn h5 fun _ s6 h6 => wpAny_pure (wpAny_pure ⟨rfl,h6⟩))))
abbrev Cx.blk (X:Cx) (scope:Scope) (cl:List (Str × Addr)) (C:Addr) (own:List Str) (s:Shared) (H:Hp) (fp:List Addr) (pins:List (Addr × Obj)):Cx :=
 { X with N:=X.N ++ own,env:=compEnvC scope cl C X.env,s₀:=s,H₀:=H,outer:=X.stack,ex:=fp,fn:=fun _ => false,pn:=X.pn ++ pins,xe:=fun _ _ => False }
theorem lookup_relab {env:Env} {x:Str}:∀ {names:List (Str × NameKind)},(names.map fun (n,k) => if (k == NameKind.free && env.scope.kind == .function && env.kindOf n == some .cell) then (n,NameKind.cell) else (n,k)).lookup x =
  (names.lookup x).map fun k => if (k == NameKind.free && env.scope.kind == .function && env.kindOf x == some .cell) then NameKind.cell else k
 | [] => rfl
 | (n,k) :: r => by
  have ih:=@lookup_relab env x r
  rw [List.map_cons]
  show List.lookup x ((if (k == NameKind.free && env.scope.kind == .function && env.kindOf n == some .cell) = true then (n,NameKind.cell) else (n,k)) :: _) = _
  have e:(if (k == NameKind.free && env.scope.kind == .function && env.kindOf n == some .cell) = true then (n,NameKind.cell) else (n,k)) = (n,if (k == NameKind.free && env.scope.kind == .function && env.kindOf n == some .cell) = true then NameKind.cell else k):=by
   split <;> rfl
  rw [e]
  cases q:x == n with
  | true =>
   obtain rfl:x = n:=by simpa using q
   simp [List.lookup_cons]
  | false => simp only [List.lookup_cons,q]; exact ih
structure CompScope (X:Cx) (scope:Scope) (cl:List (Str × Addr)):Prop where
 clos:closureFor scope X.env = pure cl
 kind:scope.kind = .function
 nocell:∀ y∈scope.names,y.2≠.cell
 names:∀ y∈scope.names,y.2 = .local→scope.names.lookup y.1 = some .local
 sub:∀ x c,cl.lookup x = some c→X.env.cells.lookup x = some c
 has:∀ x,scope.names.lookup x = some .free→∃ c,cl.lookup x = some c
 apart:∀ x∈X.N,scope.names.lookup x≠some .local
 outer:∀ x,scope.names.lookup x = some .free→X.env.kindOf x = some .cell∨X.env.kindOf x = some .free
theorem lookup_mem {α β:Type} [BEq α] [LawfulBEq α] {l:List (α × β)} {x:α} {b:β} (h:l.lookup x = some b):(x,b)∈l:=by
 induction l with
 | nil => simp at h
 | cons p r ih =>
  obtain ⟨a,c⟩:=p
  rw [List.lookup_cons] at h
  split at h
  ·rename_i q
   obtain rfl:x = a:=by simpa using q
   cases h; exact .head _
  ·exact .tail _ (ih h)
section
variable {X:Cx} {scope:Scope} {cl:List (Str × Addr)} {own:List Str} {pins:List (Addr × Obj)} {σ:St} {H2 H3:Hp} {s2:Shared} {fp:List Addr} {C:Addr} {h1:Heap}
theorem stk_no {b:Addr} (I2:Inv X pins σ H2 s2) (n1:b≠X.env.locals) (n2:b ∉ X.fs):b ∉ frs X.stack:=fun z => (List.mem_cons.mp (I2.stkSub b z)).elim n1 n2
theorem blk_in (S:CompScope X scope cl) (I2:Inv X pins σ H2 s2) (f2:∀ b∈fp,FpOk X pins H2 b) (hlt:∀ b∈fp,b < s2.heap.objs.size) (hC:s2.heap.objs.size≤C) {m:Str→Option Value} (hns:h1.Ns C m)
  (keep:∀ b o,s2.heap.get? b = some o→h1.get? b = some o) (hH:∀ b o,s2.heap.get? b = some o→H2 b = none→H3 b = none) (un:Un (frs X.stack) fp H2 H3 s2.heap h1) (hok:HOk X.prog X.w H3 h1) (hCf:H3 C = none) {tk:Nat} :
  Inv (X.blk scope cl C own s2 H2 fp pins) [] (σ ++ List.replicate own.length none) H3 { s2 with heap:=h1,toks:=tk }:=by
 have neC:∀ b o,s2.heap.get? b = some o→b≠C:=fun b o e => Nat.ne_of_lt (Nat.lt_of_lt_of_le (Heap.lt_size e) hC)
 have kof:∀ x,(compEnvC scope cl C X.env).kindOf x = (scope.names.lookup x).map fun k => if (k == NameKind.free && X.env.scope.kind == .function && X.env.kindOf x == some .cell) then NameKind.cell else k:=fun x => lookup_relab
 have isfree:∀ x,((compEnvC scope cl C X.env).kindOf x = some .cell∨(compEnvC scope cl C X.env).kindOf x = some .free)→scope.names.lookup x = some .free:=fun x hx => by
  rw [kof x] at hx
  cases q:scope.names.lookup x with
  | none => rw [q] at hx; rcases hx with z | z <;> cases z
  | some k =>
   rw [q] at hx
   have nc:=S.nocell _ (lookup_mem q)
   cases k <;> simp_all
 refine ⟨⟨I2.ok.mod,S.kind,I2.ok.glob,I2.ok.blt,hC,fun x y c e1 e2 => I2.ok.inj x y c (S.sub x c e1) (S.sub y c e2),fun x hx => S.has x (isfree x hx),fun x c z _ => (by cases z),I2.ok.hd,I2.ok.frames,.inl rfl,
  fun b hb => ⟨Nat.ne_of_lt (Nat.lt_of_lt_of_le (hlt b hb) hC),fun x c e => (f2 b hb).2.2.2.2.1 x c (S.sub x c e)⟩,fun b o e => ⟨(I2.bs b o e).1,(I2.bs b o e).2⟩,Nat.le_trans I2.ok.bsz I2.sz,fun b o e hb => ?_,fun b hb => stk_no I2 (f2 b hb).2.1 (f2 b hb).2.2.1,I2.stack,I2.stkFree⟩,
  rfl,I2.bare,un,⟨m,hns,fun i x v e1 e2 e3 => ?_⟩,fun x c e => ?_,hCf,fun x c e => ?_,fun p hp => ?_,hok,?_,I2.hn.mono un.frzs⟩
 ·rcases (f2 b hb).2.2.2.1 with z | z
  ·exact I2.ok.noex b o e z
  ·exact absurd (Nat.lt_of_lt_of_le (Nat.lt_of_lt_of_le (Heap.lt_size e) I2.ok.bsz) z) (Nat.lt_irrefl _)
 ·
  have hi:i < σ.length:=by
   apply Classical.byContradiction
   intro hn
   rw [List.getElem?_append_right (by omega),List.getElem?_replicate] at e2
   split at e2 <;> cases e2
  rw [List.getElem?_append_left hi] at e2
  have hi2:i < X.N.length:=by rw [← I2.len]; exact hi
  have e1':X.N[i]? = some x:=by rw [← List.getElem?_append_left (l₂:=own) hi2]; exact e1
  have hx:x∈X.N:=List.mem_of_getElem? e1'
  have e3':(compEnvC scope cl C X.env).kindOf x = some .local∨(compEnvC scope cl C X.env).kindOf x = some .cell∨(compEnvC scope cl C X.env).kindOf x = some .free:=e3
  have nl:(compEnvC scope cl C X.env).kindOf x≠some .local:=fun z => by
   rw [kof x] at z
   cases q:scope.names.lookup x with
   | none => rw [q] at z; cases z
   | some k =>
    rw [q,Option.map_some] at z
    have na:=S.apart x hx
    rw [q] at na
    cases k <;> first
     | exact na rfl
     | (have z':=Option.some.inj z; split at z' <;> cases z')
  have hcf:(compEnvC scope cl C X.env).kindOf x = some .cell∨(compEnvC scope cl C X.env).kindOf x = some .free:=e3'.resolve_left nl
  obtain ⟨c,hc⟩:=S.has x (isfree x hcf)
  obtain ⟨m0,hn0,hl0⟩:=I2.loc
  have hcX:=S.sub x c hc
  have ho:=S.outer x (isfree x hcf)
  obtain ⟨u,r,l⟩:=hl0 i x v e1' e2 (.inr ho)
  refine ⟨u,r,.inr ⟨hcf,c,hc,?_⟩⟩
  rcases l with ⟨z,_⟩ | ⟨_,c',hc',oc,hoc,hdc⟩
  ·rcases ho with y | y <;> (rw [y] at z; cases z)
  ·rw [hcX] at hc'
   cases hc'
   exact ⟨oc,keep _ _ hoc,hdc⟩
 ·obtain ⟨v,⟨oc,hoc,hdc⟩⟩:=I2.cell x c (S.sub x c e)
  exact ⟨v,oc,keep _ _ hoc,hdc⟩
 ·obtain ⟨v,⟨oc,hoc,hdc⟩⟩:=I2.cell x c (S.sub x c e)
  exact hH c oc hoc (I2.freeC x c (S.sub x c e))
 ·obtain ⟨q1,q2,q3,q4,q5⟩:=I2.pin p (by simpa using hp)
  exact ⟨keep _ _ q1,hH _ _ q1 q2,neC _ _ q1,stk_no I2 q3 q4,q5⟩
 ·show (σ ++ List.replicate own.length none).length = (X.N ++ own).length
  rw [List.length_append,List.length_append,List.length_replicate,I2.len]
theorem blk_out (I2:Inv X pins σ H2 s2) (f2:∀ b∈fp,FpOk X pins H2 b) (hC:s2.heap.objs.size≤C) {pl:List (Addr × Obj)} {σ':St} {s4:Shared} {h':Heap} (I4:Inv (X.blk scope cl C own s2 H2 fp pins) pl σ' H3 s4) (sb:Heap.SameBut C s4.heap h') :
  Inv X pins σ H3 { s4 with heap:=h' }:=by
 have un:Un (frs X.stack) fp H2 H3 s2.heap s4.heap:=I4.base
 have nC:s2.heap.get? C = none:=Heap.get?_none_of_le hC
 have CF:C ∉ frs X.stack:=fun z => by
  obtain ⟨_,o,ho,_⟩:=I2.stack.mem z
  rw [nC] at ho; cases ho
 have un2:Un (frs X.stack) fp H2 H3 s2.heap h':=un.late (ch:=[C]) (fun b hb => by
  obtain rfl:b = C:=by simpa using hb
  exact nC) (fun b o _ hb e => (sb.2 b (by simpa using hb)).trans e) fun b o hb e => ⟨o.slots,(sb.2 b fun z => CF (z▸hb)).trans e⟩
 have hf:H3 C = none:=I4.free
 have hok:HOk X.prog X.w H3 h':=fun b o e => (I4.hok b o e).stay (fun c u hc q => (sb.2 c fun z => by
  subst z
  rcases hc with z | z
  ·rw [z,e] at hf; cases hf
  ·rw [z] at hf; cases hf).trans q) (fun _ q => q) fun _ _ q => q
 exact I2.call' (s':={ s4 with heap:=h' }) (ch:=fp) I4.os un2 hok I4.bare fun b hb => ⟨(f2 b hb).2.2.2.1,(f2 b hb).2.1,(f2 b hb).2.2.2.2.1,(f2 b hb).2.2.2.2.2⟩
end
def PF (X:Cx) (ifs:List Expr) (t:TT):Prop :=
 ∀ (pins:List (Addr × Obj)) (s:Shared) (σ:St) (H:Hp) (Q:Bool→Hp→Prop),Inv X pins σ H s→t σ H Q →
  wpAny (model X.prog X.w) X.A (forIn ifs true fun c r => if r = true then do let ok ← isTrue c X.env (eval c X.env); pure (ForInStep.yield ok) else pure (ForInStep.yield r)) (TP X pins σ Q) X.xe s
theorem pf_nil {X:Cx}:PF X [] (fun _ H Q => Q true H):=fun _ _ _ H _ I h => wpAny_tests_nil ⟨H,I,h⟩
theorem pf_one {X:Cx} {c:Expr} {t:TT} (h:PT X c t):PF X [c] t:=fun pins s σ H Q I q => wpAny_tests_one (h pins s σ H Q I q)
def compT (k:Nat) (g:TG) (tc:TT) (te:TE) (σ:St) (Q:VK):It→Hp→Prop:=fun J H1 => ∀ D,H1 D = none→∃ W:Nat→Nat→List V→Hp→Prop,(∃ m,W 0 m [] (upd H1 D (.lst [])))∧∀ i m ys H,W i m ys H →
 H D = some (.lst ys)∧((J.stop i H∧Q (.ref D) H)∨(J.go i H∧ys.length < sizeLine∧∀ x H',J.yld i H x H'→g x (σ ++ List.replicate k none) H' fun σ2 H2 => (∃ zs,σ2 = σ ++ zs∧zs.length = k)∧tc σ2 H2 fun b H3 =>
  if b = true then te σ2 H3 fun y H4 => H4 D = some (.lst ys)∧∃ m',m' < m∧W (i + 1) m' (ys ++ [y]) (upd H4 D (.lst (ys ++ [y]))) else ∃ m',m' < m∧W (i + 1) m' ys H3))
def tComp (wi:TI) (k:Nat) (g:TG) (tc:TT) (te:TE):TE:=fun σ H Q => wi σ H (compT k g tc te σ Q)
section
variable {X:Cx} {tg elt iter:Expr} {ifs:List Expr} {scope:Scope} {cl:List (Str × Addr)} {own:List Str} {wi:TI} {g:TG} {tc:TT} {te:TE} {pos:Pos}
theorem comp_core {p2:Pos} {use:Option (Value→Sem Unit)} {QV:Value→Shared→Prop} {pins:List (Addr × Obj)} {s:Shared} {σ:St} {H:Hp} {Q:VK} (S:CompScope X scope cl) (hi:PI X tg iter wi)
  (hg:∀ C s H fp pins,PG (X.blk scope cl C own s H fp pins) tg g) (ht:∀ C s H fp pins,PF (X.blk scope cl C own s H fp pins) ifs tc) (he:∀ C s H fp pins,PE (X.blk scope cl C own s H fp pins) elt te)
  (hs:∀ x,foldedSetIterable iter X.env x = pure x) (I:Inv X pins σ H s) (h:tComp wi own.length g tc te σ H Q)
  (fin:∀ D C s2 H2 H3 s4,Inv X pins σ H2 s2→s2.heap.objs.size≤C→H3 C = none→(∃ m,s4.heap.Ns C m)→(∀ h',Heap.SameBut C s4.heap h'→Inv X pins σ H3 { s4 with heap:=h' })→Q (.ref D) H3→compPost (model X.prog X.w) X.A X.xe use QV (.ref D) C (.ok .next) s4) :
  wpAny (model X.prog X.w) X.A (comprehension (.ListComp elt [⟨tg,iter,ifs,0⟩] scope pos) scope X.env p2 (newList []) false (eval iter X.env) use) QV X.xe s:=by
 refine wpAny_comprehension_free (use:=use) rfl hs S.clos S.kind S.names (thn (hi pins s σ H _ I h) fun v s1 h1 => thn h1 fun itv s2 h2 => ?_)
 obtain ⟨it,fp,tn,J,H2,e,I2,T,st2,f2,R⟩:=h2
 subst e
 obtain ⟨nm,T,hc⟩:=T
 refine wpAny_newObj_type (wpAny_newFunctionEnv S.nocell (by intro y hy; simp at hy) (fun h1 hns hsb => ?_) S.kind)
 dsimp only at hns hsb ⊢
 have hlt:∀ b∈fp,b < s2.heap.objs.size:=fun b hb => by
  obtain ⟨o,ho,_⟩:=T.obj 0 _ st2 b hb
  exact Heap.lt_size ho
 generalize hp:s2.heap.push { cls:=.type "list",dict:=none,data:=.seq ([]:List Value).toArray } = hl at hns hsb ⊢
 have hC:hl.objs.size = s2.heap.objs.size + 1:=by rw [← hp,Heap.size_push]
 have hCle:s2.heap.objs.size≤hl.objs.size:=by rw [hC]; exact Nat.le_succ _
 have hDC:s2.heap.objs.size≠hl.objs.size:=by rw [hC]; exact Nat.ne_of_lt (Nat.lt_succ_self _)
 have old:∀ b o,hl.get? b = some o→h1.get? b = some o:=fun b o e => hsb.extBut b o (Nat.ne_of_lt (Heap.lt_size e)) (Heap.get?_push_of_some _ e)
 have old2:∀ b o,s2.heap.get? b = some o→h1.get? b = some o:=fun b o e => old b o (hp▸Heap.get?_push_of_some _ e)
 have Dn:H2 s2.heap.objs.size = none:=I2.fresh
 have Cn:H2 hl.objs.size = none:=I2.hok.fresh hCle
 obtain ⟨W,⟨m0,w0⟩,step⟩:=R s2.heap.objs.size Dn
 have hobj:h1.get? s2.heap.objs.size = some { cls:=.type "list",data:=.seq ([]:List Value).toArray }:=old _ _ (hp▸Heap.get?_push_size _ rfl)
 have I3:Inv (X.blk scope cl hl.objs.size own s2 H2 fp pins) [] (σ ++ List.replicate own.length none) (upd H2 s2.heap.objs.size (.lst [])) { s2 with heap:=h1,toks:=s2.toks + ([]:List (Str × Value)).length } :=
  blk_in S I2 f2 hlt hCle hns old2 (fun b o e n => by rw [upd_ne (Nat.ne_of_lt (Heap.lt_size e))]; exact n) (Un.laid old2 (Nat.le_refl _) Dn) (I2.hok.laid old2 (Nat.le_refl _) (show ObjOk X.prog X.w (upd H2 s2.heap.objs.size (.lst [])) h1 s2.heap.objs.size (.lst []) from ⟨Nat.zero_le _,[],0,.nil,hobj⟩)) (by rw [upd_ne (Ne.symm hDC)]; exact Cn)
 have fpn:∀ b∈fp,upd H2 s2.heap.objs.size (.lst []) b = none:=fun b hb => by rw [upd_ne (Nat.ne_of_lt (hlt b hb))]; exact (f2 b hb).1
 have stat:∀ {H':Hp},(∀ b∈fp,H' b = none)→∀ b∈fp,FpOk (X.blk scope cl hl.objs.size own s2 H2 fp pins) [] H' b:=fun hn b hb =>
  ⟨hn b hb,Nat.ne_of_lt (Nat.lt_of_lt_of_le (hlt b hb) hCle),stk_no I2 (f2 b hb).2.1 (f2 b hb).2.2.1,.inl hb,fun x c e => (f2 b hb).2.2.2.2.1 x c (S.sub x c e),fun p hp => (f2 b hb).2.2.2.2.2 p (by simpa using hp)⟩
 have loop:∀ s3:Shared,s3 = { s2 with heap:=h1,toks:=s2.toks + ([]:List (Str × Value)).length } →
   codeAny (model X.prog X.w) X.A (.compLoop (.ListComp elt [⟨tg,iter,ifs,0⟩] scope pos) 0 (.ref it) (.ref s2.heap.objs.size) (compEnvC scope cl hl.objs.size X.env)) (compPost (model X.prog X.w) X.A X.xe use QV (.ref s2.heap.objs.size) hl.objs.size) s3:=by
  rintro s3 rfl
  refine comp_turns (fun n s' => ∃ i ys H',Inv (X.blk scope cl hl.objs.size own s2 H2 fp pins) [] (σ ++ List.replicate own.length none) H' s'∧tn i s'.heap∧(∀ b∈fp,H' b = none)∧W i n ys H') ?_ m0
   ⟨0,[],_,I3,T.keep 0 _ _ st2 (fun b _ o e => old2 b o e),fpn,w0⟩
  rintro n s3 ⟨i,ys,H3,J3,st3,fr3,w3⟩
  obtain ⟨hD,⟨stop,q⟩ | ⟨go,hlen,turn⟩⟩:=step i n ys H3 w3
  ·refine thn (T.done (X.blk scope cl hl.objs.size own s2 H2 fp pins) rfl rfl rfl hc i [] s3 _ H3 _ J3 (stat fr3) st3 stop) fun r s4 ⟨hr,J4⟩ => ?_
   subst hr
   obtain ⟨m4,hn4,_⟩:=J4.loc
   exact fin _ _ s2 H2 H3 s4 I2 hCle J4.free ⟨m4,hn4⟩ (fun h' sb => blk_out I2 f2 hCle J4 sb) q
  ·refine thn (T.item (X.blk scope cl hl.objs.size own s2 H2 fp pins) rfl rfl rfl hc i [] s3 _ H3 _ J3 (stat fr3) st3 go) fun r s4 ⟨u,hr,h4⟩ => ?_
   subst hr
   refine thn h4 fun _ s5 ⟨x,H5,J5,r5,y5,st5,fr5⟩ => ?_
   have J5':=J5.pinned (stat fr5) (T.obj _ _ st5)
   refine thn (hg _ _ _ _ _ _ s5 _ H5 x u _ J5' r5 (turn x H5 y5)) fun _ s6 ⟨σ6,H6,J6,⟨ts,e6,hts⟩,q6⟩ => ?_
   subst e6
   refine thn (ht _ _ _ _ _ _ s6 _ H6 _ J6 q6) fun ok s7 ⟨H7,J7,q7⟩ => ?_
   have again:∀ {s8:Shared} {H8:Hp} {zs:List V},Inv (X.blk scope cl hl.objs.size own s2 H2 fp pins) ([] ++ pinsAt fp s5.heap) (σ ++ ts) H8 s8→(∃ m',m' < n∧W (i + 1) m' zs H8) →
     ∃ m,m < n∧∃ i ys H',Inv (X.blk scope cl hl.objs.size own s2 H2 fp pins) [] (σ ++ List.replicate own.length none) H' s8∧tn i s8.heap∧(∀ b∈fp,H' b = none)∧W i m ys H':=fun {s8 H8 zs} J8 ⟨m',hm,w8⟩ => by
    refine ⟨m',hm,i + 1,zs,H8,?_,T.keep _ _ _ st5 fun b hb o e => (J8.pin (b,o) (List.mem_append_right _ (List.mem_append_right _ (mem_pinsAt hb e)))).1,fun b hb => ?_,w8⟩
    ·refine J8.unpinned.weak (by rw [List.length_append,List.length_append,List.length_replicate,hts]) fun j v ej => ?_
     by_cases hj:j < σ.length
     ·rw [List.getElem?_append_left hj] at ej ⊢
      exact ej
     ·rw [List.getElem?_append_right (by omega),List.getElem?_replicate] at ej
      split at ej <;> cases ej
    ·obtain ⟨o,e,d⟩:=T.obj _ _ st5 b hb
     exact (J8.pin (b,o) (List.mem_append_right _ (List.mem_append_right _ (mem_pinsAt hb e)))).2.1
   cases ok with
   | false => exact again J7 q7
   | true =>
    refine thn (he _ _ _ _ _ _ s7 _ H7 _ J7 q7) fun z s8 ⟨y,H8,J8,r8,hD8,q8⟩ => ?_
    refine thn (mt_append _ s8 _ H8 (.ref s2.heap.objs.size) [y] _ [z] (fun _ H9 => ∃ m',m' < n∧W (i + 1) m' (ys ++ [y]) H9) J8 rfl (.cons r8 .nil) ⟨_,ys,y,rfl,rfl,hD8,hlen,q8⟩) fun _ s9 ⟨_,H9,J9,_,q9⟩ => again J9 q9
 exact codeAny_compStart_list (loop _ rfl) (T.self _ 0 _ _ _ (T.keep 0 _ _ st2 fun b _ o e => old2 b o e) (loop _ rfl))
theorem pe_comp (S:CompScope X scope cl) (hi:PI X tg iter wi)
  (hg:∀ C s H fp pins,PG (X.blk scope cl C own s H fp pins) tg g) (ht:∀ C s H fp pins,PF (X.blk scope cl C own s H fp pins) ifs tc) (he:∀ C s H fp pins,PE (X.blk scope cl C own s H fp pins) elt te)
  (hs:∀ x,foldedSetIterable iter X.env x = pure x:=by intro _; rfl):PE X (.ListComp elt [⟨tg,iter,ifs,0⟩] scope pos) (tComp wi own.length g tc te):=by
 intro pins s σ H Q I h
 rw [eval_ListComp]
 exact comp_core (use:=none) (QV:=EP X pins σ Q) S hi hg ht he hs I h fun D C s2 H2 H3 s4 _ _ _ hn inv q => hn.elim fun m hn => ⟨m,hn,fun h' sb => ⟨.ref D,H3,inv h' sb,rfl,q⟩⟩
end
end L2
namespace L2
open PySem PySem.Spec PyProof.Rows
theorem Inv.track {X:Cx} {pins:List (Addr × Obj)} {σ:St} {H:Hp} {s:Shared} {a:Addr} {o:HO} (I:Inv X pins σ H s) (hn:H a = none) (h0:X.s₀.heap.get? a = none) (hL:a≠X.env.locals)
  (hc:∀ x c,X.env.cells.lookup x = some c→c≠a) (hp:∀ p∈X.pn ++ pins,p.1≠a) (new:ObjOk X.prog X.w (upd H a o) s.heap a o):Inv X pins σ (upd H a o) s:=by
 have ne:∀ b u,H b = some u→b≠a:=fun b u e z => by rw [z,hn] at e; cases e
 refine ⟨I.ok,I.os,I.bare,⟨I.base.keep,I.base.slot,fun b u e n hx => ?_,I.base.there,fun b xs e => ?_,fun b u v e => ?_,fun b ps e => ?_⟩,I.loc,I.cell,?_,fun x c e => ?_,fun p h => ?_,fun b u e => ?_,I.len,I.hn.mono fun b u v e => by rw [upd_ne (ne b _ e)]; exact e⟩
 ·rw [upd_ne (fun z => by rw [z,h0] at e; cases e)]; exact I.base.free b u e n hx
 ·have q:=I.base.tups b xs e
  rw [upd_ne (ne b _ q)]; exact q
 ·have q:=I.base.frzs b u v e
  rw [upd_ne (ne b _ q)]; exact q
 ·obtain ⟨m,q⟩:=I.base.tbls b ps e
  exact ⟨m,by rw [upd_ne (ne b _ q)]; exact q⟩
 ·rw [upd_ne (Ne.symm hL)]; exact I.free
 ·rw [upd_ne (hc x c e)]; exact I.freeC x c e
 ·obtain ⟨q1,q2,q3⟩:=I.pin p h
  exact ⟨q1,by rw [upd_ne (hp p h)]; exact q2,q3⟩
 ·by_cases hb:b = a
  ·subst hb; rw [upd_same] at e; cases e; exact new
  ·rw [upd_ne hb] at e
   exact (I.hok b u e).stay (fun _ _ _ q => q) (fun c q => by rw [upd_ne (ne c _ q)]; exact q) fun c xs q => by rw [upd_ne (ne c _ q)]; exact q
section
variable {X:Cx} {k:Nat} {f:Addr} {fd:FuncData} {ps:List Str} {sp:Sp} {E:St→XK} {x:Str} {p pos:Pos} {e:Expr} {es:List Expr} {t:TA}
end
section
variable {X:Cx} {pins pl:List (Addr × Obj)} {σ:St} {H:Hp} {s:Shared} {E:Value→Shared→Prop}
end
section
variable {X:Cx} {body:List Stmt} {b0:Stmt} {suite:List Stmt} {cn n:Str} {np hpos pos:Pos} {C0:Addr} {i:Nat} {tb:(St→XK)→TS} {th:TS}
end
end L2
namespace L2
open PySem PySem.Spec PyProof.Rows
section
variable {P:Program} {w:World} {K:PySem.W.Frag} {mg:Str→Option Value} {base:Heap} {k:Nat} {x m:Str} {C:Addr} {ps:List Str} {sp:Sp}
structure GoodF (P:Program) (w:World) (K:PySem.W.Frag) (mg:Str→Option Value) (base:Heap) (k:Nat) (x:Str) (ps:List Str) (sp:Sp) (c:Bool:=true):Prop where
 ex:∃ f fd,FnOk P w K mg base (XC P w) k f fd ps sp c∧Binds K fd ps []∧PySem.W.keepIn K (.ref f) = true∧mg x = some (.ref f)
structure GoodC (P:Program) (w:World) (K:PySem.W.Frag) (mg:Str→Option Value) (base:Heap) (k:Nat) (x:Str) (C:Addr) (ps:List Str) (sp:Sp):Prop where
 ex:∃ f fd,Mk K C f∧FnOk P w K mg base (XC P w) k f fd ps sp∧Binds K fd ps []∧mg x = some (.ref C)
structure GoodM (P:Program) (w:World) (K:PySem.W.Frag) (mg:Str→Option Value) (base:Heap) (k:Nat) (C:Addr) (m:Str) (ps:List Str) (sp:Sp):Prop where
 cl:Cls K C
 ex:∃ f fd,Meth K C m f∧FnOk P w K mg base (XC P w) k f fd ps sp∧Binds K fd ps []
end
section
variable {X:Cx} {k:Nat} {x m:Str} {C:Addr} {ps:List Str} {sp:Sp} {E:XK} {p pos apos:Pos} {e o:Expr} {es:List Expr} {ta:TE} {t:TA}
theorem pe_callG {cm:Bool} (G:GoodF X.prog X.w X.K X.mg X.base k x ps sp cm) (hr:RoomC cm k X.A) (hx:Passes (XC X.prog X.w) X E) (hg:Gl X x) (ha:PA X (e :: es) t)
  (hdb:(x == ("__debug__":Str)) = false:=by decide) (he:starEach (e :: es) X.env = (false,eval e X.env) :: starEach es X.env:=by rfl) (hpl:(backTo pos (starEach es X.env)).any (·.1) = false:=by rfl) :
  PE X (.Call (.Name x p) (e :: es) [] pos) (tCall sp [] E t):=by
 obtain ⟨f,fd,F,b,kp,mgx⟩:=G.ex
 exact pe_call F hr hg mgx kp b .nil hx ha hdb he hpl
theorem pe_makeG (G:GoodC X.prog X.w X.K X.mg X.base k x C ps sp) (hr:Room (k + 1) X.A) (hx:Passes (XC X.prog X.w) X E) (hg:Gl X x) (ha:PA X (e :: es) t)
  (hdb:(x == ("__debug__":Str)) = false:=by decide) (he:starEach (e :: es) X.env = (false,eval e X.env) :: starEach es X.env:=by rfl) (hpl:(backTo pos (starEach es X.env)).any (·.1) = false:=by rfl) :
  PE X (.Call (.Name x p) (e :: es) [] pos) (tMake C sp [] E t):=by
 obtain ⟨f,fd,M,F,b,mgx⟩:=G.ex
 exact pe_make M F hr hg mgx b .nil hx ha hdb he hpl
theorem pe_methG {pl:Sem Bool} (ho:PE X o ta) (G:GoodM X.prog X.w X.K X.mg X.base k C m ps sp) (hr:Room k X.A) (hx:Passes (XC X.prog X.w) X E) (ha:PA X (e :: es) t)
  (hst:starEach (e :: es) X.env = (false,eval e X.env) :: starEach es X.env:=by rfl) (hpl:(backTo pos (starEach es X.env)).any (·.1) = false:=by rfl)
  (ht:eval (.Call (.Attribute o m apos) (e :: es) [] pos) X.env = (do
   let ov ← eval o X.env
   standAt apos.atName
   let (f,first) ← holding [ov] (getMethod ov m pl)
   callWith pos f first (backTo pos (starEach (e :: es) X.env)) (backToKw pos (keywordEach [] X.env))):=by rfl) :
  PE X (.Call (.Attribute o m apos) (e :: es) [] pos) (tMeth C m sp [] E ta t):=by
 obtain ⟨f,fd,M,F,b⟩:=G.ex
 exact pe_meth ho G.cl M F hr b .nil hx ha hst hpl ht
def rMeth0 (C:Addr) (m:Str) (sp:Sp) (E:XK):V→Hp→VK→Prop:=fun x H Q => ∃ a dx fs,x = .ref a∧H a = some (.ins C dx fs)∧fs.lookup m = none∧sp [x] H Q E
def M0R (X:Cx) (m:Str) (r:V→Hp→VK→Prop):Prop:=∀ (pins:List (Addr × Obj)) (s:Shared) (σ:St) (H:Hp) (x:V) (u:Value) (Q:VK) (pl:Sem Bool) (pos:Pos),Inv X pins σ H s→RelV x u→r x H Q →
 wpAny (model X.prog X.w) X.A (holding [u] (getMethod u m pl)) (fun fm s1 => wpAny (model X.prog X.w) X.A (callWith pos fm.1 fm.2 (backTo pos (starEach [] X.env)) (backToKw pos (keywordEach [] X.env))) (EP X pins σ Q) X.xe s1) X.xe s
theorem m0_of (G:GoodM X.prog X.w X.K X.mg X.base k C m ps sp) (hr:Room k X.A) (hx:Passes (XC X.prog X.w) X E):M0R X m (rMeth0 C m sp E):=by
 intro pins s σ H x u Q pl pos I r h
 obtain ⟨f,fd,M,F,b⟩:=G.ex
 obtain ⟨a,dx,fs,rfl,ea,l,q⟩:=h
 obtain rfl:u = Value.ref a:=r
 refine wpAny_holding (getmeth_ok I ea G.cl M l ?_)
 exact PySem.W.callWith_K0 (first:=[.ref a]) I.kIn M.kp (run_fn (us:=[.ref a]) (vs:=[.ref a]) F hr b .nil hx I (.cons rfl .nil) q)
def tM0 (r:V→Hp→VK→Prop) (ta:TE):TE:=fun σ H Q => ta σ H fun x H1 => r x H1 Q
theorem pe_meth0G {pl:Sem Bool} {r:V→Hp→VK→Prop} (hr:M0R X m r) (ho:PE X o ta)
  (ht:eval (.Call (.Attribute o m apos) [] [] pos) X.env = (do
   let ov ← eval o X.env
   standAt apos.atName
   let (f,first) ← holding [ov] (getMethod ov m pl)
   callWith pos f first (backTo pos (starEach [] X.env)) (backToKw pos (keywordEach [] X.env))):=by rfl):PE X (.Call (.Attribute o m apos) [] [] pos) (tM0 r ta):=by
 intro pins s σ H Q I h
 rw [ht]
 refine wpAny_bind (thn (ho pins s σ H _ I h) fun u s1 ⟨x,H1,I1,rx,q⟩ => wpAny_bind (wpAny_standAt (wpAny_bind ?_)))
 exact hr pins s1 σ H1 x u Q pl pos I1 rx q
end
inductive ClsV:V→Value→Prop where
 | ty (n:String):ClsV (.ty n) (.type n)
 | ref (a:Addr):ClsV (.ref a) (.ref a)
theorem ClsV.val {c:V} {cv u:Value} (h:ClsV c cv) (r:RelV c u):u = cv:=by cases h <;> exact r
section
variable {X:Cx}
theorem call_isi:CallR X (.builtin "isinstance") (fun xs H Q => ∃ x c t cv b,xs = [x,c]∧TyOf X.K H x t∧ClsV c cv∧PySem.W.kitOne X.K t cv = some b∧Q (.bl b) H):=by
 intro pins s σ H xs us Q I r h
 obtain ⟨x,c,t,cv,b,rfl,ty,hc,e,q⟩:=h
 obtain ⟨u,w,rfl,ru,rc⟩:=vals2 r
 obtain rfl:=hc.val rc
 exact isinst_ok I ru ty e fun tk => ⟨.bl b,H,I.tok tk,rfl,q⟩
end
theorem Inv.turnedL {X:Cx} {pins:List (Addr × Obj)} {σ:St} {H:Hp} {s:Shared} {h':Heap} {t':Nat} {ch:List Addr} (I:Inv X pins σ H s) (fp:∀ c∈ch,FpOk X pins H c) (keep:∀ c o,c ∉ ch→s.heap.get? c = some o→h'.get? c = some o) :
  Inv X pins σ H { s with heap:=h',toks:=t' }:=by
 have nfp:∀ c o,H c = some o→c ∉ ch:=fun c o e hc => by have:=(fp c hc).1; rw [e] at this; cases this
 refine I.step (g':=s.gens) (d':=s.drawn) (ch:=ch) (fun c hc => ⟨(fp c hc).2.2.2.1,(fp c hc).2.1,(fp c hc).2.2.2.2.1,(fp c hc).2.2.2.2.2⟩)
  (fun c o _ _ hc e _ => keep c o hc e) (fun c o _ _ hc e _ => ⟨o.slots,keep c o hc e⟩) (fun _ _ _ _ n => n) (fun c o hc e => ⟨o,keep c o hc e⟩) (fun _ _ e => e) (fun _ _ _ e => e) (fun c ps e => ⟨#[],by rw [e]; simp⟩) (fun m hm => ?_) (fun c o e => ?_) I.bare
 ·obtain ⟨o,es,ep,ho,r⟩:=hm
  exact ⟨o,es,ep,keep _ o (fun hc => (fp _ hc).2.1 rfl) ho,r⟩
 ·refine (I.hok c o e).stay (fun d u hd q => keep d u ?_ q) (fun _ q => q) fun _ _ q => q
  rcases hd with z | z
  ·rw [z]; exact nfp c o e
  ·exact nfp d _ z
section
variable {X:Cx} {elts:List Expr} {kk:Nat} {tpos:Pos}
end
def Its (lo c:Int) (n:Nat):It:=⟨fun i _ => i < n,fun i H x H' => H' = H∧x = .int (lo + i * c),fun i _ => n≤i⟩
theorem turn_step {P:Program} {w:World} {K:PySem.W.Frag} {tg:Expr} (it:Addr) (lo c:Int) (n:Nat):Turn P w K tg (Its lo c n) [it] it (fun i h => IsRangeIter h it (lo + (i:Nat) * c) ((n:Int) - (i:Nat)) c) false where
 mem:=by simp
 obj:=fun i h st b hb => by
  obtain rfl:b = it:=by simpa using hb
  exact ⟨_,st,fun v z => by cases (show Data.fields _ = Data.cell v from z)⟩
 keep:=fun i h h' st k => k it (by simp) _ st
 item:=by
  intro X hP hw hK hc i pins s σ H E I hf st hg
  subst hP hw hK
  obtain ⟨f0,f1,f2,f3,f4,f5⟩:=hf it (by simp)
  refine wpAny_pyNext_range_item st (by have:i < n:=hg; omega) fun h' st' sb => ?_
  have I1:Inv X pins σ H { s with heap:=h',toks:=s.toks + 1 }:=I.turned (fun b o hb e => (sb.2 b hb).trans e) f0 f1 f3 f4 f5
  have st2:IsRangeIter h' it (lo + ((i + 1:Nat):Int) * c) ((n:Int) - ((i + 1:Nat):Int)) c:=by
   have e1:lo + ((i + 1:Nat):Int) * c = lo + (i:Int) * c + c:=by rw [Int.natCast_add,Int.add_mul]; simp [Int.add_assoc]
   have e2:(n:Int) - ((i + 1:Nat):Int) = (n:Int) - (i:Int) - 1:=by omega
   rw [e1,e2]; exact st'
  exact ⟨_,rfl,go_of (s:={ s with heap:=h',toks:=s.toks + 1 }) (n:="range_iterator") st' rfl rfl (by decide) ⟨.int (lo + i * c),H,I1,⟨_,rfl⟩,⟨rfl,rfl⟩,st2,fun b hb => (hf b hb).1⟩⟩
 done:=by
  intro X hP hw hK hc i pins s σ H E I hf st hg
  subst hP hw hK
  obtain ⟨f0,f1,f2,f3,f4,f5⟩:=hf it (by simp)
  have hn:n≤i:=hg
  exact range_on (I.hn.now I.hok) st (by omega) fun h' eb => ⟨rfl,I.turned (t':=s.toks) (fun b o hb e => eb b o hb e) f0 f1 f3 f4 f5⟩
 self:=fun _ _ _ _ _ st h => wpAny_pyIter_rangeiter st h
section
variable {X:Cx} {tg:Expr}
def iRng3 (ta:TA):TI:=fun σ H R => ta σ H fun vs H1 => ∃ i j c:Int,vs = [.int i,.int j,.int c]∧(0 < c∧c < 1000∧-(2 ^ 61)≤i∧i < 2 ^ 61∧-(2 ^ 61)≤j∧j < 2 ^ 61)∧R (Its i c (Builtin.Range.rangeSize i j c).toNat) H1
theorem size_nn (i j c:Int) (hc:0 < c):0≤Builtin.Range.rangeSize i j c:=by
 unfold Builtin.Range.rangeSize
 rw [if_pos hc]
 split
 ·have:=Int.ediv_nonneg (a:=j - i - 1) (b:=c) (by omega) (by omega)
  omega
 ·exact Int.le_refl _
theorem small_step {i j c:Int} (hc:0 < c) (hc2:c < 1000) (h1:-(2 ^ 61)≤i) (h2:i < 2 ^ 61) (h3:-(2 ^ 61)≤j) (h4:j < 2 ^ 61):Builtin.Range.small i j c = true:=by
 have hs:0≤Builtin.Range.rangeSize i j c∧Builtin.Range.rangeSize i j c≤2 ^ 62:=by
  refine ⟨size_nn i j c hc,?_⟩
  unfold Builtin.Range.rangeSize
  rw [if_pos hc]
  split
  ·have:=Int.ediv_le_self (a:=j - i - 1) c (by omega)
   omega
  ·decide
 unfold Builtin.Range.small
 rw [if_pos hc]
 simp only [Builtin.Range.rangeFitsLong,Bool.and_eq_true,Bool.or_eq_true,decide_eq_true_eq,beq_iff_eq]
 generalize Builtin.Range.rangeSize i j c = z at hs
 omega
theorem pi_range3 {a b d:Expr} {ta:TA} {p pos:Pos} (hg:Gl X "range") (hm:X.mg "range" = none) (ha:PA X [a,b,d] ta)
  (hs:starEach [a,b,d] X.env = (false,eval a X.env) :: starEach [b,d] X.env:=by rfl) (hpl:(backTo pos (starEach [b,d] X.env)).any (·.1) = false:=by rfl):PI X tg (.Call (.Name "range" p) [a,b,d] [] pos) (iRng3 ta):=by
 intro pins s σ H R I h
 refine Call_ (ld_blt I hg hm boot_range (PyProof.Rows.callWith_type1 (thn (ha pos pins s σ H _ I h) fun us s1 ⟨vs,H1,I1,r1,q1⟩ => ?_) hs hpl))
 obtain ⟨i,j,c,e,⟨q1,q2,q3,q4,q5,q6⟩,q⟩:=q1
 subst e
 cases r1 with
 | cons ra rr =>
  cases rr with
  | cons rb rr =>
   cases rr with
   | cons rc rr =>
    cases rr
    obtain ⟨t,rfl⟩:=ra
    obtain ⟨u,rfl⟩:=rb
    obtain ⟨v,rfl⟩:=rc
    refine call_range_3 (by omega) ?_ (.inl (PyProof.noPylong_small (by omega)))
    have I2:Inv X pins σ H1 { s1 with heap:=s1.heap.push { cls:=.type "range",data:=.fields #[.int i t,.int j u,.int c v] },toks:=s1.toks }:=I1.kept fun b o e => Heap.get?_push_of_some _ e
    refine wpAny_pyIter_range (IsRange.new ..) (small_step q1 q2 q3 q4 q5 q6) ?_
    refine ⟨_,[(s1.heap.push { cls:=.type "range",data:=.fields #[.int i t,.int j u,.int c v] }).objs.size],_,_,H1,rfl,I2.kept (t':=s1.toks) fun b o e => Heap.get?_push_of_some _ e,TurnX.of (turn_step _ i c (Builtin.Range.rangeSize i j c).toNat),?_,fun b hb => ?_,q⟩
    ·have e2:(((Builtin.Range.rangeSize i j c).toNat:Nat):Int) - ((0:Nat):Int) = Builtin.Range.rangeSize i j c:=by have:=size_nn i j c q1; omega
     show IsRangeIter _ _ (i + ((0:Nat):Int) * c) ((((Builtin.Range.rangeSize i j c).toNat:Nat):Int) - ((0:Nat):Int)) c
     rw [e2,show i + ((0:Nat):Int) * c = i by simp]
     exact Heap.get?_push_size _ rfl
    ·obtain rfl:b = _:=List.mem_singleton.mp hb
     exact I2.fpOk (Nat.le_refl _) (I2.hok.fresh (Nat.le_refl _))
theorem for_step {lo c:Int} {n:Nat} {g:TG} {tb:TS} {D:Ends} {σ:St} {H:Hp} (Pv:Nat→St→Hp→Prop) (h0:Pv 0 σ H)
  (hs:∀ i σ H,i < n→Pv i σ H→g (.int (lo + i * c)) σ H fun σ2 H2 => tb { D with nx:=Pv (i + 1),ct:=Pv (i + 1),bk:=D.nx } σ2 H2) (hd:∀ σ H,Pv n σ H→D.nx σ H) :
  ∃ W:Nat→Nat→St→Hp→Prop,(∃ m,W 0 m σ H)∧∀ i m σ H,W i m σ H →
   ((Its lo c n).stop i H∧D.nx σ H)∨((Its lo c n).go i H∧∃ N:St→Hp→Prop,(∀ σ' H',N σ' H'→∃ m',m' < m∧W (i + 1) m' σ' H')∧∀ x H',(Its lo c n).yld i H x H'→g x σ H' fun σ2 H2 => tb { D with nx:=N,ct:=N,bk:=D.nx } σ2 H2):=by
 refine ⟨fun i m σ H => m = n - i∧i≤n∧Pv i σ H,⟨n,by simp,Nat.zero_le _,h0⟩,?_⟩
 rintro i m σ H ⟨rfl,hi,p⟩
 by_cases hlt:i < n
 ·refine .inr ⟨hlt,Pv (i + 1),fun σ' H' p' => ⟨n - (i + 1),by omega,rfl,hlt,p'⟩,fun x H' y => ?_⟩
  obtain ⟨e,y⟩:=y
  subst e y
  exact hs i σ _ hlt p
 ·obtain rfl:i = n:=by omega
  exact .inl ⟨Nat.le_refl _,hd σ H p⟩
end
end L2
namespace L2
open PySem PySem.Spec PyProof.Rows
theorem b_int:bootBuiltins "int" = some (.type "int"):=by decide +kernel
theorem b_bool:bootBuiltins "bool" = some (.type "bool"):=by decide +kernel
theorem b_list:bootBuiltins "list" = some (.type "list"):=by decide +kernel
theorem b_tuple:bootBuiltins "tuple" = some (.type "tuple"):=by decide +kernel
theorem b_isinstance:bootBuiltins "isinstance" = some (.builtin "isinstance"):=by decide +kernel
theorem b_min:bootBuiltins "min" = some (.builtin "min"):=by decide +kernel
theorem b_len:bootBuiltins "len" = some (.builtin "len"):=by decide +kernel
theorem passX0 {X:Cx}:Passes (XC X.prog X.w) X (fun _ _ _ => False):=by
 intro pins σ H s e s' I h
 obtain ⟨_,_,_,_,_,_,_,_,_,q⟩:=h
 exact q.elim
section
variable {X:Cx} {tg:Expr}
def iSeq (K:PySem.W.Frag) (tl:TE):TI:=fun σ H R => tl σ H fun x H1 => ∃ a,x = .ref a∧(((∃ xs,SqL K H1 a xs)∧R (Itl K a) H1)∨((∃ xs,SqT K H1 a xs)∧R (Itt K a) H1))
theorem pi_seq {l:Expr} {tl:TE} (hl:PE X l tl):PI X tg l (iSeq X.K tl):=by
 intro pins s σ H R I h
 refine thn (hl pins s σ H _ I h) fun v s1 ⟨x,H1,I1,r1,q1⟩ => ?_
 obtain ⟨a,e,⟨⟨xs,hq⟩,q⟩ | ⟨⟨xs,hq⟩,q⟩⟩:=q1
 all_goals
  subst e
  cases r1
 ·obtain ⟨its,rv,p,hz⟩:=I1.list hq
  refine wpAny_pyIter_list p.isList ?_
  refine ⟨s1.heap.objs.size,[s1.heap.objs.size],_,_,H1,rfl,I1.kept (t':=s1.toks) fun b o e => Heap.get?_push_of_some _ e,TurnX.of (turn_list a _),⟨_,Heap.get?_push_size _ rfl,rfl,rfl⟩,fun b hb => ?_,q⟩
  obtain rfl:b = s1.heap.objs.size:=by simpa using hb
  exact I1.fpOk (Nat.le_refl _) (I1.hok.fresh (Nat.le_refl _))
 ·obtain ⟨its,rv,p,hz⟩:=I1.tuple hq
  refine wpAny_pyIter_tuple (show s1.heap.IsTuple a its.toArray from p) ?_
  refine ⟨s1.heap.objs.size,[s1.heap.objs.size],_,_,H1,rfl,I1.kept (t':=s1.toks) fun b o e => Heap.get?_push_of_some _ e,TurnX.of (turn_tuple a _),⟨_,Heap.get?_push_size _ rfl,rfl,rfl⟩,fun b hb => ?_,q⟩
  obtain rfl:b = s1.heap.objs.size:=by simpa using hb
  exact I1.fpOk (Nat.le_refl _) (I1.hok.fresh (Nat.le_refl _))
end
section
variable {X:Cx}
theorem call_min_list:CallR X (.builtin "min") (fun xs H Q => ∃ (p:Addr) (ns:List Int),xs = [.ref p]∧SqL X.K H p (ns.map V.int)∧0 < ns.length∧∀ M,M∈ns→(∀ a∈ns,M≤a)→Q (.int M) H):=by
 intro pins s σ H xs us Q I r h
 obtain ⟨p,ns,rfl,hq,hne,q⟩:=h
 obtain ⟨u,rfl,ru⟩:=vals1 r
 cases ru
 obtain ⟨its,rv,pl,_⟩:=I.list hq
 have hi:=intsAre_of rv
 obtain ⟨zs,e⟩:=hi.allInts.items
 have hns:ns = zs.toList.map (·.1):=by rw [← hi.numsOf,← nums_intItems,← e]
 have hsz:0 < zs.size:=by rw [hns,List.length_map,Array.length_toList] at hne; exact hne
 have hl:s.heap.IsList p (intItems zs):=e▸pl.isList
 refine min_on (I.hn.now I.hok) hl hsz fun v h' tk hv hk => ?_
 obtain ⟨t,rfl⟩:=intItems_at hv
 obtain ⟨h1,h2⟩:=argBest_lt (numAt zs) (zs.size - 1)
 refine ⟨.int _,H,I.kept hk,⟨t,rfl⟩,q _ ?_ fun a ha => ?_⟩
 ·rw [hns,numAt_eq]; exact getD_mem (by rw [List.length_map,Array.length_toList]; omega)
 ·rw [hns] at ha
  obtain ⟨j,hj,rfl⟩:=mem_getD ha
  rw [List.length_map,Array.length_toList] at hj
  rw [← numAt_eq]; exact h2 j (by omega)
end
theorem cs_nil {X:Cx} {scope:Scope} {N:List Str} (hN:X.N = N) (hk:scope.kind = .function) (h1:(scope.names.all fun y => y.2 != .free && y.2 != .cell) = true) (h2:(scope.names.all fun y => y.2 != .local || scope.names.lookup y.1 == some .local) = true)
  (h3:(N.all fun x => scope.names.lookup x != some .local) = true):CompScope X scope [] where
 clos:=closureFor_none fun y hy => by
  have:=List.all_eq_true.mp h1 y hy
  simp only [Bool.and_eq_true,bne_iff_ne] at this
  exact this.1
 kind:=hk
 nocell:=fun y hy => by
  have:=List.all_eq_true.mp h1 y hy
  simp only [Bool.and_eq_true,bne_iff_ne] at this
  exact this.2
 names:=fun y hy e => by
  have:=List.all_eq_true.mp h2 y hy
  rw [e] at this
  simpa using this
 sub:=fun x c e => by cases e
 has:=fun x e => by
  have:=List.all_eq_true.mp h1 _ (lookup_mem e)
  simp at this
 apart:=fun x hx => by
  have:=List.all_eq_true.mp h3 x (hN▸hx)
  simpa using this
 outer:=fun x e => by
  have:=List.all_eq_true.mp h1 _ (lookup_mem e)
  simp at this
theorem cs_one {X:Cx} {scope:Scope} {N:List Str} {n:Str} {a:Addr} (hN:X.N = N) (hk:scope.kind = .function) (hcl:closureFor scope X.env = pure [(n,a)]) (hsub:X.env.cells.lookup n = some a) (hout:X.env.kindOf n = some .cell)
  (h1:(scope.names.all fun y => y.2 != .cell && (y.2 != .free || y.1 == n)) = true) (h2:(scope.names.all fun y => y.2 != .local || scope.names.lookup y.1 == some .local) = true)
  (h3:(N.all fun x => scope.names.lookup x != some .local) = true):CompScope X scope [(n,a)] where
 clos:=hcl
 kind:=hk
 nocell:=fun y hy => by
  have:=List.all_eq_true.mp h1 y hy
  simp only [Bool.and_eq_true,bne_iff_ne] at this
  exact this.1
 names:=fun y hy e => by
  have:=List.all_eq_true.mp h2 y hy
  rw [e] at this
  simpa using this
 sub:=fun x c e => by
  rw [List.lookup_cons] at e
  split at e
  ·rename_i q
   obtain rfl:x = n:=by simpa using q
   cases e; exact hsub
  ·cases e
 has:=fun x e => by
  have:=List.all_eq_true.mp h1 _ (lookup_mem e)
  simp at this
  exact ⟨a,by rw [this]; simp [List.lookup_cons]⟩
 apart:=fun x hx => by
  have:=List.all_eq_true.mp h3 x (hN▸hx)
  simpa using this
 outer:=fun x e => by
  have:=List.all_eq_true.mp h1 _ (lookup_mem e)
  simp at this
  exact .inl (this▸hout)
end L2
namespace L2
open PySem PySem.Spec PyProof.Rows PySem.W
section
variable {prog:Program} {w:World} {A:Around} {E:Value→Shared→Prop} {s:Shared} {K:PySem.W.Frag} {x C:Addr}
end
section
variable {K:PySem.W.Frag} {x C:Addr}
end
section
variable {X:Cx}
theorem refs_of:∀ {cs:List Addr} {us:List Value},Vals (cs.map V.ref) us→us = cs.map Value.ref
 | [],_,.nil => rfl
 | _ :: _,_,.cons r t => by cases r; rw [refs_of t]; rfl
theorem ix_tupK {K:PySem.W.Frag} (h:X.K = K):IxR X (rIxT K):=by
 subst h; exact ix_tup
end
end L2
namespace L2
open PySem PySem.Spec PyProof.Rows PySem.W
section
variable {X:Cx}
end
end L2
namespace L2
open PySem PySem.Spec PyProof.Rows PySem.W
section
variable {X:Cx} {tg:Expr}
end
end L2
namespace L2
open PySem PySem.Spec PyProof.Rows PySem.W
section
variable {X:Cx} {e:Expr} {te:TE} {pos p2 q1 q2:Pos} {j1 j2:Nat}
end
end L2
namespace L2
open PySem PySem.Spec PyProof.Rows PySem.W
section
variable {X:Cx}
end
section
variable {X:Cx}
end
end L2
namespace Wd
open PySem L2 PySem.NumText PySem.W
def Lg (n:Int):Prop:=n.natAbs.log2 < 1920
theorem lg_of {n:Int} (h:n.natAbs < 10 ^ 42):Lg n:=by
 unfold Lg
 by_cases z:n.natAbs = 0
 ·rw [z]; decide
 ·refine (Nat.log2_lt z).mpr (Nat.lt_of_lt_of_le h ?_)
  exact Nat.le_trans (show (10:Nat) ^ 42≤2 ^ 200 by decide) (Nat.pow_le_pow_right (by decide) (by decide))
end Wd
namespace L2
open PySem PySem.Spec PyProof.Rows
end L2
namespace L2
open PySem PySem.Spec PyProof.Rows PySem.W
theorem all_same {α:Type} [DecidableEq α] (d:α) (xs ys:List α):((List.range (min xs.length ys.length)).all (fun j => decide (xs.getD j d = ys.getD j d)) && xs.length == ys.length) = decide (xs = ys):=by
 rw [Bool.eq_iff_iff,Bool.and_eq_true,List.all_eq_true,decide_eq_true_iff,beq_iff_eq]
 constructor
 ·rintro ⟨h,hl⟩
  refine List.ext_getElem hl fun j h1 h2 => ?_
  have:=of_decide_eq_true (h j (List.mem_range.mpr (by omega)))
  rwa [List.getD_eq_getElem?_getD,List.getD_eq_getElem?_getD,List.getElem?_eq_getElem h1,List.getElem?_eq_getElem h2] at this
 ·rintro rfl
  exact ⟨fun j _ => decide_eq_true rfl,rfl⟩
structure Tups (K:PySem.W.Frag) (H:Hp) (ps:List Addr) (nss:List (List Int)):Prop where
 len:ps.length = nss.length
 at_:∀ (i:Nat) (p:Addr) (ns:List Int),ps[i]? = some p→nss[i]? = some ns→SqT K H p (ns.map V.int)
section
variable {X:Cx} {pins:List (Addr × Obj)} {σ:St} {H:Hp} {s:Shared}
theorem eqAt_ints {A:Around} {its its2:List Value} {ns ms:List Int} (r1:Vals (ns.map V.int) its) (r2:Vals (ms.map V.int) its2) (j:Nat) (h1:j < its.toArray.size) (h2:j < its2.toArray.size) :
  SeqAt.EqAt A s its.toArray[j] its2.toArray[j] (decide (ns.getD j 0 = ms.getD j 0)):=by
 have l1:=r1.length
 have l2:=r2.length
 rw [List.length_map] at l1 l2
 rw [List.size_toArray] at h1 h2
 have g1:j < ns.length:=by omega
 have g2:j < ms.length:=by omega
 obtain ⟨u,hu,ru⟩:=r1.get (i:=j) (x:=V.int ns[j]) (by simp [g1])
 obtain ⟨v,hv,rv⟩:=r2.get (i:=j) (x:=V.int ms[j]) (by simp [g2])
 obtain ⟨t,rfl⟩:=ru
 obtain ⟨t2,rfl⟩:=rv
 have e1:its.toArray[j] = .int ns[j] t:=by
  rw [List.getElem_toArray]
  exact Option.some.inj ((List.getElem?_eq_getElem h1).symm.trans hu)
 have e2:its2.toArray[j] = .int ms[j] t2:=by
  rw [List.getElem_toArray]
  exact Option.some.inj ((List.getElem?_eq_getElem h2).symm.trans hv)
 rw [e1,e2]
 have e3:(ns[j] == ms[j]) = decide (ns.getD j 0 = ms.getD j 0):=by
  rw [List.getD_eq_getElem?_getD,List.getD_eq_getElem?_getD,List.getElem?_eq_getElem g1,List.getElem?_eq_getElem g2]
  rw [Bool.eq_iff_iff,beq_iff_eq,decide_eq_true_iff]; rfl
 rw [← e3]
 exact SeqAt.EqAt.int_int _ _ _ _
theorem tups_bool {its its2:List Value} {ns ms:List Int} (r1:Vals (ns.map V.int) its) (r2:Vals (ms.map V.int) its2) :
  ((List.range (min its.toArray.size its2.toArray.size)).all (fun j => decide (ns.getD j 0 = ms.getD j 0)) && its.toArray.size == its2.toArray.size) = decide (ns = ms):=by
 have l1:=r1.length
 have l2:=r2.length
 rw [List.length_map] at l1 l2
 rw [List.size_toArray,List.size_toArray,← l1,← l2]
 exact all_same 0 ns ms
theorem eqAt_tup (I:Inv X pins σ H s) {A:Around} {a b:Addr} {ns ms:List Int} (hu:A.units < cLine) (ha:SqT X.K H a (ns.map V.int)) (hb:SqT X.K H b (ms.map V.int)):SeqAt.EqAt A s (.ref a) (.ref b) (decide (ns = ms)):=by
 by_cases hab:a = b
 ·subst hab
  have e:=I.tuple_inj ha hb
  have e2:ns = ms:=(List.map_inj_right (f:=V.int) fun x y h => V.int.inj h).mp e
  rw [decide_eq_true e2]
  exact SeqAt.EqAt.same _
 ·obtain ⟨its,r1,p1,_⟩:=I.tuple ha
  obtain ⟨its2,r2,p2,_⟩:=I.tuple hb
  rw [← tups_bool r1 r2]
  exact SeqAt.EqAt.of_refs hab (SeqAt.RcAt.tuples p1 p2 hu fun j h1 h2 => eqAt_ints r1 r2 j h1 h2)
theorem op_neT (hu:X.A.units < cLine):OpR X (compareOp .NotEq) (fun x y H Q => ∃ (a b:Addr) (ns ms:List Int),x = .ref a∧y = .ref b∧SqT X.K H a (ns.map V.int)∧SqT X.K H b (ms.map V.int)∧Q (.bl (!decide (ns = ms))) H):=by
 intro pins s σ H x y v u Q I rx ry h
 obtain ⟨a,b,ns,ms,rfl,rfl,ha,hb,q⟩:=h
 cases rx
 cases ry
 obtain ⟨its,r1,p1,_⟩:=I.tuple ha
 obtain ⟨its2,r2,p2,_⟩:=I.tuple hb
 rw [← tups_bool r1 r2] at q
 exact EqBoolInt.of_rcne (SeqAt.RcNeAt.tuples p1 p2 hu fun j h1 h2 => eqAt_ints r1 r2 j h1 h2) ⟨.bl _,H,I,rfl,q⟩
theorem eqAt_refs (I:Inv X pins σ H s) {A:Around} {its its2:List Value} {ps qs:List Addr} {nss mss:List (List Int)} (hu:A.units < cLine) (T1:Tups X.K H ps nss) (T2:Tups X.K H qs mss) (r1:Vals (ps.map V.ref) its) (r2:Vals (qs.map V.ref) its2) (j:Nat) (h1:j < its.toArray.size) (h2:j < its2.toArray.size) :
  SeqAt.EqAt A s its.toArray[j] its2.toArray[j] (decide (nss.getD j [] = mss.getD j [])):=by
 have e1:=refs_of r1
 have e2:=refs_of r2
 subst e1 e2
 rw [List.size_toArray,List.length_map] at h1 h2
 have g1:j < nss.length:=by rw [← T1.len]; exact h1
 have g2:j < mss.length:=by rw [← T2.len]; exact h2
 rw [List.getElem_toArray,List.getElem_toArray,List.getElem_map,List.getElem_map,List.getD_eq_getElem?_getD,List.getD_eq_getElem?_getD,List.getElem?_eq_getElem g1,List.getElem?_eq_getElem g2]
 exact eqAt_tup I hu (T1.at_ j _ _ (List.getElem?_eq_getElem h1) (List.getElem?_eq_getElem g1)) (T2.at_ j _ _ (List.getElem?_eq_getElem h2) (List.getElem?_eq_getElem g2))
theorem lists_bool {its its2:List Value} {ps qs:List Addr} {nss mss:List (List Int)} (l1:ps.length = nss.length) (l2:qs.length = mss.length) (r1:Vals (ps.map V.ref) its) (r2:Vals (qs.map V.ref) its2) (hz:its.toArray.size = its2.toArray.size) :
  (List.range its.toArray.size).all (fun j => decide (nss.getD j [] = mss.getD j [])) = decide (nss = mss):=by
 have e1:=r1.length
 have e2:=r2.length
 rw [List.length_map] at e1 e2
 rw [List.size_toArray] at hz ⊢
 rw [List.size_toArray] at hz
 rw [← all_same [] nss mss,show min nss.length mss.length = its.length by omega,show (nss.length == mss.length) = true by rw [beq_iff_eq]; omega,Bool.and_true]
theorem op_neLT (hu:X.A.units + 64 < cLine):OpR X (compareOp .NotEq) (fun x y H Q => ∃ a b ps qs nss mss,x = .ref a∧y = .ref b∧SqL X.K H a (ps.map V.ref)∧SqL X.K H b (qs.map V.ref)∧Tups X.K H ps nss∧Tups X.K H qs mss∧Q (.bl (!decide (nss = mss))) H):=by
 intro pins s σ H x y v u Q I rx ry h
 obtain ⟨a,b,ps,qs,nss,mss,rfl,rfl,ha,hb,T1,T2,q⟩:=h
 cases rx
 cases ry
 obtain ⟨its,r1,p1,_⟩:=I.list ha
 obtain ⟨its2,r2,p2,_⟩:=I.list hb
 have hu1:X.A.units < cLine:=by omega
 have hu2:X.A.in1.units < cLine:=by show X.A.units + 1 < cLine; omega
 by_cases hz:its.toArray.size = its2.toArray.size
 ·rw [← lists_bool T1.len T2.len r1 r2 hz] at q
  exact EqBoolInt.of_rcne (SeqAt.RcNeAt.lists p1.isList p2.isList hz hu1 fun j h1 h2 => eqAt_refs I hu2 T1 T2 r1 r2 j h1 h2) ⟨.bl _,H,I,rfl,q⟩
 ·have hne:nss≠mss:=fun e => by
   have e1:=r1.length
   have e2:=r2.length
   rw [List.length_map] at e1 e2
   rw [List.size_toArray,List.size_toArray] at hz
   have:=T1.len
   have:=T2.len
   rw [e] at *
   omega
  rw [decide_eq_false hne] at q
  exact EqBoolInt.of_rcne (SeqAt.RcNeAt.lists_lengths p1.isList p2.isList (bne_iff_ne.mpr hz) hu1) ⟨.bl true,H,I,rfl,q⟩
theorem op_eqLT (hu:X.A.units + 64 < cLine):OpR X (compareOp .Eq) (fun x y H Q => ∃ a b ps qs nss mss,x = .ref a∧y = .ref b∧SqL X.K H a (ps.map V.ref)∧SqL X.K H b (qs.map V.ref)∧Tups X.K H ps nss∧Tups X.K H qs mss∧Q (.bl (decide (nss = mss))) H):=by
 intro pins s σ H x y v u Q I rx ry h
 obtain ⟨a,b,ps,qs,nss,mss,rfl,rfl,ha,hb,T1,T2,q⟩:=h
 cases rx
 cases ry
 obtain ⟨its,r1,p1,_⟩:=I.list ha
 obtain ⟨its2,r2,p2,_⟩:=I.list hb
 have hu1:X.A.units < cLine:=by omega
 have hu2:X.A.in1.units < cLine:=by show X.A.units + 1 < cLine; omega
 by_cases hz:its.toArray.size = its2.toArray.size
 ·rw [← lists_bool T1.len T2.len r1 r2 hz] at q
  exact EqBoolInt.of_rc (SeqAt.RcAt.lists p1.isList p2.isList hz hu1 fun j h1 h2 => eqAt_refs I hu2 T1 T2 r1 r2 j h1 h2) ⟨.bl _,H,I,rfl,q⟩
 ·have hne:nss≠mss:=fun e => by
   have e1:=r1.length
   have e2:=r2.length
   rw [List.length_map] at e1 e2
   rw [List.size_toArray,List.size_toArray] at hz
   have:=T1.len
   have:=T2.len
   rw [e] at *
   omega
  rw [decide_eq_false hne] at q
  exact EqBoolInt.of_rc (SeqAt.RcAt.lists_lengths p1.isList p2.isList (bne_iff_ne.mpr hz) hu1) ⟨.bl false,H,I,rfl,q⟩
def Fmt (x:V):Prop:=(∃ n,x = .int n∧n.natAbs.log2 < 1920)∨∃ z,x = .str z∧z.length≤2000
theorem fmt_ok {prog:Program} {w:World} {A:Around} {E:Value→Shared→Prop} {Q:Value→Shared→Prop} {x:V} {v:Value} (r:RelV x v) (F:Fmt x) (k:∀ (y:Str) (t:Tok) (tk:Nat),y.length≤2000→Q (.str y t) { s with toks:=tk }):wpAny (model prog w) A (formatField v Str.empty) Q E s:=by
 rcases F with ⟨n,rfl,hd⟩ | ⟨z,rfl,hz⟩
 ·obtain ⟨t,rfl⟩:=r
  exact formatField_int_small hd (k _ _ _ (Nat.le_trans (int_text_len_1921 hd) (by decide)))
 ·obtain ⟨t,rfl⟩:=r
  exact formatField_str (fun t' tk => k _ _ _ hz) (Nat.le_trans hz (by decide))
end
theorem comp_range {lo:Int} {n:Nat} {g:TG} {tc:TT} {te:TE} {k:Nat} {σ:St} {H:Hp} {Q:VK} (Pv:Addr→Nat→List V→Hp→Prop) (hn:n≤sizeLine)
  (h0:∀ D,H D = none→Pv D 0 [] (upd H D (.lst []))) (hD:∀ D i ys H',Pv D i ys H'→H' D = some (.lst ys)∧ys.length = i)
  (step:∀ D i ys H' (Qy:VK) (Qn:Hp→Prop),i < n→Pv D i ys H'→(∀ y H4,H4 D = some (.lst ys)→Pv D (i + 1) (ys ++ [y]) (upd H4 D (.lst (ys ++ [y])))→Qy y H4) →
   g (.int (lo + i)) (σ ++ List.replicate k none) H' fun σ2 H2 => (∃ zs,σ2 = σ ++ zs∧zs.length = k)∧tc σ2 H2 fun b H3 => if b = true then te σ2 H3 Qy else Qn H3)
  (q:∀ D ys H',H D = none→Pv D n ys H'→Q (.ref D) H'):compT k g tc te σ Q (Itr lo n) H:=by
 intro D hDn
 refine ⟨fun i m ys H' => m = n - i∧i≤n∧Pv D i ys H',⟨n,by simp,Nat.zero_le _,h0 D hDn⟩,?_⟩
 rintro i m ys H' ⟨rfl,hi,p⟩
 obtain ⟨e,hl⟩:=hD D i ys H' p
 refine ⟨e,?_⟩
 by_cases hlt:i < n
 ·refine .inr ⟨hlt,by omega,fun x H2 y => ?_⟩
  obtain ⟨rfl,rfl⟩:=y
  exact step D i ys H2 _ _ hlt p fun y H4 e4 p4 => ⟨e4,n - (i + 1),by omega,rfl,hlt,p4⟩
 ·obtain rfl:i = n:=by omega
  exact .inl ⟨Nat.le_refl _,q D ys H' hDn p⟩
theorem comp_list {K:PySem.W.Frag} {a:Addr} {xs:List V} {g:TG} {tc:TT} {te:TE} {k:Nat} {σ:St} {H:Hp} {Q:VK} (Pv:Addr→Nat→List V→Hp→Prop) (hz:xs.length≤sizeLine)
  (h0:∀ D,H D = none→Pv D 0 [] (upd H D (.lst []))) (hD:∀ D i ys H',Pv D i ys H'→H' D = some (.lst ys)∧ys.length≤i∧SqL K H' a xs)
  (step:∀ D i x ys H' (Qy:VK) (Qn:Hp→Prop),xs[i]? = some x→Pv D i ys H'→(∀ y H4,H4 D = some (.lst ys)→Pv D (i + 1) (ys ++ [y]) (upd H4 D (.lst (ys ++ [y])))→Qy y H4)→(∀ H4,Pv D (i + 1) ys H4→Qn H4) →
   g x (σ ++ List.replicate k none) H' fun σ2 H2 => (∃ zs,σ2 = σ ++ zs∧zs.length = k)∧tc σ2 H2 fun b H3 => if b = true then te σ2 H3 Qy else Qn H3)
  (q:∀ D ys H',H D = none→Pv D xs.length ys H'→Q (.ref D) H'):compT k g tc te σ Q (Itl K a) H:=by
 intro D hDn
 refine ⟨fun i m ys H' => m = xs.length - i∧i≤xs.length∧Pv D i ys H',⟨xs.length,by simp,Nat.zero_le _,h0 D hDn⟩,?_⟩
 rintro i m ys H' ⟨rfl,hi,p⟩
 obtain ⟨e,hl,q1⟩:=hD D i ys H' p
 refine ⟨e,?_⟩
 by_cases hlt:i < xs.length
 ·refine .inr ⟨⟨xs,xs[i],q1,by simp [hlt]⟩,by omega,fun x H2 y => ?_⟩
  obtain ⟨rfl,y⟩:=y
  exact step D i x ys H2 _ _ (y xs q1) p (fun y H4 e4 p4 => ⟨e4,xs.length - (i + 1),by omega,rfl,hlt,p4⟩) fun H4 p4 => ⟨xs.length - (i + 1),by omega,rfl,hlt,p4⟩
 ·obtain rfl:i = xs.length:=by omega
  exact .inl ⟨⟨xs,q1,Nat.le_refl _⟩,q D ys H' hDn p⟩
section
variable {X:Cx} {K:PySem.W.Frag}
end
end L2
namespace Wd
open PySem L2 PySem.NumText PySem.W
end Wd
namespace L2
open PySem PySem.Spec PyProof.Rows
section
variable {M:Model} {A:Around} {E:Value→Shared→Prop} {s:Shared} {base:Heap} {env:Env} {outer:List Env} {L e:Addr} {cls:Value} {a0:Value × Value}
end
section
variable {X:Cx} {pins:List (Addr × Obj)} {σ:St} {H H':Hp} {s s':Shared} {ea C:Addr} {a0:Value × Value} {h':Heap} {ch fp:List Addr}
end
section
variable {P:Program} {w:World} {K:PySem.W.Frag} {mg:Str→Option Value} {base:Heap} {N ps:List Str} {qual:Str} {scope:Scope} {f:Addr} {cd:Value} {A:Around} {outer:List Env} {s:Shared} {H:Hp} {E:XK}
end
section
variable {X:Cx} {scope:Scope} {cl:List (Str × Addr)} {own:List Str} {pins pn pl:List (Addr × Obj)} {σ:St} {H H2:Hp} {s s2:Shared} {fp:List Addr} {C:Addr} {xe:Value→Shared→Prop}
end
section
variable {X:Cx} {tg elt iter:Expr} {ifs:List Expr} {scope:Scope} {cl:List (Str × Addr)} {own:List Str} {wi:TI} {g:TG} {tc:TT} {te:TE} {pos:Pos}
end
end L2
namespace L2
open PySem PySem.Spec PyProof.Rows
section
variable {prog:Program} {w:World} {A:Around} {E:Value→Shared→Prop} {s:Shared} {z TI TO i1 i2 i3 l1 l2 l3:Addr} {xs ys zs:Array Value} {k:Nat}
end
section
variable {X:Cx} {elts:List Expr} {kk:Nat} {tpos:Pos}
end
end L2
namespace L2
open PySem PySem.Spec PyProof.Rows
section
variable {X:Cx} {body:List Stmt} {b0:Stmt} {suite:List Stmt} {cn:Str} {np hpos pos:Pos} {C0:Addr} {tb:XK→TS} {th:TS}
end
section
variable {prog:Program} {w:World} {A:Around} {E:Value→Shared→Prop} {s:Shared}
end
section
variable {X:Cx}
end
end L2
namespace L2
open PySem PySem.Spec PyProof.Rows
abbrev Cx.blkN (X:Cx) (N0:List Str) (scope:Scope) (cl:List (Str × Addr)) (C:Addr) (own:List Str) (s:Shared) (H:Hp) (fp:List Addr) (pins:List (Addr × Obj)):Cx :=
 { X.blk scope cl C own s H fp pins with N:=N0 ++ own }
structure CompScopeN (X:Cx) (N0:List Str) (scope:Scope) (cl:List (Str × Addr)):Prop where
 clos:closureFor scope X.env = pure cl
 kind:scope.kind = .function
 nocell:∀ y∈scope.names,y.2≠.cell
 names:∀ y∈scope.names,y.2 = .local→scope.names.lookup y.1 = some .local
 sub:∀ x c,cl.lookup x = some c→X.env.cells.lookup x = some c
 has:∀ x,scope.names.lookup x = some .free→∃ c,cl.lookup x = some c
 outer:∀ x,scope.names.lookup x = some .free→X.env.kindOf x = some .cell∨X.env.kindOf x = some .free
 lenN:N0.length = X.N.length
 nm:∀ (i:Nat) (x:Str),N0[i]? = some x→(X.N[i]? = some x∧scope.names.lookup x≠some .local)∨scope.names.lookup x = none
theorem cs_nilN {X:Cx} {N0:List Str} {scope:Scope} {N:List Str} (hN:X.N = N) (hk:scope.kind = .function) (h1:(scope.names.all fun y => y.2 != .free && y.2 != .cell) = true) (h2:(scope.names.all fun y => y.2 != .local || scope.names.lookup y.1 == some .local) = true)
  (hl:N0.length = N.length) (h3:((N0.zip N).all fun y => (y.1 == y.2 && scope.names.lookup y.1 != some .local) || scope.names.lookup y.1 == none) = true):CompScopeN X N0 scope [] where
 clos:=closureFor_none fun y hy => by
  have:=List.all_eq_true.mp h1 y hy
  simp only [Bool.and_eq_true,bne_iff_ne] at this
  exact this.1
 kind:=hk
 nocell:=fun y hy => by
  have:=List.all_eq_true.mp h1 y hy
  simp only [Bool.and_eq_true,bne_iff_ne] at this
  exact this.2
 names:=fun y hy e => by
  have:=List.all_eq_true.mp h2 y hy
  rw [e] at this
  simpa using this
 sub:=fun x c e => by cases e
 has:=fun x e => by
  have:=List.all_eq_true.mp h1 _ (lookup_mem e)
  simp at this
 outer:=fun x e => by
  have:=List.all_eq_true.mp h1 _ (lookup_mem e)
  simp at this
 lenN:=by rw [hN]; exact hl
 nm:=fun i x e => by
  have hi:i < N.length:=by rw [← hl]; exact (List.getElem?_eq_some_iff.mp e).1
  have hz:(N0.zip N)[i]? = some (x,N[i]):=by rw [List.getElem?_zip_eq_some]; exact ⟨e,List.getElem?_eq_getElem hi⟩
  have:=List.all_eq_true.mp h3 _ (List.mem_of_getElem? hz)
  simp only [Bool.or_eq_true,Bool.and_eq_true,beq_iff_eq,bne_iff_ne] at this
  rcases this with ⟨q1,q2⟩ | q
  ·exact .inl ⟨by rw [hN,List.getElem?_eq_getElem hi,← q1],q2⟩
  ·exact .inr q
section
variable {X:Cx} {scope:Scope} {cl:List (Str × Addr)} {own N0:List Str} {pins:List (Addr × Obj)} {σ:St} {H2 H3:Hp} {s2:Shared} {fp:List Addr} {C:Addr} {h1:Heap}
theorem blkN_in (S:CompScopeN X N0 scope cl) (I2:Inv X pins σ H2 s2) (f2:∀ b∈fp,FpOk X pins H2 b) (hlt:∀ b∈fp,b < s2.heap.objs.size) (hC:s2.heap.objs.size≤C) {m:Str→Option Value} (hns:h1.Ns C m)
  (keep:∀ b o,s2.heap.get? b = some o→h1.get? b = some o) (hH:∀ b o,s2.heap.get? b = some o→H2 b = none→H3 b = none) (un:Un (frs X.stack) fp H2 H3 s2.heap h1) (hok:HOk X.prog X.w H3 h1) (hCf:H3 C = none) {tk:Nat} :
  Inv (X.blkN N0 scope cl C own s2 H2 fp pins) [] (σ ++ List.replicate own.length none) H3 { s2 with heap:=h1,toks:=tk }:=by
 have neC:∀ b o,s2.heap.get? b = some o→b≠C:=fun b o e => Nat.ne_of_lt (Nat.lt_of_lt_of_le (Heap.lt_size e) hC)
 have kof:∀ x,(compEnvC scope cl C X.env).kindOf x = (scope.names.lookup x).map fun k => if (k == NameKind.free && X.env.scope.kind == .function && X.env.kindOf x == some .cell) then NameKind.cell else k:=fun x => lookup_relab
 have isfree:∀ x,((compEnvC scope cl C X.env).kindOf x = some .cell∨(compEnvC scope cl C X.env).kindOf x = some .free)→scope.names.lookup x = some .free:=fun x hx => by
  rw [kof x] at hx
  cases q:scope.names.lookup x with
  | none => rw [q] at hx; rcases hx with z | z <;> cases z
  | some k =>
   rw [q] at hx
   have nc:=S.nocell _ (lookup_mem q)
   cases k <;> simp_all
 refine ⟨⟨I2.ok.mod,S.kind,I2.ok.glob,I2.ok.blt,hC,fun x y c e1 e2 => I2.ok.inj x y c (S.sub x c e1) (S.sub y c e2),fun x hx => S.has x (isfree x hx),fun x c z _ => (by cases z),I2.ok.hd,I2.ok.frames,.inl rfl,
  fun b hb => ⟨Nat.ne_of_lt (Nat.lt_of_lt_of_le (hlt b hb) hC),fun x c e => (f2 b hb).2.2.2.2.1 x c (S.sub x c e)⟩,fun b o e => ⟨(I2.bs b o e).1,(I2.bs b o e).2⟩,Nat.le_trans I2.ok.bsz I2.sz,fun b o e hb => ?_,fun b hb => stk_no I2 (f2 b hb).2.1 (f2 b hb).2.2.1,I2.stack,I2.stkFree⟩,
  rfl,I2.bare,un,⟨m,hns,fun i x v e1 e2 e3 => ?_⟩,fun x c e => ?_,hCf,fun x c e => ?_,fun p hp => ?_,hok,?_,I2.hn.mono un.frzs⟩
 ·rcases (f2 b hb).2.2.2.1 with z | z
  ·exact I2.ok.noex b o e z
  ·exact absurd (Nat.lt_of_lt_of_le (Nat.lt_of_lt_of_le (Heap.lt_size e) I2.ok.bsz) z) (Nat.lt_irrefl _)
 ·
  have hi:i < σ.length:=by
   apply Classical.byContradiction
   intro hn
   rw [List.getElem?_append_right (by omega),List.getElem?_replicate] at e2
   split at e2 <;> cases e2
  rw [List.getElem?_append_left hi] at e2
  have hi2:i < N0.length:=by rw [S.lenN,← I2.len]; exact hi
  have e0':N0[i]? = some x:=by rw [← List.getElem?_append_left (l₂:=own) hi2]; exact e1
  have hnm:=S.nm i x e0'
  have e3':(compEnvC scope cl C X.env).kindOf x = some .local∨(compEnvC scope cl C X.env).kindOf x = some .cell∨(compEnvC scope cl C X.env).kindOf x = some .free:=e3
  have hnm:X.N[i]? = some x∧scope.names.lookup x≠some .local:=hnm.resolve_right fun z => by
   have k0:=kof x
   rw [z] at k0
   rcases e3' with q | q | q <;> (rw [k0] at q; cases q)
  have e1':X.N[i]? = some x:=hnm.1
  have nl:(compEnvC scope cl C X.env).kindOf x≠some .local:=fun z => by
   rw [kof x] at z
   cases q:scope.names.lookup x with
   | none => rw [q] at z; cases z
   | some k =>
    rw [q,Option.map_some] at z
    have na:=hnm.2
    rw [q] at na
    cases k <;> first
     | exact na rfl
     | (have z':=Option.some.inj z; split at z' <;> cases z')
  have hcf:(compEnvC scope cl C X.env).kindOf x = some .cell∨(compEnvC scope cl C X.env).kindOf x = some .free:=e3'.resolve_left nl
  obtain ⟨c,hc⟩:=S.has x (isfree x hcf)
  obtain ⟨m0,hn0,hl0⟩:=I2.loc
  have hcX:=S.sub x c hc
  have ho:=S.outer x (isfree x hcf)
  obtain ⟨u,r,l⟩:=hl0 i x v e1' e2 (.inr ho)
  refine ⟨u,r,.inr ⟨hcf,c,hc,?_⟩⟩
  rcases l with ⟨z,_⟩ | ⟨_,c',hc',oc,hoc,hdc⟩
  ·rcases ho with y | y <;> (rw [y] at z; cases z)
  ·rw [hcX] at hc'
   cases hc'
   exact ⟨oc,keep _ _ hoc,hdc⟩
 ·obtain ⟨v,⟨oc,hoc,hdc⟩⟩:=I2.cell x c (S.sub x c e)
  exact ⟨v,oc,keep _ _ hoc,hdc⟩
 ·obtain ⟨v,⟨oc,hoc,hdc⟩⟩:=I2.cell x c (S.sub x c e)
  exact hH c oc hoc (I2.freeC x c (S.sub x c e))
 ·obtain ⟨q1,q2,q3,q4,q5⟩:=I2.pin p (by simpa using hp)
  exact ⟨keep _ _ q1,hH _ _ q1 q2,neC _ _ q1,stk_no I2 q3 q4,q5⟩
 ·show (σ ++ List.replicate own.length none).length = (N0 ++ own).length
  rw [List.length_append,List.length_append,List.length_replicate,I2.len,S.lenN]
theorem blkN_out (I2:Inv X pins σ H2 s2) (f2:∀ b∈fp,FpOk X pins H2 b) (hC:s2.heap.objs.size≤C) {pl:List (Addr × Obj)} {σ':St} {s4:Shared} {h':Heap} (I4:Inv (X.blkN N0 scope cl C own s2 H2 fp pins) pl σ' H3 s4) (sb:Heap.SameBut C s4.heap h') :
  Inv X pins σ H3 { s4 with heap:=h' }:=by
 have un:Un (frs X.stack) fp H2 H3 s2.heap s4.heap:=I4.base
 have nC:s2.heap.get? C = none:=Heap.get?_none_of_le hC
 have CF:C ∉ frs X.stack:=fun z => by
  obtain ⟨_,o,ho,_⟩:=I2.stack.mem z
  rw [nC] at ho; cases ho
 have un2:Un (frs X.stack) fp H2 H3 s2.heap h':=un.late (ch:=[C]) (fun b hb => by
  obtain rfl:b = C:=by simpa using hb
  exact nC) (fun b o _ hb e => (sb.2 b (by simpa using hb)).trans e) fun b o hb e => ⟨o.slots,(sb.2 b fun z => CF (z▸hb)).trans e⟩
 have hf:H3 C = none:=I4.free
 have hok:HOk X.prog X.w H3 h':=fun b o e => (I4.hok b o e).stay (fun c u hc q => (sb.2 c fun z => by
  subst z
  rcases hc with z | z
  ·rw [z,e] at hf; cases hf
  ·rw [z] at hf; cases hf).trans q) (fun _ q => q) fun _ _ q => q
 exact I2.call' (s':={ s4 with heap:=h' }) (ch:=fp) I4.os un2 hok I4.bare fun b hb => ⟨(f2 b hb).2.2.2.1,(f2 b hb).2.1,(f2 b hb).2.2.2.2.1,(f2 b hb).2.2.2.2.2⟩
end
section
variable {X:Cx} {tg elt iter:Expr} {ifs:List Expr} {scope:Scope} {cl:List (Str × Addr)} {own N0:List Str} {wi:TI} {g:TG} {tc:TT} {te:TE} {pos:Pos}
theorem comp_coreN {p2:Pos} {use:Option (Value→Sem Unit)} {QV:Value→Shared→Prop} {pins:List (Addr × Obj)} {s:Shared} {σ:St} {H:Hp} {Q:VK} (S:CompScopeN X N0 scope cl) (hi:PI X tg iter wi)
  (hg:∀ C s H fp pins,PG (X.blkN N0 scope cl C own s H fp pins) tg g) (ht:∀ C s H fp pins,PF (X.blkN N0 scope cl C own s H fp pins) ifs tc) (he:∀ C s H fp pins,PE (X.blkN N0 scope cl C own s H fp pins) elt te)
  (hs:∀ x,foldedSetIterable iter X.env x = pure x) (I:Inv X pins σ H s) (h:tComp wi own.length g tc te σ H Q)
  (fin:∀ D C s2 H2 H3 s4,Inv X pins σ H2 s2→s2.heap.objs.size≤C→H3 C = none→(∃ m,s4.heap.Ns C m)→(∀ h',Heap.SameBut C s4.heap h'→Inv X pins σ H3 { s4 with heap:=h' })→Q (.ref D) H3→compPost (model X.prog X.w) X.A X.xe use QV (.ref D) C (.ok .next) s4) :
  wpAny (model X.prog X.w) X.A (comprehension (.ListComp elt [⟨tg,iter,ifs,0⟩] scope pos) scope X.env p2 (newList []) false (eval iter X.env) use) QV X.xe s:=by
 refine wpAny_comprehension_free (use:=use) rfl hs S.clos S.kind S.names (thn (hi pins s σ H _ I h) fun v s1 h1 => thn h1 fun itv s2 h2 => ?_)
 obtain ⟨it,fp,tn,J,H2,e,I2,T,st2,f2,R⟩:=h2
 subst e
 obtain ⟨nm,T,hc⟩:=T
 refine wpAny_newObj_type (wpAny_newFunctionEnv S.nocell (by intro y hy; simp at hy) (fun h1 hns hsb => ?_) S.kind)
 dsimp only at hns hsb ⊢
 have hlt:∀ b∈fp,b < s2.heap.objs.size:=fun b hb => by
  obtain ⟨o,ho,_⟩:=T.obj 0 _ st2 b hb
  exact Heap.lt_size ho
 generalize hp:s2.heap.push { cls:=.type "list",dict:=none,data:=.seq ([]:List Value).toArray } = hl at hns hsb ⊢
 have hC:hl.objs.size = s2.heap.objs.size + 1:=by rw [← hp,Heap.size_push]
 have hCle:s2.heap.objs.size≤hl.objs.size:=by rw [hC]; exact Nat.le_succ _
 have hDC:s2.heap.objs.size≠hl.objs.size:=by rw [hC]; exact Nat.ne_of_lt (Nat.lt_succ_self _)
 have old:∀ b o,hl.get? b = some o→h1.get? b = some o:=fun b o e => hsb.extBut b o (Nat.ne_of_lt (Heap.lt_size e)) (Heap.get?_push_of_some _ e)
 have old2:∀ b o,s2.heap.get? b = some o→h1.get? b = some o:=fun b o e => old b o (hp▸Heap.get?_push_of_some _ e)
 have Dn:H2 s2.heap.objs.size = none:=I2.fresh
 have Cn:H2 hl.objs.size = none:=I2.hok.fresh hCle
 obtain ⟨W,⟨m0,w0⟩,step⟩:=R s2.heap.objs.size Dn
 have hobj:h1.get? s2.heap.objs.size = some { cls:=.type "list",data:=.seq ([]:List Value).toArray }:=old _ _ (hp▸Heap.get?_push_size _ rfl)
 have I3:Inv (X.blkN N0 scope cl hl.objs.size own s2 H2 fp pins) [] (σ ++ List.replicate own.length none) (upd H2 s2.heap.objs.size (.lst [])) { s2 with heap:=h1,toks:=s2.toks + ([]:List (Str × Value)).length } :=
  blkN_in S I2 f2 hlt hCle hns old2 (fun b o e n => by rw [upd_ne (Nat.ne_of_lt (Heap.lt_size e))]; exact n) (Un.laid old2 (Nat.le_refl _) Dn) (I2.hok.laid old2 (Nat.le_refl _) (show ObjOk X.prog X.w (upd H2 s2.heap.objs.size (.lst [])) h1 s2.heap.objs.size (.lst []) from ⟨Nat.zero_le _,[],0,.nil,hobj⟩)) (by rw [upd_ne (Ne.symm hDC)]; exact Cn)
 have fpn:∀ b∈fp,upd H2 s2.heap.objs.size (.lst []) b = none:=fun b hb => by rw [upd_ne (Nat.ne_of_lt (hlt b hb))]; exact (f2 b hb).1
 have stat:∀ {H':Hp},(∀ b∈fp,H' b = none)→∀ b∈fp,FpOk (X.blkN N0 scope cl hl.objs.size own s2 H2 fp pins) [] H' b:=fun hn b hb =>
  ⟨hn b hb,Nat.ne_of_lt (Nat.lt_of_lt_of_le (hlt b hb) hCle),stk_no I2 (f2 b hb).2.1 (f2 b hb).2.2.1,.inl hb,fun x c e => (f2 b hb).2.2.2.2.1 x c (S.sub x c e),fun p hp => (f2 b hb).2.2.2.2.2 p (by simpa using hp)⟩
 have loop:∀ s3:Shared,s3 = { s2 with heap:=h1,toks:=s2.toks + ([]:List (Str × Value)).length } →
   codeAny (model X.prog X.w) X.A (.compLoop (.ListComp elt [⟨tg,iter,ifs,0⟩] scope pos) 0 (.ref it) (.ref s2.heap.objs.size) (compEnvC scope cl hl.objs.size X.env)) (compPost (model X.prog X.w) X.A X.xe use QV (.ref s2.heap.objs.size) hl.objs.size) s3:=by
  rintro s3 rfl
  refine comp_turns (fun n s' => ∃ i ys H',Inv (X.blkN N0 scope cl hl.objs.size own s2 H2 fp pins) [] (σ ++ List.replicate own.length none) H' s'∧tn i s'.heap∧(∀ b∈fp,H' b = none)∧W i n ys H') ?_ m0
   ⟨0,[],_,I3,T.keep 0 _ _ st2 (fun b _ o e => old2 b o e),fpn,w0⟩
  rintro n s3 ⟨i,ys,H3,J3,st3,fr3,w3⟩
  obtain ⟨hD,⟨stop,q⟩ | ⟨go,hlen,turn⟩⟩:=step i n ys H3 w3
  ·refine thn (T.done (X.blkN N0 scope cl hl.objs.size own s2 H2 fp pins) rfl rfl rfl hc i [] s3 _ H3 _ J3 (stat fr3) st3 stop) fun r s4 ⟨hr,J4⟩ => ?_
   subst hr
   obtain ⟨m4,hn4,_⟩:=J4.loc
   exact fin _ _ s2 H2 H3 s4 I2 hCle J4.free ⟨m4,hn4⟩ (fun h' sb => blkN_out I2 f2 hCle J4 sb) q
  ·refine thn (T.item (X.blkN N0 scope cl hl.objs.size own s2 H2 fp pins) rfl rfl rfl hc i [] s3 _ H3 _ J3 (stat fr3) st3 go) fun r s4 ⟨u,hr,h4⟩ => ?_
   subst hr
   refine thn h4 fun _ s5 ⟨x,H5,J5,r5,y5,st5,fr5⟩ => ?_
   have J5':=J5.pinned (stat fr5) (T.obj _ _ st5)
   refine thn (hg _ _ _ _ _ _ s5 _ H5 x u _ J5' r5 (turn x H5 y5)) fun _ s6 ⟨σ6,H6,J6,⟨ts,e6,hts⟩,q6⟩ => ?_
   subst e6
   refine thn (ht _ _ _ _ _ _ s6 _ H6 _ J6 q6) fun ok s7 ⟨H7,J7,q7⟩ => ?_
   have again:∀ {s8:Shared} {H8:Hp} {zs:List V},Inv (X.blkN N0 scope cl hl.objs.size own s2 H2 fp pins) ([] ++ pinsAt fp s5.heap) (σ ++ ts) H8 s8→(∃ m',m' < n∧W (i + 1) m' zs H8) →
     ∃ m,m < n∧∃ i ys H',Inv (X.blkN N0 scope cl hl.objs.size own s2 H2 fp pins) [] (σ ++ List.replicate own.length none) H' s8∧tn i s8.heap∧(∀ b∈fp,H' b = none)∧W i m ys H':=fun {s8 H8 zs} J8 ⟨m',hm,w8⟩ => by
    refine ⟨m',hm,i + 1,zs,H8,?_,T.keep _ _ _ st5 fun b hb o e => (J8.pin (b,o) (List.mem_append_right _ (List.mem_append_right _ (mem_pinsAt hb e)))).1,fun b hb => ?_,w8⟩
    ·refine J8.unpinned.weak (by rw [List.length_append,List.length_append,List.length_replicate,hts]) fun j v ej => ?_
     by_cases hj:j < σ.length
     ·rw [List.getElem?_append_left hj] at ej ⊢
      exact ej
     ·rw [List.getElem?_append_right (by omega),List.getElem?_replicate] at ej
      split at ej <;> cases ej
    ·obtain ⟨o,e,d⟩:=T.obj _ _ st5 b hb
     exact (J8.pin (b,o) (List.mem_append_right _ (List.mem_append_right _ (mem_pinsAt hb e)))).2.1
   cases ok with
   | false => exact again J7 q7
   | true =>
    refine thn (he _ _ _ _ _ _ s7 _ H7 _ J7 q7) fun z s8 ⟨y,H8,J8,r8,hD8,q8⟩ => ?_
    refine thn (mt_append _ s8 _ H8 (.ref s2.heap.objs.size) [y] _ [z] (fun _ H9 => ∃ m',m' < n∧W (i + 1) m' (ys ++ [y]) H9) J8 rfl (.cons r8 .nil) ⟨_,ys,y,rfl,rfl,hD8,hlen,q8⟩) fun _ s9 ⟨_,H9,J9,_,q9⟩ => again J9 q9
 exact codeAny_compStart_list (loop _ rfl) (T.self _ 0 _ _ _ (T.keep 0 _ _ st2 fun b _ o e => old2 b o e) (loop _ rfl))
theorem pe_compN (S:CompScopeN X N0 scope cl) (hi:PI X tg iter wi)
  (hg:∀ C s H fp pins,PG (X.blkN N0 scope cl C own s H fp pins) tg g) (ht:∀ C s H fp pins,PF (X.blkN N0 scope cl C own s H fp pins) ifs tc) (he:∀ C s H fp pins,PE (X.blkN N0 scope cl C own s H fp pins) elt te)
  (hs:∀ x,foldedSetIterable iter X.env x = pure x:=by intro _; rfl):PE X (.ListComp elt [⟨tg,iter,ifs,0⟩] scope pos) (tComp wi own.length g tc te):=by
 intro pins s σ H Q I h
 rw [eval_ListComp]
 exact comp_coreN (use:=none) (QV:=EP X pins σ Q) S hi hg ht he hs I h fun D C s2 H2 H3 s4 _ _ _ hn inv q => hn.elim fun m hn => ⟨m,hn,fun h' sb => ⟨.ref D,H3,inv h' sb,rfl,q⟩⟩
end
theorem cs_oneN {X:Cx} {N0:List Str} {scope:Scope} {N:List Str} {n:Str} {a:Addr} (hN:X.N = N) (hk:scope.kind = .function) (hcl:closureFor scope X.env = pure [(n,a)]) (hsub:X.env.cells.lookup n = some a) (hout:X.env.kindOf n = some .cell)
  (h1:(scope.names.all fun y => y.2 != .cell && (y.2 != .free || y.1 == n)) = true) (h2:(scope.names.all fun y => y.2 != .local || scope.names.lookup y.1 == some .local) = true)
  (hl:N0.length = N.length) (h3:((N0.zip N).all fun y => (y.1 == y.2 && scope.names.lookup y.1 != some .local) || scope.names.lookup y.1 == none) = true):CompScopeN X N0 scope [(n,a)] where
 clos:=hcl
 kind:=hk
 nocell:=fun y hy => by
  have:=List.all_eq_true.mp h1 y hy
  simp only [Bool.and_eq_true,bne_iff_ne] at this
  exact this.1
 names:=fun y hy e => by
  have:=List.all_eq_true.mp h2 y hy
  rw [e] at this
  simpa using this
 sub:=fun x c e => by
  rw [List.lookup_cons] at e
  split at e
  ·rename_i q
   obtain rfl:x = n:=by simpa using q
   cases e; exact hsub
  ·cases e
 has:=fun x e => by
  have:=List.all_eq_true.mp h1 _ (lookup_mem e)
  simp at this
  exact ⟨a,by rw [this]; simp [List.lookup_cons]⟩
 outer:=fun x e => by
  have:=List.all_eq_true.mp h1 _ (lookup_mem e)
  simp at this
  exact .inl (this▸hout)
 lenN:=by rw [hN]; exact hl
 nm:=fun i x e => by
  have hi:i < N.length:=by rw [← hl]; exact (List.getElem?_eq_some_iff.mp e).1
  have hz:(N0.zip N)[i]? = some (x,N[i]):=by rw [List.getElem?_zip_eq_some]; exact ⟨e,List.getElem?_eq_getElem hi⟩
  have:=List.all_eq_true.mp h3 _ (List.mem_of_getElem? hz)
  simp only [Bool.or_eq_true,Bool.and_eq_true,beq_iff_eq,bne_iff_ne] at this
  rcases this with ⟨q1,q2⟩ | q
  ·exact .inl ⟨by rw [hN,List.getElem?_eq_getElem hi,← q1],q2⟩
  ·exact .inr q
end L2
namespace L2
open PySem PySem.Spec PyProof.Rows
section
variable {κ:Type} [DecidableEq κ]
def valV (kvs:List (κ × V)) (k:κ):Option V:=(kvs.find? fun kv => decide (kv.1 = k)).map (·.2)
def putK (kvs:List (κ × V)) (k:κ) (v:V):List (κ × V) :=
 if (kvs.any fun kv => decide (kv.1 = k)) = true then kvs.map (fun kv => if kv.1 = k then (kv.1,v) else kv) else kvs ++ [(k,v)]
def dropK (kvs:List (κ × V)) (k:κ):List (κ × V):=kvs.filter fun kv => decide (kv.1≠k)
theorem valV_pos {p:κ × V} {r:List (κ × V)} {k:κ} (e:p.1 = k):valV (p :: r) k = some p.2:=by simp [valV,List.find?_cons,e]
theorem valV_neg {p:κ × V} {r:List (κ × V)} {k:κ} (e:¬ p.1 = k):valV (p :: r) k = valV r k:=by simp [valV,List.find?_cons,e]
theorem valV_any (k:κ):∀ kvs:List (κ × V),(kvs.any fun kv => decide (kv.1 = k)) = (valV kvs k).isSome
 | [] => rfl
 | p :: r => by
  rw [List.any_cons]
  by_cases e:p.1 = k
  ·simp only [valV_pos e,decide_eq_true e,Bool.true_or,Option.isSome_some]
  ·rw [valV_neg e,decide_eq_false e,Bool.false_or]; exact valV_any k r
theorem valV_map (k j:κ) (y:V):∀ kvs:List (κ × V),valV (kvs.map fun kv => if kv.1 = k then (kv.1,y) else kv) j = (valV kvs j).map fun x => if j = k then y else x
 | [] => rfl
 | p :: r => by
  have ih:=valV_map k j y r
  rw [List.map_cons]
  by_cases h:p.1 = k
  ·rw [if_pos h]
   by_cases e:p.1 = j
   ·rw [valV_pos (p:=(p.1,y)) e,valV_pos e,Option.map_some,if_pos (e.symm.trans h)]
   ·rw [valV_neg (p:=(p.1,y)) e,valV_neg e,ih]
  ·rw [if_neg h]
   by_cases e:p.1 = j
   ·rw [valV_pos (p:=p) e,valV_pos e,Option.map_some,if_neg (fun z => h (e.trans z))]
   ·rw [valV_neg (p:=p) e,valV_neg e,ih]
theorem valV_snoc (k j:κ) (y:V):∀ kvs:List (κ × V),valV kvs k = none→valV (kvs ++ [(k,y)]) j = if j = k then some y else valV kvs j
 | [],_ => by
  by_cases e:k = j
  ·rw [if_pos e.symm]; exact valV_pos (p:=(k,y)) e
  ·rw [if_neg (fun z => e z.symm)]; exact valV_neg (p:=(k,y)) e
 | p :: r,hn => by
  rw [List.cons_append]
  have hk:¬ p.1 = k:=fun z => by rw [valV_pos z] at hn; cases hn
  rw [valV_neg hk] at hn
  have ih:=valV_snoc k j y r hn
  by_cases e:p.1 = j
  ·rw [valV_pos e,valV_pos e,if_neg (fun z => hk (e.trans z))]
  ·rw [valV_neg e,valV_neg e,ih]
theorem valV_put (kvs:List (κ × V)) (k j:κ) (y:V):valV (putK kvs k y) j = if j = k then some y else valV kvs j:=by
 unfold putK
 by_cases a:(kvs.any fun kv => decide (kv.1 = k)) = true
 ·rw [if_pos a,valV_map]
  rw [valV_any] at a
  by_cases e:j = k
  ·obtain ⟨x,hx⟩:=Option.isSome_iff_exists.mp a
   rw [if_pos e,e,hx,Option.map_some,if_pos rfl]
  ·rw [if_neg e]
   cases valV kvs j with
   | none => rfl
   | some x => rw [Option.map_some,if_neg e]
 ·rw [if_neg a]
  refine valV_snoc k j y kvs ?_
  rw [valV_any] at a
  cases q:valV kvs k with
  | none => rfl
  | some x => rw [q] at a; exact (a rfl).elim
theorem length_putK (kvs:List (κ × V)) (k:κ) (v:V):(putK kvs k v).length≤kvs.length + 1:=by
 unfold putK
 split
 ·rw [List.length_map]; omega
 ·rw [List.length_append,List.length_cons,List.length_nil]; omega
theorem putK_new {kvs:List (κ × V)} {k:κ} (v:V) (h:valV kvs k = none):putK kvs k v = kvs ++ [(k,v)]:=by
 unfold putK
 rw [valV_any,h]
 exact if_neg (by decide)
theorem RelO.isSome_eq {o:Option V} {u:Option Value} (r:RelO o u):o.isSome = u.isSome:=by
 cases o with
 | none => cases u with
  | none => rfl
  | some _ => exact (show False from r).elim
 | some _ => cases u with
  | none => exact (show False from r).elim
  | some _ => rfl
theorem KV.val {kvs:List (κ × V)} {vs:List (κ × Value)} (r:KV kvs vs) (k:κ):RelO (valV kvs k) (valueAt vs k):=by
 unfold KV at r
 induction r with
 | nil => exact True.intro
 | @cons p q ps qs h t ih =>
  obtain ⟨h1,h2⟩:=h
  by_cases e:p.1 = k
  ·have e':q.1 = k:=h1.symm.trans e
   have b:valueAt (q :: qs) k = some q.2:=by simp [valueAt,List.find?_cons,e']
   rw [valV_pos e,b]; exact h2
  ·have e':¬ q.1 = k:=fun z => e (h1.trans z)
   have b:valueAt (q :: qs) k = valueAt qs k:=by simp [valueAt,List.find?_cons,e']
   rw [valV_neg e,b]; exact ih
theorem KV.any {kvs:List (κ × V)} {vs:List (κ × Value)} (r:KV kvs vs) (k:κ):(kvs.any fun kv => decide (kv.1 = k)) = vs.any fun kv => decide (kv.1 = k):=by
 unfold KV at r
 induction r with
 | nil => rfl
 | cons h t ih => rw [List.any_cons,List.any_cons,ih,h.1]
theorem KV.repl {kvs:List (κ × V)} {vs:List (κ × Value)} (r:KV kvs vs) (k:κ) {y:V} {u:Value} (ry:RelV y u) :
  KV (kvs.map fun kv => if kv.1 = k then (kv.1,y) else kv) (vs.map fun kv => if kv.1 = k then (kv.1,u) else kv):=by
 unfold KV at r ⊢
 induction r with
 | nil => exact .nil
 | @cons p q ps qs h t ih =>
  rw [List.map_cons,List.map_cons]
  refine .cons ?_ ih
  obtain ⟨h1,h2⟩:=h
  by_cases e:p.1 = k
  ·rw [if_pos e,if_pos (h1.symm.trans e)]; exact ⟨h1,ry⟩
  ·rw [if_neg e,if_neg (fun z => e (h1.trans z))]; exact ⟨h1,h2⟩
theorem KV.put {kvs:List (κ × V)} {vs:List (κ × Value)} (r:KV kvs vs) (k:κ) {y:V} {u:Value} (ry:RelV y u):KV (putK kvs k y) (stored vs k u):=by
 unfold putK stored
 rw [r.any k]
 by_cases e:(vs.any fun kv => decide (kv.1 = k)) = true
 ·rw [if_pos e,if_pos e]; exact r.repl k ry
 ·rw [if_neg e,if_neg e]; exact Paired.snoc r ⟨rfl,ry⟩
theorem KV.length {kvs:List (κ × V)} {vs:List (κ × Value)} (r:KV kvs vs):kvs.length = vs.length:=Paired.length r
end
theorem kV_is {P:Program} {w:World} {k:Key} {u:Value} (r:RelV (kV k) u):(mixKind P w).is k u = true:=by
 cases k with
 | inl i => obtain ⟨t,e⟩:=(show ∃ t,u = Value.int i t from r); subst e; exact mixKind_int P w i t
 | inr x => obtain ⟨t,e⟩:=(show ∃ t,u = Value.str x t from r); subst e; exact mixKind_str P w x t
theorem items_are {P:Program} {w:World}:∀ {ks:List Key} {us:List Value},Vals (ks.map kV) us→ItemsAre (mixKind P w) ks us
 | [],_,r => by rw [List.map_nil] at r; cases r; exact .nil
 | k :: ks,_,r => by
  rw [List.map_cons] at r
  cases r with
  | cons h t => exact .cons (kV_is h) (items_are t)
abbrev KT (H:Hp):List (List Key × V)→List (List Key × Addr × Value)→Prop:=Paired fun p q => p.1 = q.1∧H q.2.1 = some (.tup (p.1.map kV))∧RelV p.2 q.2.2
theorem KT.val {H:Hp} {kvs:List (List Key × V)} {xs:List (List Key × Addr × Value)} (r:KT H kvs xs) (k:List Key):RelO (valV kvs k) ((atKey xs k).map (·.2)):=by
 induction r with
 | nil => exact True.intro
 | @cons p q ps qs h t ih =>
  obtain ⟨h1,_,h2⟩:=h
  by_cases e:p.1 = k
  ·have e':q.1 = k:=h1.symm.trans e
   have b:atKey (q :: qs) k = some q.2:=by simp [atKey,List.find?_cons,e']
   rw [valV_pos e,b]; exact h2
  ·have e':¬ q.1 = k:=fun z => e (h1.trans z)
   have b:atKey (q :: qs) k = atKey qs k:=by simp [atKey,List.find?_cons,e']
   rw [valV_neg e,b]; exact ih
theorem KT.repl {H:Hp} {kvs:List (List Key × V)} {xs:List (List Key × Addr × Value)} (r:KT H kvs xs) (k:List Key) {y:V} {u:Value} (ry:RelV y u) :
  KT H (kvs.map fun kv => if kv.1 = k then (kv.1,y) else kv) (xs.map (putAt k u)):=by
 induction r with
 | nil => exact .nil
 | @cons p q ps qs h t ih =>
  rw [List.map_cons,List.map_cons]
  refine .cons ?_ ih
  obtain ⟨h1,h2,h3⟩:=h
  unfold putAt
  by_cases e:p.1 = k
  ·rw [if_pos e,if_pos (h1.symm.trans e)]; exact ⟨h1,h2,ry⟩
  ·rw [if_neg e,if_neg (fun z => e (h1.trans z))]; exact ⟨h1,h2,h3⟩
theorem KT.put {H:Hp} {kvs:List (List Key × V)} {xs:List (List Key × Addr × Value)} (r:KT H kvs xs) (k:List Key) {b:Addr} {y:V} {u:Value} (hb:H b = some (.tup (k.map kV))) (ry:RelV y u) :
  KT H (putK kvs k y) (storedH xs k b u):=by
 have e:(kvs.any fun kv => decide (kv.1 = k)) = (atKey xs k).isSome:=by
  rw [valV_any,(r.val k).isSome_eq,Option.isSome_map]
 unfold putK storedH
 rw [e]
 by_cases q:(atKey xs k).isSome = true
 ·rw [if_pos q,if_pos q]; exact r.repl k ry
 ·rw [if_neg q,if_neg q]; exact Paired.snoc r ⟨rfl,hb,ry⟩
theorem KT.keeps {H H':Hp} {kvs:List (List Key × V)} {xs:List (List Key × Addr × Value)} (r:KT H kvs xs) (ht:∀ b ys,H b = some (.tup ys)→H' b = some (.tup ys)):KT H' kvs xs :=
 Paired.mapP r fun _ _ z => ⟨z.1,ht _ _ z.2.1,z.2.2⟩
section
variable {P:Program} {w:World} {H:Hp} {h:Heap} {a:Addr}
theorem rd_of {u:HO} (ok:HOk P w H h) (e:Rd H a u):ObjOk P w H h a u:=e.ok ok
theorem dk_rd {kvs:List (Key × V)} (ok:HOk P w H h) (e:Rd H a (.dK kvs)):kvs.length≤sizeLine∧(a == sysModules) = false∧∃ vs,KV kvs vs∧h.DictOf (mixKind P w) a vs :=
 show ObjOk P w H h a (.dK kvs) from rd_of ok e
theorem dk_of {kvs:List (Key × V)} (ok:HOk P w H h) (e:H a = some (.dK kvs)):kvs.length≤sizeLine∧(a == sysModules) = false∧∃ vs,KV kvs vs∧h.DictOf (mixKind P w) a vs:=dk_rd ok (.inl e)
theorem key_of {ks:List Key} (ok:HOk P w H h) (e:H a = some (.tup (ks.map kV))):(tupleKind (mixKind P w)).is h ks a:=by
 obtain ⟨_,its,r,o,h1,h2,n,h3⟩:=(show ObjOk P w H h a (.tup (ks.map kV)) from ok a _ e)
 exact ⟨o,its.toArray,n,h1,h2,h3,by simpa using items_are r⟩
theorem dt_rd {kvs:List (List Key × V)} (ok:HOk P w H h) (e:Rd H a (.dT kvs)):kvs.length≤sizeLine∧(a == sysModules) = false ∧
  ∃ xs,KT H kvs xs∧h.DictOfH (tupleKind (mixKind P w)) a xs:=by
 obtain ⟨z,y,xs,r,o,es,ep,h1,h2,h3,h4,h5⟩:=(show ObjOk P w H h a (.dT kvs) from rd_of ok e)
 refine ⟨z,y,xs,r,o,es,ep,h1,h2,h3,h4,fun x hx => ?_,h5⟩
 have all:∀ {l:List (List Key × V)} {m:List (List Key × Addr × Value)},KT H l m→∀ x∈m,(tupleKind (mixKind P w)).is h x.1 x.2.1:=by
  intro l m q
  induction q with
  | nil => intro x hx; exact nomatch hx
  | @cons p q ps qs hq t ih =>
   intro x hx
   rcases List.mem_cons.mp hx with e | hx
   ·subst e
    exact key_of ok (by rw [← hq.1]; exact hq.2.1)
   ·exact ih x hx
 exact all r x hx
theorem dt_of {kvs:List (List Key × V)} (ok:HOk P w H h) (e:H a = some (.dT kvs)):kvs.length≤sizeLine∧(a == sysModules) = false ∧
  ∃ xs,KT H kvs xs∧h.DictOfH (tupleKind (mixKind P w)) a xs:=dt_rd ok (.inl e)
end
def DGet (H:Hp) (a:Addr) (y:V) (r:Option V):Prop :=
 (∃ kvs k,Rd H a (.dK kvs)∧y = kV k∧r = valV kvs k)∨∃ kvs k b,Rd H a (.dT kvs)∧y = .ref b∧H b = some (.tup (k.map kV))∧r = valV kvs k
def DPut (H:Hp) (a:Addr) (y v:V) (H':Hp):Prop :=
 (∃ kvs k,H a = some (.dK kvs)∧y = kV k∧kvs.length < sizeLine∧H' = upd H a (.dK (putK kvs k v))) ∨
 ∃ kvs k b,H a = some (.dT kvs)∧y = .ref b∧H b = some (.tup (k.map kV))∧kvs.length < sizeLine∧H' = upd H a (.dT (putK kvs k v))
theorem DGet.t {H:Hp} {a b:Addr} {kvs:List (List Key × V)} {k:List Key} (e:H a = some (.dT kvs)) (eb:H b = some (.tup (k.map kV))):DGet H a (.ref b) (valV kvs k):=.inr ⟨kvs,k,b,.inl e,rfl,eb,rfl⟩
theorem DPut.t {H:Hp} {a b:Addr} {kvs:List (List Key × V)} {k:List Key} {v:V} (e:H a = some (.dT kvs)) (eb:H b = some (.tup (k.map kV))) (hl:kvs.length < sizeLine) :
  DPut H a (.ref b) v (upd H a (.dT (putK kvs k v))):=.inr ⟨kvs,k,b,e,rfl,eb,hl,rfl⟩
section
variable {X:Cx} {pins:List (Addr × Obj)} {σ:St} {H:Hp} {s:Shared} {a:Addr} {y v:V} {u r:Value} {o:Option V} {A:Around} {E:Value→Shared→Prop}
theorem Inv.big (I:Inv X pins σ H s):sysModules < s.heap.objs.size:=by
 have h:mainGlobals < s.heap.objs.size:=(I.mod.glob.keeps I.bk).lt
 exact Nat.lt_trans (by decide) h
theorem d_getItem {Q:Value→Shared→Prop} (hu:A.units + 1 < cLine) (I:Inv X pins σ H s) (g:DGet H a y (some v)) (ry:RelV y u) (h:∀ w' s',Inv X pins σ H s'→RelV v w'→Q w' s') :
  wpAny (model X.prog X.w) A (getItem (.ref a) u) Q E s:=by
 rcases g with ⟨kvs,k,e,ey,l⟩ | ⟨kvs,k,b,e,ey,eb,l⟩
 ·subst ey
  obtain ⟨z,hd,vs,rel,dd⟩:=dk_rd I.hok e
  obtain ⟨w',hw,rw'⟩:=RelO.some_of (v:=v) (o:=valueAt vs k) (by rw [l]; exact rel.val k)
  exact wpAny_getItem_of (kV_is ry) dd.mapOf hw (h w' _ (I.tok _) rw')
 ·subst ey
  cases (show u = Value.ref b from ry)
  obtain ⟨z,hd,xs,rel,dd⟩:=dt_rd I.hok e
  obtain ⟨w',hw,rw'⟩:=RelO.some_of (v:=v) (o:=(atKey xs k).map (·.2)) (by rw [l]; exact rel.val k)
  obtain ⟨p,hp,hp2⟩:=Option.map_eq_some_iff.mp hw
  refine wpAny_getItem_heap (tupleKind_room_in1 hu) (key_of I.hok eb) dd hp ?_
  rw [hp2]
  exact h w' _ (I.tok _) rw'
theorem d_in {Q:Value→Shared→Prop} (hu:A.units + 1 < cLine) (I:Inv X pins σ H s) (g:DGet H a y o) (ry:RelV y u) (h:∀ s',Inv X pins σ H s'→Q (.bool o.isSome) s') :
  wpAny (model X.prog X.w) A (compareOp .In u (.ref a)) Q E s:=by
 rcases g with ⟨kvs,k,e,ey,l⟩ | ⟨kvs,k,b,e,ey,eb,l⟩
 ·subst ey
  obtain ⟨z,hd,vs,rel,dd⟩:=dk_rd I.hok e
  refine wpAny_in_of (kV_is ry) hd dd.mapOf ?_
  rw [← (rel.val k).isSome_eq,← l]
  exact h _ (I.tok _)
 ·subst ey
  cases (show u = Value.ref b from ry)
  obtain ⟨z,hd,xs,rel,dd⟩:=dt_rd I.hok e
  refine wpAny_in_heap (tupleKind_room_in1 hu) (key_of I.hok eb) hd dd ?_
  have q:=(rel.val k).isSome_eq
  rw [Option.isSome_map] at q
  rw [← q,← l]
  exact h _ (I.tok _)
theorem d_notIn {Q:Value→Shared→Prop} (hu:A.units + 1 < cLine) (I:Inv X pins σ H s) (g:DGet H a y o) (ry:RelV y u) (h:∀ s',Inv X pins σ H s'→Q (.bool (!o.isSome)) s') :
  wpAny (model X.prog X.w) A (compareOp .NotIn u (.ref a)) Q E s:=by
 rcases g with ⟨kvs,k,e,ey,l⟩ | ⟨kvs,k,b,e,ey,eb,l⟩
 ·subst ey
  obtain ⟨z,hd,vs,rel,dd⟩:=dk_rd I.hok e
  refine wpAny_notIn_of (kV_is ry) hd dd.mapOf ?_
  rw [← (rel.val k).isSome_eq,← l]
  exact h _ (I.tok _)
 ·subst ey
  cases (show u = Value.ref b from ry)
  obtain ⟨z,hd,xs,rel,dd⟩:=dt_rd I.hok e
  refine wpAny_notIn_heap (tupleKind_room_in1 hu) (key_of I.hok eb) hd dd ?_
  have q:=(rel.val k).isSome_eq
  rw [Option.isSome_map] at q
  rw [← q,← l]
  exact h _ (I.tok _)
theorem d_write {h':Heap} {t':Nat} {ob:HO} (I:Inv X pins σ H s) (mu:Mut (H a)) (hs:Heap.SameBut a s.heap h') (he:∃ q,h'.get? a = some q) (new:ObjOk X.prog X.w (upd H a ob) h' a ob) :
  Inv X pins σ (upd H a ob) { s with heap:=h',toks:=t' } :=
 I.write (x:=a) (e:=a) mu (.inl rfl) (fun b q hb z => (hs.2 b hb).trans z) he new
theorem dk_new {P:Program} {w:World} {H':Hp} {h':Heap} {kvs:List (Key × V)} {vs:List (Key × Value)} (z:kvs.length≤sizeLine) (hd:(a == sysModules) = false) (rel:KV kvs vs) (dd:h'.DictOf (mixKind P w) a vs) :
  ObjOk P w H' h' a (.dK kvs):=⟨z,hd,vs,rel,dd⟩
theorem d_setItem {H':Hp} {Q:Unit→Shared→Prop} (hu:A.units + 1 < cLine) (I:Inv X pins σ H s) (g:DPut H a y v H') (ry:RelV y u) (rv:RelV v r) (h:∀ s',Inv X pins σ H' s'→Q () s') :
  wpAny (model X.prog X.w) A (setItem (.ref a) u r) Q E s:=by
 rcases g with ⟨kvs,k,e,ey,l,eH⟩ | ⟨kvs,k,b,e,ey,eb,l,eH⟩
 ·subst ey eH
  obtain ⟨z,hd,vs,rel,dd⟩:=dk_of I.hok e
  have hz:vs.length≤sizeLine:=by rw [← rel.length]; exact z
  have hl:(putK kvs k v).length≤sizeLine:=by have:=length_putK kvs k v; omega
  refine wpAny_setItem_pairs (hsz:=hz) (kV_is ry) dd fun h' dd' hs => h _ ?_
  have he:∃ q,h'.get? a = some q:=let ⟨q,_,_,hq,_⟩:=dd'; ⟨q,hq⟩
  exact d_write I (by rw [e]; exact True.intro) hs he (dk_new hl hd (rel.put k rv) dd')
 ·subst ey eH
  cases (show u = Value.ref b from ry)
  obtain ⟨z,hd,xs,rel,dd⟩:=dt_of I.hok e
  have hz:xs.length≤sizeLine:=by rw [← Paired.length rel]; exact z
  have hl:(putK kvs k v).length≤sizeLine:=by have:=length_putK kvs k v; omega
  refine wpAny_setItem_heap (hsz:=hz) (tupleKind_room_in1 hu) (key_of I.hok eb) dd fun h' dd' hs => h _ ?_
  obtain ⟨q,es,ep,hq,h2,h3,h4,_,h5⟩:=dd'
  refine d_write I (by rw [e]; exact True.intro) hs ⟨q,hq⟩ ⟨hl,hd,_,(rel.put k eb rv).keeps fun c ys ec => ?_,q,es,ep,hq,h2,h3,h4,h5⟩
  rw [upd_ne (ne_of ec e (fun z => nomatch z))]
  exact ec
end
section
variable {X:Cx} {pins:List (Addr × Obj)} {σ:St} {H:Hp} {s:Shared} {a:Addr} {kvs:List (Key × V)} {k:Key} {u:Value} {A:Around} {E:Value→Shared→Prop}
end
def NoSl (i:Expr):Prop:=∀ ov iv,subscripted i false ov iv = operate [ov,iv] (getItem ov iv)
theorem subD_of {prog:Program} {w:World} {A:Around} {E:Value→Shared→Prop} {s:Shared} {env:Env} {value slice:Expr} {pos:Pos} {T id:String} {Q:Value→Shared→Prop}
  (hl:typeLookup (.type T) "__getitem__" = pure (some (.builtin id))) (hs:NoSl slice)
  (h:wpAny (model prog w) A (eval value env) (fun o s₁ => wpAny (model prog w) A (eval slice env) (fun i s₂ => s₂.TypeIs o T∧wpAny (model prog w) A (getItem o i) Q E s₂) E s₁) E s) :
  wpAny (model prog w) A (eval (.Subscript value slice pos) env) Q E s:=by
 refine Subscript_ (wpAny_mono h (fun o s₁ h₁ => wpAny_mono h₁ (fun i s₂ h₂ => ?_) fun _ _ x => x) fun _ _ x => x)
 obtain ⟨hT,h₂⟩:=h₂
 unfold subscriptTail
 refine wpAny_bind ?_
 rw [getitemInPython_of_ne hT.not_modules]
 refine wpAny_bind (wpAny_specialOf hT hl ?_)
 have fin:wpAny (model prog w) A (subscripted slice false o i) (fun r s₃ => wpAny (model prog w) A (letTemporaryGo value o r >>= fun _ => pure r) Q E s₃) E s₂:=by
  rw [hs o i]
  exact wpAny_operating (wpAny_mono h₂ (fun r s₃ h₃ => wpAny_bind (wpAny_letTemporaryGo (wpAny_pure h₃))) fun _ _ x => x)
 first
  | exact wpAny_pure (wpAny_bind fin)
  | exact wpAny_bind (wpAny_pure (wpAny_bind fin))
  | exact wpAny_bind fin
theorem dict_typeIs {X:Cx} {pins:List (Addr × Obj)} {σ:St} {H:Hp} {s:Shared} {a:Addr} {y:V} {o:Option V} (I:Inv X pins σ H s) (g:DGet H a y o):s.TypeIs (.ref a) "dict":=by
 rcases g with ⟨kvs,k,e,_,_⟩ | ⟨kvs,k,b,e,_,_,_⟩
 ·obtain ⟨_,_,vs,_,dd⟩:=dk_rd I.hok e
  exact dd.typeIs
 ·obtain ⟨_,_,xs,_,dd⟩:=dt_rd I.hok e
  exact dd.typeIs
def tDGet (td ty:TE):TE:=fun σ H Q => td σ H fun x H1 => ty σ H1 fun y H2 => ∃ a v,x = .ref a∧DGet H2 a y (some v)∧Q v H2
def tDIn (ty td:TE):TE:=fun σ H Q => ty σ H fun y H1 => td σ H1 fun x H2 => ∃ a o,x = .ref a∧DGet H2 a y o∧Q (.bl o.isSome) H2
def tDNotIn (ty td:TE):TE:=fun σ H Q => ty σ H fun y H1 => td σ H1 fun x H2 => ∃ a o,x = .ref a∧DGet H2 a y o∧Q (.bl (!o.isSome)) H2
def sDPut (td ty tv:TE):TS:=fun D σ H => tv σ H fun v H1 => td σ H1 fun x H2 => ty σ H2 fun y H3 => ∃ a H4,x = .ref a∧DPut H3 a y v H4∧D.nx σ H4
section
variable {X:Cx} {o i e value:Expr} {pos pos' tpos:Pos} {td ty tv:TE}
theorem pe_dget (hu:X.A.units + 1 < cLine) (ho:PE X o td) (hi:PE X i ty) (hs:NoSl i):PE X (.Subscript o i pos) (tDGet td ty):=by
 intro pins s σ H Q I h
 refine subD_of PySem.F.slot_dict_getitem.lookup hs (thn (ho pins s σ H _ I h) fun u s1 ⟨x,H1,I1,rx,q1⟩ => thn (hi pins s1 σ H1 _ I1 q1) fun iv s2 ⟨y,H2,I2,ry,a,v,ex,g,q2⟩ => ?_)
 subst ex
 obtain rfl:u = Value.ref a:=rx
 exact ⟨dict_typeIs I2 g,d_getItem hu I2 g ry fun w' s3 I3 rw' => ⟨v,H2,I3,rw',q2⟩⟩
theorem pc_din (hu:X.A.units + 1 < cLine) (hi:PE X i ty) (ho:PE X o td):PC X .In i o (tDIn ty td):=by
 intro pins s σ H Q I h
 refine thn (hi pins s σ H _ I h) fun iv s1 ⟨y,H1,I1,ry,q1⟩ => thn (ho pins s1 σ H1 _ I1 q1) fun u s2 ⟨x,H2,I2,rx,a,ov,ex,g,q2⟩ => ?_
 subst ex
 obtain rfl:u = Value.ref a:=rx
 exact d_in hu I2 g ry fun s3 I3 => ⟨.bl ov.isSome,H2,I3,rfl,q2⟩
theorem pc_dnotin (hu:X.A.units + 1 < cLine) (hi:PE X i ty) (ho:PE X o td):PC X .NotIn i o (tDNotIn ty td):=by
 intro pins s σ H Q I h
 refine thn (hi pins s σ H _ I h) fun iv s1 ⟨y,H1,I1,ry,q1⟩ => thn (ho pins s1 σ H1 _ I1 q1) fun u s2 ⟨x,H2,I2,rx,a,ov,ex,g,q2⟩ => ?_
 subst ex
 obtain rfl:u = Value.ref a:=rx
 exact d_notIn hu I2 g ry fun s3 I3 => ⟨.bl (!ov.isSome),H2,I3,rfl,q2⟩
theorem ps_dput (hu:X.A.units + 1 < cLine) (ho:PE X o td) (hi:PE X i ty) (hv:PE X value tv) (hs:swapsWith value (some (.Subscript o i pos')) pos.line X.env = pure false) :
  PS X (.Assign [.Subscript o i pos'] value pos) (sDPut td ty tv):=by
 intro pins s σ H D I h
 refine wpAny_Assign_Subscript (thn (hv pins s σ H _ I h) fun r s1 ⟨v,H1,I1,rv,q1⟩ => thn (ho pins s1 σ H1 _ I1 q1) fun u s2 ⟨x,H2,I2,rx,q2⟩ => thn (hi pins s2 σ H2 _ I2 q2) fun iv s3 ⟨y,H3,I3,ry,a,H4,ex,g,q3⟩ => ?_) hs
 subst ex
 obtain rfl:u = Value.ref a:=rx
 exact d_setItem hu I3 g ry rv fun s4 I4 => ⟨σ,H4,I4,q3⟩
end
theorem dt_empty {P:Program} {w:World} {H:Hp} (h:Heap) (hb:sysModules < h.objs.size):ObjOk P w H (h.push { cls:=.type "dict",data:=.dict #[] }) h.objs.size (.dT []) :=
 ⟨Nat.zero_le _,beq_eq_false_iff_ne.mpr (Ne.symm (Nat.ne_of_lt hb)),[],.nil,_,#[],0,Heap.get?_push_size _ rfl,⟨rfl,rfl,rfl⟩,rfl,rfl,List.nodup_nil⟩
def tDNewT:TE:=fun _ H Q => ∀ p,H p = none→Q (.ref p) (upd H p (.dT []))
section
variable {X:Cx} {pos:Pos}
theorem pe_dnewT:PE X (.Dict [] [] pos) tDNewT:=fun pins s σ H Q I h =>
 wpAny_Dict_empty ⟨.ref s.heap.objs.size,_,I.laid (a:=s.heap.objs.size) (o:=.dT []) (t':=s.toks) (fun _ _ q => Heap.get?_push_of_some _ q) (Nat.le_refl _) (dt_empty s.heap I.big),rfl,h _ (I.hok.fresh (Nat.le_refl _))⟩
end
section
variable {X:Cx} {pins:List (Addr × Obj)} {σ:St} {H:Hp} {s:Shared} {a:Addr} {y d:V} {u r:Value} {o:Option V} {A:Around} {E:Value→Shared→Prop}
end
section
variable {X:Cx} {o e f:Expr} {apos cpos:Pos} {td ty tx:TE}
end
section
variable {X:Cx} {pins:List (Addr × Obj)} {σ:St} {H:Hp} {s:Shared} {a:Addr} {kvs:List (Key × V)} {A:Around} {E:Value→Shared→Prop}
end
section
variable {X:Cx} {pins:List (Addr × Obj)} {σ:St} {H:Hp} {s:Shared} {a:Addr} {y:V} {u:Value} {A:Around} {E:Value→Shared→Prop}
end
section
variable {κ:Type} [DecidableEq κ]
end
end L2
namespace L2
open PySem PySem.Spec PyProof.Rows
def ItEL (K:PySem.W.Frag) (a:Addr):It :=
 ⟨fun i H => ∃ xs x,SqL K H a xs∧xs[i]? = some x,
  fun i H v H' => ∃ t x,H t = none∧v = .ref t∧H' = upd H t (.tup [.int i,x])∧∀ xs,SqL K H a xs→xs[i]? = some x,
  fun i H => ∃ xs,SqL K H a xs∧xs.length≤i⟩
theorem turn_enumL {P:Program} {w:World} {K:PySem.W.Frag} {elts:List Expr} {kk:Nat} {tpos:Pos} (e it l:Addr) (hei:e≠it) (hle:l≠e) (hli:l≠it) :
  Turn P w K (.Tuple elts kk tpos) (ItEL K l) [e,it] e (fun i h => (∃ old,IsEnum h e it i old)∧h.IsListIter it l i) true where
 mem:=by simp
 obj:=fun i h st b hb => by
  obtain ⟨⟨old,q1⟩,⟨o4,q4,_,d4⟩⟩:=st
  simp only [List.mem_cons,List.not_mem_nil,or_false] at hb
  rcases hb with rfl | rfl
  ·exact ⟨_,q1,fun v e => by cases e⟩
  ·exact ⟨_,q4,fun v e => by rw [d4] at e; cases e⟩
 keep:=fun i h h' st k => by
  obtain ⟨⟨old,q1⟩,q4⟩:=st
  exact ⟨⟨old,k e (by simp) _ q1⟩,q4.at fun o x => k it (by simp) o x⟩
 item:=by
  intro X hP hw hK hc i pins s σ H E I hf st hg
  subst hP hw hK
  obtain ⟨xs,x,hx,ex⟩:=hg
  obtain ⟨its,r1,p1,_⟩:=I.list hx
  obtain ⟨v1,hv1,rv1⟩:=r1.get ex
  obtain ⟨⟨old,q1⟩,q4⟩:=st
  refine wpAny_pyNext_enum_item q1 q4 p1.isList (x:=v1) (by simpa using hv1) hei fun h1 z1 z2 z3 z4 z5 => ?_
  refine ⟨_,rfl,wpAny_letOwnedTupleGo_enum (s:={ s with heap:=h1,toks:=s.toks + 1 }) z1 fun h2 z1' sb => ?_⟩
  have keep:∀ c o,c ∉ [e,it]→s.heap.get? c = some o→h2.get? c = some o:=fun c o hc y => by
   simp only [List.mem_cons,List.not_mem_nil,or_false,not_or] at hc
   exact (sb.2 c hc.1).trans (z5 c o hc.1 hc.2 y)
  have hlt:∀ {c o},s.heap.get? c = some o→c≠s.heap.objs.size:=fun e => Nat.ne_of_lt (Heap.lt_size e)
  obtain ⟨o4,e4,_,_⟩:=id q4
  have I1:Inv X pins σ H { s with heap:=h2,toks:=s.toks + 1 }:=I.turnedL (t':=s.toks + 1) hf keep
  have hp:H s.heap.objs.size = none:=I.fresh
  have tp:h2.get? s.heap.objs.size = some { cls:=.type "tuple",data:=.seq #[.int i s.toks,v1] }:=(sb.2 _ (Ne.symm (hlt q1))).trans z3
  have I2:Inv X pins σ (upd H s.heap.objs.size (.tup [.int i,x])) { s with heap:=h2,toks:=s.toks + 1 }:=I1.track hp (Heap.get?_none_of_le I.sz) (Nat.ne_of_gt I.lt)
   (fun n c e zz => by obtain ⟨v0,o0,h0,_⟩:=I.cell n c e; exact hlt h0 zz) (fun q hq zz => hlt (I.pin q hq).1 zz) ⟨by show 2≤sizeLine; decide,[.int i s.toks,v1],.cons ⟨_,rfl⟩ (.cons rv1 .nil),_,tp,rfl,_,rfl⟩
  refine ⟨.ref s.heap.objs.size,_,I2,rfl,⟨_,x,hp,rfl,rfl,fun xs' hx' => ?_⟩,⟨⟨_,by simpa using z1'⟩,z2.extBut sb.extBut (Ne.symm hei)⟩,fun c hc => ?_⟩
  ·rw [I.list_inj hx' hx]; exact ex
  ·have hcn:=(hf c hc).1
   rw [upd_ne ?_]
   ·exact hcn
   ·simp only [List.mem_cons,List.not_mem_nil,or_false] at hc
    rcases hc with rfl | rfl
    ·exact hlt q1
    ·exact hlt e4
 done:=by
  intro X hP hw hK hc i pins s σ H E I hf st hg
  subst hP hw hK
  obtain ⟨xs,hx,hend⟩:=hg
  obtain ⟨its,rv,p,_⟩:=I.list hx
  obtain ⟨⟨old,q1⟩,q4⟩:=st
  have hl:=rv.length
  refine wpAny_pyNext_enum_end (I.ok.hd (hc rfl)) q1 q4 p.isList (by simp; omega) fun h1 k => ⟨rfl,?_⟩
  refine I.turnedL (t':=s.toks) (ch:=[it]) (fun c hc => hf c ?_) fun c o hc y => ?_
  ·simp only [List.mem_cons,List.not_mem_nil,or_false] at hc ⊢
   exact .inr hc
  ·simp only [List.mem_cons,List.not_mem_nil,or_false,not_or] at hc
   exact k c o hc y
 self:=fun _ _ _ _ _ st h => let ⟨_,q⟩:=st.1; wpAny_pyIter_enum q h
section
variable {X:Cx} {elts:List Expr} {kk:Nat} {tpos:Pos}
def iEnumL (K:PySem.W.Frag) (ta:TA):TI:=fun σ H R => ta σ H fun vs H1 => ∃ a,vs = [.ref a]∧(∃ xs,SqL K H1 a xs)∧R (ItEL K a) H1
theorem pi_enumL {a:Expr} {ta:TA} {p pos:Pos} (hcm:X.calm = true) (hg:Gl X "enumerate") (hm:X.mg "enumerate" = none) (ha:PA X [a] ta) (hs:starEach [a] X.env = (false,eval a X.env) :: starEach [] X.env:=by rfl) (hpl:(backTo pos (starEach [] X.env)).any (·.1) = false:=by rfl) :
  PI X (.Tuple elts kk tpos) (.Call (.Name "enumerate" p) [a] [] pos) (iEnumL X.K ta):=by
 intro pins s σ H R I h
 refine Call_ (ld_blt I hg hm boot_enumerate (PyProof.Rows.callWith_type1 (thn (ha pos pins s σ H _ I h) fun us s1 ⟨vs,H1,I1,r1,q1⟩ => ?_) hs hpl))
 obtain ⟨l1,e,⟨xs,hx⟩,q⟩:=q1
 subst e
 cases r1 with
 | cons ra rr =>
  cases rr
  cases ra
  obtain ⟨its,_,p1,_⟩:=I1.list hx
  have a1:l1 < s1.heap.objs.size:=by obtain ⟨_,e,_⟩:=p1.isList; exact Heap.lt_size e
  refine call_enumerate_list p1.isList fun h' z1 z2 z3 k => wpAny_pyIter_enum (s:={ s1 with heap:=h' }) z1 ?_
  have I2:Inv X pins σ H1 { s1 with heap:=h' }:=I1.kept (t':=s1.toks) k
  refine ⟨s1.heap.objs.size + 1,[s1.heap.objs.size + 1,s1.heap.objs.size],_,_,H1,rfl,I2,⟨true,turn_enumL _ _ l1 (Nat.succ_ne_self _) (Nat.ne_of_lt (Nat.lt_succ_of_lt a1)) (Nat.ne_of_lt a1),fun _ => hcm⟩,⟨⟨_,z1⟩,z2⟩,fun c hc => ?_,q⟩
  have le:s1.heap.objs.size≤c:=by
   simp only [List.mem_cons,List.not_mem_nil,or_false] at hc
   rcases hc with rfl | rfl <;> omega
  exact I1.fpOk le (I1.hok.fresh le)
theorem for_enumL {K:PySem.W.Frag} {a:Addr} {xs:List V} {g:TG} {tb:TS} {D:Ends} {σ:St} {H:Hp} (Pv:Nat→St→Hp→Prop) (h0:Pv 0 σ H) (hl:∀ i σ H,i≤xs.length→Pv i σ H→SqL K H a xs)
  (hs:∀ (i:Nat) x p σ H,xs[i]? = some x→H p = none→Pv i σ H→g (.ref p) σ (upd H p (.tup [.int i,x])) fun σ2 H2 => tb { D with nx:=Pv (i + 1),ct:=Pv (i + 1),bk:=D.nx } σ2 H2) (hd:∀ σ H,Pv xs.length σ H→D.nx σ H) :
  ∃ W:Nat→Nat→St→Hp→Prop,(∃ m,W 0 m σ H)∧∀ i m σ H,W i m σ H →
   ((ItEL K a).stop i H∧D.nx σ H)∨((ItEL K a).go i H∧∃ N:St→Hp→Prop,(∀ σ' H',N σ' H'→∃ m',m' < m∧W (i + 1) m' σ' H')∧∀ x H',(ItEL K a).yld i H x H'→g x σ H' fun σ2 H2 => tb { D with nx:=N,ct:=N,bk:=D.nx } σ2 H2):=by
 refine ⟨fun i m σ H => m = xs.length - i∧i≤xs.length∧Pv i σ H,⟨xs.length,by simp,Nat.zero_le _,h0⟩,?_⟩
 rintro i m σ H ⟨rfl,hi,p⟩
 have qa:=hl i σ H hi p
 by_cases hlt:i < xs.length
 ·refine .inr ⟨⟨xs,xs[i],qa,by simp [hlt]⟩,Pv (i + 1),fun σ' H' p' => ⟨xs.length - (i + 1),by omega,rfl,hlt,p'⟩,fun v H' yy => ?_⟩
  obtain ⟨t,x,ht,rfl,rfl,e⟩:=yy
  exact hs i x t σ H (e xs qa) ht p
 ·obtain rfl:i = xs.length:=by omega
  exact .inl ⟨⟨xs,qa,Nat.le_refl _⟩,hd σ H p⟩
end
end L2
namespace L2
open PySem PySem.Spec PyProof.Rows
section
variable {X:Cx} {body:List Stmt} {b0:Stmt} {suite:List Stmt} {cn n:Str} {np hpos pos:Pos} {C0:Addr} {i:Nat} {tb:(St→XK)→TS} {th:TS}
end
end L2
namespace L2
open PySem PySem.Spec PyProof.Rows
section
variable {prog:Program} {w:World} {A:Around} {E:Value→Shared→Prop} {env:Env}
variable {nm q:Str} {C N:Addr} {bs bm:List Value} {hdct:Bool} {sn:List Str} {sub:List Value} {ab:Bool} {col:Option Bool} {dd:Option Addr} {k0 k1 k2 k3 k5:Option Value} {newId:String}
end
section
variable {P:Program} {w:World} {K:PySem.W.Frag} {mg:Str→Option Value} {base:Heap} {N ps:List Str} {qual:Str} {scope:Scope} {f:Addr} {cd:Value} {A:Around} {outer:List Env} {s:Shared} {H:Hp} {E:XK}
end
section
variable {X:Cx} {pins:List (Addr × Obj)} {σ:St} {H:Hp} {s:Shared}
end
section
variable {X:Cx} {body:List Stmt} {b0:Stmt} {suite:List Stmt} {cn:Str} {np hpos pos:Pos} {C0:Addr} {tb:XK→TS} {th:TS}
end
end L2
namespace L2
open PySem PySem.Spec PyProof.Rows
structure FunD (K:PySem.W.Frag) (x qual:Str) (st:Stmt) (f:Addr) (fd:FuncData):Prop where
 ex:∃ (oc:Value) (od:Option Addr) (dV kV doc pm:Value) (an:Option Addr) (cdv ct:Value) (osl:Array (Option Value)),
  fd = PySem.W.fnOf x qual (defArgs st) (defBody st) (defScope st) dV kV doc pm an cdv ct∧K.lookup f = some ⟨oc,od,.func fd,osl⟩∧PySem.W.codeIn K cdv qual = true
 kp:PySem.W.keepIn K (.ref f) = true
section
variable {P:Program} {w:World} {K:PySem.W.Frag} {mg:Str→Option Value} {base:Heap}
theorem FunD.okX {x qual:Str} {st:Stmt} {f:Addr} {fd:FuncData} {N ps:List Str} {k:Nat} {sp:Sp} {c:Bool} (F:FunD K x qual st f fd) (S:FnScope N ps (defScope st)) (len:∀ vs H Q E,sp vs H Q E→vs.length = ps.length)
  (hbody:∀ (cdv:Value) (A:Around) (outer:List Env) (s:Shared) (H:Hp) (vs:List V) (Q:VK) (E:XK),RoomC c k (A.deeper (envOfC qual (defScope st) s.heap.objs.size f cdv))→sp vs H Q E →
   ∃ t,PSs (cxE P w K mg base N qual (defScope st) f cdv A outer s H E c) (defBody st) t∧t { nx:=fun _ H' => Q .non H',rt:=Q } (start N vs) H):FnOk P w K mg base (XC P w) (k + 1) f fd ps sp c:=by
 obtain ⟨oc,od,dV,kV,doc,pm,an,cdv,ct,osl,rfl,lk,hcd⟩:=F.ex
 exact fn_of lk hcd S len fun A outer s H vs Q E hr hsp => hbody cdv A outer s H vs Q E hr hsp
theorem bindsD {fd:FuncData} {ps:List Str} {D:Addr} {od:Obj} {items:Array Value} {n:Nat} (hf:fd.defaults = .ref D) (dl:K.lookup D = some od) (hd:od.data = .seq items n)
  (h:∀ us:List Value,us.length = ps.length→∃ k:Option (Array Value)→Sem (List (Str × Value)),bindArgs fd ⟨us,[]⟩ = seqItems? fd.defaults >>= k∧k (some items) = pure (ps.zip us)):Binds K fd ps []:=by
 intro s us KX hl
 rw [List.append_nil] at hl ⊢
 obtain ⟨k,h1,h2⟩:=h us hl
 exact BindsTo.of_defaults hf (KX D od dl) hd h1 h2
theorem funD_mk {x qual:Str} {st:Stmt} {f:Addr} {oc:Value} {od an:Option Addr} {osl:Array (Option Value)} {dV kV doc pm cdv ct:Value} (l:K.lookup f = some ⟨oc,od,.func (PySem.W.fnOf x qual (defArgs st) (defBody st) (defScope st) dV kV doc pm an cdv ct),osl⟩)
  (c:PySem.W.codeIn K cdv qual = true) (k:PySem.W.keepIn K (.ref f) = true):FunD K x qual st f (PySem.W.fnOf x qual (defArgs st) (defBody st) (defScope st) dV kV doc pm an cdv ct):=⟨⟨oc,od,dV,kV,doc,pm,an,cdv,ct,osl,rfl,l,c⟩,k⟩
end
section
variable {X:Cx}
theorem pe_fstr7 {a b c d:Str} {e1 e2 e3:Expr} {t1 t2 t3:TE} {p1 p2 p3 p4 p5 p6 p7 p8:Pos} {k1 k2 k3 k4:Nat} (ha:a.length≤1000) (hb:b.length≤1000) (hc:c.length≤1000) (hd:d.length≤1000) (he1:PE X e1 t1) (he2:PE X e2 t2) (he3:PE X e3 t3) :
  PE X (.JoinedStr [.Constant (.str a) k1 p1,.FormattedValue e1 (-1) none p2,.Constant (.str b) k2 p3,.FormattedValue e2 (-1) none p4,.Constant (.str c) k3 p5,.FormattedValue e3 (-1) none p6,.Constant (.str d) k4 p7] p8) (fun σ H Q => t1 σ H fun x H1 => Fmt x∧t2 σ H1 fun y H2 => Fmt y∧t3 σ H2 fun u H3 => Fmt u∧∀ z,Q (.str z) H3):=by
 intro pins s σ H Q I h
 refine JoinedStr_many (joinParts_cons (Calls.Constant_str ?_))
 have hz:(12000:Nat)≤sizeLine:=by decide
 have l0:(Str.empty ++ a).length≤1000:=by rw [strLen_append]; show 0 + a.length≤1000; omega
 refine ⟨Nat.le_trans l0 (by decide),joinParts_cons (FormattedValue_plain (thn (he1 pins _ σ H _ (I.tok _) h) fun v s1 ⟨x,H1,I1,r1,F1,q1⟩ => ?_))⟩
 refine fmt_ok r1 F1 fun y t tk ly => ?_
 have m1:=strLen_append (Str.empty ++ a) y
 refine ⟨by omega,joinParts_cons (Calls.Constant_str ?_)⟩
 have m2:=strLen_append (Str.empty ++ a ++ y) b
 refine ⟨by omega,joinParts_cons (FormattedValue_plain (thn (he2 pins _ σ H1 _ ((I1.tok _).tok _) q1) fun v s2 ⟨x2,H2,I2,r2,F2,q2⟩ => ?_))⟩
 refine fmt_ok r2 F2 fun y2 t2 tk2 ly2 => ?_
 have m3:=strLen_append (Str.empty ++ a ++ y ++ b) y2
 refine ⟨by omega,joinParts_cons (Calls.Constant_str ?_)⟩
 have m4:=strLen_append (Str.empty ++ a ++ y ++ b ++ y2) c
 refine ⟨by omega,joinParts_cons (FormattedValue_plain (thn (he3 pins _ σ H2 _ ((I2.tok _).tok _) q2) fun v s3 ⟨x3,H3,I3,r3,F3,q3⟩ => ?_))⟩
 refine fmt_ok r3 F3 fun y3 t3 tk3 ly3 => ?_
 have m5:=strLen_append (Str.empty ++ a ++ y ++ b ++ y2 ++ c) y3
 refine ⟨by omega,joinParts_cons (Calls.Constant_str ?_)⟩
 have m6:=strLen_append (Str.empty ++ a ++ y ++ b ++ y2 ++ c ++ y3) d
 exact ⟨by omega,joinParts_nil ⟨.str _,H3,((I3.tok _).tok _),⟨_,rfl⟩,q3 _⟩ (by omega)⟩
end
section
variable {X:Cx}
end
end L2
set_option maxHeartbeats 4000000
namespace L2
open PySem Builtin Builtin.Str
section
variable {X:Cx}
end
end L2
namespace TS
open PySem PyProof.Rows L2
def kLt:L2.Key→L2.Key→Bool
 | .inl a,.inl b => decide (a < b)
 | .inr a,.inr b => decide (a.cps.toList < b.cps.toList)
 | .inl _,.inr _ => true
 | .inr _,.inl _ => false
def lx:List L2.Key→List L2.Key→Bool
 | [],[] => false
 | [],_ :: _ => true
 | _ :: _,[] => false
 | a :: r,b :: q => if a = b then lx r q else kLt a b
theorem kLt_irr (a:L2.Key):kLt a a = false:=by
 cases a with
 | inl n => exact decide_eq_false (Int.lt_irrefl n)
 | inr x => exact decide_eq_false (List.lt_irrefl _)
theorem kLt_trans {a b c:L2.Key} (h1:kLt a b = true) (h2:kLt b c = true):kLt a c = true:=by
 cases a with
 | inl n => cases b with
  | inl m => cases c with
   | inl k => exact decide_eq_true (Int.lt_trans (of_decide_eq_true h1) (of_decide_eq_true h2))
   | inr k => rfl
  | inr m => cases c with
   | inl k => cases h2
   | inr k => rfl
 | inr n => cases b with
  | inl m => cases h1
  | inr m => cases c with
   | inl k => cases h2
   | inr k => exact decide_eq_true (List.lt_trans (of_decide_eq_true h1) (of_decide_eq_true h2))
theorem str_of_cps {x y:Str} (h:x.cps.toList = y.cps.toList):x = y:=Str.ext' (Array.toList_inj.mp h)
theorem kLt_tot {a b:L2.Key} (h1:kLt a b = false) (h2:kLt b a = false):a = b:=by
 cases a with
 | inl n => cases b with
  | inl m =>
   have:=of_decide_eq_false h1
   have:=of_decide_eq_false h2
   congr 1; omega
  | inr m => cases h1
 | inr n => cases b with
  | inl m => cases h2
  | inr m => exact congrArg Sum.inr (str_of_cps (List.le_antisymm (List.not_lt.mp (of_decide_eq_false h2)) (List.not_lt.mp (of_decide_eq_false h1))))
theorem kLt_ne {a b:L2.Key} (h:kLt a b = true):a≠b:=fun e => by rw [e,kLt_irr] at h; cases h
theorem lx_irr:∀ a:List L2.Key,lx a a = false
 | [] => rfl
 | a :: r => by unfold lx; rw [if_pos rfl]; exact lx_irr r
theorem lx_tot:∀ {a b:List L2.Key},lx a b = false→lx b a = false→a = b
 | [],[],_,_ => rfl
 | [],_ :: _,h,_ => by cases h
 | _ :: _,[],_,h => by cases h
 | a :: r,b :: q,h1,h2 => by
  unfold lx at h1 h2
  by_cases e:a = b
  ·rw [if_pos e] at h1
   rw [if_pos e.symm] at h2
   rw [e,lx_tot h1 h2]
  ·rw [if_neg e] at h1
   rw [if_neg (fun z => e z.symm)] at h2
   exact absurd (kLt_tot h1 h2) e
theorem lx_trans:∀ {a b c:List L2.Key},lx a b = true→lx b c = true→lx a c = true
 | [],[],_,h,_ => by cases h
 | [],_ :: _,[],_,h => by cases h
 | [],_ :: _,_ :: _,_,_ => rfl
 | _ :: _,[],_,h,_ => by cases h
 | _ :: _,_ :: _,[],_,h => by cases h
 | a :: r,b :: q,c :: p,h1,h2 => by
  unfold lx at h1 h2 ⊢
  by_cases e1:a = b
  ·subst e1
   rw [if_pos rfl] at h1
   by_cases e2:a = c
   ·rw [if_pos e2] at h2 ⊢; exact lx_trans h1 h2
   ·rw [if_neg e2] at h2 ⊢; exact h2
  ·rw [if_neg e1] at h1
   by_cases e2:b = c
   ·subst e2; rw [if_neg e1]; exact h1
   ·rw [if_neg e2] at h2
    have h3:=kLt_trans h1 h2
    rw [if_neg (kLt_ne h3)]; exact h3
theorem lx_neg {a b c:List L2.Key} (h:lx a c = true):lx a b = true∨lx b c = true:=by
 cases h1:lx a b
 ·right
  cases h2:lx b a
  ·rw [← lx_tot h1 h2]; exact h
  ·exact lx_trans h2 h
 ·exact .inl rfl
def kind (kc:Value→List L2.Key):KeyKind where
 α:=List L2.Key
 blt:=lx
 irrefl:=lx_irr
 trans:=fun _ _ _ => lx_trans
 negTrans:=fun _ _ _ => lx_neg
 total:=fun _ _ => lx_tot
 keyOf:=fun v => some (kc v)
 dflt:=[]
def KVal:L2.Key→Value→Prop
 | .inl n,v => ∃ t,v = .int n t
 | .inr x,v => ∃ t,v = .str x t
inductive KVals:List L2.Key→List Value→Prop
 | nil:KVals [] []
 | cons {k v ks vs}:KVal k v→KVals ks vs→KVals (k :: ks) (v :: vs)
def sd (ks:List L2.Key):List Bool:=ks.map Sum.isLeft
theorem keyLt_eq (f:Bool) (x y:Value):keyLt' (tuples' f) x y = (do
  let p ← Builtin.List.listItems x
  let q ← Builtin.List.listItems y
  for ((u,v),i) in (p.toList.zip q.toList).zipIdx do
   if !(← eqBool u v) then return ← oneLt' (f && i == 0) u v
  return p.size < q.size):=rfl
section
variable {prog:Program} {w:World} {A:Around} {E:Value→Shared→Prop} {s:Shared}
theorem one_int (f:Bool) {a b:Int} {t u:Tok} {Q:Bool→Shared→Prop} (h:Q (decide (a < b)) s):wpAny (model prog w) A (oneLt' f (.int a t) (.int b u)) Q E s:=by
 cases f with
 | true => exact oneLt_int h
 | false =>
  rw [oneLt'_eq]
  rw [if_neg Bool.false_ne_true]
  exact wpAny_bind (richCompare_gives (op:=.Lt) (typeIs_int s a t) (typeIs_int s b u) F.slot_int_lt F.entry_int_lt (F.args_int_lt_2 _ _) (gives_int_lt a b t u) (fun z => nomatch z) (wpAny_truthy_bool h))
theorem one_str (f:Bool) {a b:Str} {t u:Tok} {Q:Bool→Shared→Prop} (h:Q (decide (a.cps.toList < b.cps.toList)) s):wpAny (model prog w) A (oneLt' f (.str a t) (.str b u)) Q E s:=by
 cases f with
 | true => exact oneLt_str h
 | false =>
  rw [oneLt'_eq]
  rw [if_neg Bool.false_ne_true]
  exact wpAny_bind (richCompare_gives (op:=.Lt) (typeIs_str s a t) (typeIs_str s b u) F.slot_str_lt F.entry_str_lt (F.args_str_lt_2 _ _) (gives_str_lt a b t u) (fun z => nomatch z) (wpAny_truthy_bool h))
theorem eq_key {c d:L2.Key} {u v:Value} (hs:c.isLeft = d.isLeft) (hc:KVal c u) (hd:KVal d v) {Q:Bool→Shared→Prop} (h:Q (decide (c = d)) s):wpAny (model prog w) A (eqBool u v) Q E s:=by
 cases c with
 | inl n => cases d with
  | inl m =>
   obtain ⟨t,rfl⟩:=hc
   obtain ⟨t',rfl⟩:=hd
   refine wpAny_eqBool_int ?_
   rw [show (n == m) = decide ((Sum.inl n:L2.Key) = Sum.inl m) by rw [Bool.eq_iff_iff,beq_iff_eq,decide_eq_true_iff]; exact ⟨fun e => e▸rfl,fun e => Sum.inl.inj e⟩]
   exact h
  | inr m => cases hs
 | inr n => cases d with
  | inl m => cases hs
  | inr m =>
   obtain ⟨t,rfl⟩:=hc
   obtain ⟨t',rfl⟩:=hd
   refine wpAny_eqBool_str ?_
   rw [show decide (n = m) = decide ((Sum.inr n:L2.Key) = Sum.inr m) by rw [Bool.eq_iff_iff,decide_eq_true_iff,decide_eq_true_iff]; exact ⟨fun e => e▸rfl,fun e => Sum.inr.inj e⟩]
   exact h
theorem one_key (f:Bool) {c d:L2.Key} {u v:Value} (hs:c.isLeft = d.isLeft) (hc:KVal c u) (hd:KVal d v) {Q:Bool→Shared→Prop} (h:Q (kLt c d) s):wpAny (model prog w) A (oneLt' f u v) Q E s:=by
 cases c with
 | inl n => cases d with
  | inl m =>
   obtain ⟨t,rfl⟩:=hc
   obtain ⟨t',rfl⟩:=hd
   exact one_int f h
  | inr m => cases hs
 | inr n => cases d with
  | inl m => cases hs
  | inr m =>
   obtain ⟨t,rfl⟩:=hc
   obtain ⟨t',rfl⟩:=hd
   exact one_str f h
theorem key_loop (f:Bool):∀ {cs ds:List L2.Key} {ps qs:List Value} (k:Nat),sd cs = sd ds→KVals cs ps→KVals ds qs→∀ {R:Option Bool × Unit→Shared→Prop},(cs≠ds→R (some (lx cs ds),()) s)→(cs = ds→R (none,()) s) →
  wpAny (model prog w) A (forIn ((ps.zip qs).zipIdx k) ((none,()):Option Bool × Unit) fun x _ =>
   match x with
   | ((u,v),i) => do
    let r ← eqBool u v
    if (!r) = true then do
      let r ← oneLt' (f && i == 0) u v
      pure (ForInStep.done (some r,()))
     else pure (ForInStep.yield (none,()))) R E s
 | [],[],_,_,k,_,.nil,.nil,R,_,h => by
  show wpAny _ _ (forIn [] _ _) _ _ _
  rw [List.forIn_nil]; exact wpAny_pure (h rfl)
 | [],_ :: _,_,_,_,hs,_,_,_,_,_ => by cases hs
 | _ :: _,[],_,_,_,hs,_,_,_,_,_ => by cases hs
 | c :: cs,d :: ds,_,_,k,hs,.cons hc hcs,.cons hd hds,R,h1,h2 => by
  obtain ⟨e1,e2⟩:=List.cons.inj hs
  rw [List.zip_cons_cons,List.zipIdx_cons,List.forIn_cons]
  refine wpAny_bind (wpAny_bind (eq_key e1 hc hd ?_))
  by_cases e:c = d
  ·rw [decide_eq_true e]
   refine wpAny_pure (key_loop f (k + 1) e2 hcs hds (fun n => ?_) fun z => h2 (by rw [e,z]))
   have:=h1 (fun z => n (List.cons.inj z).2)
   unfold lx at this
   rw [if_pos e] at this
   exact this
  ·rw [decide_eq_false e]
   refine wpAny_bind (one_key _ e1 hc hd (wpAny_pure (wpAny_pure ?_)))
   have:=h1 (fun z => e (List.cons.inj z).1)
   unfold lx at this
   rw [if_neg e] at this
   exact this
theorem KVals.len {cs:List L2.Key} {ps:List Value} (h:KVals cs ps):ps.length = cs.length:=by
 induction h with
 | nil => rfl
 | cons _ _ ih => rw [List.length_cons,List.length_cons,ih]
theorem key_lt (f:Bool) {a b:Addr} {o o':Obj} {ps qs:List Value} {n m:Nat} {cs ds:List L2.Key} (ha:s.heap.get? a = some o) (hd:o.data = .seq ps.toArray n) (hb:s.heap.get? b = some o') (hd':o'.data = .seq qs.toArray m)
  (hs:sd cs = sd ds) (hc:KVals cs ps) (hq:KVals ds qs) {Q:Bool→Shared→Prop} (h:Q (lx cs ds) s):wpAny (model prog w) A (keyLt' (tuples' f) (.ref a) (.ref b)) Q E s:=by
 rw [keyLt_eq]
 refine wpAny_bind (listItems_at ha hd ?_)
 refine wpAny_bind (listItems_at hb hd' ?_)
 refine wpAny_bind (key_loop f 0 hs hc hq (fun _ => wpAny_pure h) fun e => wpAny_pure ?_)
 have l1:=hc.len
 have l2:=hq.len
 rw [e] at l1 h
 rw [lx_irr] at h
 rw [show decide (ps.toArray.size < qs.toArray.size) = false by rw [List.size_toArray,List.size_toArray]; exact decide_eq_false (by omega)]
 exact h
variable {f:Bool} {z:Array Keyed} {o:KeyKind}
def kv (o:KeyKind) (p:Keyed):o.α:=(o.keyOf p.1).getD o.dflt
def Orc (prog:Program) (w:World) (A:Around) (s:Shared) (f:Bool) (o:KeyKind) (z:Array Keyed):Prop:=∀ (E:Value→Shared→Prop) (p q:Keyed) (Q:Bool→Shared→Prop),p∈z.toList→q∈z.toList→Q (o.blt (kv o p) (kv o q)) s→wpAny (model prog w) A (keyLt' (tuples' f) p.1 q.1) Q E s
end
end TS
namespace TS
open PySem PyProof.Rows L2
section
variable {prog:Program} {w:World} {A:Around} {E:Value→Shared→Prop} {s:Shared}
theorem mapM_wp {α β:Type} {g:α→Sem β} {r:α→β} {M:Model}:∀ {l:List α} {R:List β→Shared→Prop},(∀ x∈l,∀ R:β→Shared→Prop,R (r x) s→wpAny M A (g x) R E s)→R (l.map r) s→wpAny M A (l.mapM g) R E s
 | [],R,_,h => by rw [List.mapM_nil]; exact wpAny_pure h
 | a :: l,R,f,h => by
  rw [List.mapM_cons]
  exact wpAny_bind (f a (List.mem_cons_self ..) _ (wpAny_bind (mapM_wp (fun x hx => f x (List.mem_cons_of_mem _ hx)) (wpAny_pure h))))
def TupAt (h:Heap) (v:Value) (ks:List L2.Key):Prop:=∃ a ob vs n,v = .ref a∧h.get? a = some ob∧ob.cls = .type "tuple"∧ob.data = .seq vs.toArray n∧KVals ks vs
theorem first_eq (v:Value):firstOfTuple' v = (do
  if (← typeOf v) != .type "tuple" then return none
  return (← Builtin.List.listItems v)[0]?):=rfl
theorem typ_key {k:L2.Key} {v:Value} (h:KVal k v) {R:Value→Shared→Prop} (q:R (.type (if k.isLeft then "int" else "str")) s):wpAny (model prog w) A (typeOf v) R E s:=by
 cases k with
 | inl n => obtain ⟨t,rfl⟩:=h; exact wpAny_typeOf (typeIs_int s n t) q
 | inr x => obtain ⟨t,rfl⟩:=h; exact wpAny_typeOf (typeIs_str s x t) q
theorem key_kind {kc:Value→List L2.Key} {vs:List Value} {d:List Bool} (h2:2≤vs.length) (ht:∀ v∈vs,TupAt s.heap v (kc v)) (hs:∀ v∈vs,sd (kc v) = d) (hd:d≠[]) {R:SortKind→Shared→Prop} (q:R (tuples' true) s):wpAny (model prog w) A (keyKind' vs.toArray) R E s:=by
 have fx:∃ fv:Value→Value,∀ v∈vs,∃ k r,kc v = k :: r∧k.isLeft = d.headD true∧KVal k (fv v)∧∀ R:Option Value→Shared→Prop,R (some (fv v)) s→wpAny (model prog w) A (firstOfTuple' v) R E s:=by
  have one:∀ v∈vs,∃ x:Value,∃ k r,kc v = k :: r∧k.isLeft = d.headD true∧KVal k x∧∀ R:Option Value→Shared→Prop,R (some x) s→wpAny (model prog w) A (firstOfTuple' v) R E s:=fun v hv => by
   obtain ⟨a,ob,us,n,rfl,ho,hc,hda,hk⟩:=ht v hv
   have e:=hs _ hv
   cases hkc:kc (.ref a) with
   | nil => rw [hkc] at e; exact absurd e.symm hd
   | cons k r =>
    rw [hkc] at hk e
    cases hk with
    | @cons _ x _ xs hx hxs =>
     refine ⟨x,k,r,rfl,by rw [← e]; rfl,hx,fun R hR => ?_⟩
     rw [first_eq]
     refine wpAny_bind (wpAny_typeOf (T:="tuple") ⟨ob,ho,hc⟩ ?_)
     rw [if_neg (by decide)]
     exact wpAny_bind (listItems_at ho hda (wpAny_pure hR))
  refine ⟨fun v => if hv:v∈vs then (one v hv).choose else .none,fun v hv => ?_⟩
  simp only [dif_pos hv]
  exact (one v hv).choose_spec
 obtain ⟨fv,hfv⟩:=fx
 rw [keyKind'_eq,List.mapM_toArray,← bind_pure_comp]
 refine wpAny_bind (wpAny_bind (mapM_wp (r:=fun v => some (fv v)) (fun v hv R hR => by obtain ⟨_,_,_,_,_,f⟩:=hfv v hv; exact f R hR) (wpAny_pure ?_)))
 rw [if_pos (by simp)]
 refine wpAny_bind (wpAny_rule (wpAny_bind ?_))
 rw [show (vs.map fun v => some (fv v)).toArray.filterMap id = (vs.map fv).toArray by simp [List.filterMap_map,Function.comp_def]]
 rw [oneTypeOnly'_eq,List.mapM_toArray,← bind_pure_comp]
 refine wpAny_bind (wpAny_bind (mapM_wp (r:=fun _ => Value.type (if d.headD true then "int" else "str")) (fun x hx R hR => ?_) (wpAny_pure ?_)))
 ·obtain ⟨v,hv,rfl⟩:=List.mem_map.mp hx
  obtain ⟨k,r,_,e,hk,_⟩:=hfv v hv
  rw [← e] at hR
  exact typ_key hk hR
 ·match vs,h2 with
  | a :: b :: r,_ =>
   have e0:((List.map fv (a :: b :: r)).map fun _ => Value.type (if d.headD true then "int" else "str")).toArray[0]? = some (Value.type (if d.headD true then "int" else "str")):=by simp
   rw [e0]
   have ea:(((List.map fv (a :: b :: r)).map fun _ => Value.type (if d.headD true then "int" else "str")).toArray.all fun x => x == Value.type (if d.headD true then "int" else "str")) = true:=by
    simp only [List.all_toArray,List.all_map,List.all_eq_true]
    intro _ _
    cases d.headD true <;> rfl
   show wpAny _ _ (pure (if (((List.map fv (a :: b :: r)).map fun _ => Value.type (if d.headD true then "int" else "str")).toArray.all fun x => x == Value.type (if d.headD true then "int" else "str")) = true then some (Value.type (if d.headD true then "int" else "str")) else none)) _ _ _
   rw [if_pos ea]
   refine wpAny_pure (wpAny_pure ?_)
   have en:((some (Value.type (if d.headD true then "int" else "str"))).any fun x => x != Value.type "tuple") = true:=by cases d.headD true <;> rfl
   rw [en]
   exact q
theorem TupAt.upd {h:Heap} {v:Value} {ks:List L2.Key} (t:TupAt h v ks) {a:Addr} {g:Array Value→Array Value} {ob:Obj} (ho:h.get? a = some ob) (hc:ob.cls = .type "list"):TupAt (h.update a (Obj.mapSeq g)) v ks:=by
 obtain ⟨b,o2,us,n,rfl,e,c,dt,k⟩:=t
 have ne:a≠b:=fun z => by
  rw [z,e] at ho
  cases ho
  rw [c] at hc
  exact absurd hc (by decide)
 exact ⟨b,o2,us,n,rfl,(Heap.get?_update_other _ _ ne).trans e,c,dt,k⟩
theorem TupAt.push {h:Heap} {v:Value} {ks:List L2.Key} (t:TupAt h v ks) (ob:Obj):TupAt (h.push ob) v ks:=by
 obtain ⟨b,o2,us,n,rfl,e,c,dt,k⟩:=t
 exact ⟨b,o2,us,n,rfl,Heap.get?_push_of_some _ e,c,dt,k⟩
theorem mem_pairs {vs:List Value} {p:Keyed} (h:p∈(pairsOf vs).toList):p.1 = p.2∧p.1∈vs:=mem_zip_self (pairsOf_toList vs▸h)
theorem orc_of {kc:Value→List L2.Key} {vs:List Value} {d:List Bool} (ht:∀ v∈vs,TupAt s.heap v (kc v)) (hs:∀ v∈vs,sd (kc v) = d) (f:Bool):Orc prog w A s f (kind kc) (pairsOf vs):=fun E p q Q hp hq h => by
 have m1:=(mem_pairs hp).2
 have m2:=(mem_pairs hq).2
 have h1:Q (lx (kc p.1) (kc q.1)) s:=h
 obtain ⟨a,o1,us,n,e1,ho,_,hd,hk⟩:=ht _ m1
 obtain ⟨b,o2,ws,m,e2,ho2,_,hd2,hk2⟩:=ht _ m2
 rw [e1,e2] at h1
 rw [e1] at hk
 rw [e2] at hk2
 have s1:=(hs _ m1).trans (hs _ m2).symm
 rw [e1,e2] at s1
 rw [e1,e2]
 exact key_lt f ho hd ho2 hd2 s1 hk hk2 h1
end
end TS
namespace TS
open PySem PyProof.Rows L2
def gal:Bool→Keyed→Array Keyed→Nat→Nat→Nat→StateT SortSt Sem (Option Nat):=sortPriv% PySem.Builtin.gallop
def bey (lf:Bool) (ky:Keyed) (xs:Array Keyed) (bs i:Nat):StateT SortSt Sem (Option Bool):=do
 let x ← elem' xs (bs + i)
 if lf then lt' x ky else return (← lt' ky x).map (!·)
theorem gal_eq (lf:Bool) (ky:Keyed) (xs:Array Keyed) (bs n hi0:Nat):gal lf ky xs bs n hi0 = (do
  let mut la:=0
  let mut of:=1
  let mut l:=0
  let mut h:=0
  let some r ← bey lf ky xs bs hi0 | return none
  if r then
   let mx:=n - hi0
   for _ in [0:n] do
    if of ≥ mx then break
    let some m ← bey lf ky xs bs (hi0 + of) | return none
    if !m then break
    la:=of
    of:=2 * of + 1
   l:=hi0 + la + 1
   h:=hi0 + min of mx
  else
   let mx:=hi0 + 1
   for _ in [0:n] do
    if of ≥ mx then break
    let some m ← bey lf ky xs bs (hi0 - of) | return none
    if m then break
    la:=of
    of:=2 * of + 1
   l:=hi0 + 1 - min of mx
   h:=hi0 - la
  for _ in [0:n] do
   if l ≥ h then break
   let m:=l + (h - l) / 2
   let some v ← bey lf ky xs bs m | return none
   if v then l:=m + 1 else h:=m
  return some h):=rfl
section
variable {prog:Program} {w:World} {A:Around} {E:Value→Shared→Prop} {s:Shared} {f:Bool} {z:Array Keyed} {o:KeyKind}
def galEnd (lf:Bool) (ky:Keyed) (xs:Array Keyed) (bs n l0 h0:Nat):StateT SortSt Sem (Option Nat):=do
 let mut l:=l0
 let mut h:=h0
 for _ in [0:n] do
  if l ≥ h then break
  let m:=l + (h - l) / 2
  let some v ← bey lf ky xs bs m | return none
  if v then l:=m + 1 else h:=m
 return some h
theorem galEnd_wp {st:SortSt} {lf:Bool} {ky:Keyed} {xs:Array Keyed} {bs n l0 h0:Nat} {B:Nat→Bool} {Q:Option Nat→SortSt→Prop} (hb:∀ i,i < n→∀ R:Option Bool→SortSt→Prop,R (some (B i)) st→wpS (model prog w) A E s (bey lf ky xs bs i) R st)
  (anti:∀ i j,i≤j→j < n→B j = true→B i = true) (anti2:∀ i j,i≤j→j < n→B i = false→B j = false) (lh:l0≤h0) (hn:h0≤n) (bl:∀ i,i < l0→B i = true) (bh:∀ i,h0≤i→i < n→B i = false)
  (q:∀ k,k≤n→(∀ i,i < k→B i = true)→(∀ i,k≤i→i < n→B i = false)→Q (some k) st):wpS (model prog w) A E s (galEnd lf ky xs bs n l0 h0) Q st:=by
 refine wpS_bind (wpS_mono (wpS_forRange (I:=fun i c y => y = st∧∃ l h,c = (none,l,h)∧l≤h∧h≤n∧h - l≤n - i∧(∀ g,g < l→B g = true)∧∀ g,h≤g→g < n→B g = false) (Q:=fun c y => y = st∧∃ h,c = (none,h,h)∧h≤n∧(∀ g,g < h→B g = true)∧∀ g,h≤g→g < n→B g = false) (fun i c y i1 i2 hy => ?_) (fun c y hy => ?_) ⟨rfl,l0,h0,rfl,lh,hn,by omega,bl,bh⟩) fun c y hy => ?_)
 ·obtain ⟨rfl,l,h,rfl,h1,h2,h3,h4,h5⟩:=hy
  show wpS _ _ _ _ (if l ≥ h then _ else _) _ _
  rcases Nat.lt_or_ge l h with hlh | hlh
  ·rw [if_neg (by omega)]
   have hm:l + (h - l) / 2 < n:=by omega
   refine wpS_bind (hb _ hm _ ?_)
   show wpS _ _ _ _ (if B (l + (h - l) / 2) = true then _ else _) _ _
   cases hv:B (l + (h - l) / 2) with
   | true => rw [if_pos rfl]; exact wpS_pure ⟨rfl,l + (h - l) / 2 + 1,h,rfl,by omega,h2,by omega,fun g hg => anti g (l + (h - l) / 2) (by omega) hm hv,h5⟩
   | false => rw [if_neg Bool.false_ne_true]; exact wpS_pure ⟨rfl,l,l + (h - l) / 2,rfl,by omega,by omega,by omega,h4,fun g g1 g2 => anti2 _ g g1 g2 hv⟩
  ·rw [if_pos hlh]
   obtain rfl:l = h:=by omega
   exact wpS_pure ⟨rfl,l,rfl,h2,h4,h5⟩
 ·obtain ⟨rfl,l,h,rfl,h1,h2,h3,h4,h5⟩:=hy
  obtain rfl:l = h:=by omega
  exact ⟨rfl,l,rfl,h2,h4,h5⟩
 ·obtain ⟨rfl,h,rfl,h2,h4,h5⟩:=hy
  exact wpS_pure (q h h2 h4 h5)
theorem gal_wp {st:SortSt} {lf:Bool} {ky:Keyed} {xs:Array Keyed} {bs n hi0:Nat} {B:Nat→Bool} {Q:Option Nat→SortSt→Prop} (hb:∀ i,i < n→∀ R:Option Bool→SortSt→Prop,R (some (B i)) st→wpS (model prog w) A E s (bey lf ky xs bs i) R st)
  (anti:∀ i j,i≤j→j < n→B j = true→B i = true) (hh:hi0 < n) (q:∀ k,k≤n→(∀ i,i < k→B i = true)→(∀ i,k≤i→i < n→B i = false)→Q (some k) st):wpS (model prog w) A E s (gal lf ky xs bs n hi0) Q st:=by
 have anti2:∀ i j,i≤j→j < n→B i = false→B j = false:=fun i j hij hj hi => by
  cases hj2:B j with
  | false => rfl
  | true => rw [anti i j hij hj hj2] at hi; cases hi
 rw [gal_eq]
 refine wpS_bind (hb hi0 hh _ ?_)
 cases hr:B hi0 with
 | true =>
  refine wpS_bind (wpS_mono (wpS_forRange (I:=fun i c y => y = st∧∃ la k,c = (none,la,k)∧la < k∧i + 1≤k∧(hi0 + la < n→B (hi0 + la) = true)∧hi0 + la < n) (Q:=fun c y => y = st∧∃ la k,c = (none,la,k)∧la < k∧hi0 + la < n∧B (hi0 + la) = true∧(n - hi0≤k∨(hi0 + k < n∧B (hi0 + k) = false))) (fun i c y i1 i2 hy => ?_) (fun c y hy => ?_) ⟨rfl,0,1,rfl,by omega,by omega,fun _ => hr,by omega⟩) fun c y hy => ?_)
  ·obtain ⟨rfl,la,k,rfl,h1,h2,h3,h4⟩:=hy
   show wpS _ _ _ _ (if k ≥ n - hi0 then _ else _) _ _
   rcases Nat.lt_or_ge k (n - hi0) with hk | hk
   ·rw [if_neg (by omega)]
    refine wpS_bind (hb (hi0 + k) (by omega) _ ?_)
    show wpS _ _ _ _ (if (!B (hi0 + k)) = true then _ else _) _ _
    cases hv:B (hi0 + k) with
    | true => exact wpS_pure ⟨rfl,k,2 * k + 1,rfl,by omega,by omega,fun _ => hv,by omega⟩
    | false => exact wpS_pure ⟨rfl,la,k,rfl,h1,h4,h3 h4,.inr ⟨by omega,hv⟩⟩
   ·rw [if_pos hk]
    exact wpS_pure ⟨rfl,la,k,rfl,h1,h4,h3 h4,.inl hk⟩
  ·obtain ⟨rfl,la,k,rfl,h1,h2,h3,h4⟩:=hy
   exact ⟨rfl,la,k,rfl,h1,h4,h3 h4,.inl (by omega)⟩
  ·obtain ⟨rfl,la,k,rfl,h1,h4,h3,h5⟩:=hy
   refine galEnd_wp (l0:=hi0 + la + 1) (h0:=hi0 + min k (n - hi0)) hb anti anti2 ?_ ?_ (fun i hi => anti i _ (by omega) h4 h3) (fun i h6 h7 => ?_) q
   ·rcases h5 with h5 | h5
    ·rw [Nat.min_eq_right h5]; omega
    ·rw [Nat.min_eq_left (by omega)]; omega
   ·omega
   ·rcases h5 with h5 | h5
    ·rw [Nat.min_eq_right h5] at h6; omega
    ·rw [Nat.min_eq_left (by omega)] at h6; exact anti2 _ i h6 h7 h5.2
 | false =>
  refine wpS_bind (wpS_mono (wpS_forRange (I:=fun i c y => y = st∧∃ la k,c = (none,la,k)∧la < k∧i + 1≤k∧la≤hi0∧B (hi0 - la) = false) (Q:=fun c y => y = st∧∃ la k,c = (none,la,k)∧la < k∧la≤hi0∧B (hi0 - la) = false∧(hi0 + 1≤k∨(k≤hi0∧B (hi0 - k) = true))) (fun i c y i1 i2 hy => ?_) (fun c y hy => ?_) ⟨rfl,0,1,rfl,by omega,by omega,by omega,hr⟩) fun c y hy => ?_)
  ·obtain ⟨rfl,la,k,rfl,h1,h2,h3,h4⟩:=hy
   show wpS _ _ _ _ (if k ≥ hi0 + 1 then _ else _) _ _
   rcases Nat.lt_or_ge k (hi0 + 1) with hk | hk
   ·rw [if_neg (by omega)]
    refine wpS_bind (hb (hi0 - k) (by omega) _ ?_)
    show wpS _ _ _ _ (if B (hi0 - k) = true then _ else _) _ _
    cases hv:B (hi0 - k) with
    | true => rw [if_pos rfl]; exact wpS_pure ⟨rfl,la,k,rfl,h1,h3,h4,.inr ⟨by omega,hv⟩⟩
    | false => rw [if_neg Bool.false_ne_true]; exact wpS_pure ⟨rfl,k,2 * k + 1,rfl,by omega,by omega,by omega,hv⟩
   ·rw [if_pos hk]
    exact wpS_pure ⟨rfl,la,k,rfl,h1,h3,h4,.inl hk⟩
  ·obtain ⟨rfl,la,k,rfl,h1,h2,h3,h4⟩:=hy
   exact ⟨rfl,la,k,rfl,h1,h3,h4,.inl (by omega)⟩
  ·obtain ⟨rfl,la,k,rfl,h1,h3,h4,h5⟩:=hy
   refine galEnd_wp (l0:=hi0 + 1 - min k (hi0 + 1)) (h0:=hi0 - la) hb anti anti2 ?_ (by omega) (fun i hi => ?_) (fun i h6 h7 => anti2 _ i h6 h7 h4) q
   ·rcases h5 with h5 | h5
    ·rw [Nat.min_eq_right h5]; omega
    ·rw [Nat.min_eq_left (by omega)]; omega
   ·rcases h5 with h5 | h5
    ·rw [Nat.min_eq_right h5] at hi; omega
    ·rw [Nat.min_eq_left (by omega)] at hi; exact anti i (hi0 - k) (by omega) (by omega) h5.2
end
end TS
namespace TS
open PySem PyProof.Rows L2
def mLo:Array Keyed→Array Keyed→StateT SortSt Sem (Array Keyed):=sortPriv% PySem.Builtin.mergeLo
def mHi:Array Keyed→Array Keyed→StateT SortSt Sem (Array Keyed):=sortPriv% PySem.Builtin.mergeHi
def sMin:Nat→StateT SortSt Sem Unit:=sortPriv% PySem.Builtin.setMinGallop
def dnA (a b out:Array Keyed) (i j:Nat):Array Keyed:=out ++ a.extract i a.size ++ b.extract j b.size
def dnB (a b out:Array Keyed) (i j:Nat):Array Keyed:=out ++ b.extract j b.size ++ a.extract i a.size
theorem mLo_eq (a b:Array Keyed):mLo a b = (do
  liftM (rule "list.sort.merge-lo")
  let tt:=a.size + b.size
  let mut out:Array Keyed:=#[← elem' b 0]
  let mut i:=0
  let mut j:=1
  if j == b.size then return dnA a b out i j
  if i + 1 == a.size then return dnB a b out i j
  let mut mg:=gallopOf (← get)
  for _ in [0:tt] do
   let mut ca:=0
   let mut cb:=0
   for _ in [0:tt] do
    let some bw ← lt' (← elem' b j) (← elem' a i) | return dnA a b out i j
    if bw then
     out:=out.push (← elem' b j); j:=j + 1; cb:=cb + 1; ca:=0
     if j == b.size then return dnA a b out i j
     if cb ≥ mg then break
    else
     out:=out.push (← elem' a i); i:=i + 1; ca:=ca + 1; cb:=0
     if i + 1 == a.size then return dnB a b out i j
     if ca ≥ mg then break
   liftM (rule "list.sort.gallop")
   mg:=mg + 1
   for _ in [0:tt] do
    if mg > 1 then mg:=mg - 1
    sMin mg
    let some k ← gal false (← elem' b j) a i (a.size - i) 0 | return dnA a b out i j
    ca:=k
    if k > 0 then
     out:=out ++ a.extract i (i + k); i:=i + k
     if i + 1 == a.size then return dnB a b out i j
     if i == a.size then return dnA a b out i j
    out:=out.push (← elem' b j); j:=j + 1
    if j == b.size then return dnA a b out i j
    let some k ← gal true (← elem' a i) b j (b.size - j) 0 | return dnA a b out i j
    cb:=k
    if k > 0 then
     out:=out ++ b.extract j (j + k); j:=j + k
     if j == b.size then return dnA a b out i j
    out:=out.push (← elem' a i); i:=i + 1
    if i + 1 == a.size then return dnB a b out i j
    if ca < 7 && cb < 7 then break
   mg:=mg + 1
   sMin mg
  unsupported "internal:list.sort.merge-bound"):=rfl
section
variable {prog:Program} {w:World} {A:Around} {E:Value→Shared→Prop} {s:Shared} {f:Bool} {z:Array Keyed} {o:KeyKind}
structure Sm (x y:SortSt):Prop where
 ar:arrOf y = arrOf x
 kd:kindOf y = kindOf x
 fl:failedOf y = failedOf x
 pd:pendingOf y = pendingOf x
theorem Sm.refl (x:SortSt):Sm x x:=⟨rfl,rfl,rfl,rfl⟩
def le2 (o:KeyKind) (p q:Keyed):Prop:=o.kle (kv o p) (kv o q)
def Up (o:KeyKind) (l:List Keyed):Prop:=l.Pairwise (le2 o)
theorem le2_trans {p q r:Keyed} (h1:le2 o p q) (h2:le2 o q r):le2 o p r:=KeyOrd.kle_trans h1 h2
theorem lt_wp {st:SortSt} {p q:Keyed} {Q:Option Bool→SortSt→Prop} (O:Orc prog w A s f o z) (kd:kindOf st = tuples' f) (hp:p∈z.toList) (hq:q∈z.toList) (h:Q (some (o.blt (kv o p) (kv o q))) st):wpS (model prog w) A E s (lt' p q) Q st:=by
 rw [lt'_eq]
 refine wpS_bind (wpS_get ?_)
 rw [kd]
 exact wpS_bind (wpS_lift (wpAny_attempt (O _ p q _ hp hq ⟨rfl,wpS_pure h⟩)))
theorem el_wp {st:SortSt} {xs:Array Keyed} {i:Nat} {Q:Keyed→SortSt→Prop} (hi:i < xs.size) (h:Q xs[i] st):wpS (model prog w) A E s (elem' xs i) Q st:=by
 rw [elem'_eq,getElem?_pos xs i hi]
 exact wpS_pure h
theorem mem_at {xs:Array Keyed} {i:Nat} (hi:i < xs.size):xs[i]∈xs.toList:=Array.getElem_mem_toList hi
theorem Up.at_ {xs:Array Keyed} (u:Up o xs.toList) {i j:Nat} (hij:i≤j) (hj:j < xs.size):le2 o (xs[i]'(Nat.lt_of_le_of_lt hij hj)) xs[j]:=by
 rcases Nat.lt_or_ge i j with h | h
 ·have:=(List.pairwise_iff_getElem.mp u) i j (by simpa using Nat.lt_of_le_of_lt hij hj) (by simpa using hj) h
  simpa using this
 ·obtain rfl:i = j:=by omega
  exact KeyOrd.kle_refl _
theorem gal_left {st:SortSt} {ky:Keyed} {xs:Array Keyed} {bs n h0:Nat} {Q:Option Nat→SortSt→Prop} (O:Orc prog w A s f o z) (kd:kindOf st = tuples' f) (hx:∀ p∈xs.toList,p∈z.toList) (hk:ky∈z.toList) (hn:bs + n≤xs.size) (hh:h0 < n) (up:∀ i j (hij:i≤j) (hj:bs + j < xs.size),j < n→le2 o (xs[bs + i]'(by omega)) xs[bs + j])
  (q:∀ k,k≤n→(∀ i (hi:bs + i < xs.size),i < k→o.klt (kv o xs[bs + i]) (kv o ky))→(∀ i (hi:bs + i < xs.size),k≤i→i < n→le2 o ky xs[bs + i])→Q (some k) st):wpS (model prog w) A E s (gal true ky xs bs n h0) Q st:=by
 refine gal_wp (B:=fun i => if hi:bs + i < xs.size then o.blt (kv o xs[bs + i]) (kv o ky) else false) (fun i hi R hR => ?_) (fun i j hij hj h => ?_) hh fun k hk1 h1 h2 => q k hk1 (fun i hi hik => ?_) (fun i hi hik hin => ?_)
 ·rw [dif_pos (by omega)] at hR
  refine wpS_bind (el_wp (by omega) ?_)
  rw [if_pos rfl]
  exact lt_wp O kd (hx _ (mem_at _)) hk hR
 ·have hj2:bs + j < xs.size:=by omega
  have hi2:bs + i < xs.size:=by omega
  simp only [dif_pos hj2,dif_pos hi2] at h ⊢
  exact KeyOrd.klt_of_kle_of_klt (up i j hij hj2 hj) h
 ·have:=h1 i hik
  rw [dif_pos hi] at this
  exact this
 ·have:=h2 i hik hin
  rw [dif_pos hi] at this
  exact this
theorem gal_right {st:SortSt} {ky:Keyed} {xs:Array Keyed} {bs n h0:Nat} {Q:Option Nat→SortSt→Prop} (O:Orc prog w A s f o z) (kd:kindOf st = tuples' f) (hx:∀ p∈xs.toList,p∈z.toList) (hk:ky∈z.toList) (hn:bs + n≤xs.size) (hh:h0 < n) (up:∀ i j (hij:i≤j) (hj:bs + j < xs.size),j < n→le2 o (xs[bs + i]'(by omega)) xs[bs + j])
  (q:∀ k,k≤n→(∀ i (hi:bs + i < xs.size),i < k→le2 o xs[bs + i] ky)→(∀ i (hi:bs + i < xs.size),k≤i→i < n→o.klt (kv o ky) (kv o xs[bs + i]))→Q (some k) st):wpS (model prog w) A E s (gal false ky xs bs n h0) Q st:=by
 refine gal_wp (B:=fun i => if hi:bs + i < xs.size then !o.blt (kv o ky) (kv o xs[bs + i]) else false) (fun i hi R hR => ?_) (fun i j hij hj h => ?_) hh fun k hk1 h1 h2 => q k hk1 (fun i hi hik => ?_) (fun i hi hik hin => ?_)
 ·rw [dif_pos (by omega)] at hR
  refine wpS_bind (el_wp (by omega) ?_)
  rw [if_neg Bool.false_ne_true]
  exact wpS_bind (lt_wp O kd hk (hx _ (mem_at _)) (wpS_pure hR))
 ·have hj2:bs + j < xs.size:=by omega
  have hi2:bs + i < xs.size:=by omega
  simp only [dif_pos hj2,dif_pos hi2,Bool.not_eq_true'] at h ⊢
  exact KeyOrd.kle_trans (up i j hij hj2 hj) h
 ·have:=h1 i hik
  rw [dif_pos hi,Bool.not_eq_true'] at this
  exact this
 ·have:=h2 i hik hin
  rw [dif_pos hi,Bool.not_eq_false'] at this
  exact this
structure ML (o:KeyKind) (a b out:Array Keyed) (i j:Nat):Prop where
 pm:(out.toList ++ (a.toList.drop i ++ b.toList.drop j)).Perm (a.toList ++ b.toList)
 up:Up o out.toList
 le:∀ p∈out.toList,∀ q∈a.toList.drop i ++ b.toList.drop j,le2 o p q
theorem ML.mvA {a b out:Array Keyed} {i j k:Nat} (m:ML o a b out i j) (ua:Up o a.toList) (hk:i + k≤a.size) (h:∀ p∈(a.toList.drop i).take k,∀ q∈b.toList.drop j,le2 o p q):ML o a b (out ++ a.extract i (i + k)) (i + k) j:=by
 have e:(out ++ a.extract i (i + k)).toList = out.toList ++ (a.toList.drop i).take k:=by
  rw [Array.toList_append,Array.toList_extract,List.extract_eq_drop_take,Nat.add_sub_cancel_left]
 have e2:a.toList.drop i = (a.toList.drop i).take k ++ a.toList.drop (i + k):=by rw [← List.drop_drop,List.take_append_drop]
 have ud:Up o (a.toList.drop i):=ua.drop
 refine ⟨?_,?_,?_⟩
 ·rw [e,List.append_assoc,← List.append_assoc (List.take _ _),← e2]; exact m.pm
 ·rw [e]
  refine List.pairwise_append.mpr ⟨m.up,ud.take,fun p hp q hq => m.le p hp q (List.mem_append_left _ (List.mem_of_mem_take hq))⟩
 ·rw [e]
  intro p hp q hq
  rcases List.mem_append.mp hp with hp | hp
  ·rcases List.mem_append.mp hq with hq | hq
   ·exact m.le p hp q (List.mem_append_left _ (by rw [e2]; exact List.mem_append_right _ hq))
   ·exact m.le p hp q (List.mem_append_right _ hq)
  ·rcases List.mem_append.mp hq with hq | hq
   ·rw [e2] at ud
    exact (List.pairwise_append.mp ud).2.2 p hp q hq
   ·exact h p hp q hq
theorem ML.mvB {a b out:Array Keyed} {i j k:Nat} (m:ML o a b out i j) (ub:Up o b.toList) (hk:j + k≤b.size) (h:∀ p∈(b.toList.drop j).take k,∀ q∈a.toList.drop i,le2 o p q):ML o a b (out ++ b.extract j (j + k)) i (j + k):=by
 have e:(out ++ b.extract j (j + k)).toList = out.toList ++ (b.toList.drop j).take k:=by
  rw [Array.toList_append,Array.toList_extract,List.extract_eq_drop_take,Nat.add_sub_cancel_left]
 have e2:b.toList.drop j = (b.toList.drop j).take k ++ b.toList.drop (j + k):=by rw [← List.drop_drop,List.take_append_drop]
 have ud:Up o (b.toList.drop j):=ub.drop
 refine ⟨?_,?_,?_⟩
 ·rw [e]
  refine List.Perm.trans ?_ m.pm
  rw [List.append_assoc]
  refine List.Perm.append_left _ ?_
  conv => rhs; rw [e2]
  exact (List.perm_append_comm_assoc _ _ _)
 ·rw [e]
  refine List.pairwise_append.mpr ⟨m.up,ud.take,fun p hp q hq => m.le p hp q (List.mem_append_right _ (List.mem_of_mem_take hq))⟩
 ·rw [e]
  intro p hp q hq
  rcases List.mem_append.mp hp with hp | hp
  ·rcases List.mem_append.mp hq with hq | hq
   ·exact m.le p hp q (List.mem_append_left _ hq)
   ·exact m.le p hp q (List.mem_append_right _ (by rw [e2]; exact List.mem_append_right _ hq))
  ·rcases List.mem_append.mp hq with hq | hq
   ·exact h p hp q hq
   ·rw [e2] at ud
    exact (List.pairwise_append.mp ud).2.2 p hp q hq
theorem ext1 {xs:Array Keyed} {i:Nat} (hi:i < xs.size):xs.extract i (i + 1) = #[xs[i]]:=by
 apply Array.toList_inj.mp
 rw [Array.toList_extract,List.extract_eq_drop_take,Nat.add_sub_cancel_left,List.drop_eq_getElem_cons (by simpa using hi)]
 simp
theorem push_ext {out xs:Array Keyed} {i:Nat} (hi:i < xs.size):out.push xs[i] = out ++ xs.extract i (i + 1):=by
 rw [ext1 hi,Array.push_eq_append]
theorem mem_drop {xs:Array Keyed} {i:Nat} {p:Keyed} (h:p∈xs.toList.drop i):∃ k,∃ hk:i + k < xs.size,p = xs[i + k]:=by
 obtain ⟨k,hk,e⟩:=List.mem_iff_getElem.mp h
 rw [List.length_drop,Array.length_toList] at hk
 refine ⟨k,by omega,?_⟩
 rw [← e,List.getElem_drop,Array.getElem_toList]
theorem mem_tk {xs:Array Keyed} {i n:Nat} {p:Keyed} (h:p∈(xs.toList.drop i).take n):∃ k,∃ hk:i + k < xs.size,k < n∧p = xs[i + k]:=by
 obtain ⟨k,hk,e⟩:=List.mem_iff_getElem.mp h
 rw [List.length_take,List.length_drop,Array.length_toList] at hk
 refine ⟨k,by omega,by omega,?_⟩
 rw [← e,List.getElem_take,List.getElem_drop,Array.getElem_toList]
structure Mg (o:KeyKind) (a b m:Array Keyed):Prop where
 pm:m.toList.Perm (a.toList ++ b.toList)
 up:Up o m.toList
theorem ML.endA {a b out:Array Keyed} {i j:Nat} (m:ML o a b out i j) (ua:Up o a.toList) (ub:Up o b.toList) (h:j = b.size∨i = a.size):Mg o a b (dnA a b out i j):=by
 have e:(dnA a b out i j).toList = out.toList ++ (a.toList.drop i ++ b.toList.drop j):=by
  unfold dnA
  rw [Array.toList_append,Array.toList_append,Array.toList_extract,Array.toList_extract,List.extract_eq_drop_take,List.extract_eq_drop_take,List.append_assoc]
  congr 2 <;> exact List.take_of_length_le (by simp)
 have z0:a.toList.drop i = []∨b.toList.drop j = []:=by
  rcases h with h | h
  ·exact .inr (List.drop_eq_nil_of_le (by simp [h]))
  ·exact .inl (List.drop_eq_nil_of_le (by simp [h]))
 refine ⟨by rw [e]; exact m.pm,?_⟩
 rw [e]
 refine List.pairwise_append.mpr ⟨m.up,?_,m.le⟩
 rcases z0 with z0 | z0 <;> rw [z0]
 ·exact ub.drop
 ·rw [List.append_nil]; exact ua.drop
theorem ML.endB {a b out:Array Keyed} {i j:Nat} (m:ML o a b out i j) (ub:Up o b.toList) (h:i + 1 = a.size) (hl:∀ p∈b.toList,∀ hi:i < a.size,le2 o p a[i]):Mg o a b (dnB a b out i j):=by
 have hi:i < a.size:=by omega
 have e1:a.toList.drop i = [a[i]]:=by
  rw [List.drop_eq_getElem_cons (by simpa using hi),List.drop_eq_nil_of_le (by simp; omega)]; simp
 have e:(dnB a b out i j).toList = out.toList ++ (b.toList.drop j ++ a.toList.drop i):=by
  unfold dnB
  rw [Array.toList_append,Array.toList_append,Array.toList_extract,Array.toList_extract,List.extract_eq_drop_take,List.extract_eq_drop_take,List.append_assoc]
  congr 2 <;> exact List.take_of_length_le (by simp)
 refine ⟨?_,?_⟩
 ·rw [e]
  exact List.Perm.trans (List.Perm.append_left _ List.perm_append_comm) m.pm
 ·rw [e]
  refine List.pairwise_append.mpr ⟨m.up,List.pairwise_append.mpr ⟨ub.drop,by rw [e1]; exact List.pairwise_singleton _ _,fun p hp q hq => ?_⟩,fun p hp q hq => m.le p hp q ?_⟩
  ·rw [e1,List.mem_singleton] at hq
   rw [hq]
   exact hl p (List.mem_of_mem_drop hp) hi
  ·rcases List.mem_append.mp hq with hq | hq
   ·exact List.mem_append_right _ hq
   ·exact List.mem_append_left _ hq
end
end TS
namespace TS
open PySem PyProof.Rows L2
abbrev LS:=Option (Array Keyed) × Array Keyed × Nat × Nat × Nat × Nat × Nat
def lo3 (a b:Array Keyed) (i mg ca cb:Nat) (out:Array Keyed) (j:Nat):StateT SortSt Sem (ForInStep LS):=do
 let x ← elem' a i
 if (i + 1 + 1 == a.size) = true then pure (.done (some (dnB a b (out.push x) (i + 1) j),out.push x,i + 1,j,mg,ca,cb))
 else if (decide (ca < 7) && decide (cb < 7)) = true then pure (.done (none,out.push x,i + 1,j,mg,ca,cb))
 else pure (.yield (none,out.push x,i + 1,j,mg,ca,cb))
def lo2 (a b:Array Keyed) (j mg ca cb:Nat) (out:Array Keyed) (i:Nat):StateT SortSt Sem (ForInStep LS):=do
 let x ← elem' b j
 if (j + 1 == b.size) = true then pure (.done (some (dnA a b (out.push x) i (j + 1)),out.push x,i,j + 1,mg,ca,cb))
 else
  let y ← elem' a i
  let some k ← gal true y b (j + 1) (b.size - (j + 1)) 0 | pure (.done (some (dnA a b (out.push x) i (j + 1)),out.push x,i,j + 1,mg,ca,cb))
  if k > 0 then
   if (j + 1 + k == b.size) = true then pure (.done (some (dnA a b (out.push x ++ b.extract (j + 1) (j + 1 + k)) i (j + 1 + k)),out.push x ++ b.extract (j + 1) (j + 1 + k),i,j + 1 + k,mg,ca,k))
   else lo3 a b i mg ca k (out.push x ++ b.extract (j + 1) (j + 1 + k)) (j + 1 + k)
  else lo3 a b i mg ca k (out.push x) (j + 1)
def lo1 (a b out:Array Keyed) (i j ca cb mg:Nat):StateT SortSt Sem (ForInStep LS):=do
 sMin mg
 let x ← elem' b j
 let some k ← gal false x a i (a.size - i) 0 | pure (.done (some (dnA a b out i j),out,i,j,mg,ca,cb))
 if k > 0 then
  if (i + k + 1 == a.size) = true then pure (.done (some (dnB a b (out ++ a.extract i (i + k)) (i + k) j),out ++ a.extract i (i + k),i + k,j,mg,k,cb))
  else if (i + k == a.size) = true then pure (.done (some (dnA a b (out ++ a.extract i (i + k)) (i + k) j),out ++ a.extract i (i + k),i + k,j,mg,k,cb))
  else lo2 a b j mg k cb (out ++ a.extract i (i + k)) (i + k)
 else lo2 a b j mg k cb out i
section
variable {prog:Program} {w:World} {A:Around} {E:Value→Shared→Prop} {s:Shared} {f:Bool} {z:Array Keyed} {o:KeyKind}
structure LI (o:KeyKind) (a b:Array Keyed) (st:SortSt) (t:Nat) (out:Array Keyed) (i j:Nat) (y:SortSt):Prop where
 sm:Sm st y
 ml:ML o a b out i j
 hi:i + 1 < a.size
 hj:j < b.size
 tt:t≤i + j
def LFin (o:KeyKind) (a b:Array Keyed) (st:SortSt) (t:Nat) (c:LS) (y:SortSt):Prop:=(∃ m,c.1 = some m∧Sm st y∧Mg o a b m)∨(c.1 = none∧LI o a b st t c.2.1 c.2.2.1 c.2.2.2.1 y)
def LPost (o:KeyKind) (a b:Array Keyed) (st:SortSt) (t:Nat):ForInStep LS→SortSt→Prop:=fun r y => match r with | .done c => LFin o a b st t c y | .yield c => c.1 = none∧LI o a b st t c.2.1 c.2.2.1 c.2.2.2.1 y
structure Two (o:KeyKind) (f:Bool) (z a b:Array Keyed) (st:SortSt):Prop where
 kd:kindOf st = tuples' f
 ma:∀ p∈a.toList,p∈z.toList
 mb:∀ p∈b.toList,p∈z.toList
 ua:Up o a.toList
 ub:Up o b.toList
 hl:∀ p∈b.toList,∀ hi:a.size - 1 < a.size,le2 o p a[a.size - 1]
 h0:∀ p∈a.toList,∀ hi:0 < b.size,le2 o b[0] p
theorem Sm.trans {x y u:SortSt} (h:Sm x y) (g:Sm y u):Sm x u:=⟨g.ar.trans h.ar,g.kd.trans h.kd,g.fl.trans h.fl,g.pd.trans h.pd⟩
theorem Two.last {a b:Array Keyed} {st:SortSt} (T:Two o f z a b st) {i:Nat} (h:i + 1 = a.size):∀ p∈b.toList,∀ hi:i < a.size,le2 o p a[i]:=fun p hp hi => by
 have e:a.size - 1 = i:=by omega
 have:=T.hl p hp (by omega)
 simp only [e] at this
 exact this
theorem lo3_wp {a b:Array Keyed} {st y:SortSt} {t i j mg ca cb:Nat} {out:Array Keyed} (T:Two o f z a b st) (sm:Sm st y) (ml:ML o a b out i j) (hi:i + 1 < a.size) (hj:j < b.size) (tt:t≤i + j + 1) (h:∀ q∈b.toList.drop j,le2 o a[i] q) :
  wpS (model prog w) A E s (lo3 a b i mg ca cb out j) (LPost o a b st t) y:=by
 refine wpS_bind (el_wp (by omega) ?_)
 have m2:ML o a b (out.push a[i]) (i + 1) j:=by
  rw [push_ext (by omega)]
  refine ml.mvA T.ua (by omega) fun p hp q hq => ?_
  obtain ⟨k,hk,k1,rfl⟩:=mem_tk hp
  obtain rfl:k = 0:=by omega
  exact h q hq
 rcases Nat.lt_or_ge (i + 1 + 1) a.size with h1 | h1
 ·rw [if_neg (by rw [beq_iff_eq]; omega)]
  have li:LI o a b st t (out.push a[i]) (i + 1) j y:=⟨sm,m2,h1,hj,by omega⟩
  split
  ·exact wpS_pure (.inr ⟨rfl,li⟩)
  ·exact wpS_pure ⟨rfl,li⟩
 ·rw [if_pos (by rw [beq_iff_eq]; omega)]
  exact wpS_pure (.inl ⟨_,rfl,sm,m2.endB T.ub (by omega) (T.last (by omega))⟩)
theorem drop_lt {xs:Array Keyed} {j k:Nat} {q:Keyed} (h:q∈xs.toList.drop (j + k)):∃ g,∃ hg:j + g < xs.size,k≤g∧q = xs[j + g]:=by
 obtain ⟨g,hg,rfl⟩:=mem_drop h
 exact ⟨k + g,by omega,by omega,by congr 1; omega⟩
theorem lo2_wp {a b:Array Keyed} {st y:SortSt} {t i j mg ca cb:Nat} {out:Array Keyed} (O:Orc prog w A s f o z) (T:Two o f z a b st) (sm:Sm st y) (ml:ML o a b out i j) (hi:i + 1 < a.size) (hj:j < b.size) (tt:t≤i + j) (h:∀ q∈a.toList.drop i,le2 o b[j] q) :
  wpS (model prog w) A E s (lo2 a b j mg ca cb out i) (LPost o a b st t) y:=by
 refine wpS_bind (el_wp hj ?_)
 have m2:ML o a b (out.push b[j]) i (j + 1):=by
  rw [push_ext hj]
  refine ml.mvB T.ub (by omega) fun p hp q hq => ?_
  obtain ⟨k,hk,k1,rfl⟩:=mem_tk hp
  obtain rfl:k = 0:=by omega
  exact h q hq
 rcases Nat.lt_or_ge (j + 1) b.size with h1 | h1
 ·rw [if_neg (by rw [beq_iff_eq]; omega)]
  refine wpS_bind (el_wp (by omega) (wpS_bind (gal_left O (sm.kd.trans T.kd) T.mb (T.ma _ (mem_at _)) (by omega) (by omega) (fun g k hgk hk _ => T.ub.at_ (by omega) hk) fun k hk less rest => ?_)))
  show wpS _ _ _ _ (if k > 0 then _ else _) _ _
  have rest2:∀ q∈b.toList.drop (j + 1 + k),le2 o a[i] q:=fun q hq => by
   obtain ⟨g,hg,hkg,rfl⟩:=drop_lt hq
   exact rest g hg hkg (by omega)
  rcases Nat.lt_or_ge 0 k with h2 | h2
  ·rw [if_pos h2]
   have m3:ML o a b (out.push b[j] ++ b.extract (j + 1) (j + 1 + k)) i (j + 1 + k):=m2.mvB T.ub (by omega) fun p hp q hq => by
    obtain ⟨g,hg,g1,rfl⟩:=mem_tk hp
    obtain ⟨g',hg',rfl⟩:=mem_drop hq
    exact le2_trans (KeyOrd.kle_of_klt (less g hg g1)) (T.ua.at_ (by omega) hg')
   rcases Nat.lt_or_ge (j + 1 + k) b.size with h3 | h3
   ·rw [if_neg (by rw [beq_iff_eq]; omega)]
    exact lo3_wp T sm m3 hi h3 (by omega) rest2
   ·rw [if_pos (by rw [beq_iff_eq]; omega)]
    exact wpS_pure (.inl ⟨_,rfl,sm,m3.endA T.ua T.ub (.inl (by omega))⟩)
  ·rw [if_neg (by omega)]
   obtain rfl:k = 0:=by omega
   exact lo3_wp T sm m2 hi h1 (by omega) rest2
 ·rw [if_pos (by rw [beq_iff_eq]; omega)]
  exact wpS_pure (.inl ⟨_,rfl,sm,m2.endA T.ua T.ub (.inl (by omega))⟩)
theorem sMin_wp {y:SortSt} {mg:Nat} {Q:Unit→SortSt→Prop} (h:∀ y',Sm y y'→Q () y'):wpS (model prog w) A E s (sMin mg) Q y:=wpS_modify (h _ ⟨rfl,rfl,rfl,rfl⟩)
theorem lo1_wp {a b:Array Keyed} {st y:SortSt} {t i j mg ca cb:Nat} {out:Array Keyed} (O:Orc prog w A s f o z) (T:Two o f z a b st) (li:LI o a b st t out i j y) :
  wpS (model prog w) A E s (lo1 a b out i j ca cb mg) (LPost o a b st t) y:=by
 obtain ⟨sm0,ml,hi,hj,tt⟩:=li
 refine wpS_bind (sMin_wp fun y' s' => ?_)
 have sm:=sm0.trans s'
 refine wpS_bind (el_wp hj (wpS_bind (gal_right O (sm.kd.trans T.kd) T.ma (T.mb _ (mem_at _)) (by omega) (by omega) (fun g k hgk hk _ => T.ua.at_ (by omega) hk) fun k hk less rest => ?_)))
 show wpS _ _ _ _ (if k > 0 then _ else _) _ _
 have rest2:∀ q∈a.toList.drop (i + k),le2 o b[j] q:=fun q hq => by
  obtain ⟨g,hg,hkg,rfl⟩:=drop_lt hq
  exact KeyOrd.kle_of_klt (rest g hg hkg (by omega))
 rcases Nat.lt_or_ge 0 k with h2 | h2
 ·rw [if_pos h2]
  have m2:ML o a b (out ++ a.extract i (i + k)) (i + k) j:=ml.mvA T.ua (by omega) fun p hp q hq => by
   obtain ⟨g,hg,g1,rfl⟩:=mem_tk hp
   obtain ⟨g',hg',rfl⟩:=mem_drop hq
   exact le2_trans (less g hg g1) (T.ub.at_ (by omega) hg')
  rcases Nat.lt_or_ge (i + k + 1) a.size with h3 | h3
  ·rw [if_neg (by rw [beq_iff_eq]; omega),if_neg (by rw [beq_iff_eq]; omega)]
   exact lo2_wp O T sm m2 h3 hj (by omega) rest2
  ·rcases Nat.lt_or_ge a.size (i + k + 1) with h4 | h4
   ·rw [if_neg (by rw [beq_iff_eq]; omega),if_pos (by rw [beq_iff_eq]; omega)]
    exact wpS_pure (.inl ⟨_,rfl,sm,m2.endA T.ua T.ub (.inr (by omega))⟩)
   ·rw [if_pos (by rw [beq_iff_eq]; omega)]
    exact wpS_pure (.inl ⟨_,rfl,sm,m2.endB T.ub (by omega) (T.last (by omega))⟩)
 ·rw [if_neg (by omega)]
  obtain rfl:k = 0:=by omega
  exact lo2_wp O T sm ml hi hj tt rest2
theorem mLo_wp {st:SortSt} {a b:Array Keyed} {Q:Array Keyed→SortSt→Prop} (O:Orc prog w A s f o z) (T:Two o f z a b st) (ha:0 < a.size) (hb:0 < b.size) (q:∀ m y,Sm st y→Mg o a b m→Q m y):wpS (model prog w) A E s (mLo a b) Q st:=by
 rw [mLo_eq]
 refine wpS_bind (wpS_lift (wpAny_rule ⟨rfl,wpS_bind (el_wp hb ?_)⟩))
 have m1:ML o a b #[b[0]] 0 1:=by
  refine ⟨?_,List.pairwise_singleton _ _,fun p hp q hq => ?_⟩
  ·have e:b.toList = b[0] :: b.toList.drop 1:=by
    have:=List.drop_eq_getElem_cons (l:=b.toList) (i:=0) (by simpa using hb)
    simpa using this
   show (b[0] :: (a.toList ++ b.toList.drop 1)).Perm _
   conv => rhs; rw [e]
   exact List.perm_middle.symm
  ·obtain rfl:=List.mem_singleton.mp hp
   rcases List.mem_append.mp hq with hq | hq
   ·exact T.h0 q hq hb
   ·obtain ⟨k,hk,rfl⟩:=mem_drop hq
    exact T.ub.at_ (Nat.zero_le _) hk
 rcases Nat.lt_or_ge 1 b.size with hb2 | hb2
 rotate_left
 ·rw [if_pos (by rw [beq_iff_eq]; omega)]
  exact wpS_pure (q _ _ (Sm.refl _) (m1.endA T.ua T.ub (.inl (by omega))))
 rw [if_neg (by rw [beq_iff_eq]; omega)]
 rcases Nat.lt_or_ge 1 a.size with ha2 | ha2
 rotate_left
 ·rw [if_pos (by rw [beq_iff_eq]; omega)]
  exact wpS_pure (q _ _ (Sm.refl _) (m1.endB T.ub (by omega) (T.last (by omega))))
 rw [if_neg (by rw [beq_iff_eq]; omega)]
 refine wpS_bind (wpS_get (wpS_bind (wpS_mono (wpS_forRange (I:=fun x c y => c.1 = none∧LI o a b st (1 + x) c.2.1 c.2.2.1 c.2.2.2.1 y) (Q:=fun c y => ∃ m,c.1 = some m∧Sm st y∧Mg o a b m) (fun x c y _ _ hy => ?_) (fun c y hy => ?_) ⟨rfl,Sm.refl _,m1,by show 0 + 1 < _; omega,hb2,by show 1 + 0≤0 + 1; omega⟩) fun c y hy => ?_)))
 ·obtain ⟨c1,out,i,j,mg⟩:=c
  obtain ⟨e1,li⟩:=hy
  refine wpS_bind (wpS_mono (wpS_forRange (I:=fun x' c y => c.1 = none∧LI o a b st (1 + x + x') c.2.1 c.2.2.1 c.2.2.2.1 y) (Q:=fun c y => (∃ m,c.1 = some m∧Sm st y∧Mg o a b m)∨(c.1 = none∧LI o a b st (1 + x + 1) c.2.1 c.2.2.1 c.2.2.2.1 y)) (fun x' c y _ _ hy => ?_) (fun c y hy => ?_) ⟨rfl,li⟩) fun c y hy => ?_)
  ·obtain ⟨c1,out,i,j,ca,cb⟩:=c
   obtain ⟨e1,sm,ml,hi,hj,tt⟩:=hy
   change i + 1 < a.size at hi
   change j < b.size at hj
   change 1 + x + x'≤i + j at tt
   change ML o a b out i j at ml
   refine wpS_bind (el_wp hj (wpS_bind (el_wp (show i < a.size by omega) (wpS_bind (lt_wp O (sm.kd.trans T.kd) (T.mb _ (mem_at _)) (T.ma _ (mem_at _)) ?_)))))
   show wpS _ _ _ _ (if o.blt (kv o b[j]) (kv o a[i]) = true then _ else _) _ _
   cases hv:o.blt (kv o b[j]) (kv o a[i]) with
   | true =>
    rw [if_pos rfl]
    refine wpS_bind (el_wp hj ?_)
    have m2:ML o a b (out.push b[j]) i (j + 1):=by
     rw [push_ext hj]
     refine ml.mvB T.ub (by omega) fun p hp q hq => ?_
     obtain ⟨k,hk,k1,rfl⟩:=mem_tk hp
     obtain rfl:k = 0:=by omega
     obtain ⟨g,hg,rfl⟩:=mem_drop hq
     exact le2_trans (KeyOrd.kle_of_klt hv) (T.ua.at_ (by omega) hg)
    show wpS _ _ _ _ (if (j + 1 == b.size) = true then _ else _) _ _
    rcases Nat.lt_or_ge (j + 1) b.size with h1 | h1
    ·rw [if_neg (by rw [beq_iff_eq]; omega)]
     have li:∀ t,t≤i + (j + 1)→LI o a b st t (out.push b[j]) i (j + 1) y:=fun t ht => ⟨sm,m2,hi,h1,ht⟩
     show wpS _ _ _ _ (if cb + 1 ≥ mg then _ else _) _ _
     split
     ·exact wpS_pure (.inr ⟨rfl,li _ (by omega)⟩)
     ·exact wpS_pure ⟨rfl,li _ (by omega)⟩
    ·rw [if_pos (by rw [beq_iff_eq]; omega)]
     exact wpS_pure (.inl ⟨_,rfl,sm,m2.endA T.ua T.ub (.inl (by omega))⟩)
   | false =>
    rw [if_neg Bool.false_ne_true]
    refine wpS_bind (el_wp (show i < a.size by omega) ?_)
    have m2:ML o a b (out.push a[i]) (i + 1) j:=by
     rw [push_ext (show i < a.size by omega)]
     refine ml.mvA T.ua (by omega) fun p hp q hq => ?_
     obtain ⟨k,hk,k1,rfl⟩:=mem_tk hp
     obtain rfl:k = 0:=by omega
     obtain ⟨g,hg,rfl⟩:=mem_drop hq
     exact le2_trans (show le2 o a[i] b[j] from hv) (T.ub.at_ (by omega) hg)
    show wpS _ _ _ _ (if (i + 1 + 1 == a.size) = true then _ else _) _ _
    rcases Nat.lt_or_ge (i + 1 + 1) a.size with h1 | h1
    ·rw [if_neg (by rw [beq_iff_eq]; omega)]
     have li:∀ t,t≤i + 1 + j→LI o a b st t (out.push a[i]) (i + 1) j y:=fun t ht => ⟨sm,m2,h1,hj,ht⟩
     show wpS _ _ _ _ (if ca + 1 ≥ mg then _ else _) _ _
     split
     ·exact wpS_pure (.inr ⟨rfl,li _ (by omega)⟩)
     ·exact wpS_pure ⟨rfl,li _ (by omega)⟩
    ·rw [if_pos (by rw [beq_iff_eq]; omega)]
     exact wpS_pure (.inl ⟨_,rfl,sm,m2.endB T.ub (by omega) (T.last (by omega))⟩)
  ·obtain ⟨e1,li⟩:=hy
   have h1:=li.hi
   have h2:=li.hj
   exact .inr ⟨e1,li.sm,li.ml,li.hi,li.hj,Nat.le_trans (by omega) li.tt⟩
  ·obtain ⟨c1,out,i,j,ca,cb⟩:=c
   rcases hy with ⟨m,rfl,sm,mm⟩ | ⟨rfl,li⟩
   ·exact wpS_pure ⟨m,rfl,sm,mm⟩
   ·refine wpS_bind (wpS_lift (wpAny_rule ⟨rfl,wpS_bind (wpS_mono (wpS_forRange (I:=fun x' c y => c.1 = none∧LI o a b st (1 + x + 1) c.2.1 c.2.2.1 c.2.2.2.1 y) (Q:=LFin o a b st (1 + x + 1)) (fun x' c y _ _ hy => ?_) (fun c y hy => .inr hy) ⟨rfl,li⟩) fun c y hy => ?_)⟩))
    ·obtain ⟨c1,out,i,j,mg,ca,cb⟩:=c
     obtain ⟨e1,li⟩:=hy
     show wpS _ _ _ _ (if mg > 1 then lo1 a b out i j ca cb (mg - 1) else lo1 a b out i j ca cb mg) _ _
     change LI o a b st (1 + x + 1) out i j y at li
     split
     ·exact wpS_mono (lo1_wp O T li) fun r y h => by cases r <;> exact h
     ·exact wpS_mono (lo1_wp O T li) fun r y h => by cases r <;> exact h
    ·obtain ⟨c1,out,i,j,mg,ca,cb⟩:=c
     rcases hy with ⟨m,rfl,sm,mm⟩ | ⟨rfl,li⟩
     ·exact wpS_pure ⟨m,rfl,sm,mm⟩
     ·exact wpS_bind (sMin_wp fun y' s' => wpS_pure ⟨rfl,li.sm.trans s',li.ml,li.hi,li.hj,by have:=li.tt; omega⟩)
 ·obtain ⟨e1,li⟩:=hy
  have h1:=li.hi
  have h2:=li.hj
  have h3:=li.tt
  omega
 ·obtain ⟨c1,out,i,j,mg⟩:=c
  obtain ⟨m,rfl,sm,mm⟩:=hy
  exact wpS_pure (q m y sm mm)
end
end TS
namespace TS
open PySem PyProof.Rows L2
def dnC (a b out:Array Keyed) (m n:Nat):Array Keyed:=a.extract 0 m ++ b.extract 0 n ++ out.reverse
def dnD (a b out:Array Keyed) (m n:Nat):Array Keyed:=b.extract 0 n ++ a.extract 0 m ++ out.reverse
theorem mHi_eq (a b:Array Keyed):mHi a b = (do
  liftM (rule "list.sort.merge-hi")
  let tt:=a.size + b.size
  let mut m:=a.size - 1
  let mut n:=b.size
  let mut out:Array Keyed:=#[← elem' a m]
  if m == 0 then return dnC a b out m n
  if n == 1 then return dnD a b out m n
  let mut mg:=gallopOf (← get)
  for _ in [0:tt] do
   let mut ca:=0
   let mut cb:=0
   for _ in [0:tt] do
    let some aw ← lt' (← elem' b (n - 1)) (← elem' a (m - 1)) | return dnC a b out m n
    if aw then
     m:=m - 1; out:=out.push (← elem' a m); ca:=ca + 1; cb:=0
     if m == 0 then return dnC a b out m n
     if ca ≥ mg then break
    else
     n:=n - 1; out:=out.push (← elem' b n); cb:=cb + 1; ca:=0
     if n == 1 then return dnD a b out m n
     if cb ≥ mg then break
   liftM (rule "list.sort.gallop")
   mg:=mg + 1
   for _ in [0:tt] do
    if mg > 1 then mg:=mg - 1
    sMin mg
    let some g ← gal false (← elem' b (n - 1)) a 0 m (m - 1) | return dnC a b out m n
    let k:=m - g
    ca:=k
    if k > 0 then
     out:=out ++ (a.extract g m).reverse; m:=g
     if m == 0 then return dnC a b out m n
    n:=n - 1; out:=out.push (← elem' b n)
    if n == 1 then return dnD a b out m n
    let some g ← gal true (← elem' a (m - 1)) b 0 n (n - 1) | return dnC a b out m n
    let k:=n - g
    cb:=k
    if k > 0 then
     out:=out ++ (b.extract g n).reverse; n:=g
     if n == 1 then return dnD a b out m n
     if n == 0 then return dnC a b out m n
    m:=m - 1; out:=out.push (← elem' a m)
    if m == 0 then return dnC a b out m n
    if ca < 7 && cb < 7 then break
   mg:=mg + 1
   sMin mg
  unsupported "internal:list.sort.merge-bound"):=rfl
abbrev HS:=Option (Array Keyed) × Nat × Nat × Array Keyed × Nat × Nat × Nat
def hi3 (a b:Array Keyed) (m mg ca cb:Nat) (out:Array Keyed) (n:Nat):StateT SortSt Sem (ForInStep HS):=do
 let x ← elem' a (m - 1)
 if (m - 1 == 0) = true then pure (.done (some (dnC a b (out.push x) (m - 1) n),m - 1,n,out.push x,mg,ca,cb))
 else if (decide (ca < 7) && decide (cb < 7)) = true then pure (.done (none,m - 1,n,out.push x,mg,ca,cb))
 else pure (.yield (none,m - 1,n,out.push x,mg,ca,cb))
def hi2 (a b:Array Keyed) (n mg ca cb:Nat) (out:Array Keyed) (m:Nat):StateT SortSt Sem (ForInStep HS):=do
 let x ← elem' b (n - 1)
 if (n - 1 == 1) = true then pure (.done (some (dnD a b (out.push x) m (n - 1)),m,n - 1,out.push x,mg,ca,cb))
 else
  let y ← elem' a (m - 1)
  let some g ← gal true y b 0 (n - 1) (n - 1 - 1) | pure (.done (some (dnC a b (out.push x) m (n - 1)),m,n - 1,out.push x,mg,ca,cb))
  if n - 1 - g > 0 then
   if (g == 1) = true then pure (.done (some (dnD a b (out.push x ++ (b.extract g (n - 1)).reverse) m g),m,g,out.push x ++ (b.extract g (n - 1)).reverse,mg,ca,n - 1 - g))
   else if (g == 0) = true then pure (.done (some (dnC a b (out.push x ++ (b.extract g (n - 1)).reverse) m g),m,g,out.push x ++ (b.extract g (n - 1)).reverse,mg,ca,n - 1 - g))
   else hi3 a b m mg ca (n - 1 - g) (out.push x ++ (b.extract g (n - 1)).reverse) g
  else hi3 a b m mg ca (n - 1 - g) (out.push x) (n - 1)
def hi1 (a b out:Array Keyed) (m n ca cb mg:Nat):StateT SortSt Sem (ForInStep HS):=do
 sMin mg
 let x ← elem' b (n - 1)
 let some g ← gal false x a 0 m (m - 1) | pure (.done (some (dnC a b out m n),m,n,out,mg,ca,cb))
 if m - g > 0 then
  if (g == 0) = true then pure (.done (some (dnC a b (out ++ (a.extract g m).reverse) g n),g,n,out ++ (a.extract g m).reverse,mg,m - g,cb))
  else hi2 a b n mg (m - g) cb (out ++ (a.extract g m).reverse) g
 else hi2 a b n mg (m - g) cb out m
section
variable {prog:Program} {w:World} {A:Around} {E:Value→Shared→Prop} {s:Shared} {f:Bool} {z:Array Keyed} {o:KeyKind}
structure MH (o:KeyKind) (a b out:Array Keyed) (m n:Nat):Prop where
 pm:((a.toList.take m ++ b.toList.take n) ++ out.toList.reverse).Perm (a.toList ++ b.toList)
 up:Up o out.toList.reverse
 le:∀ p∈a.toList.take m ++ b.toList.take n,∀ q∈out.toList,le2 o p q
theorem ext_rev {out xs:Array Keyed} {g m:Nat}:(out ++ (xs.extract g m).reverse).toList.reverse = (xs.toList.take m).drop g ++ out.toList.reverse:=by
 rw [Array.toList_append,Array.toList_reverse,Array.toList_extract,List.reverse_append,List.reverse_reverse,List.extract_eq_drop_take,← List.drop_take]
theorem tk_split {l:List Keyed} {g m:Nat} (h:g≤m):l.take m = l.take g ++ (l.take m).drop g:=by
 have:=(List.take_append_drop g (l.take m)).symm
 rwa [List.take_take,Nat.min_eq_left h] at this
theorem MH.mvA {a b out:Array Keyed} {m n g:Nat} (x:MH o a b out m n) (ua:Up o a.toList) (hg:g≤m) (h:∀ p∈(a.toList.take m).drop g,∀ q∈b.toList.take n,le2 o q p):MH o a b (out ++ (a.extract g m).reverse) g n:=by
 have ut:Up o (a.toList.take m):=ua.take
 have e2:=tk_split (l:=a.toList) hg
 have mo:∀ q,q∈(out ++ (a.extract g m).reverse).toList↔q∈(a.toList.take m).drop g∨q∈out.toList:=fun q => by
  rw [← List.mem_reverse,ext_rev,List.mem_append,List.mem_reverse]
 refine ⟨?_,?_,fun p hp q hq => ?_⟩
 ·rw [ext_rev]
  refine List.Perm.trans ?_ x.pm
  rw [← List.append_assoc]
  refine List.Perm.append_right _ ?_
  conv => rhs; rw [e2]
  rw [List.append_assoc,List.append_assoc]
  exact List.Perm.append_left _ List.perm_append_comm
 ·rw [ext_rev]
  refine List.pairwise_append.mpr ⟨ut.drop,x.up,fun p hp q hq => x.le p (List.mem_append_left _ (List.mem_of_mem_drop hp)) q (List.mem_reverse.mp hq)⟩
 ·rcases (mo q).mp hq with hq | hq
  ·rcases List.mem_append.mp hp with hp | hp
   ·rw [e2] at ut
    exact (List.pairwise_append.mp ut).2.2 p hp q hq
   ·exact h q hq p hp
  ·refine x.le p ?_ q hq
   rcases List.mem_append.mp hp with hp | hp
   ·exact List.mem_append_left _ (by rw [e2]; exact List.mem_append_left _ hp)
   ·exact List.mem_append_right _ hp
theorem MH.mvB {a b out:Array Keyed} {m n g:Nat} (x:MH o a b out m n) (ub:Up o b.toList) (hg:g≤n) (h:∀ p∈(b.toList.take n).drop g,∀ q∈a.toList.take m,le2 o q p):MH o a b (out ++ (b.extract g n).reverse) m g:=by
 have ut:Up o (b.toList.take n):=ub.take
 have e2:=tk_split (l:=b.toList) hg
 have mo:∀ q,q∈(out ++ (b.extract g n).reverse).toList↔q∈(b.toList.take n).drop g∨q∈out.toList:=fun q => by
  rw [← List.mem_reverse,ext_rev,List.mem_append,List.mem_reverse]
 refine ⟨?_,?_,fun p hp q hq => ?_⟩
 ·rw [ext_rev]
  refine List.Perm.trans ?_ x.pm
  rw [← List.append_assoc]
  refine List.Perm.append_right _ ?_
  conv => rhs; rw [e2]
  rw [List.append_assoc]
 ·rw [ext_rev]
  refine List.pairwise_append.mpr ⟨ut.drop,x.up,fun p hp q hq => x.le p (List.mem_append_right _ (List.mem_of_mem_drop hp)) q (List.mem_reverse.mp hq)⟩
 ·rcases (mo q).mp hq with hq | hq
  ·rcases List.mem_append.mp hp with hp | hp
   ·exact h q hq p hp
   ·rw [e2] at ut
    exact (List.pairwise_append.mp ut).2.2 p hp q hq
  ·refine x.le p ?_ q hq
   rcases List.mem_append.mp hp with hp | hp
   ·exact List.mem_append_left _ hp
   ·exact List.mem_append_right _ (by rw [e2]; exact List.mem_append_left _ hp)
theorem ext_tk {xs:Array Keyed} {m:Nat}:(xs.extract 0 m).toList = xs.toList.take m:=by
 rw [Array.toList_extract,List.extract_eq_drop_take,List.drop_zero,Nat.sub_zero]
theorem MH.endC {a b out:Array Keyed} {m n:Nat} (x:MH o a b out m n) (ua:Up o a.toList) (ub:Up o b.toList) (h:m = 0∨n = 0):Mg o a b (dnC a b out m n):=by
 have e:(dnC a b out m n).toList = (a.toList.take m ++ b.toList.take n) ++ out.toList.reverse:=by
  unfold dnC
  rw [Array.toList_append,Array.toList_append,ext_tk,ext_tk,Array.toList_reverse]
 refine ⟨by rw [e]; exact x.pm,?_⟩
 rw [e]
 refine List.pairwise_append.mpr ⟨?_,x.up,fun p hp q hq => x.le p hp q (List.mem_reverse.mp hq)⟩
 rcases h with rfl | rfl
 ·rw [List.take_zero,List.nil_append]; exact ub.take
 ·rw [List.take_zero,List.append_nil]; exact ua.take
theorem MH.endD {a b out:Array Keyed} {m n:Nat} (x:MH o a b out m n) (ua:Up o a.toList) (hn:n = 1) (hb:0 < b.size) (h0:∀ p∈a.toList,le2 o b[0] p):Mg o a b (dnD a b out m n):=by
 have e1:b.toList.take n = [b[0]]:=by
  rw [hn,List.take_one]
  have:b.toList.head? = some b[0]:=by rw [List.head?_eq_getElem?]; simp [hb]
  rw [this]; rfl
 have e:(dnD a b out m n).toList = (b.toList.take n ++ a.toList.take m) ++ out.toList.reverse:=by
  unfold dnD
  rw [Array.toList_append,Array.toList_append,ext_tk,ext_tk,Array.toList_reverse]
 refine ⟨?_,?_⟩
 ·rw [e]
  exact List.Perm.trans (List.Perm.append_right _ List.perm_append_comm) x.pm
 ·rw [e]
  refine List.pairwise_append.mpr ⟨List.pairwise_append.mpr ⟨by rw [e1]; exact List.pairwise_singleton _ _,ua.take,fun p hp q hq => ?_⟩,x.up,fun p hp q hq => x.le p ?_ q (List.mem_reverse.mp hq)⟩
  ·rw [e1,List.mem_singleton] at hp
   rw [hp]
   exact h0 q (List.mem_of_mem_take hq)
  ·rcases List.mem_append.mp hp with hp | hp
   ·exact List.mem_append_right _ hp
   ·exact List.mem_append_left _ hp
theorem push_rev {out xs:Array Keyed} {m:Nat} (h1:1≤m) (hm:m≤xs.size):out.push (xs[m - 1]'(by omega)) = out ++ (xs.extract (m - 1) m).reverse:=by
 have:=ext1 (xs:=xs) (i:=m - 1) (by omega)
 rw [show m - 1 + 1 = m by omega] at this
 rw [this,Array.push_eq_append]
 rfl
theorem mem_td {xs:Array Keyed} {g m:Nat} {p:Keyed} (h:p∈(xs.toList.take m).drop g):∃ k,∃ hk:k < xs.size,g≤k∧k < m∧p = xs[k]:=by
 obtain ⟨k,hk,e⟩:=List.mem_iff_getElem.mp h
 rw [List.length_drop,List.length_take,Array.length_toList] at hk
 refine ⟨g + k,by omega,by omega,by omega,?_⟩
 rw [← e,List.getElem_drop,List.getElem_take,Array.getElem_toList]
theorem mem_t {xs:Array Keyed} {m:Nat} {p:Keyed} (h:p∈xs.toList.take m):∃ k,∃ hk:k < xs.size,k < m∧p = xs[k]:=by
 obtain ⟨k,hk,e⟩:=List.mem_iff_getElem.mp h
 rw [List.length_take,Array.length_toList] at hk
 refine ⟨k,by omega,by omega,?_⟩
 rw [← e,List.getElem_take,Array.getElem_toList]
structure HI (o:KeyKind) (a b:Array Keyed) (st:SortSt) (t:Nat) (out:Array Keyed) (m n:Nat) (y:SortSt):Prop where
 sm:Sm st y
 mh:MH o a b out m n
 m1:1≤m
 ma:m≤a.size
 n2:2≤n
 nb:n≤b.size
 tt:m + n + t≤a.size + b.size
def HFin (o:KeyKind) (a b:Array Keyed) (st:SortSt) (t:Nat) (c:HS) (y:SortSt):Prop:=(∃ r,c.1 = some r∧Sm st y∧Mg o a b r)∨(c.1 = none∧HI o a b st t c.2.2.2.1 c.2.1 c.2.2.1 y)
def HPost (o:KeyKind) (a b:Array Keyed) (st:SortSt) (t:Nat):ForInStep HS→SortSt→Prop:=fun r y => match r with | .done c => HFin o a b st t c y | .yield c => c.1 = none∧HI o a b st t c.2.2.2.1 c.2.1 c.2.2.1 y
theorem hi3_wp {a b:Array Keyed} {st y:SortSt} {t m n mg ca cb:Nat} {out:Array Keyed} (T:Two o f z a b st) (sm:Sm st y) (mh:MH o a b out m n) (m1:1≤m) (ma:m≤a.size) (n2:2≤n) (nb:n≤b.size) (tt:m + n + t≤a.size + b.size + 1) (h:∀ q∈b.toList.take n,∀ hm:m - 1 < a.size,le2 o q a[m - 1]) :
  wpS (model prog w) A E s (hi3 a b m mg ca cb out n) (HPost o a b st t) y:=by
 refine wpS_bind (el_wp (show m - 1 < a.size by omega) ?_)
 have m2:MH o a b (out.push a[m - 1]) (m - 1) n:=by
  rw [push_rev m1 ma]
  refine mh.mvA T.ua (by omega) fun p hp q hq => ?_
  obtain ⟨k,hk,k1,k2,rfl⟩:=mem_td hp
  obtain rfl:k = m - 1:=by omega
  exact h q hq hk
 rcases Nat.lt_or_ge 0 (m - 1) with h1 | h1
 ·rw [if_neg (by rw [beq_iff_eq]; omega)]
  have hi:HI o a b st t (out.push a[m - 1]) (m - 1) n y:=⟨sm,m2,h1,by omega,n2,nb,by omega⟩
  split
  ·exact wpS_pure (.inr ⟨rfl,hi⟩)
  ·exact wpS_pure ⟨rfl,hi⟩
 ·rw [if_pos (by rw [beq_iff_eq]; omega)]
  exact wpS_pure (.inl ⟨_,rfl,sm,m2.endC T.ua T.ub (.inl (by omega))⟩)
theorem hi2_wp {a b:Array Keyed} {st y:SortSt} {t m n mg ca cb:Nat} {out:Array Keyed} (O:Orc prog w A s f o z) (T:Two o f z a b st) (sm:Sm st y) (mh:MH o a b out m n) (m1:1≤m) (ma:m≤a.size) (n2:2≤n) (nb:n≤b.size) (tt:m + n + t≤a.size + b.size) (h:∀ q∈a.toList.take m,∀ hn:n - 1 < b.size,le2 o q b[n - 1]) :
  wpS (model prog w) A E s (hi2 a b n mg ca cb out m) (HPost o a b st t) y:=by
 refine wpS_bind (el_wp (show n - 1 < b.size by omega) ?_)
 have m2:MH o a b (out.push b[n - 1]) m (n - 1):=by
  rw [push_rev (by omega) nb]
  refine mh.mvB T.ub (by omega) fun p hp q hq => ?_
  obtain ⟨k,hk,k1,k2,rfl⟩:=mem_td hp
  obtain rfl:k = n - 1:=by omega
  exact h q hq hk
 have h0:∀ p∈a.toList,le2 o b[0] p:=fun p hp => T.h0 p hp (by omega)
 rcases Nat.lt_or_ge 1 (n - 1) with h1 | h1
 ·rw [if_neg (by rw [beq_iff_eq]; omega)]
  refine wpS_bind (el_wp (show m - 1 < a.size by omega) (wpS_bind (gal_left O (sm.kd.trans T.kd) T.mb (T.ma _ (mem_at _)) (by omega) (by omega) (fun g k hgk hk _ => T.ub.at_ (by omega) hk) fun g hg less rest => ?_)))
  simp only [Nat.zero_add] at less rest
  show wpS _ _ _ _ (if n - 1 - g > 0 then _ else _) _ _
  have below:∀ q∈b.toList.take g,∀ hm:m - 1 < a.size,le2 o q a[m - 1]:=fun q hq hm => by
   obtain ⟨k,hk,k1,rfl⟩:=mem_t hq
   exact KeyOrd.kle_of_klt (less k hk k1)
  rcases Nat.lt_or_ge g (n - 1) with h2 | h2
  ·rw [if_pos (by omega)]
   have m3:MH o a b (out.push b[n - 1] ++ (b.extract g (n - 1)).reverse) m g:=m2.mvB T.ub (by omega) fun p hp q hq => by
    obtain ⟨k,hk,k1,k2,rfl⟩:=mem_td hp
    obtain ⟨k',hk',k3,rfl⟩:=mem_t hq
    exact le2_trans (T.ua.at_ (by omega) (show m - 1 < a.size by omega)) (rest k hk k1 (by omega))
   rcases Nat.lt_or_ge 1 g with h3 | h3
   ·rw [if_neg (by rw [beq_iff_eq]; omega),if_neg (by rw [beq_iff_eq]; omega)]
    exact hi3_wp T sm m3 m1 ma h3 (by omega) (by omega) below
   ·rcases Nat.lt_or_ge 0 g with h4 | h4
    ·rw [if_pos (by rw [beq_iff_eq]; omega)]
     exact wpS_pure (.inl ⟨_,rfl,sm,m3.endD T.ua (by omega) (by omega) h0⟩)
    ·rw [if_neg (by rw [beq_iff_eq]; omega),if_pos (by rw [beq_iff_eq]; omega)]
     exact wpS_pure (.inl ⟨_,rfl,sm,m3.endC T.ua T.ub (.inr (by omega))⟩)
  ·rw [if_neg (by omega)]
   obtain rfl:g = n - 1:=by omega
   exact hi3_wp T sm m2 m1 ma h1 (by omega) (by omega) below
 ·rw [if_pos (by rw [beq_iff_eq]; omega)]
  exact wpS_pure (.inl ⟨_,rfl,sm,m2.endD T.ua (by omega) (by omega) h0⟩)
theorem hi1_wp {a b:Array Keyed} {st y:SortSt} {t m n mg ca cb:Nat} {out:Array Keyed} (O:Orc prog w A s f o z) (T:Two o f z a b st) (hi:HI o a b st t out m n y) :
  wpS (model prog w) A E s (hi1 a b out m n ca cb mg) (HPost o a b st t) y:=by
 obtain ⟨sm0,mh,m1,ma,n2,nb,tt⟩:=hi
 refine wpS_bind (sMin_wp fun y' s' => ?_)
 have sm:=sm0.trans s'
 refine wpS_bind (el_wp (show n - 1 < b.size by omega) (wpS_bind (gal_right O (sm.kd.trans T.kd) T.ma (T.mb _ (mem_at _)) (by omega) (by omega) (fun g k hgk hk _ => T.ua.at_ (by omega) hk) fun g hg less rest => ?_)))
 simp only [Nat.zero_add] at less rest
 show wpS _ _ _ _ (if m - g > 0 then _ else _) _ _
 have below:∀ q∈a.toList.take g,∀ hn:n - 1 < b.size,le2 o q b[n - 1]:=fun q hq hn => by
  obtain ⟨k,hk,k1,rfl⟩:=mem_t hq
  exact less k hk k1
 rcases Nat.lt_or_ge g m with h2 | h2
 ·rw [if_pos (by omega)]
  have m2:MH o a b (out ++ (a.extract g m).reverse) g n:=mh.mvA T.ua (by omega) fun p hp q hq => by
   obtain ⟨k,hk,k1,k2,rfl⟩:=mem_td hp
   obtain ⟨k',hk',k3,rfl⟩:=mem_t hq
   exact le2_trans (T.ub.at_ (by omega) (show n - 1 < b.size by omega)) (KeyOrd.kle_of_klt (rest k hk k1 (by omega)))
  rcases Nat.lt_or_ge 0 g with h3 | h3
  ·rw [if_neg (by rw [beq_iff_eq]; omega)]
   exact hi2_wp O T sm m2 h3 (by omega) n2 nb (by omega) below
  ·rw [if_pos (by rw [beq_iff_eq]; omega)]
   exact wpS_pure (.inl ⟨_,rfl,sm,m2.endC T.ua T.ub (.inl (by omega))⟩)
 ·rw [if_neg (by omega)]
  obtain rfl:g = m:=by omega
  exact hi2_wp O T sm mh m1 ma n2 nb tt below
theorem mHi_wp {st:SortSt} {a b:Array Keyed} {Q:Array Keyed→SortSt→Prop} (O:Orc prog w A s f o z) (T:Two o f z a b st) (ha:0 < a.size) (hb:0 < b.size) (q:∀ m y,Sm st y→Mg o a b m→Q m y):wpS (model prog w) A E s (mHi a b) Q st:=by
 rw [mHi_eq]
 have ha1:a.size - 1 < a.size:=by omega
 have h0:∀ p∈a.toList,le2 o b[0] p:=fun p hp => T.h0 p hp hb
 refine wpS_bind (wpS_lift (wpAny_rule ⟨rfl,wpS_bind (el_wp ha1 ?_)⟩))
 have m1:MH o a b #[a[a.size - 1]] (a.size - 1) b.size:=by
  have e:a.toList = a.toList.take (a.size - 1) ++ [a[a.size - 1]]:=by
   have:=(List.take_append_drop (a.size - 1) a.toList).symm
   rw [List.drop_eq_getElem_cons (by simpa using ha1),List.drop_eq_nil_of_le (by simp; omega)] at this
   simpa using this
  have eb:b.toList.take b.size = b.toList:=List.take_of_length_le (by simp)
  refine ⟨?_,List.pairwise_singleton _ _,fun p hp q hq => ?_⟩
  ·rw [eb]
   show ((a.toList.take (a.size - 1) ++ b.toList) ++ [a[a.size - 1]]).Perm _
   conv => rhs; rw [e]
   rw [List.append_assoc,List.append_assoc]
   exact List.Perm.append_left _ List.perm_append_comm
  ·obtain rfl:=List.mem_singleton.mp hq
   rcases List.mem_append.mp hp with hp | hp
   ·obtain ⟨k,hk,k1,rfl⟩:=mem_t hp
    exact T.ua.at_ (by omega) ha1
   ·exact T.hl p (List.mem_of_mem_take hp) ha1
 rcases Nat.lt_or_ge 1 a.size with ha2 | ha2
 rotate_left
 ·rw [if_pos (by rw [beq_iff_eq]; omega)]
  exact wpS_pure (q _ _ (Sm.refl _) (m1.endC T.ua T.ub (.inl (by omega))))
 rw [if_neg (by rw [beq_iff_eq]; omega)]
 rcases Nat.lt_or_ge 1 b.size with hb2 | hb2
 rotate_left
 ·rw [if_pos (by rw [beq_iff_eq]; omega)]
  exact wpS_pure (q _ _ (Sm.refl _) (m1.endD T.ua (by omega) hb h0))
 rw [if_neg (by rw [beq_iff_eq]; omega)]
 refine wpS_bind (wpS_get (wpS_bind (wpS_mono (wpS_forRange (I:=fun x c y => c.1 = none∧HI o a b st (1 + x) c.2.2.2.1 c.2.1 c.2.2.1 y) (Q:=fun c y => ∃ m,c.1 = some m∧Sm st y∧Mg o a b m) (fun x c y _ _ hy => ?_) (fun c y hy => ?_) ⟨rfl,Sm.refl _,m1,by show 1≤a.size - 1; omega,by show a.size - 1≤_; omega,hb2,Nat.le_refl _,by show a.size - 1 + b.size + (1 + 0)≤_; omega⟩) fun c y hy => ?_)))
 ·obtain ⟨c1,m,n,out,mg⟩:=c
  obtain ⟨e1,li⟩:=hy
  refine wpS_bind (wpS_mono (wpS_forRange (I:=fun x' c y => c.1 = none∧HI o a b st (1 + x + x') c.2.2.2.1 c.2.1 c.2.2.1 y) (Q:=fun c y => (∃ m,c.1 = some m∧Sm st y∧Mg o a b m)∨(c.1 = none∧HI o a b st (1 + x + 1) c.2.2.2.1 c.2.1 c.2.2.1 y)) (fun x' c y _ _ hy => ?_) (fun c y hy => ?_) ⟨rfl,li⟩) fun c y hy => ?_)
  ·obtain ⟨c1,m,n,out,ca,cb⟩:=c
   obtain ⟨e1,sm,mh,m1,ma,n2,nb,tt⟩:=hy
   change 1≤m at m1
   change m≤a.size at ma
   change 2≤n at n2
   change n≤b.size at nb
   change m + n + (1 + x + x')≤a.size + b.size at tt
   change MH o a b out m n at mh
   refine wpS_bind (el_wp (show n - 1 < b.size by omega) (wpS_bind (el_wp (show m - 1 < a.size by omega) (wpS_bind (lt_wp O (sm.kd.trans T.kd) (T.mb _ (mem_at _)) (T.ma _ (mem_at _)) ?_)))))
   show wpS _ _ _ _ (if o.blt (kv o (b[n - 1]'(by omega))) (kv o (a[m - 1]'(by omega))) = true then _ else _) _ _
   cases hv:o.blt (kv o (b[n - 1]'(by omega))) (kv o (a[m - 1]'(by omega))) with
   | true =>
    rw [if_pos rfl]
    refine wpS_bind (el_wp (show m - 1 < a.size by omega) ?_)
    have m2:MH o a b (out.push (a[m - 1]'(by omega))) (m - 1) n:=by
     rw [push_rev m1 ma]
     refine mh.mvA T.ua (by omega) fun p hp q hq => ?_
     obtain ⟨k,hk,k1,k2,rfl⟩:=mem_td hp
     obtain rfl:k = m - 1:=by omega
     obtain ⟨g,hg,g1,rfl⟩:=mem_t hq
     exact le2_trans (T.ub.at_ (show g≤n - 1 by omega) (show n - 1 < b.size by omega)) (KeyOrd.kle_of_klt hv)
    show wpS _ _ _ _ (if (m - 1 == 0) = true then _ else _) _ _
    rcases Nat.lt_or_ge 0 (m - 1) with h1 | h1
    ·rw [if_neg (by rw [beq_iff_eq]; omega)]
     have li:∀ t,m - 1 + n + t≤a.size + b.size→HI o a b st t (out.push (a[m - 1]'(by omega))) (m - 1) n y:=fun t ht => ⟨sm,m2,h1,by omega,n2,nb,ht⟩
     show wpS _ _ _ _ (if ca + 1 ≥ mg then _ else _) _ _
     split
     ·exact wpS_pure (.inr ⟨rfl,li _ (by omega)⟩)
     ·exact wpS_pure ⟨rfl,li _ (by omega)⟩
    ·rw [if_pos (by rw [beq_iff_eq]; omega)]
     exact wpS_pure (.inl ⟨_,rfl,sm,m2.endC T.ua T.ub (.inl (by omega))⟩)
   | false =>
    rw [if_neg Bool.false_ne_true]
    refine wpS_bind (el_wp (show n - 1 < b.size by omega) ?_)
    have m2:MH o a b (out.push (b[n - 1]'(by omega))) m (n - 1):=by
     rw [push_rev (show 1≤n by omega) nb]
     refine mh.mvB T.ub (by omega) fun p hp q hq => ?_
     obtain ⟨k,hk,k1,k2,rfl⟩:=mem_td hp
     obtain rfl:k = n - 1:=by omega
     obtain ⟨g,hg,g1,rfl⟩:=mem_t hq
     exact le2_trans (T.ua.at_ (show g≤m - 1 by omega) (show m - 1 < a.size by omega)) hv
    show wpS _ _ _ _ (if (n - 1 == 1) = true then _ else _) _ _
    rcases Nat.lt_or_ge 1 (n - 1) with h1 | h1
    ·rw [if_neg (by rw [beq_iff_eq]; omega)]
     have li:∀ t,m + (n - 1) + t≤a.size + b.size→HI o a b st t (out.push (b[n - 1]'(by omega))) m (n - 1) y:=fun t ht => ⟨sm,m2,m1,ma,h1,by omega,ht⟩
     show wpS _ _ _ _ (if cb + 1 ≥ mg then _ else _) _ _
     split
     ·exact wpS_pure (.inr ⟨rfl,li _ (by omega)⟩)
     ·exact wpS_pure ⟨rfl,li _ (by omega)⟩
    ·rw [if_pos (by rw [beq_iff_eq]; omega)]
     exact wpS_pure (.inl ⟨_,rfl,sm,m2.endD T.ua (by omega) hb h0⟩)
  ·obtain ⟨e1,li⟩:=hy
   exact .inr ⟨e1,li.sm,li.mh,li.m1,li.ma,li.n2,li.nb,Nat.le_trans (by omega) li.tt⟩
  ·obtain ⟨c1,m,n,out,ca,cb⟩:=c
   rcases hy with ⟨m,rfl,sm,mm⟩ | ⟨rfl,li⟩
   ·exact wpS_pure ⟨m,rfl,sm,mm⟩
   ·refine wpS_bind (wpS_lift (wpAny_rule ⟨rfl,wpS_bind (wpS_mono (wpS_forRange (I:=fun x' c y => c.1 = none∧HI o a b st (1 + x + 1) c.2.2.2.1 c.2.1 c.2.2.1 y) (Q:=HFin o a b st (1 + x + 1)) (fun x' c y _ _ hy => ?_) (fun c y hy => .inr hy) ⟨rfl,li⟩) fun c y hy => ?_)⟩))
    ·obtain ⟨c1,m,n,out,mg,ca,cb⟩:=c
     obtain ⟨e1,li⟩:=hy
     show wpS _ _ _ _ (if mg > 1 then hi1 a b out m n ca cb (mg - 1) else hi1 a b out m n ca cb mg) _ _
     change HI o a b st (1 + x + 1) out m n y at li
     split
     ·exact wpS_mono (hi1_wp O T li) fun r y h => by cases r <;> exact h
     ·exact wpS_mono (hi1_wp O T li) fun r y h => by cases r <;> exact h
    ·obtain ⟨c1,m,n,out,mg,ca,cb⟩:=c
     rcases hy with ⟨m,rfl,sm,mm⟩ | ⟨rfl,li⟩
     ·exact wpS_pure ⟨m,rfl,sm,mm⟩
     ·exact wpS_bind (sMin_wp fun y' s' => wpS_pure ⟨rfl,li.sm.trans s',li.mh,li.m1,li.ma,li.n2,li.nb,by have:=li.tt; omega⟩)
 ·obtain ⟨e1,li⟩:=hy
  have h1:=li.m1
  have h2:=li.n2
  have h3:=li.tt
  omega
 ·obtain ⟨c1,m,n,out,mg⟩:=c
  obtain ⟨m,rfl,sm,mm⟩:=hy
  exact wpS_pure (q m y sm mm)
end
end TS
namespace TS
open PySem PyProof.Rows L2
theorem mAt_eq (i:Nat):mergeAt' i = (do
  let t ← get
  let (some (sa,na,pw),some (sb,nb,_)):=((pendingOf t)[i]?,(pendingOf t)[i + 1]?) | unsupported "internal:list.sort.pending"
  set (setPending t (((pendingOf t).setIfInBounds i (sa,na + nb,pw)).eraseIdxIfInBounds (i + 1)))
  let some k ← gal false (← elem' (arrOf t) sb) (arrOf t) sa na 0 | return false
  let (sa,na):=(sa + k,na - k)
  if na == 0 then return true
  let some nb ← gal true (← elem' (arrOf t) (sa + na - 1)) (arrOf t) sb nb (nb - 1) | return false
  if nb == 0 then return true
  let x:=(arrOf t).extract sa sb
  let y:=(arrOf t).extract sb (sb + nb)
  let m ← if na≤nb then mLo x y else mHi x y
  modify fun t => setArr t (m.toList.zipIdx.foldl (fun u (p,j) => u.setIfInBounds (sa + j) p) (arrOf t))
  return (failedOf (← get)).isNone):=rfl
def seg (xs:Array Keyed) (lo n:Nat):List Keyed:=(xs.toList.drop lo).take n
theorem seg_ext {xs:Array Keyed} {lo n:Nat}:(xs.extract lo (lo + n)).toList = seg xs lo n:=by
 rw [Array.toList_extract,List.extract_eq_drop_take,Nat.add_sub_cancel_left]; rfl
theorem seg_split (xs:Array Keyed) (lo k n:Nat) (h:k≤n):seg xs lo n = seg xs lo k ++ seg xs (lo + k) (n - k):=by
 unfold seg
 have:=(List.take_append_drop k ((xs.toList.drop lo).take n)).symm
 rw [List.take_take,Nat.min_eq_left h,List.drop_take,List.drop_drop] at this
 exact this
theorem seg_mem {xs:Array Keyed} {lo n:Nat} {p:Keyed} (h:p∈seg xs lo n):∃ k,∃ hk:lo + k < xs.size,k < n∧p = xs[lo + k]:=mem_tk h
theorem seg_sub {xs:Array Keyed} {lo n:Nat} {p:Keyed} (h:p∈seg xs lo n):p∈xs.toList:=List.mem_of_mem_drop (List.mem_of_mem_take h)
theorem seg_len {xs:Array Keyed} {lo n:Nat} (h:lo + n≤xs.size):(seg xs lo n).length = n:=by
 unfold seg
 rw [List.length_take,List.length_drop,Array.length_toList]; omega
theorem seg_get {xs:Array Keyed} {lo n i:Nat} (h:i < (seg xs lo n).length) (h2:lo + i < xs.size):(seg xs lo n)[i] = xs[lo + i]:=by
 simp only [seg,List.getElem_take,List.getElem_drop,Array.getElem_toList]
section
variable {prog:Program} {w:World} {A:Around} {E:Value→Shared→Prop} {s:Shared} {f:Bool} {z:Array Keyed} {o:KeyKind}
theorem seg_up {xs:Array Keyed} {lo n:Nat} (u:Up o (seg xs lo n)) {i j:Nat} (hij:i≤j) (hj:j < n) (h:lo + j < xs.size):le2 o (xs[lo + i]'(by omega)) xs[lo + j]:=by
 rcases Nat.lt_or_ge i j with hl | hl
 ·have hlen:lo + j < xs.size→j < (seg xs lo n).length:=fun h => by unfold seg; rw [List.length_take,List.length_drop,Array.length_toList]; omega
  have:=(List.pairwise_iff_getElem.mp u) i j (by have:=hlen h; omega) (hlen h) hl
  rw [seg_get _ (by omega),seg_get _ h] at this
  exact this
 ·obtain rfl:i = j:=by omega
  exact KeyOrd.kle_refl _
theorem fold_set:∀ (l:List Keyed) (xs:Array Keyed) (at_ k:Nat),at_ + k + l.length≤xs.size→((l.zipIdx k).foldl (fun (u:Array Keyed) (x:Keyed × Nat) => match x with | (p,j) => u.setIfInBounds (at_ + j) p) xs).toList = xs.toList.take (at_ + k) ++ l ++ xs.toList.drop (at_ + k + l.length)
 | [],xs,at_,k,_ => by
  show xs.toList = _
  rw [List.append_nil,List.length_nil,Nat.add_zero,List.take_append_drop]
 | p :: r,xs,at_,k,h => by
  rw [List.length_cons] at h
  rw [List.zipIdx_cons,List.foldl_cons]
  have e1:(xs.setIfInBounds (at_ + k) p).toList = xs.toList.set (at_ + k) p:=Array.toList_setIfInBounds ..
  have hl:at_ + k < xs.toList.length:=by rw [Array.length_toList]; omega
  have e2:=List.set_eq_take_append_cons_drop (l:=xs.toList) (i:=at_ + k) (a:=p)
  rw [if_pos hl] at e2
  have ih:=fold_set r (xs.setIfInBounds (at_ + k) p) at_ (k + 1) (by rw [Array.size_setIfInBounds]; omega)
  refine ih.trans ?_
  have lt:(xs.toList.take (at_ + k)).length = at_ + k:=by rw [List.length_take]; omega
  have t1:(xs.toList.set (at_ + k) p).take (at_ + (k + 1)) = xs.toList.take (at_ + k) ++ [p]:=by
   rw [e2,List.take_append,lt,show at_ + (k + 1) - (at_ + k) = 1 by omega,List.take_of_length_le (by rw [lt]; omega)]
   rfl
  have t2:(xs.toList.set (at_ + k) p).drop (at_ + (k + 1) + r.length) = xs.toList.drop (at_ + k + (r.length + 1)):=by
   rw [List.drop_set_of_lt (by omega)]
   congr 1; omega
  rw [e1,t1,t2,List.length_cons]
  simp
theorem put_seg {xs ys:Array Keyed} {at_:Nat} {m:List Keyed} (h:at_ + m.length≤xs.size) (e:ys.toList = xs.toList.take at_ ++ m ++ xs.toList.drop (at_ + m.length)) :
  (∀ k n,k + n≤at_→seg ys k n = seg xs k n)∧(∀ k n,at_ + m.length≤k→seg ys k n = seg xs k n)∧seg ys at_ m.length = m:=by
 have lt:(xs.toList.take at_).length = at_:=by rw [List.length_take,Array.length_toList]; omega
 refine ⟨fun k n hk => ?_,fun k n hk => ?_,?_⟩
 ·unfold seg
  rw [e,List.append_assoc,List.drop_append_of_le_length (by rw [lt]; omega),List.take_append_of_le_length (by rw [List.length_drop,lt]; omega),List.drop_take,List.take_take,Nat.min_eq_left (by omega)]
 ·unfold seg
  rw [e,List.drop_append,List.length_append,lt,List.drop_eq_nil_of_le (by rw [List.length_append,lt]; exact hk),List.nil_append,List.drop_drop]
  congr 2; omega
 ·unfold seg
  rw [e,List.append_assoc,List.drop_append,lt,List.drop_eq_nil_of_le (by rw [lt]; omega),List.nil_append,Nat.sub_self,List.drop_zero,List.take_left']
  rfl
structure Gd (f:Bool) (z:Array Keyed) (y:SortSt):Prop where
 pm:(arrOf y).Perm z
 kd:kindOf y = tuples' f
 fl:failedOf y = none
theorem Gd.sz {y:SortSt} (g:Gd f z y):(arrOf y).size = z.size:=g.pm.size_eq
theorem Gd.mem {y:SortSt} (g:Gd f z y):∀ p∈(arrOf y).toList,p∈z.toList:=fun p hp => (Array.perm_iff_toList_perm.mp g.pm).mem_iff.mp hp
theorem pend_merge {l1 l2:List (Nat × Nat × Nat)} {x y v:Nat × Nat × Nat} {ps:Array (Nat × Nat × Nat)} (h:ps.toList = l1 ++ x :: y :: l2):((ps.setIfInBounds l1.length v).eraseIdxIfInBounds (l1.length + 1)).toList = l1 ++ v :: l2:=by
 rw [Array.toList_eraseIdxIfInBounds,Array.toList_setIfInBounds,h]
 induction l1 generalizing ps with
 | nil => rfl
 | cons a r ih => exact congrArg (a :: ·) (ih (ps:=(r ++ x :: y :: l2).toArray) rfl)
theorem pend_at {l1 l2:List (Nat × Nat × Nat)} {x y:Nat × Nat × Nat} {ps:Array (Nat × Nat × Nat)} (h:ps.toList = l1 ++ x :: y :: l2):ps[l1.length]? = some x∧ps[l1.length + 1]? = some y:=by
 rw [← Array.getElem?_toList,← Array.getElem?_toList,h]
 constructor
 ·simp
 ·rw [List.getElem?_append_right (by omega)]; simp
theorem up_merge {a1 a2 b1 b2 m:List Keyed} (ua:Up o (a1 ++ a2)) (ub:Up o (b1 ++ b2)) (um:Up o m) (pm:m.Perm (a2 ++ b1)) (h1:∀ p∈a1,∀ q∈b1 ++ b2,le2 o p q) (h2:∀ p∈a2,∀ q∈b2,le2 o p q):Up o (a1 ++ m ++ b2):=by
 obtain ⟨u1,_,c1⟩:=List.pairwise_append.mp ua
 obtain ⟨_,u2,c2⟩:=List.pairwise_append.mp ub
 refine List.pairwise_append.mpr ⟨List.pairwise_append.mpr ⟨u1,um,fun p hp q hq => ?_⟩,u2,fun p hp q hq => ?_⟩
 ·rcases List.mem_append.mp (pm.mem_iff.mp hq) with hq | hq
  ·exact c1 p hp q hq
  ·exact h1 p hp q (List.mem_append_left _ hq)
 ·rcases List.mem_append.mp hp with hp | hp
  ·exact h1 p hp q (List.mem_append_right _ hq)
  ·rcases List.mem_append.mp (pm.mem_iff.mp hp) with hp | hp
   ·exact h2 p hp q hq
   ·exact c2 p hp q hq
theorem set_wp {v y:SortSt} {Q:PUnit→SortSt→Prop} (h:Q ⟨⟩ v):wpS (model prog w) A E s (set v:StateT SortSt Sem PUnit) Q y:=wpS_modify (f:=fun _ => v) h
theorem mAt_wp {st:SortSt} {l1 l2:List (Nat × Nat × Nat)} {sa na pa sb nb pb:Nat} {Q:Bool→SortSt→Prop} (O:Orc prog w A s f o z) (g:Gd f z st) (hp:(pendingOf st).toList = l1 ++ (sa,na,pa) :: (sb,nb,pb) :: l2) (hsb:sb = sa + na) (n1:1≤na) (n2:1≤nb) (hsz:sb + nb≤z.size) (u1:Up o (seg (arrOf st) sa na)) (u2:Up o (seg (arrOf st) sb nb))
  (q:∀ y,Gd f z y→(pendingOf y).toList = l1 ++ (sa,na + nb,pa) :: l2→Up o (seg (arrOf y) sa (na + nb))→(∀ k n,k + n≤sa→seg (arrOf y) k n = seg (arrOf st) k n)→(∀ k n,sb + nb≤k→seg (arrOf y) k n = seg (arrOf st) k n)→Q true y):wpS (model prog w) A E s (mergeAt' l1.length) Q st:=by
 have gz:=g.sz
 have gm:=g.mem
 generalize hxs:arrOf st = xs at gz gm u1 u2 q
 obtain ⟨p1,p2⟩:=pend_at hp
 rw [mAt_eq]
 refine wpS_bind (wpS_get ?_)
 rw [p1,p2,hxs]
 have hP:=pend_merge (v:=(sa,na + nb,pa)) hp
 show wpS _ _ _ _ ((set (setPending st (((pendingOf st).setIfInBounds l1.length (sa,na + nb,pa)).eraseIdxIfInBounds (l1.length + 1))):StateT SortSt Sem PUnit) >>= _) _ _
 generalize hps:((pendingOf st).setIfInBounds l1.length (sa,na + nb,pa)).eraseIdxIfInBounds (l1.length + 1) = ps at hP
 refine wpS_bind (set_wp ?_)
 have g1:Gd f z (setPending st ps):=⟨g.pm,g.kd,g.fl⟩
 have hsb2:sb < xs.size:=by omega
 have eu:∀ y:SortSt,arrOf y = xs→Up o (seg xs sa (na + nb))→Gd f z y→(pendingOf y).toList = l1 ++ (sa,na + nb,pa) :: l2→Q true y:=fun y ey u gy py => q y gy py (by rw [ey]; exact u) (fun k n _ => by rw [ey]) (fun k n _ => by rw [ey])
 have whole:seg xs sa (na + nb) = seg xs sa na ++ seg xs sb nb:=by
  have:=seg_split xs sa na (na + nb) (by omega)
  rw [this,show na + nb - na = nb by omega,← hsb]
 refine wpS_bind (el_wp hsb2 (wpS_bind (gal_right O g1.kd gm (gm _ (mem_at _)) (by omega) (by omega) (fun i j hij hj hjn => seg_up u1 hij hjn hj) fun k hk less rest => ?_)))
 have b0:∀ q∈seg xs sb nb,le2 o xs[sb] q:=fun q hq => by
  obtain ⟨j,hj,j1,rfl⟩:=seg_mem hq
  exact seg_up u2 (i:=0) (Nat.zero_le _) j1 hj
 have a1b:∀ p∈seg xs sa k,∀ q∈seg xs sb nb,le2 o p q:=fun p hp q hq => by
  obtain ⟨j,hj,j1,rfl⟩:=seg_mem hp
  exact le2_trans (less j hj j1) (b0 q hq)
 have ea:=seg_split xs sa k na hk
 show wpS _ _ _ _ (if (na - k == 0) = true then _ else _) _ _
 rcases Nat.lt_or_ge k na with hkn | hkn
 rotate_left
 ·rw [if_pos (by rw [beq_iff_eq]; omega)]
  obtain rfl:k = na:=by omega
  refine wpS_pure (eu _ hxs ?_ g1 hP)
  rw [whole]
  exact List.pairwise_append.mpr ⟨u1,u2,a1b⟩
 rw [if_neg (by rw [beq_iff_eq]; omega)]
 have hla:sa + k + (na - k) - 1 < xs.size:=by omega
 have eix:sa + k + (na - k) - 1 = sa + (na - 1):=by omega
 refine wpS_bind (el_wp hla (wpS_bind (gal_left O g1.kd gm (gm _ (mem_at _)) (by omega) (by omega) (fun i j hij hj hjn => seg_up u2 hij hjn hj) fun nb' hnb less2 rest2 => ?_)))
 simp only [eix] at less2 rest2
 have eb:=seg_split xs sb nb' nb hnb
 have a2b2:∀ p∈seg xs (sa + k) (na - k),∀ q∈seg xs (sb + nb') (nb - nb'),le2 o p q:=fun p hp q hq => by
  obtain ⟨i,hi,i1,rfl⟩:=seg_mem hp
  obtain ⟨j,hj,j1,rfl⟩:=seg_mem hq
  have h1:=seg_up u1 (i:=k + i) (j:=na - 1) (by omega) (by omega) (by omega)
  have h2:=rest2 (nb' + j) (by omega) (by omega) (by omega)
  have e1:sa + (k + i) = sa + k + i:=by omega
  have e2:sb + (nb' + j) = sb + nb' + j:=by omega
  simp only [e1] at h1
  simp only [e2] at h2
  exact le2_trans h1 h2
 show wpS _ _ _ _ (if (nb' == 0) = true then _ else _) _ _
 rcases Nat.eq_zero_or_pos nb' with h0 | h0
 ·subst h0
  rw [if_pos (by rw [beq_iff_eq])]
  refine wpS_pure (eu _ hxs ?_ g1 hP)
  rw [whole]
  refine List.pairwise_append.mpr ⟨u1,u2,fun p hp q hq => ?_⟩
  rw [ea] at hp
  rcases List.mem_append.mp hp with hp | hp
  ·exact a1b p hp q hq
  ·exact a2b2 p hp q hq
 rw [if_neg (by rw [beq_iff_eq]; omega)]
 have ex:(xs.extract (sa + k) sb).toList = seg xs (sa + k) (na - k):=by
  rw [show sb = sa + k + (na - k) by omega]; exact seg_ext
 have ey:(xs.extract sb (sb + nb')).toList = seg xs sb nb':=seg_ext
 have sx:(xs.extract (sa + k) sb).size = na - k:=by rw [Array.size_extract]; omega
 have sy:(xs.extract sb (sb + nb')).size = nb':=by rw [Array.size_extract]; omega
 have T:Two o f z (xs.extract (sa + k) sb) (xs.extract sb (sb + nb')) (setPending st ps):=by
  refine ⟨g1.kd,fun p hp => ?_,fun p hp => ?_,?_,?_,fun p hp hi => ?_,fun p hp hi => ?_⟩
  ·rw [ex] at hp; exact gm p (seg_sub hp)
  ·rw [ey] at hp; exact gm p (seg_sub hp)
  ·rw [ex]; rw [ea] at u1; exact (List.pairwise_append.mp u1).2.1
  ·rw [ey]; rw [eb] at u2; exact (List.pairwise_append.mp u2).1
  ·rw [ey] at hp
   obtain ⟨j,hj,j1,rfl⟩:=seg_mem hp
   have h:=KeyOrd.kle_of_klt (less2 j hj j1)
   rw [Array.getElem_extract]
   have e1:sa + k + ((xs.extract (sa + k) sb).size - 1) = sa + (na - 1):=by rw [sx]; omega
   simp only [e1]
   exact h
  ·rw [ex] at hp
   obtain ⟨j,hj,j1,rfl⟩:=seg_mem hp
   rw [Array.getElem_extract]
   have h:=KeyOrd.kle_of_klt (rest (k + j) (by omega) (by omega) (by omega))
   have e1:sa + (k + j) = sa + k + j:=by omega
   simp only [e1] at h
   exact h
 have fin:∀ m y,Sm (setPending st ps) y→Mg o (xs.extract (sa + k) sb) (xs.extract sb (sb + nb')) m→wpS (model prog w) A E s (do
   modify fun t => setArr t (m.toList.zipIdx.foldl (fun u (p,j) => u.setIfInBounds (sa + k + j) p) (arrOf t))
   return (failedOf (← get)).isNone) Q y:=fun m y sm mg => by
  have ya:arrOf y = xs:=sm.ar.trans hxs
  have ml:m.toList.length = na - k + nb':=by
   have:=mg.pm.length_eq
   rw [List.length_append,Array.length_toList,Array.length_toList,Array.length_toList,sx,sy] at this
   rw [Array.length_toList]; exact this
  refine wpS_bind (wpS_modify (wpS_bind (wpS_get (wpS_pure ?_))))
  have e:=fold_set m.toList xs (sa + k) 0 (by omega)
  rw [Nat.add_zero] at e
  show Q (failedOf y).isNone (setArr y (m.toList.zipIdx.foldl (fun u (p,j) => u.setIfInBounds (sa + k + j) p) (arrOf y)))
  rw [ya,sm.fl,show failedOf (setPending st ps) = none from g.fl]
  generalize m.toList.zipIdx.foldl (fun (u:Array Keyed) (x:Keyed × Nat) => match x with | (p,j) => u.setIfInBounds (sa + k + j) p) xs = ys at e
  obtain ⟨lo,hi,mid⟩:=put_seg (by omega) e
  have ends:sa + k + m.toList.length = sb + nb':=by omega
  have pmM:m.toList.Perm (seg xs (sa + k) (na - k) ++ seg xs sb nb'):=by rw [← ex,← ey]; exact mg.pm
  refine q (setArr y ys) ⟨?_,sm.kd.trans g1.kd,sm.fl.trans g1.fl⟩ ((congrArg Array.toList sm.pd).trans hP) ?_ (fun k' n hk' => lo k' n (by omega)) (fun k' n hk' => hi k' n (by omega))
  ·show ys.Perm z
   refine Array.Perm.trans (Array.perm_iff_toList_perm.mpr ?_) (hxs▸g.pm)
   rw [e]
   have e3:xs.toList = xs.toList.take (sa + k) ++ (seg xs (sa + k) (na - k) ++ seg xs sb nb') ++ xs.toList.drop (sa + k + m.toList.length):=by
    have h1:=(List.take_append_drop (sa + k) xs.toList).symm
    have h2:=(List.take_append_drop m.toList.length (xs.toList.drop (sa + k))).symm
    rw [List.drop_drop] at h2
    have h3:(xs.toList.drop (sa + k)).take m.toList.length = seg xs (sa + k) (na - k) ++ seg xs sb nb':=by
     have:=seg_split xs (sa + k) (na - k) (na - k + nb') (by omega)
     rw [show na - k + nb' - (na - k) = nb' by omega,show sa + k + (na - k) = sb by omega] at this
     rw [ml]; exact this
    rw [h3] at h2
    rw [h2,← List.append_assoc] at h1
    exact h1
   conv => rhs; rw [e3]
   exact List.Perm.append_right _ (List.Perm.append_left _ pmM)
  ·show Up o (seg ys sa (na + nb))
   have s1:=seg_split ys sa k (na + nb) (by omega)
   have s2:=seg_split ys (sa + k) m.toList.length (na + nb - k) (by omega)
   rw [s1,s2,mid,lo sa k (by omega),hi _ _ (by omega),ends,show na + nb - k - m.toList.length = nb - nb' by omega,← List.append_assoc]
   refine up_merge (a2:=seg xs (sa + k) (na - k)) (b1:=seg xs sb nb') (by rw [← ea]; exact u1) (by rw [← eb]; exact u2) mg.up pmM (fun p hp q hq => a1b p hp q (by rw [eb]; exact hq)) a2b2
 show wpS _ _ _ _ (if na - k≤nb' then mLo (xs.extract (sa + k) sb) (xs.extract sb (sb + nb')) >>= _ else mHi (xs.extract (sa + k) sb) (xs.extract sb (sb + nb')) >>= _) _ _
 split
 ·exact wpS_bind (mLo_wp O T (by omega) (by omega) fin)
 ·exact wpS_bind (mHi_wp O T (by omega) (by omega) fin)
end
end TS
namespace TS
open PySem PyProof.Rows L2
def cUp (lo a n:Nat):StateT SortSt Sem AscSt :=
 forIn [a:n] ((none,a):AscSt) fun _ c => do
  let some r ← ltAt' (lo + c.2) (lo + c.2 - 1) | pure (.done (some none,c.2))
  if r then pure (.done (none,c.2)) else pure (.yield (none,c.2 + 1))
def cDown (lo a n:Nat):StateT SortSt Sem DescSt :=
 forIn [a:n] ((none,a,0):DescSt) fun _ c => do
  let some r ← ltAt' (lo + c.2.1) (lo + c.2.1 - 1) | pure (.done (some none,c.2.1,c.2.2))
  if r then
   if c.2.2 > 0 then
    reverseSlice' (lo + c.2.1 - (c.2.2 + 1)) (lo + c.2.1)
    pure (.yield (none,c.2.1 + 1,0))
   else pure (.yield (none,c.2.1 + 1,0))
  else
   let some r ← ltAt' (lo + c.2.1 - 1) (lo + c.2.1) | pure (.done (some none,c.2.1,c.2.2))
   if r then pure (.done (none,c.2.1,c.2.2)) else pure (.yield (none,c.2.1 + 1,c.2.2 + 1))
section
variable {prog:Program} {w:World} {A:Around} {E:Value→Shared→Prop} {s:Shared} {f:Bool} {z:Array Keyed} {o:KeyKind}
theorem lt_g {st:SortSt} {i j:Nat} {Q:Option Bool→SortSt→Prop} (O:Orc prog w A s f o z) (g:Gd f z st) (hi:i < z.size) (hj:j < z.size) (h:Q (some (o.blt (KK o (arrOf st) i) (KK o (arrOf st) j))) st):wpS (model prog w) A E s (ltAt' i j) Q st:=by
 have kk:∀ {k} (hk:k < (arrOf st).size),KK o (arrOf st) k = kv o (arrOf st)[k]:=fun {k} hk => by unfold KK; rw [getElem?_pos (arrOf st) k hk]; rfl
 have h1:i < (arrOf st).size:=g.sz▸hi
 have h2:j < (arrOf st).size:=g.sz▸hj
 rw [kk h1,kk h2] at h
 rw [ltAt'_eq]
 exact wpS_bind (wpS_get (wpS_bind (el_wp h1 (wpS_bind (el_wp h2 (lt_wp O g.kd (g.mem _ (mem_at h1)) (g.mem _ (mem_at h2)) h))))))
structure Rn (f:Bool) (z:Array Keyed) (x:SortSt) (lo:Nat) (y:SortSt):Prop where
 gd:Gd f z y
 pd:pendingOf y = pendingOf x
 low:∀ k,k < lo→(arrOf y)[k]? = (arrOf x)[k]?
theorem Rn.refl {x:SortSt} (g:Gd f z x) (lo:Nat):Rn f z x lo x:=⟨g,rfl,fun _ _ => rfl⟩
theorem Rn.mir {x y:SortSt} {lo i j:Nat} (r:Rn f z x lo y) (hi:lo≤i) (hj:j≤z.size):Rn f z x lo (setArr y (mirror (arrOf y) i j ((j - i) / 2))):=by
 refine ⟨⟨(mirror_perm _ _ _ _).trans r.gd.pm,r.gd.kd,r.gd.fl⟩,r.pd,fun k hk => ?_⟩
 show (mirror (arrOf y) i j ((j - i) / 2))[k]? = _
 rw [getElem?_mirror_all (by rw [r.gd.sz]; exact hj),if_neg (by omega)]
 exact r.low k hk
def SU (o:KeyKind) (xs:Array Keyed) (lo m:Nat):Prop:=∀ i j,i≤j→j < m→o.kle (KK o xs (lo + i)) (KK o xs (lo + j))
def SD (o:KeyKind) (xs:Array Keyed) (lo m:Nat):Prop:=∀ i j,i≤j→j < m→o.kle (KK o xs (lo + j)) (KK o xs (lo + i))
theorem SU.more {xs:Array Keyed} {lo i:Nat} (u:SU o xs lo i) (h:1≤i) (hl:o.kle (KK o xs (lo + (i - 1))) (KK o xs (lo + i))):SU o xs lo (i + 1):=fun g k hgk hk => by
 rcases Nat.lt_or_ge k i with hki | hki
 ·exact u g k hgk hki
 ·obtain rfl:k = i:=by omega
  rcases Nat.lt_or_ge g k with hg | hg
  ·exact KeyOrd.kle_trans (u g (k - 1) (by omega) (by omega)) hl
  ·obtain rfl:g = k:=by omega
   exact KeyOrd.kle_refl _
theorem SD.more {xs ys:Array Keyed} {lo i:Nat} (hk:∀ k,KK o ys k = KK o xs k) (u:SD o xs lo i) (h:1≤i) (hl:o.kle (KK o xs (lo + i)) (KK o xs (lo + (i - 1)))):SD o ys lo (i + 1):=fun g k hgk hk2 => by
 rw [hk,hk]
 rcases Nat.lt_or_ge k i with hki | hki
 ·exact u g k hgk hki
 ·obtain rfl:k = i:=by omega
  rcases Nat.lt_or_ge g k with hg | hg
  ·exact KeyOrd.kle_trans hl (u g (k - 1) (by omega) (by omega))
  ·obtain rfl:g = k:=by omega
   exact KeyOrd.kle_refl _
theorem cUp_wp {x st:SortSt} {lo a n:Nat} {Q:AscSt→SortSt→Prop} (O:Orc prog w A s f o z) (hn:lo + n≤z.size) (ha:1≤a) (han:a≤n) (r:Rn f z x lo st) (u:SU o (arrOf st) lo a)
  (q:∀ m,a≤m→m≤n→SU o (arrOf st) lo m→(m = n∨o.klt (KK o (arrOf st) (lo + m)) (KK o (arrOf st) (lo + (m - 1))))→Q (none,m) st):wpS (model prog w) A E s (cUp lo a n) Q st:=by
 refine wpS_forRange (I:=fun i c y => y = st∧c = (none,i)∧SU o (arrOf st) lo i) (fun i c y h1 h2 hy => ?_) (fun c y hy => ?_) ⟨rfl,rfl,u⟩
 ·obtain ⟨rfl,rfl,up⟩:=hy
  refine wpS_bind (lt_g O r.gd (show lo + i < _ by omega) (show lo + i - 1 < _ by omega) ?_)
  show wpS _ _ _ _ (if o.blt (KK o (arrOf y) (lo + i)) (KK o (arrOf y) (lo + i - 1)) = true then _ else _) _ _
  rw [show lo + i - 1 = lo + (i - 1) by omega]
  cases hl:o.blt (KK o (arrOf y) (lo + i)) (KK o (arrOf y) (lo + (i - 1))) with
  | true => rw [if_pos rfl]; exact wpS_pure (q i h1 (by omega) up (.inr hl))
  | false => rw [if_neg Bool.false_ne_true]; exact wpS_pure ⟨rfl,rfl,up.more (by omega) hl⟩
 ·obtain ⟨rfl,rfl,up⟩:=hy
  have e:max a n = n:=by omega
  rw [e] at up ⊢
  exact q n han (Nat.le_refl _) up (.inl rfl)
def Goes (k:AscSt→StateT SortSt Sem (Option Nat)):Prop:=∀ m,k (none,m) = pure (some m)
theorem cEnd_wp {k:AscSt→StateT SortSt Sem (Option Nat)} (hk:Goes k) {x st:SortSt} {lo a n:Nat} {Q:Option Nat→SortSt→Prop} (O:Orc prog w A s f o z) (hn:lo + n≤z.size) (ha:1≤a) (han:a≤n) (r:Rn f z x lo st) (d:SD o (arrOf st) lo a)
  (q:∀ m y,Rn f z x lo y→1≤m→m≤n→SU o (arrOf y) lo m→Q (some m) y):wpS (model prog w) A E s (reverseSlice' lo (lo + a) >>= fun _ => cUp lo a n >>= k) Q st:=by
 have hz:lo + a≤(arrOf st).size:=by rw [r.gd.sz]; omega
 have r2:=r.mir (i:=lo) (j:=lo + a) (Nat.le_refl _) (by omega)
 refine wpS_bind (wpS_reverse (wpS_bind (cUp_wp O hn ha han r2 (fun i j hij hj => ?_) fun m h1 h2 up _ => by rw [hk]; exact wpS_pure (q m _ r2 (by omega) h2 up))))
 show o.kle (KK o (mirror (arrOf st) lo (lo + a) _) (lo + i)) (KK o (mirror (arrOf st) lo (lo + a) _) (lo + j))
 rw [KK_mirror hz,KK_mirror hz,if_pos ⟨by omega,by omega⟩,if_pos ⟨by omega,by omega⟩]
 have:=d (a - 1 - j) (a - 1 - i) (by omega) (by omega)
 rw [show lo + (lo + a) - 1 - (lo + i) = lo + (a - 1 - i) by omega,show lo + (lo + a) - 1 - (lo + j) = lo + (a - 1 - j) by omega]
 exact this
theorem cDown_wp {x st:SortSt} {lo a n:Nat} {Q:DescSt→SortSt→Prop} (O:Orc prog w A s f o z) (hn:lo + n≤z.size) (ha:1≤a) (han:a≤n) (r:Rn f z x lo st) (d:SD o (arrOf st) lo a)
  (q:∀ m e y,Rn f z x lo y→a≤m→m≤n→SD o (arrOf y) lo m→e + 1≤m→(∀ i,lo + m - (e + 1)≤i→i < lo + m→KK o (arrOf y) i = KK o (arrOf y) (lo + m - 1))→Q (none,m,e) y):wpS (model prog w) A E s (cDown lo a n) Q st:=by
 refine wpS_forRange (I:=fun i c y => ∃ e,c = (none,i,e)∧Rn f z x lo y∧SD o (arrOf y) lo i∧e + 1≤i∧∀ k,lo + i - (e + 1)≤k→k < lo + i→KK o (arrOf y) k = KK o (arrOf y) (lo + i - 1)) (fun i c y h1 h2 hy => ?_) (fun c y hy => ?_) ⟨0,rfl,r,d,by omega,fun k p1 p2 => congrArg _ (by omega)⟩
 ·obtain ⟨e,rfl,r2,dn,he,eqs⟩:=hy
  have hz:lo + i≤(arrOf y).size:=by rw [r2.gd.sz]; omega
  refine wpS_bind (lt_g O r2.gd (show lo + i < _ by omega) (show lo + i - 1 < _ by omega) ?_)
  show wpS _ _ _ _ (if o.blt (KK o (arrOf y) (lo + i)) (KK o (arrOf y) (lo + i - 1)) = true then _ else _) _ _
  have ei:lo + i - 1 = lo + (i - 1):=by omega
  cases hl:o.blt (KK o (arrOf y) (lo + i)) (KK o (arrOf y) (lo + i - 1)) with
  | true =>
   rw [if_pos rfl]
   have hle:o.kle (KK o (arrOf y) (lo + i)) (KK o (arrOf y) (lo + (i - 1))):=by rw [← ei]; exact KeyOrd.kle_of_klt (O:=o.toKeyOrd) hl
   show wpS _ _ _ _ (if e > 0 then _ else _) _ _
   by_cases h0:e > 0
   ·rw [if_pos h0]
    exact wpS_bind (wpS_reverse (wpS_pure ⟨0,rfl,r2.mir (show lo≤lo + i - (e + 1) by omega) (show lo + i≤_ by omega),SD.more (KK_mirror_equal hz eqs) dn (by omega) hle,by omega,fun k p1 p2 => congrArg _ (by omega)⟩))
   ·rw [if_neg h0]
    exact wpS_pure ⟨0,rfl,r2,SD.more (fun _ => rfl) dn (by omega) hle,by omega,fun k p1 p2 => congrArg _ (by omega)⟩
  | false =>
   rw [if_neg Bool.false_ne_true]
   refine wpS_bind (lt_g O r2.gd (show lo + i - 1 < _ by omega) (show lo + i < _ by omega) ?_)
   show wpS _ _ _ _ (if o.blt (KK o (arrOf y) (lo + i - 1)) (KK o (arrOf y) (lo + i)) = true then _ else _) _ _
   cases hg:o.blt (KK o (arrOf y) (lo + i - 1)) (KK o (arrOf y) (lo + i)) with
   | true => rw [if_pos rfl]; exact wpS_pure (q i e y r2 h1 (by omega) dn he eqs)
   | false =>
    rw [if_neg Bool.false_ne_true]
    have same:KK o (arrOf y) (lo + i) = KK o (arrOf y) (lo + i - 1):=o.total _ _ hl hg
    refine wpS_pure ⟨e + 1,rfl,r2,SD.more (fun _ => rfl) dn (by omega) (by rw [← ei]; exact hg),by omega,fun k p1 p2 => ?_⟩
    rw [show lo + (i + 1) - 1 = lo + i by omega]
    rcases Nat.lt_or_ge k (lo + i) with hk | hk
    ·rw [same]; exact eqs k (by omega) hk
    ·exact congrArg _ (by omega)
 ·obtain ⟨e,rfl,r2,dn,he,eqs⟩:=hy
  have em:max a n = n:=by omega
  rw [em] at dn he eqs ⊢
  exact q n e y r2 han (Nat.le_refl _) dn he eqs
def Goes2 (lo n:Nat) (k:DescSt→StateT SortSt Sem (Option Nat)):Prop:=∃ k1,Goes k1∧∀ m e,k (none,m,e) = if e > 0 then reverseSlice' (lo + m - (e + 1)) (lo + m) >>= fun _ => reverseSlice' lo (lo + m) >>= fun _ => cUp lo m n >>= k1 else reverseSlice' lo (lo + m) >>= fun _ => cUp lo m n >>= k1
theorem cPart_wp {k2:DescSt→StateT SortSt Sem (Option Nat)} {x st:SortSt} {lo a n:Nat} {Q:Option Nat→SortSt→Prop} (hk:Goes2 lo n k2) (O:Orc prog w A s f o z) (hn:lo + n≤z.size) (han:a + 1≤n) (r:Rn f z x lo st) (d:SD o (arrOf st) lo (a + 1))
  (q:∀ m y,Rn f z x lo y→1≤m→m≤n→SU o (arrOf y) lo m→Q (some m) y):wpS (model prog w) A E s (liftM (rule "list.sort.descending-run") >>= fun _ => cDown lo (a + 1) n >>= k2) Q st:=by
 obtain ⟨k1,hk1,hk2⟩:=hk
 refine wpS_bind (wpS_lift (wpAny_rule ⟨rfl,wpS_bind (cDown_wp O hn (by omega) han r d fun m e y r2 h1 h2 dn he eqs => ?_)⟩))
 have hz:lo + m≤(arrOf y).size:=by rw [r2.gd.sz]; omega
 rw [hk2]
 by_cases h0:e > 0
 ·rw [if_pos h0]
  refine wpS_bind (wpS_reverse (cEnd_wp hk1 (a:=m) O hn (by omega) h2 (r2.mir (show lo≤lo + m - (e + 1) by omega) (show lo + m≤_ by omega)) (fun i j hij hj => ?_) q))
  have ek:=KK_mirror_equal hz eqs
  show o.kle (KK o (mirror (arrOf y) (lo + m - (e + 1)) (lo + m) _) (lo + j)) (KK o (mirror (arrOf y) (lo + m - (e + 1)) (lo + m) _) (lo + i))
  rw [ek,ek]
  exact dn i j hij hj
 ·rw [if_neg h0]
  exact cEnd_wp hk1 (a:=m) O hn (by omega) h2 r2 dn q
theorem cnt_wp {st:SortSt} {lo n:Nat} {Q:Option Nat→SortSt→Prop} (O:Orc prog w A s f o z) (hn:lo + n≤z.size) (h1:1≤n) (g:Gd f z st)
  (q:∀ m y,Rn f z st lo y→1≤m→m≤n→SU o (arrOf y) lo m→Q (some m) y):wpS (model prog w) A E s (countRun' lo n) Q st:=by
 rw [countRun'_eq]
 show wpS _ _ _ _ (cUp lo 1 n >>= _) _ _
 have r:=Rn.refl g lo
 refine wpS_bind (cUp_wp O hn (Nat.le_refl 1) h1 r (fun i j hij hj => ?_) fun m m1 m2 up last => ?_)
 ·obtain rfl:i = j:=by omega
  exact KeyOrd.kle_refl _
 show wpS _ _ _ _ (if (m == n) = true then _ else _) _ _
 rcases Nat.lt_or_ge m n with hmn | hmn
 ·rw [if_neg (by rw [beq_iff_eq]; omega)]
  have hl:=last.resolve_left (by omega)
  show wpS _ _ _ _ (if m > 1 then _ else _) _ _
  rcases Nat.lt_or_ge 1 m with hm | hm
  ·rw [if_pos hm]
   refine wpS_bind (lt_g O g (show lo < _ by omega) (show lo + m - 1 < _ by omega) ?_)
   show wpS _ _ _ _ (if o.blt (KK o (arrOf st) lo) (KK o (arrOf st) (lo + m - 1)) = true then _ else _) _ _
   cases hr:o.blt (KK o (arrOf st) lo) (KK o (arrOf st) (lo + m - 1)) with
   | true => rw [if_pos rfl]; exact wpS_pure (q m st r m1 m2 up)
   | false =>
    rw [if_neg Bool.false_ne_true]
    have hz:lo + m≤(arrOf st).size:=by rw [g.sz]; omega
    have eqs:∀ k,lo≤k→k < lo + m→KK o (arrOf st) k = KK o (arrOf st) (lo + m - 1):=fun k k1 k2 => by
     have a1:=up (k - lo) (m - 1) (by omega) (by omega)
     have a2:=up 0 (k - lo) (by omega) (by omega)
     rw [show lo + (k - lo) = k by omega,show lo + (m - 1) = lo + m - 1 by omega] at a1
     rw [show lo + (k - lo) = k by omega,Nat.add_zero] at a2
     exact KeyOrd.kle_antisymm a1 (KeyOrd.kle_trans hr a2)
    have ek:=KK_mirror_equal hz eqs
    refine wpS_bind (wpS_reverse ?_)
    show wpS _ _ _ _ (liftM (rule "list.sort.descending-run") >>= fun _ => cDown lo (m + 1) n >>= _) _ _
    refine cPart_wp ⟨_,fun _ => rfl,fun _ _ => rfl⟩ O hn (by omega) (r.mir (Nat.le_refl _) (by omega)) (SD.more (xs:=arrOf st) ek (fun i j hij hj => ?_) m1 (KeyOrd.kle_of_klt hl)) q
    rw [eqs (lo + i) (by omega) (by omega),eqs (lo + j) (by omega) (by omega)]
    exact KeyOrd.kle_refl _
  ·rw [if_neg (by omega)]
   obtain rfl:m = 1:=by omega
   show wpS _ _ _ _ (liftM (rule "list.sort.descending-run") >>= fun _ => cDown lo (1 + 1) n >>= _) _ _
   refine cPart_wp ⟨_,fun _ => rfl,fun _ _ => rfl⟩ O hn (by omega) r (SD.more (xs:=arrOf st) (fun _ => rfl) (fun i j hij hj => ?_) m1 (KeyOrd.kle_of_klt hl)) q
   obtain rfl:i = j:=by omega
   exact KeyOrd.kle_refl _
 ·rw [if_pos (by rw [beq_iff_eq]; omega)]
  exact wpS_pure (q m st r m1 m2 up)
theorem bin_wp {x st:SortSt} {lo n a:Nat} {Q:Bool→SortSt→Prop} (O:Orc prog w A s f o z) (hn:lo + n≤z.size) (han:a≤n) (r:Rn f z x lo st) (u:SU o (arrOf st) lo a)
  (q:∀ y,Rn f z x lo y→SU o (arrOf y) lo n→Q true y):wpS (model prog w) A E s (binarySort' lo n a) Q st:=by
 rw [binarySort'_eq]
 refine wpS_bind (wpS_mono (wpS_forRange (I:=fun k c y => c = (none,())∧Rn f z x lo y∧SU o (arrOf y) lo (min k n)) (Q:=fun c y => c = (none,())∧Rn f z x lo y∧SU o (arrOf y) lo n) (fun k c y k1 k2 hy => ?_) (fun c y hy => ?_) ⟨rfl,r,fun i j hij hj => ?_⟩) fun c y hy => ?_)
 ·obtain ⟨rfl,b2,up⟩:=hy
  rw [Nat.min_eq_left (by omega)] at up
  have hk:lo + k < z.size:=by omega
  refine wpS_bind (wpS_mono (wpS_forRange (I:=fun i c y' => y' = y∧∃ l r,c = (none,l,r)∧l≤r∧r≤k∧r - l≤k - i∧(∀ g,g < l→o.kle (KK o (arrOf y) (lo + g)) (KK o (arrOf y) (lo + k)))∧∀ g,r≤g→g < k→o.klt (KK o (arrOf y) (lo + k)) (KK o (arrOf y) (lo + g)))
   (Q:=fun c y' => y' = y∧∃ l r,c = (none,l,r)∧l≤k∧(∀ g,g < l→o.kle (KK o (arrOf y) (lo + g)) (KK o (arrOf y) (lo + k)))∧∀ g,l≤g→g < k→o.klt (KK o (arrOf y) (lo + k)) (KK o (arrOf y) (lo + g))) (fun i c y' i1 i2 hy => ?_) (fun c y' hy => ?_) ⟨rfl,0,k,rfl,by omega,by omega,by omega,fun g hg => absurd hg (by omega),fun g p1 p2 => absurd p1 (by omega)⟩) fun c y' hy => ?_)
  ·obtain ⟨rfl,l,r',rfl,lr,rk,fu,lw,hw⟩:=hy
   show wpS _ _ _ _ (if l ≥ r' then _ else _) _ _
   rcases Nat.lt_or_ge l r' with hlr | hlr
   ·rw [if_neg (by omega)]
    refine wpS_bind (lt_g O b2.gd hk (show lo + (l + r') / 2 < _ by omega) ?_)
    show wpS _ _ _ _ (if o.blt (KK o (arrOf y') (lo + k)) (KK o (arrOf y') (lo + (l + r') / 2)) = true then _ else _) _ _
    cases hl:o.blt (KK o (arrOf y') (lo + k)) (KK o (arrOf y') (lo + (l + r') / 2)) with
    | true => rw [if_pos rfl]; exact wpS_pure ⟨rfl,l,(l + r') / 2,rfl,by omega,by omega,by omega,lw,fun g p1 p2 => KeyOrd.klt_of_klt_of_kle hl (up _ _ p1 p2)⟩
    | false => rw [if_neg Bool.false_ne_true]; exact wpS_pure ⟨rfl,(l + r') / 2 + 1,r',rfl,by omega,by omega,by omega,fun g p1 => KeyOrd.kle_trans (up g ((l + r') / 2) (by omega) (by omega)) hl,hw⟩
   ·rw [if_pos hlr]
    obtain rfl:l = r':=by omega
    exact wpS_pure ⟨rfl,l,l,rfl,rk,lw,hw⟩
  ·obtain ⟨rfl,l,r',rfl,lr,rk,fu,lw,hw⟩:=hy
   obtain rfl:l = r':=by omega
   exact ⟨rfl,l,l,rfl,rk,lw,hw⟩
  ·obtain ⟨rfl,l,r',rfl,lk,lw,hw⟩:=hy
   show wpS _ _ _ _ (moveDown' (lo + k) (lo + l) >>= fun _ => pure (ForInStep.yield (none,()))) _ _
   rw [moveDown'_eq]
   have hz:lo + k < (arrOf y').size:=by rw [b2.gd.sz]; exact hk
   refine wpS_bind (wpS_modify (wpS_pure ⟨rfl,⟨⟨(bubble_perm _ _ _).trans b2.gd.pm,b2.gd.kd,b2.gd.fl⟩,b2.pd,fun g hg => ?_⟩,fun i j hij hj => ?_⟩))
   ·show (bubble (arrOf y') (lo + k) (lo + k - (lo + l)))[g]? = _
    rw [getElem?_bubble hz _ (by omega),if_neg (by omega),if_neg (by omega)]
    exact b2.low g hg
   ·have kb:=fun g => KK_bubble (κ:=o) hz (show lo + k - (lo + l)≤lo + k by omega) g
    rw [show lo + k - (lo + k - (lo + l)) = lo + l by omega] at kb
    show o.kle (KK o (bubble (arrOf y') (lo + k) (lo + k - (lo + l))) (lo + i)) (KK o (bubble (arrOf y') (lo + k) (lo + k - (lo + l))) (lo + j))
    rw [kb,kb]
    rw [Nat.min_eq_left (by omega)] at hj
    have dec:∀ g,lo + g - 1 = lo + (g - 1)∨g = 0:=fun g => by omega
    split
    ·split
     ·exact KeyOrd.kle_refl _
     ·split
      ·rw [show lo + j - 1 = lo + (j - 1) by omega]
       exact KeyOrd.kle_of_klt (hw _ (by omega) (by omega))
      ·exact absurd hij (by omega)
    ·split
     ·split
      ·exact absurd hij (by omega)
      ·split
       ·rw [show lo + i - 1 = lo + (i - 1) by omega,show lo + j - 1 = lo + (j - 1) by omega]
        exact up _ _ (by omega) (by omega)
       ·exact absurd hij (by omega)
     ·split
      ·exact lw _ (by omega)
      ·split
       ·rw [show lo + j - 1 = lo + (j - 1) by omega]
        exact up _ _ (by omega) (by omega)
       ·exact up _ _ (by omega) (by omega)
 ·obtain ⟨rfl,b2,up⟩:=hy
  rw [Nat.min_eq_right (by omega)] at up
  exact ⟨rfl,b2,up⟩
 ·rcases Nat.eq_zero_or_pos a with h0 | h0
  ·obtain rfl:i = j:=by omega
   exact KeyOrd.kle_refl _
  ·exact u i j hij (by omega)
 ·obtain ⟨rfl,b2,up⟩:=hy
  exact wpS_pure (q y b2 up)
end
end TS
namespace TS
open PySem PyProof.Rows L2
def Cov (o:KeyKind) (xs:Array Keyed):List (Nat × Nat)→Nat→Nat→Prop
 | [],lo,hi => lo = hi
 | (a,n) :: r,lo,hi => a = lo∧1≤n∧Up o (seg xs lo n)∧Cov o xs r (lo + n) hi
def pr (t:Nat × Nat × Nat):Nat × Nat:=(t.1,t.2.1)
def runs (y:SortSt):List (Nat × Nat):=(pendingOf y).toList.map pr
section
variable {prog:Program} {w:World} {A:Around} {E:Value→Shared→Prop} {s:Shared} {f:Bool} {z:Array Keyed} {o:KeyKind}
theorem Cov.le {xs:Array Keyed}:∀ {l:List (Nat × Nat)} {lo hi:Nat},Cov o xs l lo hi→lo + l.length≤hi
 | [],lo,hi,h => Nat.le_of_eq h
 | (a,n) :: r,lo,hi,⟨_,h1,_,h2⟩ => by
  have:=h2.le
  rw [List.length_cons]; omega
theorem Cov.congr {xs ys:Array Keyed}:∀ {l:List (Nat × Nat)} {lo hi:Nat},Cov o xs l lo hi→(∀ k n,lo≤k→k + n≤hi→seg ys k n = seg xs k n)→Cov o ys l lo hi
 | [],lo,hi,h,_ => h
 | (a,n) :: r,lo,hi,⟨h0,h1,u,h2⟩,e => by
  have:=h2.le
  exact ⟨h0,h1,by rw [e lo n (Nat.le_refl _) (by omega)]; exact u,h2.congr fun k m hk hm => e k m (by omega) hm⟩
theorem Cov.app {xs:Array Keyed}:∀ {l1 l2:List (Nat × Nat)} {lo hi:Nat},Cov o xs (l1 ++ l2) lo hi→∃ mid,Cov o xs l1 lo mid∧Cov o xs l2 mid hi
 | [],l2,lo,hi,h => ⟨lo,rfl,h⟩
 | (a,n) :: r,l2,lo,hi,⟨h0,h1,u,h2⟩ => by
  obtain ⟨mid,c1,c2⟩:=Cov.app h2
  exact ⟨mid,⟨h0,h1,u,c1⟩,c2⟩
theorem Cov.join {xs:Array Keyed}:∀ {l1 l2:List (Nat × Nat)} {lo mid hi:Nat},Cov o xs l1 lo mid→Cov o xs l2 mid hi→Cov o xs (l1 ++ l2) lo hi
 | [],l2,lo,mid,hi,h,c => by obtain rfl:lo = mid:=h; exact c
 | (a,n) :: r,l2,lo,mid,hi,⟨h0,h1,u,h2⟩,c => ⟨h0,h1,u,h2.join c⟩
theorem mAt_cov {st:SortSt} {i hi:Nat} {Q:Bool→SortSt→Prop} (O:Orc prog w A s f o z) (g:Gd f z st) (c:Cov o (arrOf st) (runs st) 0 hi) (hh:hi≤z.size) (hi2:i + 1 < (pendingOf st).size)
  (q:∀ y,Gd f z y→Cov o (arrOf y) (runs y) 0 hi→(pendingOf y).size + 1 = (pendingOf st).size→(∀ k n,hi≤k→seg (arrOf y) k n = seg (arrOf st) k n)→Q true y):wpS (model prog w) A E s (mergeAt' i) Q st:=by
 obtain ⟨l1,x1,x2,l2,hl,h1⟩:∃ l1 x1 x2 l2,(pendingOf st).toList = l1 ++ x1 :: x2 :: l2∧l1.length = i:=by
  have h1:i + 1 < (pendingOf st).toList.length:=by rw [Array.length_toList]; exact hi2
  refine ⟨(pendingOf st).toList.take i,(pendingOf st).toList[i],(pendingOf st).toList[i + 1],(pendingOf st).toList.drop (i + 2),?_,by rw [List.length_take]; omega⟩
  have e:=(List.take_append_drop i (pendingOf st).toList).symm
  rw [List.drop_eq_getElem_cons (by omega),List.drop_eq_getElem_cons h1] at e
  exact e
 obtain ⟨sa,na,pa⟩:=x1
 obtain ⟨sb,nb,pb⟩:=x2
 have er:runs st = l1.map pr ++ (sa,na) :: (sb,nb) :: l2.map pr:=by
  unfold runs
  rw [hl,List.map_append,List.map_cons,List.map_cons]; rfl
 rw [er] at c
 obtain ⟨mid,c1,h2,n1,u1,h3,n2,u2,c2⟩:=c.app
 subst h2
 subst h3
 have l3:=c2.le
 rw [← h1]
 refine mAt_wp O g hl rfl n1 n2 (by omega) u1 u2 fun y gy py up low high => q y gy ?_ ?_ fun k n hk => high k n (by omega)
 ·have ey:runs y = l1.map pr ++ (sa,na + nb) :: l2.map pr:=by
   unfold runs
   rw [py,List.map_append,List.map_cons]; rfl
  rw [ey]
  refine Cov.join (c1.congr fun k n _ hk => low k n hk) ⟨rfl,by omega,up,?_⟩
  rw [← Nat.add_assoc]
  exact c2.congr fun k n hk _ => high k n hk
 ·have e1:=congrArg List.length py
  have e2:=congrArg List.length hl
  simp only [Array.length_toList,List.length_append,List.length_cons] at e1 e2
  omega
theorem seg_low {xs ys:Array Keyed} {k n lo:Nat} (h:∀ i,i < lo→ys[i]? = xs[i]?) (hk:k + n≤lo):seg ys k n = seg xs k n:=by
 apply List.ext_getElem?
 intro i
 unfold seg
 rw [List.getElem?_take,List.getElem?_take]
 split
 ·rw [List.getElem?_drop,List.getElem?_drop,Array.getElem?_toList,Array.getElem?_toList]
  exact h _ (by omega)
 ·rfl
theorem SU.up {xs:Array Keyed} {lo m:Nat} (u:SU o xs lo m) (h:lo + m≤xs.size):Up o (seg xs lo m):=by
 have kk:∀ {k} (hk:k < xs.size),KK o xs k = kv o xs[k]:=fun {k} hk => by unfold KK; rw [getElem?_pos xs k hk]; rfl
 refine List.pairwise_iff_getElem.mpr fun i j hi hj hij => ?_
 rw [seg_len h] at hi hj
 rw [seg_get _ (by omega),seg_get _ (by omega)]
 have:=u i j (by omega) hj
 rw [kk (by omega),kk (by omega)] at this
 exact this
theorem pend_mod {ps:Array (Nat × Nat × Nat)} {i pw:Nat}:(ps.modify i fun (t:Nat × Nat × Nat) => match t with | (a,n,_) => (a,n,pw)).toList.map pr = ps.toList.map pr:=by
 apply List.ext_getElem?
 intro k
 rw [List.getElem?_map,List.getElem?_map,Array.getElem?_toList,Array.getElem?_toList,Array.getElem?_modify]
 split
 ·cases ps[k]? with
  | none => rfl
  | some t => rfl
 ·rfl
structure Bt (o:KeyKind) (f:Bool) (z:Array Keyed) (lo:Nat) (y:SortSt):Prop where
 gd:Gd f z y
 cv:Cov o (arrOf y) (runs y) 0 lo
def mLoop (n pw:Nat):StateT SortSt Sem (Option Unit × Unit) :=
 forIn [0:n] ((none,()):Option Unit × Unit) fun _ _ => do
  let p:=pendingOf (← get)
  let some (_,_,older):=(if p.size > 1 then p[p.size - 2]? else none) | pure (.done (none,()))
  if older≤pw then pure (.done (none,()))
  else
   if !(← mergeAt' (p.size - 2)) then pure (.done (some (),())) else pure (.yield (none,()))
theorem mLoop_wp {st:SortSt} {n pw lo m:Nat} {Q:Option Unit × Unit→SortSt→Prop} (O:Orc prog w A s f o z) (b:Bt o f z lo st) (hl:lo≤z.size) (u:Up o (seg (arrOf st) lo m)) (q:∀ y,Bt o f z lo y→Up o (seg (arrOf y) lo m)→Q (none,()) y):wpS (model prog w) A E s (mLoop n pw) Q st:=by
 refine wpS_forRange (I:=fun _ c y => c = (none,())∧Bt o f z lo y∧Up o (seg (arrOf y) lo m)) (fun i c y _ _ hy => ?_) (fun c y hy => ?_) ⟨rfl,b,u⟩
 ·obtain ⟨rfl,b1,u1⟩:=hy
  refine wpS_bind (wpS_get ?_)
  dsimp only
  rcases Nat.lt_or_ge 1 (pendingOf y).size with h1 | h1
  ·rw [if_pos h1,getElem?_pos (pendingOf y) _ (show (pendingOf y).size - 2 < _ by omega)]
   show wpS _ _ _ _ (if _≤pw then _ else _) _ _
   split
   ·exact wpS_pure (q y b1 u1)
   ·refine wpS_bind (mAt_cov O b1.gd b1.cv hl (by omega) fun y2 g2 c2 _ hi2 => ?_)
    exact wpS_pure ⟨rfl,⟨g2,c2⟩,by rw [hi2 lo m (Nat.le_refl _)]; exact u1⟩
  ·rw [if_neg (by omega)]
   exact wpS_pure (q y b1 u1)
 ·obtain ⟨rfl,b1,u1⟩:=hy
  exact q y b1 u1
theorem Bt.add {lo m:Nat} {y:SortSt} (b:Bt o f z lo y) (u:Up o (seg (arrOf y) lo m)) (hm:1≤m):Bt o f z (lo + m) (setPending y ((pendingOf y).push (lo,m,0))):=by
 refine ⟨⟨b.gd.pm,b.gd.kd,b.gd.fl⟩,?_⟩
 have e:runs (setPending y ((pendingOf y).push (lo,m,0))) = runs y ++ [(lo,m)]:=by
  show ((pendingOf y).push (lo,m,0)).toList.map pr = _
  rw [Array.toList_push,List.map_append]; rfl
 show Cov o (arrOf y) (runs (setPending y ((pendingOf y).push (lo,m,0)))) 0 (lo + m)
 rw [e]
 exact b.cv.join ⟨rfl,hm,u,rfl⟩
theorem Bt.mod {lo i pw:Nat} {y:SortSt} (b:Bt o f z lo y):Bt o f z lo (setPending y ((pendingOf y).modify i fun (t:Nat × Nat × Nat) => match t with | (a,n,_) => (a,n,pw))):=by
 refine ⟨⟨b.gd.pm,b.gd.kd,b.gd.fl⟩,?_⟩
 show Cov o (arrOf y) (((pendingOf y).modify i fun (t:Nat × Nat × Nat) => match t with | (a,n,_) => (a,n,pw)).toList.map pr) 0 lo
 rw [pend_mod]
 exact b.cv
theorem Bt.run {lo:Nat} {x y:SortSt} (b:Bt o f z lo x) (r:Rn f z x lo y):Bt o f z lo y:=by
 refine ⟨r.gd,?_⟩
 have e:runs y = runs x:=by unfold runs; rw [r.pd]
 rw [e]
 exact b.cv.congr fun k n _ hk => seg_low r.low hk
theorem sort_wp {st:SortSt} {Q:Unit→SortSt→Prop} (O:Orc prog w A s f o z) (g:Gd f z st) (p0:pendingOf st = #[]) (h2:2≤z.size)
  (q:∀ y,Gd f z y→Up o (arrOf y).toList→Q () y):wpS (model prog w) A E s sortRuns' Q st:=by
 rw [sortRuns'_eq]
 refine wpS_bind (wpS_get ?_)
 simp only [g.sz]
 generalize minRun' z.size z.size 0 = mr
 have b0:Bt o f z 0 st:=⟨g,by unfold runs; rw [p0]; rfl⟩
 refine wpS_bind (wpS_mono (wpS_forRange (I:=fun i c y => c.1 = none∧c.2≤z.size∧i≤c.2∧Bt o f z c.2 y) (Q:=fun c y => c = (none,z.size)∧Bt o f z z.size y) (fun i c y _ hi hy => ?_) (fun c y hy => ?_) ⟨rfl,Nat.zero_le _,Nat.le_refl _,b0⟩) fun c y hy => ?_)
 ·obtain ⟨c1,lo⟩:=c
  obtain ⟨e1,hl,hil,b⟩:=hy
  change c1 = none at e1
  change lo≤z.size at hl
  change i≤lo at hil
  change Bt o f z lo y at b
  subst e1
  show wpS _ _ _ _ (if lo ≥ z.size then _ else _) _ _
  rcases Nat.lt_or_ge lo z.size with hlo | hlo
  ·rw [if_neg (by omega)]
   refine wpS_bind (cnt_wp O (show lo + (z.size - lo)≤_ by omega) (by omega) b.gd fun m y1 r1 m1 m2 su => ?_)
   have tail:∀ (y2:SortSt) (k:Nat),Bt o f z lo y2→Up o (seg (arrOf y2) lo k)→1≤k→lo + k≤z.size→∀ c:Option Unit × Nat,c = (none,lo + k)→c.1 = none∧c.2≤z.size∧i + 1≤c.2∧Bt o f z c.2 (setPending y2 ((pendingOf y2).push (lo,k,0))):=fun y2 k b2 u2 k1 k2 c hc => by
    subst hc
    exact ⟨rfl,k2,by show i + 1≤lo + k; omega,b2.add u2 k1⟩
   show wpS _ _ _ _ (if m < mr then _ else _) _ _
   have rest:∀ (y2:SortSt) (k:Nat),Rn f z y lo y2→SU o (arrOf y2) lo k→1≤k→lo + k≤z.size→Bt o f z lo y2∧Up o (seg (arrOf y2) lo k):=fun y2 k r2 su2 k1 k2 => ⟨b.run r2,su2.up (by rw [r2.gd.sz]; exact k2)⟩
   split
   ·refine wpS_bind (wpS_lift (wpAny_rule ⟨rfl,wpS_bind (bin_wp (x:=y) O (show lo + min (z.size - lo) mr≤_ by omega) (by omega) r1 su fun y2 r2 su2 => ?_)⟩))
    obtain ⟨b2,u2⟩:=rest y2 _ r2 su2 (by omega) (by omega)
    refine wpS_bind (wpS_get ?_)
    cases hb:(pendingOf y2).back? with
    | none => exact wpS_bind (wpS_modify (wpS_pure (tail y2 _ b2 u2 (by omega) (by omega) _ rfl)))
    | some t =>
     obtain ⟨s1,n1,p1⟩:=t
     show wpS _ _ _ _ (mLoop z.size _ >>= _) _ _
     refine wpS_bind (mLoop_wp O b2 hl u2 fun y3 b3 u3 => ?_)
     exact wpS_bind (wpS_modify (wpS_bind (wpS_modify (wpS_pure (tail _ _ b3.mod u3 (by omega) (by omega) _ rfl)))))
   ·obtain ⟨b2,u2⟩:=rest y1 _ r1 su m1 (by omega)
    refine wpS_bind (wpS_get ?_)
    cases hb:(pendingOf y1).back? with
    | none => exact wpS_bind (wpS_modify (wpS_pure (tail y1 _ b2 u2 m1 (by omega) _ rfl)))
    | some t =>
     obtain ⟨s1,n1,p1⟩:=t
     show wpS _ _ _ _ (mLoop z.size _ >>= _) _ _
     refine wpS_bind (mLoop_wp O b2 hl u2 fun y3 b3 u3 => ?_)
     exact wpS_bind (wpS_modify (wpS_bind (wpS_modify (wpS_pure (tail _ _ b3.mod u3 m1 (by omega) _ rfl)))))
  ·rw [if_pos hlo]
   obtain rfl:lo = z.size:=by omega
   exact wpS_pure ⟨rfl,b⟩
 ·obtain ⟨c1,lo⟩:=c
  obtain ⟨e1,hl,hil,b⟩:=hy
  change c1 = none at e1
  change lo≤z.size at hl
  change max 0 z.size≤lo at hil
  change Bt o f z lo y at b
  obtain rfl:lo = z.size:=by omega
  subst e1
  exact ⟨rfl,b⟩
 ·obtain ⟨rfl,b⟩:=hy
  have len:∀ y',Bt o f z z.size y'→(pendingOf y').size≤z.size:=fun y' b' => by
   have:=b'.cv.le
   unfold runs at this
   rw [List.length_map,Array.length_toList] at this
   omega
  refine wpS_bind (wpS_mono (wpS_forRange (I:=fun i c y => c = (none,())∧Bt o f z z.size y∧((pendingOf y).size≤1∨(pendingOf y).size + i≤z.size)) (Q:=fun c y => c = (none,())∧Bt o f z z.size y∧(pendingOf y).size≤1) (fun i c y _ _ hy => ?_) (fun c y hy => ?_) ⟨rfl,b,.inr (by have:=len y b; omega)⟩) fun c y hy => ?_)
  ·obtain ⟨rfl,b1,hp⟩:=hy
   refine wpS_bind (wpS_get ?_)
   show wpS _ _ _ _ (if (pendingOf y).size≤1 then _ else _) _ _
   rcases Nat.lt_or_ge 1 (pendingOf y).size with h1 | h1
   ·rw [if_neg (by omega)]
    have fin:∀ k,k + 1 < (pendingOf y).size→∀ {R:Bool→SortSt→Prop},(∀ y2,Bt o f z z.size y2→(pendingOf y2).size + 1 = (pendingOf y).size→R true y2)→wpS (model prog w) A E s (mergeAt' k) R y:=fun k hk R hR => mAt_cov O b1.gd b1.cv (Nat.le_refl _) hk fun y2 g2 c2 e2 _ => hR y2 ⟨g2,c2⟩ e2
    refine wpS_bind (fin _ ?_ fun y2 b2 e2 => wpS_pure ⟨rfl,b2,.inr (by omega)⟩)
    have hi:∀ bb:Bool,(if bb = true then (pendingOf y).size - 2 - 1 else (pendingOf y).size - 2) + 1 < (pendingOf y).size:=fun bb => by
     cases bb
     ·rw [if_neg Bool.false_ne_true]; omega
     ·rw [if_pos rfl]; omega
    exact hi _
   ·rw [if_pos h1]
    exact wpS_pure ⟨rfl,b1,h1⟩
  ·obtain ⟨rfl,b1,hp⟩:=hy
   exact ⟨rfl,b1,by omega⟩
  ·obtain ⟨rfl,b1,hp⟩:=hy
   refine wpS_pure (q y b1.gd ?_)
   have cv:=b1.cv
   have hlen:(runs y).length≤1:=by unfold runs; rw [List.length_map,Array.length_toList]; exact hp
   match hr:runs y,hlen with
   | [],_ =>
    rw [hr] at cv
    have:(0:Nat) = z.size:=cv
    omega
   | [(a,n)],_ =>
    rw [hr] at cv
    obtain ⟨_,_,u,e⟩:=cv
    have e2:0 + n = z.size:=e
    have e3:seg (arrOf y) 0 n = (arrOf y).toList:=by
     unfold seg
     rw [List.drop_zero]
     exact List.take_of_length_le (by rw [Array.length_toList,b1.gd.sz]; omega)
    rw [e3] at u
    exact u
end
end TS
namespace TS
open PySem PyProof.Rows L2
def Dct (h:Heap) (d:Addr) (es:Array DictEntry) (ep:Nat):Prop:=∃ ob,h.get? d = some ob∧ob.ExactDict∧ob.data = .dict es ep
theorem Dct.typeIs {s:Shared} {d:Addr} {es:Array DictEntry} {ep:Nat} (x:Dct s.heap d es ep):s.TypeIs (.ref d) "dict":=by
 obtain ⟨ob,e,c,_⟩:=x
 exact ⟨ob,e,c.1⟩
section
variable {prog:Program} {w:World} {A:Around} {E:Value→Shared→Prop} {s:Shared} {d t:Addr} {es:Array DictEntry} {ep i:Nat}
theorem iter_dct {Q:Value→Shared→Prop} (hd:(d == sysModules) = false) (x:Dct s.heap d es ep)
  (q:Q (.ref s.heap.objs.size) { s with heap:=s.heap.push { cls:=.type "dict_keyiterator",data:=.fields #[.ref d,.int 0 0,.int es.size 0,.int ep 0] } }):wpAny (model prog w) A (pyIter (.ref d)) Q E s:=by
 have ty:=x.typeIs
 obtain ⟨ob,e,c,dt⟩:=x
 refine wpAny_pyIter_slot ty F.slot_dict_iter (wpAny_call_entry F.slot_dict_iter ty F.entry_dict_iter (wpAny_bind ?_) (F.args_dict_iter_1 _))
 refine wpAny_bind (wpAny_notOrdered_dict ty ?_)
 show wpAny _ _ (pure (Value.ref d)) _ _ s
 refine wpAny_pure ?_
 show wpAny _ _ (Builtin.Dict.showsAll d >>= _) _ _ s
 unfold Builtin.Dict.showsAll
 rw [if_neg (by rw [hd]; decide)]
 refine wpAny_bind (wpAny_pure (wpAny_bind (wpAny_dictEntries e dt (wpAny_bind (wpAny_dictEpoch e dt ?_)))))
 exact wpAny_bind (wpAny_newObj_type (wpAny_pure ⟨_,rfl,"dict_keyiterator",_,⟨_,Heap.get?_push_size _ rfl,rfl⟩,F.slot_dict_keyiterator_next.lookup,q⟩))
theorem next_dct {Q:Option Value→Shared→Prop} (k:s.heap.IsKeyIter t d i es.size ep) (x:Dct s.heap d es ep) (hi:i < es.size)
  (q:∀ h',h'.IsKeyIter t d (i + 1) es.size ep→Heap.SameBut t s.heap h'→Q (some es[i].key) { s with heap:=h' }):wpAny (model prog w) A (pyNext (.ref t)) Q E s:=by
 have ty:=k.typeIs
 obtain ⟨oi,e,c,dt⟩:=id k
 obtain ⟨ob,e2,_,dt2⟩:=x
 refine wpAny_bind (wpAny_attempt (wpAny_callSpecial?_slot (name:=Str.ofString "__next__") ty F.slot_dict_keyiterator_next (wpAny_call_entry F.slot_dict_keyiterator_next ty F.entry_dict_keyiterator_next (wpAny_bind (wpAny_pure (wpAny_bind (wpAny_bind ?_)))) (F.args_dict_keyiterator_next_1 _))))
 refine wpAny_bind (wpAny_typeNameOfWhole_keyiter ty (wpAny_pure (wpAny_bind (wpAny_fieldsOf e dt ?_))))
 rw [show Builtin.Dict_items.ownsTuple "dict_keyiterator" = false by decide]
 show wpAny _ _ (if (Value.ref d == Value.none) = true then _ else _) _ _ s
 rw [if_neg (fun z => Bool.false_ne_true z)]
 refine wpAny_bind (wpAny_pure (wpAny_bind (wpAny_dictEntries e2 dt2 ?_)))
 rw [if_neg (by simp)]
 refine wpAny_bind (wpAny_pure (wpAny_bind (wpAny_dictEpoch e2 dt2 ?_)))
 rw [if_neg (by simp)]
 refine wpAny_pure ?_
 simp only [show ¬ ((i:Int) < 0) by omega,if_false,Int.toNat_natCast,Array.getElem?_eq_getElem hi]
 refine wpAny_bind (wpAny_bind (wpAny_typeNameOfWhole_keyiter ty (wpAny_pure (wpAny_bind (wpAny_isOneOf_keyiter ty ?_)))))
 show wpAny _ _ (setField (.ref t) 1 (rawInt ((i:Int) + 1)) >>= _) _ _ s
 refine wpAny_bind (wpAny_setField e dt (by simp) ?_)
 have k2:(s.heap.update t (Obj.mapFields (·.setIfInBounds 1 (rawInt ((i:Int) + 1))))).IsKeyIter t d (i + 1) es.size ep:=⟨_,Heap.get?_update_self _ e (Obj.isFreed_of_fields (Obj.data_mapFields dt _)),(Obj.cls_mapFields ..).trans c,by rw [Obj.data_mapFields dt]; simp [rawInt]⟩
 refine wpAny_bind (wpAny_holding (wpAny_bind (wpAny_isOneOf_keyiter (s:={ s with heap:=s.heap.update t (Obj.mapFields (·.setIfInBounds 1 (rawInt ((i:Int) + 1)))) }) k2.typeIs ?_)))
 show wpAny _ _ (pure es[i].key) _ _ _
 exact wpAny_pure (wpAny_pure ⟨_,rfl,wpAny_pure (q _ k2 (Heap.SameBut.update ..))⟩)
theorem stop_dct {Q:Option Value→Shared→Prop} (hh:A.handled = none) (k:s.heap.IsKeyIter t d i es.size ep) (x:Dct s.heap d es ep) (hi:es.size≤i)
  (q:∀ h',Heap.ExtBut t s.heap h'→Q none { s with heap:=h' }):wpAny (model prog w) A (pyNext (.ref t)) Q E s:=by
 have ty:=k.typeIs
 obtain ⟨oi,e,c,dt⟩:=id k
 obtain ⟨ob,e2,_,dt2⟩:=x
 refine wpAny_bind (wpAny_attempt (wpAny_callSpecial?_slot (name:=Str.ofString "__next__") ty F.slot_dict_keyiterator_next (wpAny_call_entry F.slot_dict_keyiterator_next ty F.entry_dict_keyiterator_next (wpAny_bind (wpAny_pure (wpAny_bind (wpAny_bind ?_)))) (F.args_dict_keyiterator_next_1 _))))
 refine wpAny_bind (wpAny_typeNameOfWhole_keyiter ty (wpAny_pure (wpAny_bind (wpAny_fieldsOf e dt ?_))))
 rw [show Builtin.Dict_items.ownsTuple "dict_keyiterator" = false by decide]
 show wpAny _ _ (if (Value.ref d == Value.none) = true then _ else _) _ _ s
 rw [if_neg (fun z => Bool.false_ne_true z)]
 refine wpAny_bind (wpAny_pure (wpAny_bind (wpAny_dictEntries e2 dt2 ?_)))
 rw [if_neg (by simp)]
 refine wpAny_bind (wpAny_pure (wpAny_bind (wpAny_dictEpoch e2 dt2 ?_)))
 rw [if_neg (by simp)]
 refine wpAny_pure ?_
 simp only [show ¬ ((i:Int) < 0) by omega,if_false,Int.toNat_natCast,Array.getElem?_eq_none hi]
 refine wpAny_bind (wpAny_bind (wpAny_typeNameOfWhole_keyiter ty (wpAny_pure ?_)))
 show wpAny _ _ (setField (.ref t) 0 .none >>= _) _ _ s
 refine wpAny_bind (wpAny_setField e dt (by simp) ?_)
 show wpAny _ _ (newExc (.type "StopIteration") [] >>= _) _ _ _
 refine wpAny_bind ?_
 simp only [newExc,newTuple]
 refine wpAny_bind (wpAny_newObj_type (wpAny_bind (m:=firstArgMember _ _) (wpAny_of_eq (a:=Value.none) (by simp only [firstArgMember]; rfl) (wpAny_newObj_type ?_ (by size_fits)))) (by size_fits))
 simp only [raiseNew]
 refine wpAny_bind (wpAny_handled ?_)
 rw [show A.in1.handled = none from hh]
 refine wpAny_bind (wpAny_pure (wpAny_throw ?_))
 exact wpAny_bind (wpAny_isInstance (T:="StopIteration") (b:=true) ⟨_,Heap.get?_push_size _ rfl,rfl⟩ isSubtype_stop (wpAny_pure (q _ (((Heap.SameBut.update ..).extBut.push _).push _))))
theorem Dct.keep {h h':Heap} (x:Dct h d es ep) (k:∀ o,h.get? d = some o→h'.get? d = some o):Dct h' d es ep:=by
 obtain ⟨ob,e,c⟩:=x
 exact ⟨ob,k _ e,c⟩
theorem src_dct (hd:(d == sysModules) = false):PySem.W.KdlSrc prog w "dict" d d es.size (fun i v => ∃ hi:i < es.size,v = es[i].key) (fun h => Dct h d es ep) where
 type:=fun _ x => x.typeIs
 there:=fun _ x => by obtain ⟨ob,e,_⟩:=x; exact ⟨Heap.lt_size e,Heap.lt_size e⟩
 keep:=fun _ _ x k => x.keep fun o e => k d (.inl rfl) o e
 notList:=by decide
 notTuple:=by decide
 hint:=fun _ _ _ _ x q => PySem.W.kdl_hint_dict x.typeIs q
 iter:=fun A s hh x => by
  have hlt:d < s.heap.objs.size:=by obtain ⟨ob,e,_⟩:=x; exact Heap.lt_size e
  refine ⟨{ cls:=.type "dict_keyiterator",data:=.fields #[.ref d,.int 0 0,.int es.size 0,.int ep 0] },fun i h => h.IsKeyIter s.heap.objs.size d i es.size ep∧Dct h d es ep,fun E Q q => iter_dct hd x q,?_,⟨_,Heap.get?_push_size _ rfl,rfl,rfl⟩,x.keep fun o e => Heap.get?_push_of_some _ e⟩
  refine ⟨fun b hb => by simp at hb; simp [hb],fun i h h' st k => ⟨?_,st.2.keep fun o e => k d (by simp) o e⟩,fun i s' Q E hi st q => ?_,fun s' Q E st q => ?_,fun i s' Q E st q => wpAny_pyIter_keyiter st.1 q⟩
  ·obtain ⟨ob,e,r⟩:=st.1
   exact ⟨ob,k _ (by simp) ob e,r⟩
  ·refine next_dct st.1 st.2 hi fun h' k' sb => q _ h' s'.toks ⟨hi,rfl⟩ ⟨k',st.2.keep fun o e => sb.extBut d o (Nat.ne_of_lt hlt) e⟩ fun b o hb e => sb.extBut b o (fun z => hb (by simp [z])) e
  ·refine stop_dct hh st.1 st.2 (Nat.le_refl _) fun h' eb => q h' s'.toks fun b o hb e => eb b o (fun z => hb (by simp [z])) e
theorem run_dct {Q:Value→Shared→Prop} (hh:A.handled = none) (hd:(d == sysModules) = false) (x:Dct s.heap d es ep) (hn:es.size≤sizeLine)
  (q:∀ h' tk acc c,(∀ b o,s.heap.get? b = some o→h'.get? b = some o)→h'.get? s.heap.objs.size = some { cls:=.type "list",dict:=none,data:=.seq acc c,slots:=#[] }→ItemsOf (fun i v => ∃ hi:i < es.size,v = es[i].key) acc es.size→Q (.ref s.heap.objs.size) { s with heap:=h',toks:=tk }) :
  wpAny (model prog w) A (runValue (.builtin "proto.collect" ⟨[.ref d],[]⟩)) Q E s:=by
 have hlt:d < s.heap.objs.size:=by obtain ⟨ob,e,_⟩:=x; exact Heap.lt_size e
 have ne:s.heap.objs.size≠d:=Nat.ne_of_gt hlt
 refine wpAny_runValue (codeAny_builtin F.entry_proto_collect ?_)
 rw [Around.under_plainId F.plain_proto_collect _]
 refine wpAny_bind (m:=newList []) (wpAny_newObj_type (wpAny_pure ⟨plainId_quiet F.plain_list_iadd _,codeAny_builtin F.entry_list_iadd ?_⟩))
 rw [Around.under_plainId F.plain_list_iadd _]
 have x2:Dct (s.heap.push { cls:=.type "list",data:=.seq ([]:List Value).toArray }) d es ep:=x.keep fun o e => Heap.get?_push_of_some _ e
 exact PySem.W.kdl_extend (s:={ s with heap:=s.heap.push { cls:=.type "list",data:=.seq ([]:List Value).toArray } }) (R:=fun r s' => match r with | .ok (.ret v) => Q v s' | .ok _ => False | .error e => E e s') (src_dct (es:=es) (ep:=ep) hd) hh x2 _ ne ne (.ref s.heap.objs.size) 0 (Heap.get?_push_size _ rfl)
  (fun h' tk acc c kp e items => q h' tk acc c (fun b o hb => kp b o (Nat.ne_of_lt (Heap.lt_size hb)) (Heap.get?_push_of_some _ hb)) e items) hn
theorem collect_dct {Q:List Value→Shared→Prop} (hh:A.handled = none) (hd:(d == sysModules) = false) (x:Dct s.heap d es ep) (hn:es.size≤sizeLine)
  (q:∀ h' tk,(∀ b o,s.heap.get? b = some o→h'.get? b = some o)→s.heap.objs.size < h'.objs.size→Q (es.toList.map (·.key)) { s with heap:=h',toks:=tk }):wpAny (model prog w) A (collect (.ref d)) Q E s:=by
 refine wpAny_bind (run_dct hh hd x hn fun h' tk acc c kp e items => ?_)
 show wpAny _ A (load s.heap.objs.size >>= _) _ _ _
 refine wpAny_bind (wpAny_load e (wpAny_pure ?_))
 have ea:acc.toList = es.toList.map (·.key):=by
  apply List.ext_getElem?
  intro k
  rw [List.getElem?_map,Array.getElem?_toList,Array.getElem?_toList]
  rcases Nat.lt_or_ge k es.size with hk | hk
  ·have h1:k < acc.size:=by rw [items.1]; exact hk
   rw [getElem?_pos es k hk,getElem?_pos acc k h1]
   obtain ⟨_,e2⟩:=items.2 k acc[k] (getElem?_pos acc k h1)
   rw [e2]; rfl
  ·rw [getElem?_neg es k (by omega),getElem?_neg acc k (by rw [items.1]; omega)]; rfl
 rw [ea]
 exact q h' tk kp (Heap.lt_size e)
end
end TS
namespace TS
open PySem PyProof.Rows L2
section
variable {prog:Program} {w:World} {A:Around} {E:Value→Shared→Prop} {s:Shared}
theorem TupAt.keep {h h':Heap} {v:Value} {ks:List L2.Key} (t:TupAt h v ks) (k:∀ b o,h.get? b = some o→h'.get? b = some o):TupAt h' v ks:=by
 obtain ⟨b,o2,us,n,rfl,e,r⟩:=t
 exact ⟨b,o2,us,n,rfl,k _ _ e,r⟩
theorem out_up {kc:Value→List L2.Key} {vs:List Value} {y:Array Keyed} (pm:y.Perm (pairsOf vs)) (up:Up (kind kc) y.toList) :
  ∃ out:List Value,(y.map (·.2)) = out.toArray∧out.Perm vs∧out.Pairwise fun u v => lx (kc v) (kc u) = false:=by
 have pl:y.toList.Perm (vs.zip vs):=pairsOf_toList vs▸Array.perm_iff_toList_perm.mp pm
 have hm:∀ p∈y.toList,p.1 = p.2:=fun p hp => (mem_zip_self (pl.mem_iff.mp hp)).1
 refine ⟨y.toList.map (·.2),by rw [← Array.toList_map,Array.toArray_toList],?_,?_⟩
 ·have:=pl.map Prod.snd
  rwa [List.map_snd_zip (Nat.le_refl _)] at this
 ·refine List.pairwise_map.mpr (up.imp_of_mem fun {p q} hp hq h => ?_)
  rw [← hm p hp,← hm q hq]
  exact h
theorem sort_any {a:Addr} {vs:List Value} {n:Nat} {P:Fin→Shared→Prop} {kc:Value→List L2.Key} {d:List Bool} (ho:s.heap.get? a = some (seqObj "list" vs.toArray n)) (ht:∀ v∈vs,TupAt s.heap v (kc v)) (hs:∀ v∈vs,sd (kc v) = d) (hd:d≠[]) (hl:vs.length≤sizeLine)
  (q:∀ out:List Value,out.Perm vs→(out.Pairwise fun u v => lx (kc v) (kc u) = false)→P (.done (.ret .none)) { s with heap:=sortedHeap s.heap a vs out.toArray }):wpAny (model prog w) A (Builtin.«list.sort» ⟨[.ref a],[]⟩) P E s:=by
 rw [list_sort_plain]
 refine wpAny_bind (listItems_at ho rfl (wpAny_bind (listUpdate_at ho rfl ?_ (by rw [List.size_toArray]; exact hl))))
 have g1:=get?_update_seq ho (fun _ => #[])
 refine wpAny_bind (seqEpoch_at g1 rfl (wpAny_bind (wpAny_newTuple (wpAny_bind (wpAny_newList (wpAny_holding ?_))))))
 have g2:(((s.heap.update a (Obj.mapSeq fun _ => #[])).push (seqObj "tuple" vs.toArray 0)).push (seqObj "list" #[] 0)).get? a = _:=Heap.get?_push_of_some _ (Heap.get?_push_of_some _ g1)
 have ht2:∀ v∈vs,TupAt (((s.heap.update a (Obj.mapSeq fun _ => #[])).push (seqObj "tuple" vs.toArray 0)).push (seqObj "list" #[] 0)) v (kc v):=fun v hv => (((ht v hv).upd ho rfl).push _).push _
 have room:∀ y:Array Keyed,y.Perm (pairsOf vs)→(y.map (·.2)).size≤sizeLine + 1:=fun y hy => by
  rw [Array.size_map,hy.size_eq,pairsOf_size]; omega
 have fin:∀ y:SortSt,(arrOf y).Perm (pairsOf vs)→Up (kind kc) (arrOf y).toList→P (.done (.ret .none)) { s with heap:=sortedHeap s.heap a vs ((arrOf y).map (·.2)) }:=fun y pm up => by
  obtain ⟨out,e,p,w⟩:=out_up pm up
  rw [e]; exact q out p w
 rcases Nat.lt_or_ge vs.length 2 with h2 | h2
 ·rw [if_pos (by simpa using h2),if_pos (by simpa using h2)]
  refine wpAny_bind (wpAny_pure ?_)
  dsimp only
  rw [StateT.run_pure]
  refine wpAny_bind (wpAny_pure (wpAny_bind (seqEpoch_at g2 rfl (wpAny_bind (listUpdate_at g2 rfl ?_ (hsz2:=room _ (Array.Perm.refl _)))))))
  simp only [bne_self_eq_false,Bool.false_eq_true,if_false]
  refine wpAny_pure (fin (SortSt.mk' general' (pairsOf vs) #[] 7 none) (Array.Perm.refl _) ?_)
  show Up _ (pairsOf vs).toList
  rw [pairsOf_toList]
  match vs,h2 with
  | [],_ => exact List.Pairwise.nil
  | [v],_ => exact List.pairwise_singleton _ _
 ·rw [if_neg (by simpa using h2),if_neg (by simpa using h2)]
  refine wpAny_bind (key_kind h2 ht2 hs hd ?_)
  refine wpAny_bind (wpAny_mono (sort_wp (o:=kind kc) (z:=pairsOf vs) (f:=true) (st:=SortSt.mk' (tuples' true) (vs.toArray.zip vs.toArray) #[] 7 none) (Q:=fun _ y => Gd true (pairsOf vs) y∧Up (kind kc) (arrOf y).toList) (orc_of ht2 hs true) ⟨Array.Perm.refl _,rfl,rfl⟩ rfl (by rw [pairsOf_size]; exact h2) fun y p1 p2 => ⟨p1,p2⟩) ?_ fun _ _ e => e)
  rintro ⟨⟨⟩,y⟩ s2 ⟨rfl,gd,up⟩
  refine wpAny_bind (seqEpoch_at g2 rfl (wpAny_bind (listUpdate_at g2 rfl ?_ (hsz2:=room _ gd.pm))))
  rw [gd.fl]
  simp only [bne_self_eq_false,Bool.false_eq_true,if_false]
  exact wpAny_pure (fin y gd.pm up)
theorem sortedHeap_at {h:Heap} {a:Addr} {vs:List Value} {n:Nat} {out:Array Value} (ho:h.get? a = some (seqObj "list" vs.toArray n)):∃ c,(sortedHeap h a vs out).get? a = some (seqObj "list" out c)∧∀ b o,b≠a→h.get? b = some o→(sortedHeap h a vs out).get? b = some o:=by
 have g1:=get?_update_seq ho (fun _ => #[])
 have g2:(((h.update a (Obj.mapSeq fun _ => #[])).push (seqObj "tuple" vs.toArray 0)).push (seqObj "list" #[] 0)).get? a = _:=Heap.get?_push_of_some _ (Heap.get?_push_of_some _ g1)
 have g3:=get?_update_seq g2 (fun _ => out)
 refine ⟨_,g3,fun b o hb e => ?_⟩
 exact (Heap.get?_update_other _ _ (Ne.symm hb)).trans (Heap.get?_push_of_some _ (Heap.get?_push_of_some _ ((Heap.get?_update_other _ _ (Ne.symm hb)).trans e)))
theorem sorted_of {x:Value} {vs:List Value} {kc:Value→List L2.Key} {d:List Bool} {Q:Value→Shared→Prop} (hc:∀ R:List Value→Shared→Prop,(∀ h' tk,(∀ b o,s.heap.get? b = some o→h'.get? b = some o)→s.heap.objs.size < h'.objs.size→R vs { s with heap:=h',toks:=tk })→wpAny (model prog w) A.in1 (collect x) R E s)
  (ht:∀ v∈vs,TupAt s.heap v (kc v)) (hs:∀ v∈vs,sd (kc v) = d) (hd:d≠[]) (hl:vs.length≤sizeLine)
  (q:∀ (h':Heap) (tk c:Nat) (p:Addr) (out:List Value),(∀ b o,s.heap.get? b = some o→h'.get? b = some o)→s.heap.objs.size≤p→h'.get? p = some (seqObj "list" out.toArray c)→out.Perm vs→(out.Pairwise fun u v => lx (kc v) (kc u) = false)→Q (.ref p) { s with heap:=h',toks:=tk }) :
  wpAny (model prog w) A (call (.builtin "sorted") [x]) Q E s:=by
 refine Calls.call_function_entry kind_sorted plain_sorted entry_sorted (args_sorted1 _) ?_
 refine wpAny_bind (m:=checkCount "sorted" 1 1 _) (wpAny_pure ?_)
 refine wpAny_bind (hc _ fun h' tk kp lt => ?_)
 refine wpAny_bind (wpAny_newList ?_)
 have e1:(h'.push (seqObj "list" vs.toArray 0)).get? h'.objs.size = some (seqObj "list" vs.toArray 0):=Heap.get?_push_size _ rfl
 have kp2:∀ b o,s.heap.get? b = some o→(h'.push (seqObj "list" vs.toArray 0)).get? b = some o:=fun b o e => Heap.get?_push_of_some _ (kp b o e)
 refine wpAny_bind (wpAny_holding (wpAny_call_entry slot_list_sort ⟨_,e1,rfl⟩ entry_list_sort (sort_any e1 (fun v hv => (ht v hv).keep kp2) hs hd hl fun out pm up => ⟨_,rfl,wpAny_pure ⟨_,rfl,?_⟩⟩) (args_list_sort _)))
 obtain ⟨c,g1,g2⟩:=sortedHeap_at (out:=out.toArray) e1
 exact q _ tk c _ out (fun b o e => g2 b o (Nat.ne_of_lt (Nat.lt_trans (Heap.lt_size e) lt)) (kp2 b o e)) (Nat.le_of_lt lt) g1 pm up
end
end TS
namespace L2
open PySem PyProof.Rows TS
def unV:V→Key | .int n => .inl n | .str x => .inr x | _ => .inl 0
theorem unV_kV (k:Key):unV (kV k) = k:=by cases k <;> rfl
def KeyAt (H:Hp) (bs:List Addr) (ks:List (List Key)):Prop:=bs.length = ks.length∧∀ (i:Nat) (b:Addr) (k:List Key),bs[i]? = some b→ks[i]? = some k→H b = some (.tup (k.map kV))
def kcOf (H:Hp):Value→List Key
 | .ref b => match H b with | some (.tup ys) => ys.map unV | _ => []
 | _ => []
theorem kcOf_at {H:Hp} {b:Addr} {k:List Key} (e:H b = some (.tup (k.map kV))):kcOf H (.ref b) = k:=by
 show (match H b with | some (.tup ys) => ys.map unV | _ => []) = k
 rw [e]
 show (k.map kV).map unV = k
 rw [List.map_map]
 exact (List.map_congr_left fun x _ => unV_kV x).trans (List.map_id _)
theorem kVals_of:∀ {ks:List Key} {us:List Value},Vals (ks.map kV) us→KVals ks us
 | [],_,h => by rw [List.map_nil] at h; cases h; exact .nil
 | k :: ks,_,h => by
  rw [List.map_cons] at h
  cases h with
  | cons r t =>
   refine .cons ?_ (kVals_of t)
   cases k with
   | inl n => exact r
   | inr x => exact r
theorem tupAt_of {P:Program} {w:World} {H:Hp} {h:Heap} {b:Addr} {k:List Key} (ok:HOk P w H h) (e:H b = some (.tup (k.map kV))):TS.TupAt h (.ref b) k:=by
 obtain ⟨_,its,r,o,h1,h2,n,h3⟩:=(show ObjOk P w H h b (.tup (k.map kV)) from ok b _ e)
 exact ⟨b,o,its,n,rfl,h1,h2,h3,kVals_of r⟩
def adOf:Value→Addr | .ref b => b | _ => 0
theorem keys_out {H:Hp} {vs out:List Value} {ks:List (List Key)} (hv:∀ v∈vs,∃ (b:Addr) (k:List Key),v = .ref b∧H b = some (.tup (k.map kV))) (hk:vs.map (kcOf H) = ks) (pm:out.Perm vs) (up:out.Pairwise fun u v => lx (kcOf H v) (kcOf H u) = false) :
  Vals ((out.map adOf).map V.ref) out∧KeyAt H (out.map adOf) (out.map (kcOf H))∧(out.map (kcOf H)).Perm ks∧(out.map (kcOf H)).Pairwise fun a b => lx b a = false:=by
 have ho:∀ v∈out,∃ (b:Addr) (k:List Key),v = .ref b∧H b = some (.tup (k.map kV)):=fun v h => hv v (pm.mem_iff.mp h)
 refine ⟨?_,⟨by rw [List.length_map,List.length_map],fun i b k h1 h2 => ?_⟩,hk▸pm.map _,List.pairwise_map.mpr up⟩
 ·clear pm up hk
  induction out with
  | nil => exact .nil
  | cons v r ih =>
   obtain ⟨b,k,rfl,_⟩:=ho v (List.mem_cons_self ..)
   exact .cons rfl (ih fun u hu => ho u (List.mem_cons_of_mem _ hu))
 ·rw [List.getElem?_map] at h1 h2
  obtain ⟨v,e1,rfl⟩:=Option.map_eq_some_iff.mp h1
  rw [e1] at h2
  cases h2
  obtain ⟨b,k,rfl,e⟩:=ho v (List.mem_of_getElem? e1)
  rw [kcOf_at e]
  exact e
theorem paired_mem {α β:Type} {F:α→β→Prop}:∀ {l:List α} {m:List β} {y:β},Paired F l m→y∈m→∃ x∈l,F x y
 | _,_,_,.nil,h => by cases h
 | _,_,y,.cons r t,h => by
  rcases List.mem_cons.mp h with rfl | h
  ·exact ⟨_,List.mem_cons_self ..,r⟩
  ·obtain ⟨x,hx,hf⟩:=paired_mem t h
   exact ⟨x,List.mem_cons_of_mem _ hx,hf⟩
theorem paired_map {α β γ:Type} {F:α→β→Prop} {g:α→γ} {g':β→γ}:∀ {l:List α} {m:List β},Paired F l m→(∀ x y,F x y→g' y = g x)→l.map g = m.map g'
 | _,_,.nil,_ => rfl
 | _,_,.cons r t,h => by rw [List.map_cons,List.map_cons,h _ _ r,paired_map t h]
section
variable {X:Cx}
theorem call_sortedD (hc:X.calm = true):CallR X (.builtin "sorted") (fun xs H Q => ∃ p kvs d,xs = [.ref p]∧H p = some (.dT kvs)∧(∀ kv∈kvs,sd kv.1 = d)∧d≠[] ∧
  ∀ l bs ks,H l = none→KeyAt H bs ks→ks.Perm (kvs.map (·.1))→(ks.Pairwise fun a b => lx b a = false)→Q (.ref l) (upd H l (.lst (bs.map V.ref)))):=by
 intro pins s σ H xs us Q I r h
 obtain ⟨p,kvs,d,rfl,e,hs,hd,q⟩:=h
 obtain ⟨u,rfl,ru⟩:=vals1 r
 cases ru
 obtain ⟨hl,hm,ys,kt,ob,es,ep,h1,h2,h3,h4,h5,h6⟩:=dt_of I.hok e
 have hv:∀ v∈es.toList.map (·.key),∃ (b:Addr) (k:List Key),v = .ref b∧H b = some (.tup (k.map kV))∧k∈kvs.map (·.1):=fun v hv => by
  rw [h4,List.map_map] at hv
  obtain ⟨y,hy,rfl⟩:=List.mem_map.mp hv
  obtain ⟨x,hx,e2,e3,_⟩:=paired_mem kt hy
  exact ⟨y.2.1,x.1,rfl,e3,List.mem_map.mpr ⟨x,hx,rfl⟩⟩
 have hk:(es.toList.map (·.key)).map (kcOf H) = kvs.map (·.1):=by
  rw [h4,List.map_map,List.map_map]
  exact (paired_map kt fun x y hxy => kcOf_at hxy.2.1).symm
 have hks:∀ v∈es.toList.map (·.key),sd (kcOf H v) = d:=fun v hv' => by
  obtain ⟨b,k,rfl,e1,hm⟩:=hv v hv'
  obtain ⟨kv,h7,rfl⟩:=List.mem_map.mp hm
  rw [kcOf_at e1]
  exact hs kv h7
 have hlen:es.size = kvs.length:=by
  have:=congrArg List.length h4
  rw [Array.length_toList,List.length_map] at this
  rw [this,Paired.length kt]
 refine sorted_of (kc:=kcOf H) (fun R hR => collect_dct (A:=X.A.in1) (I.ok.hd hc) hm ⟨ob,h1,h2,h3⟩ (by rw [hlen]; exact hl) hR) (fun v hv' => ?_) hks hd (by rw [List.length_map,Array.length_toList,hlen]; exact hl) fun h' tk c p' out kp hp e' pm up => ?_
 ·obtain ⟨b,k,rfl,e1,_⟩:=hv v hv'
  rw [kcOf_at e1]
  exact tupAt_of I.hok e1
 ·obtain ⟨rv,ka,pm2,up2⟩:=keys_out (fun v h => by obtain ⟨b,k,e1,e2,_⟩:=hv v h; exact ⟨b,k,e1,e2⟩) hk pm up
  refine ⟨.ref p',_,I.laid (t':=tk) (o:=.lst ((out.map adOf).map V.ref)) kp hp ⟨?_,out,c,rv,e'⟩,rfl,q p' _ _ (I.hok.fresh hp) ka pm2 up2⟩
  rw [List.length_map,List.length_map,pm.length_eq,List.length_map,Array.length_toList,hlen]
  exact hl
end
end L2
namespace L2
open PySem PySem.Spec PyProof.Rows
section
variable {X:Cx} {pins:List (Addr × Obj)} {σ:St} {H:Hp} {s:Shared}
structure LT (K:PySem.W.Frag) (H:Hp) (a:Addr) (nss:List (List Int)):Prop where
 ex:∃ ps:List Addr,SqL K H a (ps.map V.ref)∧Tups K H ps nss
theorem eqAt_lt (I:Inv X pins σ H s) {A:Around} {a b:Addr} {nss mss:List (List Int)} (hu:A.units + 2 < cLine) (ha:LT X.K H a nss) (hb:LT X.K H b mss) (hab:a≠b):SeqAt.EqAt A s (.ref a) (.ref b) (decide (nss = mss)):=by
 obtain ⟨ps,h1,T1⟩:=ha.ex
 obtain ⟨qs,h2,T2⟩:=hb.ex
 obtain ⟨its,r1,p1,_⟩:=I.list h1
 obtain ⟨its2,r2,p2,_⟩:=I.list h2
 have hu1:A.units < cLine:=by omega
 have hu2:A.in1.units < cLine:=by show A.units + 1 < cLine; omega
 by_cases hz:its.toArray.size = its2.toArray.size
 ·rw [← lists_bool T1.len T2.len r1 r2 hz]
  exact SeqAt.EqAt.of_refs hab (SeqAt.RcAt.lists p1.isList p2.isList hz hu1 fun j g1 g2 => eqAt_refs I hu2 T1 T2 r1 r2 j g1 g2)
 ·have hne:nss≠mss:=fun e => by
   have e1:=r1.length
   have e2:=r2.length
   rw [List.length_map] at e1 e2
   rw [List.size_toArray,List.size_toArray] at hz
   have:=T1.len
   have:=T2.len
   rw [e] at *
   omega
  rw [decide_eq_false hne]
  exact SeqAt.EqAt.of_refs hab (SeqAt.RcAt.lists_lengths p1.isList p2.isList (bne_iff_ne.mpr hz) hu1)
theorem op_ne2L (hu:X.A.units + 64 < cLine):OpR X (compareOp .NotEq) (fun x y H Q => ∃ (p q a1 a2 b1 b2:Addr) (n1 n2 m1 m2:List (List Int)),x = .ref p∧y = .ref q∧SqT X.K H p [.ref a1,.ref a2]∧SqT X.K H q [.ref b1,.ref b2]∧LT X.K H a1 n1∧LT X.K H a2 n2∧LT X.K H b1 m1∧LT X.K H b2 m2∧a1≠b1∧a2≠b2∧Q (.bl (!(decide (n1 = m1) && decide (n2 = m2)))) H):=by
 intro pins s σ H x y v u Q I rx ry h
 obtain ⟨p,q,a1,a2,b1,b2,n1,n2,m1,m2,rfl,rfl,hp,hq,l1,l2,l3,l4,d1,d2,k⟩:=h
 cases rx
 cases ry
 obtain ⟨its,r1,p1,_⟩:=I.tuple hp
 obtain ⟨its2,r2,p2,_⟩:=I.tuple hq
 obtain ⟨v1,w1,rfl,e1,f1⟩:∃ v w,its = [v,w]∧v = .ref a1∧w = .ref a2:=by
  cases r1 with
  | cons x t => cases t with
   | cons y t => cases t with
    | nil => exact ⟨_,_,rfl,x,y⟩
 obtain ⟨v2,w2,rfl,e2,f2⟩:∃ v w,its2 = [v,w]∧v = .ref b1∧w = .ref b2:=by
  cases r2 with
  | cons x t => cases t with
   | cons y t => cases t with
    | nil => exact ⟨_,_,rfl,x,y⟩
 subst e1 f1 e2 f2
 have hu1:X.A.units < cLine:=by omega
 have hu2:X.A.in1.units + 2 < cLine:=by show X.A.units + 1 + 2 < cLine; omega
 have key:∀ (j:Nat) (g1:j < #[Value.ref a1,Value.ref a2].size) (g2:j < #[Value.ref b1,Value.ref b2].size),SeqAt.EqAt X.A.in1 s #[Value.ref a1,Value.ref a2][j] #[Value.ref b1,Value.ref b2][j] ((fun j => if j = 0 then decide (n1 = m1) else decide (n2 = m2)) j):=fun j g1 g2 => by
  match j,g1,g2 with
  | 0,_,_ => exact eqAt_lt I hu2 l1 l3 d1
  | 1,_,_ => exact eqAt_lt I hu2 l2 l4 d2
 refine EqBoolInt.of_rcne (SeqAt.RcNeAt.tuples p1 p2 hu1 key) ⟨.bl _,H,I,rfl,?_⟩
 have ev:((List.range 2).all (fun j => if j = 0 then decide (n1 = m1) else decide (n2 = m2)) && (2 == 2)) = (decide (n1 = m1) && decide (n2 = m2)):=by
  show ((decide (n1 = m1)) && ((decide (n2 = m2)) && true) && true) = _
  cases decide (n1 = m1) <;> cases decide (n2 = m2) <;> rfl
 rw [← ev] at k
 exact k
end
end L2
namespace TS
open PySem PyProof.Rows L2
section
variable {prog:Program} {w:World} {A:Around} {E:Value→Shared→Prop} {s:Shared}
variable {K:Type} [DecidableEq K] {knd:HeapKind prog w K}
end
end TS
namespace L2
open PySem PyProof.Rows TS
section
variable {X:Cx}
end
end L2
namespace TS
open PySem PyProof.Rows L2
theorem erase_keys {K V:Type} [DecidableEq K]:∀ {xs:List (K × V)} {j:Nat} {k:K} {p:V},(xs.map (·.1)).Nodup→xs[j]? = some (k,p)→xs.eraseIdx j = xs.filter fun x => decide (x.1≠k)
 | [],j,k,p,_,h => by simp at h
 | x :: r,0,k,p,n,h => by
  cases h
  have hn:=(List.nodup_cons.mp n).1
  rw [List.eraseIdx_cons_zero,List.filter_cons_of_neg (by simp)]
  refine (List.filter_eq_self.mpr fun y hy => ?_).symm
  have:y.1≠k:=fun e => hn (List.mem_map.mpr ⟨y,hy,e⟩)
  simpa using this
 | x :: r,j + 1,k,p,n,h => by
  obtain ⟨hn,n2⟩:=List.nodup_cons.mp n
  rw [List.getElem?_cons_succ] at h
  have hx:x.1≠k:=fun e => hn (List.mem_map.mpr ⟨(k,p),List.mem_of_getElem? h,e.symm⟩)
  rw [List.eraseIdx_cons_succ,List.filter_cons_of_pos (by simpa using hx),erase_keys n2 h]
theorem erase_map {α β:Type} (g:α→β):∀ (l:List α) (j:Nat),(l.map g).eraseIdx j = (l.eraseIdx j).map g
 | [],j => rfl
 | a :: r,0 => rfl
 | a :: r,j + 1 => congrArg (g a :: ·) (erase_map g r j)
section
variable {prog:Program} {w:World} {A:Around} {E:Value→Shared→Prop} {s:Shared} {K:Type} [DecidableEq K] {knd:HeapKind prog w K}
theorem take_wp {d a:Addr} {xs:List (K × Addr × Value)} {k:K} {Q:Option DictEntry→Shared→Prop} (hu:knd.room A) (hkey:knd.is s.heap k a) (hm:s.heap.DictOfH knd d xs) (hsz:xs.length≤sizeLine)
  (none:(∀ x∈xs,x.1≠k)→∀ tk,Q none { s with toks:=tk }) (some:∀ e h' tk,(∃ x∈xs,e.val = x.2.2)→h'.DictOfH knd d (xs.filter fun x => decide (x.1≠k))→Heap.SameBut d s.heap h'→Q (some e) { s with heap:=h',toks:=tk }):wpAny (model prog w) A (Builtin.Dict.takeOut d (.ref a)) Q E s:=by
 obtain ⟨ob,es,ep,ho,hc,hd,he,his,hn⟩:=hm
 refine wpAny_holding (wpAny_bind (knd.pyHash hu hkey (wpAny_bind (wpAny_dictFind_heap (s:={ s with toks:=s.toks + knd.draws k }) hu hkey ho hd he his hn (fun no => ?_) fun j p hj => ?_))))
 ·refine wpAny_pure (none (fun x hx e => ?_) _)
  obtain ⟨j,hj,e2⟩:=List.mem_iff_getElem.mp hx
  exact no j x.2 (by rw [List.getElem?_eq_getElem hj,e2,← e])
 ·have hz:es.size≤sizeLine:=by
   have:=congrArg List.length he
   rw [Array.length_toList,List.length_map] at this
   omega
  refine wpAny_bind (wpAny_dictEntries (s:={ s with toks:=s.toks + knd.draws k }) ho hd ?_)
  have hj2:es[j]? = Option.some (entryOfKey knd (k,p)):=by
   rw [← Array.getElem?_toList,he,List.getElem?_map,hj]; rfl
  rw [hj2]
  refine wpAny_bind (wpAny_updateDictKeys (s:={ s with toks:=s.toks + knd.draws k }) ho hd ?_ hz (by rw [← Array.length_toList,Array.toList_eraseIdxIfInBounds,List.length_eraseIdx,Array.length_toList]; split <;> omega))
  refine wpAny_pure (some _ _ _ ⟨_,List.mem_of_getElem? hj,rfl⟩ ⟨_,_,ep + 1,Heap.get?_update_self _ ho (Obj.isFreed_of_dict (Obj.data_mapDictKeys hd _)),hc.mapDictKeys _,Obj.data_mapDictKeys hd _,?_,fun x hx => ?_,?_⟩ (Heap.SameBut.update ..))
  ·rw [Array.toList_eraseIdxIfInBounds,he,← erase_keys hn hj,erase_map]
  ·exact knd.keeps (his x (List.mem_filter.mp hx).1) ho hd (Heap.SameBut.update ..)
  ·exact (List.filter_sublist.map _).nodup hn
end
end TS
namespace L2
open PySem PyProof.Rows TS
theorem KT.dropped {H:Hp} {kvs:List (List Key × V)} {xs:List (List Key × Addr × Value)} (r:KT H kvs xs) (k:List Key):KT H (dropK kvs k) (xs.filter fun x => decide (x.1≠k)):=by
 unfold KT at *
 induction r with
 | nil => exact .nil
 | @cons p q ps qs h t ih =>
  unfold dropK at ih ⊢
  by_cases e:p.1 = k
  ·rw [List.filter_cons_of_neg (by simpa using e),List.filter_cons_of_neg (by rw [← h.1]; simpa using e)]
   exact ih
  ·rw [List.filter_cons_of_pos (by simpa using e),List.filter_cons_of_pos (by rw [← h.1]; simpa using e)]
   exact .cons h ih
section
variable {X:Cx}
def rPopT:V→List V→Hp→VK→Prop:=fun x vs H Q => ∃ (a b:Addr) (kvs:List (List Key × V)) (k:List Key),x = .ref a∧vs = [.ref b,.non]∧H a = some (.dT kvs)∧H b = some (.tup (k.map kV))∧∀ v,Q v (upd H a (.dT (dropK kvs k)))
theorem mt_popT (hu:X.A.units + 64 < cLine):MtR X "dict.pop" rPopT:=by
 intro pins s σ H x vs v us Q I rx rv h
 obtain ⟨a,b,kvs,k,rfl,rfl,ea,eb,q⟩:=h
 cases rx
 cases rv with
 | cons r1 t => cases t with
  | cons r2 t => cases t with
   | nil =>
 cases r1
 obtain rfl:=(show _ = Value.none from r2)
 obtain ⟨z,hd,xs,rel,dd⟩:=dt_of I.hok ea
 have ty:s.TypeIs (.ref a) "dict":=dd.typeIs
 have hz:xs.length≤sizeLine:=by rw [← Paired.length rel]; exact z
 have same:(∀ x∈xs,x.1≠k)→upd H a (.dT (dropK kvs k)) = H:=fun no => by
  have e:dropK kvs k = kvs:=List.filter_eq_self.mpr fun kv hkv => by
   have:kv.1≠k:=fun e => by
    have hm:kv.1∈kvs.map (·.1):=List.mem_map.mpr ⟨kv,hkv,rfl⟩
    rw [paired_map rel fun x y h => h.1.symm] at hm
    obtain ⟨x,hx,e2⟩:=List.mem_map.mp hm
    exact no x hx (e2.trans e)
   simpa using this
  rw [e]
  funext c
  by_cases hc:c = a
  ·rw [hc,upd_same,ea]
  ·rw [upd_ne hc]
 refine wpAny_call_entry PySem.F.slot_dict_pop ty PySem.F.entry_dict_pop (wpAny_bind (wpAny_bind (wpAny_notOrdered_dict ty ?_))) (PySem.F.args_dict_pop_3 _ _ _)
 show wpAny _ _ (pure (a,Value.ref b,some Value.none)) _ _ s
 refine wpAny_pure ?_
 simp only [show (keyPart (Value.ref b)).isSome = false from rfl,Bool.false_eq_true,if_false]
 obtain ⟨ob,es,ep,ho,hc,hdd,he,_⟩:=id dd
 have no_:(∀ x∈xs,x.1≠k)→∀ tk,EP X pins σ Q .none { s with toks:=tk }:=fun no tk => ⟨.non,H,I.tok _,rfl,same no▸q .non⟩
 refine wpAny_bind (wpAny_dictEntries ho hdd (wpAny_bind (wpAny_pure ?_)))
 cases hE:es.isEmpty with
 | true =>
  have hx:xs = []:=by
   have h1:es.size = 0:=by simpa [Array.isEmpty] using hE
   have:=congrArg List.length he
   rw [Array.length_toList,List.length_map,h1] at this
   exact List.eq_nil_of_length_eq_zero this.symm
  rw [if_pos rfl]
  refine wpAny_bind (wpAny_rule (wpAny_bind (wpAny_pure ?_)))
  rw [if_pos (show (none:Option DictEntry).isNone = true from rfl)]
  exact wpAny_bind (wpAny_missedRemoval_other hd (wpAny_bind (wpAny_rule (wpAny_pure ⟨_,rfl,no_ (by rw [hx]; simp) s.toks⟩))))
 | false =>
  rw [if_neg Bool.false_ne_true]
  refine wpAny_bind (take_wp (tupleKind_room_in1 (by omega)) (key_of I.hok eb) dd hz (fun no tk => ?_) fun e h' tk hv dd' hs => ?_)
  ·rw [if_pos (show (none:Option DictEntry).isNone = true from rfl)]
   exact wpAny_bind (wpAny_missedRemoval_other hd (wpAny_bind (wpAny_rule (wpAny_pure ⟨_,rfl,no_ no tk⟩))))
  ·rw [if_neg (show ¬ (some e).isNone = true from Bool.false_ne_true)]
   obtain ⟨x,hx,ev⟩:=hv
   obtain ⟨kv,_,_,_,rv⟩:=paired_mem rel hx
   rw [← ev] at rv
   refine wpAny_bind (wpAny_letGo (wpAny_pure ⟨_,rfl,kv.2,_,?_,rv,q kv.2⟩))
   obtain ⟨o2,es2,ep2,hq,h2,h3,h4,_,h5⟩:=dd'
   refine d_write I (by rw [ea]; exact True.intro) hs ⟨o2,hq⟩ ⟨Nat.le_trans (List.length_filter_le _ _) z,hd,_,(rel.dropped k).keeps fun c ys ec => ?_,o2,es2,ep2,hq,h2,h3,h4,h5⟩
   rw [upd_ne (ne_of ec ea (fun z => nomatch z))]
   exact ec
end
end L2
namespace L2
open PySem PySem.Spec PyProof.Rows
section
variable {P:Program} {w:World} {K:PySem.W.Frag} {mg:Str→Option Value} {base:Heap}
theorem bindsN {fd:FuncData} {ps:List Str} {D:Addr} {od:Obj} {items:Array Value} {n:Nat} (hf:fd.defaults = .ref D) (dl:K.lookup D = some od) (hd:od.data = .seq items n)
  (h:∀ us:List Value,us.length + 1 = ps.length→∃ k:Option (Array Value)→Sem (List (Str × Value)),bindArgs fd ⟨us,[]⟩ = seqItems? fd.defaults >>= k∧k (some items) = pure (ps.zip (us ++ [Value.none]))):Binds K fd ps [Value.none]:=by
 intro s us KX hl
 rw [List.length_append] at hl
 obtain ⟨k,h1,h2⟩:=h us hl
 exact BindsTo.of_defaults hf (KX D od dl) hd h1 h2
structure GoodMN (P:Program) (w:World) (K:PySem.W.Frag) (mg:Str→Option Value) (base:Heap) (k:Nat) (C:Addr) (m:Str) (ps:List Str) (sp:Sp):Prop where
 cl:Cls K C
 ex:∃ f fd,Meth K C m f∧FnOk P w K mg base (XC P w) k f fd ps sp∧Binds K fd ps [Value.none]
end
section
variable {X:Cx} {k:Nat} {m:Str} {C:Addr} {ps:List Str} {sp:Sp} {E:XK}
def rMethN (C:Addr) (m:Str) (sp:Sp) (E:XK):V→Hp→VK→Prop:=fun x H Q => ∃ a dx fs,x = .ref a∧H a = some (.ins C dx fs)∧fs.lookup m = none∧sp [x,.non] H Q E
theorem mN_of (G:GoodMN X.prog X.w X.K X.mg X.base k C m ps sp) (hr:Room k X.A) (hx:Passes (XC X.prog X.w) X E):M0R X m (rMethN C m sp E):=by
 intro pins s σ H x u Q pl pos I r h
 obtain ⟨f,fd,M,F,b⟩:=G.ex
 obtain ⟨a,dx,fs,rfl,ea,l,q⟩:=h
 obtain rfl:u = Value.ref a:=r
 refine wpAny_holding (getmeth_ok I ea G.cl M l ?_)
 exact PySem.W.callWith_K0 (first:=[.ref a]) I.kIn M.kp (run_fn (us:=[.ref a]) (vs:=[.ref a]) (dvs:=[.non]) F hr b (.cons rfl .nil) hx I (.cons rfl .nil) q)
end
end L2
namespace L2
open PySem PyProof.Rows
section
variable {X:Cx}
end
end L2
namespace L2
open PySem PySem.Spec PyProof.Rows
theorem op_catTK {X:Cx} {K:PySem.W.Frag} (h:X.K = K):OpR X (binaryOp .Add) (rCatT K):=h▸op_catT
section
variable {X:Cx} {k:Nat} {x m:Str} {C:Addr} {ps:List Str} {sp:Sp} {E:St→XK} {p pos apos:Pos} {e o:Expr} {es:List Expr} {ta:TE} {t:TA}
end
end L2
namespace L2
open PySem PySem.Spec PyProof.Rows TS
section
variable {X:Cx}
theorem call_sortedL:CallR X (.builtin "sorted") (fun xs H Q => ∃ p bs ks d,xs = [.ref p]∧H p = some (.lst (bs.map V.ref))∧KeyAt H bs ks∧(∀ k∈ks,sd k = d)∧d≠[] ∧
  ∀ l bs' ks',H l = none→KeyAt H bs' ks'→ks'.Perm ks→(ks'.Pairwise fun a b => lx b a = false)→Q (.ref l) (upd H l (.lst (bs'.map V.ref)))):=by
 intro pins s σ H xs us Q I r h
 obtain ⟨p,bs,ks,d,rfl,e,ka,hs,hd,q⟩:=h
 obtain ⟨u,rfl,ru⟩:=vals1 r
 cases ru
 obtain ⟨its,rv,pl,hz⟩:=I.list (SqL.of e)
 obtain rfl:=refs_of rv
 have hv:∀ v∈bs.map Value.ref,∃ (b:Addr) (k:List Key),v = .ref b∧H b = some (.tup (k.map kV))∧k∈ks:=fun v hv => by
  obtain ⟨b,hb,rfl⟩:=List.mem_map.mp hv
  obtain ⟨i,hi,eb⟩:=List.getElem_of_mem hb
  have hi2:i < ks.length:=by rw [← ka.1]; exact hi
  exact ⟨b,ks[i],rfl,ka.2 i b ks[i] (by rw [List.getElem?_eq_getElem hi,eb]) (List.getElem?_eq_getElem hi2),List.getElem_mem hi2⟩
 have hk:(bs.map Value.ref).map (kcOf H) = ks:=by
  refine List.ext_getElem (by rw [List.length_map,List.length_map,ka.1]) fun i h1 h2 => ?_
  rw [List.getElem_map,List.getElem_map]
  have hb:i < bs.length:=by simpa using h1
  exact kcOf_at (ka.2 i bs[i] ks[i] (List.getElem?_eq_getElem hb) (List.getElem?_eq_getElem h2))
 have hks:∀ v∈bs.map Value.ref,sd (kcOf H v) = d:=fun v hv' => by
  obtain ⟨b,k,rfl,e1,hm⟩:=hv v hv'
  rw [kcOf_at e1]
  exact hs k hm
 have hlen:(bs.map Value.ref).length≤sizeLine:=by
  have:=hz
  simpa using this
 refine sorted_of (kc:=kcOf H) (fun R hR => collect_list (A:=X.A.in1) pl.isList (hR _ s.toks (fun b o e => ?_) ?_) hlen) (fun v hv' => ?_) hks hd hlen fun h' tk c p' out kp hp e' pm up => ?_
 ·exact (Heap.get?_update_other _ _ (Nat.ne_of_gt (Heap.lt_size e))).trans (Heap.get?_push_of_some _ e)
 ·show s.heap.objs.size < ((s.heap.push _).update _ _).objs.size
  simp [Heap.update,Heap.push]
 ·obtain ⟨b,k,rfl,e1,_⟩:=hv v hv'
  rw [kcOf_at e1]
  exact tupAt_of I.hok e1
 ·obtain ⟨rv,ka,pm2,up2⟩:=keys_out (fun v h => by obtain ⟨b,k,e1,e2,_⟩:=hv v h; exact ⟨b,k,e1,e2⟩) hk pm up
  refine ⟨.ref p',_,I.laid (t':=tk) (o:=.lst ((out.map adOf).map V.ref)) kp hp ⟨?_,out,c,rv,e'⟩,rfl,q p' _ _ (I.hok.fresh hp) ka pm2 up2⟩
  rw [List.length_map,List.length_map,pm.length_eq]
  exact hlen
def rInT (K:PySem.W.Frag) (neg:Bool):R2:=fun x y H Q => ∃ (p a:Addr) (ns:List Int) (nss:List (List Int)),x = .ref p∧y = .ref a∧SqT K H p (ns.map V.int)∧LT K H a nss∧Q (.bl (if neg then !decide (ns∈nss) else decide (ns∈nss))) H
open Classical in
theorem tup_fun {pins:List (Addr × Obj)} {σ:St} {H:Hp} {s:Shared} (I:Inv X pins σ H s):∃ f:Addr→List Int,∀ p ns,SqT X.K H p (ns.map V.int)→f p = ns :=
 ⟨fun p => if h:∃ ns:List Int,SqT X.K H p (ns.map V.int) then Classical.choose h else [],fun p ns h => by
  have hx:∃ ns:List Int,SqT X.K H p (ns.map V.int):=⟨ns,h⟩
  show (if h:∃ ns:List Int,SqT X.K H p (ns.map V.int) then Classical.choose h else []) = ns
  rw [dif_pos hx]
  have e:=I.tuple_inj (Classical.choose_spec hx) h
  exact (List.map_inj_right (f:=V.int) fun x y h => V.int.inj h).mp e⟩
theorem in_tups {pins:List (Addr × Obj)} {σ:St} {H:Hp} {s:Shared} (I:Inv X pins σ H s) (hu:X.A.units + 2 < cLine) {p a:Addr} {ns:List Int} {nss:List (List Int)} (hp:SqT X.K H p (ns.map V.int)) (ha:LT X.K H a nss) :
  ∃ (its:List Value) (e:Value→Bool),s.heap.IsList a its.toArray∧(∀ y,y∈its.toArray→SeqAt.EqAt X.A.in1 s y (.ref p) (e y))∧its.toArray.any e = decide (ns∈nss):=by
 obtain ⟨ps,h1,T⟩:=ha.ex
 obtain ⟨its,r1,p1,_⟩:=I.list h1
 obtain rfl:=refs_of r1
 obtain ⟨f,hf⟩:=tup_fun I
 have hu1:X.A.in1.units < cLine:=by show X.A.units + 1 < cLine; omega
 have at_:∀ q∈ps,∃ ms∈nss,SqT X.K H q (ms.map V.int):=fun q hq => by
  obtain ⟨i,hi,e⟩:=List.getElem_of_mem hq
  have hi2:i < nss.length:=by rw [← T.len]; exact hi
  exact ⟨nss[i],List.getElem_mem hi2,T.at_ i q nss[i] (by rw [List.getElem?_eq_getElem hi,e]) (List.getElem?_eq_getElem hi2)⟩
 refine ⟨ps.map Value.ref,fun v => match v with | .ref q => decide (f q = ns) | _ => false,p1.isList,fun y hy => ?_,?_⟩
 ·obtain ⟨q,hq,rfl⟩:=List.mem_map.mp (by simpa using hy:y∈ps.map Value.ref)
  obtain ⟨ms,_,hq2⟩:=at_ q hq
  show SeqAt.EqAt _ _ _ _ (decide (f q = ns))
  rw [hf q ms hq2]
  exact eqAt_tup I hu1 hq2 hp
 ·rw [Bool.eq_iff_iff,decide_eq_true_iff]
  constructor
  ·intro h
   obtain ⟨q,hq,e2⟩:∃ q,q∈ps∧f q = ns:=by simpa using h
   obtain ⟨ms,hm,hq2⟩:=at_ q hq
   rw [hf q ms hq2] at e2
   rw [← e2]; exact hm
  ·intro h
   obtain ⟨i,hi,e⟩:=List.getElem_of_mem h
   have hi2:i < ps.length:=by rw [T.len]; exact hi
   have hq:=T.at_ i ps[i] ns (List.getElem?_eq_getElem hi2) (by rw [List.getElem?_eq_getElem hi,e])
   have:∃ q,q∈ps∧f q = ns:=⟨ps[i],List.getElem_mem hi2,hf _ ns hq⟩
   simpa using this
theorem op_inT (hu:X.A.units + 64 < cLine):OpR X (compareOp .In) (rInT X.K false):=by
 intro pins s σ H x y v u Q I rx ry h
 obtain ⟨p,a,ns,nss,rfl,rfl,hp,ha,q⟩:=h
 cases rx
 cases ry
 obtain ⟨its,e,hl,he,ev⟩:=in_tups I (by omega) hp ha
 refine SeqAt.in_listAt e hl he ⟨.bl _,H,I,rfl,?_⟩
 rw [ev]; exact q
theorem op_notInT (hu:X.A.units + 64 < cLine):OpR X (compareOp .NotIn) (rInT X.K true):=by
 intro pins s σ H x y v u Q I rx ry h
 obtain ⟨p,a,ns,nss,rfl,rfl,hp,ha,q⟩:=h
 cases rx
 cases ry
 obtain ⟨its,e,hl,he,ev⟩:=in_tups I (by omega) hp ha
 refine SeqAt.notIn_listAt e hl he ⟨.bl _,H,I,rfl,?_⟩
 rw [ev]; exact q
end
end L2
namespace L2
open PySem PySem.Spec PyProof.Rows
theorem cs_two {X:Cx} {scope:Scope} {N:List Str} {n1 n2:Str} {a1 a2:Addr} (hN:X.N = N) (hk:scope.kind = .function) (hcl:closureFor scope X.env = pure [(n1,a1),(n2,a2)]) (s1:X.env.cells.lookup n1 = some a1) (s2:X.env.cells.lookup n2 = some a2)
  (o1:X.env.kindOf n1 = some .cell) (o2:X.env.kindOf n2 = some .cell)
  (h1:(scope.names.all fun y => y.2 != .cell && (y.2 != .free || (y.1 == n1 || y.1 == n2))) = true) (h2:(scope.names.all fun y => y.2 != .local || scope.names.lookup y.1 == some .local) = true)
  (h3:(N.all fun x => scope.names.lookup x != some .local) = true):CompScope X scope [(n1,a1),(n2,a2)] where
 clos:=hcl
 kind:=hk
 nocell:=fun y hy => by
  have:=List.all_eq_true.mp h1 y hy
  simp only [Bool.and_eq_true,bne_iff_ne] at this
  exact this.1
 names:=fun y hy e => by
  have:=List.all_eq_true.mp h2 y hy
  rw [e] at this
  simpa using this
 sub:=fun x c e => by
  rw [List.lookup_cons] at e
  split at e
  ·rename_i q
   obtain rfl:x = n1:=by simpa using q
   cases e; exact s1
  ·rw [List.lookup_cons] at e
   split at e
   ·rename_i q
    obtain rfl:x = n2:=by simpa using q
    cases e; exact s2
   ·cases e
 has:=fun x e => by
  have:=List.all_eq_true.mp h1 _ (lookup_mem e)
  simp only [Bool.and_eq_true,Bool.or_eq_true,bne_iff_ne,ne_eq,beq_iff_eq] at this
  simp only [List.lookup_cons]
  by_cases q1:x = n1
  ·exact ⟨a1,by simp [q1]⟩
  ·by_cases q2:x = n2
   ·subst q2; exact ⟨a2,by rw [show (x == n1) = false by simpa using q1]; simp⟩
   ·rcases this.2 with z | z | z
    ·exact absurd trivial z
    ·exact absurd z q1
    ·exact absurd z q2
 apart:=fun x hx => by
  have:=List.all_eq_true.mp h3 x (hN▸hx)
  simpa using this
 outer:=fun x e => by
  have:=List.all_eq_true.mp h1 _ (lookup_mem e)
  simp only [Bool.and_eq_true,Bool.or_eq_true,bne_iff_ne,ne_eq,beq_iff_eq] at this
  rcases this.2 with z | z | z
  ·exact absurd trivial z
  ·exact .inl (z▸o1)
  ·exact .inl (z▸o2)
theorem comp_rangeN {lo:Int} {n:Nat} {g:TG} {tc:TT} {te:TE} {k:Nat} {σ:St} {H:Hp} {Q:VK} (Pv:Addr→Nat→List V→Hp→Prop) (hn:n≤sizeLine)
  (h0:∀ D,H D = none→Pv D 0 [] (upd H D (.lst []))) (hD:∀ D i ys H',Pv D i ys H'→H' D = some (.lst ys)∧ys.length≤i)
  (step:∀ D i ys H' (Qy:VK) (Qn:Hp→Prop),i < n→Pv D i ys H'→(∀ y H4,H4 D = some (.lst ys)→Pv D (i + 1) (ys ++ [y]) (upd H4 D (.lst (ys ++ [y])))→Qy y H4)→(∀ H4,Pv D (i + 1) ys H4→Qn H4) →
   g (.int (lo + i)) (σ ++ List.replicate k none) H' fun σ2 H2 => (∃ zs,σ2 = σ ++ zs∧zs.length = k)∧tc σ2 H2 fun b H3 => if b = true then te σ2 H3 Qy else Qn H3)
  (q:∀ D ys H',H D = none→Pv D n ys H'→Q (.ref D) H'):compT k g tc te σ Q (Itr lo n) H:=by
 intro D hDn
 refine ⟨fun i m ys H' => m = n - i∧i≤n∧Pv D i ys H',⟨n,by simp,Nat.zero_le _,h0 D hDn⟩,?_⟩
 rintro i m ys H' ⟨rfl,hi,p⟩
 obtain ⟨e,hl⟩:=hD D i ys H' p
 refine ⟨e,?_⟩
 by_cases hlt:i < n
 ·refine .inr ⟨hlt,by omega,fun x H2 y => ?_⟩
  obtain ⟨rfl,rfl⟩:=y
  exact step D i ys H2 _ _ hlt p (fun y H4 e4 p4 => ⟨e4,n - (i + 1),by omega,rfl,hlt,p4⟩) fun H4 p4 => ⟨n - (i + 1),by omega,rfl,hlt,p4⟩
 ·obtain rfl:i = n:=by omega
  exact .inl ⟨Nat.le_refl _,q D ys H' hDn p⟩
theorem cs_threeN {X:Cx} {N0:List Str} {scope:Scope} {N:List Str} {n1 n2 n3:Str} {a1 a2 a3:Addr} (hN:X.N = N) (hk:scope.kind = .function) (hcl:closureFor scope X.env = pure [(n1,a1),(n2,a2),(n3,a3)]) (s1:X.env.cells.lookup n1 = some a1) (s2:X.env.cells.lookup n2 = some a2) (s3:X.env.cells.lookup n3 = some a3)
  (o1:X.env.kindOf n1 = some .cell) (o2:X.env.kindOf n2 = some .cell) (o3:X.env.kindOf n3 = some .cell)
  (h1:(scope.names.all fun y => y.2 != .cell && (y.2 != .free || (y.1 == n1 || y.1 == n2 || y.1 == n3))) = true) (h2:(scope.names.all fun y => y.2 != .local || scope.names.lookup y.1 == some .local) = true)
  (hl:N0.length = N.length) (h3:((N0.zip N).all fun y => (y.1 == y.2 && scope.names.lookup y.1 != some .local) || scope.names.lookup y.1 == none) = true):CompScopeN X N0 scope [(n1,a1),(n2,a2),(n3,a3)] where
 clos:=hcl
 kind:=hk
 nocell:=fun y hy => by
  have:=List.all_eq_true.mp h1 y hy
  simp only [Bool.and_eq_true,bne_iff_ne] at this
  exact this.1
 names:=fun y hy e => by
  have:=List.all_eq_true.mp h2 y hy
  rw [e] at this
  simpa using this
 sub:=fun x c e => by
  rw [List.lookup_cons] at e
  split at e
  ·rename_i q
   obtain rfl:x = n1:=by simpa using q
   cases e; exact s1
  ·rw [List.lookup_cons] at e
   split at e
   ·rename_i q
    obtain rfl:x = n2:=by simpa using q
    cases e; exact s2
   ·rw [List.lookup_cons] at e
    split at e
    ·rename_i q
     obtain rfl:x = n3:=by simpa using q
     cases e; exact s3
    ·cases e
 has:=fun x e => by
  have:=List.all_eq_true.mp h1 _ (lookup_mem e)
  simp only [Bool.and_eq_true,Bool.or_eq_true,bne_iff_ne,ne_eq,beq_iff_eq] at this
  simp only [List.lookup_cons]
  by_cases q1:x = n1
  ·exact ⟨a1,by simp [q1]⟩
  ·by_cases q2:x = n2
   ·subst q2; exact ⟨a2,by rw [show (x == n1) = false by simpa using q1]; simp⟩
   ·by_cases q3:x = n3
    ·subst q3; exact ⟨a3,by rw [show (x == n1) = false by simpa using q1,show (x == n2) = false by simpa using q2]; simp⟩
    ·rcases this.2 with z | (z | z) | z
     ·exact absurd trivial z
     ·exact absurd z q1
     ·exact absurd z q2
     ·exact absurd z q3
 outer:=fun x e => by
  have:=List.all_eq_true.mp h1 _ (lookup_mem e)
  simp only [Bool.and_eq_true,Bool.or_eq_true,bne_iff_ne,ne_eq,beq_iff_eq] at this
  rcases this.2 with z | (z | z) | z
  ·exact absurd trivial z
  ·exact .inl (z▸o1)
  ·exact .inl (z▸o2)
  ·exact .inl (z▸o3)
 lenN:=by rw [hN]; exact hl
 nm:=fun i x e => by
  have hi:i < N.length:=by rw [← hl]; exact (List.getElem?_eq_some_iff.mp e).1
  have hz:(N0.zip N)[i]? = some (x,N[i]):=by rw [List.getElem?_zip_eq_some]; exact ⟨e,List.getElem?_eq_getElem hi⟩
  have:=List.all_eq_true.mp h3 _ (List.mem_of_getElem? hz)
  simp only [Bool.or_eq_true,Bool.and_eq_true,beq_iff_eq,bne_iff_ne] at this
  rcases this with ⟨q1,q2⟩ | q
  ·exact .inl ⟨by rw [hN,List.getElem?_eq_getElem hi,← q1],q2⟩
  ·exact .inr q
end L2
namespace L2
open PySem PySem.Spec PyProof.Rows TS
section
variable {X:Cx} {pos:Pos}
def tDisp1 (tk tv:TE):TE:=fun σ H Q => ∀ p,H p = none→tk σ (upd H p (.dT [])) fun x H1 => tv σ H1 fun y H2 => ∃ b k,x = .ref b∧H2 p = some (.dT [])∧H2 b = some (.tup (k.map kV))∧Q (.ref p) (upd H2 p (.dT [(k,y)]))
theorem pe_disp1 {k v:Expr} {tk tv:TE} (hu:X.A.units + 1 < cLine) (hk:PE X k tk) (hv:PE X v tv):PE X (.Dict [some k] [v] pos) (tDisp1 tk tv):=by
 intro pins s σ H Q I q
 have hn:=I.hok.fresh (Nat.le_refl s.heap.objs.size)
 have I1:=I.laid (a:=s.heap.objs.size) (o:=.dT []) (h':=s.heap.push { cls:=.type "dict",data:=.dict #[] }) (t':=s.toks) (fun _ _ q => Heap.get?_push_of_some _ q) (Nat.le_refl _) (dt_empty s.heap I.big)
 refine wpAny_Dict_any rfl rfl (by simp) (Nat.le_of_ble_eq_true rfl) (pairTrees_cons_walk (thn (hk pins _ σ _ _ I1 (q _ hn)) fun u s1 ⟨x,H1,I1',rx,q1⟩ => thn (hv pins s1 σ H1 _ I1' q1) fun w2 s2 ⟨y,H2,I2,ry,b,k,ex,ep,eb,q2⟩ => pairTrees_nil_walk ?_))
 subst ex
 cases (show u = Value.ref b from rx)
 obtain ⟨z,hd,xs,rel,dd⟩:=dt_of I2.hok ep
 have hz:xs.length≤sizeLine:=by rw [← Paired.length rel]; exact z
 unfold storeAll
 rw [List.forIn_cons]
 refine wpAny_bind (wpAny_bind (wpAny_dictSet_heap (hsz:=hz) (knd:=tupleKind (mixKind X.prog X.w)) (show X.A.units < cLine by omega) (key_of I2.hok eb) dd fun h' dd' hs => wpAny_pure ?_))
 dsimp only
 rw [List.forIn_nil]
 refine wpAny_pure ⟨.ref s.heap.objs.size,_,?_,rfl,q2⟩
 obtain ⟨q,es,ep',hq,h2,h3,h4,_,h5⟩:=dd'
 have hl:(putK ([]:List (List Key × V)) k y).length≤sizeLine:=by show 1≤sizeLine; decide
 refine d_write I2 (by rw [ep]; exact True.intro) hs ⟨q,hq⟩ ⟨hl,hd,_,(rel.put k eb ry).keeps fun c ys ec => ?_,q,es,ep',hq,h2,h3,h4,h5⟩
 rw [upd_ne (ne_of ec ep (fun z => nomatch z))]
 exact ec
end
section
variable {X:Cx} {pins:List (Addr × Obj)} {σ:St} {H:Hp} {s:Shared}
open Classical in
end
end L2
namespace STb
open PySem SetTable
def sm:Nat→Nat
 | 0 => 0
 | n + 1 => 5 * sm n + 1
theorem sm_add (m:Nat):∀ n,sm (n + m) = 5 ^ n * sm m + sm n
 | 0 => by simp [sm]
 | n + 1 => by
  have e:n + 1 + m = (n + m) + 1:=by omega
  rw [e]
  show 5 * sm (n + m) + 1 = 5 ^ (n + 1) * sm m + (5 * sm n + 1)
  rw [sm_add m n,Nat.pow_succ,Nat.mul_add,Nat.mul_comm (5 ^ n) 5,Nat.mul_assoc]
  omega
theorem five_odd (n:Nat):5 ^ n % 4 = 1:=by
 induction n with
 | zero => rfl
 | succ n ih => rw [Nat.pow_succ]; omega
theorem sm_two:∀ k,∃ d,sm (2 ^ k) = 2 ^ k * (2 * d + 1)
 | 0 => ⟨0,rfl⟩
 | k + 1 => by
  obtain ⟨d,hd⟩:=sm_two k
  have e:2 ^ (k + 1) = 2 ^ k + 2 ^ k:=by rw [Nat.pow_succ]; omega
  have h4:=five_odd (2 ^ k)
  obtain ⟨q,hq⟩:∃ q,5 ^ (2 ^ k) = 4 * q + 1:=⟨5 ^ (2 ^ k) / 4,by omega⟩
  refine ⟨2 * d * q + d + q,?_⟩
  rw [e,sm_add,hd,hq]
  have:(4 * q + 1) * (2 ^ k * (2 * d + 1)) + 2 ^ k * (2 * d + 1) = 2 ^ k * ((4 * q + 2) * (2 * d + 1)):=by
   rw [← Nat.mul_assoc,Nat.mul_comm (4 * q + 1),Nat.mul_assoc,← Nat.mul_add]
   congr 1
   rw [show (4 * q + 2) = (4 * q + 1) + 1 by omega,Nat.add_mul (4 * q + 1) 1,Nat.one_mul]
  rw [this,← Nat.two_mul,Nat.mul_comm 2 (2 ^ k),Nat.mul_assoc]
  congr 1
  have:(4 * q + 2) * (2 * d + 1) = 2 * ((2 * q + 1) * (2 * d + 1)):=by rw [← Nat.mul_assoc]; congr 1; omega
  rw [this]
  congr 1
  rw [Nat.add_mul,Nat.mul_add,Nat.one_mul,show 2 * q * (2 * d) = 2 * (2 * d * q) by rw [Nat.mul_assoc,Nat.mul_comm q (2 * d)]]
  omega
theorem sm_all:∀ (k b:Nat),∃ n,n < 2 ^ k∧sm n % 2 ^ k = b % 2 ^ k
 | 0,b => ⟨0,by decide,by simp [Nat.mod_one]⟩
 | k + 1,b => by
  obtain ⟨n,hn,he⟩:=sm_all k b
  have e:2 ^ (k + 1) = 2 ^ k + 2 ^ k:=by rw [Nat.pow_succ]; omega
  have hp:0 < 2 ^ k:=Nat.pow_pos (by decide)
  obtain ⟨d,hd⟩:=sm_two k
  by_cases h:sm n % 2 ^ (k + 1) = b % 2 ^ (k + 1)
  ·exact ⟨n,by omega,h⟩
  ·refine ⟨n + 2 ^ k,by omega,?_⟩
   obtain ⟨c,hc⟩:∃ c,5 ^ n = 2 * c + 1:=⟨5 ^ n / 2,by have:=five_odd n; omega⟩
   have e1:sm (n + 2 ^ k) = sm n + 2 ^ k + 2 ^ (k + 1) * (2 * c * d + c + d):=by
    rw [sm_add,hd,hc,← Nat.mul_assoc,Nat.mul_comm (2 * c + 1),Nat.mul_assoc]
    have:(2 * c + 1) * (2 * d + 1) = 2 * (2 * c * d + c + d) + 1:=by
     rw [Nat.add_mul,Nat.mul_add,Nat.one_mul,show 2 * c * (2 * d) = 2 * (2 * c * d) by rw [Nat.mul_left_comm]]
     omega
    rw [this,Nat.mul_add,Nat.mul_one,← Nat.mul_assoc,← Nat.pow_succ]
    show 2 ^ (k + 1) * _ + 2 ^ k + sm n = _
    omega
   rw [e1,Nat.add_mul_mod_self_left]
   have d1:=Nat.div_add_mod (sm n) (2 ^ (k + 1))
   have d2:=Nat.div_add_mod b (2 ^ (k + 1))
   have m1:=Nat.mod_lt (sm n) (show 0 < 2 ^ (k + 1) by omega)
   have m2:=Nat.mod_lt b (show 0 < 2 ^ (k + 1) by omega)
   have q1:sm n % 2 ^ (k + 1) % 2 ^ k = sm n % 2 ^ k:=Nat.mod_mod_of_dvd _ ⟨2,by rw [Nat.pow_succ]⟩
   have q2:b % 2 ^ (k + 1) % 2 ^ k = b % 2 ^ k:=Nat.mod_mod_of_dvd _ ⟨2,by rw [Nat.pow_succ]⟩
   rw [Nat.add_mod]
   generalize sm n % 2 ^ (k + 1) = x at *
   generalize b % 2 ^ (k + 1) = y at *
   rw [e] at *
   generalize 2 ^ k = p at *
   have hx:x % p = y % p:=by omega
   have px:x % p = if x < p then x else x - p:=by
    split
    ·exact Nat.mod_eq_of_lt ‹_›
    ·rw [Nat.mod_eq_sub_mod (by omega),Nat.mod_eq_of_lt (by omega)]
   have py:y % p = if y < p then y else y - p:=by
    split
    ·exact Nat.mod_eq_of_lt ‹_›
    ·rw [Nat.mod_eq_sub_mod (by omega),Nat.mod_eq_of_lt (by omega)]
   have pp:p % (p + p) = p:=Nat.mod_eq_of_lt (by omega)
   rw [pp]
   rw [px,py] at hx
   by_cases h1:x < p
   ·rw [Nat.mod_eq_of_lt (by omega)]
    split at hx <;> split at hx <;> omega
   ·rw [Nat.mod_eq_sub_mod (by omega),Nat.mod_eq_of_lt (by omega)]
    split at hx <;> split at hx <;> omega
def Fm (mask i:Nat):Nat:=(i * 5 + 1) % (mask + 1)
def itF (mask:Nat) (a:Nat):Nat→Nat
 | 0 => a
 | n + 1 => Fm mask (itF mask a n)
theorem itF_eq {mask k:Nat} (hm:mask + 1 = 2 ^ k) (a:Nat) (ha:a≤mask):∀ n,itF mask a n = (5 ^ n * a + sm n) % 2 ^ k
 | 0 => by
  show a = (5 ^ 0 * a + 0) % 2 ^ k
  rw [Nat.pow_zero,Nat.one_mul,Nat.add_zero,Nat.mod_eq_of_lt (by omega)]
 | n + 1 => by
  show (itF mask a n * 5 + 1) % (mask + 1) = (5 ^ (n + 1) * a + (5 * sm n + 1)) % 2 ^ k
  rw [itF_eq hm a ha n,hm,Nat.add_mod,Nat.mod_mul_mod,← Nat.add_mod]
  congr 1
  rw [Nat.add_mul,Nat.pow_succ,Nat.mul_comm (5 ^ n * a) 5,Nat.mul_comm (5 ^ n) 5,Nat.mul_assoc]
  omega
theorem itF_add (mask a m:Nat):∀ n,itF mask (itF mask a m) n = itF mask a (m + n)
 | 0 => rfl
 | n + 1 => by show Fm mask _ = Fm mask _; rw [itF_add mask a m n]; rfl
theorem itF_all {mask k:Nat} (hm:mask + 1 = 2 ^ k) {a b:Nat} (ha:a≤mask) (hb:b≤mask):∃ n,n≤mask∧itF mask a n = b:=by
 have z:∀ c,c≤mask→∃ n,n < 2 ^ k∧itF mask 0 n = c:=fun c hc => by
  obtain ⟨n,h1,h2⟩:=sm_all k c
  refine ⟨n,h1,?_⟩
  rw [itF_eq hm 0 (Nat.zero_le _),Nat.mul_zero,Nat.zero_add,h2,Nat.mod_eq_of_lt (by omega)]
 have per:∀ n,itF mask 0 (n + 2 ^ k) = itF mask 0 n:=fun n => by
  obtain ⟨d,hd⟩:=sm_two k
  rw [itF_eq hm 0 (Nat.zero_le _),itF_eq hm 0 (Nat.zero_le _),Nat.mul_zero,Nat.zero_add,Nat.mul_zero,Nat.zero_add,sm_add,hd,← Nat.mul_assoc,Nat.mul_comm (5 ^ n),Nat.mul_assoc,Nat.add_comm,Nat.add_mul_mod_self_left]
 obtain ⟨m,m1,rfl⟩:=z a ha
 obtain ⟨m',m2,rfl⟩:=z b hb
 by_cases h:m≤m'
 ·exact ⟨m' - m,by omega,by rw [itF_add]; congr 1; omega⟩
 ·refine ⟨m' + 2 ^ k - m,by omega,?_⟩
  rw [itF_add,← per m']
  congr 1
  omega
def advM (mask:Nat) (p:Probe):Probe :=
 if p.more > 0 then { p with j:=p.j + 1,more:=p.more - 1 } else { p with j:=(leap mask p.i p.perturb).1,more:=runEnd mask (leap mask p.i p.perturb).1 - (leap mask p.i p.perturb).1,i:=(leap mask p.i p.perturb).1,perturb:=(leap mask p.i p.perturb).2 }
theorem adv_eq (t:SetTable) (p:Probe):t.advance p = advM t.mask p:=by
 unfold SetTable.advance advM
 split <;> rfl
def stM (mask:Nat) (h:Int):Probe:={ j:=bits h % (mask + 1),more:=runEnd mask (bits h % (mask + 1)) - bits h % (mask + 1),i:=bits h % (mask + 1),perturb:=bits h,dummy:=none }
def pth (mask:Nat) (h:Int):Nat→Probe
 | 0 => stM mask h
 | n + 1 => advM mask (pth mask h n)
def lp (mask:Nat) (h:Int):Nat→Nat × Nat
 | 0 => (bits h % (mask + 1),bits h)
 | m + 1 => leap mask (lp mask h m).1 (lp mask h m).2
def atRun (mask:Nat) (x:Nat × Nat):Probe:={ j:=x.1,more:=runEnd mask x.1 - x.1,i:=x.1,perturb:=x.2,dummy:=none }
theorem pth_run {mask:Nat} {h:Int} {n:Nat} {x:Nat × Nat} (e:pth mask h n = atRun mask x):∀ d,d≤runEnd mask x.1 - x.1→pth mask h (n + d) = { atRun mask x with j:=x.1 + d,more:=runEnd mask x.1 - x.1 - d }
 | 0,_ => e
 | d + 1,hd => by
  show advM mask (pth mask h (n + d)) = _
  rw [pth_run e d (by omega)]
  unfold advM
  rw [if_pos (by show runEnd mask x.1 - x.1 - d > 0; omega)]
  simp only [atRun,Probe.mk.injEq,true_and,and_true]
  omega
theorem runEnd_le (mask i:Nat):runEnd mask i - i≤9:=by unfold runEnd; split <;> omega
theorem pth_leap (mask:Nat) (h:Int):∀ m,∃ n,n≤10 * m∧pth mask h n = atRun mask (lp mask h m)
 | 0 => ⟨0,Nat.le_refl _,rfl⟩
 | m + 1 => by
  obtain ⟨n,hn,e⟩:=pth_leap mask h m
  have hr:=runEnd_le mask (lp mask h m).1
  refine ⟨n + (runEnd mask (lp mask h m).1 - (lp mask h m).1) + 1,by omega,?_⟩
  show advM mask (pth mask h (n + (runEnd mask (lp mask h m).1 - (lp mask h m).1))) = _
  rw [pth_run e _ (Nat.le_refl _)]
  unfold advM
  rw [if_neg (by show ¬ (runEnd mask (lp mask h m).1 - (lp mask h m).1 - (runEnd mask (lp mask h m).1 - (lp mask h m).1) > 0); omega)]
  rfl
theorem lp_pert (mask:Nat) (h:Int):∀ m,(lp mask h m).2 = bits h / 32 ^ m
 | 0 => by show bits h = _; rw [Nat.pow_zero,Nat.div_one]
 | m + 1 => by
  show (lp mask h m).2 / 32 = _
  rw [lp_pert mask h m,Nat.div_div_eq_div_mul,Nat.pow_succ]
theorem bits_lt (h:Int):bits h < 2 ^ 64:=by
 unfold bits
 have h1:=Int.emod_nonneg h (show ((2:Int) ^ 64)≠0 by decide)
 have h2:=Int.emod_lt_of_pos h (show (0:Int) < 2 ^ 64 by decide)
 omega
theorem lp_le (mask:Nat) (h:Int):∀ m,(lp mask h m).1≤mask
 | 0 => Nat.le_of_lt_succ (Nat.mod_lt _ (Nat.succ_pos _))
 | m + 1 => Nat.le_of_lt_succ (Nat.mod_lt _ (Nat.succ_pos _))
theorem lp_zero (mask:Nat) (h:Int) (m:Nat):(lp mask h (13 + m)).2 = 0:=by
 rw [lp_pert]
 refine Nat.div_eq_of_lt (Nat.lt_of_lt_of_le (bits_lt h) ?_)
 exact Nat.le_trans (by decide:2 ^ 64≤32 ^ 13) (Nat.pow_le_pow_right (by decide) (by omega))
theorem lp_it (mask:Nat) (h:Int):∀ m,(lp mask h (13 + m)).1 = itF mask (lp mask h 13).1 m
 | 0 => rfl
 | m + 1 => by
  show (leap mask (lp mask h (13 + m)).1 (lp mask h (13 + m)).2).1 = Fm mask _
  rw [lp_zero,lp_it mask h m]
  rfl
theorem pth_all {mask k:Nat} (hm:mask + 1 = 2 ^ k) (h:Int) {b:Nat} (hb:b≤mask):∃ n,n < 10 * turns mask∧(pth mask h n).j = b:=by
 obtain ⟨m,m1,e⟩:=itF_all hm (lp_le mask h 13) hb
 obtain ⟨n,n1,e2⟩:=pth_leap mask h (13 + m)
 refine ⟨n,by unfold turns; omega,?_⟩
 rw [e2]
 show (lp mask h (13 + m)).1 = b
 rw [lp_it,e]
theorem pth_dummy (mask:Nat) (h:Int):∀ n,(pth mask h n).dummy = none
 | 0 => rfl
 | n + 1 => by
  show (advM mask (pth mask h n)).dummy = none
  unfold advM
  split
  ·exact pth_dummy mask h n
  ·exact pth_dummy mask h n
end STb
namespace STb
open PySem SetTable
theorem pth_le {mask:Nat} {h:Int} (n:Nat):(pth mask h n).j + (pth mask h n).more≤mask:=by
 have run:∀ i,i≤mask→i + (runEnd mask i - i)≤mask:=fun i hi => by unfold runEnd; split <;> omega
 induction n with
 | zero => exact run _ (Nat.le_of_lt_succ (Nat.mod_lt _ (Nat.succ_pos _)))
 | succ n ih =>
  show (advM mask (pth mask h n)).j + (advM mask (pth mask h n)).more≤mask
  unfold advM
  split
  ·show (pth mask h n).j + 1 + ((pth mask h n).more - 1)≤mask
   omega
  ·exact run _ (Nat.le_of_lt_succ (Nat.mod_lt _ (Nat.succ_pos _)))
theorem pth_j {mask:Nat} {h:Int} (n:Nat):(pth mask h n).j≤mask:=by have:=pth_le (mask:=mask) (h:=h) n; omega
def Ris (xs:Array Nat):Prop:=∀ i k,i < k→k < xs.size→xs.getD i 0 < xs.getD k 0
theorem getD_lt {xs:Array Nat} {i:Nat} (h:i < xs.size) (a b:Nat):xs.getD i a = xs.getD i b:=by simp [Array.getD,h]
theorem Ris.le {xs:Array Nat} (R:Ris xs) {i k:Nat} (h:i≤k) (hk:k < xs.size):xs.getD i 0≤xs.getD k 0:=by
 rcases Nat.lt_or_eq_of_le h with h | h
 ·exact Nat.le_of_lt (R i k h hk)
 ·rw [h]; exact Nat.le_refl _
theorem below_go {xs:Array Nat} {j:Nat} (R:Ris xs):∀ (fuel lo hi:Nat),lo≤hi→hi≤xs.size→hi - lo≤fuel→(∀ i,i < lo→xs.getD i 0 < j)→(∀ i,hi≤i→i < xs.size→j≤xs.getD i 0) →
  below.go xs j fuel lo hi≤xs.size∧(∀ i,i < below.go xs j fuel lo hi→xs.getD i 0 < j)∧∀ i,below.go xs j fuel lo hi≤i→i < xs.size→j≤xs.getD i 0
 | 0,lo,hi,h1,h2,h3,h4,h5 => by
  obtain rfl:lo = hi:=by omega
  exact ⟨h2,h4,h5⟩
 | fuel + 1,lo,hi,h1,h2,h3,h4,h5 => by
  unfold below.go
  split
  ·rename_i hlt
   have m1:(lo + hi) / 2 < hi:=by omega
   have m2:lo≤(lo + hi) / 2:=by omega
   generalize (lo + hi) / 2 = mid at m1 m2
   dsimp only
   rw [getD_lt (by omega) j 0]
   split
   ·rename_i hm
    exact below_go R fuel (mid + 1) hi (by omega) h2 (by omega) (fun i hi2 => Nat.lt_of_le_of_lt (R.le (show i≤mid by omega) (by omega)) hm) h5
   ·rename_i hm
    exact below_go R fuel lo mid m2 (by omega) (by omega) h4 fun i h6 h7 => Nat.le_trans (by omega) (R.le h6 h7)
  ·obtain rfl:lo = hi:=by omega
   exact ⟨h2,h4,h5⟩
theorem below_ok {xs:Array Nat} (R:Ris xs) (j:Nat):below xs j≤xs.size∧(∀ i,i < below xs j→xs.getD i 0 < j)∧∀ i,below xs j≤i→i < xs.size→j≤xs.getD i 0 :=
 below_go R _ _ _ (Nat.zero_le _) (Nat.le_refl _) (Nat.le_refl _) (fun i h => absurd h (Nat.not_lt_zero i)) fun i h1 h2 => by omega
def At (xs:Array Nat) (i j:Nat):Prop:=i < xs.size∧xs.getD i 0 = j
def Tkn (xs:Array Nat) (j:Nat):Prop:=∃ i,At xs i j
theorem At.uniq {xs:Array Nat} (R:Ris xs) {i k j:Nat} (a:At xs i j) (b:At xs k j):i = k:=by
 rcases Nat.lt_trichotomy i k with h | h | h
 ·have:=R i k h b.1
  rw [a.2,b.2] at this
  omega
 ·exact h
 ·have:=R k i h a.1
  rw [a.2,b.2] at this
  omega
theorem get_at {xs:Array Nat} {i j:Nat}:(xs[i]? = some j)↔At xs i j:=by
 unfold At
 constructor
 ·intro h
  obtain ⟨h1,h2⟩:=Array.getElem?_eq_some_iff.mp h
  exact ⟨h1,by simp [Array.getD,h1,h2]⟩
 ·rintro ⟨h1,h2⟩
  rw [Array.getElem?_eq_some_iff]
  exact ⟨h1,by simpa [Array.getD,h1] using h2⟩
theorem slot_live {t:SetTable} (R:Ris t.place) {i j:Nat} (a:At t.place i j):t.slot j = .live i:=by
 obtain ⟨b1,b2,b3⟩:=below_ok R j
 have e:below t.place j = i:=by
  rcases Nat.lt_trichotomy i (below t.place j) with h | h | h
  ·have:=b2 i h
   rw [a.2] at this
   omega
  ·exact h.symm
  ·have h1:=b3 (below t.place j) (Nat.le_refl _) (by have:=a.1; omega)
   have h2:=R (below t.place j) i h a.1
   rw [a.2] at h2
   omega
 unfold SetTable.slot
 rw [e]
 dsimp only
 rw [get_at.mpr a,if_pos (by simp)]
theorem slot_empty {t:SetTable} (R:Ris t.place) (dm:t.dummies = #[]) {j:Nat} (n:¬ Tkn t.place j):t.slot j = .empty:=by
 unfold SetTable.slot
 dsimp only
 rw [if_neg (fun z => n ⟨_,get_at.mp (by simpa using z)⟩),dm]
 rfl
theorem size_insertAt {α:Type} (xs:Array α) {p:Nat} (hp:p≤xs.size) (x:α):(insertAt xs p x).size = xs.size + 1:=by
 unfold insertAt
 simp
 omega
theorem getElem?_insertAt {α:Type} (xs:Array α) {p:Nat} (hp:p≤xs.size) (x:α) (i:Nat):(insertAt xs p x)[i]? = if i < p then xs[i]? else if i = p then some x else xs[i - 1]?:=by
 unfold insertAt
 rw [Array.getElem?_append,Array.size_push,Array.size_extract]
 have e:min p xs.size - 0 = p:=by omega
 rw [e,Array.getElem?_push,Array.size_extract,e]
 by_cases h1:i < p
 ·rw [if_pos (by omega),if_neg (by omega),if_pos h1,Array.getElem?_extract,if_pos (by omega),Nat.zero_add]
 ·rw [if_neg h1]
  by_cases h2:i = p
  ·rw [if_pos (by omega),if_pos h2,if_pos h2]
  ·rw [if_neg (by omega),if_neg h2,Array.getElem?_extract]
   have e2:p + (i - (p + 1)) = i - 1:=by omega
   rw [e2]
   by_cases h3:i - 1 < xs.size
   ·rw [if_pos (by omega)]
   ·rw [if_neg (by omega),Array.getElem?_eq_none (by omega)]
theorem getD_get (xs:Array Nat) (i:Nat):xs.getD i 0 = (xs[i]?).getD 0:=by
 rw [Array.getD_getElem?]
 rfl
theorem getD_ins {xs:Array Nat} {p:Nat} (hp:p≤xs.size) (x i:Nat):(insertAt xs p x).getD i 0 = if i < p then xs.getD i 0 else if i = p then x else xs.getD (i - 1) 0:=by
 rw [getD_get,getElem?_insertAt xs hp,getD_get,getD_get]
 split
 ·rfl
 ·split <;> rfl
theorem ris_ins {xs:Array Nat} (R:Ris xs) {j:Nat} (n:¬ Tkn xs j):Ris (insertAt xs (below xs j) j):=by
 obtain ⟨b1,b2,b3⟩:=below_ok R j
 intro i k hik hk
 rw [size_insertAt xs b1] at hk
 rw [getD_ins b1,getD_ins b1]
 have up:∀ m,below xs j≤m→m < xs.size→j < xs.getD m 0:=fun m h1 h2 => by
  rcases Nat.lt_or_eq_of_le (b3 m h1 h2) with h | h
  ·exact h
  ·exact absurd ⟨m,h2,h.symm⟩ n
 by_cases h1:i < below xs j
 ·rw [if_pos h1]
  by_cases h2:k < below xs j
  ·rw [if_pos h2]; exact R i k hik (by omega)
  ·rw [if_neg h2]
   by_cases h3:k = below xs j
   ·rw [if_pos h3]; exact b2 i h1
   ·rw [if_neg h3]; exact R i (k - 1) (by omega) (by omega)
 ·rw [if_neg h1,if_neg (show ¬ k < below xs j by omega),if_neg (show ¬ k = below xs j by omega)]
  by_cases h3:i = below xs j
  ·rw [if_pos h3]; exact up (k - 1) (by omega) (by omega)
  ·rw [if_neg h3]; exact R (i - 1) (k - 1) (by omega) (by omega)
theorem at_ins {xs:Array Nat} {p:Nat} (hp:p≤xs.size) {x i j:Nat}:At (insertAt xs p x) i j↔if i < p then At xs i j else if i = p then x = j else At xs (i - 1) j∧0 < i:=by
 rw [← get_at,getElem?_insertAt xs hp]
 split
 ·exact get_at
 ·split
  ·simp
  ·rw [get_at]
   exact ⟨fun h => ⟨h,by omega⟩,fun h => h.1⟩
theorem tkn_ins {xs:Array Nat} {p:Nat} (hp:p≤xs.size) {x j:Nat}:Tkn (insertAt xs p x) j↔Tkn xs j∨j = x:=by
 constructor
 ·rintro ⟨i,h⟩
  rw [at_ins hp] at h
  split at h
  ·exact .inl ⟨i,h⟩
  ·split at h
   ·exact .inr h.symm
   ·exact .inl ⟨i - 1,h.1⟩
 ·rintro (⟨i,h⟩ | rfl)
  ·by_cases h1:i < p
   ·exact ⟨i,(at_ins hp).mpr (by rw [if_pos h1]; exact h)⟩
   ·exact ⟨i + 1,(at_ins hp).mpr (by rw [if_neg (by omega),if_neg (by omega)]; exact ⟨h,by omega⟩)⟩
  ·exact ⟨p,(at_ins hp).mpr (by rw [if_neg (by omega),if_pos rfl])⟩
structure Tbl (t:SetTable) (hs:Nat→Int) (n:Nat):Prop where
 size:t.place.size = n
 ris:Ris t.place
 le:∀ j,Tkn t.place j→j≤t.mask
 dm:t.dummies = #[]
 pw:∃ k,t.mask + 1 = 2 ^ k
 room:n≤t.mask
 reach:∀ i j,At t.place i j→∃ m,(pth t.mask (hs i) m).j = j∧∀ m',m' < m→Tkn t.place (pth t.mask (hs i) m').j
theorem pigeon:∀ (n:Nat) (f:Nat→Nat),(∀ j,j≤n→∃ i,i < n∧f i = j)→False
 | 0,f,h => by obtain ⟨i,hi,_⟩:=h 0 (Nat.le_refl _); omega
 | n + 1,f,h => by
  obtain ⟨i0,h0,e0⟩:=h (n + 1) (Nat.le_refl _)
  refine pigeon n (fun i => if i = i0 then f n else f i) fun j hj => ?_
  obtain ⟨i,hi,e⟩:=h j (by omega)
  have ne:i≠i0:=fun z => by rw [z,e0] at e; omega
  by_cases hn:i = n
  ·refine ⟨i0,by omega,?_⟩
   show (if i0 = i0 then f n else f i0) = j
   rw [if_pos rfl,← hn]; exact e
  ·refine ⟨i,by omega,?_⟩
   show (if i = i0 then f n else f i) = j
   rw [if_neg ne]; exact e
theorem Tbl.free {t:SetTable} {hs:Nat→Int} {n:Nat} (T:Tbl t hs n):∃ j,j≤t.mask∧¬ Tkn t.place j:=by
 refine Classical.byContradiction fun z => ?_
 refine pigeon t.mask (fun i => t.place.getD i 0) fun j hj => ?_
 have h1:Tkn t.place j:=Classical.byContradiction fun q => z ⟨j,hj,q⟩
 obtain ⟨i,h2,h3⟩:=h1
 exact ⟨i,by have:=T.room; have:=T.size; omega,h3⟩
def Stp (t:SetTable) (hs:Nat→Int) (h:Int) (m:Nat):Prop:=¬ Tkn t.place (pth t.mask h m).j∨∃ i,At t.place i (pth t.mask h m).j∧hs i = h
theorem probe_go {t:SetTable} {hs:Nat→Int} {n:Nat} (T:Tbl t hs n) {h:Int}:∀ (d fuel m:Nat),d < fuel→Stp t hs h (m + d)→(∀ d',d' < d→¬ Stp t hs h (m + d')) →
  (¬ Tkn t.place (pth t.mask h (m + d)).j∧SetTable.probe.go t hs h fuel (pth t.mask h m) = some (.empty (pth t.mask h (m + d)).j none)) ∨
  ∃ i,At t.place i (pth t.mask h (m + d)).j∧hs i = h∧SetTable.probe.go t hs h fuel (pth t.mask h m) = some (.candidate (pth t.mask h (m + d)).j i (pth t.mask h (m + d + 1)))
 | 0,fuel + 1,m,_,hst,_ => by
  rcases hst with hst | ⟨i,ha,hh⟩
  ·refine .inl ⟨hst,?_⟩
   rw [SetTable.probe.go]
   rw [show m + 0 = m from rfl] at hst ⊢
   rw [slot_empty T.ris T.dm hst]
   show some (Met.empty _ (pth t.mask h m).dummy) = _
   rw [pth_dummy]
  ·refine .inr ⟨i,ha,hh,?_⟩
   rw [SetTable.probe.go]
   rw [show m + 0 = m from rfl] at ha ⊢
   rw [slot_live T.ris ha]
   dsimp only
   rw [if_pos (by rw [hh]; exact beq_self_eq_true _),adv_eq]
   rfl
 | d + 1,fuel + 1,m,hf,hst,hno => by
  have h0:=hno 0 (by omega)
  have ht:Tkn t.place (pth t.mask h m).j:=Classical.byContradiction fun z => h0 (.inl z)
  obtain ⟨i,ha⟩:=ht
  have hne:hs i≠h:=fun z => h0 (.inr ⟨i,ha,z⟩)
  have e:m + 1 + d = m + (d + 1):=by omega
  have ih:=probe_go T d fuel (m + 1) (by omega) (by rw [e]; exact hst) fun d' hd' => by
   have:=hno (d' + 1) (by omega)
   rwa [show m + (d' + 1) = m + 1 + d' by omega] at this
  rw [e] at ih
  have go:SetTable.probe.go t hs h (fuel + 1) (pth t.mask h m) = SetTable.probe.go t hs h fuel (pth t.mask h (m + 1)):=by
   rw [SetTable.probe.go,slot_live T.ris ha]
   dsimp only
   rw [if_neg (by simpa using hne),adv_eq]
   rfl
  rw [go]
  exact ih
theorem least {p:Nat→Prop}:∀ (n:Nat),p n→∃ m,m≤n∧p m∧∀ k,k < m→¬ p k:=by
 intro n
 induction n using Nat.strongRecOn with
 | _ n ih =>
  intro h
  by_cases z:∃ k,k < n∧p k
  ·obtain ⟨k,hk,pk⟩:=z
   obtain ⟨m,h1,h2,h3⟩:=ih k hk pk
   exact ⟨m,by omega,h2,h3⟩
  ·exact ⟨n,Nat.le_refl _,h,fun k hk pk => z ⟨k,hk,pk⟩⟩
theorem Tbl.probe {t:SetTable} {hs:Nat→Int} {n:Nat} (T:Tbl t hs n) (h:Int) {m:Nat} (ahead:∀ m',m' < m→Tkn t.place (pth t.mask h m').j):∃ m2,m≤m2∧m2 < 10 * turns t.mask∧(∀ m',m≤m'→m' < m2→Tkn t.place (pth t.mask h m').j∧∀ i,At t.place i (pth t.mask h m').j→hs i≠h) ∧
  ((¬ Tkn t.place (pth t.mask h m2).j∧t.probe hs h (pth t.mask h m) = some (.empty (pth t.mask h m2).j none)) ∨
   ∃ i,At t.place i (pth t.mask h m2).j∧hs i = h∧t.probe hs h (pth t.mask h m) = some (.candidate (pth t.mask h m2).j i (pth t.mask h (m2 + 1)))):=by
 obtain ⟨b,hb,nb⟩:=T.free
 obtain ⟨k,hk⟩:=T.pw
 obtain ⟨nb',h1,e1⟩:=pth_all hk h hb
 have hm:m≤nb':=Classical.byContradiction fun z => nb (by rw [← e1]; exact ahead nb' (by omega))
 obtain ⟨d,hd,hs1,hs2⟩:=least (p:=fun d => Stp t hs h (m + d)) (nb' - m) (.inl (by rw [show m + (nb' - m) = nb' by omega,e1]; exact nb))
 refine ⟨m + d,by omega,by omega,fun m' g1 g2 => ?_,probe_go T d _ m (by omega) hs1 hs2⟩
 have:=hs2 (m' - m) (by omega)
 rw [show m + (m' - m) = m' by omega] at this
 refine ⟨Classical.byContradiction fun z => this (.inl z),fun i ha z => this (.inr ⟨i,ha,z⟩)⟩
end STb
namespace STb
open PySem SetTable
def Emp (owner:Array (Option Nat)) (j:Nat):Prop:=(owner.getD j (some 0)).isNone = true
theorem free_go {owner:Array (Option Nat)} {mask:Nat} {h:Int} {mb:Nat} (nb:Emp owner (lp mask h mb).1):∀ (fuel m n:Nat),mb < m + fuel→m≤mb→pth mask h n = atRun mask (lp mask h m)→(∀ n',n' < n→¬ Emp owner (pth mask h n').j) →
  ∃ n2,layClean.free mask owner fuel (lp mask h m).1 (lp mask h m).2 = some (pth mask h n2).j∧Emp owner (pth mask h n2).j∧∀ n',n' < n2→¬ Emp owner (pth mask h n').j
 | 0,m,n,hf,hm,_,_ => absurd hf (by omega)
 | fuel + 1,m,n,hf,hm,hn,ahead => by
  have run:=pth_run hn
  have ge:(lp mask h m).1≤runEnd mask (lp mask h m).1:=by unfold runEnd; split <;> omega
  have jd:∀ d,d≤runEnd mask (lp mask h m).1 - (lp mask h m).1→(pth mask h (n + d)).j = (lp mask h m).1 + d:=fun d hd => by rw [run d hd]
  rw [layClean.free]
  cases e:(List.range (runEnd mask (lp mask h m).1 + 1 - (lp mask h m).1)).find? fun k => (owner.getD ((lp mask h m).1 + k) (some 0)).isNone with
  | some k =>
   obtain ⟨h1,as,bs,h2,h3⟩:=List.find?_eq_some_iff_append.mp e
   have hk:k∈List.range (runEnd mask (lp mask h m).1 + 1 - (lp mask h m).1):=by rw [h2]; simp
   rw [List.mem_range] at hk
   have hlen:as.length = k:=by
    have h4:(List.range (runEnd mask (lp mask h m).1 + 1 - (lp mask h m).1))[as.length]? = some k:=by rw [h2]; simp
    have h5:as.length < (List.range (runEnd mask (lp mask h m).1 + 1 - (lp mask h m).1)).length:=(List.getElem?_eq_some_iff.mp h4).1
    rw [List.length_range] at h5
    rw [List.getElem?_range h5] at h4
    exact Option.some.inj h4
   refine ⟨n + k,?_,?_,fun n' hn' => ?_⟩
   ·rw [jd k (by omega)]
   ·rw [jd k (by omega)]; exact h1
   ·by_cases hl:n' < n
    ·exact ahead n' hl
    ·obtain ⟨d,rfl⟩:∃ d,n' = n + d:=⟨n' - n,by omega⟩
     rw [jd d (by omega)]
     intro z
     have hd:d∈as:=by
      have h5:d < (List.range (runEnd mask (lp mask h m).1 + 1 - (lp mask h m).1)).length:=by rw [List.length_range]; omega
      have h6:(List.range (runEnd mask (lp mask h m).1 + 1 - (lp mask h m).1))[d]? = some d:=List.getElem?_range (by rw [List.length_range] at h5; exact h5)
      rw [h2,List.getElem?_append_left (by omega)] at h6
      exact List.mem_of_getElem? h6
     have:=h3 d hd
     rw [z] at this
     cases this
  | none =>
   dsimp only
   have none':=List.find?_eq_none.mp e
   have hall:∀ d,d≤runEnd mask (lp mask h m).1 - (lp mask h m).1→¬ Emp owner ((lp mask h m).1 + d):=fun d hd => none' d (List.mem_range.mpr (by omega))
   have hlt:m < mb:=by
    rcases Nat.lt_or_eq_of_le hm with h1 | h1
    ·exact h1
    ·have:=hall 0 (Nat.zero_le _)
     rw [Nat.add_zero,h1] at this
     exact absurd nb this
   refine free_go nb fuel (m + 1) (n + (runEnd mask (lp mask h m).1 - (lp mask h m).1) + 1) (by omega) (by omega) ?_ fun n' hn' => ?_
   ·show advM mask (pth mask h (n + (runEnd mask (lp mask h m).1 - (lp mask h m).1))) = _
    rw [run _ (Nat.le_refl _)]
    unfold advM
    rw [if_neg (by show ¬ (runEnd mask (lp mask h m).1 - (lp mask h m).1 - (runEnd mask (lp mask h m).1 - (lp mask h m).1) > 0); omega)]
    rfl
   ·by_cases hl:n' < n
    ·exact ahead n' hl
    ·obtain ⟨d,rfl⟩:∃ d,n' = n + d:=⟨n' - n,by omega⟩
     rw [jd d (by omega)]
     exact hall d (by omega)
theorem free_ok {owner:Array (Option Nat)} {mask k:Nat} (hm:mask + 1 = 2 ^ k) (h:Int) {b:Nat} (hb:b≤mask) (nb:Emp owner b):∃ n2,layClean.free mask owner (turns mask) (bits h % (mask + 1)) (bits h) = some (pth mask h n2).j∧Emp owner (pth mask h n2).j∧∀ n',n' < n2→¬ Emp owner (pth mask h n').j:=by
 obtain ⟨m,m1,e⟩:=itF_all hm (lp_le mask h 13) hb
 exact free_go (mb:=13 + m) (by rw [lp_it,e]; exact nb) (turns mask) 0 0 (by unfold turns; omega) (by omega) rfl fun n' h => absurd h (Nat.not_lt_zero _)
structure Own (mask:Nat) (hs:Nat→Int) (owner:Array (Option Nat)) (r:Nat):Prop where
 size:owner.size = mask + 1
 val:∀ (j k:Nat),owner[j]? = some (some k)→k < r
 ex:∀ k:Nat,k < r→∃ j:Nat,owner[j]? = some (some k)
 uq:∀ (j j' k:Nat),owner[j]? = some (some k)→owner[j']? = some (some k)→j = j'
 reach:∀ (j k:Nat),owner[j]? = some (some k)→∃ n,(pth mask (hs k) n).j = j∧∀ n',n' < n→∃ k':Nat,owner[(pth mask (hs k) n').j]? = some (some k')
theorem emp_iff {owner:Array (Option Nat)} {j:Nat} (hj:j < owner.size):Emp owner j↔owner[j]? = some none:=by
 unfold Emp
 rw [Array.getElem?_eq_getElem hj]
 simp only [Array.getD,hj,dite_true]
 show (owner[j]).isNone = true↔some owner[j] = some none
 generalize owner[j] = x
 cases x <;> simp
theorem not_emp {owner:Array (Option Nat)} {j:Nat} (hj:j < owner.size) (h:¬ Emp owner j):∃ k,owner[j]? = some (some k):=by
 rw [emp_iff hj,Array.getElem?_eq_getElem hj] at h
 rw [Array.getElem?_eq_getElem hj]
 cases e:owner[j] with
 | none => rw [e] at h; exact absurd rfl h
 | some k => exact ⟨k,rfl⟩
theorem Own.free {mask:Nat} {hs:Nat→Int} {owner:Array (Option Nat)} {r:Nat} (O:Own mask hs owner r) (hr:r≤mask):∃ j,j≤mask∧Emp owner j:=by
 refine Classical.byContradiction fun z => ?_
 refine pigeon mask (fun i => if h:i < r then Classical.choose (O.ex i h) else 0) fun j hj => ?_
 have hne:¬ Emp owner j:=fun q => z ⟨j,hj,q⟩
 obtain ⟨k,hk⟩:=not_emp (by rw [O.size]; omega) hne
 have hkr:=O.val j k hk
 refine ⟨k,by omega,?_⟩
 show (if h:k < r then Classical.choose (O.ex k h) else 0) = j
 rw [dif_pos hkr]
 exact O.uq _ _ k (Classical.choose_spec (O.ex k hkr)) hk
theorem Own.step {mask p:Nat} {hs:Nat→Int} {owner:Array (Option Nat)} {r:Nat} (hm:mask + 1 = 2 ^ p) (O:Own mask hs owner r) (hr:r≤mask):∃ j,layClean.free mask owner (turns mask) (bits (hs r) % (mask + 1)) (bits (hs r)) = some j∧Own mask hs (owner.setIfInBounds j (some r)) (r + 1):=by
 obtain ⟨b,hb,nb⟩:=O.free hr
 obtain ⟨n2,e1,e2,e3⟩:=free_ok hm (hs r) hb nb
 refine ⟨_,e1,?_⟩
 have hj:(pth mask (hs r) n2).j < owner.size:=by rw [O.size]; have:=pth_j (mask:=mask) (h:=hs r) n2; omega
 have ej:=(emp_iff hj).mp e2
 generalize hjj:(pth mask (hs r) n2).j = j at hj ej
 have get:∀ i:Nat,(owner.setIfInBounds j (some r))[i]? = if i = j then some (some r) else owner[i]?:=fun i => by
  rw [Array.getElem?_setIfInBounds]
  by_cases h:j = i
  ·subst h
   rw [if_pos rfl,if_pos hj,if_pos rfl]
  ·rw [if_neg h,if_neg (fun z => h z.symm)]
 have keep:∀ (i k:Nat),owner[i]? = some (some k)→(owner.setIfInBounds j (some r))[i]? = some (some k):=fun i k h => by
  rw [get,if_neg (fun z => by rw [z,ej] at h; cases h)]
  exact h
 refine ⟨by rw [Array.size_setIfInBounds]; exact O.size,fun i k h => ?_,fun k hk => ?_,fun i i' k h h' => ?_,fun i k h => ?_⟩
 ·rw [get] at h
  split at h
  ·cases h; omega
  ·have:=O.val i k h; omega
 ·by_cases h:k = r
  ·exact ⟨j,by rw [get,if_pos rfl,h]⟩
  ·obtain ⟨i,hi⟩:=O.ex k (by omega)
   exact ⟨i,keep i k hi⟩
 ·rw [get] at h h'
  split at h
  ·cases h
   split at h'
   ·rename_i a b; rw [a,b]
   ·have:=O.val i' r h'; omega
  ·split at h'
   ·cases h'; have:=O.val i r h; omega
   ·exact O.uq i i' k h h'
 ·rw [get] at h
  split at h
  ·rename_i e
   cases h
   refine ⟨n2,by rw [hjj,e],fun n' hn' => ?_⟩
   obtain ⟨k',hk'⟩:=not_emp (by rw [O.size]; have:=pth_j (mask:=mask) (h:=hs r) n'; omega) (e3 n' hn')
   exact ⟨k',keep _ _ hk'⟩
  ·obtain ⟨n,a1,a2⟩:=O.reach i k h
   refine ⟨n,a1,fun n' hn' => ?_⟩
   obtain ⟨k',hk'⟩:=a2 n' hn'
   exact ⟨k',keep _ _ hk'⟩
theorem Own.start (mask:Nat) (hs:Nat→Int):Own mask hs (Array.replicate (mask + 1) none) 0:=by
 have no:∀ (j k:Nat),(Array.replicate (mask + 1) (none:Option Nat))[j]? = some (some k)→False:=fun j k h => by
  rw [Array.getElem?_replicate] at h
  split at h <;> cases h
 exact ⟨by simp,fun j k h => (no j k h).elim,fun k h => absurd h (Nat.not_lt_zero _),fun j j' k h => (no j k h).elim,fun j k h => (no j k h).elim⟩
end STb
namespace STb
open PySem SetTable
theorem lay_fold {mask p:Nat} {hs:Nat→Int} (hm:mask + 1 = 2 ^ p) {f:Option (Array (Option Nat) × Nat)→Int→Option (Array (Option Nat) × Nat)}
  (hf:∀ owner k h,f (some (owner,k)) h = (layClean.free mask owner (turns mask) (bits h % (mask + 1)) (bits h)).bind fun j => some (owner.setIfInBounds j (some k),k + 1)) :
  ∀ (l:List Int) (r:Nat) (owner:Array (Option Nat)),(∀ i h,l[i]? = some h→hs (r + i) = h)→r + l.length≤mask + 1→Own mask hs owner r→∃ owner',l.foldl f (some (owner,r)) = some (owner',r + l.length)∧Own mask hs owner' (r + l.length)
 | [],r,owner,_,_,O => ⟨owner,rfl,O⟩
 | h :: l,r,owner,hh,hr,O => by
  have h0:=hh 0 h rfl
  rw [Nat.add_zero] at h0
  rw [List.length_cons] at hr
  obtain ⟨j,e,O'⟩:=O.step hm (by omega)
  rw [h0] at e
  obtain ⟨o2,e2,O2⟩:=lay_fold hm hf l (r + 1) _ (fun i x hx => by
   have:=hh (i + 1) x hx
   rwa [show r + (i + 1) = r + 1 + i by omega] at this) (by omega) O'
  refine ⟨o2,?_,by rw [List.length_cons,show r + (l.length + 1) = r + 1 + l.length by omega]; exact O2⟩
  rw [List.foldl_cons,hf,e,List.length_cons,show r + (l.length + 1) = r + 1 + l.length by omega]
  exact e2
theorem layClean_ok {mask p:Nat} (hm:mask + 1 = 2 ^ p) (hashes:Array Int) (hn:hashes.size≤mask + 1):∃ owner,layClean mask hashes = some owner∧Own mask (fun i => hashes.getD i 0) owner hashes.size:=by
 unfold layClean
 obtain ⟨o,e,O⟩:=lay_fold (hs:=fun i => hashes.getD i 0) hm (f:=fun acc h => do
  let (owner,k) ← acc
  let j ← layClean.free mask owner (turns mask) (bits h % (mask + 1)) (bits h)
  pure (owner.setIfInBounds j (some k),k + 1)) (fun owner k h => rfl) hashes.toList 0 (Array.replicate (mask + 1) none) (fun i h hi => by
   rw [Nat.zero_add]
   rw [Array.getElem?_toList] at hi
   obtain ⟨h1,h2⟩:=Array.getElem?_eq_some_iff.mp hi
   simp [Array.getD,h1,h2]) (by rw [Array.length_toList]; omega) (Own.start mask _)
 rw [Nat.zero_add,Array.length_toList] at e O
 refine ⟨o,?_,O⟩
 rw [← Array.foldl_toList,e]
 rfl
def liveOf (mask:Nat) (owner:Array (Option Nat)):List (Nat × Nat):=(List.range (mask + 1)).filterMap fun j => (owner.getD j none).map (j,·)
theorem mem_live {mask:Nat} {hs:Nat→Int} {owner:Array (Option Nat)} {n:Nat} (O:Own mask hs owner n) {j k:Nat}:(j,k)∈liveOf mask owner↔owner[j]? = some (some k):=by
 unfold liveOf
 rw [List.mem_filterMap]
 constructor
 ·rintro ⟨a,ha,e⟩
  obtain ⟨x,e1,e2⟩:=Option.map_eq_some_iff.mp e
  cases e2
  rw [List.mem_range] at ha
  have hs:j < owner.size:=by rw [O.size]; exact ha
  rw [Array.getElem?_eq_getElem hs]
  simp only [Array.getD,hs,dite_true] at e1
  rw [← e1]; rfl
 ·intro h
  obtain ⟨h1,h2⟩:=Array.getElem?_eq_some_iff.mp h
  refine ⟨j,List.mem_range.mpr (by rw [← O.size]; exact h1),?_⟩
  simp only [Array.getD,h1,dite_true]
  show Option.map _ owner[j] = _
  rw [h2]; rfl
theorem live_up (mask:Nat) (owner:Array (Option Nat)):(liveOf mask owner).Pairwise fun a b => a.1 < b.1:=by
 unfold liveOf
 refine List.Pairwise.filterMap _ (fun a a' h b hb b' hb' => ?_) List.pairwise_lt_range
 obtain ⟨x,_,rfl⟩:=Option.map_eq_some_iff.mp hb
 obtain ⟨x',_,rfl⟩:=Option.map_eq_some_iff.mp hb'
 exact h
theorem live_perm {mask:Nat} {hs:Nat→Int} {owner:Array (Option Nat)} {n:Nat} (O:Own mask hs owner n):((liveOf mask owner).map (·.2)).Perm (List.range n):=by
 refine (List.perm_ext_iff_of_nodup ?_ List.nodup_range).mpr fun k => ?_
 ·refine List.pairwise_map.mpr ((live_up mask owner).imp_of_mem fun {a b} ha hb h e => ?_)
  have h1:=(mem_live O).mp (show (a.1,a.2)∈liveOf mask owner from ha)
  have h2:=(mem_live O).mp (show (b.1,b.2)∈liveOf mask owner from hb)
  rw [e] at h1
  have:=O.uq _ _ _ h1 h2
  omega
 ·rw [List.mem_map,List.mem_range]
  constructor
  ·rintro ⟨⟨j,k'⟩,h,rfl⟩
   exact O.val j k' ((mem_live O).mp h)
  ·intro hk
   obtain ⟨j,hj⟩:=O.ex k hk
   exact ⟨(j,k),(mem_live O).mpr hj,rfl⟩
theorem live_at {l:List (Nat × Nat)} {i j:Nat} (a:At (l.map (·.1)).toArray i j):∃ k,l[i]? = some (j,k):=by
 have:=get_at.mpr a
 rw [List.getElem?_toArray,List.getElem?_map] at this
 obtain ⟨x,h1,h2⟩:=Option.map_eq_some_iff.mp this
 exact ⟨x.2,by rw [h1,← h2]⟩
theorem at_live {l:List (Nat × Nat)} {i j k:Nat} (h:l[i]? = some (j,k)):At (l.map (·.1)).toArray i j:=by
 refine get_at.mp ?_
 rw [List.getElem?_toArray,List.getElem?_map,h]; rfl
theorem ris_live {l:List (Nat × Nat)} (h:l.Pairwise fun a b => a.1 < b.1):Ris (l.map (·.1)).toArray:=by
 intro i k hik hk
 rw [List.size_toArray,List.length_map] at hk
 rw [getD_get,getD_get,List.getElem?_toArray,List.getElem?_toArray,List.getElem?_map,List.getElem?_map,List.getElem?_eq_getElem (by omega),List.getElem?_eq_getElem hk]
 exact List.pairwise_iff_getElem.mp h i k (by omega) hk hik
theorem order_get {α:Type} {es:Array α}:∀ {l:List Nat},(∀ k∈l,k < es.size)→∀ i:Nat,(l.filterMap (fun k:Nat => es[k]?))[i]? = (l[i]?).bind (fun k:Nat => es[k]?)
 | [],_,i => by simp
 | k :: l,h,i => by
  have hk:=h k (List.mem_cons_self ..)
  have e:es[k]? = some es[k]:=Array.getElem?_eq_getElem hk
  rw [List.filterMap_cons,e]
  dsimp only
  cases i with
  | zero => simp [e]
  | succ i =>
   rw [List.getElem?_cons_succ,List.getElem?_cons_succ]
   exact order_get (fun k hk => h k (List.mem_cons_of_mem _ hk)) i
structure Laid (mask n:Nat) (hashes:Array Int) (place:Array Nat) (order:Array Nat):Prop where
 size:place.size = n
 ris:Ris place
 le:∀ j,Tkn place j→j≤mask
 perm:order.toList.Perm (List.range n)
 reach:∀ i j,At place i j→∃ k,order[i]? = some k∧∃ m,(pth mask (hashes.getD k 0) m).j = j∧∀ m',m' < m→Tkn place (pth mask (hashes.getD k 0) m').j
theorem laid_ok {mask p:Nat} (hm:mask + 1 = 2 ^ p) (hashes:Array Int) (hn:hashes.size≤mask + 1) (finger moves:Nat) (led plain:Bool) :
  ∃ place order,laid mask finger moves led plain hashes = some ({ mask,place,dummies:=#[],finger,led,moves,plain },order)∧Laid mask hashes.size hashes place order:=by
 obtain ⟨owner,e,O⟩:=layClean_ok hm hashes hn
 have lp:=live_perm O
 have mem:∀ j k,(j,k)∈liveOf mask owner↔owner[j]? = some (some k):=fun j k => mem_live O
 have tk:∀ j,Tkn ((liveOf mask owner).map (·.1)).toArray j↔∃ k:Nat,owner[j]? = some (some k):=fun j => by
  constructor
  ·rintro ⟨i,a⟩
   obtain ⟨k,hk⟩:=live_at a
   exact ⟨k,(mem j k).mp (List.mem_of_getElem? hk)⟩
  ·rintro ⟨k,hk⟩
   obtain ⟨i,hi,ei⟩:=List.getElem_of_mem ((mem j k).mpr hk)
   exact ⟨i,at_live (k:=k) (by rw [List.getElem?_eq_getElem hi,ei])⟩
 refine ⟨((liveOf mask owner).map (·.1)).toArray,((liveOf mask owner).map (·.2)).toArray,?_,?_,ris_live (live_up mask owner),fun j hj => ?_,lp,fun i j a => ?_⟩
 ·unfold laid
  rw [e]
  rfl
 ·have:=lp.length_eq
  rw [List.length_map,List.length_range] at this
  rw [List.size_toArray,List.length_map,this]
 ·obtain ⟨k,hk⟩:=(tk j).mp hj
  have:=(Array.getElem?_eq_some_iff.mp hk).1
  rw [O.size] at this
  omega
 ·obtain ⟨k,hk⟩:=live_at a
  obtain ⟨m,h1,h2⟩:=O.reach j k ((mem j k).mp (List.mem_of_getElem? hk))
  refine ⟨k,by rw [List.getElem?_toArray,List.getElem?_map,hk]; rfl,m,h1,fun m' hm' => ?_⟩
  exact (tk _).mpr (h2 m' hm')
theorem sizeAbove_go (n:Nat):∀ (fuel q:Nat),n < 2 ^ (q + fuel)→∃ k,sizeAbove.go n fuel (2 ^ q) = 2 ^ k∧q≤k∧n < 2 ^ k∧(k = q∨2 ^ k≤2 * n)
 | 0,q,h => ⟨q,rfl,Nat.le_refl _,h,.inl rfl⟩
 | fuel + 1,q,h => by
  rw [sizeAbove.go]
  split
  ·rename_i hle
   obtain ⟨k,h1,h2,h3,h4⟩:=sizeAbove_go n fuel (q + 1) (by rw [show q + 1 + fuel = q + (fuel + 1) by omega]; exact h)
   refine ⟨k,by rw [← h1,Nat.pow_succ],by omega,h3,.inr ?_⟩
   rcases h4 with h4 | h4
   ·rw [h4,Nat.pow_succ]; omega
   ·exact h4
  ·rename_i hlt
   exact ⟨q,rfl,Nat.le_refl _,by omega,.inl rfl⟩
theorem sizeAbove_ok {n:Nat} (h:n < 2 ^ 60):∃ k,sizeAbove n = 2 ^ k∧3≤k∧n < 2 ^ k∧(k = 3∨2 ^ k≤2 * n):=by
 have:=sizeAbove_go n 64 3 (Nat.lt_of_lt_of_le h (Nat.pow_le_pow_right (by decide) (by decide)))
 exact this
end STb
namespace STb
open PySem PySem.Spec PyProof.Rows L2 SetTable
section
variable {P:Program} {w:World} {A:Around} {E:Value→Shared→Prop} {s:Shared}
abbrev tk (P:Program) (w:World):HeapKind P w (List Key):=tupleKind (mixKind P w)
theorem items_scan {ks:List Key} {vs:List Value} (h:ItemsAre (mixKind P w) ks vs):∀ v∈vs,v.scannable = true:=by
 induction h with
 | nil => intro v hv; cases hv
 | cons h1 _ ih =>
  intro v hv
  rcases List.mem_cons.mp hv with rfl | hv
  ·rcases keyIs_shape h1 with ⟨i,t,_,rfl⟩ | ⟨x,t,_,rfl⟩ <;> rfl
  ·exact ih v hv
theorem hash_tup {k:List Key} {a:Addr} {Q:Bool→Shared→Prop} (hk:(tk P w).is s.heap k a) (h:∀ b,Q b s):wpAny (model P w) A (hashByValue 8 (.ref a)) Q E s:=by
 have hk:IsTupleKey (mixKind P w) s.heap k a:=hk
 have hT:=hk.typeIs
 obtain ⟨o,items,n,ho,_,hd,hi⟩:=hk
 unfold hashByValue
 refine wpAny_bind (wpAny_specialOf hT PySem.F.slot_tuple_hash.lookup ?_)
 show wpAny _ _ (seqItems? (.ref a) >>= _) _ _ s
 refine wpAny_bind (wpAny_seqItems ho hd ?_)
 refine wpAny_bind ?_
 show wpAny _ _ (forIn items _ _) _ _ s
 rw [← Array.forIn_toList]
 refine wpAny_forIn_list _ (fun rest r s' => r.1 = none∧s' = s∧∀ v∈rest,v.scannable = true) _ ?_ ?_ _ _ ⟨rfl,rfl,items_scan hi⟩
 ·rintro v rest r s' ⟨hr,rfl,hall⟩
  rw [hashByValue_scannable _ (hall v List.mem_cons_self)]
  refine wpAny_bind (wpAny_pure ?_)
  cases plainKind v with
  | true =>
   simp only [Bool.not_true,Bool.false_eq_true,if_false]
   exact wpAny_pure ⟨rfl,rfl,fun u hu' => hall u (List.mem_cons_of_mem _ hu')⟩
  | false =>
   simp only [Bool.not_false,if_true]
   first | exact wpAny_pure (wpAny_pure (h _)) | exact wpAny_bind (wpAny_pure (wpAny_pure (h _))) | exact wpAny_pure (h _)
 ·rintro ⟨r1,r2⟩ s' ⟨hr,rfl,_⟩
  simp only at hr
  subst hr
  exact wpAny_pure (h _)
theorem stmt_val (n:Nat) {v:Value} (h:carriedByValue v = true):ofAClassStatement n v = pure false:=by
 cases v with
 | ref a => cases h
 | _ => first | rfl | (unfold ofAClassStatement; rfl)
theorem stmt_tup {k:List Key} {a:Addr} {Q:Bool→Shared→Prop} (hk:(tk P w).is s.heap k a) (h:Q false s):wpAny (model P w) A (ofAClassStatement 8 (.ref a)) Q E s:=by
 have hk:IsTupleKey (mixKind P w) s.heap k a:=hk
 have hT:=hk.typeIs
 obtain ⟨o,items,n,ho,_,hd,hi⟩:=hk
 unfold ofAClassStatement
 refine wpAny_bind (wpAny_typeOf hT ?_)
 dsimp only
 rw [if_pos (show (("tuple":String) == "tuple") = true by decide)]
 refine wpAny_bind (wpAny_pure ?_)
 simp only [Bool.not_true,Bool.false_eq_true,if_false]
 refine wpAny_bind (wpAny_seqItems ho hd ?_)
 dsimp only
 refine wpAny_bind ?_
 rw [← Array.forIn_toList]
 refine wpAny_forIn_list _ (fun rest r s' => r.1 = none∧s' = s∧∀ v∈rest,carriedByValue v = true) _ ?_ ?_ _ _ ⟨rfl,rfl,hi.byValue⟩
 ·rintro v rest r s' ⟨hr,rfl,hall⟩
  rw [stmt_val _ (hall v List.mem_cons_self)]
  refine wpAny_bind (wpAny_pure ?_)
  simp only [Bool.false_eq_true,if_false]
  exact wpAny_pure ⟨rfl,rfl,fun u hu' => hall u (List.mem_cons_of_mem _ hu')⟩
 ·rintro ⟨r1,r2⟩ s' ⟨hr,rfl,_⟩
  simp only at hr
  subst hr
  exact wpAny_pure h
theorem seen_tup {k:List Key} {a:Addr} {stored:List Value} {Q:Bool→Shared→Prop} (hk:(tk P w).is s.heap k a) (hst:∀ v∈stored,∃ k' b,v = .ref b∧(tk P w).is s.heap k' b) (h:Q false s):wpAny (model P w) A (searchCouldBeSeen (.ref a) stored) Q E s:=by
 unfold searchCouldBeSeen
 refine wpAny_bind ?_
 refine wpAny_forIn_list _ (fun rest r s' => s' = s∧r.1 = none∧∀ v∈rest,∃ k' b,v = .ref b∧(tk P w).is s.heap k' b) _ ?_ ?_ _ _ ⟨rfl,rfl,hst⟩
 ·rintro x rest r s' ⟨rfl,hr,hall⟩
  obtain ⟨k',b,rfl,hb⟩:=hall x List.mem_cons_self
  have hall':∀ v∈rest,∃ k' b,v = .ref b∧(tk P w).is s'.heap k' b:=fun v hv => hall v (List.mem_cons_of_mem _ hv)
  dsimp only
  split
  ·exact wpAny_pure ⟨rfl,rfl,hall'⟩
  ·refine wpAny_bind ((tk P w).quiet hk ?_)
   simp only [Bool.not_true,Bool.false_eq_true,if_false]
   refine wpAny_bind ((tk P w).quiet hb ?_)
   simp only [Bool.not_true,Bool.false_eq_true,if_false]
   refine wpAny_bind (stmt_tup hk ?_)
   simp only [Bool.false_eq_true,if_false]
   refine wpAny_bind (stmt_tup hb ?_)
   simp only [Bool.false_eq_true,if_false]
   exact wpAny_pure ⟨rfl,rfl,hall'⟩
 ·rintro ⟨r1,r2⟩ s' ⟨rfl,hr,_⟩
  simp only at hr
  subst hr
  exact wpAny_pure h
end
end STb
namespace STb
open PySem PySem.Spec PyProof.Rows L2 SetTable
section
variable {P:Program} {w:World} {A:Around} {E:Value→Shared→Prop} {s:Shared}
def hsOf (es:Array (Int × Value)) (i:Nat):Int:=(es[i]?.map (·.1)).getD 0
theorem Tbl.fits {t:SetTable} {hs:Nat→Int} {n:Nat} (T:Tbl t hs n):t.fits n = true:=by
 unfold SetTable.fits SetTable.fill
 rw [T.dm,T.size]
 have:=T.room
 simp
 exact this
theorem Tbl.odd {t:SetTable} {hs:Nat→Int} {n:Nat} (T:Tbl t hs n) (h1:1≤n∨1≤t.mask):t.gaveWay = false:=by
 unfold SetTable.gaveWay
 obtain ⟨k,hk⟩:=T.pw
 have:=T.room
 cases k with
 | zero => simp at hk; omega
 | succ k =>
  rw [Nat.pow_succ] at hk
  have:t.mask % 2 = 1:=by omega
  rw [this]; rfl
structure SIn (P:Program) (w:World) (h:Heap) (a:Addr) (o:Obj) (es:Array (Int × Value)) (ep:Nat) (t:SetTable) (xs:List (List Key × Addr)):Prop where
 get:h.get? a = some o
 ex:o.ExactSet
 data:o.data = .set es ep t
 ent:es.toList = xs.map fun x => ((tk P w).hash x.1,Value.ref x.2)
 tb:Tbl t (hsOf es) es.size
 msk:7≤t.mask∧t.mask≤9000
 load:es.size * 5 < t.mask * 3
 is:∀ x∈xs,(tk P w).is h x.1 x.2
 nd:(xs.map (·.1)).Nodup
theorem SIn.at {h:Heap} {a:Addr} {o:Obj} {es:Array (Int × Value)} {ep:Nat} {t:SetTable} {xs:List (List Key × Addr)} (I:SIn P w h a o es ep t xs) (i:Nat):es[i]? = (xs[i]?).map fun x => ((tk P w).hash x.1,Value.ref x.2):=by
 rw [← Array.getElem?_toList,I.ent,List.getElem?_map]
theorem search_from {a b:Addr} {o:Obj} {es:Array (Int × Value)} {ep:Nat} {t:SetTable} {xs:List (List Key × Addr)} {k:List Key} {Q:SetFound→Shared→Prop} (hu:A.units < cLine) (I:SIn P w s.heap a o es ep t xs) (hk:(tk P w).is s.heap k b)
  (q1:k∈xs.map (·.1)→Q (.there none) s) (q2:k ∉ xs.map (·.1)→∀ n,¬ Tkn t.place (pth t.mask ((tk P w).hash k) n).j→(∀ m',m' < n→Tkn t.place (pth t.mask ((tk P w).hash k) m').j)→Q (.free (pth t.mask ((tk P w).hash k) n).j false) s) :
  ∀ (fuel m:Nat) (stand:Option Probe),10 * turns t.mask - m < fuel→stand.getD (t.probeStart ((tk P w).hash k)) = pth t.mask ((tk P w).hash k) m →
   (∀ m',m' < m→Tkn t.place (pth t.mask ((tk P w).hash k) m').j∧∀ i,At t.place i (pth t.mask ((tk P w).hash k) m').j→∀ x,xs[i]? = some x→x.1≠k) →
   wpAny (model P w) A (setSearchFrom a (.ref b) ((tk P w).hash k) true fuel stand) Q E s
 | 0,m,stand,hf,_,_ => absurd hf (by omega)
 | fuel + 1,m,stand,hf,hst,ahead => by
  have T:=I.tb
  obtain ⟨m2,g1,g2,g3,g4⟩:=T.probe ((tk P w).hash k) (m:=m) fun m' h => (ahead m' h).1
  unfold setSearchFrom
  refine wpAny_bind (wpAny_setState_of I.get I.data T.fits ?_)
  dsimp only
  rw [T.odd (.inr (by have:=I.msk.1; omega))]
  simp only [Bool.false_eq_true,if_false]
  rw [hst]
  have lenx:es.size = xs.length:=by rw [← Array.length_toList,I.ent,List.length_map]
  have hsx:∀ i x,xs[i]? = some x→hsOf es i = (tk P w).hash x.1:=fun i x hx => by unfold hsOf; rw [I.at,hx]; rfl
  rcases g4 with ⟨ne,e⟩ | ⟨i,ha,hh,e⟩
  ·split
   ·rename_i met heq
    have heq':t.probe (hsOf es) ((tk P w).hash k) (pth t.mask ((tk P w).hash k) m) = some met:=heq
    rw [e] at heq'
    cases heq'
    dsimp only
    refine wpAny_pure (q2 (fun hin => ?_) m2 ne fun m' hm' => ?_)
    ·obtain ⟨x,hx,rfl⟩:=List.mem_map.mp hin
     obtain ⟨i0,hi0,ei0⟩:=List.getElem_of_mem hx
     have ex:xs[i0]? = some x:=by rw [List.getElem?_eq_getElem hi0,ei0]
     have hat:At t.place i0 (t.place.getD i0 0):=⟨by rw [T.size,lenx]; exact hi0,rfl⟩
     obtain ⟨m0,r1,r2⟩:=T.reach i0 _ hat
     rw [hsx i0 x ex] at r1 r2
     rw [← r1] at hat
     have h0:m0 < m2:=by
      rcases Nat.lt_trichotomy m0 m2 with h | h | h
      ·exact h
      ·exact absurd ⟨i0,h▸hat⟩ ne
      ·exact absurd (r2 m2 h) ne
     by_cases h1:m0 < m
     ·exact (ahead m0 h1).2 i0 hat x ex rfl
     ·exact (g3 m0 (by omega) h0).2 i0 hat (hsx i0 x ex)
    ·by_cases h1:m' < m
     ·exact (ahead m' h1).1
     ·exact (g3 m' (by omega) hm').1
   ·rename_i heq
    exact absurd e (heq _)
  ·have hi:i < xs.length:=by rw [← lenx,← T.size]; exact ha.1
   have ex:=List.getElem?_eq_getElem hi
   generalize xs[i] = x at ex
   have hx:x∈xs:=List.mem_of_getElem? ex
   have hes:es[i]? = some ((tk P w).hash x.1,Value.ref x.2):=by rw [I.at,ex]; rfl
   have hst:∀ v∈List.map (fun x => x.snd) (Array.filter (fun x => x.fst == (tk P w).hash k) es).toList,∃ k' b,v = .ref b∧(tk P w).is s.heap k' b:=fun v hv => by
    obtain ⟨y,hy,rfl⟩:=List.mem_map.mp hv
    have hy2:y∈es.toList:=by
     rw [Array.toList_filter] at hy
     exact (List.mem_filter.mp hy).1
    rw [I.ent] at hy2
    obtain ⟨z,hz,rfl⟩:=List.mem_map.mp hy2
    exact ⟨z.1,z.2,rfl,I.is z hz⟩
   split
   ·rename_i met heq
    have heq':t.probe (hsOf es) ((tk P w).hash k) (pth t.mask ((tk P w).hash k) m) = some met:=heq
    rw [e] at heq'
    cases heq'
    dsimp only
    split
    all_goals (first | (refine wpAny_bind (seen_tup hk hst ?_); simp only [Bool.false_eq_true,if_false]) | skip)
    all_goals
     rw [hes]
     dsimp only
     refine wpAny_bind (wpAny_holding ((tk P w).eqBool hu (I.is x hx) hk ?_))
     refine wpAny_bind (wpAny_setState_of I.get I.data T.fits ?_)
     dsimp only
     by_cases hxk:x.1 = k
     ·rw [decide_eq_true hxk,if_pos (show (true && true) = true from rfl)]
      exact wpAny_pure (q1 (List.mem_map.mpr ⟨x,hx,hxk⟩))
     ·rw [decide_eq_false hxk,if_neg (by decide)]
      have hsm:t.sameMemory t.moves t.mask = some true:=by unfold SetTable.sameMemory; rw [if_pos (beq_self_eq_true _)]
      rw [hsm]
      dsimp only
      rw [if_pos rfl,slot_live T.ris ha]
      dsimp only
      rw [hes]
      dsimp only
      refine wpAny_bind (wpAny_isSame_ref_self ?_)
      refine wpAny_bind (wpAny_pure ?_)
      rw [if_pos rfl]
      dsimp only
      rw [if_neg (by decide)]
      refine search_from hu I hk q1 q2 fuel (m2 + 1) _ (by omega) rfl fun m' hm' => ?_
      by_cases h1:m' < m
      ·exact ahead m' h1
      ·by_cases h2:m' < m2
       ·obtain ⟨g5,g6⟩:=g3 m' (by omega) h2
        exact ⟨g5,fun i' hi' x' hx' z => g6 i' hi' (by rw [hsx i' x' hx',z])⟩
       ·obtain rfl:m' = m2:=by omega
        refine ⟨⟨i,ha⟩,fun i' hi' x' hx' z => ?_⟩
        rw [hi'.uniq T.ris ha,ex] at hx'
        cases hx'
        exact hxk z
   ·rename_i heq
    exact absurd e (heq _)
end
end STb
namespace STb
open PySem PySem.Spec PyProof.Rows L2 SetTable
section
variable {P:Program} {w:World} {A:Around} {E:Value→Shared→Prop} {s:Shared}
theorem Tbl.put {t:SetTable} {es:Array (Int × Value)} (T:Tbl t (hsOf es) es.size) {h:Int} {v:Value} {n:Nat} (hr:es.size + 1≤t.mask) (ne:¬ Tkn t.place (pth t.mask h n).j) (ahead:∀ m',m' < n→Tkn t.place (pth t.mask h m').j) :
  Tbl (t.put (pth t.mask h n).j).1 (hsOf (insertAt es (t.put (pth t.mask h n).j).2 (h,v))) (insertAt es (t.put (pth t.mask h n).j).2 (h,v)).size∧(t.put (pth t.mask h n).j).2≤es.size∧(t.put (pth t.mask h n).j).1.mask = t.mask:=by
 obtain ⟨b1,b2,b3⟩:=below_ok T.ris (pth t.mask h n).j
 have hjm:=pth_j (mask:=t.mask) (h:=h) n
 have hp:(t.put (pth t.mask h n).j).2 = below t.place (pth t.mask h n).j:=rfl
 have hpl:(t.put (pth t.mask h n).j).1.place = insertAt t.place (below t.place (pth t.mask h n).j) (pth t.mask h n).j:=rfl
 have hmk:(t.put (pth t.mask h n).j).1.mask = t.mask:=rfl
 have b1':below t.place (pth t.mask h n).j≤es.size:=by rw [← T.size]; exact b1
 have hdm:(t.put (pth t.mask h n).j).1.dummies = #[]:=by
  show (if has t.dummies _ then eraseAt t.dummies _ else t.dummies) = #[]
  rw [T.dm]; rfl
 have hs:∀ i,hsOf (insertAt es (below t.place (pth t.mask h n).j) (h,v)) i = if i < below t.place (pth t.mask h n).j then hsOf es i else if i = below t.place (pth t.mask h n).j then h else hsOf es (i - 1):=fun i => by
  unfold hsOf
  rw [getElem?_insertAt es b1']
  split
  ·rfl
  ·split <;> rfl
 refine ⟨⟨?_,?_,fun j hj => ?_,hdm,T.pw,?_,fun i j a => ?_⟩,b1',hmk⟩
 ·rw [hpl,hp,size_insertAt _ b1,size_insertAt _ b1',T.size]
 ·rw [hpl]; exact ris_ins T.ris ne
 ·rw [hpl,tkn_ins b1] at hj
  rcases hj with hj | rfl
  ·exact T.le j hj
  ·exact hjm
 ·rw [hp,size_insertAt _ b1',hmk]; exact hr
 ·rw [hpl,at_ins b1] at a
  rw [hp,hs,hmk,hpl]
  have up:∀ {j'},Tkn t.place j'→Tkn (insertAt t.place (below t.place (pth t.mask h n).j) (pth t.mask h n).j) j':=fun q => (tkn_ins b1).mpr (.inl q)
  split at a
  ·rename_i hlt
   rw [if_pos hlt]
   obtain ⟨m,r1,r2⟩:=T.reach i j a
   exact ⟨m,r1,fun m' h' => up (r2 m' h')⟩
  ·rename_i hlt
   rw [if_neg hlt]
   split at a
   ·rename_i he
    rw [if_pos he]
    exact ⟨n,a,fun m' h' => up (ahead m' h')⟩
   ·rename_i he
    rw [if_neg he]
    obtain ⟨m,r1,r2⟩:=T.reach (i - 1) j a.1
    exact ⟨m,r1,fun m' h' => up (r2 m' h')⟩
theorem range_all {α:Type} (es:Array α):(List.range es.size).filterMap (fun k:Nat => es[k]?) = es.toList:=by
 refine List.ext_getElem? fun i => ?_
 rw [order_get (fun k hk => List.mem_range.mp hk)]
 by_cases h:i < es.size
 ·rw [List.getElem?_range h,Array.getElem?_toList]; rfl
 ·have h1:(List.range es.size)[i]? = none:=List.getElem?_eq_none (by rw [List.length_range]; omega)
  have h2:es.toList[i]? = none:=List.getElem?_eq_none (by rw [Array.length_toList]; omega)
  rw [h1,h2]; rfl
theorem relay_ok {t:SetTable} {es:Array (Int × Value)} (h1:1≤es.size) (h2:es.size≤1000) :
  ∃ t' order,t.relaid (es.map (·.1)) (grown es.size) = some (t',order)∧(order.filterMap (fun k:Nat => es[k]?)).toList.Perm es.toList∧(order.filterMap (fun k:Nat => es[k]?)).size = es.size∧Tbl t' (hsOf (order.filterMap (fun k:Nat => es[k]?))) (order.filterMap (fun k:Nat => es[k]?)).size∧7≤t'.mask∧t'.mask≤9000∧4 * es.size≤t'.mask∧t'.led = t.led∧sizeAbove (grown es.size)≤9000:=by
 have hg:grown es.size = es.size * 4:=by unfold grown; rw [if_neg (by omega)]
 obtain ⟨k,e1,k3,k4,k5⟩:=sizeAbove_ok (n:=grown es.size) (by rw [hg]; exact Nat.lt_of_le_of_lt (show es.size * 4≤4000 by omega) (by decide))
 have hle:2 ^ k≤8000:=by
  rcases k5 with rfl | k5
  ·decide
  ·rw [hg] at k5; omega
 have h8:8≤2 ^ k:=Nat.le_trans (by decide:8≤2 ^ 3) (Nat.pow_le_pow_right (by decide) k3)
 have hm:2 ^ k - 1 + 1 = 2 ^ k:=by omega
 rw [hg] at k4
 obtain ⟨place,order,e2,La⟩:=laid_ok hm (es.map (·.1)) (by rw [Array.size_map]; omega) t.finger (t.movedTo (2 ^ k - 1)) t.led t.plain
 rw [Array.size_map] at La
 have hord:∀ x∈order.toList,x < es.size:=fun x hx => List.mem_range.mp (La.perm.mem_iff.mp hx)
 have tl:(order.filterMap (fun k:Nat => es[k]?)).toList = order.toList.filterMap (fun k:Nat => es[k]?):=Array.toList_filterMap
 have pm:(order.filterMap (fun k:Nat => es[k]?)).toList.Perm es.toList:=by
  rw [tl,← range_all es]
  exact La.perm.filterMap _
 have sz:(order.filterMap (fun k:Nat => es[k]?)).size = es.size:=by rw [← Array.length_toList,pm.length_eq,Array.length_toList]
 refine ⟨{ mask:=2 ^ k - 1,place:=place,dummies:=#[],finger:=t.finger,led:=t.led,moves:=t.movedTo (2 ^ k - 1),plain:=t.plain },order,by unfold relaid; rw [e1]; exact e2,pm,sz,⟨by rw [sz]; exact La.size,La.ris,La.le,rfl,⟨k,hm⟩,by rw [sz]; show es.size≤2 ^ k - 1; omega,fun i j a => ?_⟩,by show 7≤2 ^ k - 1; omega,by show 2 ^ k - 1≤9000; omega,by show 4 * es.size≤2 ^ k - 1; omega,rfl,by rw [e1]; omega⟩
 obtain ⟨x,o1,m,r1,r2⟩:=La.reach i j a
 have hx:x < es.size:=hord x (by rw [← Array.getElem?_toList] at o1; exact List.mem_of_getElem? o1)
 have hh:hsOf (order.filterMap (fun k:Nat => es[k]?)) i = (es.map (·.1)).getD x 0:=by
  unfold hsOf
  rw [← Array.getElem?_toList,tl,order_get hord,Array.getElem?_toList,o1]
  show (Option.map _ es[x]?).getD 0 = _
  rw [Array.getElem?_eq_getElem hx]
  simp [Array.getD,hx]
 rw [hh]
 exact ⟨m,r1,r2⟩
end
end STb
namespace STb
open PySem PySem.Spec PyProof.Rows L2 SetTable
section
variable {P:Program} {w:World} {A:Around} {E:Value→Shared→Prop} {s:Shared}
theorem is_keeps {h h':Heap} {k:List Key} {b a:Addr} {o:Obj} {es:Array (Int × Value)} {ep:Nat} {t:SetTable} (x:(tk P w).is h k b) (ho:h.get? a = some o) (hd:o.data = .set es ep t) (hs:Heap.SameBut a h h'):(tk P w).is h' k b:=by
 obtain ⟨o',items,n,ho',hc,hd',hi⟩:=x
 have hne:b≠a:=by
  rintro rfl
  obtain rfl:o' = o:=Option.some.inj (ho'.symm.trans ho)
  rw [hd] at hd'; exact nomatch hd'
 exact ⟨o',items,n,(hs.2 b hne).trans ho',hc,hd',hi⟩
theorem toList_insertAt {α:Type} (xs:Array α) {p:Nat} (hp:p≤xs.size) (x:α):(insertAt xs p x).toList = xs.toList.take p ++ x :: xs.toList.drop p:=by
 refine List.ext_getElem? fun i => ?_
 rw [Array.getElem?_toList,getElem?_insertAt xs hp,List.getElem?_append,List.length_take,Array.length_toList]
 have e:min p xs.size = p:=by omega
 rw [e]
 split
 ·rw [List.getElem?_take_of_lt (by assumption),Array.getElem?_toList]
 ·split
  ·rename_i h; subst h; simp
  ·rename_i h1 h2
   obtain ⟨d,rfl⟩:∃ d,i = p + d + 1:=⟨i - p - 1,by omega⟩
   rw [show p + d + 1 - p = d + 1 by omega,List.getElem?_cons_succ,List.getElem?_drop,Array.getElem?_toList]
   rfl
theorem perm_map {α β:Type} {f:α→β} {l l':List β} (p:l.Perm l'):∀ xs:List α,l' = xs.map f→∃ xs':List α,xs'.Perm xs∧l = xs'.map f:=by
 induction p with
 | nil => intro xs h; exact ⟨xs,.refl _,h⟩
 | cons x _ ih =>
  intro xs h
  cases xs with
  | nil => cases h
  | cons y ys =>
   rw [List.map_cons] at h
   injection h with h1 h2
   obtain ⟨zs,q,e⟩:=ih ys h2
   exact ⟨y :: zs,q.cons y,by rw [List.map_cons,← h1,e]⟩
 | swap x y l =>
  intro xs h
  match xs,h with
  | [],h => cases h
  | [_],h => cases h
  | u :: v :: zs,h =>
   rw [List.map_cons,List.map_cons] at h
   injection h with h1 h
   injection h with h2 h3
   exact ⟨v :: u :: zs,List.Perm.swap u v zs,by rw [List.map_cons,List.map_cons,h1,h2,h3]⟩
 | trans _ _ ih1 ih2 =>
  intro xs h
  obtain ⟨ys,q,e⟩:=ih2 xs h
  obtain ⟨zs,q2,e2⟩:=ih1 ys e
  exact ⟨zs,q2.trans q,e2⟩
theorem store_get {h:Heap} {a:Addr} {o:Obj} {es:Array (Int × Value)} {ep:Nat} {t:SetTable} (ho:h.get? a = some o) (hd:o.data = .set es ep t) (es':Array (Int × Value)) (t':SetTable):(h.update a (Obj.putSet es' t')).get? a = some { o with data:=.set es' (ep + 1) t' }:=by
 have:=Heap.get?_update_self (Obj.putSet es' t') ho (by rw [putSet_of es' t' hd]; rfl)
 rw [putSet_of es' t' hd] at this; exact this
theorem add_tup {a b:Addr} {o:Obj} {es:Array (Int × Value)} {ep:Nat} {t:SetTable} {xs:List (List Key × Addr)} {k:List Key} {Q:Bool→Shared→Prop} (hu:A.units < cLine) (I:SIn P w s.heap a o es ep t xs) (hk:(tk P w).is s.heap k b) (hn:xs.length≤990)
  (q1:k∈xs.map (·.1)→Q false s) (q2:k ∉ xs.map (·.1)→∀ h' o' es' ep' t' xs',SIn P w h' a o' es' ep' t' xs'→xs'.Perm ((k,b) :: xs)→Heap.SameBut a s.heap h'→t'.led = t.led→Q true { s with heap:=h' }) :
  wpAny (model P w) A (setAddHashed a (.ref b) ((tk P w).hash k)) Q E s:=by
 have lenx:es.size = xs.length:=by rw [← Array.length_toList,I.ent,List.length_map]
 unfold setAddHashed setAddHashedIn
 refine wpAny_holding (wpAny_bind (wpAny_setState_of I.get I.data I.tb.fits ?_))
 dsimp only
 rw [show byScan (Value.ref b) es = false from rfl]
 simp only [Bool.false_eq_true,if_false]
 unfold setSearch
 refine wpAny_bind (search_from hu I hk (fun hin => ?_) (fun hni n ne ahead => ?_) 100000 0 none (by have:=I.msk.2; unfold turns; omega) rfl (fun m' h => absurd h (Nat.not_lt_zero _)))
 ·dsimp only
  exact wpAny_pure (q1 hin)
 ·dsimp only
  refine wpAny_bind (wpAny_setState_of I.get I.data I.tb.fits ?_)
  dsimp only
  have hload:=I.load
  have hmsk:=I.msk
  obtain ⟨T1,hp,hmk⟩:=I.tb.put (v:=Value.ref b) (by omega) ne ahead
  have hpl:(t.put (pth t.mask ((tk P w).hash k) n).j).1.led = t.led:=rfl
  generalize (t.put (pth t.mask ((tk P w).hash k) n).j).1 = t1 at T1 hmk hpl ⊢
  generalize (t.put (pth t.mask ((tk P w).hash k) n).j).2 = p at T1 hp ⊢
  have ent1:(insertAt es p ((tk P w).hash k,Value.ref b)).toList = (xs.take p ++ (k,b) :: xs.drop p).map fun x => ((tk P w).hash x.1,Value.ref x.2):=by
   rw [toList_insertAt es hp,I.ent,List.map_append,List.map_cons,List.map_take,List.map_drop]
  have pm1:(xs.take p ++ (k,b) :: xs.drop p).Perm ((k,b) :: xs):=by
   refine List.perm_middle.trans ?_
   rw [List.take_append_drop]
  have sz1:(insertAt es p ((tk P w).hash k,Value.ref b)).size = es.size + 1:=size_insertAt es hp _
  generalize insertAt es p ((tk P w).hash k,Value.ref b) = es1 at T1 ent1 sz1 ⊢
  generalize xs.take p ++ (k,b) :: xs.drop p = xs1 at ent1 pm1
  have tail:∀ t2:SetTable,Tbl t2 (hsOf es1) es1.size→t2.mask = t.mask→t2.led = t.led→wpAny (model P w) A (do
    storeSet a es1 t2
    if (!false && t2.tooFull) = true then do
      setRelay a (grown (es.size + 1))
      pure true
     else pure true) Q E s:=fun t2 T2 m2 l2 => by
   refine wpAny_bind (wpAny_storeSet_of I.get I.data ?_ (by rw [sz1]; exact Nat.le_trans (show _≤1000 by omega) (by decide)))
   have g1:=store_get I.get I.data es1 t2
   have sb1:=Heap.SameBut.update s.heap a (Obj.putSet es1 t2)
   have is1:∀ x∈xs1,(tk P w).is (s.heap.update a (Obj.putSet es1 t2)) x.1 x.2:=fun x hx => by
    rcases List.mem_cons.mp (pm1.mem_iff.mp hx) with rfl | hx
    ·exact is_keeps hk I.get I.data sb1
    ·exact is_keeps (I.is x hx) I.get I.data sb1
   have nd1:(xs1.map (·.1)).Nodup:=((pm1.map (·.1)).nodup_iff).mpr (List.nodup_cons.mpr ⟨hni,I.nd⟩)
   generalize s.heap.update a (Obj.putSet es1 t2) = h1 at g1 sb1 is1 ⊢
   cases hf:t2.tooFull with
   | false =>
    rw [if_neg (by decide)]
    refine wpAny_pure (q2 hni h1 _ es1 (ep + 1) t2 xs1 ⟨g1,I.ex,rfl,ent1,T2,by rw [m2]; exact hmsk,?_,is1,nd1⟩ pm1 sb1 l2)
    unfold SetTable.tooFull SetTable.fill at hf
    rw [T2.size,T2.dm] at hf
    have:=of_decide_eq_false hf
    simp at this
    omega
   | true =>
    rw [if_pos (by rfl)]
    obtain ⟨t3,order,e3,pm3,sz3,T3,k7,k9,k4,l3,ks⟩:=relay_ok (t:=t2) (es:=es1) (by omega) (by omega)
    unfold setRelay
    refine wpAny_bind (wpAny_bind (wpAny_setState_of (s:={ s with heap:=h1 }) g1 rfl T2.fits ?_))
    dsimp only
    rw [sz1] at e3 ks
    rw [if_neg (by have:(9000:Nat)≤sizeLine:=by decide
                   omega),e3]
    refine wpAny_bind (wpAny_of_eq (show _ = pure (order.filterMap (fun k:Nat => es1[k]?),t3) from ?_) ?_)
    ·show (if ((order.filterMap (fun k:Nat => es1[k]?)).size != es1.size) = true then _ else pure (order.filterMap (fun k:Nat => es1[k]?),t3)) = _
     rw [if_neg (by rw [sz3]; simp)]
    obtain ⟨xs3,px,ex3⟩:=perm_map pm3 xs1 ent1
    dsimp only
    refine wpAny_storeSet_of (s:={ s with heap:=h1 }) g1 rfl (wpAny_pure ?_) (by rw [sz3,sz1]; exact Nat.le_trans (show _≤1000 by omega) (by decide))
    have sb2:=Heap.SameBut.update h1 a (Obj.putSet (order.filterMap (fun k:Nat => es1[k]?)) t3)
    refine q2 hni _ _ _ (ep + 1 + 1) t3 xs3 ⟨store_get g1 rfl _ t3,I.ex,rfl,ex3,T3,⟨k7,k9⟩,by rw [sz3]; omega,fun x hx => is_keeps (is1 x (px.mem_iff.mp hx)) g1 rfl sb2,((px.map (·.1)).nodup_iff).mpr nd1⟩ (px.trans pm1) (sb1.trans sb2) (l3.trans l2)
  split
  ·refine wpAny_bind (hash_tup hk fun bv => ?_)
   cases bv with
   | true => exact tail t1 T1 hmk hpl
   | false => exact tail { t1 with plain:=false } ⟨T1.size,T1.ris,T1.le,T1.dm,T1.pw,T1.room,T1.reach⟩ hmk hpl
  ·refine wpAny_bind (wpAny_pure ?_)
   exact tail t1 T1 hmk hpl
end
end STb
namespace STb
open PySem PySem.Spec PyProof.Rows L2 SetTable
section
variable {P:Program} {w:World}
theorem is_same {h h':Heap} {k:List Key} {b:Addr} (x:(tk P w).is h k b) (e:∀ o,h.get? b = some o→h'.get? b = some o):(tk P w).is h' k b:=by
 obtain ⟨o',items,m',ho,hc,hd,hi⟩:=x
 exact ⟨o',items,m',e _ ho,hc,hd,hi⟩
def Mt (P:Program) (w:World) (S:Addr) (n:Nat) (val:Nat→List Key) (adr:Nat→Addr) (led:Bool) (i:Nat) (h:Heap):Prop :=
 ∃ o es ep t xs,SIn P w h S o es ep t xs∧t.led = led∧xs.length≤i∧(∀ x∈xs,∃ j,j < n∧x.2 = adr j)∧∀ k,k∈xs.map (·.1)↔∃ j,j < i∧val j = k
theorem Mt.keep {S:Addr} {n:Nat} {val:Nat→List Key} {adr:Nat→Addr} {led:Bool} {i:Nat} {h h':Heap} (m:Mt P w S n val adr led i h) (hS:∀ o,h.get? S = some o→h'.get? S = some o) (hj:∀ j,j < n→∀ o,h.get? (adr j) = some o→h'.get? (adr j) = some o):Mt P w S n val adr led i h':=by
 obtain ⟨o,es,ep,t,xs,I,l1,l2,l3,l4⟩:=m
 refine ⟨o,es,ep,t,xs,⟨hS _ I.get,I.ex,I.data,I.ent,I.tb,I.msk,I.load,fun x hx => ?_,I.nd⟩,l1,l2,l3,l4⟩
 obtain ⟨j,h1,h2⟩:=l3 x hx
 exact is_same (I.is x hx) (by rw [h2]; exact hj j h1)
variable {A:Around} {R:Result→Shared→Prop} {It:Addr} {fp wr:List Addr} {G:Array GenState→Array GenState→Prop} {n:Nat} {Pr:Nat→Value→Prop} {St:Nat→Shared→Prop}
theorem loop_tup (W:WalksS P w A.in1 It fp wr G n Pr St) (hu:A.in1.units < cLine) (S:Addr) (hSf:S ∉ fp) (val:Nat→List Key) (adr:Nat→Addr) (led:Bool) (hval:∀ i v,Pr i v→v = .ref (adr i)) (hb:n≤990) (ha:∀ j,j < n→adr j ∉ wr∧adr j≠S) :
  ∀ (d i:Nat) (s:Shared),n - i = d→i≤n→St i s→(∀ j,j < n→(tk P w).is s.heap (val j) (adr j))→Mt P w S n val adr led i s.heap→(∀ s',Moved (S :: wr) G s s'→Mt P w S n val adr led n s'.heap→R (.ok (.ret .none)) s') →
   codeAny (model P w) A (.builtin "set.update.loop" ⟨[.ref S,.ref It],[]⟩) R s
 | 0,i,s,hd,hi,st,ks,m,hR => by
  obtain rfl:i = n:=by omega
  refine codeAny_builtin PyProof.Rows.F.entry_set_update_loop ?_
  rw [Around.under_plainId PyProof.Rows.F.plain_set_update_loop _]
  refine wpAny_bind (W.done s _ _ st fun s' mv => wpAny_pure (hR s' (mv.mono fun b hb => List.mem_cons_of_mem _ hb) ?_))
  exact m.keep (fun o e => mv.heap S o (fun z => hSf (W.sub _ z)) e) fun j hj o e => mv.heap _ o (ha j hj).1 e
 | d + 1,i,s,hd,hi,st,ks,m,hR => by
  have hlt:i < n:=by omega
  refine codeAny_builtin PyProof.Rows.F.entry_set_update_loop ?_
  rw [Around.under_plainId PyProof.Rows.F.plain_set_update_loop _]
  refine wpAny_bind (W.item i s _ _ hlt st fun v s' hP st' mv => ?_)
  obtain rfl:=hval i v hP
  have ks':∀ j,j < n→(tk P w).is s'.heap (val j) (adr j):=fun j hj => is_same (ks j hj) fun o e => mv.heap _ o (ha j hj).1 e
  obtain ⟨o,es,ep,t,xs,I,l1,l2,l3,l4⟩:=m.keep (h':=s'.heap) (fun o e => mv.heap S o (fun z => hSf (W.sub _ z)) e) fun j hj o e => mv.heap _ o (ha j hj).1 e
  have hup:∀ b∈wr,b∈S :: wr:=fun b hb => List.mem_cons_of_mem _ hb
  refine wpAny_bind (wpAny_holding ?_)
  unfold setAdd
  refine wpAny_holding (wpAny_bind ((tk P w).pyHash hu (ks' i hlt) ?_))
  have go:∀ h':Heap,Heap.SameBut S s'.heap h'→Mt P w S n val adr led (i + 1) h'→codeAny (model P w) A (.builtin "set.update.loop" ⟨[.ref S,.ref It],[]⟩) R { s' with heap:=h',toks:=s'.toks + (tk P w).draws (val i) }:=fun h' sb m' => by
   refine loop_tup W hu S hSf val adr led hval hb ha d (i + 1) _ (by omega) hlt (W.frame _ s' _ _ st' (Nat.le_add_right _ _) fun b hb o e => ?_) (fun j hj => is_same (ks' j hj) fun o e => ?_) m' fun s2 mv2 m2 => hR s2 (Moved.trans W.gtrans ((mv.mono hup).then_heap (Nat.le_add_right _ _) fun b o hb e => ?_) mv2) m2
   ·rw [sb.2 b (fun z:b = S => hSf (by rw [← z]; exact hb))]; exact e
   ·rw [sb.2 _ (ha j hj).2]; exact e
   ·rw [sb.2 b (fun z:b = S => hb (by rw [z]; exact List.mem_cons_self))]; exact e
  refine add_tup (s:={ s' with toks:=s'.toks + (tk P w).draws (val i) }) hu I (ks' i hlt) (by omega) (fun hin => ?_) (fun hni h' o' es' ep' t' xs' I' pm sb hl => ?_)
  ·refine wpAny_pure ⟨plainId_quiet PyProof.Rows.F.plain_set_update_loop _,go s'.heap (Heap.SameBut.refl S s'.heap) ⟨o,es,ep,t,xs,I,l1,by omega,l3,fun k => ?_⟩⟩
   rw [l4 k]
   constructor
   ·rintro ⟨j,h1,h2⟩; exact ⟨j,by omega,h2⟩
   ·rintro ⟨j,h1,h2⟩
    by_cases e:j = i
    ·subst e; rw [← h2]; exact (l4 _).mp hin
    ·exact ⟨j,by omega,h2⟩
  ·refine wpAny_pure ⟨plainId_quiet PyProof.Rows.F.plain_set_update_loop _,go h' sb ⟨o',es',ep',t',xs',I',hl.trans l1,?_,fun x hx => ?_,fun k => ?_⟩⟩
   ·rw [pm.length_eq,List.length_cons]; omega
   ·rcases List.mem_cons.mp (pm.mem_iff.mp hx) with rfl | hx
    ·exact ⟨i,hlt,rfl⟩
    ·exact l3 x hx
   ·rw [(pm.map (·.1)).mem_iff,List.map_cons,List.mem_cons,l4 k]
    constructor
    ·rintro (rfl | ⟨j,h1,h2⟩)
     ·exact ⟨i,by omega,rfl⟩
     ·exact ⟨j,by omega,h2⟩
    ·rintro ⟨j,h1,h2⟩
     by_cases e:j = i
     ·subst e; exact .inl h2.symm
     ·exact .inr ⟨j,by omega,h2⟩
end
end STb
namespace STb
open PySem PySem.Spec PyProof.Rows L2 SetTable
section
variable {P:Program} {w:World} {A:Around} {E:Value→Shared→Prop} {s:Shared}
abbrev newS (led:Bool):Obj:={ cls:=.type "set",dict:=none,data:=.set #[] 0 (.fresh 0 0 led) }
theorem mt_new {h:Heap} {S n:Nat} {val:Nat→List Key} {adr:Nat→Addr} {led:Bool} (e:h.get? S = some (newS led)):Mt P w S n val adr led 0 h:=by
 refine ⟨_,#[],0,_,[],⟨e,⟨rfl,rfl,rfl⟩,rfl,rfl,⟨rfl,fun i k _ hk => absurd hk (by simp [SetTable.fresh]),fun j hj => ?_,rfl,⟨3,rfl⟩,by show 0≤7; omega,fun i j a => ?_⟩,by show 7≤7∧7≤9000; omega,by show 0 * 5 < 7 * 3; omega,(fun x hx => by cases hx),List.nodup_nil⟩,rfl,Nat.le_refl _,(fun x hx => by cases hx),fun k => ⟨(fun h => by cases h),(fun ⟨j,h,_⟩ => by omega)⟩⟩
 ·obtain ⟨i,hi,_⟩:=hj
  exact absurd hi (by simp [SetTable.fresh])
 ·exact absurd a.1 (by simp [SetTable.fresh])
theorem call_set_tups {l:Addr} {items:Array Value} {val:Nat→List Key} {adr:Nat→Addr} {Q:Value→Shared→Prop} (hh:A.handled = none) (hu:A.units + 8 < cLine) (hl:s.heap.IsList l items) (hit:∀ (i:Nat) v,items[i]? = some v→v = .ref (adr i)) (his:∀ j,j < items.size→(tk P w).is s.heap (val j) (adr j)) (hb:items.size≤990)
  (h:∀ (h':Heap) (tok:Nat) (led:Bool),Mt P w s.heap.objs.size items.size val adr led items.size h'→(∀ b o,b < s.heap.objs.size→s.heap.get? b = some o→h'.get? b = some o)→s.heap.objs.size < h'.objs.size→Q (.ref s.heap.objs.size) { s with heap:=h',toks:=tok }) :
  wpAny (model P w) A (call (.type "set") [.ref l]) Q E s:=by
 obtain ⟨c,tl,hm⟩:=PySem.F.called_set.mro
 have hm1:=PySem.F.called_set.made
 have hm2:=PySem.F.called_set.sub
 refine wpAny_call (codeAny_of_tree ?_)
 show wpAny _ _ (callAny (.type "set") _) _ _ _
 refine wpAny_pure ⟨Code.quiet_builtin _ (by decide +kernel),codeAny_builtin PySem.F.entry_type_call ?_⟩
 rw [Around.under_plain (weight_type_call_type "set" [.ref l] []) rfl]
 have g1:=PySem.F.called_set.notType
 have g2:=PySem.F.called_set.canCreate
 have g3:=PySem.F.typeCall_set_1 (.ref l)
 repeat (any_goals (first | assumption | wp_step))
 refine codeAny_mono (code_set_new_1 (.ref l) (E:=E) (Q₁:=fun v s1 => ∃ led:Bool,v = .ref s.heap.objs.size∧s1 = { s with heap:=s.heap.push (newS led) }) fun led => ⟨led,rfl,rfl⟩) fun r s1 hr => ?_
 cases r with
 | error e => exact hr
 | ok f1 =>
  cases f1 with
  | ret v =>
   obtain ⟨led,rfl,rfl⟩:=hr
   have e1:(s.heap.push (newS led)).get? s.heap.objs.size = some (newS led):=Heap.get?_push_size _ rfl
   have ty:Shared.TypeIs { s with heap:=s.heap.push (newS led) } (.ref s.heap.objs.size) "set":=⟨_,e1,rfl⟩
   have g4:=PySem.F.called_set.init.lookup
   have g5:=PySem.F.called_set.init.bind (.ref s.heap.objs.size)
   repeat (any_goals (first | assumption | wp_step))
   refine codeAny_mono (codeAny_call_builtin (R:=wants (fun r s2 => r = .none∧∃ h' tok,s2 = { s with heap:=h',toks:=tok }∧Mt P w s.heap.objs.size items.size val adr led items.size h'∧(∀ b o,b < s.heap.objs.size→s.heap.get? b = some o→h'.get? b = some o)) E) PySem.F.called_set.init.plain F.entry_set_init (check_set_init_1 ty ?_)) fun r2 s2 hr2 => ?_
   ·obtain ⟨ol,hol,hcl,nl,hdl⟩:=hl
    obtain ⟨o1,o2,o3,o4⟩:=ol
    simp only at hcl hdl
    subst hcl; subst hdl
    have hol2:(s.heap.push (newS led)).get? l = some { cls:=.type "list",dict:=o2,data:=.seq items nl,slots:=o4 }:=Heap.get?_push_of_some _ hol
    have g6:=PySem.F.sub_list_set
    have g7:=PySem.F.sub_list_frozenset
    have g8:(Value.type "list" == Value.type "dict") = false:=by decide
    have hl1:(s.heap.push (newS led)).IsList l items:=⟨_,hol2,rfl,nl,rfl⟩
    unfold Builtin.«set.__init__» noKeywords Builtin.Frozenset.updateFrom
    generalize hPI:pyIter = PI
    wp_walk
    subst hPI
    refine wpAny_pyIter_list hl1 (wpAny_bind (wpAny_runValue ?_))
    have hlS:l < s.heap.objs.size:=Heap.lt_size hol
    have hsp:(s.heap.push (newS led)).objs.size = s.heap.objs.size + 1:=Heap.size_push ..
    have a1:∀ j,j < items.size→adr j < s.heap.objs.size:=fun j hj => by
     obtain ⟨oj,_,_,hoj,_⟩:=his j hj
     exact Heap.lt_size hoj
    refine loop_tup ((Walks.list (by simp [hh]) _ l (by rw [hsp]; exact Nat.ne_of_lt (Nat.lt_succ_of_lt hlS)) items).toS) ?hu s.heap.objs.size ?hS val adr led hit hb (fun j hj => ?hA) (items.size - 0) 0 _ (by omega) (Nat.zero_le _) ⟨⟨_,Heap.get?_push_size _ rfl,rfl,rfl⟩,(hl1.push _)⟩ (fun j hj => ?hI) (mt_new (Heap.get?_push_of_some _ e1)) ?hR
    case hu => show A.units + 1 + 1 + 1 < cLine; omega
    case hS => rw [hsp]; simp only [List.mem_cons,List.not_mem_nil,or_false,not_or]; exact ⟨Nat.ne_of_lt (Nat.lt_succ_self _),Nat.ne_of_gt hlS⟩
    case hA => have:=a1 j hj; rw [hsp]; simp only [List.mem_cons,List.not_mem_nil,or_false]; exact ⟨Nat.ne_of_lt (Nat.lt_succ_of_lt this),Nat.ne_of_lt this⟩
    case hI => exact is_same (his j hj) fun o e => Heap.get?_push_of_some _ (Heap.get?_push_of_some _ e)
    case hR =>
     intro s' mv m'
     obtain ⟨h',g',d',tk',os'⟩:=s'
     have eg:g' = s.gens:=mv.gens
     have ed:d' = s.drawn:=mv.drawn
     have eo:os' = s.os:=mv.os
     subst eg; subst ed; subst eo
     refine wpAny_pure (wpAny_pure ⟨rfl,h',tk',rfl,m',fun b o hb e => ?_⟩)
     refine mv.heap b o ?_ (Heap.get?_push_of_some _ (Heap.get?_push_of_some _ e))
     rw [hsp]; simp only [List.mem_cons,List.not_mem_nil,or_false,not_or]; exact ⟨Nat.ne_of_lt hb,Nat.ne_of_lt (Nat.lt_succ_of_lt hb)⟩
   ·cases r2 with
    | error e => exact hr2
    | ok f2 =>
     cases f2 with
     | ret r =>
      obtain ⟨rfl,h',tok,rfl,m',keep⟩:=hr2
      repeat (any_goals (first | assumption | wp_step))
      have m2:=m'
      obtain ⟨o',_,_,_,_,I',_⟩:=m2
      exact h h' tok led m' keep (Heap.lt_size I'.get)
     | _ => exact hr2.elim
  | _ => exact hr.elim
end
end STb
namespace L2
open PySem PySem.Spec PyProof.Rows TS STb
def SetE (P:Program) (w:World) (S:Addr) (us:List (List Key × Addr)) (led:Bool) (h:Heap):Prop :=
 ∃ o es ep t,h.get? S = some o∧o.ExactSet∧o.data = .set es ep t∧es.toList = us.map (fun x => ((tk P w).hash x.1,Value.ref x.2))∧Tbl t (hsOf es) es.size∧t.led = led
theorem SetE.keep {P:Program} {w:World} {S:Addr} {us:List (List Key × Addr)} {led:Bool} {h h':Heap} (x:SetE P w S us led h) (k:∀ o,h.get? S = some o→h'.get? S = some o):SetE P w S us led h':=by
 obtain ⟨o,es,ep,t,e,r⟩:=x
 exact ⟨o,es,ep,t,k _ e,r⟩
section
variable {X:Cx}
theorem call_setT (hc:X.calm = true) (hu:X.A.units + 64 < cLine):CallR X (.type "set") (fun xs H Q => ∃ p bs ks,xs = [.ref p]∧H p = some (.lst (bs.map V.ref))∧KeyAt H bs ks∧ks.length≤990 ∧
  ∀ S us led,H S = none→(us.map (·.1)).Nodup→(∀ k,k∈us.map (·.1)↔k∈ks)→(∀ x∈us,H x.2 = some (.tup (x.1.map kV)))→Q (.ref S) (upd H S (.ext (SetE X.prog X.w S us led)))):=by
 intro pins s σ H xs us Q I r h
 obtain ⟨p,bs,ks,rfl,e,ka,hn,q⟩:=h
 obtain ⟨u,rfl,ru⟩:=vals1 r
 cases ru
 obtain ⟨its,rv,pl,hz⟩:=I.list (SqL.of e)
 obtain rfl:=refs_of rv
 have lb:bs.length = ks.length:=ka.1
 have at_:∀ j,j < bs.length→∃ b k,bs[j]? = some b∧ks[j]? = some k∧bs.getD j 0 = b∧ks.getD j [] = k∧H b = some (.tup (k.map kV)):=fun j hj => by
  have h1:=List.getElem?_eq_getElem hj
  have h2:=List.getElem?_eq_getElem (show j < ks.length by omega)
  exact ⟨_,_,h1,h2,by rw [List.getD_eq_getElem?_getD,h1]; rfl,by rw [List.getD_eq_getElem?_getD,h2]; rfl,ka.2 j _ _ h1 h2⟩
 have sz:(bs.map Value.ref).toArray.size = bs.length:=by simp
 refine call_set_tups (val:=fun j => ks.getD j []) (adr:=fun j => bs.getD j 0) (I.ok.hd hc) (by omega) pl.isList (fun i v hv => ?_) (fun j hj => ?_) (by rw [sz]; omega) fun h' tok led m keep hlt => ?_
 ·rw [List.getElem?_toArray,List.getElem?_map] at hv
  obtain ⟨b,h1,h2⟩:=Option.map_eq_some_iff.mp hv
  rw [← h2]
  show Value.ref b = Value.ref (bs.getD i 0)
  rw [List.getD_eq_getElem?_getD,h1]; rfl
 ·rw [sz] at hj
  obtain ⟨b,k,_,_,e1,e2,e3⟩:=at_ j hj
  show (tk X.prog X.w).is s.heap (ks.getD j []) (bs.getD j 0)
  rw [e1,e2]
  exact key_of I.hok e3
 ·rw [sz] at m
  obtain ⟨o,es,ep,t,us,J,l1,l2,l3,l4⟩:=m
  have fresh:=I.hok.fresh (Nat.le_refl s.heap.objs.size)
  refine ⟨.ref s.heap.objs.size,_,I.laid (a:=s.heap.objs.size) (o:=.ext (SetE X.prog X.w s.heap.objs.size us led)) (t':=tok) (fun b u hb => keep b u (Heap.lt_size hb) hb) (Nat.le_refl _) ⟨⟨o,es,ep,t,J.get,J.ex,J.data,J.ent,J.tb,l1⟩,⟨o,J.get⟩,fun h1 h2 x k => x.keep k⟩,rfl,q _ us led fresh J.nd (fun k => ?_) fun x hx => ?_⟩
  ·rw [l4 k]
   constructor
   ·rintro ⟨j,hj,rfl⟩
    obtain ⟨b,k,_,h2,_,e2,_⟩:=at_ j hj
    show ks.getD j []∈ks
    rw [e2]; exact List.mem_of_getElem? h2
   ·intro hk
    obtain ⟨j,hj,ej⟩:=List.getElem_of_mem hk
    exact ⟨j,by omega,by show ks.getD j [] = k; rw [List.getD_eq_getElem?_getD,List.getElem?_eq_getElem hj,ej]; rfl⟩
  ·obtain ⟨j,hj,ej⟩:=l3 x hx
   obtain ⟨b,k,_,_,e1,e2,e3⟩:=at_ j hj
   have ej:x.2 = b:=ej.trans e1
   have i1:=J.is x hx
   have i2:(tk X.prog X.w).is h' k b:=is_same (key_of I.hok e3) fun ob he => keep _ _ (Heap.lt_size he) he
   rw [ej] at i1
   rw [ej,(tk X.prog X.w).inj i1 i2]
   exact e3
theorem call_lenS:CallR X (.builtin "len") (fun xs H Q => ∃ S us led,xs = [.ref S]∧H S = some (.ext (SetE X.prog X.w S us led))∧us.length≤1000000∧Q (.int us.length) H):=by
 intro pins s σ H xs us Q I r h
 obtain ⟨S,vs,led,rfl,e,hn,q⟩:=h
 obtain ⟨u,rfl,ru⟩:=vals1 r
 cases ru
 obtain ⟨⟨o,es,ep,t,h1,h2,h3,h4,h5,h6⟩,_⟩:=(show ObjOk X.prog X.w H s.heap S (.ext (SetE X.prog X.w S vs led)) from I.hok S _ e)
 have sz:es.size = vs.length:=by rw [← Array.length_toList,h4,List.length_map]
 refine call_len_set h1 h2 h3 h5.fits (by rw [sz]; omega) ?_
 rw [sz]
 exact ⟨.int vs.length,H,I.tok _,⟨_,rfl⟩,q⟩
end
end L2
namespace L2
open PySem
variable {F:List Value → Prop}
theorem ar1 (h:∀ a,F [a]):∀ us:List Value,us.length=1→F us
  | [a],_ => h a
theorem ar2 (h:∀ a b,F [a,b]):∀ us:List Value,us.length=2→F us
  | [a,b],_ => h a b
theorem ar3 (h:∀ a b c,F [a,b,c]):∀ us:List Value,us.length=3→F us
  | [a,b,c],_ => h a b c
theorem ar4 (h:∀ a b c d,F [a,b,c,d]):∀ us:List Value,us.length=4→F us
  | [a,b,c,d],_ => h a b c d
theorem ar5 (h:∀ a b c d e,F [a,b,c,d,e]):∀ us:List Value,us.length=5→F us
  | [a,b,c,d,e],_ => h a b c d e
end L2
set_option genInjectivity false
namespace K23
open PySem L2 Wd
def top (i:Nat):Stmt:=PySem.Challenge.pw_copperbook_k23_whole_joined_or_not.main.body.getD i (.Pass ⟨0,0,0,0⟩)
abbrev s_near:Stmt:=top 8
theorem sc_near:FnScope ["board","cell"] ["board","cell"] (defScope s_near):=⟨rfl,rfl,rfl,by decide +kernel,rfl,by decide +kernel,by decide +kernel⟩
abbrev s_island_of:Stmt:=top 9
theorem sc_island_of:FnScope ["board","cell"] ["board","cell"] (defScope s_island_of):=⟨rfl,rfl,rfl,by decide +kernel,rfl,by decide +kernel,by decide +kernel⟩
abbrev s_walk:Stmt:=top 10
theorem sc_walk:FnScope ["board","one","other","back","cells"] ["board","one","other"] (defScope s_walk):=⟨rfl,rfl,rfl,by decide +kernel,rfl,by decide +kernel,by decide +kernel⟩
abbrev s_spread:Stmt:=top 11
theorem sc_spread:FnScope ["board","start","back","edge","farther","cell","other"] ["board","start"] (defScope s_spread):=⟨rfl,rfl,rfl,by decide +kernel,rfl,by decide +kernel,by decide +kernel⟩
abbrev s_neighbours:Stmt:=top 12
theorem sc_neighbours:FnScope ["board","cell","spots"] ["board","cell"] (defScope s_neighbours):=⟨rfl,rfl,rfl,by decide +kernel,rfl,by decide +kernel,by decide +kernel⟩
abbrev s_beside:Stmt:=top 13
theorem sc_beside:FnScope ["cell","x","y","z"] ["cell"] (defScope s_beside):=⟨rfl,rfl,rfl,by decide +kernel,rfl,by decide +kernel,by decide +kernel⟩
abbrev s_over_and_under:Stmt:=top 14
theorem sc_over_and_under:FnScope ["cell","layers"] ["cell","layers"] (defScope s_over_and_under):=⟨rfl,rfl,rfl,by decide +kernel,rfl,by decide +kernel,by decide +kernel⟩
abbrev s_need_copper:Stmt:=top 15
theorem sc_need_copper:FnScope ["board","cell"] ["board","cell"] (defScope s_need_copper):=⟨rfl,rfl,rfl,by decide +kernel,rfl,by decide +kernel,by decide +kernel⟩
abbrev s_is_whole:Stmt:=top 17
theorem sc_is_whole:FnScope ["value"] ["value"] (defScope s_is_whole):=⟨rfl,rfl,rfl,by decide +kernel,rfl,by decide +kernel,by decide +kernel⟩
abbrev s_Board_init:Stmt:=inClass (top 22) 0
theorem sc_Board_init:FnScope ["self","wide","high","layers"] ["self","wide","high","layers"] (defScope s_Board_init):=⟨rfl,rfl,rfl,by decide +kernel,rfl,by decide +kernel,by decide +kernel⟩
abbrev s_Board_cells:Stmt:=inClass (top 22) 10
theorem sc_Board_cells:FnScope ["self","z"] ["self","z"] (defScope s_Board_cells):=⟨rfl,rfl,rfl,by decide +kernel,rfl,by decide +kernel,by decide +kernel⟩
abbrev s_Board_holes:Stmt:=inClass (top 22) 11
theorem sc_Board_holes:FnScope ["self"] ["self"] (defScope s_Board_holes):=⟨rfl,rfl,rfl,by decide +kernel,rfl,by decide +kernel,by decide +kernel⟩
abbrev s_Board_lay:Stmt:=inClass (top 22) 1
theorem sc_Board_lay:FnScope ["self","shape","z"] ["self","shape","z"] (defScope s_Board_lay):=⟨rfl,rfl,rfl,by decide +kernel,rfl,by decide +kernel,by decide +kernel⟩
abbrev s_Board_clear:Stmt:=inClass (top 22) 2
theorem sc_Board_clear:FnScope ["self","shape","z"] ["self","shape","z"] (defScope s_Board_clear):=⟨rfl,rfl,rfl,by decide +kernel,rfl,by decide +kernel,by decide +kernel⟩
abbrev s_Board_put:Stmt:=inClass (top 22) 3
theorem sc_Board_put:FnScope ["self","cells","cell"] ["self","cells"] (defScope s_Board_put):=⟨rfl,rfl,rfl,by decide +kernel,rfl,by decide +kernel,by decide +kernel⟩
abbrev s_Board_take:Stmt:=inClass (top 22) 4
theorem sc_Board_take:FnScope ["self","cells","cell"] ["self","cells"] (defScope s_Board_take):=⟨rfl,rfl,rfl,by decide +kernel,rfl,by decide +kernel,by decide +kernel⟩
abbrev s_Board_drill:Stmt:=inClass (top 22) 5
theorem sc_Board_drill:FnScope ["self","x","y"] ["self","x","y"] (defScope s_Board_drill):=⟨rfl,rfl,rfl,by decide +kernel,rfl,by decide +kernel,by decide +kernel⟩
abbrev s_Board_plug:Stmt:=inClass (top 22) 6
theorem sc_Board_plug:FnScope ["self","x","y"] ["self","x","y"] (defScope s_Board_plug):=⟨rfl,rfl,rfl,by decide +kernel,rfl,by decide +kernel,by decide +kernel⟩
abbrev s_Board_is_copper:Stmt:=inClass (top 22) 7
theorem sc_Board_is_copper:FnScope ["self","x","y","z"] ["self","x","y","z"] (defScope s_Board_is_copper):=⟨rfl,rfl,rfl,by decide +kernel,rfl,by decide +kernel,by decide +kernel⟩
abbrev s_Board_has_hole:Stmt:=inClass (top 22) 8
theorem sc_Board_has_hole:FnScope ["self","x","y"] ["self","x","y"] (defScope s_Board_has_hole):=⟨rfl,rfl,rfl,by decide +kernel,rfl,by decide +kernel,by decide +kernel⟩
abbrev s_Board_has_layer:Stmt:=inClass (top 22) 16
theorem sc_Board_has_layer:FnScope ["self","z"] ["self","z"] (defScope s_Board_has_layer):=⟨rfl,rfl,rfl,by decide +kernel,rfl,by decide +kernel,by decide +kernel⟩
abbrev s_Board_has_square:Stmt:=inClass (top 22) 17
theorem sc_Board_has_square:FnScope ["self","x","y"] ["self","x","y"] (defScope s_Board_has_square):=⟨rfl,rfl,rfl,by decide +kernel,rfl,by decide +kernel,by decide +kernel⟩
abbrev s_Board_has_cell:Stmt:=inClass (top 22) 18
theorem sc_Board_has_cell:FnScope ["self","cell"] ["self","cell"] (defScope s_Board_has_cell):=⟨rfl,rfl,rfl,by decide +kernel,rfl,by decide +kernel,by decide +kernel⟩
abbrev s_Board_need_square:Stmt:=inClass (top 22) 19
theorem sc_Board_need_square:FnScope ["self","x","y"] ["self","x","y"] (defScope s_Board_need_square):=⟨rfl,rfl,rfl,by decide +kernel,rfl,by decide +kernel,by decide +kernel⟩
abbrev s_Board_need_cells:Stmt:=inClass (top 22) 20
theorem sc_Board_need_cells:FnScope ["self","cells","cell"] ["self","cells"] (defScope s_Board_need_cells):=⟨rfl,rfl,rfl,by decide +kernel,rfl,by decide +kernel,by decide +kernel⟩
abbrev s_Board_shape_cells:Stmt:=inClass (top 22) 21
theorem sc_Board_shape_cells:FnScope ["self","shape","z","box"] ["self","shape","z"] (defScope s_Board_shape_cells):=⟨rfl,rfl,rfl,by decide +kernel,rfl,by decide +kernel,by decide +kernel⟩
abbrev s_need_measure:Stmt:=top 23
theorem sc_need_measure:FnScope ["measure","most"] ["measure","most"] (defScope s_need_measure):=⟨rfl,rfl,rfl,by decide +kernel,rfl,by decide +kernel,by decide +kernel⟩
abbrev s_Block_init:Stmt:=inClass (top 26) 0
theorem sc_Block_init:FnScope ["self","x","y","wide","high"] ["self","x","y","wide","high"] (defScope s_Block_init):=⟨rfl,rfl,rfl,by decide +kernel,rfl,by decide +kernel,by decide +kernel⟩
abbrev s_Block_cells:Stmt:=inClass (top 26) 1
theorem sc_Block_cells:FnScope ["self"] ["self"] (defScope s_Block_cells):=⟨rfl,rfl,rfl,by decide +kernel,rfl,by decide +kernel,by decide +kernel⟩
abbrev s_Block_box:Stmt:=inClass (top 26) 2
theorem sc_Block_box:FnScope ["self"] ["self"] (defScope s_Block_box):=⟨rfl,rfl,rfl,by decide +kernel,rfl,by decide +kernel,by decide +kernel⟩
abbrev s_need_whole:Stmt:=top 27
theorem sc_need_whole:FnScope ["numbers","number"] ["numbers"] (defScope s_need_whole):=⟨rfl,rfl,rfl,by decide +kernel,rfl,by decide +kernel,by decide +kernel⟩
abbrev s_need_from_one:Stmt:=top 28
theorem sc_need_from_one:FnScope ["numbers"] ["numbers"] (defScope s_need_from_one):=⟨rfl,rfl,rfl,by decide +kernel,rfl,by decide +kernel,by decide +kernel⟩
abbrev s_box_places:Stmt:=top 29
theorem sc_box_places:FnScope ["x","y","wide","high","places","column"] ["x","y","wide","high"] (defScope s_box_places):=⟨rfl,rfl,rfl,by decide +kernel,rfl,by decide +kernel,by decide +kernel⟩
abbrev s_law_cell_at:Stmt:=top 31
theorem sc_law_cell_at:FnScope ["_law_script","_law_k"] ["_law_script","_law_k"] (defScope s_law_cell_at):=⟨rfl,rfl,rfl,by decide +kernel,rfl,by decide +kernel,by decide +kernel⟩
abbrev s_law_mixed:Stmt:=top 32
theorem sc_law_mixed:FnScope ["_law_cell","_law_k","_law_number"] ["_law_cell","_law_k"] (defScope s_law_mixed):=⟨rfl,rfl,rfl,by decide +kernel,rfl,by decide +kernel,by decide +kernel⟩
abbrev s_law_rows:Stmt:=top 33
theorem sc_law_rows:FnScope ["_law_cell","_law_many","_law_wide","_law_mixed_here","_law_found","_law_rest","_law_k","_law_draw"] ["_law_cell","_law_many","_law_wide","_law_mixed_here"] (defScope s_law_rows):=⟨rfl,rfl,rfl,by decide +kernel,rfl,by decide +kernel,by decide +kernel⟩
abbrev s_law_board:Stmt:=top 34
theorem sc_law_board:FnScope ["_law_script","_law_cell","_law_size","_law_mixed_here","_law_board_here","_law_k","_law_row","_law_x","_law_y"] ["_law_script"] (defScope s_law_board):=⟨rfl,rfl,rfl,by decide +kernel,rfl,by decide +kernel,by decide +kernel⟩
abbrev s_law_lined:Stmt:=top 35
theorem sc_law_lined:FnScope ["_law_board_here","_law_script","_law_z","_law_y","_law_at"] ["_law_board_here","_law_script"] (defScope s_law_lined):=⟨rfl,rfl,rfl,by decide +kernel,rfl,by decide +kernel,by decide +kernel⟩
abbrev s_law_rounds:Stmt:=top 36
theorem sc_law_rounds:FnScope ["_law_board_here","_law_one","_law_found","_law_row","_law_at","_law_other"] ["_law_board_here","_law_one"] (defScope s_law_rounds):=⟨rfl,rfl,rfl,by decide +kernel,rfl,by decide +kernel,by decide +kernel⟩
abbrev s_law_right:Stmt:=top 37
theorem sc_law_right:FnScope ["_law_board_here","_law_one","_law_other","_law_turns","_law_found","_law_joined","_law_k","_law_many"] ["_law_board_here","_law_one","_law_other","_law_turns"] (defScope s_law_right):=⟨rfl,rfl,rfl,by decide +kernel,rfl,by decide +kernel,by decide +kernel⟩
abbrev s_law_deed:Stmt:=top 38
theorem sc_law_deed:FnScope ["_law_board_here","_law_cell","_law_x","_law_y","_law_z","_law_way"] ["_law_board_here","_law_cell"] (defScope s_law_deed):=⟨rfl,rfl,rfl,by decide +kernel,rfl,by decide +kernel,by decide +kernel⟩
abbrev s_law:Stmt:=top 39
theorem sc_law:FnScope ["_law_script","_law_board_here","_law_twin","_law_first","_law_cells","_law_kept","_law_one","_law_turns","_law_k","_law_other"] ["_law_script"] (defScope s_law):=⟨rfl,rfl,rfl,by decide +kernel,rfl,by decide +kernel,by decide +kernel⟩
structure Adr where
 c_Board:Addr
 c_Block:Addr
 f_near:Addr
 f_island_of:Addr
 f_walk:Addr
 f_spread:Addr
 f_neighbours:Addr
 f_beside:Addr
 f_over_and_under:Addr
 f_need_copper:Addr
 f_is_whole:Addr
 f_Board_init:Addr
 f_Board_cells:Addr
 f_Board_holes:Addr
 f_Board_lay:Addr
 f_Board_clear:Addr
 f_Board_put:Addr
 f_Board_take:Addr
 f_Board_drill:Addr
 f_Board_plug:Addr
 f_Board_is_copper:Addr
 f_Board_has_hole:Addr
 f_Board_has_layer:Addr
 f_Board_has_square:Addr
 f_Board_has_cell:Addr
 f_Board_need_square:Addr
 f_Board_need_cells:Addr
 f_Board_shape_cells:Addr
 f_need_measure:Addr
 f_Block_init:Addr
 f_Block_cells:Addr
 f_Block_box:Addr
 f_need_whole:Addr
 f_need_from_one:Addr
 f_box_places:Addr
 f_law_cell_at:Addr
 f_law_mixed:Addr
 f_law_rows:Addr
 f_law_board:Addr
 f_law_lined:Addr
 f_law_rounds:Addr
 f_law_right:Addr
 f_law_deed:Addr
 f_law:Addr
 c_CopperError:Addr
 c_NoShape:Addr
 c_NoBoard:Addr
 c_NoPlace:Addr
 c_NoCopper:Addr
 tk_MOST_WIDE:Tok
 tk_MOST_HIGH:Tok
 tk_MOST_LAYERS:Tok
structure Txt (K:PySem.W.Frag) (mg:Str→Option Value) (t:Adr):Prop where
 g_Board:mg "Board" = some (.ref t.c_Board)
 g_Block:mg "Block" = some (.ref t.c_Block)
 cl_Board:Cls K t.c_Board
 na_Board_wide:NoAttr K t.c_Board "wide"
 na_Board_high:NoAttr K t.c_Board "high"
 na_Board_layers:NoAttr K t.c_Board "layers"
 na_Board_copper:NoAttr K t.c_Board "copper"
 na_Board_drilled:NoAttr K t.c_Board "drilled"
 cl_Block:Cls K t.c_Block
 na_Block_x:NoAttr K t.c_Block "x"
 na_Block_y:NoAttr K t.c_Block "y"
 na_Block_wide:NoAttr K t.c_Block "wide"
 na_Block_high:NoAttr K t.c_Block "high"
 F_near:∃ fd,Fun K "near" "near" s_near t.f_near fd∧Binds K fd ["board","cell"] []
 g_near:mg "near" = some (.ref t.f_near)
 F_island_of:∃ fd,Fun K "island_of" "island_of" s_island_of t.f_island_of fd∧Binds K fd ["board","cell"] []
 g_island_of:mg "island_of" = some (.ref t.f_island_of)
 F_walk:∃ fd,Fun K "walk" "walk" s_walk t.f_walk fd∧Binds K fd ["board","one","other"] []
 g_walk:mg "walk" = some (.ref t.f_walk)
 F_spread:∃ fd,Fun K "spread" "spread" s_spread t.f_spread fd∧Binds K fd ["board","start"] []
 g_spread:mg "spread" = some (.ref t.f_spread)
 F_neighbours:∃ fd,Fun K "neighbours" "neighbours" s_neighbours t.f_neighbours fd∧Binds K fd ["board","cell"] []
 g_neighbours:mg "neighbours" = some (.ref t.f_neighbours)
 F_beside:∃ fd,Fun K "beside" "beside" s_beside t.f_beside fd∧Binds K fd ["cell"] []
 g_beside:mg "beside" = some (.ref t.f_beside)
 F_over_and_under:∃ fd,Fun K "over_and_under" "over_and_under" s_over_and_under t.f_over_and_under fd∧Binds K fd ["cell","layers"] []
 g_over_and_under:mg "over_and_under" = some (.ref t.f_over_and_under)
 F_need_copper:∃ fd,Fun K "need_copper" "need_copper" s_need_copper t.f_need_copper fd∧Binds K fd ["board","cell"] []
 g_need_copper:mg "need_copper" = some (.ref t.f_need_copper)
 F_is_whole:∃ fd,Fun K "is_whole" "is_whole" s_is_whole t.f_is_whole fd∧Binds K fd ["value"] []
 g_is_whole:mg "is_whole" = some (.ref t.f_is_whole)
 F_Board_init:∃ fd,FunD K "__init__" "Board.__init__" s_Board_init t.f_Board_init fd∧Binds K fd ["self","wide","high","layers"] []
 K_Board:Mk K t.c_Board t.f_Board_init
 F_Board_cells:∃ fd,FunD K "cells" "Board.cells" s_Board_cells t.f_Board_cells fd∧Binds K fd ["self","z"] []∧Binds K fd ["self","z"] [Value.none]
 M_Board_cells:Meth K t.c_Board "cells" t.f_Board_cells
 F_Board_holes:∃ fd,Fun K "holes" "Board.holes" s_Board_holes t.f_Board_holes fd∧Binds K fd ["self"] []
 M_Board_holes:Meth K t.c_Board "holes" t.f_Board_holes
 F_Board_lay:∃ fd,FunD K "lay" "Board.lay" s_Board_lay t.f_Board_lay fd∧Binds K fd ["self","shape","z"] []
 M_Board_lay:Meth K t.c_Board "lay" t.f_Board_lay
 F_Board_clear:∃ fd,FunD K "clear" "Board.clear" s_Board_clear t.f_Board_clear fd∧Binds K fd ["self","shape","z"] []
 M_Board_clear:Meth K t.c_Board "clear" t.f_Board_clear
 F_Board_put:∃ fd,Fun K "put" "Board.put" s_Board_put t.f_Board_put fd∧Binds K fd ["self","cells"] []
 M_Board_put:Meth K t.c_Board "put" t.f_Board_put
 F_Board_take:∃ fd,Fun K "take" "Board.take" s_Board_take t.f_Board_take fd∧Binds K fd ["self","cells"] []
 M_Board_take:Meth K t.c_Board "take" t.f_Board_take
 F_Board_drill:∃ fd,Fun K "drill" "Board.drill" s_Board_drill t.f_Board_drill fd∧Binds K fd ["self","x","y"] []
 M_Board_drill:Meth K t.c_Board "drill" t.f_Board_drill
 F_Board_plug:∃ fd,Fun K "plug" "Board.plug" s_Board_plug t.f_Board_plug fd∧Binds K fd ["self","x","y"] []
 M_Board_plug:Meth K t.c_Board "plug" t.f_Board_plug
 F_Board_is_copper:∃ fd,FunD K "is_copper" "Board.is_copper" s_Board_is_copper t.f_Board_is_copper fd∧Binds K fd ["self","x","y","z"] []
 M_Board_is_copper:Meth K t.c_Board "is_copper" t.f_Board_is_copper
 F_Board_has_hole:∃ fd,Fun K "has_hole" "Board.has_hole" s_Board_has_hole t.f_Board_has_hole fd∧Binds K fd ["self","x","y"] []
 M_Board_has_hole:Meth K t.c_Board "has_hole" t.f_Board_has_hole
 F_Board_has_layer:∃ fd,Fun K "has_layer" "Board.has_layer" s_Board_has_layer t.f_Board_has_layer fd∧Binds K fd ["self","z"] []
 M_Board_has_layer:Meth K t.c_Board "has_layer" t.f_Board_has_layer
 F_Board_has_square:∃ fd,Fun K "has_square" "Board.has_square" s_Board_has_square t.f_Board_has_square fd∧Binds K fd ["self","x","y"] []
 M_Board_has_square:Meth K t.c_Board "has_square" t.f_Board_has_square
 F_Board_has_cell:∃ fd,Fun K "has_cell" "Board.has_cell" s_Board_has_cell t.f_Board_has_cell fd∧Binds K fd ["self","cell"] []
 M_Board_has_cell:Meth K t.c_Board "has_cell" t.f_Board_has_cell
 F_Board_need_square:∃ fd,Fun K "need_square" "Board.need_square" s_Board_need_square t.f_Board_need_square fd∧Binds K fd ["self","x","y"] []
 M_Board_need_square:Meth K t.c_Board "need_square" t.f_Board_need_square
 F_Board_need_cells:∃ fd,Fun K "need_cells" "Board.need_cells" s_Board_need_cells t.f_Board_need_cells fd∧Binds K fd ["self","cells"] []
 M_Board_need_cells:Meth K t.c_Board "need_cells" t.f_Board_need_cells
 F_Board_shape_cells:∃ fd,Fun K "shape_cells" "Board.shape_cells" s_Board_shape_cells t.f_Board_shape_cells fd∧Binds K fd ["self","shape","z"] []
 M_Board_shape_cells:Meth K t.c_Board "shape_cells" t.f_Board_shape_cells
 F_need_measure:∃ fd,Fun K "need_measure" "need_measure" s_need_measure t.f_need_measure fd∧Binds K fd ["measure","most"] []
 g_need_measure:mg "need_measure" = some (.ref t.f_need_measure)
 F_Block_init:∃ fd,Fun K "__init__" "Block.__init__" s_Block_init t.f_Block_init fd∧Binds K fd ["self","x","y","wide","high"] []
 K_Block:Mk K t.c_Block t.f_Block_init
 F_Block_cells:∃ fd,Fun K "cells" "Block.cells" s_Block_cells t.f_Block_cells fd∧Binds K fd ["self"] []
 M_Block_cells:Meth K t.c_Block "cells" t.f_Block_cells
 F_Block_box:∃ fd,Fun K "box" "Block.box" s_Block_box t.f_Block_box fd∧Binds K fd ["self"] []
 M_Block_box:Meth K t.c_Block "box" t.f_Block_box
 F_need_whole:∃ fd,Fun K "need_whole" "need_whole" s_need_whole t.f_need_whole fd∧Binds K fd ["numbers"] []
 g_need_whole:mg "need_whole" = some (.ref t.f_need_whole)
 F_need_from_one:∃ fd,Fun K "need_from_one" "need_from_one" s_need_from_one t.f_need_from_one fd∧Binds K fd ["numbers"] []
 g_need_from_one:mg "need_from_one" = some (.ref t.f_need_from_one)
 F_box_places:∃ fd,Fun K "box_places" "box_places" s_box_places t.f_box_places fd∧Binds K fd ["x","y","wide","high"] []
 g_box_places:mg "box_places" = some (.ref t.f_box_places)
 F_law_cell_at:∃ fd,Fun K "_law_cell_at" "_law_cell_at" s_law_cell_at t.f_law_cell_at fd∧Binds K fd ["_law_script","_law_k"] []
 g__law_cell_at:mg "_law_cell_at" = some (.ref t.f_law_cell_at)
 F_law_mixed:∃ fd,Fun K "_law_mixed" "_law_mixed" s_law_mixed t.f_law_mixed fd∧Binds K fd ["_law_cell","_law_k"] []
 g__law_mixed:mg "_law_mixed" = some (.ref t.f_law_mixed)
 F_law_rows:∃ fd,Fun K "_law_rows" "_law_rows" s_law_rows t.f_law_rows fd∧Binds K fd ["_law_cell","_law_many","_law_wide","_law_mixed_here"] []
 g__law_rows:mg "_law_rows" = some (.ref t.f_law_rows)
 F_law_board:∃ fd,Fun K "_law_board" "_law_board" s_law_board t.f_law_board fd∧Binds K fd ["_law_script"] []
 g__law_board:mg "_law_board" = some (.ref t.f_law_board)
 F_law_lined:∃ fd,Fun K "_law_lined" "_law_lined" s_law_lined t.f_law_lined fd∧Binds K fd ["_law_board_here","_law_script"] []
 g__law_lined:mg "_law_lined" = some (.ref t.f_law_lined)
 F_law_rounds:∃ fd,Fun K "_law_rounds" "_law_rounds" s_law_rounds t.f_law_rounds fd∧Binds K fd ["_law_board_here","_law_one"] []
 g__law_rounds:mg "_law_rounds" = some (.ref t.f_law_rounds)
 F_law_right:∃ fd,Fun K "_law_right" "_law_right" s_law_right t.f_law_right fd∧Binds K fd ["_law_board_here","_law_one","_law_other","_law_turns"] []
 g__law_right:mg "_law_right" = some (.ref t.f_law_right)
 F_law_deed:∃ fd,Fun K "_law_deed" "_law_deed" s_law_deed t.f_law_deed fd∧Binds K fd ["_law_board_here","_law_cell"] []
 g__law_deed:mg "_law_deed" = some (.ref t.f_law_deed)
 F_law:∃ fd,Fun K "law" "law" s_law t.f_law fd∧∀ (s:Shared) (u:Value),BindsTo s fd ⟨[u],[]⟩ [("_law_script",u)]
 g_law:mg "law" = some (.ref t.f_law)
 g_CopperError:mg "CopperError" = some (.ref t.c_CopperError)
 g_NoShape:mg "NoShape" = some (.ref t.c_NoShape)
 g_NoBoard:mg "NoBoard" = some (.ref t.c_NoBoard)
 g_NoPlace:mg "NoPlace" = some (.ref t.c_NoPlace)
 g_NoCopper:mg "NoCopper" = some (.ref t.c_NoCopper)
 e_NoBoard:Err K mg "NoBoard" t.c_NoBoard
 e_NoPlace:Err K mg "NoPlace" t.c_NoPlace
 e_NoCopper:Err K mg "NoCopper" t.c_NoCopper
 e_NoShape:Err K mg "NoShape" t.c_NoShape
 n_isinstance:mg "isinstance" = none
 n_int:mg "int" = none
 n_bool:mg "bool" = none
 n_list:mg "list" = none
 n_tuple:mg "tuple" = none
 n_len:mg "len" = none
 n_range:mg "range" = none
 n_min:mg "min" = none
 n_enumerate:mg "enumerate" = none
 n_sorted:mg "sorted" = none
 n_set:mg "set" = none
 g_MOST_WIDE:mg "MOST_WIDE" = some (.int 12 t.tk_MOST_WIDE)
 g_MOST_HIGH:mg "MOST_HIGH" = some (.int 12 t.tk_MOST_HIGH)
 g_MOST_LAYERS:mg "MOST_LAYERS" = some (.int 3 t.tk_MOST_LAYERS)
theorem txt_mk {K:PySem.W.Frag} {h:Heap} {mg:Str→Option Value} {c_Board c_Block f_near f_island_of f_walk f_spread f_neighbours f_beside f_over_and_under f_need_copper f_is_whole f_Board_init f_Board_cells f_Board_holes f_Board_lay f_Board_clear f_Board_put f_Board_take f_Board_drill f_Board_plug f_Board_is_copper f_Board_has_hole f_Board_has_layer f_Board_has_square f_Board_has_cell f_Board_need_square f_Board_need_cells f_Board_shape_cells f_need_measure f_Block_init f_Block_cells f_Block_box f_need_whole f_need_from_one f_box_places f_law_cell_at f_law_mixed f_law_rows f_law_board f_law_lined f_law_rounds f_law_right f_law_deed f_law c_CopperError c_NoShape c_NoBoard c_NoPlace c_NoCopper:Addr} {tk_MOST_WIDE tk_MOST_HIGH tk_MOST_LAYERS:Tok}
  {z7x zx z7n zn z85 z15 z84 z14 z82 z12 z7k zk z83 z13 z7y zy z7m zm z7b zb z73 z3 z7a za z7d zd z74 z4 z7h zh z7j zj z75 z5 z7g zg z7c zc z77 z7 z78 z8 z79 z9 z76 z6 z7f zf z7e ze z7i zi z80 z10 z72 z2 z71 z1 z70 z0 z81 z11 z7z zz z7l zl z7q zq z7t zt z7w zw z7p zp z7s zs z7v zv z7u zu z7r zr z7o zo:Option Addr} {za9 z9z zah zag zae z9w zaf zaa z9y z9n z9f z9m z9p z9g z9t z9v z9h z9s z9o z9j z9k z9l z9i z9r z9q z9u zac z9e z9d z9c zad zab z9x za2 za5 za8 za1 za4 za7 za6 za3 za0:Array (Option Value)} {z6r z5l z4f z93 z23 z39 z6h z5b z45 z8t z1t z2z z6z z5t z4n z9b z2b z3h z6y z5s z4m z9a z2a z3g z6w z5q z4k z98 z28 z3e z6e z58 z42 z8q z1q z2w z6x z5r z4l z99 z29 z3f z6s z5m z4g z94 z24 z3a z6g z5a z44 z8s z1s z2y z65 z4z z3t z8h z1h z2n z5x z4r z3l z89 z19 z2f z64 z4y z3s z8g z1g z2m z67 z51 z3v z8j z1j z2p z5y z4s z3m z8a z1a z2g z6b z55 z3z z8n z1n z2t z6d z57 z41 z8p z1p z2v z5z z4t z3n z8b z1b z2h z6a z54 z3y z8m z1m z2s z66 z50 z3u z8i z1i z2o z61 z4v z3p z8d z1d z2j z62 z4w z3q z8e z1e z2k z63 z4x z3r z8f z1f z2l z60 z4u z3o z8c z1c z2i z69 z53 z3x z8l z1l z2r z68 z52 z3w z8k z1k z2q z6c z56 z40 z8o z1o z2u z6u z5o z4i z96 z26 z3c z5w z4q z3k z88 z18 z2e z5v z4p z3j z87 z17 z2d z5u z4o z3i z86 z16 z2c z6v z5p z4j z97 z27 z3d z6t z5n z4h z95 z25 z3b z6f z59 z43 z8r z1r z2x z6k z5e z48 z8w z1w z32 z6n z5h z4b z8z z1z z35 z6q z5k z4e z92 z22 z38 z6j z5d z47 z8v z1v z31 z6m z5g z4a z8y z1y z34 z6p z5j z4d z91 z21 z37 z6o z5i z4c z90 z20 z36 z6l z5f z49 z8x z1x z33 z6i z5c z46 z8u z1u z30:Value} {dV_Board_init:Addr} {dd_Board_init:Option Addr} {dn_Board_init:Nat} {ds_Board_init:Array (Option Value)} {dV_Board_cells:Addr} {dd_Board_cells:Option Addr} {dn_Board_cells:Nat} {ds_Board_cells:Array (Option Value)} {dV_Board_lay:Addr} {dd_Board_lay:Option Addr} {dn_Board_lay:Nat} {ds_Board_lay:Array (Option Value)} {dV_Board_clear:Addr} {dd_Board_clear:Option Addr} {dn_Board_clear:Nat} {ds_Board_clear:Array (Option Value)} {dV_Board_is_copper:Addr} {dd_Board_is_copper:Option Addr} {dn_Board_is_copper:Nat} {ds_Board_is_copper:Array (Option Value)} {dt0_Board_init dt0_Board_lay dt0_Board_clear dt0_Board_is_copper:Tok} (X:K.In h) (G:h.Ns mainGlobals mg)
  (g_Board:PySem.W.nsIn K mainGlobals "Board" = some (some (.ref c_Board)))
  (g_Block:PySem.W.nsIn K mainGlobals "Block" = some (some (.ref c_Block)))
  (pg_Board:PySem.W.plainGet K c_Board Str.empty = true)
  (hd_Board:PySem.W.hasDictIn K c_Board = true)
  (po_Board:PySem.W.plainOver K c_Board = true)
  (sa_Board:PySem.W.findIn K (.ref c_Board) "__setattr__" = some (some (.builtin "object.__setattr__")))
  (mk_Board:PySem.W.makesIn K c_Board = true)
  (kc_Board:PySem.W.keepIn K (.ref c_Board) = true)
  (na_Board_wide:PySem.W.findIn K (.ref c_Board) "wide" = some none)
  (na_Board_high:PySem.W.findIn K (.ref c_Board) "high" = some none)
  (na_Board_layers:PySem.W.findIn K (.ref c_Board) "layers" = some none)
  (na_Board_copper:PySem.W.findIn K (.ref c_Board) "copper" = some none)
  (na_Board_drilled:PySem.W.findIn K (.ref c_Board) "drilled" = some none)
  (pg_Block:PySem.W.plainGet K c_Block Str.empty = true)
  (hd_Block:PySem.W.hasDictIn K c_Block = true)
  (po_Block:PySem.W.plainOver K c_Block = true)
  (sa_Block:PySem.W.findIn K (.ref c_Block) "__setattr__" = some (some (.builtin "object.__setattr__")))
  (mk_Block:PySem.W.makesIn K c_Block = true)
  (kc_Block:PySem.W.keepIn K (.ref c_Block) = true)
  (na_Block_x:PySem.W.findIn K (.ref c_Block) "x" = some none)
  (na_Block_y:PySem.W.findIn K (.ref c_Block) "y" = some none)
  (na_Block_wide:PySem.W.findIn K (.ref c_Block) "wide" = some none)
  (na_Block_high:PySem.W.findIn K (.ref c_Block) "high" = some none)
  (a_near:PySem.W.nsIn K mainGlobals "near" = some (some (.ref f_near)))
  (l_near:K.lookup f_near = some ⟨z6r,z7x,.func (PySem.W.fnOf "near" "near" (defArgs s_near) (defBody s_near) (defScope s_near) .none z5l z4f z93 zx z23 z39),za9⟩)
  (cc_near:PySem.W.codeIn K z23 "near" = true)
  (k_near:PySem.W.keepIn K (.ref f_near) = true)
  (a_island_of:PySem.W.nsIn K mainGlobals "island_of" = some (some (.ref f_island_of)))
  (l_island_of:K.lookup f_island_of = some ⟨z6h,z7n,.func (PySem.W.fnOf "island_of" "island_of" (defArgs s_island_of) (defBody s_island_of) (defScope s_island_of) .none z5b z45 z8t zn z1t z2z),z9z⟩)
  (cc_island_of:PySem.W.codeIn K z1t "island_of" = true)
  (k_island_of:PySem.W.keepIn K (.ref f_island_of) = true)
  (a_walk:PySem.W.nsIn K mainGlobals "walk" = some (some (.ref f_walk)))
  (l_walk:K.lookup f_walk = some ⟨z6z,z85,.func (PySem.W.fnOf "walk" "walk" (defArgs s_walk) (defBody s_walk) (defScope s_walk) .none z5t z4n z9b z15 z2b z3h),zah⟩)
  (cc_walk:PySem.W.codeIn K z2b "walk" = true)
  (k_walk:PySem.W.keepIn K (.ref f_walk) = true)
  (a_spread:PySem.W.nsIn K mainGlobals "spread" = some (some (.ref f_spread)))
  (l_spread:K.lookup f_spread = some ⟨z6y,z84,.func (PySem.W.fnOf "spread" "spread" (defArgs s_spread) (defBody s_spread) (defScope s_spread) .none z5s z4m z9a z14 z2a z3g),zag⟩)
  (cc_spread:PySem.W.codeIn K z2a "spread" = true)
  (k_spread:PySem.W.keepIn K (.ref f_spread) = true)
  (a_neighbours:PySem.W.nsIn K mainGlobals "neighbours" = some (some (.ref f_neighbours)))
  (l_neighbours:K.lookup f_neighbours = some ⟨z6w,z82,.func (PySem.W.fnOf "neighbours" "neighbours" (defArgs s_neighbours) (defBody s_neighbours) (defScope s_neighbours) .none z5q z4k z98 z12 z28 z3e),zae⟩)
  (cc_neighbours:PySem.W.codeIn K z28 "neighbours" = true)
  (k_neighbours:PySem.W.keepIn K (.ref f_neighbours) = true)
  (a_beside:PySem.W.nsIn K mainGlobals "beside" = some (some (.ref f_beside)))
  (l_beside:K.lookup f_beside = some ⟨z6e,z7k,.func (PySem.W.fnOf "beside" "beside" (defArgs s_beside) (defBody s_beside) (defScope s_beside) .none z58 z42 z8q zk z1q z2w),z9w⟩)
  (cc_beside:PySem.W.codeIn K z1q "beside" = true)
  (k_beside:PySem.W.keepIn K (.ref f_beside) = true)
  (a_over_and_under:PySem.W.nsIn K mainGlobals "over_and_under" = some (some (.ref f_over_and_under)))
  (l_over_and_under:K.lookup f_over_and_under = some ⟨z6x,z83,.func (PySem.W.fnOf "over_and_under" "over_and_under" (defArgs s_over_and_under) (defBody s_over_and_under) (defScope s_over_and_under) .none z5r z4l z99 z13 z29 z3f),zaf⟩)
  (cc_over_and_under:PySem.W.codeIn K z29 "over_and_under" = true)
  (k_over_and_under:PySem.W.keepIn K (.ref f_over_and_under) = true)
  (a_need_copper:PySem.W.nsIn K mainGlobals "need_copper" = some (some (.ref f_need_copper)))
  (l_need_copper:K.lookup f_need_copper = some ⟨z6s,z7y,.func (PySem.W.fnOf "need_copper" "need_copper" (defArgs s_need_copper) (defBody s_need_copper) (defScope s_need_copper) .none z5m z4g z94 zy z24 z3a),zaa⟩)
  (cc_need_copper:PySem.W.codeIn K z24 "need_copper" = true)
  (k_need_copper:PySem.W.keepIn K (.ref f_need_copper) = true)
  (a_is_whole:PySem.W.nsIn K mainGlobals "is_whole" = some (some (.ref f_is_whole)))
  (l_is_whole:K.lookup f_is_whole = some ⟨z6g,z7m,.func (PySem.W.fnOf "is_whole" "is_whole" (defArgs s_is_whole) (defBody s_is_whole) (defScope s_is_whole) .none z5a z44 z8s zm z1s z2y),z9y⟩)
  (cc_is_whole:PySem.W.codeIn K z1s "is_whole" = true)
  (k_is_whole:PySem.W.keepIn K (.ref f_is_whole) = true)
  (a_Board_init:PySem.W.findIn K (.ref c_Board) "__init__" = some (some (.ref f_Board_init)))
  (i_Board_init:PySem.W.isFn K (.ref f_Board_init) = true)
  (l_Board_init:K.lookup f_Board_init = some ⟨z65,z7b,.func (PySem.W.fnOf "__init__" "Board.__init__" (defArgs s_Board_init) (defBody s_Board_init) (defScope s_Board_init) (.ref dV_Board_init) z4z z3t z8h zb z1h z2n),z9n⟩)
  (dl_Board_init:K.lookup dV_Board_init = some ⟨.type "tuple",dd_Board_init,.seq [.int 1 dt0_Board_init].toArray dn_Board_init,ds_Board_init⟩)
  (cc_Board_init:PySem.W.codeIn K z1h "Board.__init__" = true)
  (k_Board_init:PySem.W.keepIn K (.ref f_Board_init) = true)
  (a_Board_cells:PySem.W.findIn K (.ref c_Board) "cells" = some (some (.ref f_Board_cells)))
  (i_Board_cells:PySem.W.isFn K (.ref f_Board_cells) = true)
  (l_Board_cells:K.lookup f_Board_cells = some ⟨z5x,z73,.func (PySem.W.fnOf "cells" "Board.cells" (defArgs s_Board_cells) (defBody s_Board_cells) (defScope s_Board_cells) (.ref dV_Board_cells) z4r z3l z89 z3 z19 z2f),z9f⟩)
  (dl_Board_cells:K.lookup dV_Board_cells = some ⟨.type "tuple",dd_Board_cells,.seq [.none].toArray dn_Board_cells,ds_Board_cells⟩)
  (cc_Board_cells:PySem.W.codeIn K z19 "Board.cells" = true)
  (k_Board_cells:PySem.W.keepIn K (.ref f_Board_cells) = true)
  (a_Board_holes:PySem.W.findIn K (.ref c_Board) "holes" = some (some (.ref f_Board_holes)))
  (i_Board_holes:PySem.W.isFn K (.ref f_Board_holes) = true)
  (l_Board_holes:K.lookup f_Board_holes = some ⟨z64,z7a,.func (PySem.W.fnOf "holes" "Board.holes" (defArgs s_Board_holes) (defBody s_Board_holes) (defScope s_Board_holes) .none z4y z3s z8g za z1g z2m),z9m⟩)
  (cc_Board_holes:PySem.W.codeIn K z1g "Board.holes" = true)
  (k_Board_holes:PySem.W.keepIn K (.ref f_Board_holes) = true)
  (a_Board_lay:PySem.W.findIn K (.ref c_Board) "lay" = some (some (.ref f_Board_lay)))
  (i_Board_lay:PySem.W.isFn K (.ref f_Board_lay) = true)
  (l_Board_lay:K.lookup f_Board_lay = some ⟨z67,z7d,.func (PySem.W.fnOf "lay" "Board.lay" (defArgs s_Board_lay) (defBody s_Board_lay) (defScope s_Board_lay) (.ref dV_Board_lay) z51 z3v z8j zd z1j z2p),z9p⟩)
  (dl_Board_lay:K.lookup dV_Board_lay = some ⟨.type "tuple",dd_Board_lay,.seq [.int 0 dt0_Board_lay].toArray dn_Board_lay,ds_Board_lay⟩)
  (cc_Board_lay:PySem.W.codeIn K z1j "Board.lay" = true)
  (k_Board_lay:PySem.W.keepIn K (.ref f_Board_lay) = true)
  (a_Board_clear:PySem.W.findIn K (.ref c_Board) "clear" = some (some (.ref f_Board_clear)))
  (i_Board_clear:PySem.W.isFn K (.ref f_Board_clear) = true)
  (l_Board_clear:K.lookup f_Board_clear = some ⟨z5y,z74,.func (PySem.W.fnOf "clear" "Board.clear" (defArgs s_Board_clear) (defBody s_Board_clear) (defScope s_Board_clear) (.ref dV_Board_clear) z4s z3m z8a z4 z1a z2g),z9g⟩)
  (dl_Board_clear:K.lookup dV_Board_clear = some ⟨.type "tuple",dd_Board_clear,.seq [.int 0 dt0_Board_clear].toArray dn_Board_clear,ds_Board_clear⟩)
  (cc_Board_clear:PySem.W.codeIn K z1a "Board.clear" = true)
  (k_Board_clear:PySem.W.keepIn K (.ref f_Board_clear) = true)
  (a_Board_put:PySem.W.findIn K (.ref c_Board) "put" = some (some (.ref f_Board_put)))
  (i_Board_put:PySem.W.isFn K (.ref f_Board_put) = true)
  (l_Board_put:K.lookup f_Board_put = some ⟨z6b,z7h,.func (PySem.W.fnOf "put" "Board.put" (defArgs s_Board_put) (defBody s_Board_put) (defScope s_Board_put) .none z55 z3z z8n zh z1n z2t),z9t⟩)
  (cc_Board_put:PySem.W.codeIn K z1n "Board.put" = true)
  (k_Board_put:PySem.W.keepIn K (.ref f_Board_put) = true)
  (a_Board_take:PySem.W.findIn K (.ref c_Board) "take" = some (some (.ref f_Board_take)))
  (i_Board_take:PySem.W.isFn K (.ref f_Board_take) = true)
  (l_Board_take:K.lookup f_Board_take = some ⟨z6d,z7j,.func (PySem.W.fnOf "take" "Board.take" (defArgs s_Board_take) (defBody s_Board_take) (defScope s_Board_take) .none z57 z41 z8p zj z1p z2v),z9v⟩)
  (cc_Board_take:PySem.W.codeIn K z1p "Board.take" = true)
  (k_Board_take:PySem.W.keepIn K (.ref f_Board_take) = true)
  (a_Board_drill:PySem.W.findIn K (.ref c_Board) "drill" = some (some (.ref f_Board_drill)))
  (i_Board_drill:PySem.W.isFn K (.ref f_Board_drill) = true)
  (l_Board_drill:K.lookup f_Board_drill = some ⟨z5z,z75,.func (PySem.W.fnOf "drill" "Board.drill" (defArgs s_Board_drill) (defBody s_Board_drill) (defScope s_Board_drill) .none z4t z3n z8b z5 z1b z2h),z9h⟩)
  (cc_Board_drill:PySem.W.codeIn K z1b "Board.drill" = true)
  (k_Board_drill:PySem.W.keepIn K (.ref f_Board_drill) = true)
  (a_Board_plug:PySem.W.findIn K (.ref c_Board) "plug" = some (some (.ref f_Board_plug)))
  (i_Board_plug:PySem.W.isFn K (.ref f_Board_plug) = true)
  (l_Board_plug:K.lookup f_Board_plug = some ⟨z6a,z7g,.func (PySem.W.fnOf "plug" "Board.plug" (defArgs s_Board_plug) (defBody s_Board_plug) (defScope s_Board_plug) .none z54 z3y z8m zg z1m z2s),z9s⟩)
  (cc_Board_plug:PySem.W.codeIn K z1m "Board.plug" = true)
  (k_Board_plug:PySem.W.keepIn K (.ref f_Board_plug) = true)
  (a_Board_is_copper:PySem.W.findIn K (.ref c_Board) "is_copper" = some (some (.ref f_Board_is_copper)))
  (i_Board_is_copper:PySem.W.isFn K (.ref f_Board_is_copper) = true)
  (l_Board_is_copper:K.lookup f_Board_is_copper = some ⟨z66,z7c,.func (PySem.W.fnOf "is_copper" "Board.is_copper" (defArgs s_Board_is_copper) (defBody s_Board_is_copper) (defScope s_Board_is_copper) (.ref dV_Board_is_copper) z50 z3u z8i zc z1i z2o),z9o⟩)
  (dl_Board_is_copper:K.lookup dV_Board_is_copper = some ⟨.type "tuple",dd_Board_is_copper,.seq [.int 0 dt0_Board_is_copper].toArray dn_Board_is_copper,ds_Board_is_copper⟩)
  (cc_Board_is_copper:PySem.W.codeIn K z1i "Board.is_copper" = true)
  (k_Board_is_copper:PySem.W.keepIn K (.ref f_Board_is_copper) = true)
  (a_Board_has_hole:PySem.W.findIn K (.ref c_Board) "has_hole" = some (some (.ref f_Board_has_hole)))
  (i_Board_has_hole:PySem.W.isFn K (.ref f_Board_has_hole) = true)
  (l_Board_has_hole:K.lookup f_Board_has_hole = some ⟨z61,z77,.func (PySem.W.fnOf "has_hole" "Board.has_hole" (defArgs s_Board_has_hole) (defBody s_Board_has_hole) (defScope s_Board_has_hole) .none z4v z3p z8d z7 z1d z2j),z9j⟩)
  (cc_Board_has_hole:PySem.W.codeIn K z1d "Board.has_hole" = true)
  (k_Board_has_hole:PySem.W.keepIn K (.ref f_Board_has_hole) = true)
  (a_Board_has_layer:PySem.W.findIn K (.ref c_Board) "has_layer" = some (some (.ref f_Board_has_layer)))
  (i_Board_has_layer:PySem.W.isFn K (.ref f_Board_has_layer) = true)
  (l_Board_has_layer:K.lookup f_Board_has_layer = some ⟨z62,z78,.func (PySem.W.fnOf "has_layer" "Board.has_layer" (defArgs s_Board_has_layer) (defBody s_Board_has_layer) (defScope s_Board_has_layer) .none z4w z3q z8e z8 z1e z2k),z9k⟩)
  (cc_Board_has_layer:PySem.W.codeIn K z1e "Board.has_layer" = true)
  (k_Board_has_layer:PySem.W.keepIn K (.ref f_Board_has_layer) = true)
  (a_Board_has_square:PySem.W.findIn K (.ref c_Board) "has_square" = some (some (.ref f_Board_has_square)))
  (i_Board_has_square:PySem.W.isFn K (.ref f_Board_has_square) = true)
  (l_Board_has_square:K.lookup f_Board_has_square = some ⟨z63,z79,.func (PySem.W.fnOf "has_square" "Board.has_square" (defArgs s_Board_has_square) (defBody s_Board_has_square) (defScope s_Board_has_square) .none z4x z3r z8f z9 z1f z2l),z9l⟩)
  (cc_Board_has_square:PySem.W.codeIn K z1f "Board.has_square" = true)
  (k_Board_has_square:PySem.W.keepIn K (.ref f_Board_has_square) = true)
  (a_Board_has_cell:PySem.W.findIn K (.ref c_Board) "has_cell" = some (some (.ref f_Board_has_cell)))
  (i_Board_has_cell:PySem.W.isFn K (.ref f_Board_has_cell) = true)
  (l_Board_has_cell:K.lookup f_Board_has_cell = some ⟨z60,z76,.func (PySem.W.fnOf "has_cell" "Board.has_cell" (defArgs s_Board_has_cell) (defBody s_Board_has_cell) (defScope s_Board_has_cell) .none z4u z3o z8c z6 z1c z2i),z9i⟩)
  (cc_Board_has_cell:PySem.W.codeIn K z1c "Board.has_cell" = true)
  (k_Board_has_cell:PySem.W.keepIn K (.ref f_Board_has_cell) = true)
  (a_Board_need_square:PySem.W.findIn K (.ref c_Board) "need_square" = some (some (.ref f_Board_need_square)))
  (i_Board_need_square:PySem.W.isFn K (.ref f_Board_need_square) = true)
  (l_Board_need_square:K.lookup f_Board_need_square = some ⟨z69,z7f,.func (PySem.W.fnOf "need_square" "Board.need_square" (defArgs s_Board_need_square) (defBody s_Board_need_square) (defScope s_Board_need_square) .none z53 z3x z8l zf z1l z2r),z9r⟩)
  (cc_Board_need_square:PySem.W.codeIn K z1l "Board.need_square" = true)
  (k_Board_need_square:PySem.W.keepIn K (.ref f_Board_need_square) = true)
  (a_Board_need_cells:PySem.W.findIn K (.ref c_Board) "need_cells" = some (some (.ref f_Board_need_cells)))
  (i_Board_need_cells:PySem.W.isFn K (.ref f_Board_need_cells) = true)
  (l_Board_need_cells:K.lookup f_Board_need_cells = some ⟨z68,z7e,.func (PySem.W.fnOf "need_cells" "Board.need_cells" (defArgs s_Board_need_cells) (defBody s_Board_need_cells) (defScope s_Board_need_cells) .none z52 z3w z8k ze z1k z2q),z9q⟩)
  (cc_Board_need_cells:PySem.W.codeIn K z1k "Board.need_cells" = true)
  (k_Board_need_cells:PySem.W.keepIn K (.ref f_Board_need_cells) = true)
  (a_Board_shape_cells:PySem.W.findIn K (.ref c_Board) "shape_cells" = some (some (.ref f_Board_shape_cells)))
  (i_Board_shape_cells:PySem.W.isFn K (.ref f_Board_shape_cells) = true)
  (l_Board_shape_cells:K.lookup f_Board_shape_cells = some ⟨z6c,z7i,.func (PySem.W.fnOf "shape_cells" "Board.shape_cells" (defArgs s_Board_shape_cells) (defBody s_Board_shape_cells) (defScope s_Board_shape_cells) .none z56 z40 z8o zi z1o z2u),z9u⟩)
  (cc_Board_shape_cells:PySem.W.codeIn K z1o "Board.shape_cells" = true)
  (k_Board_shape_cells:PySem.W.keepIn K (.ref f_Board_shape_cells) = true)
  (a_need_measure:PySem.W.nsIn K mainGlobals "need_measure" = some (some (.ref f_need_measure)))
  (l_need_measure:K.lookup f_need_measure = some ⟨z6u,z80,.func (PySem.W.fnOf "need_measure" "need_measure" (defArgs s_need_measure) (defBody s_need_measure) (defScope s_need_measure) .none z5o z4i z96 z10 z26 z3c),zac⟩)
  (cc_need_measure:PySem.W.codeIn K z26 "need_measure" = true)
  (k_need_measure:PySem.W.keepIn K (.ref f_need_measure) = true)
  (a_Block_init:PySem.W.findIn K (.ref c_Block) "__init__" = some (some (.ref f_Block_init)))
  (i_Block_init:PySem.W.isFn K (.ref f_Block_init) = true)
  (l_Block_init:K.lookup f_Block_init = some ⟨z5w,z72,.func (PySem.W.fnOf "__init__" "Block.__init__" (defArgs s_Block_init) (defBody s_Block_init) (defScope s_Block_init) .none z4q z3k z88 z2 z18 z2e),z9e⟩)
  (cc_Block_init:PySem.W.codeIn K z18 "Block.__init__" = true)
  (k_Block_init:PySem.W.keepIn K (.ref f_Block_init) = true)
  (a_Block_cells:PySem.W.findIn K (.ref c_Block) "cells" = some (some (.ref f_Block_cells)))
  (i_Block_cells:PySem.W.isFn K (.ref f_Block_cells) = true)
  (l_Block_cells:K.lookup f_Block_cells = some ⟨z5v,z71,.func (PySem.W.fnOf "cells" "Block.cells" (defArgs s_Block_cells) (defBody s_Block_cells) (defScope s_Block_cells) .none z4p z3j z87 z1 z17 z2d),z9d⟩)
  (cc_Block_cells:PySem.W.codeIn K z17 "Block.cells" = true)
  (k_Block_cells:PySem.W.keepIn K (.ref f_Block_cells) = true)
  (a_Block_box:PySem.W.findIn K (.ref c_Block) "box" = some (some (.ref f_Block_box)))
  (i_Block_box:PySem.W.isFn K (.ref f_Block_box) = true)
  (l_Block_box:K.lookup f_Block_box = some ⟨z5u,z70,.func (PySem.W.fnOf "box" "Block.box" (defArgs s_Block_box) (defBody s_Block_box) (defScope s_Block_box) .none z4o z3i z86 z0 z16 z2c),z9c⟩)
  (cc_Block_box:PySem.W.codeIn K z16 "Block.box" = true)
  (k_Block_box:PySem.W.keepIn K (.ref f_Block_box) = true)
  (a_need_whole:PySem.W.nsIn K mainGlobals "need_whole" = some (some (.ref f_need_whole)))
  (l_need_whole:K.lookup f_need_whole = some ⟨z6v,z81,.func (PySem.W.fnOf "need_whole" "need_whole" (defArgs s_need_whole) (defBody s_need_whole) (defScope s_need_whole) .none z5p z4j z97 z11 z27 z3d),zad⟩)
  (cc_need_whole:PySem.W.codeIn K z27 "need_whole" = true)
  (k_need_whole:PySem.W.keepIn K (.ref f_need_whole) = true)
  (a_need_from_one:PySem.W.nsIn K mainGlobals "need_from_one" = some (some (.ref f_need_from_one)))
  (l_need_from_one:K.lookup f_need_from_one = some ⟨z6t,z7z,.func (PySem.W.fnOf "need_from_one" "need_from_one" (defArgs s_need_from_one) (defBody s_need_from_one) (defScope s_need_from_one) .none z5n z4h z95 zz z25 z3b),zab⟩)
  (cc_need_from_one:PySem.W.codeIn K z25 "need_from_one" = true)
  (k_need_from_one:PySem.W.keepIn K (.ref f_need_from_one) = true)
  (a_box_places:PySem.W.nsIn K mainGlobals "box_places" = some (some (.ref f_box_places)))
  (l_box_places:K.lookup f_box_places = some ⟨z6f,z7l,.func (PySem.W.fnOf "box_places" "box_places" (defArgs s_box_places) (defBody s_box_places) (defScope s_box_places) .none z59 z43 z8r zl z1r z2x),z9x⟩)
  (cc_box_places:PySem.W.codeIn K z1r "box_places" = true)
  (k_box_places:PySem.W.keepIn K (.ref f_box_places) = true)
  (a_law_cell_at:PySem.W.nsIn K mainGlobals "_law_cell_at" = some (some (.ref f_law_cell_at)))
  (l_law_cell_at:K.lookup f_law_cell_at = some ⟨z6k,z7q,.func (PySem.W.fnOf "_law_cell_at" "_law_cell_at" (defArgs s_law_cell_at) (defBody s_law_cell_at) (defScope s_law_cell_at) .none z5e z48 z8w zq z1w z32),za2⟩)
  (cc_law_cell_at:PySem.W.codeIn K z1w "_law_cell_at" = true)
  (k_law_cell_at:PySem.W.keepIn K (.ref f_law_cell_at) = true)
  (a_law_mixed:PySem.W.nsIn K mainGlobals "_law_mixed" = some (some (.ref f_law_mixed)))
  (l_law_mixed:K.lookup f_law_mixed = some ⟨z6n,z7t,.func (PySem.W.fnOf "_law_mixed" "_law_mixed" (defArgs s_law_mixed) (defBody s_law_mixed) (defScope s_law_mixed) .none z5h z4b z8z zt z1z z35),za5⟩)
  (cc_law_mixed:PySem.W.codeIn K z1z "_law_mixed" = true)
  (k_law_mixed:PySem.W.keepIn K (.ref f_law_mixed) = true)
  (a_law_rows:PySem.W.nsIn K mainGlobals "_law_rows" = some (some (.ref f_law_rows)))
  (l_law_rows:K.lookup f_law_rows = some ⟨z6q,z7w,.func (PySem.W.fnOf "_law_rows" "_law_rows" (defArgs s_law_rows) (defBody s_law_rows) (defScope s_law_rows) .none z5k z4e z92 zw z22 z38),za8⟩)
  (cc_law_rows:PySem.W.codeIn K z22 "_law_rows" = true)
  (k_law_rows:PySem.W.keepIn K (.ref f_law_rows) = true)
  (a_law_board:PySem.W.nsIn K mainGlobals "_law_board" = some (some (.ref f_law_board)))
  (l_law_board:K.lookup f_law_board = some ⟨z6j,z7p,.func (PySem.W.fnOf "_law_board" "_law_board" (defArgs s_law_board) (defBody s_law_board) (defScope s_law_board) .none z5d z47 z8v zp z1v z31),za1⟩)
  (cc_law_board:PySem.W.codeIn K z1v "_law_board" = true)
  (k_law_board:PySem.W.keepIn K (.ref f_law_board) = true)
  (a_law_lined:PySem.W.nsIn K mainGlobals "_law_lined" = some (some (.ref f_law_lined)))
  (l_law_lined:K.lookup f_law_lined = some ⟨z6m,z7s,.func (PySem.W.fnOf "_law_lined" "_law_lined" (defArgs s_law_lined) (defBody s_law_lined) (defScope s_law_lined) .none z5g z4a z8y zs z1y z34),za4⟩)
  (cc_law_lined:PySem.W.codeIn K z1y "_law_lined" = true)
  (k_law_lined:PySem.W.keepIn K (.ref f_law_lined) = true)
  (a_law_rounds:PySem.W.nsIn K mainGlobals "_law_rounds" = some (some (.ref f_law_rounds)))
  (l_law_rounds:K.lookup f_law_rounds = some ⟨z6p,z7v,.func (PySem.W.fnOf "_law_rounds" "_law_rounds" (defArgs s_law_rounds) (defBody s_law_rounds) (defScope s_law_rounds) .none z5j z4d z91 zv z21 z37),za7⟩)
  (cc_law_rounds:PySem.W.codeIn K z21 "_law_rounds" = true)
  (k_law_rounds:PySem.W.keepIn K (.ref f_law_rounds) = true)
  (a_law_right:PySem.W.nsIn K mainGlobals "_law_right" = some (some (.ref f_law_right)))
  (l_law_right:K.lookup f_law_right = some ⟨z6o,z7u,.func (PySem.W.fnOf "_law_right" "_law_right" (defArgs s_law_right) (defBody s_law_right) (defScope s_law_right) .none z5i z4c z90 zu z20 z36),za6⟩)
  (cc_law_right:PySem.W.codeIn K z20 "_law_right" = true)
  (k_law_right:PySem.W.keepIn K (.ref f_law_right) = true)
  (a_law_deed:PySem.W.nsIn K mainGlobals "_law_deed" = some (some (.ref f_law_deed)))
  (l_law_deed:K.lookup f_law_deed = some ⟨z6l,z7r,.func (PySem.W.fnOf "_law_deed" "_law_deed" (defArgs s_law_deed) (defBody s_law_deed) (defScope s_law_deed) .none z5f z49 z8x zr z1x z33),za3⟩)
  (cc_law_deed:PySem.W.codeIn K z1x "_law_deed" = true)
  (k_law_deed:PySem.W.keepIn K (.ref f_law_deed) = true)
  (a_law:PySem.W.nsIn K mainGlobals "law" = some (some (.ref f_law)))
  (l_law:K.lookup f_law = some ⟨z6i,z7o,.func (PySem.W.fnOf "law" "law" (defArgs s_law) (defBody s_law) (defScope s_law) .none z5c z46 z8u zo z1u z30),za0⟩)
  (cc_law:PySem.W.codeIn K z1u "law" = true)
  (k_law:PySem.W.keepIn K (.ref f_law) = true)
  (g_CopperError:PySem.W.nsIn K mainGlobals "CopperError" = some (some (.ref c_CopperError)))
  (g_NoShape:PySem.W.nsIn K mainGlobals "NoShape" = some (some (.ref c_NoShape)))
  (g_NoBoard:PySem.W.nsIn K mainGlobals "NoBoard" = some (some (.ref c_NoBoard)))
  (g_NoPlace:PySem.W.nsIn K mainGlobals "NoPlace" = some (some (.ref c_NoPlace)))
  (g_NoCopper:PySem.W.nsIn K mainGlobals "NoCopper" = some (some (.ref c_NoCopper)))
  (x_NoBoard:PySem.W.excIn K c_NoBoard bmV "ValueError.__new__" = true)
  (x_NoPlace:PySem.W.excIn K c_NoPlace bmV "ValueError.__new__" = true)
  (x_NoCopper:PySem.W.excIn K c_NoCopper bmV "ValueError.__new__" = true)
  (x_NoShape:PySem.W.excIn K c_NoShape bmV "ValueError.__new__" = true)
  (n_isinstance:PySem.W.nsIn K mainGlobals "isinstance" = some none)
  (n_int:PySem.W.nsIn K mainGlobals "int" = some none)
  (n_bool:PySem.W.nsIn K mainGlobals "bool" = some none)
  (n_list:PySem.W.nsIn K mainGlobals "list" = some none)
  (n_tuple:PySem.W.nsIn K mainGlobals "tuple" = some none)
  (n_len:PySem.W.nsIn K mainGlobals "len" = some none)
  (n_range:PySem.W.nsIn K mainGlobals "range" = some none)
  (n_min:PySem.W.nsIn K mainGlobals "min" = some none)
  (n_enumerate:PySem.W.nsIn K mainGlobals "enumerate" = some none)
  (n_sorted:PySem.W.nsIn K mainGlobals "sorted" = some none)
  (n_set:PySem.W.nsIn K mainGlobals "set" = some none)
  (g_MOST_WIDE:PySem.W.nsIn K mainGlobals "MOST_WIDE" = some (some (.int 12 tk_MOST_WIDE)))
  (g_MOST_HIGH:PySem.W.nsIn K mainGlobals "MOST_HIGH" = some (some (.int 12 tk_MOST_HIGH)))
  (g_MOST_LAYERS:PySem.W.nsIn K mainGlobals "MOST_LAYERS" = some (some (.int 3 tk_MOST_LAYERS))) :
  ∃ t:Adr,Txt K mg t :=
 ⟨{ c_Board:=c_Board,c_Block:=c_Block,f_near:=f_near,f_island_of:=f_island_of,f_walk:=f_walk,f_spread:=f_spread,f_neighbours:=f_neighbours,f_beside:=f_beside,f_over_and_under:=f_over_and_under,f_need_copper:=f_need_copper,f_is_whole:=f_is_whole,f_Board_init:=f_Board_init,f_Board_cells:=f_Board_cells,f_Board_holes:=f_Board_holes,f_Board_lay:=f_Board_lay,f_Board_clear:=f_Board_clear,f_Board_put:=f_Board_put,f_Board_take:=f_Board_take,f_Board_drill:=f_Board_drill,f_Board_plug:=f_Board_plug,f_Board_is_copper:=f_Board_is_copper,f_Board_has_hole:=f_Board_has_hole,f_Board_has_layer:=f_Board_has_layer,f_Board_has_square:=f_Board_has_square,f_Board_has_cell:=f_Board_has_cell,f_Board_need_square:=f_Board_need_square,f_Board_need_cells:=f_Board_need_cells,f_Board_shape_cells:=f_Board_shape_cells,f_need_measure:=f_need_measure,f_Block_init:=f_Block_init,f_Block_cells:=f_Block_cells,f_Block_box:=f_Block_box,f_need_whole:=f_need_whole,f_need_from_one:=f_need_from_one,f_box_places:=f_box_places,f_law_cell_at:=f_law_cell_at,f_law_mixed:=f_law_mixed,f_law_rows:=f_law_rows,f_law_board:=f_law_board,f_law_lined:=f_law_lined,f_law_rounds:=f_law_rounds,f_law_right:=f_law_right,f_law_deed:=f_law_deed,f_law:=f_law,c_CopperError:=c_CopperError,c_NoShape:=c_NoShape,c_NoBoard:=c_NoBoard,c_NoPlace:=c_NoPlace,c_NoCopper:=c_NoCopper,tk_MOST_WIDE:=tk_MOST_WIDE,tk_MOST_HIGH:=tk_MOST_HIGH,tk_MOST_LAYERS:=tk_MOST_LAYERS },{ g_Board:=PySem.W.mg_of X G g_Board,g_Block:=PySem.W.mg_of X G g_Block,cl_Board:=⟨pg_Board,hd_Board,po_Board,sa_Board⟩,na_Board_wide:=na_Board_wide,na_Board_high:=na_Board_high,na_Board_layers:=na_Board_layers,na_Board_copper:=na_Board_copper,na_Board_drilled:=na_Board_drilled,cl_Block:=⟨pg_Block,hd_Block,po_Block,sa_Block⟩,na_Block_x:=na_Block_x,na_Block_y:=na_Block_y,na_Block_wide:=na_Block_wide,na_Block_high:=na_Block_high,F_near:=⟨_,fun_mk (st:=s_near) l_near cc_near k_near,(fun_mk (st:=s_near) l_near cc_near k_near).binds (ps:=["board","cell"]) fun _ _ _ _ _ _ => ar2 fun _ _ => rfl⟩,g_near:=PySem.W.mg_of X G a_near,F_island_of:=⟨_,fun_mk (st:=s_island_of) l_island_of cc_island_of k_island_of,(fun_mk (st:=s_island_of) l_island_of cc_island_of k_island_of).binds (ps:=["board","cell"]) fun _ _ _ _ _ _ => ar2 fun _ _ => rfl⟩,g_island_of:=PySem.W.mg_of X G a_island_of,F_walk:=⟨_,fun_mk (st:=s_walk) l_walk cc_walk k_walk,(fun_mk (st:=s_walk) l_walk cc_walk k_walk).binds (ps:=["board","one","other"]) fun _ _ _ _ _ _ => ar3 fun _ _ _ => rfl⟩,g_walk:=PySem.W.mg_of X G a_walk,F_spread:=⟨_,fun_mk (st:=s_spread) l_spread cc_spread k_spread,(fun_mk (st:=s_spread) l_spread cc_spread k_spread).binds (ps:=["board","start"]) fun _ _ _ _ _ _ => ar2 fun _ _ => rfl⟩,g_spread:=PySem.W.mg_of X G a_spread,F_neighbours:=⟨_,fun_mk (st:=s_neighbours) l_neighbours cc_neighbours k_neighbours,(fun_mk (st:=s_neighbours) l_neighbours cc_neighbours k_neighbours).binds (ps:=["board","cell"]) fun _ _ _ _ _ _ => ar2 fun _ _ => rfl⟩,g_neighbours:=PySem.W.mg_of X G a_neighbours,F_beside:=⟨_,fun_mk (st:=s_beside) l_beside cc_beside k_beside,(fun_mk (st:=s_beside) l_beside cc_beside k_beside).binds (ps:=["cell"]) fun _ _ _ _ _ _ => ar1 fun _ => rfl⟩,g_beside:=PySem.W.mg_of X G a_beside,F_over_and_under:=⟨_,fun_mk (st:=s_over_and_under) l_over_and_under cc_over_and_under k_over_and_under,(fun_mk (st:=s_over_and_under) l_over_and_under cc_over_and_under k_over_and_under).binds (ps:=["cell","layers"]) fun _ _ _ _ _ _ => ar2 fun _ _ => rfl⟩,g_over_and_under:=PySem.W.mg_of X G a_over_and_under,F_need_copper:=⟨_,fun_mk (st:=s_need_copper) l_need_copper cc_need_copper k_need_copper,(fun_mk (st:=s_need_copper) l_need_copper cc_need_copper k_need_copper).binds (ps:=["board","cell"]) fun _ _ _ _ _ _ => ar2 fun _ _ => rfl⟩,g_need_copper:=PySem.W.mg_of X G a_need_copper,F_is_whole:=⟨_,fun_mk (st:=s_is_whole) l_is_whole cc_is_whole k_is_whole,(fun_mk (st:=s_is_whole) l_is_whole cc_is_whole k_is_whole).binds (ps:=["value"]) fun _ _ _ _ _ _ => ar1 fun _ => rfl⟩,g_is_whole:=PySem.W.mg_of X G a_is_whole,F_Board_init:=⟨_,funD_mk (st:=s_Board_init) l_Board_init cc_Board_init k_Board_init,bindsD (ps:=["self","wide","high","layers"]) rfl dl_Board_init rfl fun us hl => match us,hl with | [_,_,_,_],_ => ⟨_,rfl,rfl⟩⟩,K_Board:=⟨mk_Board,a_Board_init,i_Board_init,kc_Board⟩,F_Board_cells:=⟨_,funD_mk (st:=s_Board_cells) l_Board_cells cc_Board_cells k_Board_cells,bindsD (ps:=["self","z"]) rfl dl_Board_cells rfl fun us hl => match us,hl with | [_,_],_ => ⟨_,rfl,rfl⟩,bindsN (ps:=["self","z"]) rfl dl_Board_cells rfl fun us hl => match us,hl with | [_],_ => ⟨_,rfl,rfl⟩⟩,M_Board_cells:=⟨a_Board_cells,i_Board_cells,k_Board_cells⟩,F_Board_holes:=⟨_,fun_mk (st:=s_Board_holes) l_Board_holes cc_Board_holes k_Board_holes,(fun_mk (st:=s_Board_holes) l_Board_holes cc_Board_holes k_Board_holes).binds (ps:=["self"]) fun _ _ _ _ _ _ => ar1 fun _ => rfl⟩,M_Board_holes:=⟨a_Board_holes,i_Board_holes,k_Board_holes⟩,F_Board_lay:=⟨_,funD_mk (st:=s_Board_lay) l_Board_lay cc_Board_lay k_Board_lay,bindsD (ps:=["self","shape","z"]) rfl dl_Board_lay rfl fun us hl => match us,hl with | [_,_,_],_ => ⟨_,rfl,rfl⟩⟩,M_Board_lay:=⟨a_Board_lay,i_Board_lay,k_Board_lay⟩,F_Board_clear:=⟨_,funD_mk (st:=s_Board_clear) l_Board_clear cc_Board_clear k_Board_clear,bindsD (ps:=["self","shape","z"]) rfl dl_Board_clear rfl fun us hl => match us,hl with | [_,_,_],_ => ⟨_,rfl,rfl⟩⟩,M_Board_clear:=⟨a_Board_clear,i_Board_clear,k_Board_clear⟩,F_Board_put:=⟨_,fun_mk (st:=s_Board_put) l_Board_put cc_Board_put k_Board_put,(fun_mk (st:=s_Board_put) l_Board_put cc_Board_put k_Board_put).binds (ps:=["self","cells"]) fun _ _ _ _ _ _ => ar2 fun _ _ => rfl⟩,M_Board_put:=⟨a_Board_put,i_Board_put,k_Board_put⟩,F_Board_take:=⟨_,fun_mk (st:=s_Board_take) l_Board_take cc_Board_take k_Board_take,(fun_mk (st:=s_Board_take) l_Board_take cc_Board_take k_Board_take).binds (ps:=["self","cells"]) fun _ _ _ _ _ _ => ar2 fun _ _ => rfl⟩,M_Board_take:=⟨a_Board_take,i_Board_take,k_Board_take⟩,F_Board_drill:=⟨_,fun_mk (st:=s_Board_drill) l_Board_drill cc_Board_drill k_Board_drill,(fun_mk (st:=s_Board_drill) l_Board_drill cc_Board_drill k_Board_drill).binds (ps:=["self","x","y"]) fun _ _ _ _ _ _ => ar3 fun _ _ _ => rfl⟩,M_Board_drill:=⟨a_Board_drill,i_Board_drill,k_Board_drill⟩,F_Board_plug:=⟨_,fun_mk (st:=s_Board_plug) l_Board_plug cc_Board_plug k_Board_plug,(fun_mk (st:=s_Board_plug) l_Board_plug cc_Board_plug k_Board_plug).binds (ps:=["self","x","y"]) fun _ _ _ _ _ _ => ar3 fun _ _ _ => rfl⟩,M_Board_plug:=⟨a_Board_plug,i_Board_plug,k_Board_plug⟩,F_Board_is_copper:=⟨_,funD_mk (st:=s_Board_is_copper) l_Board_is_copper cc_Board_is_copper k_Board_is_copper,bindsD (ps:=["self","x","y","z"]) rfl dl_Board_is_copper rfl fun us hl => match us,hl with | [_,_,_,_],_ => ⟨_,rfl,rfl⟩⟩,M_Board_is_copper:=⟨a_Board_is_copper,i_Board_is_copper,k_Board_is_copper⟩,F_Board_has_hole:=⟨_,fun_mk (st:=s_Board_has_hole) l_Board_has_hole cc_Board_has_hole k_Board_has_hole,(fun_mk (st:=s_Board_has_hole) l_Board_has_hole cc_Board_has_hole k_Board_has_hole).binds (ps:=["self","x","y"]) fun _ _ _ _ _ _ => ar3 fun _ _ _ => rfl⟩,M_Board_has_hole:=⟨a_Board_has_hole,i_Board_has_hole,k_Board_has_hole⟩,F_Board_has_layer:=⟨_,fun_mk (st:=s_Board_has_layer) l_Board_has_layer cc_Board_has_layer k_Board_has_layer,(fun_mk (st:=s_Board_has_layer) l_Board_has_layer cc_Board_has_layer k_Board_has_layer).binds (ps:=["self","z"]) fun _ _ _ _ _ _ => ar2 fun _ _ => rfl⟩,M_Board_has_layer:=⟨a_Board_has_layer,i_Board_has_layer,k_Board_has_layer⟩,F_Board_has_square:=⟨_,fun_mk (st:=s_Board_has_square) l_Board_has_square cc_Board_has_square k_Board_has_square,(fun_mk (st:=s_Board_has_square) l_Board_has_square cc_Board_has_square k_Board_has_square).binds (ps:=["self","x","y"]) fun _ _ _ _ _ _ => ar3 fun _ _ _ => rfl⟩,M_Board_has_square:=⟨a_Board_has_square,i_Board_has_square,k_Board_has_square⟩,F_Board_has_cell:=⟨_,fun_mk (st:=s_Board_has_cell) l_Board_has_cell cc_Board_has_cell k_Board_has_cell,(fun_mk (st:=s_Board_has_cell) l_Board_has_cell cc_Board_has_cell k_Board_has_cell).binds (ps:=["self","cell"]) fun _ _ _ _ _ _ => ar2 fun _ _ => rfl⟩,M_Board_has_cell:=⟨a_Board_has_cell,i_Board_has_cell,k_Board_has_cell⟩,F_Board_need_square:=⟨_,fun_mk (st:=s_Board_need_square) l_Board_need_square cc_Board_need_square k_Board_need_square,(fun_mk (st:=s_Board_need_square) l_Board_need_square cc_Board_need_square k_Board_need_square).binds (ps:=["self","x","y"]) fun _ _ _ _ _ _ => ar3 fun _ _ _ => rfl⟩,M_Board_need_square:=⟨a_Board_need_square,i_Board_need_square,k_Board_need_square⟩,F_Board_need_cells:=⟨_,fun_mk (st:=s_Board_need_cells) l_Board_need_cells cc_Board_need_cells k_Board_need_cells,(fun_mk (st:=s_Board_need_cells) l_Board_need_cells cc_Board_need_cells k_Board_need_cells).binds (ps:=["self","cells"]) fun _ _ _ _ _ _ => ar2 fun _ _ => rfl⟩,M_Board_need_cells:=⟨a_Board_need_cells,i_Board_need_cells,k_Board_need_cells⟩,F_Board_shape_cells:=⟨_,fun_mk (st:=s_Board_shape_cells) l_Board_shape_cells cc_Board_shape_cells k_Board_shape_cells,(fun_mk (st:=s_Board_shape_cells) l_Board_shape_cells cc_Board_shape_cells k_Board_shape_cells).binds (ps:=["self","shape","z"]) fun _ _ _ _ _ _ => ar3 fun _ _ _ => rfl⟩,M_Board_shape_cells:=⟨a_Board_shape_cells,i_Board_shape_cells,k_Board_shape_cells⟩,F_need_measure:=⟨_,fun_mk (st:=s_need_measure) l_need_measure cc_need_measure k_need_measure,(fun_mk (st:=s_need_measure) l_need_measure cc_need_measure k_need_measure).binds (ps:=["measure","most"]) fun _ _ _ _ _ _ => ar2 fun _ _ => rfl⟩,g_need_measure:=PySem.W.mg_of X G a_need_measure,F_Block_init:=⟨_,fun_mk (st:=s_Block_init) l_Block_init cc_Block_init k_Block_init,(fun_mk (st:=s_Block_init) l_Block_init cc_Block_init k_Block_init).binds (ps:=["self","x","y","wide","high"]) fun _ _ _ _ _ _ => ar5 fun _ _ _ _ _ => rfl⟩,K_Block:=⟨mk_Block,a_Block_init,i_Block_init,kc_Block⟩,F_Block_cells:=⟨_,fun_mk (st:=s_Block_cells) l_Block_cells cc_Block_cells k_Block_cells,(fun_mk (st:=s_Block_cells) l_Block_cells cc_Block_cells k_Block_cells).binds (ps:=["self"]) fun _ _ _ _ _ _ => ar1 fun _ => rfl⟩,M_Block_cells:=⟨a_Block_cells,i_Block_cells,k_Block_cells⟩,F_Block_box:=⟨_,fun_mk (st:=s_Block_box) l_Block_box cc_Block_box k_Block_box,(fun_mk (st:=s_Block_box) l_Block_box cc_Block_box k_Block_box).binds (ps:=["self"]) fun _ _ _ _ _ _ => ar1 fun _ => rfl⟩,M_Block_box:=⟨a_Block_box,i_Block_box,k_Block_box⟩,F_need_whole:=⟨_,fun_mk (st:=s_need_whole) l_need_whole cc_need_whole k_need_whole,(fun_mk (st:=s_need_whole) l_need_whole cc_need_whole k_need_whole).binds (ps:=["numbers"]) fun _ _ _ _ _ _ => ar1 fun _ => rfl⟩,g_need_whole:=PySem.W.mg_of X G a_need_whole,F_need_from_one:=⟨_,fun_mk (st:=s_need_from_one) l_need_from_one cc_need_from_one k_need_from_one,(fun_mk (st:=s_need_from_one) l_need_from_one cc_need_from_one k_need_from_one).binds (ps:=["numbers"]) fun _ _ _ _ _ _ => ar1 fun _ => rfl⟩,g_need_from_one:=PySem.W.mg_of X G a_need_from_one,F_box_places:=⟨_,fun_mk (st:=s_box_places) l_box_places cc_box_places k_box_places,(fun_mk (st:=s_box_places) l_box_places cc_box_places k_box_places).binds (ps:=["x","y","wide","high"]) fun _ _ _ _ _ _ => ar4 fun _ _ _ _ => rfl⟩,g_box_places:=PySem.W.mg_of X G a_box_places,F_law_cell_at:=⟨_,fun_mk (st:=s_law_cell_at) l_law_cell_at cc_law_cell_at k_law_cell_at,(fun_mk (st:=s_law_cell_at) l_law_cell_at cc_law_cell_at k_law_cell_at).binds (ps:=["_law_script","_law_k"]) fun _ _ _ _ _ _ => ar2 fun _ _ => rfl⟩,g__law_cell_at:=PySem.W.mg_of X G a_law_cell_at,F_law_mixed:=⟨_,fun_mk (st:=s_law_mixed) l_law_mixed cc_law_mixed k_law_mixed,(fun_mk (st:=s_law_mixed) l_law_mixed cc_law_mixed k_law_mixed).binds (ps:=["_law_cell","_law_k"]) fun _ _ _ _ _ _ => ar2 fun _ _ => rfl⟩,g__law_mixed:=PySem.W.mg_of X G a_law_mixed,F_law_rows:=⟨_,fun_mk (st:=s_law_rows) l_law_rows cc_law_rows k_law_rows,(fun_mk (st:=s_law_rows) l_law_rows cc_law_rows k_law_rows).binds (ps:=["_law_cell","_law_many","_law_wide","_law_mixed_here"]) fun _ _ _ _ _ _ => ar4 fun _ _ _ _ => rfl⟩,g__law_rows:=PySem.W.mg_of X G a_law_rows,F_law_board:=⟨_,fun_mk (st:=s_law_board) l_law_board cc_law_board k_law_board,(fun_mk (st:=s_law_board) l_law_board cc_law_board k_law_board).binds (ps:=["_law_script"]) fun _ _ _ _ _ _ => ar1 fun _ => rfl⟩,g__law_board:=PySem.W.mg_of X G a_law_board,F_law_lined:=⟨_,fun_mk (st:=s_law_lined) l_law_lined cc_law_lined k_law_lined,(fun_mk (st:=s_law_lined) l_law_lined cc_law_lined k_law_lined).binds (ps:=["_law_board_here","_law_script"]) fun _ _ _ _ _ _ => ar2 fun _ _ => rfl⟩,g__law_lined:=PySem.W.mg_of X G a_law_lined,F_law_rounds:=⟨_,fun_mk (st:=s_law_rounds) l_law_rounds cc_law_rounds k_law_rounds,(fun_mk (st:=s_law_rounds) l_law_rounds cc_law_rounds k_law_rounds).binds (ps:=["_law_board_here","_law_one"]) fun _ _ _ _ _ _ => ar2 fun _ _ => rfl⟩,g__law_rounds:=PySem.W.mg_of X G a_law_rounds,F_law_right:=⟨_,fun_mk (st:=s_law_right) l_law_right cc_law_right k_law_right,(fun_mk (st:=s_law_right) l_law_right cc_law_right k_law_right).binds (ps:=["_law_board_here","_law_one","_law_other","_law_turns"]) fun _ _ _ _ _ _ => ar4 fun _ _ _ _ => rfl⟩,g__law_right:=PySem.W.mg_of X G a_law_right,F_law_deed:=⟨_,fun_mk (st:=s_law_deed) l_law_deed cc_law_deed k_law_deed,(fun_mk (st:=s_law_deed) l_law_deed cc_law_deed k_law_deed).binds (ps:=["_law_board_here","_law_cell"]) fun _ _ _ _ _ _ => ar2 fun _ _ => rfl⟩,g__law_deed:=PySem.W.mg_of X G a_law_deed,F_law:=⟨_,fun_mk (st:=s_law) l_law cc_law k_law,fun s u => .of_eq rfl⟩,g_law:=PySem.W.mg_of X G a_law,g_CopperError:=PySem.W.mg_of X G g_CopperError,g_NoShape:=PySem.W.mg_of X G g_NoShape,g_NoBoard:=PySem.W.mg_of X G g_NoBoard,g_NoPlace:=PySem.W.mg_of X G g_NoPlace,g_NoCopper:=PySem.W.mg_of X G g_NoCopper,e_NoBoard:=⟨PySem.W.mg_of X G g_NoBoard,x_NoBoard⟩,e_NoPlace:=⟨PySem.W.mg_of X G g_NoPlace,x_NoPlace⟩,e_NoCopper:=⟨PySem.W.mg_of X G g_NoCopper,x_NoCopper⟩,e_NoShape:=⟨PySem.W.mg_of X G g_NoShape,x_NoShape⟩,n_isinstance:=PySem.W.mg_none_of X G n_isinstance,n_int:=PySem.W.mg_none_of X G n_int,n_bool:=PySem.W.mg_none_of X G n_bool,n_list:=PySem.W.mg_none_of X G n_list,n_tuple:=PySem.W.mg_none_of X G n_tuple,n_len:=PySem.W.mg_none_of X G n_len,n_range:=PySem.W.mg_none_of X G n_range,n_min:=PySem.W.mg_none_of X G n_min,n_enumerate:=PySem.W.mg_none_of X G n_enumerate,n_sorted:=PySem.W.mg_none_of X G n_sorted,n_set:=PySem.W.mg_none_of X G n_set,g_MOST_WIDE:=PySem.W.mg_of X G g_MOST_WIDE,g_MOST_HIGH:=PySem.W.mg_of X G g_MOST_HIGH,g_MOST_LAYERS:=PySem.W.mg_of X G g_MOST_LAYERS }⟩
def isN:V→Bool | .int _ => true | .bl _ => true | _ => false
def isW:V→Bool | .int _ => true | _ => false
def ge1:V→Bool | .int i => decide (1≤i) | _ => false
theorem ints_of:∀ {xs:List V},xs.all isW = true→∃ ns:List Int,xs = ns.map V.int
 | [],_ => ⟨[],rfl⟩
 | .int i :: r,h => by
  rw [List.all_cons,Bool.and_eq_true] at h
  obtain ⟨ns,e⟩:=ints_of h.2
  exact ⟨i :: ns,by rw [e]; rfl⟩
 | .non :: _,h => by simp [isW] at h
 | .bl _ :: _,h => by simp [isW] at h
 | .str _ :: _,h => by simp [isW] at h
 | .byt _ :: _,h => by simp [isW] at h
 | .flt _ :: _,h => by simp [isW] at h
 | .ref _ :: _,h => by simp [isW] at h
 | .ty _ :: _,h => by simp [isW] at h
theorem ge1_isW {v:V} (h:ge1 v = true):isW v = true:=by cases v <;> simp_all [ge1,isW]
theorem all_imp {p q:V→Bool} (f:∀ v,p v = true→q v = true) {xs:List V} (h:xs.all p = true):xs.all q = true:=List.all_eq_true.mpr fun v hv => f v (List.all_eq_true.mp h v hv)
theorem iteNB {b:Bool} {A B:Prop} (h1:b = false→A) (h2:b = true→B):if (!b) = true then A else B:=by
 cases b
 ·exact (if_pos (show (!false) = true from rfl))▸h1 rfl
 ·rw [if_neg (by decide)]; exact h2 rfl
theorem iteD {c A B:Prop} [Decidable c] (h1:c→A) (h2:¬ c→B):if decide c = true then A else B:=by
 by_cases h:c
 ·rw [if_pos (decide_eq_true h)]; exact h1 h
 ·rw [if_neg (by simp [h])]; exact h2 h
theorem same_new {p:Addr} {H H':Hp} {o:HO} (x:Same H H') (hp:H' p = none):Same H (L2.upd H' p o):=fun b u e => by
 have:=x b u e
 rw [upd_ne (ne_of_none this hp)]; exact this
theorem lg_small {n:Int} (h0:0≤n) (h1:n < 1000):Lg n:=by
 have h:n.natAbs < 1000:=by omega
 exact lg_of (Nat.lt_trans h (by decide))
abbrev Tab:=List (List Key × V)
def fB (w h l:Int) (c d:Addr):List (Str × V):=[("wide",.int w),("high",.int h),("layers",.int l),("copper",.ref c),("drilled",.ref d)]
theorem fB_put (w h l:Int) (c d:Addr):putF "drilled" (.ref d) (putF "copper" (.ref c) (putF "layers" (.int l) (putF "high" (.int h) (putF "wide" (.int w) [])))) = fB w h l c d:=by kernel_rfl
def okM (m:Int) (most:Int):Prop:=1≤m∧m≤most
def okV (v:V) (most:Int):Prop:=match v with | .int m => okM m most | _ => False
def inB (x w:Int):Bool:=decide (0≤x) && decide (x < w)
section
variable {P:Program} {w:World} {K:PySem.W.Frag} {mg:Str→Option Value} {base:Heap} {t:Adr}
def AnyV (H:Hp):V→Prop | .int _ => True | .bl _ => True | .str _ => True | .non => True | .ref p => ∃ xs,H p = some (.tup xs) | _ => False
theorem AnyV.ofN {H:Hp} {v:V} (h:isN v = true):AnyV H v:=by cases v <;> first | trivial | cases h
def spIsWhole:Sp:=fun vs H Q _ => ∃ v,vs = [v]∧AnyV H v∧Q (.bl (isW v)) H
theorem ok_is_whole (T:Txt K mg t):GoodF P w K mg base 1 "is_whole" ["value"] spIsWhole:=by
 obtain ⟨fd,F,b⟩:=T.F_is_whole
 refine ⟨_,fd,F.okX sc_is_whole (fun vs H Q E h => ?_) (fun cdv A outer s H vs Q E hr h => ?_),b,F.kp,T.g_is_whole⟩
 ·obtain ⟨v,rfl,_⟩:=h
  rfl
 ·obtain ⟨v,rfl,hv,k⟩:=h
  refine ⟨_,(pss_one (ps_ret (pe_and (pe_callB call_isi (by rfl) T.n_isinstance b_isinstance (pa_cons (pv 0) (pa_cons (pe_bltn (v:=.ty "int") (by rfl) T.n_int b_int rfl) pa_nil))) (pe_one (pe_not (pe_callB call_isi (by rfl) T.n_isinstance b_isinstance (pa_cons (pv 0) (pa_cons (pe_bltn (v:=.ty "bool") (by rfl) T.n_bool b_bool rfl) pa_nil)))))))),?_⟩
  cases v with
  | int i => exact ⟨_,rfl,.int i,.ty "int",_,_,true,rfl,.int i,.ty _,by kernel_rfl,true,rfl,iteT ⟨_,rfl,.int i,.ty "bool",_,_,false,rfl,.int i,.ty _,by kernel_rfl,false,rfl,k⟩⟩
  | bl x => exact ⟨_,rfl,.bl x,.ty "int",_,_,true,rfl,.bl x,.ty _,by kernel_rfl,true,rfl,iteT ⟨_,rfl,.bl x,.ty "bool",_,_,true,rfl,.bl x,.ty _,by kernel_rfl,true,rfl,k⟩⟩
  | str x => exact ⟨_,rfl,.str x,.ty "int",_,_,false,rfl,.str x,.ty _,by kernel_rfl,false,rfl,iteF k⟩
  | non => exact ⟨_,rfl,.non,.ty "int",_,_,false,rfl,.non,.ty _,by kernel_rfl,false,rfl,iteF k⟩
  | ref p =>
   obtain ⟨xs,e⟩:=hv
   exact ⟨_,rfl,.ref p,.ty "int",_,_,false,rfl,.tup e,.ty _,by kernel_rfl,false,rfl,iteF k⟩
  | _ => cases hv
def spCell (K:PySem.W.Frag):Sp:=fun vs H Q _ => ∃ (a:Addr) (ns:List Int) (k:Int),vs = [.ref a,.int k]∧SqL K H a (ns.map V.int)∧0≤k∧k < 1000∧ns.length≤63∧Q (.int (ns.getD k.toNat 0)) H
theorem ok_law_cell_at (T:Txt K mg t):GoodF P w K mg base 1 "_law_cell_at" ["_law_script","_law_k"] (spCell K):=by
 obtain ⟨fd,F,b⟩:=T.F_law_cell_at
 refine ⟨_,fd,F.okX sc_law_cell_at (fun vs H Q E h => ?_) (fun cdv A outer s H vs Q E hr h => ?_),b,F.kp,T.g__law_cell_at⟩
 ·obtain ⟨a,ns,k,rfl,_⟩:=h
  rfl
 ·obtain ⟨a,ns,k,rfl,hq,h0,h1,hl,q⟩:=h
  refine ⟨_,(pss_cons (ps_if (pt_cmpR op_lt (pv 1) (pe_callB call_len_seq (by rfl) T.n_len b_len (pa_cons (pv 0) pa_nil)) (nomark _)) (pss_one (ps_ret (pe_ix ix_list (pv 0) (pv 1) (fun _ _ => rfl)))) pss_nil)
   (pss_one (ps_ret pe_int))),?_⟩
  refine ⟨_,rfl,_,rfl,a,_,rfl,.inl hq,k,_,rfl,rfl,_,rfl,iteD (fun hlt => ?_) fun hge => ?_⟩
  ·rw [List.length_map] at hlt
   have e:((k.toNat:Nat):Int) = k:=by omega
   refine ⟨_,rfl,_,rfl,a,_,k,.int (ns.getD k.toNat 0),rfl,rfl,hq,?_,q⟩
   have hlt2:k.toNat < ns.length:=by omega
   have hz:(ns.map V.int)[k.toNat]? = some (V.int (ns.getD k.toNat 0)):=by
    rw [List.getElem?_map,List.getD_eq_getElem?_getD,List.getElem?_eq_getElem hlt2]; rfl
   have hz2:=atI_nat hz
   rwa [e] at hz2
  ·rw [List.length_map] at hge
   have e:ns.getD k.toNat 0 = 0:=by rw [List.getD_eq_getElem?_getD,List.getElem?_eq_none (by omega)]; rfl
   rw [e] at q
   exact q
def spNeedMeasure (C:Addr):Sp:=fun vs H Q E => ∃ (v:V) (most:Int),vs = [v,.int most]∧AnyV H v∧(okV v most→Q .non H)∧(¬ okV v most→E (.ref C) none H)
theorem ok_need_measure (T:Txt K mg t):GoodF P w K mg base 2 "need_measure" ["measure","most"] (spNeedMeasure t.c_NoBoard):=by
 obtain ⟨fd,F,b⟩:=T.F_need_measure
 have G_is_whole:=ok_is_whole (P:=P) (w:=w) (base:=base) T
 refine ⟨_,fd,F.okX sc_need_measure (fun vs H Q E h => ?_) (fun cdv A outer s H vs Q E hr h => ?_),b,F.kp,T.g_need_measure⟩
 ·obtain ⟨v,most,rfl,_⟩:=h
  rfl
 ·obtain ⟨v,most,rfl,hv,q,e⟩:=h
  refine ⟨_,(pss_one (ps_if (pw_or (pt_not (pt_val (pe_callG G_is_whole (hr.mono (by decide)) passes_of (by rfl) (pa_cons (pv 0) pa_nil)))) (pw_or1 (pt_not (pt_chain op_le op_le pe_int (pv 0) (pv 1))))).pt (pss_one (ps_raise throws_of rfl T.e_NoBoard rfl (pa_cons (pe_fstr7 (by decide) (by decide) (by decide) (by decide) (pe_glob (v:=.int 12) (by rfl) T.g_MOST_WIDE ⟨_,rfl⟩) (pe_glob (v:=.int 12) (by rfl) T.g_MOST_HIGH ⟨_,rfl⟩) (pe_glob (v:=.int 3) (by rfl) T.g_MOST_LAYERS ⟨_,rfl⟩)) pa_nil))) pss_nil)),?_⟩
  have l12:Fmt (.int 12):=.inl ⟨12,rfl,lg_small (by decide) (by decide)⟩
  have l3:Fmt (.int 3):=.inl ⟨3,rfl,lg_small (by decide) (by decide)⟩
  have bad:¬ okV v most→(Fmt (.int 12)∧Fmt (.int 12)∧Fmt (.int 3)∧∀ z:Str,1≤sizeLine∧E (.ref t.c_NoBoard) none H):=fun n => ⟨l12,l12,l3,fun z => ⟨by decide,e n⟩⟩
  refine ⟨_,rfl,v,rfl,hv,isW v,rfl,iteNB (fun hf => bad fun z => ?_) fun ht => ?_⟩
  ·cases v <;> first | exact z | cases hf
  ·cases v with
   | int m =>
    refine ⟨_,rfl,1,m,rfl,rfl,_,rfl,iteD (fun h1 => ⟨_,rfl,m,most,rfl,rfl,_,rfl,iteNB (fun h2 => bad fun z => of_decide_eq_false h2 z.2) fun h2 => q ⟨h1,of_decide_eq_true h2⟩⟩) fun h1 => ⟨_,rfl,iteT (bad fun z => h1 z.1)⟩⟩
   | _ => cases ht
def spBoard (C NB:Addr):Sp:=fun vs H Q E => ∃ (o dx:Addr) (m1 m2 m3:V),vs = [.ref o,m1,m2,m3]∧H o = some (.ins C dx [])∧AnyV H m1∧AnyV H m2∧AnyV H m3 ∧
 (∀ w h l:Int,m1 = .int w→m2 = .int h→m3 = .int l→okM w 12→okM h 12→okM l 3→∀ c d H',(∀ b u,b≠o→H b = some u→H' b = some u)→H' o = some (.ins C dx (fB w h l c d))→H' c = some (.dT [])→H' d = some (.dT [])→H c = none→H d = none→c≠d→c≠o→d≠o→Q .non H')∧(¬ (okV m1 12∧okV m2 12∧okV m3 3)→E (.ref NB) none H)
theorem ok_Board_init (T:Txt K mg t):GoodC P w K mg base 3 "Board" t.c_Board ["self","wide","high","layers"] (spBoard t.c_Board t.c_NoBoard):=by
 obtain ⟨fd,F,b⟩:=T.F_Board_init
 have G_need_measure:=ok_need_measure (P:=P) (w:=w) (base:=base) T
 refine ⟨_,fd,T.K_Board,F.okX sc_Board_init (fun vs H Q E h => ?_) (fun cdv A outer s H vs Q E hr h => ?_),b,T.g_Board⟩
 ·obtain ⟨o,dx,m1,m2,m3,rfl,_⟩:=h
  rfl
 ·obtain ⟨o,dx,m1,m2,m3,rfl,ho,a1,a2,a3,kQ,kE⟩:=h
  refine ⟨_,(pss_cons (ps_expr (pe_callG G_need_measure (hr.mono (by decide)) passes_of (by rfl) (pa_cons (pv 1) (pa_cons (pe_glob (v:=.int 12) (by rfl) T.g_MOST_WIDE ⟨_,rfl⟩) pa_nil))))
   (pss_cons (ps_expr (pe_callG G_need_measure (hr.mono (by decide)) passes_of (by rfl) (pa_cons (pv 2) (pa_cons (pe_glob (v:=.int 12) (by rfl) T.g_MOST_HIGH ⟨_,rfl⟩) pa_nil))))
   (pss_cons (ps_expr (pe_callG G_need_measure (hr.mono (by decide)) passes_of (by rfl) (pa_cons (pv 3) (pa_cons (pe_glob (v:=.int 3) (by rfl) T.g_MOST_LAYERS ⟨_,rfl⟩) pa_nil))))
   (pss_cons (ps_fld (pv 0) (pv 1) rfl)
   (pss_cons (ps_fld (pv 0) (pv 2) rfl)
   (pss_cons (ps_fld (pv 0) (pv 3) rfl)
   (pss_cons (ps_fld (pv 0) pe_dnewT rfl)
   (pss_one (ps_fld (pv 0) pe_dnewT rfl))))))))),?_⟩
  refine ⟨_,rfl,m1,12,rfl,a1,fun g1 => ?_,fun n => kE fun z => n z.1⟩
  refine ⟨_,rfl,m2,12,rfl,a2,fun g2 => ?_,fun n => kE fun z => n z.2.1⟩
  refine ⟨_,rfl,m3,3,rfl,a3,fun g3 => ?_,fun n => kE fun z => n z.2.2⟩
  obtain ⟨w1,rfl⟩:∃ n,m1 = .int n:=by cases m1 <;> first | exact ⟨_,rfl⟩ | cases g1
  obtain ⟨w2,rfl⟩:∃ n,m2 = .int n:=by cases m2 <;> first | exact ⟨_,rfl⟩ | cases g2
  obtain ⟨w3,rfl⟩:∃ n,m3 = .int n:=by cases m3 <;> first | exact ⟨_,rfl⟩ | cases g3
  refine ⟨_,rfl,_,rfl,o,_,dx,_,rfl,ho,T.cl_Board,T.na_Board_wide,(by decide),?_⟩
  refine ⟨_,rfl,_,rfl,o,_,dx,_,rfl,upd_same,T.cl_Board,T.na_Board_high,Nat.le_of_ble_eq_true (by kernel_rfl),?_⟩
  refine ⟨_,rfl,_,rfl,o,_,dx,_,rfl,upd_same,T.cl_Board,T.na_Board_layers,Nat.le_of_ble_eq_true (by kernel_rfl),?_⟩
  intro c hc
  have nco:c≠o:=fun z => by rw [z,upd_same] at hc; cases hc
  have Hc:H c = none:=by rw [upd_ne nco,upd_ne nco,upd_ne nco] at hc; exact hc
  refine ⟨_,rfl,o,_,dx,_,rfl,by rw [upd_ne (Ne.symm nco)]; exact upd_same,T.cl_Board,T.na_Board_copper,Nat.le_of_ble_eq_true (by kernel_rfl),?_⟩
  intro d hd
  have ndo:d≠o:=fun z => by rw [z,upd_same] at hd; cases hd
  have ndc:d≠c:=fun z => by rw [z,upd_ne nco,upd_same] at hd; cases hd
  have Hd:H d = none:=by rw [upd_ne ndo,upd_ne ndc,upd_ne ndo,upd_ne ndo,upd_ne ndo] at hd; exact hd
  refine ⟨_,rfl,o,_,dx,_,rfl,by rw [upd_ne (Ne.symm ndo)]; exact upd_same,T.cl_Board,T.na_Board_drilled,Nat.le_of_ble_eq_true (by kernel_rfl),?_⟩
  refine kQ w1 w2 w3 rfl rfl rfl g1 g2 g3 c d _ (fun b u hb e => ?_) ?_ ?_ ?_ Hc Hd (Ne.symm ndc) nco ndo
  ·rw [upd_ne hb,upd_ne (ne_of_none e Hd),upd_ne hb,upd_ne (ne_of_none e Hc),upd_ne hb,upd_ne hb,upd_ne hb]; exact e
  ·rw [upd_same,fB_put]
  ·rw [upd_ne nco,upd_ne (Ne.symm ndc),upd_ne nco]; exact upd_same
  ·rw [upd_ne ndo]; exact upd_same
end
end K23
namespace K23
open PySem L2 Wd
section
variable {P:Program} {w:World} {K:PySem.W.Frag} {mg:Str→Option Value} {base:Heap} {t:Adr}
def spHasSquare (C:Addr):Sp:=fun vs H Q _ => ∃ (o dx c d:Addr) (w h l x y:Int),vs = [.ref o,.int x,.int y]∧H o = some (.ins C dx (fB w h l c d))∧Q (.bl (inB x w && inB y h)) H
theorem ok_Board_has_square (T:Txt K mg t):GoodM P w K mg base 2 t.c_Board "has_square" ["self","x","y"] (spHasSquare t.c_Board):=by
 obtain ⟨fd,F,b⟩:=T.F_Board_has_square
 have G_is_whole:=ok_is_whole (P:=P) (w:=w) (base:=base) T
 refine ⟨T.cl_Board,_,fd,T.M_Board_has_square,F.okX sc_Board_has_square (fun vs H Q E h => ?_) (fun cdv A outer s H vs Q E hr h => ?_),b⟩
 ·obtain ⟨o,dx,c,d,w,h,l,x,y,rfl,_⟩:=h
  rfl
 ·obtain ⟨o,dx,c,d,w,h,l,x,y,rfl,ho,q⟩:=h
  refine ⟨_,(pss_one (ps_ret (pe_and (pe_callG G_is_whole (hr.mono (by decide)) passes_of (by rfl) (pa_cons (pv 1) pa_nil)) (pe_and (pe_callG G_is_whole (hr.mono (by decide)) passes_of (by rfl) (pa_cons (pv 2) pa_nil)) (pe_and (pe_chain op_le op_lt pe_int (pv 1) (pe_fld (pv 0) rfl)) (pe_one (pe_chain op_le op_lt pe_int (pv 2) (pe_fld (pv 0) rfl)))))))),?_⟩
  refine ⟨_,rfl,.int x,rfl,trivial,true,rfl,iteT ⟨_,rfl,.int y,rfl,trivial,true,rfl,iteT ?_⟩⟩
  have fin:∀ b:Bool,(inB x w && inB y h) = b→Q (.bl b) H:=fun b e => e▸q
  refine ⟨_,rfl,0,x,rfl,rfl,_,rfl,iteD (fun h1 => ⟨_,rfl,o,_,dx,_,.int w,rfl,ho,T.cl_Board,T.na_Board_wide,rfl,x,w,rfl,rfl,_,rfl,iteD (fun h2 => ?_) fun h2 => fin _ (by simp [inB,h2])⟩) fun h1 => ⟨_,rfl,iteF (fin _ (by simp [inB,h1]))⟩⟩
  refine ⟨_,rfl,0,y,rfl,rfl,_,rfl,iteD (fun h3 => ⟨_,rfl,o,_,dx,_,.int h,rfl,ho,T.cl_Board,T.na_Board_high,rfl,y,h,rfl,rfl,fin _ (by simp [inB,h1,h2,h3])⟩) fun h3 => fin _ (by simp [inB,h3])⟩
def spHasLayer (C:Addr):Sp:=fun vs H Q _ => ∃ (o dx c d:Addr) (w h l z:Int),vs = [.ref o,.int z]∧H o = some (.ins C dx (fB w h l c d))∧Q (.bl (inB z l)) H
theorem ok_Board_has_layer (T:Txt K mg t):GoodM P w K mg base 2 t.c_Board "has_layer" ["self","z"] (spHasLayer t.c_Board):=by
 obtain ⟨fd,F,b⟩:=T.F_Board_has_layer
 have G_is_whole:=ok_is_whole (P:=P) (w:=w) (base:=base) T
 refine ⟨T.cl_Board,_,fd,T.M_Board_has_layer,F.okX sc_Board_has_layer (fun vs H Q E h => ?_) (fun cdv A outer s H vs Q E hr h => ?_),b⟩
 ·obtain ⟨o,dx,c,d,w,h,l,z,rfl,_⟩:=h
  rfl
 ·obtain ⟨o,dx,c,d,w,h,l,z,rfl,ho,q⟩:=h
  refine ⟨_,(pss_one (ps_ret (pe_and (pe_callG G_is_whole (hr.mono (by decide)) passes_of (by rfl) (pa_cons (pv 1) pa_nil)) (pe_one (pe_chain op_le op_lt pe_int (pv 1) (pe_fld (pv 0) rfl)))))),?_⟩
  have fin:∀ b:Bool,inB z l = b→Q (.bl b) H:=fun b e => e▸q
  refine ⟨_,rfl,.int z,rfl,trivial,true,rfl,iteT ?_⟩
  refine ⟨_,rfl,0,z,rfl,rfl,_,rfl,iteD (fun h1 => ⟨_,rfl,o,_,dx,_,.int l,rfl,ho,T.cl_Board,T.na_Board_layers,rfl,z,l,rfl,rfl,fin _ (by simp [inB,h1])⟩) fun h1 => fin _ (by simp [inB,h1])⟩
def spHasCell (C:Addr):Sp:=fun vs H Q _ => ∃ (o dx c d p:Addr) (w h l x y z:Int),vs = [.ref o,.ref p]∧H o = some (.ins C dx (fB w h l c d))∧H p = some (.tup [.int x,.int y,.int z])∧Q (.bl (inB x w && inB y h && inB z l)) H
theorem ok_Board_has_cell (T:Txt K mg t):GoodM P w K mg base 3 t.c_Board "has_cell" ["self","cell"] (spHasCell t.c_Board):=by
 obtain ⟨fd,F,b⟩:=T.F_Board_has_cell
 have G_Board_has_square:=ok_Board_has_square (P:=P) (w:=w) (base:=base) T
 have G_Board_has_layer:=ok_Board_has_layer (P:=P) (w:=w) (base:=base) T
 refine ⟨T.cl_Board,_,fd,T.M_Board_has_cell,F.okX sc_Board_has_cell (fun vs H Q E h => ?_) (fun cdv A outer s H vs Q E hr h => ?_),b⟩
 ·obtain ⟨o,dx,c,d,p,w,h,l,x,y,z,rfl,_⟩:=h
  rfl
 ·obtain ⟨o,dx,c,d,p,w,h,l,x,y,z,rfl,ho,hp,q⟩:=h
  refine ⟨_,(pss_cons (ps_if (pw_or (pt_not (pt_val (pe_callB call_isi (by rfl) T.n_isinstance b_isinstance (pa_cons (pv 1) (pa_cons (pe_bltn (v:=.ty "tuple") (by rfl) T.n_tuple b_tuple rfl) pa_nil))))) (pw_or1 (pt_cmpR op_ne (pe_callB call_len_seq (by rfl) T.n_len b_len (pa_cons (pv 1) pa_nil)) pe_int (nomark _)))).pt (pss_one (ps_ret pe_bl)) pss_nil)
   (pss_one (ps_ret (pe_and (pe_methG (pv 0) G_Board_has_square (hr.mono (by decide)) passes_of (pa_cons (pe_ix ix_tup (pv 1) pe_int (fun _ _ => rfl)) (pa_cons (pe_ix ix_tup (pv 1) pe_int (fun _ _ => rfl)) pa_nil))) (pe_one (pe_methG (pv 0) G_Board_has_layer (hr.mono (by decide)) passes_of (pa_cons (pe_ix ix_tup (pv 1) pe_int (fun _ _ => rfl)) pa_nil))))))),?_⟩
  have S:SqT K H p [.int x,.int y,.int z]:=SqT.of hp
  refine ⟨_,rfl,.ref p,.ty "tuple",_,_,true,rfl,.tup hp,.ty _,by kernel_rfl,true,rfl,iteF ?_⟩
  refine ⟨_,rfl,p,_,rfl,.inr S,rfl,_,rfl,iteNB (fun z => absurd (of_decide_eq_false z rfl) (fun z => z)) fun _ => ?_⟩
  have fin:∀ b:Bool,(inB x w && inB y h && inB z l) = b→Q (.bl b) H:=fun b e => e▸q
  refine ⟨_,rfl,o,dx,_,rfl,ho,rfl,_,rfl,p,_,0,.int x,rfl,rfl,S,rfl,_,rfl,p,_,1,.int y,rfl,rfl,S,rfl,o,dx,c,d,w,h,l,x,y,rfl,ho,_,rfl,?_⟩
  cases h1:(inB x w && inB y h) with
  | false => exact iteF (fin _ (by rw [h1]; rfl))
  | true => exact iteT ⟨_,rfl,o,dx,_,rfl,ho,rfl,_,rfl,p,_,2,.int z,rfl,rfl,S,rfl,o,dx,c,d,w,h,l,z,rfl,ho,fin _ (by rw [h1]; rfl)⟩
def spIsCopper (C:Addr):Sp:=fun vs H Q _ => ∃ (o dx c d:Addr) (w h l x y z:Int) (cs:Tab),vs = [.ref o,.int x,.int y,.int z]∧H o = some (.ins C dx (fB w h l c d))∧H c = some (.dT cs) ∧
 ∀ H',Same H H'→Q (.bl (inB x w && inB y h && inB z l && (valV cs [.inl x,.inl y,.inl z]).isSome)) H'
theorem ok_Board_is_copper (T:Txt K mg t):GoodM P w K mg base 4 t.c_Board "is_copper" ["self","x","y","z"] (spIsCopper t.c_Board):=by
 obtain ⟨fd,F,b⟩:=T.F_Board_is_copper
 have G_Board_has_cell:=ok_Board_has_cell (P:=P) (w:=w) (base:=base) T
 refine ⟨T.cl_Board,_,fd,T.M_Board_is_copper,F.okX sc_Board_is_copper (fun vs H Q E h => ?_) (fun cdv A outer s H vs Q E hr h => ?_),b⟩
 ·obtain ⟨o,dx,c,d,w,h,l,x,y,z,cs,rfl,_⟩:=h
  rfl
 ·obtain ⟨o,dx,c,d,w,h,l,x,y,z,cs,rfl,ho,hc,q⟩:=h
  refine ⟨_,(pss_one (ps_ret (pe_and (pe_methG (pv 0) G_Board_has_cell (hr.mono (by decide)) passes_of (pa_cons (pe_tup (pa_cons (pv 1) (pa_cons (pv 2) (pa_cons (pv 3) pa_nil)))) pa_nil)) (pe_one (pe_cmp (pc_din (hu_of hr) (pe_tup (pa_cons (pv 1) (pa_cons (pv 2) (pa_cons (pv 3) pa_nil)))) (pe_fld (pv 0) rfl))))))),?_⟩
  refine ⟨_,rfl,o,dx,_,rfl,ho,rfl,_,rfl,_,rfl,_,rfl,(by show 3≤sizeLine; decide),fun p hp => ?_⟩
  have s1:Same H (upd H p (.tup [.int x,.int y,.int z])):=same_new (Same.refl H) hp
  refine ⟨o,dx,c,d,p,w,h,l,x,y,z,rfl,s1 _ _ ho,upd_same,_,rfl,?_⟩
  cases h1:(inB x w && inB y h && inB z l) with
  | false => exact iteF (by have:=q _ s1; rw [h1] at this; exact this)
  | true =>
   refine iteT ⟨_,rfl,_,rfl,_,rfl,(by show 3≤sizeLine; decide),fun p2 hp2 => ?_⟩
   have s2:=same_new (o:=.tup [.int x,.int y,.int z]) s1 hp2
   refine ⟨_,rfl,o,_,dx,_,.ref c,rfl,s2 _ _ ho,T.cl_Board,T.na_Board_copper,rfl,c,_,rfl,DGet.t (k:=[.inl x,.inl y,.inl z]) (s2 _ _ hc) upd_same,?_⟩
   have:=q _ s2
   rw [h1,Bool.true_and] at this
   exact this
def spHasHole (C:Addr):Sp:=fun vs H Q _ => ∃ (o dx c d:Addr) (w h l x y:Int) (ds:Tab),vs = [.ref o,.int x,.int y]∧H o = some (.ins C dx (fB w h l c d))∧H d = some (.dT ds) ∧
 ∀ H',Same H H'→Q (.bl (inB x w && inB y h && (valV ds [.inl x,.inl y]).isSome)) H'
theorem ok_Board_has_hole (T:Txt K mg t):GoodM P w K mg base 3 t.c_Board "has_hole" ["self","x","y"] (spHasHole t.c_Board):=by
 obtain ⟨fd,F,b⟩:=T.F_Board_has_hole
 have G_Board_has_square:=ok_Board_has_square (P:=P) (w:=w) (base:=base) T
 refine ⟨T.cl_Board,_,fd,T.M_Board_has_hole,F.okX sc_Board_has_hole (fun vs H Q E h => ?_) (fun cdv A outer s H vs Q E hr h => ?_),b⟩
 ·obtain ⟨o,dx,c,d,w,h,l,x,y,ds,rfl,_⟩:=h
  rfl
 ·obtain ⟨o,dx,c,d,w,h,l,x,y,ds,rfl,ho,hd,q⟩:=h
  refine ⟨_,(pss_one (ps_ret (pe_and (pe_methG (pv 0) G_Board_has_square (hr.mono (by decide)) passes_of (pa_cons (pv 1) (pa_cons (pv 2) pa_nil))) (pe_one (pe_cmp (pc_din (hu_of hr) (pe_tup (pa_cons (pv 1) (pa_cons (pv 2) pa_nil))) (pe_fld (pv 0) rfl))))))),?_⟩
  refine ⟨_,rfl,o,dx,_,rfl,ho,rfl,_,rfl,_,rfl,o,dx,c,d,w,h,l,x,y,rfl,ho,_,rfl,?_⟩
  cases h1:(inB x w && inB y h) with
  | false => exact iteF (by have:=q _ (Same.refl H); rw [h1] at this; exact this)
  | true =>
   refine iteT ⟨_,rfl,_,rfl,(by show 2≤sizeLine; decide),fun p2 hp2 => ?_⟩
   have s2:=same_new (o:=.tup [.int x,.int y]) (Same.refl H) hp2
   refine ⟨_,rfl,o,_,dx,_,.ref d,rfl,s2 _ _ ho,T.cl_Board,T.na_Board_drilled,rfl,d,_,rfl,DGet.t (k:=[.inl x,.inl y]) (s2 _ _ hd) upd_same,?_⟩
   have:=q _ s2
   rw [h1,Bool.true_and] at this
   exact this
end
end K23
namespace K23
open PySem L2 Wd
theorem b_sorted:bootBuiltins "sorted" = some (.builtin "sorted"):=by decide +kernel
def Cells (H:Hp) (ps:List Addr) (cl:List (Int × Int × Int)):Prop:=ps.length = cl.length∧∀ (i:Nat) (p:Addr) (c:Int × Int × Int),ps[i]? = some p→cl[i]? = some c→H p = some (.tup [.int c.1,.int c.2.1,.int c.2.2])
theorem Cells.same {H H':Hp} {ps:List Addr} {cl:List (Int × Int × Int)} (C:Cells H ps cl) (s:Same H H'):Cells H' ps cl:=⟨C.1,fun i p c h1 h2 => s _ _ (C.2 i p c h1 h2)⟩
def k3 (c:Int × Int × Int):List Key:=[.inl c.1,.inl c.2.1,.inl c.2.2]
def putAll (cs:Tab) (cl:List (Int × Int × Int)):Tab:=cl.foldl (fun t c => putK t (k3 c) (.bl true)) cs
theorem putAll_len (cl:List (Int × Int × Int)):∀ cs:Tab,(putAll cs cl).length≤cs.length + cl.length:=by
 induction cl with
 | nil => intro cs; exact Nat.le_refl _
 | cons c r ih =>
  intro cs
  have h1:=ih (putK cs (k3 c) (.bl true))
  have h2:=length_putK cs (k3 c) (.bl true)
  show (putAll (putK cs (k3 c) (.bl true)) r).length≤_
  rw [List.length_cons]; omega
theorem putAll_snoc (cs:Tab) (cl:List (Int × Int × Int)) (c:Int × Int × Int):putAll cs (cl ++ [c]) = putK (putAll cs cl) (k3 c) (.bl true):=by
 unfold putAll; rw [List.foldl_append]; rfl
def onB (w h l:Int) (c:Int × Int × Int):Bool:=inB c.1 w && inB c.2.1 h && inB c.2.2 l
section
variable {P:Program} {w:World} {K:PySem.W.Frag} {mg:Str→Option Value} {base:Heap} {t:Adr}
def spNeedSquare (C NP:Addr):Sp:=fun vs H Q E => ∃ (o dx c d:Addr) (w h l x y:Int),vs = [.ref o,.int x,.int y]∧H o = some (.ins C dx (fB w h l c d))∧((inB x w && inB y h) = true→Q .non H)∧((inB x w && inB y h) = false→E (.ref NP) none H)
theorem ok_Board_need_square (T:Txt K mg t):GoodM P w K mg base 3 t.c_Board "need_square" ["self","x","y"] (spNeedSquare t.c_Board t.c_NoPlace):=by
 obtain ⟨fd,F,b⟩:=T.F_Board_need_square
 have G_Board_has_square:=ok_Board_has_square (P:=P) (w:=w) (base:=base) T
 refine ⟨T.cl_Board,_,fd,T.M_Board_need_square,F.okX sc_Board_need_square (fun vs H Q E h => ?_) (fun cdv A outer s H vs Q E hr h => ?_),b⟩
 ·obtain ⟨o,dx,c,d,w,h,l,x,y,rfl,_⟩:=h
  rfl
 ·obtain ⟨o,dx,c,d,w,h,l,x,y,rfl,ho,q,e⟩:=h
  refine ⟨_,(pss_one (ps_if (pt_not (pt_val (pe_methG (pv 0) G_Board_has_square (hr.mono (by decide)) passes_of (pa_cons (pv 1) (pa_cons (pv 2) pa_nil))))) (pss_one (ps_raise throws_of rfl T.e_NoPlace rfl (pa_cons pe_str pa_nil))) pss_nil)),?_⟩
  exact ⟨_,rfl,o,dx,_,rfl,ho,rfl,_,rfl,_,rfl,o,dx,c,d,w,h,l,x,y,rfl,ho,_,rfl,iteNB (fun hf => ⟨by show 1≤sizeLine; decide,e hf⟩) fun ht => q ht⟩
def spNeedAll (C NP:Addr):Sp:=fun vs H Q E => ∃ (o dx c d a:Addr) (ps:List Addr) (cl:List (Int × Int × Int)) (w h l:Int),vs = [.ref o,.ref a]∧H o = some (.ins C dx (fB w h l c d))∧H a = some (.lst (ps.map V.ref))∧Cells H ps cl∧(cl.all (onB w h l) = true→Q .non H)∧(cl.all (onB w h l) = false→E (.ref NP) none H)
theorem ok_Board_need_cells (T:Txt K mg t):GoodM P w K mg base 4 t.c_Board "need_cells" ["self","cells"] (spNeedAll t.c_Board t.c_NoPlace):=by
 obtain ⟨fd,F,b⟩:=T.F_Board_need_cells
 have G_Board_has_cell:=ok_Board_has_cell (P:=P) (w:=w) (base:=base) T
 refine ⟨T.cl_Board,_,fd,T.M_Board_need_cells,F.okX sc_Board_need_cells (fun vs H Q E h => ?_) (fun cdv A outer s H vs Q E hr h => ?_),b⟩
 ·obtain ⟨o,dx,c,d,a,ps,cl,w,h,l,rfl,_⟩:=h
  rfl
 ·obtain ⟨o,dx,c,d,a,ps,cl,w,h,l,rfl,ho,ha,hp,q,e⟩:=h
  refine ⟨_,(pss_one (ps_for owns_of (pi_list (pv 1)) (pg_name (i:=2) sc_Board_need_cells.nd rfl (Or.inl rfl)) (pss_one (ps_if (pt_not (pt_val (pe_methG (pv 0) G_Board_has_cell (hr.mono (by decide)) passes_of (pa_cons (pv 2) pa_nil)))) (pss_one (ps_raise throws_of rfl T.e_NoPlace rfl (pa_cons pe_str pa_nil))) pss_nil)))),?_⟩
  refine ⟨_,rfl,a,rfl,⟨_,SqL.of ha⟩,for_list (xs:=ps.map V.ref) (fun i σ H2 => (∃ v,σ = [some (.ref o),some (.ref a),v])∧H = H2∧(cl.take i).all (onB w h l) = true) ⟨⟨_,rfl⟩,rfl,by simp⟩ (fun i σ H2 _ ⟨_,e,_⟩ => e▸SqL.of ha) ?_ ?_⟩
  ·rintro i v σ H2 hx ⟨⟨u,rfl⟩,rfl,hall⟩
   rw [List.getElem?_map] at hx
   obtain ⟨p,e1,rfl⟩:=Option.map_eq_some_iff.mp hx
   have hi:i < cl.length:=by rw [← hp.1]; exact (List.getElem?_eq_some_iff.mp e1).1
   have e2:=List.getElem?_eq_getElem hi
   refine ⟨_,rfl,o,dx,_,rfl,ho,rfl,_,rfl,o,dx,c,d,p,w,h,l,cl[i].1,cl[i].2.1,cl[i].2.2,rfl,ho,hp.2 i p _ e1 e2,_,rfl,iteNB (fun hf => ⟨by show 1≤sizeLine; decide,e ?_⟩) fun ht => ⟨⟨_,rfl⟩,rfl,?_⟩⟩
   ·exact Bool.eq_false_iff.mpr fun z => by
     have:=List.all_eq_true.mp z _ (List.getElem_mem hi)
     unfold onB at this; rw [this] at hf; cases hf
   ·rw [List.take_add_one,e2,List.all_append,hall]
    simpa [onB] using ht
  ·rintro σ H2 ⟨⟨u,rfl⟩,rfl,hall⟩
   rw [List.length_map,hp.1,List.take_length] at hall
   exact q hall
def spPuts (C NP:Addr):Sp:=fun vs H Q E => ∃ (o dx c d a:Addr) (ps:List Addr) (cl:List (Int × Int × Int)) (w h l:Int) (cs:Tab),vs = [.ref o,.ref a]∧H o = some (.ins C dx (fB w h l c d))∧H a = some (.lst (ps.map V.ref))∧Cells H ps cl∧H c = some (.dT cs)∧cs.length + cl.length≤1000 ∧
 (cl.all (onB w h l) = true→Q .non (upd H c (.dT (putAll cs cl))))∧(cl.all (onB w h l) = false→E (.ref NP) none H)
theorem ok_Board_put (T:Txt K mg t):GoodM P w K mg base 5 t.c_Board "put" ["self","cells"] (spPuts t.c_Board t.c_NoPlace):=by
 obtain ⟨fd,F,b⟩:=T.F_Board_put
 have G_Board_need_cells:=ok_Board_need_cells (P:=P) (w:=w) (base:=base) T
 refine ⟨T.cl_Board,_,fd,T.M_Board_put,F.okX sc_Board_put (fun vs H Q E h => ?_) (fun cdv A outer s H vs Q E hr h => ?_),b⟩
 ·obtain ⟨o,dx,c,d,a,ps,cl,w,h,l,cs,rfl,_⟩:=h
  rfl
 ·obtain ⟨o,dx,c,d,a,ps,cl,w,h,l,cs,rfl,ho,ha,hp,hc,hl,q,e⟩:=h
  refine ⟨_,(pss_cons (ps_expr (pe_methG (pv 0) G_Board_need_cells (hr.mono (by decide)) passes_of (pa_cons (pv 1) pa_nil)))
   (pss_one (ps_for owns_of (pi_list (pv 1)) (pg_name (i:=2) sc_Board_put.nd rfl (Or.inl rfl)) (pss_one (ps_dput (hu_of hr) (pe_fld (pv 0) rfl) (pv 2) pe_bl rfl))))),?_⟩
  refine ⟨_,rfl,o,dx,_,rfl,ho,rfl,_,rfl,o,dx,c,d,a,ps,cl,w,h,l,rfl,ho,ha,hp,fun hb => ?_,e⟩
  have nac:a≠c:=ne_of ha hc (by intro z; cases z)
  have noc:o≠c:=ne_of ho hc (by intro z; cases z)
  refine ⟨_,rfl,a,rfl,⟨_,SqL.of ha⟩,for_list (xs:=ps.map V.ref) (fun i σ H2 => ∃ v,σ = [some (.ref o),some (.ref a),v]∧H2 = upd H c (.dT (putAll cs (cl.take i)))) ⟨_,rfl,?_⟩ (fun i σ H2 _ ⟨_,_,e⟩ => ?_) ?_ ?_⟩
  ·funext x
   by_cases e:x = c
   ·rw [e,upd_same,hc]; rfl
   ·rw [upd_ne e]
  ·subst e
   exact SqL.of (by rw [upd_ne nac]; exact ha)
  ·rintro i v σ H2 hx ⟨u,rfl,rfl⟩
   rw [List.getElem?_map] at hx
   obtain ⟨p,e1,rfl⟩:=Option.map_eq_some_iff.mp hx
   have hi:i < cl.length:=by rw [← hp.1]; exact (List.getElem?_eq_some_iff.mp e1).1
   have e2:=List.getElem?_eq_getElem hi
   have e3:=hp.2 i p _ e1 e2
   have npc:p≠c:=ne_of e3 hc (by intro z; cases z)
   have hlen:=putAll_len (cl.take i) cs
   rw [List.length_take] at hlen
   refine ⟨_,rfl,o,_,dx,_,.ref c,rfl,by rw [upd_ne noc]; exact ho,T.cl_Board,T.na_Board_copper,rfl,_,rfl,c,_,rfl,DPut.t (kvs:=putAll cs (cl.take i)) (k:=k3 cl[i]) upd_same (by rw [upd_ne npc]; exact e3) (Nat.lt_of_le_of_lt (show _≤1000 by omega) (by decide)),_,rfl,?_⟩
   funext x
   rw [List.take_succ,e2,show (some cl[i]).toList = [cl[i]] from rfl,putAll_snoc]
   by_cases e:x = c
   ·rw [e,upd_same,upd_same]
   ·rw [upd_ne e,upd_ne e,upd_ne e]
  ·rintro σ H2 ⟨u,rfl,rfl⟩
   rw [List.length_map,hp.1,List.take_of_length_le (Nat.le_refl _)]
   exact q hb
def dropAll (cs:Tab) (cl:List (Int × Int × Int)):Tab:=cl.foldl (fun t c => dropK t (k3 c)) cs
theorem dropAll_snoc (cs:Tab) (cl:List (Int × Int × Int)) (c:Int × Int × Int):dropAll cs (cl ++ [c]) = dropK (dropAll cs cl) (k3 c):=by
 unfold dropAll; rw [List.foldl_append]; rfl
def spTake (C:Addr):Sp:=fun vs H Q _ => ∃ (o dx c d a:Addr) (ps:List Addr) (cl:List (Int × Int × Int)) (w h l:Int) (cs:Tab),vs = [.ref o,.ref a]∧H o = some (.ins C dx (fB w h l c d))∧H a = some (.lst (ps.map V.ref))∧Cells H ps cl∧H c = some (.dT cs)∧cl.all (onB w h l) = true ∧
 Q .non (upd H c (.dT (dropAll cs cl)))
theorem ok_Board_take (T:Txt K mg t):GoodM P w K mg base 5 t.c_Board "take" ["self","cells"] (spTake t.c_Board):=by
 obtain ⟨fd,F,b⟩:=T.F_Board_take
 have G_Board_need_cells:=ok_Board_need_cells (P:=P) (w:=w) (base:=base) T
 refine ⟨T.cl_Board,_,fd,T.M_Board_take,F.okX sc_Board_take (fun vs H Q E h => ?_) (fun cdv A outer s H vs Q E hr h => ?_),b⟩
 ·obtain ⟨o,dx,c,d,a,ps,cl,w,h,l,cs,rfl,_⟩:=h
  rfl
 ·obtain ⟨o,dx,c,d,a,ps,cl,w,h,l,cs,rfl,ho,ha,hp,hc,hb,q⟩:=h
  refine ⟨_,(pss_cons (ps_expr (pe_methG (pv 0) G_Board_need_cells (hr.mono (by decide)) passes_of (pa_cons (pv 1) pa_nil)))
   (pss_one (ps_for owns_of (pi_list (pv 1)) (pg_name (i:=2) sc_Board_take.nd rfl (Or.inl rfl)) (pss_one (ps_expr (pe_bm PySem.F.plainAttrs_dict PySem.F.slot_dict_pop PySem.F.type_dict_pop (mt_popT hr.units) (pe_fld (pv 0) rfl) (pa_cons (pv 2) (pa_cons pe_non pa_nil)))))))),?_⟩
  refine ⟨_,rfl,o,dx,_,rfl,ho,rfl,_,rfl,o,dx,c,d,a,ps,cl,w,h,l,rfl,ho,ha,hp,fun _ => ?_,fun z => absurd hb (by rw [z]; decide)⟩
  have nac:a≠c:=ne_of ha hc (by intro z; cases z)
  have noc:o≠c:=ne_of ho hc (by intro z; cases z)
  refine ⟨_,rfl,a,rfl,⟨_,SqL.of ha⟩,for_list (xs:=ps.map V.ref) (fun i σ H2 => ∃ v,σ = [some (.ref o),some (.ref a),v]∧H2 = upd H c (.dT (dropAll cs (cl.take i)))) ⟨_,rfl,?_⟩ (fun i σ H2 _ ⟨_,_,e⟩ => ?_) ?_ ?_⟩
  ·funext x
   by_cases e:x = c
   ·rw [e,upd_same,hc]; rfl
   ·rw [upd_ne e]
  ·subst e
   exact SqL.of (by rw [upd_ne nac]; exact ha)
  ·rintro i v σ H2 hx ⟨u,rfl,rfl⟩
   rw [List.getElem?_map] at hx
   obtain ⟨p,e1,rfl⟩:=Option.map_eq_some_iff.mp hx
   have hi:i < cl.length:=by rw [← hp.1]; exact (List.getElem?_eq_some_iff.mp e1).1
   have e2:=List.getElem?_eq_getElem hi
   have e3:=hp.2 i p _ e1 e2
   have npc:p≠c:=ne_of e3 hc (by intro z; cases z)
   refine ⟨_,rfl,o,_,dx,_,.ref c,rfl,by rw [upd_ne noc]; exact ho,T.cl_Board,T.na_Board_copper,rfl,.inr (.inr (.inl ⟨rfl,.inr ⟨_,upd_same⟩⟩)),_,rfl,c,p,dropAll cs (cl.take i),k3 cl[i],rfl,rfl,upd_same,by rw [upd_ne npc]; exact e3,fun v => ⟨_,rfl,?_⟩⟩
   funext x
   rw [List.take_succ,e2,show (some cl[i]).toList = [cl[i]] from rfl,dropAll_snoc]
   by_cases e:x = c
   ·rw [e,upd_same,upd_same]
   ·rw [upd_ne e,upd_ne e,upd_ne e]
  ·rintro σ H2 ⟨u,rfl,rfl⟩
   rw [List.length_map,hp.1,List.take_of_length_le (Nat.le_refl _)]
   exact q
def spDrill (C NP:Addr):Sp:=fun vs H Q E => ∃ (o dx c d:Addr) (w h l x y:Int) (ds:Tab),vs = [.ref o,.int x,.int y]∧H o = some (.ins C dx (fB w h l c d))∧H d = some (.dT ds)∧ds.length≤1000 ∧
 ((inB x w && inB y h) = true→∀ p,H p = none→Q .non (upd (upd H p (.tup [.int x,.int y])) d (.dT (putK ds [.inl x,.inl y] (.bl true)))))∧((inB x w && inB y h) = false→E (.ref NP) none H)
theorem ok_Board_drill (T:Txt K mg t):GoodM P w K mg base 4 t.c_Board "drill" ["self","x","y"] (spDrill t.c_Board t.c_NoPlace):=by
 obtain ⟨fd,F,b⟩:=T.F_Board_drill
 have G_Board_need_square:=ok_Board_need_square (P:=P) (w:=w) (base:=base) T
 refine ⟨T.cl_Board,_,fd,T.M_Board_drill,F.okX sc_Board_drill (fun vs H Q E h => ?_) (fun cdv A outer s H vs Q E hr h => ?_),b⟩
 ·obtain ⟨o,dx,c,d,w,h,l,x,y,ds,rfl,_⟩:=h
  rfl
 ·obtain ⟨o,dx,c,d,w,h,l,x,y,ds,rfl,ho,hd,hl,q,e⟩:=h
  refine ⟨_,(pss_cons (ps_expr (pe_methG (pv 0) G_Board_need_square (hr.mono (by decide)) passes_of (pa_cons (pv 1) (pa_cons (pv 2) pa_nil))))
   (pss_one (ps_dput (hu_of hr) (pe_fld (pv 0) rfl) (pe_tup (pa_cons (pv 1) (pa_cons (pv 2) pa_nil))) pe_bl rfl))),?_⟩
  refine ⟨_,rfl,o,dx,_,rfl,ho,rfl,_,rfl,_,rfl,o,dx,c,d,w,h,l,x,y,rfl,ho,fun hb => ?_,e⟩
  refine ⟨_,rfl,o,_,dx,_,.ref d,rfl,ho,T.cl_Board,T.na_Board_drilled,rfl,_,rfl,_,rfl,(by show 2≤sizeLine; decide),fun p hp => ?_⟩
  have ndp:d≠p:=ne_of_none hd hp
  exact ⟨d,_,rfl,DPut.t (k:=[.inl x,.inl y]) (by rw [upd_ne ndp]; exact hd) upd_same (Nat.lt_of_le_of_lt hl (by decide)),q hb p hp⟩
def spPlug (C:Addr):Sp:=fun vs H Q _ => ∃ (o dx c d:Addr) (w h l x y:Int) (ds:Tab),vs = [.ref o,.int x,.int y]∧H o = some (.ins C dx (fB w h l c d))∧(inB x w && inB y h) = true∧H d = some (.dT ds) ∧
 ∀ p,H p = none→Q .non (upd (upd H p (.tup [.int x,.int y])) d (.dT (dropK ds [.inl x,.inl y])))
theorem ok_Board_plug (T:Txt K mg t):GoodM P w K mg base 4 t.c_Board "plug" ["self","x","y"] (spPlug t.c_Board):=by
 obtain ⟨fd,F,b⟩:=T.F_Board_plug
 have G_Board_need_square:=ok_Board_need_square (P:=P) (w:=w) (base:=base) T
 refine ⟨T.cl_Board,_,fd,T.M_Board_plug,F.okX sc_Board_plug (fun vs H Q E h => ?_) (fun cdv A outer s H vs Q E hr h => ?_),b⟩
 ·obtain ⟨o,dx,c,d,w,h,l,x,y,ds,rfl,_⟩:=h
  rfl
 ·obtain ⟨o,dx,c,d,w,h,l,x,y,ds,rfl,ho,hb,hd,q⟩:=h
  refine ⟨_,(pss_cons (ps_expr (pe_methG (pv 0) G_Board_need_square (hr.mono (by decide)) passes_of (pa_cons (pv 1) (pa_cons (pv 2) pa_nil))))
   (pss_one (ps_expr (pe_bm PySem.F.plainAttrs_dict PySem.F.slot_dict_pop PySem.F.type_dict_pop (mt_popT hr.units) (pe_fld (pv 0) rfl) (pa_cons (pe_tup (pa_cons (pv 1) (pa_cons (pv 2) pa_nil))) (pa_cons pe_non pa_nil)))))),?_⟩
  refine ⟨_,rfl,o,dx,_,rfl,ho,rfl,_,rfl,_,rfl,o,dx,c,d,w,h,l,x,y,rfl,ho,fun _ => ?_,fun z => absurd hb (by rw [z]; decide)⟩
  refine ⟨_,rfl,o,_,dx,_,.ref d,rfl,ho,T.cl_Board,T.na_Board_drilled,rfl,.inr (.inr (.inl ⟨rfl,.inr ⟨_,hd⟩⟩)),_,rfl,_,rfl,(by show 2≤sizeLine; decide),fun p hp => ?_⟩
  have ndp:d≠p:=ne_of_none hd hp
  exact ⟨d,p,ds,[.inl x,.inl y],rfl,rfl,by rw [upd_ne ndp]; exact hd,upd_same,fun v => q p hp⟩
end
end K23
namespace K23
open PySem L2 Wd TS
section
variable {P:Program} {w:World} {K:PySem.W.Frag} {mg:Str→Option Value} {base:Heap} {t:Adr}
def spCells (C:Addr):Sp:=fun vs H Q _ => ∃ (o dx c d:Addr) (w h l:Int) (cs:Tab),vs = [.ref o,.non]∧H o = some (.ins C dx (fB w h l c d))∧H c = some (.dT cs)∧(∀ kv∈cs,sd kv.1 = [true,true,true]) ∧
 ∀ p bs ks,H p = none→KeyAt H bs ks→ks.Perm (cs.map (·.1))→(ks.Pairwise fun a b => lx b a = false)→Q (.ref p) (upd H p (.lst (bs.map V.ref)))
theorem ok_Board_cells (T:Txt K mg t):GoodMN P w K mg base 1 t.c_Board "cells" ["self","z"] (spCells t.c_Board):=by
 obtain ⟨fd,F,_,b⟩:=T.F_Board_cells
 refine ⟨T.cl_Board,_,fd,T.M_Board_cells,F.okX sc_Board_cells (fun vs H Q E h => ?_) (fun cdv A outer s H vs Q E hr h => ?_),b⟩
 ·obtain ⟨o,dx,c,d,w,h,l,cs,rfl,_⟩:=h
  rfl
 ·obtain ⟨o,dx,c,d,w,h,l,cs,rfl,ho,hc,hs,q⟩:=h
  refine ⟨_,(pss_cons (ps_if (pt_cmp (pc_isN (pv 1))) (pss_one (ps_ret (pe_callB (call_sortedD rfl) (by rfl) T.n_sorted b_sorted (pa_cons (pe_fld (pv 0) rfl) pa_nil)))) pss_nil)
   (pss_cons ps_never
   (pss_one ps_never))),?_⟩
  exact ⟨_,rfl,_,rfl,iteT ⟨_,rfl,o,_,dx,_,.ref c,rfl,ho,T.cl_Board,T.na_Board_copper,rfl,c,cs,_,rfl,hc,hs,by decide,fun p bs ks hp ka pm up => q p bs ks hp ka pm up⟩⟩
def spHoles (C:Addr):Sp:=fun vs H Q _ => ∃ (o dx c d:Addr) (w h l:Int) (ds:Tab),vs = [.ref o]∧H o = some (.ins C dx (fB w h l c d))∧H d = some (.dT ds)∧(∀ kv∈ds,sd kv.1 = [true,true]) ∧
 ∀ p bs ks,H p = none→KeyAt H bs ks→ks.Perm (ds.map (·.1))→(ks.Pairwise fun a b => lx b a = false)→Q (.ref p) (upd H p (.lst (bs.map V.ref)))
theorem ok_Board_holes (T:Txt K mg t):GoodM P w K mg base 1 t.c_Board "holes" ["self"] (spHoles t.c_Board):=by
 obtain ⟨fd,F,b⟩:=T.F_Board_holes
 refine ⟨T.cl_Board,_,fd,T.M_Board_holes,F.okX sc_Board_holes (fun vs H Q E h => ?_) (fun cdv A outer s H vs Q E hr h => ?_),b⟩
 ·obtain ⟨o,dx,c,d,w,h,l,cs,rfl,_⟩:=h
  rfl
 ·obtain ⟨o,dx,c,d,w,h,l,ds,rfl,ho,hc,hs,q⟩:=h
  refine ⟨_,(pss_one (ps_ret (pe_callB (call_sortedD rfl) (by rfl) T.n_sorted b_sorted (pa_cons (pe_fld (pv 0) rfl) pa_nil)))),?_⟩
  exact ⟨_,rfl,o,_,dx,_,.ref d,rfl,ho,T.cl_Board,T.na_Board_drilled,rfl,d,ds,_,rfl,hc,hs,by decide,fun p bs ks hp ka pm up => q p bs ks hp ka pm up⟩
def cuB (cs:Tab) (w h l:Int) (c:Int × Int × Int):Bool:=onB w h l c && (valV cs (k3 c)).isSome
def spNeedCopper (C NC:Addr):Sp:=fun vs H Q E => ∃ (o dx c d p:Addr) (w h l x y z:Int) (cs:Tab),vs = [.ref o,.ref p]∧H o = some (.ins C dx (fB w h l c d))∧H c = some (.dT cs)∧H p = some (.tup [.int x,.int y,.int z]) ∧
 (cuB cs w h l (x,y,z) = true→∀ H',Same H H'→Q .non H')∧(cuB cs w h l (x,y,z) = false→∀ H',Same H H'→E (.ref NC) none H')
theorem ok_need_copper (T:Txt K mg t):GoodF P w K mg base 5 "need_copper" ["board","cell"] (spNeedCopper t.c_Board t.c_NoCopper):=by
 obtain ⟨fd,F,b⟩:=T.F_need_copper
 have G_Board_has_cell:=ok_Board_has_cell (P:=P) (w:=w) (base:=base) T
 have G_Board_is_copper:=ok_Board_is_copper (P:=P) (w:=w) (base:=base) T
 refine ⟨_,fd,F.okX sc_need_copper (fun vs H Q E h => ?_) (fun cdv A outer s H vs Q E hr h => ?_),b,F.kp,T.g_need_copper⟩
 ·obtain ⟨o,dx,c,d,p,w,h,l,x,y,z,cs,rfl,_⟩:=h
  rfl
 ·obtain ⟨o,dx,c,d,p,w,h,l,x,y,z,cs,rfl,ho,hc,hp,q,e⟩:=h
  refine ⟨_,(pss_one (ps_if (pw_or (pt_not (pt_val (pe_methG (pv 0) G_Board_has_cell (hr.mono (by decide)) passes_of (pa_cons (pv 1) pa_nil)))) (pw_or1 (pt_not (pt_val (pe_methG (pv 0) G_Board_is_copper (hr.mono (by decide)) passes_of (pa_cons (pe_ix ix_tup (pv 1) pe_int (fun _ _ => rfl)) (pa_cons (pe_ix ix_tup (pv 1) pe_int (fun _ _ => rfl)) (pa_cons (pe_ix ix_tup (pv 1) pe_int (fun _ _ => rfl)) pa_nil)))))))).pt (pss_one (ps_raise throws_of rfl T.e_NoCopper rfl (pa_cons pe_str pa_nil))) pss_nil)),?_⟩
  have S:SqT K H p [.int x,.int y,.int z]:=SqT.of hp
  refine ⟨_,rfl,o,dx,_,rfl,ho,rfl,_,rfl,o,dx,c,d,p,w,h,l,x,y,z,rfl,ho,hp,_,rfl,iteNB (fun hf => ⟨by show 1≤sizeLine; decide,e ?_ H (Same.refl H)⟩) fun ht => ?_⟩
  ·unfold cuB onB; rw [hf]; rfl
  refine ⟨_,rfl,o,dx,_,rfl,ho,rfl,_,rfl,p,_,0,.int x,rfl,rfl,S,rfl,_,rfl,p,_,1,.int y,rfl,rfl,S,rfl,_,rfl,p,_,2,.int z,rfl,rfl,S,rfl,o,dx,c,d,w,h,l,x,y,z,cs,rfl,ho,hc,fun H' s' => ⟨_,rfl,iteNB (fun hf => ⟨by show 1≤sizeLine; decide,e hf H' s'⟩) fun ht2 => q ht2 H' s'⟩⟩
def four (c:Int × Int × Int):List (Int × Int × Int):=[(c.1 - 1,c.2.1,c.2.2),(c.1 + 1,c.2.1,c.2.2),(c.1,c.2.1 - 1,c.2.2),(c.1,c.2.1 + 1,c.2.2)]
def spBeside:Sp:=fun vs H Q _ => ∃ (p:Addr) (x y z:Int),vs = [.ref p]∧H p = some (.tup [.int x,.int y,.int z])∧∀ D ps H',Same H H'→H D = none→H' D = some (.lst (ps.map V.ref))→Cells H' ps (four (x,y,z))→Q (.ref D) H'
theorem ok_beside (T:Txt K mg t):GoodF P w K mg base 1 "beside" ["cell"] spBeside:=by
 obtain ⟨fd,F,b⟩:=T.F_beside
 refine ⟨_,fd,F.okX sc_beside (fun vs H Q E h => ?_) (fun cdv A outer s H vs Q E hr h => ?_),b,F.kp,T.g_beside⟩
 ·obtain ⟨p,x,y,z,rfl,_⟩:=h
  rfl
 ·obtain ⟨p,x,y,z,rfl,hp,q⟩:=h
  refine ⟨_,(pss_cons (ps_set (i:=1) sc_beside.nd rfl (Or.inl rfl) (pe_ix ix_tup (pv 0) pe_int (fun _ _ => rfl)))
   (pss_cons (ps_set (i:=2) sc_beside.nd rfl (Or.inl rfl) (pe_ix ix_tup (pv 0) pe_int (fun _ _ => rfl)))
   (pss_cons (ps_set (i:=3) sc_beside.nd rfl (Or.inl rfl) (pe_ix ix_tup (pv 0) pe_int (fun _ _ => rfl)))
   (pss_one (ps_ret (pe_lst (pa_cons (pe_tup (pa_cons (pe_op op_sub (pv 1) pe_int) (pa_cons (pv 2) (pa_cons (pv 3) pa_nil)))) (pa_cons (pe_tup (pa_cons (pe_op op_add (pv 1) pe_int) (pa_cons (pv 2) (pa_cons (pv 3) pa_nil)))) (pa_cons (pe_tup (pa_cons (pv 1) (pa_cons (pe_op op_sub (pv 2) pe_int) (pa_cons (pv 3) pa_nil)))) (pa_cons (pe_tup (pa_cons (pv 1) (pa_cons (pe_op op_add (pv 2) pe_int) (pa_cons (pv 3) pa_nil)))) pa_nil)))))))))),?_⟩
  have S:SqT K H p [.int x,.int y,.int z]:=SqT.of hp
  refine ⟨_,rfl,p,_,0,.int x,rfl,rfl,S,rfl,_,rfl,p,_,1,.int y,rfl,rfl,S,rfl,_,rfl,p,_,2,.int z,rfl,rfl,S,rfl,?_⟩
  refine ⟨_,rfl,x,1,rfl,rfl,_,rfl,_,rfl,(by show 3≤sizeLine; decide),fun p1 h1 => ?_⟩
  have s1:=same_new (o:=.tup [.int (x - 1),.int y,.int z]) (Same.refl H) h1
  have e1:upd H p1 (.tup [.int (x - 1),.int y,.int z]) p1 = some (.tup [.int (x - 1),.int y,.int z]):=upd_same
  generalize upd H p1 (.tup [.int (x - 1),.int y,.int z]) = H1 at s1 e1 ⊢
  refine ⟨_,rfl,x,1,rfl,rfl,_,rfl,_,rfl,(by show 3≤sizeLine; decide),fun p2 h2 => ?_⟩
  have s2:=same_new (o:=.tup [.int (x + 1),.int y,.int z]) (Same.refl H1) h2
  have e2:upd H1 p2 (.tup [.int (x + 1),.int y,.int z]) p2 = some (.tup [.int (x + 1),.int y,.int z]):=upd_same
  generalize upd H1 p2 (.tup [.int (x + 1),.int y,.int z]) = H2 at s2 e2 ⊢
  refine ⟨_,rfl,_,rfl,y,1,rfl,rfl,_,rfl,(by show 3≤sizeLine; decide),fun p3 h3 => ?_⟩
  have s3:=same_new (o:=.tup [.int x,.int (y - 1),.int z]) (Same.refl H2) h3
  have e3:upd H2 p3 (.tup [.int x,.int (y - 1),.int z]) p3 = some (.tup [.int x,.int (y - 1),.int z]):=upd_same
  generalize upd H2 p3 (.tup [.int x,.int (y - 1),.int z]) = H3 at s3 e3 ⊢
  refine ⟨_,rfl,_,rfl,y,1,rfl,rfl,_,rfl,(by show 3≤sizeLine; decide),fun p4 h4 => ?_⟩
  have s4:=same_new (o:=.tup [.int x,.int (y + 1),.int z]) (Same.refl H3) h4
  have e4:upd H3 p4 (.tup [.int x,.int (y + 1),.int z]) p4 = some (.tup [.int x,.int (y + 1),.int z]):=upd_same
  generalize upd H3 p4 (.tup [.int x,.int (y + 1),.int z]) = H4 at s4 e4 ⊢
  refine ⟨(by show 4≤sizeLine; decide),fun D hD => ?_⟩
  have s5:=same_new (o:=.lst [.ref p1,.ref p2,.ref p3,.ref p4]) (Same.refl H4) hD
  have s04:=Same.trans s1 (Same.trans s2 (Same.trans s3 s4))
  have hD0:H D = none:=by
   cases e:H D with
   | none => rfl
   | some u => rw [s04 _ _ e] at hD; cases hD
  refine q D [p1,p2,p3,p4] _ (Same.trans s04 s5) hD0 upd_same ⟨rfl,fun i r c g1 g2 => ?_⟩
  match i with
  | 0 => cases g1; cases g2; exact s5 _ _ (s4 _ _ (s3 _ _ (s2 _ _ e1)))
  | 1 => cases g1; cases g2; exact s5 _ _ (s4 _ _ (s3 _ _ e2))
  | 2 => cases g1; cases g2; exact s5 _ _ (s4 _ _ e3)
  | 3 => cases g1; cases g2; exact s5 _ _ e4
  | i + 4 => cases g1
end
end K23
namespace K23
open PySem L2 Wd TS
theorem seq_gen {a b:TS} {D:Ends} {σ:St} {H:Hp} (R:St→Hp→Prop) (h1:∀ B:TS,(∀ σ H,R σ H→B D σ H)→tSeq a B D σ H) (h2:∀ σ H,R σ H→b D σ H):tSeq a b D σ H:=h1 b h2
theorem gName_go {i:Nat} {x:V} {σ:St} {H:Hp} {Q:St→Hp→Prop} (h:Q (σ.set i (some x)) H):gName i x σ H Q:=h
theorem Cells.snoc {H:Hp} {ps:List Addr} {cl:List (Int × Int × Int)} {p:Addr} {c:Int × Int × Int} (C:Cells H ps cl) (hp:H p = some (.tup [.int c.1,.int c.2.1,.int c.2.2])):Cells H (ps ++ [p]) (cl ++ [c]):=⟨by rw [List.length_append,List.length_append,C.1]; rfl,fun i q d h1 h2 => by
 by_cases h:i < ps.length
 ·rw [List.getElem?_append_left h] at h1
  rw [List.getElem?_append_left (C.1▸h)] at h2
  exact C.2 i q d h1 h2
 ·rw [List.getElem?_append_right (by omega)] at h1
  rw [List.getElem?_append_right (by rw [← C.1]; omega),← C.1] at h2
  generalize i - ps.length = m at h1 h2
  cases m with
  | zero => cases h1; cases h2; exact hp
  | succ m => cases h1⟩
theorem Cells.add {H:Hp} {ps:List Addr} {cl:List (Int × Int × Int)} {p D:Addr} {ys ys':List V} {c:Int × Int × Int} (C:Cells H ps cl) (hp:H p = none) (hD:H D = some (.lst ys)):Cells (upd (upd H p (.tup [.int c.1,.int c.2.1,.int c.2.2])) D (.lst ys')) (ps ++ [p]) (cl ++ [c]):=by
 have npD:p≠D:=fun z => by rw [z,hD] at hp; cases hp
 have k:Cells (upd (upd H p (.tup [.int c.1,.int c.2.1,.int c.2.2])) D (.lst ys')) ps cl:=⟨C.1,fun i q d h1 h2 => by
  have e:=C.2 i q d h1 h2
  have n1:q≠D:=fun z => by rw [z,hD] at e; cases e
  rw [upd_ne n1,upd_ne (ne_of_none e hp)]; exact e⟩
 exact k.snoc (by rw [upd_ne npD]; exact upd_same)
def overs (c:Int × Int × Int) (n:Nat):List (Int × Int × Int):=((List.range n).filter fun (k:Nat) => decide ((k:Int)≠c.2.2)).map fun (k:Nat) => (c.1,c.2.1,(k:Int))
theorem overs_snoc (c:Int × Int × Int) (n:Nat):overs c (n + 1) = overs c n ++ (if (n:Int)≠c.2.2 then [(c.1,c.2.1,(n:Int))] else []):=by
 unfold overs
 rw [List.range_succ,List.filter_append,List.map_append]
 congr 1
 by_cases h:(n:Int) = c.2.2 <;> simp [h]
def spots (c:Int × Int × Int) (ho:Bool) (n:Nat):List (Int × Int × Int):=four c ++ (if ho = true then overs c n else [])
theorem spots_len (c:Int × Int × Int) (ho:Bool) (n:Nat):(spots c ho n).length≤4 + n:=by
 unfold spots
 rw [List.length_append]
 have h1:(four c).length = 4:=rfl
 have h2:(overs c n).length≤n:=by
  unfold overs
  rw [List.length_map]
  exact Nat.le_trans (List.length_filter_le _ _) (by rw [List.length_range]; exact Nat.le_refl _)
 split
 ·omega
 ·rw [h1]; show 4 + 0≤_; omega
theorem Cells.key {H:Hp} {ps:List Addr} {cl:List (Int × Int × Int)} (C:Cells H ps cl):KeyAt H ps (cl.map k3):=⟨by rw [List.length_map]; exact C.1,fun i b k h1 h2 => by
 rw [List.getElem?_map] at h2
 obtain ⟨c,e,rfl⟩:=Option.map_eq_some_iff.mp h2
 exact C.2 i b c h1 e⟩
theorem Cells.app {H:Hp} {ps qs:List Addr} {cl dl:List (Int × Int × Int)} (C:Cells H ps cl) (D:Cells H qs dl):Cells H (ps ++ qs) (cl ++ dl):=⟨by rw [List.length_append,List.length_append,C.1,D.1],fun i q d h1 h2 => by
 by_cases h:i < ps.length
 ·rw [List.getElem?_append_left h] at h1
  rw [List.getElem?_append_left (C.1▸h)] at h2
  exact C.2 i q d h1 h2
 ·rw [List.getElem?_append_right (by omega)] at h1
  rw [List.getElem?_append_right (by rw [← C.1]; omega),← C.1] at h2
  exact D.2 _ q d h1 h2⟩
theorem Cells.wr {H:Hp} {D:Addr} {ps:List Addr} {cl:List (Int × Int × Int)} {ys ys':List V} (C:Cells H ps cl) (hD:H D = some (.lst ys)):Cells (upd H D (.lst ys')) ps cl:=⟨C.1,fun i q d h1 h2 => by
 have e:=C.2 i q d h1 h2
 rw [upd_ne (ne_of e hD (by intro z; cases z))]; exact e⟩
section
variable {P:Program} {w:World} {K:PySem.W.Frag} {mg:Str→Option Value} {base:Heap} {t:Adr}
def spOver:Sp:=fun vs H Q _ => ∃ (p:Addr) (x y z:Int) (l:Nat),vs = [.ref p,.int l]∧H p = some (.tup [.int x,.int y,.int z])∧l≤100∧∀ D ps H',Same H H'→H D = none→H' D = some (.lst (ps.map V.ref))→Cells H' ps (overs (x,y,z) l)→Q (.ref D) H'
theorem ok_over_and_under (T:Txt K mg t):GoodF P w K mg base 1 "over_and_under" ["cell","layers"] spOver:=by
 obtain ⟨fd,F,b⟩:=T.F_over_and_under
 refine ⟨_,fd,F.okX sc_over_and_under (fun vs H Q E h => ?_) (fun cdv A outer s H vs Q E hr h => ?_),b,F.kp,T.g_over_and_under⟩
 ·obtain ⟨p,x,y,z,l,rfl,_⟩:=h
  rfl
 ·obtain ⟨p,x,y,z,l,rfl,hp,hl,q⟩:=h
  refine ⟨_,(pss_one (ps_ret (pe_comp (own:=["z"]) (cs_one (n:="cell") (N:=["cell","layers"]) rfl (by rfl) (by rfl) rfl (by rfl) (by decide +kernel) (by decide +kernel) (by decide +kernel)) (pi_range1 rfl T.n_range (pa_cons (pv 1) pa_nil)) (fun _ _ _ _ _ => pg_name (i:=2) (by show (["cell","layers","z"]:List Str).Nodup; decide +kernel) rfl (Or.inl rfl)) (fun _ _ _ _ _ => pf_one (pt_cmpR op_ne (pv 2) (pe_ix (ix_tupK (K:=K) rfl) (pv 0) pe_int (fun _ _ => rfl)) (nomark _))) (fun _ _ _ _ _ => (pe_tup (pa_cons (pe_ix (ix_tupK (K:=K) rfl) (pv 0) pe_int (fun _ _ => rfl)) (pa_cons (pe_ix (ix_tupK (K:=K) rfl) (pv 0) pe_int (fun _ _ => rfl)) (pa_cons (pv 2) pa_nil)))))))),?_⟩
  refine ⟨_,rfl,(l:Int),rfl,by omega,by omega,comp_rangeN (lo:=0) (fun D i ys H' => H D = none∧Same H H'∧H' D = some (.lst ys)∧ys.length≤i∧∃ ps:List Addr,ys = ps.map V.ref∧Cells H' ps (overs (x,y,z) i)) (by rw [Int.toNat_natCast]; exact Nat.le_trans hl (by decide)) (fun D hD => ⟨hD,same_new (Same.refl H) hD,upd_same,Nat.le_refl _,[],rfl,⟨rfl,fun i p c h => by cases h⟩⟩) (fun D i ys H' hv => ⟨hv.2.2.1,hv.2.2.2.1⟩) ?_ ?_⟩
  ·rintro D i ys H' Qy Qn hi ⟨d1,d2,d3,d4,ps,rfl,C⟩ hy hn
   have e0:(0:Int) + (i:Int) = (i:Int):=by omega
   rw [e0]
   have hp':=d2 _ _ hp
   refine ⟨⟨_,rfl,rfl⟩,_,rfl,_,rfl,p,_,2,.int z,rfl,rfl,SqT.of hp',rfl,rfl,_,rfl,iteNB (fun hf => ?_) fun ht => hn _ ⟨d1,d2,d3,by omega,ps,rfl,?_⟩⟩
   ·have hne:(i:Int)≠z:=fun e => of_decide_eq_false hf (congrArg V.int e)
    refine ⟨_,rfl,p,_,0,.int x,rfl,rfl,SqT.of hp',rfl,_,rfl,p,_,1,.int y,rfl,rfl,SqT.of hp',rfl,_,rfl,(by show 3≤sizeLine; decide),fun p1 hp1 => ?_⟩
    refine hy _ _ (by rw [upd_ne (ne_of_none d3 hp1)]; exact d3) ⟨d1,fun b u e => ?_,upd_same,by rw [List.length_append]; exact Nat.succ_le_succ d4,ps ++ [p1],by rw [List.map_append]; rfl,?_⟩
    ·have:=d2 b u e
     rw [upd_ne (ne_of_none e d1),upd_ne (ne_of_none this hp1)]; exact this
    ·rw [overs_snoc,if_pos hne]
     exact C.add hp1 d3
   ·have he:(i:Int) = z:=by have:=of_decide_eq_true ht; injection this
    rw [overs_snoc,if_neg (by simp [he]),List.append_nil]; exact C
  ·rintro D ys H' hD ⟨d1,d2,d3,d4,ps,rfl,C⟩
   rw [Int.toNat_natCast] at C
   exact q D ps H' d2 d1 d3 C
def nearK (cs ds:Tab) (w h:Int) (l:Nat) (c:Int × Int × Int):List (Int × Int × Int):=(spots c (inB c.1 w && inB c.2.1 h && (valV ds [.inl c.1,.inl c.2.1]).isSome) l).filter (cuB cs w h l)
def spNeigh (C:Addr):Sp:=fun vs H Q _ => ∃ (o dx c d p:Addr) (w h x y z:Int) (l:Nat) (cs ds:Tab),vs = [.ref o,.ref p]∧H o = some (.ins C dx (fB w h l c d))∧H c = some (.dT cs)∧H d = some (.dT ds)∧l≤3∧H p = some (.tup [.int x,.int y,.int z]) ∧
 ∀ r bs ks H',Same H H'→H r = none→H' r = some (.lst (bs.map V.ref))→KeyAt H' bs ks→ks.Perm ((nearK cs ds w h l (x,y,z)).map k3)→(ks.Pairwise fun a b => lx b a = false)→Q (.ref r) H'
theorem ok_neighbours (T:Txt K mg t):GoodF P w K mg base 5 "neighbours" ["board","cell"] (spNeigh t.c_Board):=by
 obtain ⟨fd,F,b⟩:=T.F_neighbours
 have G_beside:=ok_beside (P:=P) (w:=w) (base:=base) T
 have G_over_and_under:=ok_over_and_under (P:=P) (w:=w) (base:=base) T
 have G_Board_has_hole:=ok_Board_has_hole (P:=P) (w:=w) (base:=base) T
 have G_Board_is_copper:=ok_Board_is_copper (P:=P) (w:=w) (base:=base) T
 refine ⟨_,fd,F.okX sc_neighbours (fun vs H Q E h => ?_) (fun cdv A outer s H vs Q E hr h => ?_),b,F.kp,T.g_neighbours⟩
 ·obtain ⟨o,dx,c,d,p,w,h,x,y,z,l,cs,ds,rfl,_⟩:=h
  rfl
 ·obtain ⟨o,dx,c,d,p,w,h,x,y,z,l,cs,ds,rfl,ho,hc,hd,hl,hp,q⟩:=h
  refine ⟨_,(pss_cons (ps_set (i:=2) sc_neighbours.nd rfl (Or.inl rfl) (pe_callG G_beside (hr.mono (by decide)) passes_of (by rfl) (pa_cons (pv 1) pa_nil)))
   (pss_cons (ps_if (pt_val (pe_methG (pv 0) G_Board_has_hole (hr.mono (by decide)) passes_of (pa_cons (pe_ix ix_tup (pv 1) pe_int (fun _ _ => rfl)) (pa_cons (pe_ix ix_tup (pv 1) pe_int (fun _ _ => rfl)) pa_nil)))) (pss_one (ps_expr (pe_bm PySem.F.plainAttrs_list PySem.F.slot_list_extend PySem.F.type_list_extend mt_extend (pv 2) (pa_cons (pe_callG G_over_and_under (hr.mono (by decide)) passes_of (by rfl) (pa_cons (pv 1) (pa_cons (pe_fld (pv 0) rfl) pa_nil))) pa_nil)))) pss_nil)
   (pss_one (ps_ret (pe_callB call_sortedL (by rfl) T.n_sorted b_sorted (pa_cons (pe_comp (own:=["spot"]) (cs_one (n:="board") (N:=["board","cell","spots"]) rfl (by rfl) (by rfl) rfl (by rfl) (by decide +kernel) (by decide +kernel) (by decide +kernel)) (pi_list (pv 2)) (fun _ _ _ _ _ => pg_name (i:=3) (by show (["board","cell","spots","spot"]:List Str).Nodup; decide +kernel) rfl (Or.inl rfl)) (fun _ _ _ _ _ => pf_one (pt_val (pe_methG (pv 0) G_Board_is_copper (hr.mono (by decide)) passX0 (pa_cons (pe_ix (ix_tupK (K:=K) rfl) (pv 3) pe_int (fun _ _ => rfl)) (pa_cons (pe_ix (ix_tupK (K:=K) rfl) (pv 3) pe_int (fun _ _ => rfl)) (pa_cons (pe_ix (ix_tupK (K:=K) rfl) (pv 3) pe_int (fun _ _ => rfl)) pa_nil)))))) (fun _ _ _ _ _ => (pv 3))) pa_nil)))))),?_⟩
  refine ⟨_,rfl,p,x,y,z,rfl,hp,fun D ps H1 s1 hD0 eD C1 => ?_⟩
  refine gName_go ?_
  dsimp only
  refine seq_gen (fun σ H' => ∃ ps:List Addr,σ = [some (.ref o),some (.ref p),some (.ref D)]∧Same H H'∧H' D = some (.lst (ps.map V.ref))∧Cells H' ps (spots (x,y,z) (inB x w && inB y h && (valV ds [.inl x,.inl y]).isSome) l)) (fun B hB => ?_) ?_
  ·have S1:SqT K H1 p [.int x,.int y,.int z]:=SqT.of (s1 _ _ hp)
   refine ⟨_,rfl,o,dx,_,rfl,s1 _ _ ho,rfl,_,rfl,p,_,0,.int x,rfl,rfl,S1,rfl,_,rfl,p,_,1,.int y,rfl,rfl,S1,rfl,o,dx,c,d,w,h,l,x,y,ds,rfl,s1 _ _ ho,s1 _ _ hd,fun H2 s2 => ⟨_,rfl,?_⟩⟩
   have s12:=Same.trans s1 s2
   cases hh:(inB x w && inB y h && (valV ds [.inl x,.inl y]).isSome) with
   | false =>
    refine iteF (hB _ _ ⟨ps,rfl,s12,s2 _ _ eD,?_⟩)
    rw [hh]
    show Cells H2 ps (four (x,y,z) ++ [])
    rw [List.append_nil]; exact C1.same s2
   | true =>
    refine iteT ⟨_,rfl,.inl ⟨rfl,_,SqL.of (s2 _ _ eD)⟩,_,rfl,_,rfl,o,_,dx,_,.int (l:Int),rfl,s12 _ _ ho,T.cl_Board,T.na_Board_layers,rfl,p,x,y,z,l,rfl,s12 _ _ hp,by omega,fun D2 qs H3 s3 hD2 eD2 C2 => ?_⟩
    have eD3:=s3 _ _ (s2 _ _ eD)
    have nD:D≠D2:=fun e => by rw [← e,s2 _ _ eD] at hD2; cases hD2
    have len:=spots_len (x,y,z) true l
    refine ⟨D,D2,_,_,rfl,rfl,eD3,eD2,?_,hB _ _ ⟨ps ++ qs,rfl,fun b u e => ?_,by rw [upd_same,List.map_append],?_⟩⟩
    ·rw [List.length_map,List.length_map,C1.1,C2.1]
     unfold spots at len
     rw [List.length_append,if_pos rfl] at len
     exact Nat.le_trans len (Nat.le_trans (show 4 + l≤7 by omega) (by decide))
    ·rw [upd_ne (ne_of_none e hD0)]; exact s3 _ _ (s12 _ _ e)
    ·rw [hh]
     show Cells _ (ps ++ qs) (four (x,y,z) ++ overs (x,y,z) l)
     exact (((C1.same s2).same s3).app C2).wr eD3
  ·rintro σ H2 ⟨qs,rfl,s2,e2,C2⟩
   have hlen:=spots_len (x,y,z) (inB x w && inB y h && (valV ds [.inl x,.inl y]).isSome) l
   have hne:nearK cs ds w h l (x,y,z) = (spots (x,y,z) (inB x w && inB y h && (valV ds [.inl x,.inl y]).isSome) l).filter (cuB cs w h l):=rfl
   rw [hne] at q
   clear hne
   generalize spots (x,y,z) (inB x w && inB y h && (valV ds [.inl x,.inl y]).isSome) l = SP at C2 hlen q
   refine ⟨_,rfl,D,rfl,⟨_,SqL.of e2⟩,comp_list (xs:=qs.map V.ref) (fun D2 i ys H' => H2 D2 = none∧Same H2 H'∧H' D2 = some (.lst ys)∧ys.length≤i∧∃ rs:List Addr,ys = rs.map V.ref∧Cells H' rs ((SP.take i).filter (cuB cs w h l))) (by rw [List.length_map,C2.1]; exact Nat.le_trans hlen (Nat.le_trans (show 4 + l≤7 by omega) (by decide))) (fun D2 hD2 => ⟨hD2,same_new (Same.refl _) hD2,upd_same,Nat.le_refl _,[],rfl,⟨rfl,fun i p c h => by cases h⟩⟩) (fun D2 i ys H' hv => ⟨hv.2.2.1,hv.2.2.2.1,SqL.of (hv.2.1 _ _ e2)⟩) ?_ ?_⟩
   ·rintro D2 i v ys H' Qy Qn hx ⟨d1,d2,d3,d4,rs,rfl,C⟩ hy hn
    rw [List.getElem?_map] at hx
    obtain ⟨r,hx1,rfl⟩:=Option.map_eq_some_iff.mp hx
    have hi:i < SP.length:=by rw [← C2.1]; exact (List.getElem?_eq_some_iff.mp hx1).1
    have hs:=List.getElem?_eq_getElem hi
    have er:=d2 _ _ (C2.2 i r _ hx1 hs)
    have tk:∀ b:Bool,cuB cs w h l SP[i] = b→(SP.take (i + 1)).filter (cuB cs w h l) = (SP.take i).filter (cuB cs w h l) ++ (if b = true then [SP[i]] else []):=fun b hb => by
     rw [List.take_add_one,hs,List.filter_append]
     congr 1
     cases b <;> simp [hb]
    generalize SP[i] = cc at er tk
    have ho':=d2 _ _ (s2 _ _ ho)
    have R:SqT K H' r [.int cc.1,.int cc.2.1,.int cc.2.2]:=SqT.of er
    refine ⟨⟨_,rfl,rfl⟩,_,rfl,o,dx,_,rfl,ho',rfl,_,rfl,r,_,0,.int cc.1,rfl,rfl,R,rfl,_,rfl,r,_,1,.int cc.2.1,rfl,rfl,R,rfl,_,rfl,r,_,2,.int cc.2.2,rfl,rfl,R,rfl,o,dx,c,d,w,h,l,cc.1,cc.2.1,cc.2.2,cs,rfl,ho',d2 _ _ (s2 _ _ hc),fun H3 s3 => ⟨_,rfl,?_⟩⟩
    have hcu:(inB cc.1 w && inB cc.2.1 h && inB cc.2.2 l && (valV cs [.inl cc.1,.inl cc.2.1,.inl cc.2.2]).isSome) = cuB cs w h l cc:=rfl
    rw [hcu]
    have d3':=s3 _ _ d3
    cases hb:cuB cs w h l cc with
    | true =>
     refine iteT ⟨_,rfl,hy _ _ d3' ⟨d1,fun b u e => ?_,upd_same,by rw [List.length_append]; exact Nat.succ_le_succ d4,rs ++ [r],by rw [List.map_append]; rfl,?_⟩⟩
     ·rw [upd_ne (ne_of_none e d1)]; exact s3 _ _ (d2 _ _ e)
     ·rw [tk true hb,if_pos rfl]
      exact ((C.same s3).snoc (s3 _ _ er)).wr d3'
    | false =>
     refine iteF (hn _ ⟨d1,Same.trans d2 s3,d3',by omega,rs,rfl,?_⟩)
     rw [tk false hb,if_neg (by decide),List.append_nil]
     exact C.same s3
   ·rintro D2 ys H3 hD2 ⟨d1,d2,d3,d4,rs,rfl,C⟩
    rw [List.length_map,C2.1,List.take_length] at C
    refine ⟨D2,rs,_,[true,true,true],rfl,d3,C.key,fun k hk => ?_,by decide,fun r bs ks hr ka pm up => ?_⟩
    ·obtain ⟨cc,_,rfl⟩:=List.mem_map.mp hk
     rfl
    ·have s3:=Same.trans s2 d2
     have hr0:H r = none:=by
      cases e:H r with
      | none => rfl
      | some u => rw [s3 _ _ e] at hr; cases hr
     exact q r bs ks _ (same_new s3 hr) hr0 upd_same ⟨ka.1,fun i b k h1 h2 => by
      have:=ka.2 i b k h1 h2
      rw [upd_ne (ne_of_none this hr)]; exact this⟩ pm up
end
end K23
namespace K23
open PySem L2 Wd TS
section
variable {P:Program} {w:World} {K:PySem.W.Frag} {mg:Str→Option Value} {base:Heap} {t:Adr}
def spNear (C NC:Addr):Sp:=fun vs H Q E => ∃ (o dx c d p:Addr) (w h x y z:Int) (l:Nat) (cs ds:Tab),vs = [.ref o,.ref p]∧H o = some (.ins C dx (fB w h l c d))∧H c = some (.dT cs)∧H d = some (.dT ds)∧l≤3∧H p = some (.tup [.int x,.int y,.int z]) ∧
 (cuB cs w h l (x,y,z) = true→∀ r bs ks H',Same H H'→H r = none→H' r = some (.lst (bs.map V.ref))→KeyAt H' bs ks→ks.Perm ((nearK cs ds w h l (x,y,z)).map k3)→(ks.Pairwise fun a b => lx b a = false)→Q (.ref r) H')∧(cuB cs w h l (x,y,z) = false→∀ H',Same H H'→E (.ref NC) none H')
theorem ok_near (T:Txt K mg t):GoodF P w K mg base 6 "near" ["board","cell"] (spNear t.c_Board t.c_NoCopper):=by
 obtain ⟨fd,F,b⟩:=T.F_near
 have G_need_copper:=ok_need_copper (P:=P) (w:=w) (base:=base) T
 have G_neighbours:=ok_neighbours (P:=P) (w:=w) (base:=base) T
 refine ⟨_,fd,F.okX sc_near (fun vs H Q E h => ?_) (fun cdv A outer s H vs Q E hr h => ?_),b,F.kp,T.g_near⟩
 ·obtain ⟨o,dx,c,d,p,w,h,x,y,z,l,cs,ds,rfl,_⟩:=h
  rfl
 ·obtain ⟨o,dx,c,d,p,w,h,x,y,z,l,cs,ds,rfl,ho,hc,hd,hl,hp,q,e⟩:=h
  refine ⟨_,(pss_cons (ps_expr (pe_callG G_need_copper (hr.mono (by decide)) passes_of (by rfl) (pa_cons (pv 0) (pa_cons (pv 1) pa_nil))))
   (pss_one (ps_ret (pe_callG G_neighbours (hr.mono (by decide)) passes_of (by rfl) (pa_cons (pv 0) (pa_cons (pv 1) pa_nil)))))),?_⟩
  refine ⟨_,rfl,_,rfl,o,dx,c,d,p,w,h,l,x,y,z,cs,rfl,ho,hc,hp,fun g H1 s1 => ?_,e⟩
  refine ⟨_,rfl,_,rfl,o,dx,c,d,p,w,h,x,y,z,l,cs,ds,rfl,s1 _ _ ho,s1 _ _ hc,s1 _ _ hd,hl,s1 _ _ hp,fun r bs ks H' s' hr er ka pm up => q g r bs ks H' (Same.trans s1 s') ?_ er ka pm up⟩
  cases e:H r with
  | none => rfl
  | some u => rw [s1 _ _ e] at hr; cases hr
end
end K23
namespace K23
open PySem L2 Wd TS
def mx1 (c k:Int):Int:=(c % 2147483647 + 7919 * k + 1) * 48271 % 2147483647
def mx2 (n:Int):Int:=n * (n / 1009 + 69621) % 2147483647
def mx3 (n k:Int):Int:=(n + 104729 * k) % 2147483647 * (n / 2003 + 16807) % 2147483647
def mixF (c k:Int):Int:=mx3 (mx2 (mx1 c k)) k
section
variable {P:Program} {w:World} {K:PySem.W.Frag} {mg:Str→Option Value} {base:Heap} {t:Adr}
def spMixed:Sp:=fun vs H Q _ => ∃ c k:Int,vs = [.int c,.int k]∧Q (.int (mixF c k)) H
theorem ok_law_mixed (T:Txt K mg t):GoodF P w K mg base 1 "_law_mixed" ["_law_cell","_law_k"] spMixed:=by
 obtain ⟨fd,F,b⟩:=T.F_law_mixed
 refine ⟨_,fd,F.okX sc_law_mixed (fun vs H Q E h => ?_) (fun cdv A outer s H vs Q E hr h => ?_),b,F.kp,T.g__law_mixed⟩
 ·obtain ⟨c,k,rfl,_⟩:=h
  rfl
 ·obtain ⟨c,k,rfl,q⟩:=h
  refine ⟨_,(pss_cons (ps_set (i:=2) sc_law_mixed.nd rfl (Or.inl rfl) (pe_op op_mod (pe_op op_mul (pe_op op_add (pe_op op_add (pe_op op_mod (pv 0) pe_int) (pe_op op_mul pe_int (pv 1))) pe_int) pe_int) pe_int))
   (pss_cons (ps_set (i:=2) sc_law_mixed.nd rfl (Or.inl rfl) (pe_op op_mod (pe_op op_mul (pv 2) (pe_op op_add (pe_op op_fdiv (pv 2) pe_int) pe_int)) pe_int))
   (pss_one (ps_ret (pe_op op_mod (pe_op op_mul (pe_op op_mod (pe_op op_add (pv 2) (pe_op op_mul pe_int (pv 1))) pe_int) (pe_op op_add (pe_op op_fdiv (pv 2) pe_int) pe_int)) pe_int))))),?_⟩
  have pos:(0:Int) < 2147483647:=by decide
  have bd:∀ a:Int,-(2 ^ 64) < a % 2147483647∧a % 2147483647 < 2 ^ 64:=fun a => by omega
  unfold mixF at q
  refine ⟨_,rfl,c,2147483647,rfl,rfl,pos,_,rfl,7919,k,rfl,rfl,.inl ⟨by decide,by decide⟩,_,_,rfl,rfl,_,1,rfl,rfl,_,48271,rfl,rfl,.inr ⟨by decide,by decide⟩,_,2147483647,rfl,rfl,pos,?_⟩
  refine gName_go ?_
  dsimp only
  have b1:-(2 ^ 64) < mx1 c k∧mx1 c k < 2 ^ 64:=bd _
  show tSeq _ _ _ ([some (.int c),some (.int k),some (.int (mx1 c k))]) H
  generalize mx1 c k = n1 at q b1 ⊢
  refine ⟨_,rfl,_,rfl,_,1009,rfl,rfl,⟨by decide,by decide⟩,_,69621,rfl,rfl,_,_,rfl,rfl,.inl b1,_,2147483647,rfl,rfl,pos,?_⟩
  refine gName_go ?_
  dsimp only
  show tRet _ _ ([some (.int c),some (.int k),some (.int (mx2 n1))]) H
  generalize mx2 n1 = n2 at q ⊢
  exact ⟨_,rfl,_,rfl,104729,k,rfl,rfl,.inl ⟨by decide,by decide⟩,_,_,rfl,rfl,_,2147483647,rfl,rfl,pos,_,rfl,_,2003,rfl,rfl,⟨by decide,by decide⟩,_,16807,rfl,rfl,_,_,rfl,rfl,.inl (bd _),_,2147483647,rfl,rfl,pos,q⟩
end
end K23
namespace K23
open PySem L2 Wd TS
def drF (c k:Int):Int:=Builtin.bitOr (mixF c k / 5) (mixF c (k + 50) / 7 * (c % 2))
def rowsF (c:Int) (w:Nat) (b:Bool):Nat→Int × List Int
 | 0 => (c,[])
 | k + 1 => if b = true∨((rowsF c w b k).1 = 0∧c≠0) then ((rowsF c w b k).1,(rowsF c w b k).2 ++ [drF c k % (1 * 2 ^ w)]) else ((rowsF c w b k).1 / 2 ^ w,(rowsF c w b k).2 ++ [(rowsF c w b k).1 % (1 * 2 ^ w)])
theorem rowsF_len (c:Int) (w:Nat) (b:Bool):∀ k,(rowsF c w b k).2.length = k
 | 0 => rfl
 | k + 1 => by
  unfold rowsF
  split
  ·rw [List.length_append,rowsF_len c w b k]; rfl
  ·rw [List.length_append,rowsF_len c w b k]; rfl
section
variable {P:Program} {w:World} {K:PySem.W.Frag} {mg:Str→Option Value} {base:Heap} {t:Adr}
def spRows:Sp:=fun vs H Q _ => ∃ (c:Int) (n w:Nat) (b:Bool),vs = [.int c,.int n,.int w,.bl b]∧n≤40∧w≤12∧∀ (p:Addr) (H':Hp),Same H H'→H p = none→H' p = some (.lst ((rowsF c w b n).2.map V.int))→Q (.ref p) H'
theorem ok_law_rows (T:Txt K mg t):GoodF P w K mg base 2 "_law_rows" ["_law_cell","_law_many","_law_wide","_law_mixed_here"] spRows:=by
 obtain ⟨fd,F,b⟩:=T.F_law_rows
 have G_law_mixed:=ok_law_mixed (P:=P) (w:=w) (base:=base) T
 refine ⟨_,fd,F.okX sc_law_rows (fun vs H Q E h => ?_) (fun cdv A outer s H vs Q E hr h => ?_),b,F.kp,T.g__law_rows⟩
 ·obtain ⟨c,n,w,b,rfl,_⟩:=h
  rfl
 ·obtain ⟨c,n,w,b,rfl,hn,hw,q⟩:=h
  refine ⟨_,(pss_cons (ps_set (i:=4) sc_law_rows.nd rfl (Or.inl rfl) (pe_lst pa_nil))
   (pss_cons (ps_set (i:=5) sc_law_rows.nd rfl (Or.inl rfl) (pv 0))
   (pss_cons (ps_for owns_of (pi_range1 rfl T.n_range (pa_cons (pv 1) pa_nil)) (pg_name (i:=6) sc_law_rows.nd rfl (Or.inl rfl)) (pss_cons (ps_set (i:=7) sc_law_rows.nd rfl (Or.inl rfl) (pv 5))
   (pss_cons (ps_if (pw_or (pt_val (pv 3)) (pw_or1 (pw_and (pt_cmpR op_eq (pv 5) pe_int (nomark _)) (pw_and1 (pt_cmpR op_ne (pv 0) pe_int (nomark _)))).pt)).pt (pss_one (ps_set (i:=7) sc_law_rows.nd rfl (Or.inl rfl) (pe_op op_or (pe_op op_fdiv (pe_callG G_law_mixed (hr.mono (by decide)) passes_of (by rfl) (pa_cons (pv 0) (pa_cons (pv 6) pa_nil))) pe_int) (pe_op op_mul (pe_op op_fdiv (pe_callG G_law_mixed (hr.mono (by decide)) passes_of (by rfl) (pa_cons (pv 0) (pa_cons (pe_op op_add (pv 6) pe_int) pa_nil))) pe_int) (pe_op op_mod (pv 0) pe_int))))) (pss_one (ps_set (i:=5) sc_law_rows.nd rfl (Or.inl rfl) (pe_op op_shr (pv 5) (pv 2)))))
   (pss_one (ps_expr (pe_bm PySem.F.plainAttrs_list PySem.F.slot_list_append PySem.F.type_list_append mt_append (pv 4) (pa_cons (pe_op op_mod (pv 7) (pe_op op_shl pe_int (pv 2))) pa_nil)))))))
   (pss_one (ps_ret (pv 4)))))),?_⟩
  refine ⟨(by show 0≤sizeLine; omega),fun p hp => ?_⟩
  refine ⟨_,rfl,?_⟩
  have s1:Same H (upd H p (.lst [])):=same_new (Same.refl H) hp
  refine ⟨_,rfl,(n:Int),rfl,by omega,by omega,for_range (fun k σ H' => ∃ v6 v7,σ = [some (.int c),some (.int n),some (.int w),some (.bl b),some (.ref p),some (.int (rowsF c w b k).1),v6,v7]∧Same H H'∧H' p = some (.lst ((rowsF c w b k).2.map V.int))) ⟨_,_,rfl,s1,upd_same⟩ ?_ ?_⟩
  ·rintro k σ H2 hk ⟨v6,v7,rfl,s2,e2⟩
   rw [Int.toNat_natCast] at hk
   have e0:(0:Int) + (k:Int) = (k:Int):=by omega
   rw [e0]
   have ll:=rowsF_len c w b k
   refine ⟨_,rfl,?_⟩
   refine gName_go ?_
   dsimp only
   refine seq_gen (fun σ H' => ∃ rest' draw,σ = [some (.int c),some (.int n),some (.int w),some (.bl b),some (.ref p),some (.int rest'),some (.int (k:Int)),some (.int draw)]∧H' = H2∧rowsF c w b (k + 1) = (rest',(rowsF c w b k).2 ++ [draw % (1 * 2 ^ w)])) (fun B nx => ?_) ?_
   ·have two:(0:Int) < 2:=by decide
    cases b with
    | true =>
     refine ⟨_,rfl,true,rfl,iteT ?_⟩
     exact ⟨_,rfl,_,rfl,c,_,rfl,⟨_,5,rfl,rfl,⟨by decide,by decide⟩,_,rfl,_,rfl,_,50,rfl,rfl,c,_,rfl,⟨_,7,rfl,rfl,⟨by decide,by decide⟩,_,rfl,c,2,rfl,rfl,two,_,_,rfl,rfl,.inr ⟨by omega,by omega⟩,_,_,rfl,rfl,nx _ _ ⟨_,drF c k,rfl,rfl,by show (if _ then _ else _) = _; rw [if_pos (.inl rfl)]⟩⟩⟩⟩
    | false =>
     refine ⟨_,rfl,false,rfl,iteF ⟨_,rfl,rfl,_,rfl,iteD (fun g1 => ⟨_,rfl,rfl,_,rfl,iteNB (fun g2 => ?_) fun g2 => ?_⟩) fun g1 => ?_⟩⟩
     ·have h1:(rowsF c w false k).1 = 0:=V.int.inj g1
      have h2:c≠0:=fun z => of_decide_eq_false g2 (congrArg V.int z)
      exact ⟨_,rfl,_,rfl,c,_,rfl,⟨_,5,rfl,rfl,⟨by decide,by decide⟩,_,rfl,_,rfl,_,50,rfl,rfl,c,_,rfl,⟨_,7,rfl,rfl,⟨by decide,by decide⟩,_,rfl,c,2,rfl,rfl,two,_,_,rfl,rfl,.inr ⟨by omega,by omega⟩,_,_,rfl,rfl,nx _ _ ⟨_,drF c k,rfl,rfl,by show (if _ then _ else _) = _; rw [if_pos (.inr ⟨h1,h2⟩)]⟩⟩⟩⟩
     ·have h2:c = 0:=V.int.inj (of_decide_eq_true g2)
      exact ⟨_,rfl,_,rfl,_,(w:Int),rfl,rfl,(by show (0:Int)≤w; omega),nx _ _ ⟨_,_,rfl,rfl,by show (if _ then _ else _) = _; rw [if_neg (fun z => z.elim (fun e => Bool.noConfusion e) fun e => e.2 h2)]; rfl⟩⟩
     ·have h1:(rowsF c w false k).1≠0:=fun z => g1 (congrArg V.int z)
      exact ⟨_,rfl,_,rfl,_,(w:Int),rfl,rfl,(by show (0:Int)≤w; omega),nx _ _ ⟨_,_,rfl,rfl,by show (if _ then _ else _) = _; rw [if_neg (fun z => z.elim (fun e => Bool.noConfusion e) fun e => h1 e.1)]; rfl⟩⟩
   ·rintro σ H3 ⟨rest',draw,rfl,rfl,er⟩
    have pw:(0:Int) < 1 * 2 ^ ((w:Int)).toNat:=by rw [Int.toNat_natCast,Int.one_mul]; exact Int.pow_pos (by decide)
    refine ⟨_,rfl,.inl ⟨rfl,_,SqL.of e2⟩,_,rfl,_,rfl,1,(w:Int),rfl,rfl,⟨by omega,by omega,by decide⟩,draw,_,rfl,rfl,pw,p,_,_,rfl,rfl,e2,?_,_,_,by rw [er],?_,?_⟩
    ·rw [List.length_map]; exact Nat.lt_of_le_of_lt (show (rowsF c w b k).2.length≤100 by omega) (by decide)
    ·exact fun b u e => by rw [upd_ne (ne_of_none e hp)]; exact s2 _ _ e
    ·rw [upd_same,er,List.map_append]; rfl
  ·rintro σ H2 ⟨v6,v7,rfl,s2,e2⟩
   rw [Int.toNat_natCast] at e2
   exact ⟨_,rfl,q p H2 s2 hp e2⟩
end
end K23
namespace K23
open PySem L2 Wd TS
def bt (r:Int) (x:Nat):Bool:=decide (Builtin.bitAnd (r / 2 ^ x) 1 = 1)
structure TabC (cs:Tab) (w h l:Nat):Prop where
 val:∀ kv∈cs,kv.2 = .bl true
 key:∀ kv∈cs,∃ x y z:Nat,x < w∧y < h∧z < l∧kv.1 = [.inl (x:Int),.inl (y:Int),.inl (z:Int)]
 nd:(cs.map (·.1)).Nodup
structure TabH (ds:Tab) (w h:Nat):Prop where
 val:∀ kv∈ds,kv.2 = .bl true
 key:∀ kv∈ds,∃ x y:Nat,x < w∧y < h∧kv.1 = [.inl (x:Int),.inl (y:Int)]
 nd:(ds.map (·.1)).Nodup
theorem put_mem {cs:Tab} {k:List Key} {kv:List Key × V} (h:kv∈putK cs k (.bl true)):kv∈cs∨kv = (k,.bl true):=by
 cases e:valV cs k with
 | none =>
  rw [putK_new _ e] at h
  rcases List.mem_append.mp h with h | h
  ·exact .inl h
  ·exact .inr (List.mem_singleton.mp h)
 | some v =>
  unfold putK at h
  rw [if_pos (by rw [valV_any,e]; rfl)] at h
  obtain ⟨x,hx,rfl⟩:=List.mem_map.mp h
  split
  ·rename_i e2; exact .inr (by rw [e2])
  ·exact .inl hx
theorem put_nd {cs:Tab} {k:List Key} (n:(cs.map (·.1)).Nodup):((putK cs k (.bl true)).map (·.1)).Nodup:=by
 cases e:valV cs k with
 | none =>
  rw [putK_new _ e,List.map_append]
  refine List.nodup_append.mpr ⟨n,by simp,fun a ha b hb z => ?_⟩
  rw [List.map_cons,List.map_nil,List.mem_singleton] at hb
  have:(valV cs k).isSome = true:=by
   rw [← valV_any]
   obtain ⟨x,hx,e2⟩:=List.mem_map.mp ha
   exact List.any_eq_true.mpr ⟨x,hx,decide_eq_true (by rw [e2,z,hb])⟩
  rw [e] at this; cases this
 | some v =>
  have:(putK cs k (.bl true)).map (·.1) = cs.map (·.1):=by
   unfold putK
   rw [if_pos (by rw [valV_any,e]; rfl),List.map_map]
   refine List.map_congr_left fun x _ => ?_
   show (if x.1 = k then (x.1,V.bl true) else x).1 = x.1
   split <;> rfl
  rw [this]; exact n
theorem TabC.put {cs:Tab} {w h l x y z:Nat} (T:TabC cs w h l) (hx:x < w) (hy:y < h) (hz:z < l):TabC (putK cs [.inl (x:Int),.inl (y:Int),.inl (z:Int)] (.bl true)) w h l:=by
 refine ⟨fun kv hkv => ?_,fun kv hkv => ?_,put_nd T.nd⟩
 ·rcases put_mem hkv with h | rfl
  ·exact T.val kv h
  ·rfl
 ·rcases put_mem hkv with h | rfl
  ·exact T.key kv h
  ·exact ⟨x,y,z,hx,hy,hz,rfl⟩
theorem TabH.put {ds:Tab} {w h x y:Nat} (T:TabH ds w h) (hx:x < w) (hy:y < h):TabH (putK ds [.inl (x:Int),.inl (y:Int)] (.bl true)) w h:=by
 refine ⟨fun kv hkv => ?_,fun kv hkv => ?_,put_nd T.nd⟩
 ·rcases put_mem hkv with h | rfl
  ·exact T.val kv h
  ·rfl
 ·rcases put_mem hkv with h | rfl
  ·exact T.key kv h
  ·exact ⟨x,y,hx,hy,rfl⟩
theorem TabC.drop {cs:Tab} {w h l:Nat} (T:TabC cs w h l) (k:List Key):TabC (dropK cs k) w h l :=
 ⟨fun kv hkv => T.val kv (List.mem_filter.mp hkv).1,fun kv hkv => T.key kv (List.mem_filter.mp hkv).1,(List.filter_sublist.map _).nodup T.nd⟩
theorem TabH.drop {ds:Tab} {w h:Nat} (T:TabH ds w h) (k:List Key):TabH (dropK ds k) w h :=
 ⟨fun kv hkv => T.val kv (List.mem_filter.mp hkv).1,fun kv hkv => T.key kv (List.mem_filter.mp hkv).1,(List.filter_sublist.map _).nodup T.nd⟩
def clOf (w k h:Nat) (r:Int) (n:Nat):List (Int × Int × Int):=((List.range n).filter (bt r)).map fun (x:Nat) => ((x:Int),((k % h:Nat):Int),((k / h:Nat):Int))
theorem clOf_len (w k h:Nat) (r:Int) (n:Nat):(clOf w k h r n).length≤n:=by
 unfold clOf
 rw [List.length_map]
 exact Nat.le_trans (List.length_filter_le _ _) (by simp)
theorem clOf_yes {w k h n:Nat} {r:Int} (e:bt r n = true):clOf w k h r (n + 1) = clOf w k h r n ++ [((n:Int),((k % h:Nat):Int),((k / h:Nat):Int))]:=by
 unfold clOf
 rw [List.range_succ,List.filter_append,List.map_append]
 simp [e]
theorem clOf_no {w k h n:Nat} {r:Int} (e:bt r n = false):clOf w k h r (n + 1) = clOf w k h r n:=by
 unfold clOf
 rw [List.range_succ,List.filter_append,List.map_append]
 simp [e]
theorem tabC_puts {w h l:Nat}:∀ (cl:List (Int × Int × Int)) (cs:Tab),TabC cs w h l→(∀ c∈cl,∃ x y z:Nat,x < w∧y < h∧z < l∧c = ((x:Int),(y:Int),(z:Int)))→TabC (putAll cs cl) w h l
 | [],cs,T,_ => T
 | c :: r,cs,T,hc => by
  obtain ⟨x,y,z,hx,hy,hz,rfl⟩:=hc c (List.mem_cons_self ..)
  exact tabC_puts r _ (T.put hx hy hz) fun c h => hc c (List.mem_cons_of_mem _ h)
theorem clOf_in {w k h l:Nat} {r:Int} (h1:1≤h) (hk:k < h * l):∀ c∈clOf w k h r w,∃ x y z:Nat,x < w∧y < h∧z < l∧c = ((x:Int),(y:Int),(z:Int)):=fun c hc => by
 obtain ⟨x,hx,rfl⟩:=List.mem_map.mp hc
 exact ⟨x,_,_,List.mem_range.mp (List.mem_filter.mp hx).1,Nat.mod_lt _ (by omega),(Nat.div_lt_iff_lt_mul (by omega)).mpr (by rw [Nat.mul_comm]; exact hk),rfl⟩
def putH (ds:Tab) (xs:List Nat) (y:Nat):Tab:=xs.foldl (fun t (x:Nat) => putK t [.inl (x:Int),.inl (y:Int)] (.bl true)) ds
theorem putH_snoc (ds:Tab) (xs:List Nat) (y x:Nat):putH ds (xs ++ [x]) y = putK (putH ds xs y) [.inl (x:Int),.inl (y:Int)] (.bl true):=by
 unfold putH; rw [List.foldl_append]; rfl
theorem putH_len (y:Nat):∀ (xs:List Nat) (ds:Tab),(putH ds xs y).length≤ds.length + xs.length
 | [],ds => Nat.le_refl _
 | x :: r,ds => by
  have h1:=putH_len y r (putK ds [.inl (x:Int),.inl (y:Int)] (.bl true))
  have h2:=length_putK ds [.inl (x:Int),.inl (y:Int)] (.bl true)
  show (putH (putK ds [.inl (x:Int),.inl (y:Int)] (.bl true)) r y).length≤_
  rw [List.length_cons]; omega
theorem tabH_puts {w h y:Nat} (hy:y < h):∀ (xs:List Nat) (ds:Tab),TabH ds w h→(∀ x∈xs,x < w)→TabH (putH ds xs y) w h
 | [],ds,T,_ => T
 | x :: r,ds,T,hc => tabH_puts hy r _ (T.put (hc x (List.mem_cons_self ..)) hy) fun c h => hc c (List.mem_cons_of_mem _ h)
def csF (ns:List Int) (w h:Nat):Nat→Tab
 | 0 => []
 | k + 1 => putAll (csF ns w h k) (clOf w k h (ns.getD k 0) w)
def dsF (ms:List Int) (w:Nat):Nat→Tab
 | 0 => []
 | k + 1 => putH (dsF ms w k) ((List.range w).filter (bt (ms.getD k 0))) k
theorem csF_tab {ns:List Int} {w h l:Nat} (h1:1≤h):∀ n,n≤h * l→TabC (csF ns w h n) w h l∧(csF ns w h n).length≤w * n
 | 0,_ => ⟨⟨(fun kv h => by cases h),(fun kv h => by cases h),List.nodup_nil⟩,Nat.le_refl _⟩
 | n + 1,hn => by
  obtain ⟨a,b⟩:=csF_tab (ns:=ns) (w:=w) (l:=l) h1 n (by omega)
  refine ⟨tabC_puts _ _ a (clOf_in h1 (by omega)),?_⟩
  have h2:=putAll_len (clOf w n h (ns.getD n 0) w) (csF ns w h n)
  have h3:=clOf_len w n h (ns.getD n 0) w
  show (putAll (csF ns w h n) (clOf w n h (ns.getD n 0) w)).length≤w * (n + 1)
  rw [Nat.mul_add,Nat.mul_one]; omega
theorem dsF_tab {ms:List Int} {w h:Nat}:∀ n,n≤h→TabH (dsF ms w n) w h∧(dsF ms w n).length≤w * n
 | 0,_ => ⟨⟨(fun kv h => by cases h),(fun kv h => by cases h),List.nodup_nil⟩,Nat.le_refl _⟩
 | n + 1,hn => by
  obtain ⟨a,b⟩:=dsF_tab (ms:=ms) (w:=w) (h:=h) n (by omega)
  refine ⟨tabH_puts (by omega) _ _ a fun x hx => List.mem_range.mp (List.mem_filter.mp hx).1,?_⟩
  have h2:=putH_len n ((List.range w).filter (bt (ms.getD n 0))) (dsF ms w n)
  have h3:((List.range w).filter (bt (ms.getD n 0))).length≤w:=Nat.le_trans (List.length_filter_le _ _) (by simp)
  show (putH (dsF ms w n) ((List.range w).filter (bt (ms.getD n 0))) n).length≤w * (n + 1)
  rw [Nat.mul_add,Nat.mul_one]; omega
end K23
namespace K23
open PySem L2 Wd TS
theorem mem_overs {c e:Int × Int × Int} {n:Nat}:e∈overs c n↔e.1 = c.1∧e.2.1 = c.2.1∧0≤e.2.2∧e.2.2 < n∧e.2.2≠c.2.2:=by
 unfold overs
 rw [List.mem_map]
 constructor
 ·rintro ⟨k,hk,rfl⟩
  obtain ⟨h1,h2⟩:=List.mem_filter.mp hk
  have h3:=List.mem_range.mp h1
  have h4:=of_decide_eq_true h2
  exact ⟨rfl,rfl,by show (0:Int)≤(k:Int); omega,by show (k:Int) < n; omega,h4⟩
 ·rintro ⟨h1,h2,h3,h4,h5⟩
  obtain ⟨x,y,z⟩:=e
  simp only at h1 h2 h3 h4 h5
  refine ⟨z.toNat,List.mem_filter.mpr ⟨List.mem_range.mpr (by omega),decide_eq_true ?_⟩,?_⟩
  ·rw [Int.toNat_of_nonneg h3]; exact h5
  ·rw [Int.toNat_of_nonneg h3,h1,h2]
theorem mem_four {c e:Int × Int × Int}:e∈four c↔e.2.2 = c.2.2∧((e.2.1 = c.2.1∧(e.1 = c.1 - 1∨e.1 = c.1 + 1))∨(e.1 = c.1∧(e.2.1 = c.2.1 - 1∨e.2.1 = c.2.1 + 1))):=by
 obtain ⟨x,y,z⟩:=e
 obtain ⟨a,b,d⟩:=c
 unfold four
 simp only [List.mem_cons,List.not_mem_nil,or_false,Prod.mk.injEq]
 omega
def arN (ds:Tab) (w h:Int) (a b:Int × Int × Int):Bool :=
 if a = b then false else if a.1 = b.1∧a.2.1 = b.2.1 then inB a.1 w && inB a.2.1 h && (valV ds [.inl a.1,.inl a.2.1]).isSome else decide (a.2.2 = b.2.2) && decide ((if a.1 - b.1 < 0 then -(a.1 - b.1) else a.1 - b.1) + (if a.2.1 - b.2.1 < 0 then -(a.2.1 - b.2.1) else a.2.1 - b.2.1) = 1)
theorem mem_near {cs ds:Tab} {w h:Int} {l:Nat} {c e:Int × Int × Int} (hc:onB w h l c = true) (he:cuB cs w h l e = true):e∈nearK cs ds w h l c↔arN ds w h c e = true:=by
 have he2:onB w h l e = true:=by unfold cuB at he; rw [Bool.and_eq_true] at he; exact he.1
 obtain ⟨x,y,z⟩:=e
 obtain ⟨a,b,d⟩:=c
 have i1:(0≤x∧x < w)∧(0≤y∧y < h)∧(0≤z∧z < l):=by simpa [onB,inB,and_assoc] using he2
 have i2:(0≤a∧a < w)∧(0≤b∧b < h)∧(0≤d∧d < l):=by simpa [onB,inB,and_assoc] using hc
 unfold nearK spots arN
 rw [List.mem_filter,List.mem_append,mem_four]
 simp only [he,and_true,Prod.mk.injEq]
 have hin:(inB a w && inB b h) = true:=by simp [inB,i2.1,i2.2.1]
 rw [hin,Bool.true_and]
 cases hh:(valV ds [Sum.inl a,Sum.inl b]).isSome with
 | true =>
  rw [if_pos rfl,mem_overs]
  simp only
  by_cases e1:a = x∧b = y∧d = z
  ·rw [if_pos e1]; simp; omega
  ·rw [if_neg e1]
   by_cases e2:a = x∧b = y
   ·rw [if_pos e2]; simp; omega
   ·rw [if_neg e2]
    simp only [Bool.and_eq_true,decide_eq_true_iff]
    split <;> split <;> omega
 | false =>
  rw [if_neg (by decide)]
  simp only [List.not_mem_nil,or_false]
  by_cases e1:a = x∧b = y∧d = z
  ·rw [if_pos e1]; simp; omega
  ·rw [if_neg e1]
   by_cases e2:a = x∧b = y
   ·rw [if_pos e2]; simp; omega
   ·rw [if_neg e2]
    simp only [Bool.and_eq_true,decide_eq_true_iff]
    split <;> split <;> omega
theorem sorted_eq:∀ {a b:List (List Key)},a.Perm b→(a.Pairwise fun x y => lx y x = false)→(b.Pairwise fun x y => lx y x = false)→a = b
 | [],b,p,_,_ => (List.nil_perm.mp p).symm
 | x :: a,b,p,ha,hb => by
  cases b with
  | nil => exact absurd (List.perm_nil.mp p) (by simp)
  | cons y b =>
   obtain ⟨h1,ha2⟩:=List.pairwise_cons.mp ha
   obtain ⟨h2,hb2⟩:=List.pairwise_cons.mp hb
   have e:x = y:=by
    rcases List.mem_cons.mp (p.mem_iff.mp (List.mem_cons_self ..)) with e | hx
    ·exact e
    ·rcases List.mem_cons.mp (p.mem_iff.mpr (List.mem_cons_self ..)) with e | hy
     ·exact e.symm
     ·exact lx_tot (h2 x hx) (h1 y hy)
   subst e
   rw [sorted_eq (List.perm_cons x |>.mp p) ha2 hb2]
theorem k3_inj {a b:Int × Int × Int} (h:k3 a = k3 b):a = b:=by
 obtain ⟨x,y,z⟩:=a
 obtain ⟨u,v,r⟩:=b
 unfold k3 at h
 injection h with e1 h
 injection h with e2 h
 injection h with e3 _
 injection e1 with e1
 injection e2 with e2
 injection e3 with e3
 simp only at e1 e2 e3
 rw [e1,e2,e3]
end K23
namespace K23
open PySem L2 Wd TS
def Off (c:Addr) (H H':Hp):Prop:=∀ b u,b≠c→H b = some u→H' b = some u
theorem Off.same {c:Addr} {H H1 H2:Hp} (f:Off c H H1) (s:Same H1 H2):Off c H H2:=fun b u n e => s _ _ (f b u n e)
theorem inB_nat {a w:Nat} (h:a < w):inB (a:Int) (w:Int) = true:=by unfold inB; simp; omega
theorem onB_in {w h l:Nat} {cl:List (Int × Int × Int)} (hc:∀ c∈cl,∃ x y z:Nat,x < w∧y < h∧z < l∧c = ((x:Int),(y:Int),(z:Int))):cl.all (onB (w:Int) (h:Int) (l:Int)) = true:=List.all_eq_true.mpr fun c hx => by
 obtain ⟨x,y,z,h1,h2,h3,rfl⟩:=hc c hx
 show (inB (x:Int) (w:Int) && inB (y:Int) (h:Int) && inB (z:Int) (l:Int)) = true
 rw [inB_nat h1,inB_nat h2,inB_nat h3]; rfl
theorem same_sqL {K:PySem.W.Frag} {H H':Hp} {a:Addr} {xs:List V} (e:Same H H') (h:SqL K H a xs):SqL K H' a xs:=by
 rcases h with (h | h) | h
 ·exact .inl (.inl (e _ _ h))
 ·exact .inl (.inr (by obtain ⟨o,q⟩:=h; exact ⟨o,e _ _ q⟩))
 ·exact .inr h
theorem sqL_off {K:PySem.W.Frag} {H H':Hp} {a c:Addr} {xs:List V} {u:Tab} (h:SqL K H a xs) (hc:H c = some (.dT u)) (f:Off c H H'):SqL K H' a xs:=by
 rcases h with (h | ⟨o,h⟩) | h
 ·exact .inl (.inl (f _ _ (ne_of h hc (by intro z; cases z)) h))
 ·exact .inl (.inr ⟨o,f _ _ (ne_of h hc (by intro z; cases z)) h⟩)
 ·exact .inr h
def bW (sc:List Int):Nat:=(1 + sc.getD 0 0 % 12).toNat
def bH (sc:List Int):Nat:=(1 + sc.getD 0 0 / 12 % 12).toNat
def bL (sc:List Int):Nat:=(1 + sc.getD 0 0 / 144 % 3).toNat
def bM (sc:List Int):Bool:=decide (V.int (sc.getD 0 0 / 432 % 2) = V.int 1)
def bC (sc:List Int):Tab:=csF (rowsF (sc.getD 1 0) (bW sc) (bM sc) (bH sc * bL sc)).2 (bW sc) (bH sc) (bH sc * bL sc)
def bD (sc:List Int):Tab:=dsF (rowsF (sc.getD 2 0) (bW sc) (bM sc) (bH sc)).2 (bW sc) (bH sc)
section
variable {P:Program} {w:World} {K:PySem.W.Frag} {mg:Str→Option Value} {base:Heap} {t:Adr}
def spLawBoard (K:PySem.W.Frag) (C:Addr):Sp:=fun vs H Q _ => ∃ (a:Addr) (sc:List Int),vs = [.ref a]∧SqL K H a (sc.map V.int)∧sc.length≤63 ∧
 ∀ (o dx cc d:Addr) (H':Hp),Same H H'→H o = none→H cc = none→H d = none→cc≠d→H' o = some (.ins C dx (fB (bW sc) (bH sc) (bL sc) cc d))→H' cc = some (.dT (bC sc))→H' d = some (.dT (bD sc))→Q (.ref o) H'
theorem ok_law_board (T:Txt K mg t):GoodF P w K mg base 6 "_law_board" ["_law_script"] (spLawBoard K t.c_Board):=by
 obtain ⟨fd,F,b⟩:=T.F_law_board
 have G_law_cell_at:=ok_law_cell_at (P:=P) (w:=w) (base:=base) T
 have G_law_rows:=ok_law_rows (P:=P) (w:=w) (base:=base) T
 have G_Board:=ok_Board_init (P:=P) (w:=w) (base:=base) T
 have G_Board_put:=ok_Board_put (P:=P) (w:=w) (base:=base) T
 have G_Board_drill:=ok_Board_drill (P:=P) (w:=w) (base:=base) T
 refine ⟨_,fd,F.okX sc_law_board (fun vs H Q E h => ?_) (fun cdv A outer s H vs Q E hr h => ?_),b,F.kp,T.g__law_board⟩
 ·obtain ⟨a,sc,rfl,_⟩:=h
  rfl
 ·obtain ⟨a,sc,rfl,ha,hsc,q⟩:=h
  refine ⟨_,(pss_cons (ps_set (i:=1) sc_law_board.nd rfl (Or.inl rfl) (pe_callG G_law_cell_at (hr.mono (by decide)) passes_of (by rfl) (pa_cons (pv 0) (pa_cons pe_int pa_nil))))
   (pss_cons (ps_set (i:=2) sc_law_board.nd rfl (Or.inr rfl) (pe_tup (pa_cons (pe_op op_add pe_int (pe_op op_mod (pv 1) pe_int)) (pa_cons (pe_op op_add pe_int (pe_op op_mod (pe_op op_fdiv (pv 1) pe_int) pe_int)) (pa_cons (pe_op op_add pe_int (pe_op op_mod (pe_op op_fdiv (pv 1) pe_int) pe_int)) pa_nil)))))
   (pss_cons (ps_set (i:=3) sc_law_board.nd rfl (Or.inl rfl) (pe_cmpR op_eq (pe_op op_mod (pe_op op_fdiv (pv 1) pe_int) pe_int) pe_int (nomark _)))
   (pss_cons (ps_set (i:=4) sc_law_board.nd rfl (Or.inl rfl) (pe_makeG G_Board (hr.mono (by decide)) passes_of (by rfl) (pa_cons (pe_ix ix_tup (pv 2) pe_int (fun _ _ => rfl)) (pa_cons (pe_ix ix_tup (pv 2) pe_int (fun _ _ => rfl)) (pa_cons (pe_ix ix_tup (pv 2) pe_int (fun _ _ => rfl)) pa_nil)))))
   (pss_cons (ps_for owns_of (pi_enumL rfl rfl T.n_enumerate (pa_cons (pe_callG G_law_rows (hr.mono (by decide)) passes_of (by rfl) (pa_cons (pe_callG G_law_cell_at (hr.mono (by decide)) passes_of (by rfl) (pa_cons (pv 0) (pa_cons pe_int pa_nil))) (pa_cons (pe_op op_mul (pe_ix ix_tup (pv 2) pe_int (fun _ _ => rfl)) (pe_ix ix_tup (pv 2) pe_int (fun _ _ => rfl))) (pa_cons (pe_ix ix_tup (pv 2) pe_int (fun _ _ => rfl)) (pa_cons (pv 3) pa_nil))))) pa_nil)) (pg_tup rfl (pgs_cons (pg_name (i:=5) sc_law_board.nd rfl (Or.inr rfl)) (pgs_cons (pg_name (i:=6) sc_law_board.nd rfl (Or.inr rfl)) pgs_nil))) (pss_one (ps_expr (pe_methG (pv 4) G_Board_put (hr.mono (by decide)) passes_of (pa_cons (pe_compN (N0:=["_law_script","_law_cell","_law_size","_law_mixed_here","_law_board_here","_law_k","_law_row","._law_x","_law_y"]) (own:=["_law_x"]) (cs_threeN (n1:="_law_size") (n2:="_law_row") (n3:="_law_k") (N:=["_law_script","_law_cell","_law_size","_law_mixed_here","_law_board_here","_law_k","_law_row","_law_x","_law_y"]) rfl (by rfl) (by rfl) rfl rfl rfl (by rfl) (by rfl) (by rfl) (by decide +kernel) (by decide +kernel) rfl (by decide +kernel)) (pi_range1 rfl T.n_range (pa_cons (pe_ix ix_tup (pv 2) pe_int (fun _ _ => rfl)) pa_nil)) (fun _ _ _ _ _ => pg_name (i:=9) (by show (["_law_script","_law_cell","_law_size","_law_mixed_here","_law_board_here","_law_k","_law_row","._law_x","_law_y","_law_x"]:List Str).Nodup; decide +kernel) rfl (Or.inl rfl)) (fun _ _ _ _ _ => pf_one (pt_cmpR op_eq (pe_op op_and (pe_op op_shr (pv 6) (pv 9)) pe_int) pe_int (nomark _))) (fun _ _ _ _ _ => (pe_tup (pa_cons (pv 9) (pa_cons (pe_op op_mod (pv 5) (pe_ix (ix_tupK (K:=K) rfl) (pv 2) pe_int (fun _ _ => rfl))) (pa_cons (pe_op op_fdiv (pv 5) (pe_ix (ix_tupK (K:=K) rfl) (pv 2) pe_int (fun _ _ => rfl))) pa_nil)))))) pa_nil)))))
   (pss_cons (ps_for owns_of (pi_enumL rfl rfl T.n_enumerate (pa_cons (pe_callG G_law_rows (hr.mono (by decide)) passes_of (by rfl) (pa_cons (pe_callG G_law_cell_at (hr.mono (by decide)) passes_of (by rfl) (pa_cons (pv 0) (pa_cons pe_int pa_nil))) (pa_cons (pe_ix ix_tup (pv 2) pe_int (fun _ _ => rfl)) (pa_cons (pe_ix ix_tup (pv 2) pe_int (fun _ _ => rfl)) (pa_cons (pv 3) pa_nil))))) pa_nil)) (pg_tup rfl (pgs_cons (pg_name (i:=8) sc_law_board.nd rfl (Or.inl rfl)) (pgs_cons (pg_name (i:=6) sc_law_board.nd rfl (Or.inr rfl)) pgs_nil))) (pss_one (ps_for owns_of (pi_list (pe_compN (N0:=["_law_script","_law_cell","_law_size","_law_mixed_here","_law_board_here","_law_k","_law_row","._law_x","_law_y"]) (own:=["_law_x"]) (cs_oneN (n:="_law_row") (N:=["_law_script","_law_cell","_law_size","_law_mixed_here","_law_board_here","_law_k","_law_row","_law_x","_law_y"]) rfl (by rfl) (by rfl) rfl (by rfl) (by decide +kernel) (by decide +kernel) rfl (by decide +kernel)) (pi_range1 rfl T.n_range (pa_cons (pe_ix ix_tup (pv 2) pe_int (fun _ _ => rfl)) pa_nil)) (fun _ _ _ _ _ => pg_name (i:=9) (by show (["_law_script","_law_cell","_law_size","_law_mixed_here","_law_board_here","_law_k","_law_row","._law_x","_law_y","_law_x"]:List Str).Nodup; decide +kernel) rfl (Or.inl rfl)) (fun _ _ _ _ _ => pf_one (pt_cmpR op_eq (pe_op op_and (pe_op op_shr (pv 6) (pv 9)) pe_int) pe_int (nomark _))) (fun _ _ _ _ _ => (pv 9)))) (pg_name (i:=7) sc_law_board.nd rfl (Or.inl rfl)) (pss_one (ps_expr (pe_methG (pv 4) G_Board_drill (hr.mono (by decide)) passes_of (pa_cons (pv 7) (pa_cons (pv 8) pa_nil))))))))
   (pss_one (ps_ret (pv 4))))))))),?_⟩
  refine ⟨_,rfl,a,sc,0,rfl,ha,by decide,by decide,hsc,?_⟩
  unfold bC bD bM bW bH bL at q
  show tSeq _ _ _ [some (.ref a),some (.int (sc.getD 0 0)),none,none,none,none,none,none,none] H
  have ew0:((1 + sc.getD 0 0 % 12).toNat:Int) = 1 + sc.getD 0 0 % 12:=by omega
  have eh0:((1 + sc.getD 0 0 / 12 % 12).toNat:Int) = 1 + sc.getD 0 0 / 12 % 12:=by omega
  have el0:((1 + sc.getD 0 0 / 144 % 3).toNat:Int) = 1 + sc.getD 0 0 / 144 % 3:=by omega
  have bw:1≤(1 + sc.getD 0 0 % 12).toNat∧(1 + sc.getD 0 0 % 12).toNat≤12:=by omega
  have bh:1≤(1 + sc.getD 0 0 / 12 % 12).toNat∧(1 + sc.getD 0 0 / 12 % 12).toNat≤12:=by omega
  have bl:1≤(1 + sc.getD 0 0 / 144 % 3).toNat∧(1 + sc.getD 0 0 / 144 % 3).toNat≤3:=by omega
  generalize (1 + sc.getD 0 0 % 12).toNat = w' at q ew0 bw
  generalize (1 + sc.getD 0 0 / 12 % 12).toNat = h at q eh0 bh
  generalize (1 + sc.getD 0 0 / 144 % 3).toNat = l at q el0 bl
  generalize sc.getD 0 0 = c at q ew0 eh0 el0
  obtain ⟨w1,w12⟩:=bw
  obtain ⟨h1,h12⟩:=bh
  obtain ⟨l1,l3⟩:=bl
  have hhl:h * l≤12 * 3:=Nat.mul_le_mul h12 l3
  have hl1:h≤h * l:=Nat.le_mul_of_pos_right h (by omega)
  refine ⟨_,rfl,c,12,rfl,rfl,(by show (0:Int) < 12; decide),1,_,rfl,rfl,_,rfl,c,12,rfl,rfl,⟨by decide,by decide⟩,_,12,rfl,rfl,(by show (0:Int) < 12; decide),1,_,rfl,rfl,_,rfl,c,144,rfl,rfl,⟨by decide,by decide⟩,_,3,rfl,rfl,(by show (0:Int) < 3; decide),1,_,rfl,rfl,(by show 3≤sizeLine; decide),fun p hp => ?_⟩
  have s1:Same H (upd H p (.tup [.int (1 + c % 12),.int (1 + c / 12 % 12),.int (1 + c / 144 % 3)])):=same_new (Same.refl H) hp
  have e1:upd H p (.tup [.int (1 + c % 12),.int (1 + c / 12 % 12),.int (1 + c / 144 % 3)]) p = some (.tup [.int w',.int h,.int l]):=by rw [upd_same,ew0,eh0,el0]
  show tSeq _ _ _ _ (upd H p (.tup [.int (1 + c % 12),.int (1 + c / 12 % 12),.int (1 + c / 144 % 3)]))
  generalize upd H p (.tup [.int (1 + c % 12),.int (1 + c / 12 % 12),.int (1 + c / 144 % 3)]) = H1 at s1 e1
  have T1:∀ {H':Hp},Same H1 H'→SqT K H' p [.int w',.int h,.int l]:=fun s => SqT.of (s _ _ e1)
  have s0:=Same.refl H1
  refine ⟨_,rfl,c,432,rfl,rfl,⟨by decide,by decide⟩,_,2,rfl,rfl,(by show (0:Int) < 2; decide),rfl,?_⟩
  refine gName_go ?_
  dsimp only
  generalize decide (V.int (c / 432 % 2) = V.int 1) = mx at q ⊢
  refine ⟨_,rfl,p,_,0,.int w',rfl,rfl,T1 s0,rfl,_,rfl,p,_,1,.int h,rfl,rfl,T1 s0,rfl,_,rfl,p,_,2,.int l,rfl,rfl,T1 s0,rfl,fun o dx ho hdx ndo => ?_⟩
  refine ⟨o,dx,.int w',.int h,.int l,rfl,upd_same,trivial,trivial,trivial,fun w2 h2 l2 g1 g2 g3 _ _ _ cc d H4 fr4 eo ec ed nc nd ncd nco ndo2 => ?_,fun n => absurd ⟨(⟨by omega,by omega⟩:okM w' 12),(⟨by omega,by omega⟩:okM h 12),(⟨by omega,by omega⟩:okM l 3)⟩ n⟩
  cases g1; cases g2; cases g3
  refine ⟨rfl,?_⟩
  refine gName_go ?_
  dsimp only
  have s14:Same H1 H4:=fun b u e => fr4 b u (ne_of_none e ho) (by rw [upd_ne (ne_of_none e ho),upd_ne (ne_of_none e hdx)]; exact e)
  have ncd1:H1 cc = none:=by
   rw [upd_ne nco,upd_ne (fun z => by rw [z,upd_same] at nc; cases nc)] at nc; exact nc
  have ndd1:H1 d = none:=by
   rw [upd_ne ndo2,upd_ne (fun z => by rw [z,upd_same] at nd; cases nd)] at nd; exact nd
  have nn:∀ {x:Addr},H1 x = none→H x = none:=fun {x} hx => by
   cases e:H x with
   | none => rfl
   | some u => rw [s1 _ _ e] at hx; cases hx
  have pc:p≠cc:=ne_of_none e1 ncd1
  have pd:p≠d:=ne_of_none e1 ndd1
  have e14:=s14 _ _ e1
  have emk:∀ k:Nat,(k:Int) % (h:Int) = ((k % h:Nat):Int):=fun k => rfl
  have edk:∀ k:Nat,(k:Int) / (h:Int) = ((k / h:Nat):Int):=fun k => rfl
  have ln:=rowsF_len (sc.getD 1 0) w' mx (h * l)
  have lm:=rowsF_len (sc.getD 2 0) w' mx h
  have ha4:SqL K H4 a (sc.map V.int):=same_sqL (Same.trans s1 s14) ha
  have nac:∀ {H':Hp},Off cc H4 H'→SqL K H' a (sc.map V.int):=fun f => sqL_off ha4 ec f
  refine seq_gen (fun σ H' => ∃ v5 v6 v7,σ = [some (.ref a),some (.int c),some (.ref p),some (.bl mx),some (.ref o),v5,v6,v7,none]∧Off cc H4 H'∧H' cc = some (.dT (csF (rowsF (sc.getD 1 0) w' mx (h * l)).2 w' h (h * l)))) (fun B nx => ?_) ?_
  ·have T4:SqT K H4 p [.int w',.int h,.int l]:=SqT.of e14
   refine ⟨_,rfl,a,sc,1,rfl,ha4,by decide,by decide,hsc,_,rfl,p,_,1,.int h,rfl,rfl,T4,rfl,_,rfl,p,_,2,.int l,rfl,rfl,T4,rfl,(h:Int),(l:Int),rfl,rfl,.inl ⟨by omega,by omega⟩,_,rfl,p,_,0,.int w',rfl,rfl,T4,rfl,_,rfl,_,h * l,w',mx,by rw [Int.natCast_mul]; rfl,by omega,w12,fun r H5 s5 hr5 er => ?_⟩
   show ∃ _,_
   have rc:r≠cc:=fun z => by rw [z,ec] at hr5; cases hr5
   have e0:(rowsF (sc.getD (1:Int).toNat 0) w' mx (h * l)) = rowsF (sc.getD 1 0) w' mx (h * l):=rfl
   rw [e0] at er
   generalize (rowsF (sc.getD 1 0) w' mx (h * l)).2 = ns at ln er q nx
   refine ⟨r,rfl,⟨_,SqL.of er⟩,for_enumL (xs:=ns.map V.int) (fun k σ H' => ∃ v5 v6 v7,σ = [some (.ref a),some (.int c),some (.ref p),some (.bl mx),some (.ref o),v5,v6,v7,none]∧Off cc H4 H'∧H' r = some (.lst (ns.map V.int))∧H' cc = some (.dT (csF ns w' h k))) ⟨_,_,_,rfl,fun b u _ e => s5 _ _ e,er,s5 _ _ ec⟩ (fun k σ H' _ hh => by obtain ⟨_,_,_,_,_,f,_⟩:=hh;exact SqL.of f) ?_ ?_⟩
   ·rintro k x p7 σ H7 hx hp7 ⟨v5,v6,v7,rfl,f7,er7,ec7⟩
    rw [List.getElem?_map] at hx
    obtain ⟨rr,err,rfl⟩:=Option.map_eq_some_iff.mp hx
    have hk:k < h * l:=by rw [← ln]; exact (List.getElem?_eq_some_iff.mp err).1
    have erg:ns.getD k 0 = rr:=by rw [List.getD_eq_getElem?_getD,err]; rfl
    have s8:=same_new (o:=.tup [.int k,.int rr]) (Same.refl H7) hp7
    refine ⟨p7,_,rfl,SqT.of upd_same,rfl,_,_,rfl,_,_,rfl,rfl,?_⟩
    show tDrop _ _ _ (upd H7 p7 (.tup [.int k,.int rr]))
    generalize upd H7 p7 (.tup [.int k,.int rr]) = H8 at s8
    have f8:=f7.same s8
    have ec8:=s8 _ _ ec7
    refine ⟨_,rfl,o,dx,_,rfl,f8 _ _ (Ne.symm nco) eo,rfl,_,rfl,p,_,0,.int w',rfl,rfl,SqT.of (f8 _ _ pc e14),rfl,(w':Int),rfl,by omega,by omega,comp_rangeN (fun D i ys H' => ∃ ps,ys = ps.map V.ref∧H' D = some (.lst ys)∧H8 D = none∧Same H8 H'∧Cells H' ps (clOf w' k h rr i)∧ys.length≤i) (by rw [Int.toNat_natCast]; exact Nat.le_trans w12 (by decide)) (fun D hD => ⟨[],rfl,upd_same,hD,same_new (Same.refl H8) hD,⟨rfl,by simp⟩,Nat.le_refl _⟩) (fun D i ys H' ⟨ps,_,e,_,_,_,hl⟩ => ⟨e,hl⟩) ?_ ?_⟩
    ·rintro D i ys H9 Qy Qn hi ⟨ps,rfl,eD,nD,s9,ce,hl⟩ hy hn
     have hz:(0:Int)≤0 + (i:Int):=by omega
     have ti:((0:Int) + (i:Int)).toNat = i:=by omega
     refine ⟨⟨_,rfl,rfl⟩,_,rfl,_,rfl,rr,_,rfl,rfl,hz,_,1,rfl,rfl,rfl,_,rfl,iteD (fun e => ?_) fun e => ?_⟩
     ·have hb:bt rr i = true:=decide_eq_true (by rw [ti] at e; injection e)
      have S9:SqT K H9 p [.int w',.int h,.int l]:=SqT.of (s9 _ _ (f8 _ _ pc e14))
      refine ⟨_,rfl,_,rfl,_,rfl,p,_,1,.int h,rfl,rfl,S9,rfl,(k:Int),(h:Int),rfl,rfl,by omega,_,rfl,_,rfl,p,_,1,.int h,rfl,rfl,S9,rfl,(k:Int),(h:Int),rfl,rfl,⟨by omega,by omega⟩,(by show 3≤sizeLine; decide),fun q hq => ?_⟩
      have nDq:D≠q:=ne_of_none eD hq
      refine hy _ _ (by rw [upd_ne nDq]; exact eD) ⟨ps ++ [q],by rw [List.map_append]; rfl,upd_same,nD,fun b u e => ?_,?_,?_⟩
      ·rw [upd_ne (ne_of_none e nD),upd_ne (ne_of_none (s9 _ _ e) hq)]; exact s9 _ _ e
      ·rw [clOf_yes hb,Int.zero_add]
       exact ce.add hq eD
      ·rw [List.length_append]; exact Nat.succ_le_succ hl
     ·have hb:bt rr i = false:=decide_eq_false (fun z => e (by show V.int (Builtin.bitAnd (rr / 2 ^ ((0:Int) + (i:Int)).toNat) 1) = V.int 1; rw [ti,z]))
      exact hn _ ⟨ps,rfl,eD,nD,s9,by rw [clOf_no hb]; exact ce,by omega⟩
    ·rintro D ys H9 hD ⟨ps,rfl,eD,nD,s9,ce,hl⟩
     rw [Int.toNat_natCast] at ce
     have f9:=f8.same s9
     have lcl:=clOf_len w' k h rr w'
     obtain ⟨tc7,lc7⟩:=csF_tab (ns:=ns) (w:=w') (l:=l) h1 k (by omega)
     have lc8:w' * k≤12 * 36:=Nat.mul_le_mul w12 (by omega)
     have onn:=onB_in (clOf_in (w:=w') (r:=rr) h1 hk)
     refine ⟨o,dx,cc,d,D,ps,clOf w' k h rr w',w',h,l,csF ns w' h k,rfl,f9 _ _ (Ne.symm nco) eo,eD,ce,s9 _ _ ec8,by omega,fun _ => ⟨some (.int k),some (.int rr),_,rfl,fun b u n e => ?_,?_,?_⟩,fun z => absurd onn (by rw [z]; decide)⟩
     ·rw [upd_ne n]; exact f9 _ _ n e
     ·rw [upd_ne rc]; exact s9 _ _ (s8 _ _ er7)
     ·rw [upd_same,← erg]; rfl
   ·rintro σ H7 ⟨v5,v6,v7,rfl,f7,er7,ec7⟩
    rw [List.length_map,ln] at ec7
    exact nx _ _ ⟨_,_,_,rfl,f7,ec7⟩
  rintro σ H5 ⟨v5,v6,v7,rfl,f5,ec5⟩
  have eo5:=f5 _ _ (Ne.symm nco) eo
  have ed5:=f5 _ _ (Ne.symm ncd) ed
  have e15:=f5 _ _ pc e14
  have od:o≠d:=Ne.symm ndo2
  have s15:Same H1 H5:=fun b u e => f5 _ _ (ne_of_none e ncd1) (s14 _ _ e)
  refine seq_gen (fun σ H' => ∃ v5 v6 v7 v8,σ = [some (.ref a),some (.int c),some (.ref p),some (.bl mx),some (.ref o),v5,v6,v7,v8]∧Off d H5 H'∧H' d = some (.dT (dsF (rowsF (sc.getD 2 0) w' mx h).2 w' h))) (fun B nx => ?_) ?_
  ·have T5:SqT K H5 p [.int w',.int h,.int l]:=SqT.of e15
   refine ⟨_,rfl,a,sc,2,rfl,nac f5,by decide,by decide,hsc,_,rfl,p,_,1,.int h,rfl,rfl,T5,rfl,_,rfl,p,_,0,.int w',rfl,rfl,T5,rfl,_,rfl,_,h,w',mx,rfl,by omega,w12,fun g H6 s6 hg6 eg => ?_⟩
   show ∃ _,_
   have gd:g≠d:=fun z => by rw [z,ed5] at hg6; cases hg6
   have e0:(rowsF (sc.getD (2:Int).toNat 0) w' mx h) = rowsF (sc.getD 2 0) w' mx h:=rfl
   rw [e0] at eg
   generalize (rowsF (sc.getD 2 0) w' mx h).2 = ms at lm eg q nx
   refine ⟨g,rfl,⟨_,SqL.of eg⟩,for_enumL (xs:=ms.map V.int) (fun k σ H' => ∃ v5 v6 v7 v8,σ = [some (.ref a),some (.int c),some (.ref p),some (.bl mx),some (.ref o),v5,v6,v7,v8]∧Off d H5 H'∧H' g = some (.lst (ms.map V.int))∧H' d = some (.dT (dsF ms w' k))) ⟨_,_,_,_,rfl,fun b u _ e => s6 _ _ e,eg,s6 _ _ ed5⟩ (fun k σ H' _ hh => by obtain ⟨_,_,_,_,_,_,f,_⟩:=hh;exact SqL.of f) ?_ ?_⟩
   ·rintro k x p7 σ H7 hx hp7 ⟨v5,v6,v7,v8,rfl,f7,eg7,ed7⟩
    rw [List.getElem?_map] at hx
    obtain ⟨rr,err,rfl⟩:=Option.map_eq_some_iff.mp hx
    have hk:k < h:=by rw [← lm]; exact (List.getElem?_eq_some_iff.mp err).1
    have erg:ms.getD k 0 = rr:=by rw [List.getD_eq_getElem?_getD,err]; rfl
    have s8:=same_new (o:=.tup [.int k,.int rr]) (Same.refl H7) hp7
    refine ⟨p7,_,rfl,SqT.of upd_same,rfl,_,_,rfl,_,_,rfl,rfl,?_⟩
    show tFor _ _ _ _ _ (upd H7 p7 (.tup [.int k,.int rr]))
    generalize upd H7 p7 (.tup [.int k,.int rr]) = H8 at s8
    have f8:=f7.same s8
    have ed8:=s8 _ _ ed7
    have eg8:=s8 _ _ eg7
    refine ⟨_,rfl,p,_,0,.int w',rfl,rfl,SqT.of (f8 _ _ pd e15),rfl,(w':Int),rfl,by omega,by omega,comp_rangeN (fun D i ys H' => ys = ((List.range i).filter (bt rr)).map (fun x:Nat => V.int (x:Int))∧H8 D = none∧H' = upd H8 D (.lst ys)) (by rw [Int.toNat_natCast]; exact Nat.le_trans w12 (by decide)) (fun D hD => ⟨rfl,hD,rfl⟩) (fun D i ys H' ⟨e,_,e2⟩ => ⟨by rw [e2,upd_same],by rw [e,List.length_map]; exact Nat.le_trans (List.length_filter_le _ _) (by simp)⟩) ?_ ?_⟩
    ·rintro D i ys H9 Qy Qn hi ⟨rfl,nD,rfl⟩ hy hn
     have hz:(0:Int)≤0 + (i:Int):=by omega
     have ti:((0:Int) + (i:Int)).toNat = i:=by omega
     refine ⟨⟨_,rfl,rfl⟩,_,rfl,_,rfl,rr,_,rfl,rfl,hz,_,1,rfl,rfl,rfl,_,rfl,iteD (fun e => ?_) fun e => ?_⟩
     ·have hb:bt rr i = true:=decide_eq_true (by rw [ti] at e; injection e)
      refine ⟨_,rfl,hy _ _ upd_same ⟨?_,nD,?_⟩⟩
      ·rw [List.range_succ,List.filter_append,List.map_append,Int.zero_add]; simp [hb]
      ·funext b
       by_cases q:b = D
       ·rw [q,upd_same,upd_same]
       ·rw [upd_ne q,upd_ne q,upd_ne q]
     ·have hb:bt rr i = false:=decide_eq_false (fun z => e (by show V.int (Builtin.bitAnd (rr / 2 ^ ((0:Int) + (i:Int)).toNat) 1) = V.int 1; rw [ti,z]))
      have e2:(List.range (i + 1)).filter (bt rr) = (List.range i).filter (bt rr):=by rw [List.range_succ,List.filter_append]; simp [hb]
      exact hn _ ⟨by rw [e2],nD,rfl⟩
    ·rintro D ys H9 hD ⟨rfl,nD,rfl⟩
     rw [Int.toNat_natCast]
     have hxl:∀ x∈(List.range w').filter (bt rr),x < w':=fun x hx => List.mem_range.mp (List.mem_filter.mp hx).1
     have lxl:((List.range w').filter (bt rr)).length≤w':=Nat.le_trans (List.length_filter_le _ _) (by simp)
     obtain ⟨td7,ld7⟩:=dsF_tab (ms:=ms) (w:=w') (h:=h) k (by omega)
     have ld8:w' * k≤12 * 12:=Nat.mul_le_mul w12 (by omega)
     have step:dsF ms w' (k + 1) = putH (dsF ms w' k) ((List.range w').filter (bt rr)) k:=by rw [← erg]; rfl
     generalize (List.range w').filter (bt rr) = xl at hxl lxl step
     generalize dsF ms w' k = ds at ed8 td7 ld7 step
     have s9:=same_new (o:=.lst (xl.map fun x:Nat => V.int (x:Int))) (Same.refl H8) nD
     have eD:upd H8 D (.lst (xl.map fun x:Nat => V.int (x:Int))) D = some (.lst (xl.map fun x:Nat => V.int (x:Int))):=upd_same
     have Dd:D≠d:=fun z => by rw [z,ed8] at nD; cases nD
     have f9:=f8.same s9
     refine ⟨D,rfl,⟨_,SqL.of eD⟩,for_list (xs:=xl.map fun x:Nat => V.int (x:Int)) (fun i σ H' => ∃ v7,σ = [some (.ref a),some (.int c),some (.ref p),some (.bl mx),some (.ref o),v5,some (.int rr),v7,some (.int k)]∧Off d H5 H'∧H' g = some (.lst (ms.map V.int))∧H' D = some (.lst (xl.map fun x:Nat => V.int (x:Int)))∧H' d = some (.dT (putH ds (xl.take i) k))) ⟨_,rfl,f9,s9 _ _ eg8,eD,s9 _ _ ed8⟩ (fun i σ H' _ hh => by obtain ⟨_,_,_,_,e,_⟩:=hh;exact SqL.of e) ?_ ?_⟩
     ·rintro i x σ H10 hx ⟨v9,rfl,f10,eg10,e10,d10⟩
      rw [List.getElem?_map] at hx
      obtain ⟨xj,exj,rfl⟩:=Option.map_eq_some_iff.mp hx
      have hxj:=hxl xj (List.mem_of_getElem? exj)
      have lt:=putH_len k (xl.take i) ds
      rw [List.length_take] at lt
      have onn:(inB (xj:Int) (w':Int) && inB (k:Int) (h:Int)) = true:=by rw [inB_nat hxj,inB_nat hk]; rfl
      refine ⟨_,rfl,o,dx,_,rfl,f10 _ _ od eo5,rfl,_,rfl,_,rfl,o,dx,cc,d,w',h,l,xj,k,putH ds (xl.take i) k,rfl,f10 _ _ od eo5,d10,by omega,fun _ q hq => ⟨_,rfl,fun b u n e => ?_,?_,?_,?_⟩,fun z => absurd onn (by rw [z]; decide)⟩
      ·rw [upd_ne n,upd_ne (ne_of_none (f10 _ _ n e) hq)]; exact f10 _ _ n e
      ·rw [upd_ne gd,upd_ne (ne_of_none eg10 hq)]; exact eg10
      ·rw [upd_ne Dd,upd_ne (ne_of_none e10 hq)]; exact e10
      ·rw [upd_same,List.take_succ,exj,show (some xj).toList = [xj] from rfl,putH_snoc]
     ·rintro σ H10 ⟨v9,rfl,f10,eg10,e10,d10⟩
      rw [List.length_map,List.take_of_length_le (Nat.le_refl _),← step] at d10
      exact ⟨_,_,_,_,rfl,f10,eg10,d10⟩
   ·rintro σ H7 ⟨v5,v6,v7,v8,rfl,f7,eg7,ed7⟩
    rw [List.length_map,lm] at ed7
    exact nx _ _ ⟨_,_,_,_,rfl,f7,ed7⟩
  rintro σ H6 ⟨v5,v6,v7,v8,rfl,f6,ed6⟩
  refine ⟨_,rfl,q o dx cc d H6 (fun b u e => ?_) (nn ho) (nn ncd1) (nn ndd1) ncd (f6 _ _ od eo5) (f6 _ _ ncd ec5) ed6⟩
  have e':=s15 _ _ (s1 _ _ e)
  exact f6 _ _ (fun z => by rw [z] at e; rw [nn ndd1] at e; cases e) e'
end
end K23
namespace K23
open PySem L2 Wd TS
structure Bd (C:Addr) (H:Hp) (o dx c d:Addr) (w h l:Nat) (cs ds:Tab):Prop where
 o:H o = some (.ins C dx (fB w h l c d))
 c:H c = some (.dT cs)
 d:H d = some (.dT ds)
 C:TabC cs w h l
 D:TabH ds w h
theorem Bd.same {C:Addr} {H H':Hp} {o dx c d:Addr} {w h l:Nat} {cs ds:Tab} (B:Bd C H o dx c d w h l cs ds) (s:Same H H'):Bd C H' o dx c d w h l cs ds:=⟨s _ _ B.o,s _ _ B.c,s _ _ B.d,B.C,B.D⟩
theorem TabC.sds {cs:Tab} {w h l:Nat} (T:TabC cs w h l):∀ kv∈cs,sd kv.1 = [true,true,true]:=fun kv hkv => by
 obtain ⟨x,y,z,_,_,_,e⟩:=T.key kv hkv
 rw [e]; rfl
theorem TabH.sds {ds:Tab} {w h:Nat} (T:TabH ds w h):∀ kv∈ds,sd kv.1 = [true,true]:=fun kv hkv => by
 obtain ⟨x,y,_,_,e⟩:=T.key kv hkv
 rw [e]; rfl
def un3:List Key→Int × Int × Int
 | [.inl x,.inl y,.inl z] => (x,y,z)
 | _ => (0,0,0)
theorem val_mem {cs:Tab} {k:List Key}:(valV cs k).isSome = true↔k∈cs.map (·.1):=by
 rw [← valV_any]
 constructor
 ·intro h
  obtain ⟨x,hx,e⟩:=List.any_eq_true.mp h
  exact List.mem_map.mpr ⟨x,hx,of_decide_eq_true e⟩
 ·intro h
  obtain ⟨x,hx,e⟩:=List.mem_map.mp h
  exact List.any_eq_true.mpr ⟨x,hx,decide_eq_true e⟩
theorem cells_of {cs:Tab} {w h l:Nat} (T:TabC cs w h l) {ks:List (List Key)} (pm:ks.Perm (cs.map (·.1))):∃ cells:List (Int × Int × Int),ks = cells.map k3∧cells.Nodup∧∀ e,e∈cells↔cuB cs w h l e = true:=by
 have hk:∀ k∈ks,∃ x y z:Nat,x < w∧y < h∧z < l∧k = k3 ((x:Int),(y:Int),(z:Int)):=fun k hk => by
  obtain ⟨kv,h1,rfl⟩:=List.mem_map.mp (pm.mem_iff.mp hk)
  exact T.key kv h1
 have e:ks = (ks.map un3).map k3:=by
  rw [List.map_map]
  exact ((List.map_congr_left (g:=id) fun k h => by obtain ⟨x,y,z,_,_,_,rfl⟩:=hk k h; rfl).trans (List.map_id ks)).symm
 refine ⟨ks.map un3,e,?_,fun c => ?_⟩
 ·have nk:ks.Nodup:=pm.nodup_iff.mpr T.nd
  rw [e] at nk
  exact List.Pairwise.of_map k3 (fun a b h e => h (by rw [e])) nk
 ·have m:c∈ks.map un3↔k3 c∈ks:=by
   constructor
   ·intro h
    obtain ⟨k,h1,rfl⟩:=List.mem_map.mp h
    obtain ⟨x,y,z,_,_,_,rfl⟩:=hk k h1
    exact h1
   ·intro h
    exact List.mem_map.mpr ⟨k3 c,h,rfl⟩
  rw [m,pm.mem_iff,← val_mem]
  constructor
  ·intro h
   unfold cuB
   rw [h,Bool.and_true]
   obtain ⟨x,y,z,a1,a2,a3,e⟩:=hk (k3 c) (pm.mem_iff.mpr (val_mem.mp h))
   rw [k3_inj e]
   show (inB (x:Int) _ && inB (y:Int) _ && inB (z:Int) _) = true
   rw [inB_nat a1,inB_nat a2,inB_nat a3]; rfl
  ·intro h
   unfold cuB at h
   rw [Bool.and_eq_true] at h
   exact h.2
theorem Cells.of_key {H:Hp} {ps:List Addr} {cl:List (Int × Int × Int)} (k:KeyAt H ps (cl.map k3)):Cells H ps cl:=⟨by rw [k.1,List.length_map],fun i p c h1 h2 => k.2 i p (k3 c) h1 (by rw [List.getElem?_map,h2]; rfl)⟩
def l3 (c:Int × Int × Int):List Int:=[c.1,c.2.1,c.2.2]
theorem l3_inj {a b:Int × Int × Int} (h:l3 a = l3 b):a = b:=by
 obtain ⟨x,y,z⟩:=a
 obtain ⟨u,v,r⟩:=b
 unfold l3 at h
 simpa using h
theorem l3_mem {c:Int × Int × Int} {cl:List (Int × Int × Int)}:l3 c∈cl.map l3↔c∈cl:=by
 constructor
 ·intro h
  obtain ⟨d,h1,e⟩:=List.mem_map.mp h
  rw [← l3_inj e]; exact h1
 ·exact fun h => List.mem_map.mpr ⟨c,h,rfl⟩
theorem Cells.tups {K:PySem.W.Frag} {H:Hp} {ps:List Addr} {cl:List (Int × Int × Int)} (C:Cells H ps cl):Tups K H ps (cl.map l3):=⟨by rw [C.1,List.length_map],fun i p ns h1 h2 => by
 rw [List.getElem?_map] at h2
 obtain ⟨c,e2,rfl⟩:=Option.map_eq_some_iff.mp h2
 exact SqT.of (C.2 i p c h1 e2)⟩
theorem Cells.lt {K:PySem.W.Frag} {H:Hp} {a:Addr} {ps:List Addr} {cl:List (Int × Int × Int)} (C:Cells H ps cl) (e:H a = some (.lst (ps.map V.ref))):LT K H a (cl.map l3):=⟨ps,SqL.of e,C.tups⟩
theorem Cells.dt {H:Hp} {c:Addr} {ps:List Addr} {cl:List (Int × Int × Int)} {u u':Tab} (C:Cells H ps cl) (hc:H c = some (.dT u)):Cells (upd H c (.dT u')) ps cl:=⟨C.1,fun i q d h1 h2 => by
 have e:=C.2 i q d h1 h2
 rw [upd_ne (ne_of e hc (by intro z; cases z))]; exact e⟩
theorem Bd.putC {C:Addr} {H:Hp} {o dx c d:Addr} {w h l:Nat} {cs ds cs':Tab} (B:Bd C H o dx c d w h l cs ds) (n:c≠d) (T:TabC cs' w h l):Bd C (upd H c (.dT cs')) o dx c d w h l cs' ds :=
 ⟨by rw [upd_ne (ne_of B.o B.c (by intro z; cases z))]; exact B.o,upd_same,by rw [upd_ne (Ne.symm n)]; exact B.d,T,B.D⟩
theorem Bd.putD {C:Addr} {H:Hp} {o dx c d:Addr} {w h l:Nat} {cs ds ds':Tab} (B:Bd C H o dx c d w h l cs ds) (n:c≠d) (T:TabH ds' w h):Bd C (upd H d (.dT ds')) o dx c d w h l cs ds' :=
 ⟨by rw [upd_ne (ne_of B.o B.d (by intro z; cases z))]; exact B.o,by rw [upd_ne n]; exact B.c,upd_same,B.C,T⟩
theorem lst_dt {H:Hp} {c p:Addr} {u u':Tab} {ys:List V} (e:H p = some (.lst ys)) (hc:H c = some (.dT u)):upd H c (.dT u') p = some (.lst ys):=by
 rw [upd_ne (ne_of e hc (by intro z; cases z))]; exact e
theorem length_dropK (cs:Tab) (k:List Key):(dropK cs k).length≤cs.length:=List.length_filter_le _ _
def unI:Key→Int | .inl n => n | .inr _ => 0
theorem lt_of {K:PySem.W.Frag} {H:Hp} {a:Addr} {bs:List Addr} {ks:List (List Key)} (e:H a = some (.lst (bs.map V.ref))) (ka:KeyAt H bs ks) (hi:∀ k∈ks,∀ c∈k,∃ n,c = Sum.inl n):LT K H a (ks.map fun k => k.map unI):=by
 refine ⟨bs,SqL.of e,⟨by rw [ka.1,List.length_map],fun i p ns h1 h2 => ?_⟩⟩
 rw [List.getElem?_map] at h2
 obtain ⟨k,e2,rfl⟩:=Option.map_eq_some_iff.mp h2
 have:=ka.2 i p k h1 e2
 refine SqT.of (this.trans ?_)
 rw [List.map_map]
 congr 2
 refine List.map_congr_left fun c hc => ?_
 obtain ⟨n,rfl⟩:=hi k (List.mem_of_getElem? e2) c hc
 rfl
theorem TabH.ints {ds:Tab} {w h:Nat} (T:TabH ds w h) {ks:List (List Key)} (p:ks.Perm (ds.map (·.1))):∀ k∈ks,∀ c∈k,∃ n,c = Sum.inl n:=fun k hk c hc => by
 obtain ⟨kv,h1,rfl⟩:=List.mem_map.mp (p.mem_iff.mp hk)
 obtain ⟨x,y,_,_,e⟩:=T.key kv h1
 rw [e] at hc
 rcases List.mem_cons.mp hc with rfl | hc
 ·exact ⟨_,rfl⟩
 ·rw [List.mem_singleton] at hc
  exact ⟨_,hc⟩
theorem KeyAt.same {H H':Hp} {bs:List Addr} {ks:List (List Key)} (k:KeyAt H bs ks) (s:Same H H'):KeyAt H' bs ks:=⟨k.1,fun i p c h1 h2 => s _ _ (k.2 i p c h1 h2)⟩
theorem b_sizes (sc:List Int):(1≤bW sc∧bW sc≤12)∧(1≤bH sc∧bH sc≤12)∧1≤bL sc∧bL sc≤3:=by unfold bW bH bL; omega
theorem bC_tab (sc:List Int):TabC (bC sc) (bW sc) (bH sc) (bL sc)∧(bC sc).length≤12 * 36:=by
 obtain ⟨⟨w1,w2⟩,⟨h1,h2⟩,l1,l2⟩:=b_sizes sc
 have hl:bH sc * bL sc≤12 * 3:=Nat.mul_le_mul h2 l2
 have:=csF_tab (ns:=(rowsF (sc.getD 1 0) (bW sc) (bM sc) (bH sc * bL sc)).2) (w:=bW sc) (l:=bL sc) h1 (bH sc * bL sc) (Nat.le_refl _)
 exact ⟨this.1,Nat.le_trans this.2 (Nat.mul_le_mul w2 hl)⟩
theorem bD_tab (sc:List Int):TabH (bD sc) (bW sc) (bH sc)∧(bD sc).length≤12 * 12:=by
 obtain ⟨⟨w1,w2⟩,⟨h1,h2⟩,l1,l2⟩:=b_sizes sc
 have:=dsF_tab (ms:=(rowsF (sc.getD 2 0) (bW sc) (bM sc) (bH sc)).2) (w:=bW sc) (h:=bH sc) (bH sc) (Nat.le_refl _)
 exact ⟨this.1,Nat.le_trans this.2 (Nat.mul_le_mul w2 h2)⟩
end K23
namespace K23
open PySem L2 Wd TS
abbrev Cell:=Int × Int × Int
inductive Rch (N:Cell→List Cell) (s:Cell):Cell→Prop where
 | refl:Rch N s s
 | step {a b:Cell}:Rch N s a→b∈N a→Rch N s b
theorem Rch.trans {N:Cell→List Cell} {a b c:Cell} (h1:Rch N a b) (h2:Rch N b c):Rch N a c:=by
 induction h2 with
 | refl => exact h1
 | step _ m ih => exact .step ih m
structure Nb (N:Cell→List Cell) (cells:List Cell):Prop where
 on:∀ a∈cells,∀ b∈N a,b∈cells
 sym:∀ a∈cells,∀ b∈N a,a∈N b
theorem Rch.on {N:Cell→List Cell} {cells:List Cell} (B:Nb N cells) {a b:Cell} (ha:a∈cells) (h:Rch N a b):b∈cells:=by
 induction h with
 | refl => exact ha
 | step _ m ih => exact B.on _ ih _ m
theorem Rch.symm {N:Cell→List Cell} {cells:List Cell} (B:Nb N cells) {a b:Cell} (ha:a∈cells) (h:Rch N a b):Rch N b a:=by
 induction h with
 | refl => exact .refl
 | @step c d h1 m ih => exact Rch.trans (Rch.step .refl (B.sym c (h1.on B ha) d m)) ih
noncomputable def rB (N:Cell→List Cell) (c e:Cell):Bool:=@decide (Rch N c e) (Classical.propDecidable _)
theorem rB_iff {N:Cell→List Cell} {c e:Cell}:rB N c e = true↔Rch N c e:=@decide_eq_true_iff _ (Classical.propDecidable _)
noncomputable def isl (N:Cell→List Cell) (cells:List Cell) (c:Cell):List Cell:=cells.filter (rB N c)
theorem mem_isl {N:Cell→List Cell} {cells:List Cell} (B:Nb N cells) {c e:Cell} (hc:c∈cells):e∈isl N cells c↔Rch N c e:=by
 unfold isl
 rw [List.mem_filter,rB_iff]
 exact ⟨fun h => h.2,fun h => ⟨h.on B hc,h⟩⟩
theorem near_nb {cs ds:Tab} {w h:Int} {l:Nat} {cells:List Cell} (mem:∀ e,e∈cells↔cuB cs w h l e = true):Nb (nearK cs ds w h l) cells:=by
 have cu:∀ a b,b∈nearK cs ds w h l a→cuB cs w h l b = true:=fun a b h => (List.mem_filter.mp h).2
 have on:∀ a,cuB cs w h l a = true→onB w h l a = true:=fun a h => by unfold cuB at h; rw [Bool.and_eq_true] at h; exact h.1
 refine ⟨fun a _ b hb => (mem b).mpr (cu a b hb),fun a ha b hb => ?_⟩
 have ca:=(mem a).mp ha
 have cb:=cu a b hb
 have h1:=(mem_near (ds:=ds) (on a ca) cb).mp hb
 refine (mem_near (ds:=ds) (on b cb) ca).mpr ?_
 unfold arN at h1 ⊢
 by_cases e:a = b
 ·rw [if_pos e] at h1; cases h1
 ·rw [if_neg e] at h1
  rw [if_neg (fun z => e z.symm)]
  by_cases e2:a.1 = b.1∧a.2.1 = b.2.1
  ·rw [if_pos e2] at h1
   rw [if_pos ⟨e2.1.symm,e2.2.symm⟩,← e2.1,← e2.2]
   exact h1
  ·rw [if_neg e2] at h1
   rw [if_neg (fun z => e2 ⟨z.1.symm,z.2.symm⟩)]
   rw [Bool.and_eq_true,decide_eq_true_iff,decide_eq_true_iff] at h1 ⊢
   refine ⟨h1.1.symm,?_⟩
   have:=h1.2
   split at this <;> split at this <;> split <;> split <;> omega
theorem le_of_sub:∀ {a b:List Cell},a.Nodup→(∀ x∈a,x∈b)→a.length≤b.length
 | [],_,_,_ => Nat.zero_le _
 | x :: a,b,nd,h => by
  obtain ⟨n1,n2⟩:=List.nodup_cons.mp nd
  have hx:=h x (List.mem_cons_self ..)
  have:=le_of_sub (a:=a) (b:=b.erase x) n2 fun y hy => (List.mem_erase_of_ne (fun z => n1 (by rw [← z]; exact hy))).mpr (h y (List.mem_cons_of_mem _ hy))
  rw [List.length_erase_of_mem hx] at this
  have hp:0 < b.length:=List.length_pos_of_mem hx
  rw [List.length_cons]; omega
structure Spr (N:Cell→List Cell) (s:Cell) (ks todo:List Cell):Prop where
 nd:ks.Nodup
 st:s∈ks
 rc:∀ k∈ks,Rch N s k
 cl:∀ k∈ks,k ∉ todo→∀ b∈N k,b∈ks
theorem Spr.all {N:Cell→List Cell} {s:Cell} {ks:List Cell} (I:Spr N s ks []) (e:Cell):e∈ks↔Rch N s e:=by
 refine ⟨I.rc e,fun h => ?_⟩
 induction h with
 | refl => exact I.st
 | step _ m ih => exact I.cl _ ih (by simp) _ m
theorem Spr.start (N:Cell→List Cell) (s:Cell):Spr N s [s] [s]:=⟨by simp,by simp,fun k h => by rw [List.mem_singleton] at h; subst h; exact .refl,fun k h n => absurd h n⟩
theorem Spr.add {N:Cell→List Cell} {s c e:Cell} {ks todo:List Cell} (I:Spr N s ks todo) (hc:c∈ks) (he:e∈N c) (hn:e ∉ ks):Spr N s (ks ++ [e]) (todo ++ [e]):=by
 refine ⟨List.nodup_append.mpr ⟨I.nd,by simp,fun a ha b hb z => ?_⟩,List.mem_append_left _ I.st,fun k hk => ?_,fun k hk nt b hb => ?_⟩
 ·rw [List.mem_singleton] at hb; subst hb; subst z; exact hn ha
 ·rcases List.mem_append.mp hk with hk | hk
  ·exact I.rc k hk
  ·rw [List.mem_singleton] at hk; subst hk; exact .step (I.rc c hc) he
 ·rcases List.mem_append.mp hk with hk | hk
  ·exact List.mem_append_left _ (I.cl k hk (fun z => nt (List.mem_append_left _ z)) b hb)
  ·exact absurd (List.mem_append_right _ hk) nt
theorem Spr.done {N:Cell→List Cell} {s c:Cell} {ks t1 t2:List Cell} (I:Spr N s ks (c :: t1 ++ t2)) (h:∀ b∈N c,b∈ks):Spr N s ks (t1 ++ t2):=by
 refine ⟨I.nd,I.st,I.rc,fun k hk nt b hb => ?_⟩
 by_cases e:k = c
 ·subst e; exact h b hb
 ·refine I.cl k hk (fun z => ?_) b hb
  rw [List.cons_append] at z
  rcases List.mem_cons.mp z with z | z
  ·exact e z
  ·exact nt z
inductive Way (N:Cell→List Cell) (s:Cell):Cell→Nat→Prop where
 | nil:Way N s s 0
 | step {a b:Cell} {n:Nat}:Way N s a n→b∈N a→Way N s b (n + 1)
theorem Way.app {N:Cell→List Cell} {a b c:Cell} {n m:Nat} (h1:Way N a b n) (h2:Way N b c m):Way N a c (n + m):=by
 induction h2 with
 | nil => exact h1
 | step _ hb ih => exact .step ih hb
theorem Way.rch {N:Cell→List Cell} {a b:Cell} {n:Nat} (h:Way N a b n):Rch N a b:=by
 induction h with
 | nil => exact .refl
 | step _ hb ih => exact .step ih hb
theorem Way.back {N:Cell→List Cell} {cells:List Cell} (B:Nb N cells) {a b:Cell} {n:Nat} (ha:a∈cells) (h:Way N a b n):Way N b a n:=by
 induction h with
 | nil => exact .nil
 | @step c d m h1 hd ih =>
  have:=Way.app (.step .nil (B.sym c (h1.rch.on B ha) d hd)) ih
  rwa [Nat.add_comm] at this
structure Lvl (N:Cell→List Cell) (s:Cell) (ks:List Cell) (lv:Cell→Nat):Prop where
 z:lv s = 0
 par:∀ e∈ks,e≠s→∃ p∈ks,e∈N p∧lv e = lv p + 1
 up:∀ a∈ks,∀ b∈N a,b∈ks∧lv b≤lv a + 1
theorem Lvl.way {N:Cell→List Cell} {s:Cell} {ks:List Cell} {lv:Cell→Nat} (L:Lvl N s ks lv):∀ (n:Nat) (e:Cell),e∈ks→lv e = n→Way N s e n
 | 0,e,he,h => by
  by_cases hs:e = s
  ·rw [hs]; exact .nil
  ·obtain ⟨p,_,_,h2⟩:=L.par e he hs
   omega
 | n + 1,e,he,h => by
  by_cases hs:e = s
  ·rw [hs,L.z] at h; cases h
  ·obtain ⟨p,hp,h1,h2⟩:=L.par e he hs
   exact .step (L.way n p hp (by omega)) h1
theorem Lvl.least {N:Cell→List Cell} {s:Cell} {ks:List Cell} {lv:Cell→Nat} (L:Lvl N s ks lv) (hs:s∈ks) {e:Cell} {n:Nat} (h:Way N s e n):e∈ks∧lv e≤n:=by
 induction h with
 | nil => exact ⟨hs,by rw [L.z]; exact Nat.le_refl _⟩
 | step _ hb ih =>
  obtain ⟨h1,h2⟩:=L.up _ ih.1 _ hb
  exact ⟨h1,by omega⟩
theorem Lvl.sym {N:Cell→List Cell} {cells:List Cell} (B:Nb N cells) {a b:Cell} {ks ks':List Cell} {lv lv':Cell→Nat} (ha:a∈cells) (hb:b∈cells) (L:Lvl N a ks lv) (L':Lvl N b ks' lv') (h1:a∈ks) (h2:b∈ks') (hab:b∈ks):a∈ks'∧lv b = lv' a:=by
 have w1:=L.way _ b hab rfl
 obtain ⟨h3,h4⟩:=L'.least h2 (w1.back B ha)
 have w2:=L'.way _ a h3 rfl
 exact ⟨h3,Nat.le_antisymm (L.least h1 (w2.back B hb)).2 h4⟩
end K23
namespace K23
open PySem L2 Wd TS
theorem perm_k3 {nks:List (List Key)} {ns:List Cell} (pm:nks.Perm (ns.map k3)):∃ nbs:List Cell,nks = nbs.map k3∧nbs.Perm ns:=by
 have e:nks = (nks.map un3).map k3:=by
  rw [List.map_map]
  exact ((List.map_congr_left (g:=id) fun k h => by
   obtain ⟨x,_,rfl⟩:=List.mem_map.mp (pm.mem_iff.mp h)
   rfl).trans (List.map_id nks)).symm
 refine ⟨nks.map un3,e,?_⟩
 have:=pm.map un3
 rw [List.map_map] at this
 have e2:ns.map (un3 ∘ k3) = ns:=(List.map_congr_left (g:=id) fun c _ => rfl).trans (List.map_id ns)
 rwa [e2] at this
theorem val_keys {bk:Tab} {ks:List Cell} (e:bk.map (·.1) = ks.map k3) {c:Cell}:(valV bk (k3 c)).isSome = true↔c∈ks:=by
 rw [val_mem,e]
 constructor
 ·intro h
  obtain ⟨d,hd,q⟩:=List.mem_map.mp h
  rw [← k3_inj q]; exact hd
 ·exact fun h => List.mem_map.mpr ⟨c,h,rfl⟩
theorem put_keys {bk:Tab} {ks:List Cell} (e:bk.map (·.1) = ks.map k3) {c:Cell} {v:V} (n:c ∉ ks):(putK bk (k3 c) v).map (·.1) = (ks ++ [c]).map k3:=by
 have hv:valV bk (k3 c) = none:=by
  cases h:valV bk (k3 c) with
  | none => rfl
  | some u => exact absurd ((val_keys e).mp (by rw [h]; rfl)) n
 rw [putK_new _ hv,List.map_append,List.map_append,e]; rfl
def Par (N:Cell→List Cell) (s:Cell) (ks:List Cell) (lv:Cell→Nat) (bk:Tab) (H:Hp):Prop:=∀ e∈ks,e≠s→∃ q p,valV bk (k3 e) = some (.ref q)∧H q = some (.tup [.int p.1,.int p.2.1,.int p.2.2])∧p∈ks∧e∈N p∧lv e = lv p + 1
theorem Par.keep {N:Cell→List Cell} {s:Cell} {ks:List Cell} {lv:Cell→Nat} {bk:Tab} {H H':Hp} (p:Par N s ks lv bk H) (k:∀ q u,H q = some (.tup u)→H' q = some (.tup u)):Par N s ks lv bk H':=fun e he hn => by
 obtain ⟨q,c,h1,h2,h3⟩:=p e he hn
 exact ⟨q,c,h1,k _ _ h2,h3⟩
def lvAdd (lv:Cell→Nat) (e:Cell) (d:Nat):Cell→Nat:=fun x => if x = e then d else lv x
theorem lvAdd_ne {lv:Cell→Nat} {e x:Cell} {d:Nat} (h:x≠e):lvAdd lv e d x = lv x:=if_neg h
theorem lvAdd_eq (lv:Cell→Nat) (e:Cell) (d:Nat):lvAdd lv e d e = d:=if_pos rfl
theorem Par.add {N:Cell→List Cell} {s c e:Cell} {ks:List Cell} {lv:Cell→Nat} {bk:Tab} {H:Hp} {q:Addr} (p:Par N s ks lv bk H) (hc:c∈ks) (he:e∈N c) (hn:e ∉ ks) (hq:H q = some (.tup [.int c.1,.int c.2.1,.int c.2.2])):Par N s (ks ++ [e]) (lvAdd lv e (lv c + 1)) (putK bk (k3 e) (.ref q)) H:=fun x hx hs => by
 have cn:c≠e:=fun z => hn (z▸hc)
 rcases List.mem_append.mp hx with hx | hx
 ·have xn:x≠e:=fun z => hn (z▸hx)
  obtain ⟨r,b,h1,h2,h3,h4,h5⟩:=p x hx hs
  have bn:b≠e:=fun z => hn (z▸h3)
  refine ⟨r,b,by rw [valV_put,if_neg (fun z => xn (k3_inj z))]; exact h1,h2,List.mem_append_left _ h3,h4,by rw [lvAdd_ne xn,lvAdd_ne bn]; exact h5⟩
 ·rw [List.mem_singleton] at hx
  subst hx
  exact ⟨q,c,by rw [valV_put,if_pos rfl],hq,List.mem_append_left _ hc,he,by rw [lvAdd_eq,lvAdd_ne cn]⟩
structure Lvs (s:Cell) (ks eds fds:List Cell) (lv:Cell→Nat) (d:Nat) (N:Cell→List Cell) (todo:List Cell):Prop where
 z:lv s = 0
 e:∀ x∈eds,lv x = d
 f:∀ x∈fds,lv x = d + 1
 le:∀ x∈ks,lv x≤d + 1
 lo:∀ x∈ks,x ∉ fds→lv x≤d
 up:∀ a∈ks,a ∉ todo→∀ b∈N a,lv b≤lv a + 1
theorem Lvs.add {s c e:Cell} {ks eds fds todo:List Cell} {lv:Cell→Nat} {d:Nat} {N:Cell→List Cell} (L:Lvs s ks eds fds lv d N todo) (hs:s∈ks) (hE:∀ x∈eds,x∈ks) (hF:∀ x∈fds,x∈ks) (hc:lv c = d) (hn:e ∉ ks) (cl:∀ k∈ks,k ∉ todo→∀ b∈N k,b∈ks):Lvs s (ks ++ [e]) eds (fds ++ [e]) (lvAdd lv e (lv c + 1)) d N (todo ++ [e]):=by
 have ne:∀ x∈ks,x≠e:=fun x hx z => hn (z▸hx)
 refine ⟨by rw [lvAdd_ne (ne s hs)]; exact L.z,fun x hx => by rw [lvAdd_ne (ne x (hE x hx))]; exact L.e x hx,fun x hx => ?_,fun x hx => ?_,fun x hx hnf => ?_,fun a ha nt b hb => ?_⟩
 ·rcases List.mem_append.mp hx with hx | hx
  ·rw [lvAdd_ne (ne x (hF x hx))]; exact L.f x hx
  ·rw [List.mem_singleton] at hx; subst hx; rw [lvAdd_eq,hc]
 ·rcases List.mem_append.mp hx with hx | hx
  ·rw [lvAdd_ne (ne x hx)]; exact L.le x hx
  ·rw [List.mem_singleton] at hx; subst hx; rw [lvAdd_eq,hc]; exact Nat.le_refl _
 ·rcases List.mem_append.mp hx with hx | hx
  ·rw [lvAdd_ne (ne x hx)]; exact L.lo x hx fun z => hnf (List.mem_append_left _ z)
  ·exact absurd (List.mem_append_right _ hx) hnf
 ·rcases List.mem_append.mp ha with ha | ha
  ·have nt':a ∉ todo:=fun z => nt (List.mem_append_left _ z)
   rw [lvAdd_ne (ne a ha),lvAdd_ne (ne b (cl a ha nt' b hb))]
   exact L.up a ha nt' b hb
  ·exact absurd (List.mem_append_right _ ha) nt
theorem Lvs.done {s c:Cell} {ks eds fds t1 t2:List Cell} {lv:Cell→Nat} {d:Nat} {N:Cell→List Cell} (L:Lvs s ks eds fds lv d N (c :: t1 ++ t2)) (hc:lv c = d) (h:∀ b∈N c,b∈ks):Lvs s ks eds fds lv d N (t1 ++ t2):=by
 refine ⟨L.z,L.e,L.f,L.le,L.lo,fun a ha nt b hb => ?_⟩
 by_cases e:a = c
 ·subst e
  rw [hc]
  exact L.le b (h b hb)
 ·refine L.up a ha (fun z => ?_) b hb
  rw [List.cons_append] at z
  rcases List.mem_cons.mp z with z | z
  ·exact e z
  ·exact nt z
theorem Lvs.next {s:Cell} {ks eds fds:List Cell} {lv:Cell→Nat} {d:Nat} {N:Cell→List Cell} (L:Lvs s ks eds fds lv d N fds):Lvs s ks fds [] lv (d + 1) N fds :=
 ⟨L.z,L.f,(fun x h => by cases h),fun x hx => Nat.le_succ_of_le (L.le x hx),fun x hx _ => L.le x hx,L.up⟩
section
variable {P:Program} {w:World} {K:PySem.W.Frag} {mg:Str→Option Value} {base:Heap} {t:Adr}
def spSpread (C:Addr):Sp:=fun vs H Q _ => ∃ (o dx c d p:Addr) (w h l:Nat) (cs ds:Tab) (s0:Cell),vs = [.ref o,.ref p]∧Bd C H o dx c d w h l cs ds∧l≤3∧cs.length≤1000∧H p = some (.tup [.int s0.1,.int s0.2.1,.int s0.2.2])∧cuB cs w h l s0 = true ∧
 ∀ (r:Addr) (bk:Tab) (ks:List Cell) (H':Hp),Same H H'→H r = none→H' r = some (.dT bk)→bk.map (·.1) = ks.map k3→ks.Nodup→(∀ e,e∈ks↔Rch (nearK cs ds w h l) s0 e)→(∃ lv:Cell→Nat,Lvl (nearK cs ds w h l) s0 ks lv∧Par (nearK cs ds w h l) s0 ks lv bk H')→Q (.ref r) H'
theorem ok_spread (T:Txt K mg t):GoodF P w K mg base 6 "spread" ["board","start"] (spSpread t.c_Board):=by
 obtain ⟨fd,F,b⟩:=T.F_spread
 have G_neighbours:=ok_neighbours (P:=P) (w:=w) (base:=base) T
 refine ⟨_,fd,F.okX sc_spread (fun vs H Q E h => ?_) (fun cdv A outer s H vs Q E hr h => ?_),b,F.kp,T.g_spread⟩
 ·obtain ⟨o,dx,c,d,p,w,h,l,cs,ds,s0,rfl,_⟩:=h
  rfl
 ·obtain ⟨o,dx,c,d,p,w,h,l,cs,ds,s0,rfl,B,l3,lc,hp,hcu,q⟩:=h
  refine ⟨_,(pss_cons (ps_set (i:=2) sc_spread.nd rfl (Or.inl rfl) (pe_disp1 (hu_of hr) (pv 1) pe_non))
   (pss_cons (ps_set (i:=3) sc_spread.nd rfl (Or.inl rfl) (pe_lst (pa_cons (pv 1) pa_nil)))
   (pss_cons (ps_while owns_of (pt_truth (pv 3) (fun _ => rfl)) (pss_cons (ps_set (i:=4) sc_spread.nd rfl (Or.inl rfl) (pe_lst pa_nil))
   (pss_cons (ps_for owns_of (pi_list (pv 3)) (pg_name (i:=5) sc_spread.nd rfl (Or.inl rfl)) (pss_one (ps_for owns_of (pi_list (pe_callG G_neighbours (hr.mono (by decide)) passes_of (by rfl) (pa_cons (pv 0) (pa_cons (pv 5) pa_nil)))) (pg_name (i:=6) sc_spread.nd rfl (Or.inl rfl)) (pss_one (ps_if (pt_cmp (pc_dnotin (hu_of hr) (pv 6) (pv 2))) (pss_cons (ps_dput (hu_of hr) (pv 2) (pv 6) (pv 5) rfl)
   (pss_one (ps_expr (pe_bm PySem.F.plainAttrs_list PySem.F.slot_list_append PySem.F.type_list_append mt_append (pv 4) (pa_cons (pv 6) pa_nil))))) pss_nil)))))
   (pss_one (ps_set (i:=3) sc_spread.nd rfl (Or.inl rfl) (pv 4))))))
   (pss_one (ps_ret (pv 2)))))),?_⟩
  obtain ⟨cells,ecells,ndc,memc⟩:=cells_of B.C (List.Perm.refl _)
  have ncl:cells.length = cs.length:=by have:=congrArg List.length ecells; rw [List.length_map,List.length_map] at this; exact this.symm
  have NB:=near_nb (ds:=ds) memc
  have hs0:=(memc s0).mpr hcu
  generalize eN:nearK cs ds w h l = N at NB q
  refine fun r hr0 => ⟨_,rfl,p,k3 s0,rfl,upd_same,by rw [upd_ne (ne_of_none hp hr0)]; exact hp,?_⟩
  have s1:Same H (upd (upd H r (.dT [])) r (.dT [(k3 s0,.non)])):=fun b u e => by rw [upd_ne (ne_of_none e hr0),upd_ne (ne_of_none e hr0)]; exact e
  have e1:upd (upd H r (.dT [])) r (.dT [(k3 s0,.non)]) r = some (.dT [(k3 s0,.non)]):=upd_same
  refine gName_go ?_
  dsimp only
  generalize upd (upd H r (.dT [])) r (.dT [(k3 s0,.non)]) = H1 at s1 e1 ⊢
  refine ⟨_,rfl,(by show 1≤sizeLine; decide),fun ed hed => ?_⟩
  have s2:=same_new (o:=.lst [.ref p]) (Same.refl H1) hed
  have e2:upd H1 ed (.lst [.ref p]) ed = some (.lst ([p].map V.ref)):=upd_same
  refine gName_go ?_
  dsimp only
  generalize upd H1 ed (.lst [.ref p]) = H2 at s2 e2 ⊢
  have s02:=Same.trans s1 s2
  refine ⟨fun m σ H' => ∃ (ed:Addr) (v4 v5 v6:Option V) (bk:Tab) (ks eds:List Cell) (es:List Addr),σ = [some (.ref o),some (.ref p),some (.ref r),some (.ref ed),v4,v5,v6]∧Same H H'∧H' r = some (.dT bk)∧bk.map (·.1) = ks.map k3∧H' ed = some (.lst (es.map V.ref))∧Cells H' es eds∧Spr N s0 ks eds∧(∀ e∈eds,e∈ks)∧(∃ lv d,Lvs s0 ks eds [] lv d N eds∧Par N s0 ks lv bk H')∧m = 2 * (cells.length - ks.length) + eds.length.min 1,⟨_,ed,_,_,_,_,[s0],[s0],[p],rfl,s02,s2 _ _ e1,rfl,e2,⟨rfl,fun i q c h1 h2 => ?_⟩,Spr.start N s0,fun e h => h,⟨fun _ => 0,0,⟨rfl,fun _ _ => rfl,(fun x h => by cases h),fun _ _ => Nat.zero_le _,fun _ _ _ => Nat.le_refl _,fun a ha hn => absurd ha hn⟩,fun e he hn => absurd (List.mem_singleton.mp he) hn⟩,rfl⟩,?_⟩
  ·match i with
   | 0 => cases h1; cases h2; exact s02 _ _ hp
   | i + 1 => cases h1
  rintro m σ H3 ⟨ed,v4,v5,v6,bk,ks,eds,es,rfl,s3,er3,ek3,ee3,C3,I3,sub3,⟨lv3,d3,LV3,PA3⟩,em⟩
  refine ⟨_,rfl,_,.inl ⟨_,SqL.of ee3,rfl⟩,iteNB (fun hf => ?_) fun ht => ?_⟩
  ·refine ⟨fun σ' H' => ∃ m',m' < m∧∃ (ed:Addr) (v4 v5 v6:Option V) (bk:Tab) (ks eds:List Cell) (es:List Addr),σ' = [some (.ref o),some (.ref p),some (.ref r),some (.ref ed),v4,v5,v6]∧Same H H'∧H' r = some (.dT bk)∧bk.map (·.1) = ks.map k3∧H' ed = some (.lst (es.map V.ref))∧Cells H' es eds∧Spr N s0 ks eds∧(∀ e∈eds,e∈ks)∧(∃ lv d,Lvs s0 ks eds [] lv d N eds∧Par N s0 ks lv bk H')∧m' = 2 * (cells.length - ks.length) + eds.length.min 1,fun _ _ h => h,?_⟩
   have hpos:0 < eds.length:=by
    rw [← C3.1]
    cases es with
    | nil => cases hf
    | cons a r => exact Nat.succ_pos _
   refine ⟨(by show 0≤sizeLine; omega),fun fa hfa => ?_⟩
   have s4:=same_new (o:=.lst []) (Same.refl H3) hfa
   have e4:upd H3 fa (.lst []) fa = some (.lst (([]:List Addr).map V.ref)):=upd_same
   refine gName_go ?_
   dsimp only
   generalize upd H3 fa (.lst []) = H4 at s4 e4 ⊢
   have hfa0:H fa = none:=by
    cases e:H fa with
    | none => rfl
    | some u => rw [s3 _ _ e] at hfa; cases hfa
   have nfe:fa≠ed:=fun z => by rw [z,ee3] at hfa; cases hfa
   have nfr:fa≠r:=fun z => by rw [z,er3] at hfa; cases hfa
   have ner:ed≠r:=ne_of ee3 er3 (by intro z; cases z)
   refine seq_gen (fun σ H' => ∃ (v5 v6:Option V) (bk:Tab) (ks' fds:List Cell) (fs:List Addr),σ = [some (.ref o),some (.ref p),some (.ref r),some (.ref ed),some (.ref fa),v5,v6]∧Same H H'∧H' r = some (.dT bk)∧bk.map (·.1) = ks'.map k3∧H' fa = some (.lst (fs.map V.ref))∧Cells H' fs fds∧Spr N s0 ks' fds∧(∀ e∈fds,e∈ks')∧(∃ lv,Lvs s0 ks' eds fds lv d3 N fds∧Par N s0 ks' lv bk H')∧ks'.length = ks.length + fds.length) (fun B' nx => ?_) ?_
   ·refine ⟨_,rfl,ed,rfl,⟨_,SqL.of (s4 _ _ ee3)⟩,for_list (xs:=es.map V.ref) (fun i σ H' => ∃ (v5 v6:Option V) (bk:Tab) (ks' fds:List Cell) (fs:List Addr),σ = [some (.ref o),some (.ref p),some (.ref r),some (.ref ed),some (.ref fa),v5,v6]∧Same H H'∧H' r = some (.dT bk)∧bk.map (·.1) = ks'.map k3∧H' ed = some (.lst (es.map V.ref))∧Cells H' es eds∧H' fa = some (.lst (fs.map V.ref))∧Cells H' fs fds∧Spr N s0 ks' (eds.drop i ++ fds)∧(∀ e∈eds,e∈ks')∧(∀ e∈fds,e∈ks')∧(∃ lv,Lvs s0 ks' eds fds lv d3 N (eds.drop i ++ fds)∧Par N s0 ks' lv bk H')∧ks'.length = ks.length + fds.length) ⟨_,_,bk,ks,[],[],rfl,Same.trans s3 s4,s4 _ _ er3,ek3,s4 _ _ ee3,C3.same s4,e4,⟨rfl,(fun i p c h => by cases h)⟩,by rw [List.drop_zero,List.append_nil]; exact I3,sub3,(fun e h => by cases h),⟨lv3,by rw [List.drop_zero,List.append_nil]; exact LV3,PA3.keep fun q u e => s4 _ _ e⟩,rfl⟩ (fun i σ H' _ hh => by obtain ⟨_,_,_,_,_,_,_,_,_,_,e,_⟩:=hh;exact SqL.of e) ?_ ?_⟩
    ·rintro i v σ H5 hv ⟨v5,v6,bk5,ks5,fds5,fs5,rfl,s5,er5,ek5,ee5,C5,ef5,CF5,I5,sub5,subf5,⟨lv5,LV5,PA5⟩,len5⟩
     rw [List.getElem?_map] at hv
     obtain ⟨pc,hpc,rfl⟩:=Option.map_eq_some_iff.mp hv
     have hi:i < eds.length:=by rw [← C5.1]; exact (List.getElem?_eq_some_iff.mp hpc).1
     have epc:=C5.2 i pc _ hpc (List.getElem?_eq_getElem hi)
     have hin:=sub5 _ (List.getElem_mem hi)
     have hlc:∀ lv:Cell→Nat,(∀ x∈eds,lv x = d3)→lv eds[i] = d3:=fun lv h => h _ (List.getElem_mem hi)
     have ed1:eds.drop i = eds[i] :: eds.drop (i + 1):=List.drop_eq_getElem_cons hi
     generalize eds[i] = cc at epc hin ed1 hlc
     have B5:=B.same s5
     refine ⟨_,rfl,_,rfl,o,dx,c,d,pc,w,h,cc.1,cc.2.1,cc.2.2,l,cs,ds,rfl,B5.o,B5.c,B5.d,l3,epc,fun nl bs nks H6 s6 hnl e6 ka pm up => ?_⟩
     obtain ⟨nbs,rfl,pm2⟩:=perm_k3 pm
     have pmN:∀ e,e∈nbs↔e∈N cc:=fun e => by rw [pm2.mem_iff,← eN]
     have CN6:=Cells.of_key ka
     have nnf:nl≠fa:=fun z => by rw [z,ef5] at hnl; cases hnl
     refine ⟨nl,rfl,⟨_,SqL.of e6⟩,for_list (xs:=bs.map V.ref) (fun j σ H' => ∃ (v6:Option V) (bk:Tab) (ks' fds:List Cell) (fs:List Addr),σ = [some (.ref o),some (.ref p),some (.ref r),some (.ref ed),some (.ref fa),some (.ref pc),v6]∧Same H H'∧H' r = some (.dT bk)∧bk.map (·.1) = ks'.map k3∧H' ed = some (.lst (es.map V.ref))∧Cells H' es eds∧H' fa = some (.lst (fs.map V.ref))∧Cells H' fs fds∧H' nl = some (.lst (bs.map V.ref))∧Cells H' bs nbs∧H' pc = some (.tup [.int cc.1,.int cc.2.1,.int cc.2.2])∧Spr N s0 ks' (eds.drop i ++ fds)∧(∀ e∈eds,e∈ks')∧(∀ e∈fds,e∈ks')∧(∃ lv,Lvs s0 ks' eds fds lv d3 N (eds.drop i ++ fds)∧Par N s0 ks' lv bk H')∧ks'.length = ks.length + fds.length∧cc∈ks'∧∀ e∈nbs.take j,e∈ks') ⟨_,bk5,ks5,fds5,fs5,rfl,Same.trans s5 s6,s6 _ _ er5,ek5,s6 _ _ ee5,C5.same s6,s6 _ _ ef5,CF5.same s6,e6,CN6,s6 _ _ epc,I5,sub5,subf5,⟨lv5,LV5,PA5.keep fun q u e => s6 _ _ e⟩,len5,hin,(fun e h => by simp at h)⟩ (fun j σ H' _ hh => by obtain ⟨_,_,_,_,_,_,_,_,_,_,_,_,_,e,_⟩:=hh;exact SqL.of e) ?_ ?_⟩
     ·rintro j v σ H7 hv ⟨v6',bk7,ks7,fds7,fs7,rfl,s7,er7,ek7,ee7,C7,ef7,CF7,en7,CN7,epc7,I7,sub7,subf7,⟨lv7,LV7,PA7⟩,len7,hin7,tk7⟩
      rw [List.getElem?_map] at hv
      obtain ⟨pe,hpe,rfl⟩:=Option.map_eq_some_iff.mp hv
      have hj:j < nbs.length:=by rw [← CN7.1]; exact (List.getElem?_eq_some_iff.mp hpe).1
      have ej:=List.getElem?_eq_getElem hj
      have epe:=CN7.2 j pe _ hpe ej
      have hmN:=(pmN _).mp (List.getElem_mem hj)
      have tk:∀ ks':List Cell,(∀ e∈nbs.take j,e∈ks')→nbs[j]∈ks'→∀ e∈nbs.take (j + 1),e∈ks':=fun ks' h1 h2 e he => by
       rw [List.take_succ,ej] at he
       rcases List.mem_append.mp he with he | he
       ·exact h1 e he
       ·simp at he; subst he; exact h2
      generalize nbs[j] = e at epe hmN tk
      have lk:ks7.length≤cells.length:=le_of_sub I7.nd fun x hx => (I7.rc x hx).on NB hs0
      have lb:bk7.length = ks7.length:=by have:=congrArg List.length ek7; rw [List.length_map,List.length_map] at this; exact this
      refine ⟨_,rfl,_,rfl,r,_,rfl,DGet.t (k:=k3 e) er7 epe,_,rfl,iteNB (fun hf => ?_) fun ht => ⟨_,bk7,ks7,fds7,fs7,rfl,s7,er7,ek7,ee7,C7,ef7,CF7,en7,CN7,epc7,I7,sub7,subf7,⟨lv7,LV7,PA7⟩,len7,hin7,tk ks7 tk7 ((val_keys ek7).mp ht)⟩⟩
      have hne:e ∉ ks7:=fun z => by rw [(val_keys ek7).mpr z] at hf; cases hf
      refine ⟨_,rfl,_,rfl,_,rfl,r,_,rfl,DPut.t (k:=k3 e) er7 epe (Nat.lt_of_le_of_lt (show _≤1000 by omega) (by decide)),?_⟩
      have nrf:fa≠r:=nfr
      have ef8:upd H7 r (.dT (putK bk7 (k3 e) (.ref pc))) fa = some (.lst (fs7.map V.ref)):=lst_dt ef7 er7
      have lf:fs7.length≤1000:=by rw [CF7.1]; have:=lk; omega
      refine ⟨_,rfl,.inl ⟨rfl,_,SqL.of ef8⟩,_,rfl,fa,_,_,rfl,rfl,ef8,by rw [List.length_map]; exact Nat.lt_of_le_of_lt lf (by decide),_,_,ks7 ++ [e],fds7 ++ [e],fs7 ++ [pe],rfl,fun b u eb => ?_,by rw [upd_ne (Ne.symm nrf)]; exact upd_same,put_keys ek7 hne,?_,?_,by rw [upd_same,List.map_append]; rfl,?_,?_,?_,?_,?_,fun x hx => List.mem_append_left _ (sub7 x hx),fun x hx => ?_,⟨lvAdd lv7 e (lv7 cc + 1),by rw [← List.append_assoc]; exact LV7.add I7.st sub7 subf7 (hlc lv7 LV7.e) hne I7.cl,(PA7.add hin7 hmN hne epc7).keep fun q u eq => ?_⟩,by rw [List.length_append,List.length_append]; show _ + 1 = _ + (_ + 1); omega,List.mem_append_left _ hin7,tk _ (fun x hx => List.mem_append_left _ (tk7 x hx)) (by simp)⟩
      ·rw [upd_ne (ne_of_none eb hfa0),upd_ne (ne_of_none eb hr0)]; exact s7 _ _ eb
      ·rw [upd_ne (Ne.symm nfe)]; exact lst_dt ee7 er7
      ·exact (C7.dt er7).wr ef8
      ·exact ((CF7.dt er7).snoc (by rw [upd_ne (ne_of epe er7 (by intro z; cases z))]; exact epe)).wr ef8
      ·rw [upd_ne nnf]; exact lst_dt en7 er7
      ·exact (CN7.dt er7).wr ef8
      ·rw [upd_ne (ne_of (show upd H7 r (.dT (putK bk7 (k3 e) (.ref pc))) pc = some (.tup [.int cc.1,.int cc.2.1,.int cc.2.2]) by rw [upd_ne (ne_of epc7 er7 (by intro z; cases z))]; exact epc7) ef8 (by intro z; cases z)),upd_ne (ne_of epc7 er7 (by intro z; cases z))]; exact epc7
      ·have:=I7.add hin7 hmN hne
       rwa [List.append_assoc] at this
      ·rcases List.mem_append.mp hx with hx | hx
       ·exact List.mem_append_left _ (subf7 x hx)
       ·exact List.mem_append_right _ hx
      ·have e8:upd H7 r (.dT (putK bk7 (k3 e) (.ref pc))) q = some (.tup u):=by rw [upd_ne (ne_of eq er7 (by intro z; cases z))]; exact eq
       rw [upd_ne (ne_of e8 ef8 (by intro z; cases z))]; exact e8
     ·rintro σ H7 ⟨v6',bk7,ks7,fds7,fs7,rfl,s7,er7,ek7,ee7,C7,ef7,CF7,en7,CN7,epc7,I7,sub7,subf7,⟨lv7,LV7,PA7⟩,len7,hin7,tk7⟩
      rw [List.length_map,CN7.1,List.take_length] at tk7
      have hall:∀ b∈N cc,b∈ks7:=fun b hb => tk7 b ((pmN b).mpr hb)
      rw [ed1] at I7 LV7
      exact ⟨_,_,bk7,ks7,fds7,fs7,rfl,s7,er7,ek7,ee7,C7,ef7,CF7,I7.done hall,sub7,subf7,⟨lv7,LV7.done (hlc lv7 LV7.e) hall,PA7⟩,len7⟩
    ·rintro σ H5 ⟨v5,v6,bk5,ks5,fds5,fs5,rfl,s5,er5,ek5,ee5,C5,ef5,CF5,I5,sub5,subf5,⟨lv5,LV5,PA5⟩,len5⟩
     rw [List.length_map,C5.1,List.drop_length,List.nil_append] at I5 LV5
     exact nx _ _ ⟨_,_,bk5,ks5,fds5,fs5,rfl,s5,er5,ek5,ef5,CF5,I5,subf5,⟨lv5,LV5,PA5⟩,len5⟩
   ·rintro σ H5 ⟨v5,v6,bk5,ks5,fds5,fs5,rfl,s5,er5,ek5,ef5,CF5,I5,subf5,⟨lv5,LV5,PA5⟩,len5⟩
    have lk:ks5.length≤cells.length:=le_of_sub I5.nd fun x hx => (I5.rc x hx).on NB hs0
    refine ⟨_,rfl,2 * (cells.length - ks5.length) + fds5.length.min 1,?_,fa,_,_,_,bk5,ks5,fds5,fs5,rfl,s5,er5,ek5,ef5,CF5,I5,subf5,⟨lv5,d3 + 1,LV5.next,PA5⟩,rfl⟩
    rw [em]
    have m1:eds.length.min 1 = 1:=Nat.min_eq_right hpos
    have m2:fds5.length.min 1≤fds5.length:=Nat.min_le_left _ _
    have m3:fds5.length.min 1≤1:=Nat.min_le_right _ _
    rw [m1]
    omega
  ·have he:eds = []:=by
    refine List.eq_nil_of_length_eq_zero ?_
    rw [← C3.1]
    cases es with
    | nil => rfl
    | cons a r => cases ht
   subst he
   refine ⟨_,rfl,q r bk ks H3 s3 hr0 er3 ek3 I3.nd (fun e => I3.all e) ⟨lv3,⟨LV3.z,fun e he hn => ?_,fun a ha b hb => ⟨I3.cl a ha (by simp) b hb,LV3.up a ha (by simp) b hb⟩⟩,PA3⟩⟩
   obtain ⟨_,p,_,_,h3,h4,h5⟩:=PA3 e he hn
   exact ⟨p,h3,h4,h5⟩
end
end K23
namespace K23
open PySem L2 Wd TS
structure CL (cs:Tab) (w h l:Nat) (cells:List Cell):Prop where
 up:(cells.map k3).Pairwise fun a b => lx b a = false
 nd:cells.Nodup
 mem:∀ e,e∈cells↔cuB cs w h l e = true
theorem CL.of {cs:Tab} {w h l:Nat} (T:TabC cs w h l) {ks:List (List Key)} (pm:ks.Perm (cs.map (·.1))) (up:ks.Pairwise fun a b => lx b a = false):∃ cells:List Cell,ks = cells.map k3∧CL cs w h l cells∧cells.length = cs.length:=by
 obtain ⟨cells,e,nd,mem⟩:=cells_of T pm
 have:=pm.length_eq
 rw [e,List.length_map,List.length_map] at this
 exact ⟨cells,e,⟨e▸up,nd,mem⟩,this⟩
theorem CL.eq {cs:Tab} {w h l:Nat} {cells:List Cell} (L:CL cs w h l cells) (T:TabC cs w h l) {ks:List (List Key)} (pm:ks.Perm (cs.map (·.1))) (up:ks.Pairwise fun a b => lx b a = false):ks = cells.map k3:=by
 obtain ⟨c2,e,L2,_⟩:=CL.of T pm up
 subst e
 exact sorted_eq (((List.perm_ext_iff_of_nodup L2.nd L.nd).mpr fun e => by rw [L2.mem,L.mem]).map k3) up L.up
theorem CL.len {cs:Tab} {w h l:Nat} {cells:List Cell} (L:CL cs w h l cells) (T:TabC cs w h l):cells.length = cs.length:=by
 obtain ⟨c2,e,nd,mem⟩:=cells_of T (List.Perm.refl _)
 have h1:=((List.perm_ext_iff_of_nodup L.nd nd).mpr fun e => by rw [L.mem,mem]).length_eq
 have h2:=congrArg List.length e
 rw [List.length_map,List.length_map] at h2
 omega
theorem isl_sorted {N:Cell→List Cell} {cells ks:List Cell} {ks':List (List Key)} {s0:Cell} (B:Nb N cells) (hs:s0∈cells) (nd:cells.Nodup) (up:(cells.map k3).Pairwise fun a b => lx b a = false) (pm:ks'.Perm (ks.map k3)) (up':ks'.Pairwise fun a b => lx b a = false) (nk:ks.Nodup) (mem:∀ e,e∈ks↔Rch N s0 e):ks' = (isl N cells s0).map k3:=by
 refine sorted_eq (pm.trans (List.Perm.map k3 ?_)) up' (List.Pairwise.sublist (List.filter_sublist.map k3) up)
 exact (List.perm_ext_iff_of_nodup nk (nd.filter _)).mpr fun e => by rw [mem]; exact (mem_isl B hs).symm
section
variable {P:Program} {w:World} {K:PySem.W.Frag} {mg:Str→Option Value} {base:Heap} {t:Adr}
def spIsl (C:Addr):Sp:=fun vs H Q _ => ∃ (o dx c d p:Addr) (w h l:Nat) (cs ds:Tab) (s0:Cell) (cells:List Cell),vs = [.ref o,.ref p]∧Bd C H o dx c d w h l cs ds∧l≤3∧cs.length≤1000∧H p = some (.tup [.int s0.1,.int s0.2.1,.int s0.2.2])∧s0∈cells∧CL cs w h l cells ∧
 ∀ (r:Addr) (bs:List Addr) (H':Hp),Same H H'→H r = none→H' r = some (.lst (bs.map V.ref))→Cells H' bs (isl (nearK cs ds w h l) cells s0)→Q (.ref r) H'
theorem ok_island_of (T:Txt K mg t):GoodF P w K mg base 7 "island_of" ["board","cell"] (spIsl t.c_Board):=by
 obtain ⟨fd,F,b⟩:=T.F_island_of
 have G_need_copper:=ok_need_copper (P:=P) (w:=w) (base:=base) T
 have G_spread:=ok_spread (P:=P) (w:=w) (base:=base) T
 refine ⟨_,fd,F.okX sc_island_of (fun vs H Q E h => ?_) (fun cdv A outer s H vs Q E hr h => ?_),b,F.kp,T.g_island_of⟩
 ·obtain ⟨o,dx,c,d,p,w,h,l,cs,ds,s0,cells,rfl,_⟩:=h
  rfl
 ·obtain ⟨o,dx,c,d,p,w,h,l,cs,ds,s0,cells,rfl,B,l3,lc,hp,hin,L,q⟩:=h
  refine ⟨_,(pss_cons (ps_expr (pe_callG G_need_copper (hr.mono (by decide)) passes_of (by rfl) (pa_cons (pv 0) (pa_cons (pv 1) pa_nil))))
   (pss_one (ps_ret (pe_callB (call_sortedD rfl) (by rfl) T.n_sorted b_sorted (pa_cons (pe_callG G_spread (hr.mono (by decide)) passes_of (by rfl) (pa_cons (pv 0) (pa_cons (pv 1) pa_nil))) pa_nil))))),?_⟩
  have hcu:=(L.mem s0).mp hin
  refine ⟨_,rfl,_,rfl,o,dx,c,d,p,w,h,l,s0.1,s0.2.1,s0.2.2,cs,rfl,B.o,B.c,hp,fun _ H1 s1 => ?_,fun z => absurd hcu (by rw [z]; decide)⟩
  refine ⟨_,rfl,_,rfl,o,dx,c,d,p,w,h,l,cs,ds,s0,rfl,B.same s1,l3,lc,s1 _ _ hp,hcu,fun r bk ks H2 s2 hr2 er ek nk mem _ => ?_⟩
  refine ⟨r,bk,[true,true,true],rfl,er,fun kv hkv => ?_,by decide,fun p2 bs ks' hp2 ka pm up => ?_⟩
  ·obtain ⟨c0,_,e0⟩:=List.mem_map.mp (ek▸List.mem_map.mpr ⟨kv,hkv,rfl⟩:kv.1∈ks.map k3)
   rw [← e0]; rfl
  ·rw [ek] at pm
   have e:=isl_sorted (near_nb (ds:=ds) L.mem) hin L.nd L.up pm up nk mem
   subst e
   have s3:=same_new (o:=.lst (bs.map V.ref)) (Same.refl H2) hp2
   have s13:=Same.trans s1 (Same.trans s2 s3)
   refine q p2 bs _ s13 ?_ upd_same ((Cells.of_key ka).same s3)
   cases e:H p2 with
   | none => rfl
   | some u => rw [Same.trans s1 s2 _ _ e] at hp2; cases hp2
def l3c (c:Cell):List Int:=[c.1,c.2.1,c.2.2]
theorem nodup_lv {l:List Cell} {f:Cell→Nat} {n:Nat} (h:∀ i x,l[i]? = some x→f x + i = n):l.Nodup:=by
 refine List.pairwise_iff_getElem.mpr fun i j hi hj hij e => ?_
 have h1:=h i _ (List.getElem?_eq_getElem hi)
 have h2:=h j _ (List.getElem?_eq_getElem hj)
 rw [e] at h1
 omega
theorem snoc_get {l:List Cell} {c:Cell} {i:Nat} {x:Cell} (h:(l ++ [c])[i]? = some x):(i < l.length∧l[i]? = some x)∨(i = l.length∧x = c):=by
 by_cases hi:i < l.length
 ·rw [List.getElem?_append_left hi] at h
  exact .inl ⟨hi,h⟩
 ·rw [List.getElem?_append_right (by omega)] at h
  obtain ⟨d,hd⟩:∃ d,i - l.length = d:=⟨_,rfl⟩
  rw [hd] at h
  cases d with
  | zero => cases h; exact .inr ⟨by omega,rfl⟩
  | succ d => cases h
theorem snoc_last (l:List Cell) (c:Cell):(l ++ [c])[l.length]? = some c:=by
 rw [List.getElem?_append_right (Nat.le_refl _),Nat.sub_self]; rfl
structure Wlk (N:Cell→List Cell) (one other:Cell) (pl:List Cell) (n:Nat):Prop where
 first:pl[0]? = some one
 last:pl[pl.length - 1]? = some other
 near:∀ i x y,pl[i]? = some x→pl[i + 1]? = some y→y∈N x
 nd:pl.Nodup
 len:pl.length = n + 1
def spWalk (C:Addr):Sp:=fun vs H Q _ => ∃ (o dx c d p r:Addr) (w h l:Nat) (cs ds:Tab) (one other:Cell) (cells:List Cell),vs = [.ref o,.ref p,.ref r]∧Bd C H o dx c d w h l cs ds∧l≤3∧cs.length≤900∧H p = some (.tup [.int one.1,.int one.2.1,.int one.2.2])∧H r = some (.tup [.int other.1,.int other.2.1,.int other.2.2])∧one∈cells∧other∈cells∧CL cs w h l cells ∧
 (¬ Rch (nearK cs ds w h l) other one→∀ H',Same H H'→Q .non H') ∧
 ∀ (D:Addr) (bs:List Addr) (pl:List Cell) (ks:List Cell) (lv:Cell→Nat) (H':Hp),Same H H'→H D = none→H' D = some (.lst (bs.map V.ref))→Cells H' bs pl→Lvl (nearK cs ds w h l) other ks lv→other∈ks→one∈ks→Wlk (nearK cs ds w h l) one other pl (lv one)→pl.length≤900→Q (.ref D) H'
theorem ok_walk (T:Txt K mg t):GoodF P w K mg base 7 "walk" ["board","one","other"] (spWalk t.c_Board):=by
 obtain ⟨fd,F,b⟩:=T.F_walk
 have G_need_copper:=ok_need_copper (P:=P) (w:=w) (base:=base) T
 have G_spread:=ok_spread (P:=P) (w:=w) (base:=base) T
 refine ⟨_,fd,F.okX sc_walk (fun vs H Q E h => ?_) (fun cdv A outer s H vs Q E hr h => ?_),b,F.kp,T.g_walk⟩
 ·obtain ⟨o,dx,c,d,p,r,w,h,l,cs,ds,one,other,cells,rfl,_⟩:=h
  rfl
 ·obtain ⟨o,dx,c,d,p,r,w,h,l,cs,ds,one,other,cells,rfl,B,l3,lc,hp,hr1,ho1,ho2,L,q0,q1⟩:=h
  refine ⟨_,(pss_cons (ps_expr (pe_callG G_need_copper (hr.mono (by decide)) passes_of (by rfl) (pa_cons (pv 0) (pa_cons (pv 1) pa_nil))))
   (pss_cons (ps_expr (pe_callG G_need_copper (hr.mono (by decide)) passes_of (by rfl) (pa_cons (pv 0) (pa_cons (pv 2) pa_nil))))
   (pss_cons (ps_set (i:=3) sc_walk.nd rfl (Or.inl rfl) (pe_callG G_spread (hr.mono (by decide)) passes_of (by rfl) (pa_cons (pv 0) (pa_cons (pv 2) pa_nil))))
   (pss_cons (ps_if (pt_cmp (pc_dnotin (hu_of hr) (pv 1) (pv 3))) (pss_one (ps_ret pe_non)) pss_nil)
   (pss_cons (ps_set (i:=4) sc_walk.nd rfl (Or.inl rfl) (pe_lst (pa_cons (pv 1) pa_nil)))
   (pss_cons (ps_while owns_of (pt_cmpR (op_neT hr.units0) (pe_ix ix_list (pv 4) (pe_un un_neg pe_int) (fun _ _ => rfl)) (pv 2) (nomark _)) (pss_one (ps_expr (pe_bm PySem.F.plainAttrs_list PySem.F.slot_list_append PySem.F.type_list_append mt_append (pv 4) (pa_cons (pe_dget (hu_of hr) (pv 3) (pe_ix ix_list (pv 4) (pe_un un_neg pe_int) (fun _ _ => rfl)) (fun _ _ => rfl)) pa_nil)))))
   (pss_one (ps_ret (pv 4))))))))),?_⟩
  have NB:=near_nb (ds:=ds) L.mem
  have lcc:=L.len B.C
  have hc1:=(L.mem one).mp ho1
  have hc2:=(L.mem other).mp ho2
  refine ⟨_,rfl,_,rfl,o,dx,c,d,p,w,h,l,one.1,one.2.1,one.2.2,cs,rfl,B.o,B.c,hp,fun _ H1 s1 => ?_,fun z => absurd hc1 (by rw [z]; decide)⟩
  refine ⟨_,rfl,_,rfl,o,dx,c,d,r,w,h,l,other.1,other.2.1,other.2.2,cs,rfl,s1 _ _ B.o,s1 _ _ B.c,s1 _ _ hr1,fun _ H2 s2 => ?_,fun z => absurd hc2 (by rw [z]; decide)⟩
  have s02:=Same.trans s1 s2
  refine ⟨_,rfl,_,rfl,o,dx,c,d,r,w,h,l,cs,ds,other,rfl,B.same s02,l3,by omega,s02 _ _ hr1,hc2,fun ba bk ks H3 s3 hba eb ek nk mem ⟨lv,LV,PA⟩ => ?_⟩
  have s03:=Same.trans s02 s3
  refine gName_go ?_
  dsimp only
  have hko:other∈ks:=(mem other).mpr .refl
  have lks:ks.length≤cells.length:=le_of_sub nk fun x hx => ((mem x).mp hx).on NB ho2
  refine ⟨_,rfl,_,rfl,ba,_,rfl,DGet.t (k:=k3 one) eb (s03 _ _ hp),_,rfl,iteNB (fun hf => ?_) fun ht => ?_⟩
  ·refine q0 (fun z => ?_) H3 s03
   rw [(val_keys ek).mpr ((mem one).mpr z)] at hf; cases hf
  have hk1:one∈ks:=(val_keys ek).mp ht
  refine ⟨_,rfl,(by show 1≤sizeLine; decide),fun D hD => ?_⟩
  have s4:=same_new (o:=.lst [.ref p]) (Same.refl H3) hD
  have e4:upd H3 D (.lst [.ref p]) D = some (.lst ((([]:List Addr) ++ [p]).map V.ref)):=upd_same
  refine gName_go ?_
  dsimp only
  generalize upd H3 D (.lst [.ref p]) = H4 at s4 e4 ⊢
  have hD0:H D = none:=by
   cases e:H D with
   | none => rfl
   | some u => rw [s03 _ _ e] at hD; cases hD
  have s04:=Same.trans s03 s4
  have nDb:ba≠D:=fun z => by rw [z] at eb; rw [eb] at hD; cases hD
  refine ⟨fun m σ H' => ∃ (bs:List Addr) (q:Addr) (pl:List Cell) (c:Cell),σ = [some (.ref o),some (.ref p),some (.ref r),some (.ref ba),some (.ref D)]∧Same H H'∧H' D = some (.lst ((bs ++ [q]).map V.ref))∧Cells H' (bs ++ [q]) (pl ++ [c])∧(∀ x∈pl ++ [c],x∈ks)∧(∀ i x,(pl ++ [c])[i]? = some x→lv x + i = lv one)∧(pl ++ [c])[0]? = some one∧(∀ i x y,(pl ++ [c])[i]? = some x→(pl ++ [c])[i + 1]? = some y→y∈nearK cs ds w h l x)∧H' ba = some (.dT bk)∧Par (nearK cs ds w h l) other ks lv bk H'∧m = lv c,⟨_,[],p,[],one,rfl,s04,e4,⟨rfl,fun i q c h1 h2 => ?_⟩,fun x hx => ?_,fun i x hx => ?_,rfl,fun i x y _ hy => ?_,s4 _ _ eb,PA.keep fun q u e => s4 _ _ e,rfl⟩,?_⟩
  ·match i with
   | 0 => cases h1; cases h2; exact s04 _ _ hp
   | i + 1 => cases h1
  ·rw [List.nil_append,List.mem_singleton] at hx; rw [hx]; exact hk1
  ·match i with
   | 0 => cases hx; rfl
   | i + 1 => cases hx
  ·cases hy
  rintro m σ H5 ⟨bs,qq,pl,cc,rfl,s5,e5,C5,in5,lv5,f5,n5,eb5,P5,em⟩
  have ecc:H5 qq = some (.tup [.int cc.1,.int cc.2.1,.int cc.2.2]):=by
   have hl:=C5.1
   rw [List.length_append,List.length_append] at hl
   have hl2:bs.length = pl.length:=by simpa using hl
   refine C5.2 pl.length qq cc ?_ (snoc_last pl cc)
   rw [← hl2,List.getElem?_append_right (Nat.le_refl _),Nat.sub_self]; rfl
  have eat:atI ((bs ++ [qq]).map V.ref) (-1) = some (.ref qq):=by
   rw [List.map_append]; exact atI_last _ _
  have hcc:=in5 cc (by simp)
  have lc5:=lv5 pl.length cc (snoc_last pl cc)
  have nd5:=nodup_lv lv5
  have len5:(pl ++ [cc]).length≤ks.length:=le_of_sub nd5 in5
  have er5:=s5 _ _ hr1
  refine ⟨_,rfl,1,rfl,D,_,-1,.ref qq,rfl,rfl,SqL.of e5,eat,_,rfl,qq,r,l3c cc,l3c other,rfl,rfl,SqT.of ecc,SqT.of er5,_,rfl,iteNB (fun hf => ?_) fun ht => ?_⟩
  ·have hne:cc≠other:=fun z => of_decide_eq_false hf (by rw [z])
   refine ⟨fun σ' H' => ∃ m',m' < m∧∃ (bs:List Addr) (q:Addr) (pl:List Cell) (c:Cell),σ' = [some (.ref o),some (.ref p),some (.ref r),some (.ref ba),some (.ref D)]∧Same H H'∧H' D = some (.lst ((bs ++ [q]).map V.ref))∧Cells H' (bs ++ [q]) (pl ++ [c])∧(∀ x∈pl ++ [c],x∈ks)∧(∀ i x,(pl ++ [c])[i]? = some x→lv x + i = lv one)∧(pl ++ [c])[0]? = some one∧(∀ i x y,(pl ++ [c])[i]? = some x→(pl ++ [c])[i + 1]? = some y→y∈nearK cs ds w h l x)∧H' ba = some (.dT bk)∧Par (nearK cs ds w h l) other ks lv bk H'∧m' = lv c,fun _ _ h => h,?_⟩
   obtain ⟨q2,pp,v1,v2,v3,v4,v5⟩:=P5 cc hcc hne
   have dg:=DGet.t (k:=k3 cc) eb5 ecc
   rw [v1] at dg
   have hinN:pp∈nearK cs ds w h l cc:=NB.sym pp (((mem pp).mp v3).on NB ho2) cc v4
   have hb:bs.length≤900:=by
    have:=C5.1
    rw [List.length_append] at this
    have h2:([qq]:List Addr).length = 1:=rfl
    omega
   refine ⟨_,rfl,.inl ⟨rfl,_,SqL.of e5⟩,_,rfl,_,rfl,1,rfl,D,_,-1,.ref qq,rfl,rfl,SqL.of e5,eat,ba,.ref q2,rfl,dg,D,_,_,rfl,rfl,e5,?_,lv pp,by omega,bs ++ [qq],q2,pl ++ [cc],pp,rfl,fun b u e => ?_,by rw [upd_same,List.map_append (l₁:=bs ++ [qq])]; rfl,(C5.snoc v2).wr e5,fun x hx => ?_,fun i x hx => ?_,?_,fun i x y hx hy => ?_,by rw [upd_ne nDb]; exact eb5,P5.keep fun q u e => ?_,rfl⟩
   ·rw [List.length_map,List.length_append]
    exact Nat.lt_of_le_of_lt (show bs.length + 1≤1000 by omega) (by decide)
   ·rw [upd_ne (ne_of_none e hD0)]; exact s5 _ _ e
   ·rcases List.mem_append.mp hx with hx | hx
    ·exact in5 x hx
    ·rw [List.mem_singleton] at hx; rw [hx]; exact v3
   ·rcases snoc_get hx with ⟨_,h1⟩ | ⟨rfl,rfl⟩
    ·exact lv5 i x h1
    ·rw [List.length_append]
     have h2:([cc]:List Cell).length = 1:=rfl
     omega
   ·rw [List.getElem?_append_left (by rw [List.length_append]; exact Nat.succ_pos _)]
    exact f5
   ·rcases snoc_get hy with ⟨_,h1⟩ | ⟨h1,rfl⟩
    ·rcases snoc_get hx with ⟨_,h2⟩ | ⟨h2,_⟩
     ·exact n5 i x y h2 h1
     ·omega
    ·rw [List.length_append] at h1
     have h3:i = pl.length:=by
      have:([cc]:List Cell).length = 1:=rfl
      omega
     rcases snoc_get hx with ⟨_,h2⟩ | ⟨h2,_⟩
     ·rw [h3,snoc_last] at h2
      cases h2
      exact hinN
     ·rw [List.length_append] at h2
      have:([cc]:List Cell).length = 1:=rfl
      omega
   ·rw [upd_ne (ne_of e e5 (by intro z; cases z))]; exact e
  ·have he:cc = other:=by
    have:=of_decide_eq_true ht
    unfold l3c at this
    injection this with a1 a2
    injection a2 with a2 a3
    injection a3 with a3 _
    exact Prod.ext a1 (Prod.ext a2 a3)
   subst he
   refine ⟨_,rfl,q1 D (bs ++ [qq]) (pl ++ [cc]) ks lv H5 s5 hD0 e5 C5 LV hko hk1 ⟨f5,?_,n5,nd5,?_⟩ (by omega)⟩
   ·rw [List.length_append]
    show (pl ++ [cc])[pl.length + 1 - 1]? = _
    rw [Nat.add_sub_cancel]
    exact snoc_last pl cc
   ·rw [List.length_append]
    show pl.length + 1 = lv one + 1
    rw [LV.z] at lc5
    omega
end
end K23
namespace K23
open PySem L2 Wd TS
structure Lvr (s:Cell) (ks:List Cell) (lv:Cell→Nat) (at_:Nat) (N:Cell→List Cell):Prop where
 z:lv s = 0
 mono:∀ (i j:Nat) (x y:Cell),i≤j→ks[i]? = some x→ks[j]? = some y→lv x≤lv y
 le:∀ (c:Cell),ks[at_]? = some c→∀ x∈ks,lv x≤lv c + 1
 par:∀ e∈ks,e≠s→∃ p∈ks,e∈N p∧lv e = lv p + 1
 up:∀ a∈ks,a ∉ ks.drop at_→∀ b∈N a,lv b≤lv a + 1
theorem Lvr.start (N:Cell→List Cell) (s:Cell):Lvr s [s] (fun _ => 0) 0 N:=⟨rfl,fun _ _ _ _ _ _ _ => Nat.le_refl _,fun _ _ _ _ => Nat.zero_le _,fun e he hn => absurd (List.mem_singleton.mp he) hn,fun a ha hn => absurd ha hn⟩
theorem Lvr.add {s c e:Cell} {ks:List Cell} {lv:Cell→Nat} {at_:Nat} {N:Cell→List Cell} (L:Lvr s ks lv at_ N) (hs:s∈ks) (hc:ks[at_]? = some c) (he:e∈N c) (hn:e ∉ ks) (cl:∀ k∈ks,k ∉ ks.drop at_→∀ b∈N k,b∈ks):Lvr s (ks ++ [e]) (lvAdd lv e (lv c + 1)) at_ N:=by
 have ne:∀ x∈ks,x≠e:=fun x hx z => hn (z▸hx)
 have hcm:=List.mem_of_getElem? hc
 have hat:at_ < ks.length:=(List.getElem?_eq_some_iff.mp hc).1
 refine ⟨by rw [lvAdd_ne (ne s hs)]; exact L.z,fun i j x y hij hx hy => ?_,fun c' hc' x hx => ?_,fun x hx hxs => ?_,fun a ha nt b hb => ?_⟩
 ·rcases snoc_get hy with ⟨h1,h2⟩ | ⟨h1,rfl⟩
  ·rcases snoc_get hx with ⟨h3,h4⟩ | ⟨h3,_⟩
   ·rw [lvAdd_ne (ne x (List.mem_of_getElem? h4)),lvAdd_ne (ne y (List.mem_of_getElem? h2))]
    exact L.mono i j x y hij h4 h2
   ·omega
  ·rw [lvAdd_eq]
   rcases snoc_get hx with ⟨h3,h4⟩ | ⟨h3,rfl⟩
   ·rw [lvAdd_ne (ne x (List.mem_of_getElem? h4))]
    exact L.le c hc x (List.mem_of_getElem? h4)
   ·rw [lvAdd_eq]; exact Nat.le_refl _
 ·rw [List.getElem?_append_left hat,hc] at hc'
  cases hc'
  rw [lvAdd_ne (ne c hcm)]
  rcases List.mem_append.mp hx with hx | hx
  ·rw [lvAdd_ne (ne x hx)]; exact L.le c hc x hx
  ·rw [List.mem_singleton] at hx; rw [hx,lvAdd_eq]; exact Nat.le_refl _
 ·rcases List.mem_append.mp hx with hx | hx
  ·obtain ⟨p,h1,h2,h3⟩:=L.par x hx hxs
   exact ⟨p,List.mem_append_left _ h1,h2,by rw [lvAdd_ne (ne x hx),lvAdd_ne (ne p h1)]; exact h3⟩
  ·rw [List.mem_singleton] at hx
   subst hx
   exact ⟨c,List.mem_append_left _ hcm,he,by rw [lvAdd_eq,lvAdd_ne (ne c hcm)]⟩
 ·rw [List.drop_append_of_le_length (by omega)] at nt
  rcases List.mem_append.mp ha with ha | ha
  ·have nt':a ∉ ks.drop at_:=fun z => nt (List.mem_append_left _ z)
   rw [lvAdd_ne (ne a ha),lvAdd_ne (ne b (cl a ha nt' b hb))]
   exact L.up a ha nt' b hb
  ·exact absurd (List.mem_append_right _ ha) nt
theorem Lvr.next {s c:Cell} {ks:List Cell} {lv:Cell→Nat} {at_:Nat} {N:Cell→List Cell} (L:Lvr s ks lv at_ N) (hc:ks[at_]? = some c) (h:∀ b∈N c,b∈ks):Lvr s ks lv (at_ + 1) N:=by
 obtain ⟨hat,eg⟩:=List.getElem?_eq_some_iff.mp hc
 refine ⟨L.z,L.mono,fun c' hc' x hx => ?_,L.par,fun a ha nt b hb => ?_⟩
 ·have h1:=L.le c hc x hx
  have h2:=L.mono at_ (at_ + 1) c c' (by omega) hc hc'
  omega
 ·by_cases e:a = c
  ·subst e; exact L.le a hc b (h b hb)
  ·refine L.up a ha (fun z => ?_) b hb
   rw [List.drop_eq_getElem_cons hat,eg] at z
   rcases List.mem_cons.mp z with z | z
   ·exact e z
   ·exact nt z
def Num (ks:List Cell) (lv:Cell→Nat) (fd:Tab):Prop:=∀ e∈ks,valV fd (k3 e) = some (.int (lv e))
theorem Num.add {ks:List Cell} {lv:Cell→Nat} {fd:Tab} {e:Cell} {n:Nat} (h:Num ks lv fd) (hn:e ∉ ks):Num (ks ++ [e]) (lvAdd lv e n) (putK fd (k3 e) (.int n)):=fun x hx => by
 rcases List.mem_append.mp hx with hx | hx
 ·have xn:x≠e:=fun z => hn (z▸hx)
  rw [valV_put,if_neg (fun z => xn (k3_inj z)),lvAdd_ne xn]
  exact h x hx
 ·rw [List.mem_singleton] at hx
  rw [hx,valV_put,if_pos rfl,lvAdd_eq]
section
variable {P:Program} {w:World} {K:PySem.W.Frag} {mg:Str→Option Value} {base:Heap} {t:Adr}
def spRounds (C:Addr):Sp:=fun vs H Q _ => ∃ (o dx c d p:Addr) (w h l:Nat) (cs ds:Tab) (s0:Cell) (cells:List Cell),vs = [.ref o,.ref p]∧Bd C H o dx c d w h l cs ds∧l≤3∧cs.length≤900∧H p = some (.tup [.int s0.1,.int s0.2.1,.int s0.2.2])∧s0∈cells∧CL cs w h l cells ∧
 ∀ (r:Addr) (fd:Tab) (ks:List Cell) (lv:Cell→Nat) (H':Hp),Same H H'→H r = none→H' r = some (.dT fd)→fd.map (·.1) = ks.map k3→(∀ e,e∈ks↔Rch (nearK cs ds w h l) s0 e)→Lvl (nearK cs ds w h l) s0 ks lv→Num ks lv fd→Q (.ref r) H'
theorem ok_law_rounds (T:Txt K mg t):GoodF P w K mg base 7 "_law_rounds" ["_law_board_here","_law_one"] (spRounds t.c_Board):=by
 obtain ⟨fd,F,b⟩:=T.F_law_rounds
 have G_near:=ok_near (P:=P) (w:=w) (base:=base) T
 refine ⟨_,fd,F.okX sc_law_rounds (fun vs H Q E h => ?_) (fun cdv A outer s H vs Q E hr h => ?_),b,F.kp,T.g__law_rounds⟩
 ·obtain ⟨o,dx,c,d,p,w,h,l,cs,ds,s0,cells,rfl,_⟩:=h
  rfl
 ·obtain ⟨o,dx,c,d,p,w,h,l,cs,ds,s0,cells,rfl,B,l3,lc,hp,hin,L,q⟩:=h
  refine ⟨_,(pss_cons (ps_set (i:=2) sc_law_rounds.nd rfl (Or.inl rfl) (pe_disp1 (hu_of hr) (pv 1) pe_int))
   (pss_cons (ps_set (i:=3) sc_law_rounds.nd rfl (Or.inl rfl) (pe_lst (pa_cons (pv 1) pa_nil)))
   (pss_cons (ps_set (i:=4) sc_law_rounds.nd rfl (Or.inl rfl) pe_int)
   (pss_cons (ps_while owns_of (pt_cmpR op_lt (pv 4) (pe_callB call_len_seq (by rfl) T.n_len b_len (pa_cons (pv 3) pa_nil)) (nomark _)) (pss_cons (ps_for owns_of (pi_list (pe_callG G_near (hr.mono (by decide)) passes_of (by rfl) (pa_cons (pv 0) (pa_cons (pe_ix ix_list (pv 3) (pv 4) (fun _ _ => rfl)) pa_nil)))) (pg_name (i:=5) sc_law_rounds.nd rfl (Or.inl rfl)) (pss_one (ps_if (pt_cmp (pc_dnotin (hu_of hr) (pv 5) (pv 2))) (pss_cons (ps_dput (hu_of hr) (pv 2) (pv 5) (pe_op op_add (pe_dget (hu_of hr) (pv 2) (pe_ix ix_list (pv 3) (pv 4) (fun _ _ => rfl)) (fun _ _ => rfl)) pe_int) rfl)
   (pss_one (ps_expr (pe_bm PySem.F.plainAttrs_list PySem.F.slot_list_append PySem.F.type_list_append mt_append (pv 3) (pa_cons (pv 5) pa_nil))))) pss_nil)))
   (pss_one (ps_set (i:=4) sc_law_rounds.nd rfl (Or.inl rfl) (pe_op op_add (pv 4) pe_int)))))
   (pss_one (ps_ret (pv 2))))))),?_⟩
  have NB:=near_nb (ds:=ds) L.mem
  have lcc:=L.len B.C
  generalize eN:nearK cs ds w h l = N at NB q
  refine fun se hse => ⟨_,rfl,p,k3 s0,rfl,upd_same,by rw [upd_ne (ne_of_none hp hse)]; exact hp,?_⟩
  have s1:Same H (upd (upd H se (.dT [])) se (.dT [(k3 s0,.int 0)])):=fun b u e => by rw [upd_ne (ne_of_none e hse),upd_ne (ne_of_none e hse)]; exact e
  have e1:upd (upd H se (.dT [])) se (.dT [(k3 s0,.int 0)]) se = some (.dT [(k3 s0,.int 0)]):=upd_same
  refine gName_go ?_
  dsimp only
  generalize upd (upd H se (.dT [])) se (.dT [(k3 s0,.int 0)]) = H1 at s1 e1 ⊢
  refine ⟨_,rfl,(by show 1≤sizeLine; decide),fun ro hro => ?_⟩
  have s2:=same_new (o:=.lst [.ref p]) (Same.refl H1) hro
  have e2:upd H1 ro (.lst [.ref p]) ro = some (.lst ([p].map V.ref)):=upd_same
  refine gName_go ?_
  dsimp only
  generalize upd H1 ro (.lst [.ref p]) = H2 at s2 e2 ⊢
  have hro0:H ro = none:=by
   cases e:H ro with
   | none => rfl
   | some u => rw [s1 _ _ e] at hro; cases hro
  have s02:=Same.trans s1 s2
  refine gName_go ?_
  dsimp only
  refine ⟨fun m σ H' => ∃ (at_:Nat) (v5:Option V) (sn:Tab) (ks:List Cell) (rs:List Addr) (lv:Cell→Nat),σ = [some (.ref o),some (.ref p),some (.ref se),some (.ref ro),some (.int (at_:Int)),v5]∧Same H H'∧H' se = some (.dT sn)∧sn.map (·.1) = ks.map k3∧H' ro = some (.lst (rs.map V.ref))∧Cells H' rs ks∧Spr N s0 ks (ks.drop at_)∧Lvr s0 ks lv at_ N∧Num ks lv sn∧at_≤ks.length∧m = cells.length - at_,⟨_,0,_,_,[s0],[p],fun _ => 0,rfl,s02,s2 _ _ e1,rfl,e2,⟨rfl,fun i q c h1 h2 => ?_⟩,Spr.start N s0,Lvr.start N s0,fun e he => ?_,Nat.zero_le _,rfl⟩,?_⟩
  ·match i with
   | 0 => cases h1; cases h2; exact s02 _ _ hp
   | i + 1 => cases h1
  ·rw [List.mem_singleton] at he
   rw [he]
   exact valV_pos rfl
  rintro m σ H3 ⟨at_,v5,sn,ks,rs,lv,rfl,s3,es3,ek3,er3,C3,I3,V3,M3,le3,em⟩
  have lk:ks.length≤cells.length:=le_of_sub I3.nd fun x hx => (I3.rc x hx).on NB hin
  refine ⟨_,rfl,_,rfl,ro,_,rfl,.inl (SqL.of er3),(at_:Int),_,rfl,rfl,_,rfl,iteD (fun hlt => ?_) fun hge => ?_⟩
  ·have hlt':at_ < ks.length:=by rw [← C3.1]; have:(at_:Int) < ((rs.map V.ref).length:Int):=hlt; rw [List.length_map] at this; omega
   refine ⟨fun σ' H' => ∃ m',m' < m∧∃ (at_:Nat) (v5:Option V) (sn:Tab) (ks:List Cell) (rs:List Addr) (lv:Cell→Nat),σ' = [some (.ref o),some (.ref p),some (.ref se),some (.ref ro),some (.int (at_:Int)),v5]∧Same H H'∧H' se = some (.dT sn)∧sn.map (·.1) = ks.map k3∧H' ro = some (.lst (rs.map V.ref))∧Cells H' rs ks∧Spr N s0 ks (ks.drop at_)∧Lvr s0 ks lv at_ N∧Num ks lv sn∧at_≤ks.length∧m' = cells.length - at_,fun _ _ h => h,?_⟩
   have har:at_ < rs.length:=by rw [C3.1]; exact hlt'
   have ec:=List.getElem?_eq_getElem hlt'
   have epr:=List.getElem?_eq_getElem har
   have epc:=C3.2 at_ rs[at_] ks[at_] epr ec
   have hinc:=(I3.rc _ (List.getElem_mem hlt')).on NB hin
   generalize rs[at_] = pc at epr epc
   generalize ks[at_] = cc at ec epc hinc
   have hcu:=(L.mem cc).mp hinc
   refine seq_gen (fun σ H' => ∃ (v5:Option V) (sn:Tab) (ks:List Cell) (rs:List Addr) (lv:Cell→Nat),σ = [some (.ref o),some (.ref p),some (.ref se),some (.ref ro),some (.int (at_:Int)),v5]∧Same H H'∧H' se = some (.dT sn)∧sn.map (·.1) = ks.map k3∧H' ro = some (.lst (rs.map V.ref))∧Cells H' rs ks∧Spr N s0 ks (ks.drop (at_ + 1))∧Lvr s0 ks lv (at_ + 1) N∧Num ks lv sn∧at_ + 1≤ks.length) (fun B' nx => ?_) ?_
   ·have B3:=B.same s3
    refine ⟨_,rfl,_,rfl,_,rfl,ro,_,(at_:Int),.ref pc,rfl,rfl,SqL.of er3,atI_nat (by rw [List.getElem?_map,epr]; rfl),o,dx,c,d,pc,w,h,cc.1,cc.2.1,cc.2.2,l,cs,ds,rfl,B3.o,B3.c,B3.d,l3,epc,fun _ nl bs2 nks H6 s6 hnl e6 ka pm up => ?_,fun z => absurd hcu (by rw [z]; decide)⟩
    obtain ⟨nbs,rfl,pm2⟩:=perm_k3 pm
    have pmN:∀ e,e∈nbs↔e∈N cc:=fun e => by rw [pm2.mem_iff,← eN]
    have CN6:=Cells.of_key ka
    have nnr:nl≠ro:=fun z => by rw [z,er3] at hnl; cases hnl
    refine ⟨nl,rfl,⟨_,SqL.of e6⟩,for_list (xs:=bs2.map V.ref) (fun j σ H' => ∃ (v5:Option V) (sn:Tab) (ks:List Cell) (rs:List Addr) (lv:Cell→Nat),σ = [some (.ref o),some (.ref p),some (.ref se),some (.ref ro),some (.int (at_:Int)),v5]∧Same H H'∧H' se = some (.dT sn)∧sn.map (·.1) = ks.map k3∧H' ro = some (.lst (rs.map V.ref))∧Cells H' rs ks∧H' nl = some (.lst (bs2.map V.ref))∧Cells H' bs2 nbs∧Spr N s0 ks (ks.drop at_)∧Lvr s0 ks lv at_ N∧Num ks lv sn∧ks[at_]? = some cc∧∀ e∈nbs.take j,e∈ks) ⟨_,sn,ks,rs,lv,rfl,Same.trans s3 s6,s6 _ _ es3,ek3,s6 _ _ er3,C3.same s6,e6,CN6,I3,V3,M3,ec,(fun e h => by simp at h)⟩ (fun j σ H' _ hh => by obtain ⟨_,_,_,_,_,_,_,_,_,_,_,e,_⟩:=hh;exact SqL.of e) ?_ ?_⟩
    ·rintro j v σ H7 hv ⟨v5',sn7,ks7,rs7,lv7,rfl,s7,es7,ek7,er7,C7,en7,CN7,I7,V7,M7,ec7,tk7⟩
     rw [List.getElem?_map] at hv
     obtain ⟨pe,hpe,rfl⟩:=Option.map_eq_some_iff.mp hv
     have hj:j < nbs.length:=by rw [← CN7.1]; exact (List.getElem?_eq_some_iff.mp hpe).1
     have ej:=List.getElem?_eq_getElem hj
     have epe:=CN7.2 j pe _ hpe ej
     have hmN:=(pmN _).mp (List.getElem_mem hj)
     have tk:∀ ks':List Cell,(∀ e∈nbs.take j,e∈ks')→nbs[j]∈ks'→∀ e∈nbs.take (j + 1),e∈ks':=fun ks' h1 h2 e he => by
      rw [List.take_succ,ej] at he
      rcases List.mem_append.mp he with he | he
      ·exact h1 e he
      ·simp at he; subst he; exact h2
     generalize nbs[j] = e at epe hmN tk
     have lk7:ks7.length≤cells.length:=le_of_sub I7.nd fun x hx => (I7.rc x hx).on NB hin
     have lb:sn7.length = ks7.length:=by have:=congrArg List.length ek7; rw [List.length_map,List.length_map] at this; exact this
     have hin7:cc∈ks7:=List.mem_of_getElem? ec7
     have hat7:at_ < ks7.length:=(List.getElem?_eq_some_iff.mp ec7).1
     refine ⟨_,rfl,_,rfl,se,_,rfl,DGet.t (k:=k3 e) es7 epe,_,rfl,iteNB (fun hf => ?_) fun ht => ⟨_,sn7,ks7,rs7,lv7,rfl,s7,es7,ek7,er7,C7,en7,CN7,I7,V7,M7,ec7,tk ks7 tk7 ((val_keys ek7).mp ht)⟩⟩
     have hne:e ∉ ks7:=fun z => by rw [(val_keys ek7).mpr z] at hf; cases hf
     obtain ⟨pr,epr7⟩:∃ pr,rs7[at_]? = some pr:=⟨_,List.getElem?_eq_getElem (by rw [C7.1]; exact hat7)⟩
     have epc7:=C7.2 at_ pr cc epr7 ec7
     have dg:=DGet.t (k:=k3 cc) es7 epc7
     rw [M7 cc hin7] at dg
     refine ⟨_,rfl,_,rfl,_,rfl,ro,_,(at_:Int),.ref pr,rfl,rfl,SqL.of er7,atI_nat (by rw [List.getElem?_map,epr7]; rfl),se,.int (lv7 cc),rfl,dg,(lv7 cc:Int),1,rfl,rfl,_,rfl,_,rfl,se,_,rfl,DPut.t (k:=k3 e) es7 epe (Nat.lt_of_le_of_lt (show _≤1000 by omega) (by decide)),?_⟩
     have er8:upd H7 se (.dT (putK sn7 (k3 e) (.int ((lv7 cc:Int) + 1)))) ro = some (.lst (rs7.map V.ref)):=lst_dt er7 es7
     have lf:rs7.length≤1000:=by rw [C7.1]; omega
     have nrs:se≠ro:=fun z => by rw [z,er7] at es7; cases es7
     refine ⟨_,rfl,.inl ⟨rfl,_,SqL.of er8⟩,_,rfl,ro,_,_,rfl,rfl,er8,by rw [List.length_map]; exact Nat.lt_of_le_of_lt lf (by decide),_,_,ks7 ++ [e],rs7 ++ [pe],lvAdd lv7 e (lv7 cc + 1),rfl,fun b u eb => ?_,by rw [upd_ne nrs]; exact upd_same,put_keys ek7 hne,by rw [upd_same,List.map_append]; rfl,((C7.dt es7).snoc (by rw [upd_ne (ne_of epe es7 (by intro z; cases z))]; exact epe)).wr er8,by rw [upd_ne nnr]; exact lst_dt en7 es7,(CN7.dt es7).wr er8,?_,V7.add I7.st ec7 hmN hne I7.cl,Num.add (n:=lv7 cc + 1) M7 hne,by rw [List.getElem?_append_left hat7]; exact ec7,tk _ (fun x hx => List.mem_append_left _ (tk7 x hx)) (by simp)⟩
     ·rw [upd_ne (ne_of_none eb hro0),upd_ne (ne_of_none eb hse)]; exact s7 _ _ eb
     ·have:=I7.add hin7 hmN hne
      rw [List.drop_append_of_le_length (by omega)]
      exact this
    ·rintro σ H7 ⟨v5',sn7,ks7,rs7,lv7,rfl,s7,es7,ek7,er7,C7,en7,CN7,I7,V7,M7,ec7,tk7⟩
     rw [List.length_map,CN7.1,List.take_length] at tk7
     obtain ⟨hat7,eg⟩:=List.getElem?_eq_some_iff.mp ec7
     have al:∀ b∈N cc,b∈ks7:=fun b hb => tk7 b ((pmN b).mpr hb)
     refine nx _ _ ⟨_,sn7,ks7,rs7,lv7,rfl,s7,es7,ek7,er7,C7,?_,V7.next ec7 al,M7,hat7⟩
     have ed1:ks7.drop at_ = cc :: ks7.drop (at_ + 1):=by rw [List.drop_eq_getElem_cons hat7,eg]
     rw [ed1,← List.append_nil (cc :: _)] at I7
     have:=I7.done al
     rwa [List.append_nil] at this
   ·rintro σ H5 ⟨v5',sn5,ks5,rs5,lv5,rfl,s5,es5,ek5,er5,C5,I5,V5,M5,le5⟩
    exact ⟨_,rfl,(at_:Int),1,rfl,rfl,cells.length - (at_ + 1),by omega,at_ + 1,_,sn5,ks5,rs5,lv5,rfl,s5,es5,ek5,er5,C5,I5,V5,M5,le5,rfl⟩
  ·have hge':ks.length≤at_:=by
    rw [← C3.1]
    have:¬ (at_:Int) < ((rs.map V.ref).length:Int):=hge
    rw [List.length_map] at this
    omega
   rw [List.drop_eq_nil_of_le hge'] at I3
   have al:=fun e => I3.all e
   exact ⟨_,rfl,q se sn ks lv H3 s3 hse es3 ek3 al ⟨V3.z,V3.par,fun a ha b hb => ⟨(al b).mpr (.step ((al a).mp ha) hb),V3.up a ha (by rw [List.drop_eq_nil_of_le hge']; exact List.not_mem_nil) b hb⟩⟩ M3⟩
end
end K23
namespace K23
open PySem L2 Wd TS
theorem Cells.nil {H:Hp}:Cells H [] []:=⟨rfl,fun i p c h => by cases h⟩
def But (o:Addr) (H H':Hp):Prop:=∀ b u,b≠o→H b = some u→H' b = some u
def fK (x y w h:V):List (Str × V):=[("x",x),("y",y),("wide",w),("high",h)]
theorem fK_put (x y w h:V):putF "high" h (putF "wide" w (putF "y" y (putF "x" x []))) = fK x y w h:=by kernel_rfl
theorem make_same {H H1:Hp} {o dx:Addr} {i:HO} (s:Same H H1) (ho:H1 o = none) (hdx:H1 dx = none):Same H (L2.upd (L2.upd H1 dx (.own o)) o i):=fun b u e => by
 have e1:=s b u e
 rw [upd_ne (ne_of_none e1 ho),upd_ne (ne_of_none e1 hdx)]; exact e1
theorem make_but {H H1 H':Hp} {o dx:Addr} {i:HO} (s:Same H H1) (ho:H1 o = none) (hdx:H1 dx = none) (k:But o (L2.upd (L2.upd H1 dx (.own o)) o i) H'):Same H H':=fun b u e =>
 k b u (ne_of_none (s b u e) ho) (make_same s ho hdx b u e)
def plN (x y wd hg:Nat):List (Int × Int):=(List.range wd).flatMap fun i => (List.range hg).map fun j => (((x + i:Nat):Int),((y + j:Nat):Int))
theorem plN_succ (x y n hg:Nat):plN x y (n + 1) hg = plN x y n hg ++ (List.range hg).map fun j => (((x + n:Nat):Int),((y + j:Nat):Int)):=by
 unfold plN
 rw [List.range_succ,List.flatMap_append]
 simp
theorem plN_len (x y hg:Nat):∀ n,(plN x y n hg).length = n * hg
 | 0 => by simp [plN]
 | n + 1 => by rw [plN_succ,List.length_append,plN_len x y hg n,List.length_map,List.length_range,Nat.add_mul,Nat.one_mul]
theorem plN_mem {x y wd hg:Nat} {q:Int × Int} (h:q∈plN x y wd hg):∃ a b:Nat,a < x + wd∧b < y + hg∧q = ((a:Int),(b:Int)):=by
 unfold plN at h
 obtain ⟨i,hi,h⟩:=List.mem_flatMap.mp h
 obtain ⟨j,hj,rfl⟩:=List.mem_map.mp h
 rw [List.mem_range] at hi hj
 exact ⟨x + i,y + j,by omega,by omega,rfl⟩
def Prs (H:Hp) (ps:List Addr) (pl:List (Int × Int)):Prop:=ps.length = pl.length∧∀ (i:Nat) (p:Addr) (c:Int × Int),ps[i]? = some p→pl[i]? = some c→H p = some (.tup [.int c.1,.int c.2])
theorem Prs.nil {H:Hp}:Prs H [] []:=⟨rfl,fun i p c h => by cases h⟩
theorem Prs.same {H H':Hp} {ps:List Addr} {pl:List (Int × Int)} (C:Prs H ps pl) (s:Same H H'):Prs H' ps pl:=⟨C.1,fun i p c h1 h2 => s _ _ (C.2 i p c h1 h2)⟩
theorem Prs.app {H:Hp} {ps qs:List Addr} {cl dl:List (Int × Int)} (C:Prs H ps cl) (D:Prs H qs dl):Prs H (ps ++ qs) (cl ++ dl):=⟨by rw [List.length_append,List.length_append,C.1,D.1],fun i q d h1 h2 => by
 by_cases h:i < ps.length
 ·rw [List.getElem?_append_left h] at h1
  rw [List.getElem?_append_left (C.1▸h)] at h2
  exact C.2 i q d h1 h2
 ·rw [List.getElem?_append_right (by omega)] at h1
  rw [List.getElem?_append_right (by rw [← C.1]; omega),← C.1] at h2
  exact D.2 _ q d h1 h2⟩
theorem Prs.one {H:Hp} {p:Addr} {c:Int × Int} (h:H p = some (.tup [.int c.1,.int c.2])):Prs H [p] [c]:=⟨rfl,fun i q d h1 h2 => by
 cases i with
 | zero => cases h1; cases h2; exact h
 | succ j => cases h1⟩
theorem Prs.wr {H:Hp} {D:Addr} {ps:List Addr} {pl:List (Int × Int)} {ys ys':List V} (C:Prs H ps pl) (hD:H D = some (.lst ys)):Prs (upd H D (.lst ys')) ps pl:=⟨C.1,fun i q d h1 h2 => by
 have e:=C.2 i q d h1 h2
 rw [upd_ne (ne_of e hD (by intro z; cases z))]; exact e⟩
section
variable {P:Program} {w:World} {K:PySem.W.Frag} {mg:Str→Option Value} {base:Heap} {t:Adr}
def spNeedWhole (K:PySem.W.Frag) (C:Addr):Sp:=fun vs H Q E => ∃ a xs,vs = [.ref a]∧(SqL K H a xs∨SqT K H a xs)∧xs.all isN = true∧(xs.all isW = true→Q .non H)∧(xs.all isW = false→E (.ref C) none H)
theorem ok_need_whole (T:Txt K mg t):GoodF P w K mg base 2 "need_whole" ["numbers"] (spNeedWhole K t.c_NoShape):=by
 obtain ⟨fd,F,b⟩:=T.F_need_whole
 have G_is_whole:=ok_is_whole (P:=P) (w:=w) (base:=base) T
 refine ⟨_,fd,F.okX sc_need_whole (fun vs H Q E h => ?_) (fun cdv A outer s H vs Q E hr h => ?_),b,F.kp,T.g_need_whole⟩
 ·obtain ⟨a,xs,rfl,_⟩:=h
  rfl
 ·obtain ⟨a,xs,rfl,hq,hN,kQ,kE⟩:=h
  refine ⟨_,(pss_one (ps_for owns_of (pi_seq (pv 0)) (pg_name (i:=1) sc_need_whole.nd rfl (Or.inl rfl)) (pss_one (ps_if (pt_not (pt_val (pe_callG G_is_whole (hr.mono (by decide)) passes_of (by rfl) (pa_cons (pv 1) pa_nil)))) (pss_one (ps_raise throws_of rfl T.e_NoShape rfl (pa_cons pe_str pa_nil))) pss_nil)))),?_⟩
  have turn:∀ (bk:St→Hp→Prop) (rt:VK) (i:Nat) (x:V) (σ:St) (H2:Hp),xs[i]? = some x→(∃ v,σ = [some (.ref a),v]∧H2 = H∧(xs.take i).all isW = true) →
    gName 1 x σ H2 fun σ2 H3 => tIfS (tNot (tB (tCall spIsWhole [] E (tCons (tVar 1) tNil)))) (tRaise t.c_NoShape (tCons (tC (.str "a shape's numbers are whole numbers")) tNil) E) tNext { nx:=fun σ H2 => ∃ v,σ = [some (.ref a),v]∧H2 = H∧(xs.take (i + 1)).all isW = true,rt:=rt,bk:=bk,ct:=fun σ H2 => ∃ v,σ = [some (.ref a),v]∧H2 = H∧(xs.take (i + 1)).all isW = true } σ2 H3:=by
   rintro bk rt i x σ H2 hx ⟨v,rfl,rfl,hw⟩
   have hm:x∈xs:=List.mem_of_getElem? hx
   refine ⟨x,rfl,x,rfl,AnyV.ofN (List.all_eq_true.mp hN x hm),_,rfl,iteNB (fun hf => ⟨by show 1≤sizeLine; decide,kE ?_⟩) fun ht => ⟨_,rfl,rfl,?_⟩⟩
   ·exact Bool.eq_false_iff.mpr fun z => by rw [List.all_eq_true.mp z x hm] at hf; cases hf
   ·rw [List.take_add_one,hx,List.all_append,hw]; simp [ht]
  rcases hq with hq | hq
  ·refine ⟨_,rfl,a,rfl,.inl ⟨⟨xs,hq⟩,for_list (xs:=xs) (fun i σ H2 => ∃ v,σ = [some (.ref a),v]∧H2 = H∧(xs.take i).all isW = true) ⟨_,rfl,rfl,by simp⟩ (fun i σ H2 _ ⟨_,_,e,_⟩ => e▸hq) (fun i x σ H2 hx hp => turn _ _ i x σ H2 hx hp) ?_⟩⟩
   rintro σ H2 ⟨v,rfl,rfl,hw⟩
   exact kQ (by simpa using hw)
  ·refine ⟨_,rfl,a,rfl,.inr ⟨⟨xs,hq⟩,for_tup (xs:=xs) (fun i σ H2 => ∃ v,σ = [some (.ref a),v]∧H2 = H∧(xs.take i).all isW = true) ⟨_,rfl,rfl,by simp⟩ (fun i σ H2 _ ⟨_,_,e,_⟩ => e▸hq) (fun i x σ H2 hx hp => turn _ _ i x σ H2 hx hp) ?_⟩⟩
   rintro σ H2 ⟨v,rfl,rfl,hw⟩
   exact kQ (by simpa using hw)
def spNeedOne (K:PySem.W.Frag) (C:Addr):Sp:=fun vs H Q E => ∃ a xs,vs = [.ref a]∧SqL K H a xs∧xs≠[]∧xs.all isN = true∧(xs.all ge1 = true→Q .non H)∧(xs.all ge1 = false→E (.ref C) none H)
theorem ok_need_from_one (T:Txt K mg t):GoodF P w K mg base 3 "need_from_one" ["numbers"] (spNeedOne K t.c_NoShape):=by
 obtain ⟨fd,F,b⟩:=T.F_need_from_one
 have G_need_whole:=ok_need_whole (P:=P) (w:=w) (base:=base) T
 refine ⟨_,fd,F.okX sc_need_from_one (fun vs H Q E h => ?_) (fun cdv A outer s H vs Q E hr h => ?_),b,F.kp,T.g_need_from_one⟩
 ·obtain ⟨a,xs,rfl,_⟩:=h
  rfl
 ·obtain ⟨a,xs,rfl,hq,hne,hN,kQ,kE⟩:=h
  refine ⟨_,(pss_cons (ps_expr (pe_callG G_need_whole (hr.mono (by decide)) passes_of (by rfl) (pa_cons (pv 0) pa_nil)))
   (pss_one (ps_if (pt_cmpR op_lt (pe_callB call_min_list (by rfl) T.n_min b_min (pa_cons (pv 0) pa_nil)) pe_int (nomark _)) (pss_one (ps_raise throws_of rfl T.e_NoShape rfl (pa_cons pe_str pa_nil))) pss_nil))),?_⟩
  refine ⟨_,rfl,a,xs,rfl,.inl hq,hN,fun hw => ?_,fun hw => kE (Bool.eq_false_iff.mpr fun z => ?_)⟩
  ·obtain ⟨ns,rfl⟩:=ints_of hw
   refine ⟨_,rfl,a,ns,rfl,hq,by cases ns <;> simp_all,fun M hM hmin => ⟨M,1,rfl,rfl,_,rfl,iteD (fun hlt => ⟨by show 1≤sizeLine; decide,kE ?_⟩) fun hge => kQ ?_⟩⟩
   ·refine Bool.eq_false_iff.mpr fun z => ?_
    have:=List.all_eq_true.mp z (.int M) (List.mem_map_of_mem hM)
    simp only [ge1,decide_eq_true_eq] at this
    omega
   ·refine List.all_eq_true.mpr fun v hv => ?_
    obtain ⟨n,hn,rfl⟩:=List.mem_map.mp hv
    have:=hmin n hn
    simp only [ge1,decide_eq_true_eq]
    omega
  ·rw [all_imp (fun v => ge1_isW) z] at hw; cases hw
def spBlock (C NS:Addr):Sp:=fun vs H Q E => ∃ o dx x y wd hg,vs = [.ref o,x,y,wd,hg]∧H o = some (.ins C dx [])∧[x,y,wd,hg].all isN = true ∧
 ([x,y].all isW = true→[wd,hg].all ge1 = true→∀ H',But o H H'→H' o = some (.ins C dx (fK x y wd hg))→Q .non H')∧(¬ ([x,y].all isW = true∧[wd,hg].all ge1 = true)→∀ H',Same H H'→E (.ref NS) none H')
theorem ok_Block_init (T:Txt K mg t):GoodC P w K mg base 4 "Block" t.c_Block ["self","x","y","wide","high"] (spBlock t.c_Block t.c_NoShape):=by
 obtain ⟨fd,F,b⟩:=T.F_Block_init
 have G_need_whole:=ok_need_whole (P:=P) (w:=w) (base:=base) T
 have G_need_from_one:=ok_need_from_one (P:=P) (w:=w) (base:=base) T
 refine ⟨_,fd,T.K_Block,F.okX sc_Block_init (fun vs H Q E h => ?_) (fun cdv A outer s H vs Q E hr h => ?_),b,T.g_Block⟩
 ·obtain ⟨o,dx,x,y,wd,hg,rfl,_⟩:=h
  rfl
 ·obtain ⟨o,dx,x,y,wd,hg,rfl,ho,hN,kQ,kE⟩:=h
  simp only [List.all_cons,List.all_nil,Bool.and_true,Bool.and_eq_true] at hN
  refine ⟨_,(pss_cons (ps_expr (pe_callG G_need_whole (hr.mono (by decide)) passes_of (by rfl) (pa_cons (pe_lst (pa_cons (pv 1) (pa_cons (pv 2) pa_nil))) pa_nil)))
   (pss_cons (ps_expr (pe_callG G_need_from_one (hr.mono (by decide)) passes_of (by rfl) (pa_cons (pe_lst (pa_cons (pv 3) (pa_cons (pv 4) pa_nil))) pa_nil)))
   (pss_cons (ps_fld (pv 0) (pv 1) rfl)
   (pss_cons (ps_fld (pv 0) (pv 2) rfl)
   (pss_cons (ps_fld (pv 0) (pv 3) rfl)
   (pss_one (ps_fld (pv 0) (pv 4) rfl))))))),?_⟩
  refine ⟨_,rfl,_,rfl,(by show 2≤sizeLine; decide),fun l hl => ⟨l,[x,y],rfl,.inl (SqL.of upd_same),by simp [hN],fun hw => ?_,fun hw => kE (fun g => by rw [g.1] at hw; cases hw) _ (same_new (Same.refl H) hl)⟩⟩
  refine ⟨_,rfl,_,rfl,(by show 2≤sizeLine; decide),fun l2 hl2 => ⟨l2,[wd,hg],rfl,SqL.of upd_same,by simp,by simp [hN],fun hw2 => ?_,fun hw2 => kE (fun g => by rw [g.2] at hw2; cases hw2) _ (same_new (same_new (Same.refl H) hl) hl2)⟩⟩
  have s2:Same H (upd (upd H l (.lst [x,y])) l2 (.lst [wd,hg])):=same_new (same_new (Same.refl H) hl) hl2
  refine ⟨_,rfl,_,rfl,o,_,dx,_,rfl,s2 _ _ ho,T.cl_Block,T.na_Block_x,(by decide),?_⟩
  refine ⟨_,rfl,_,rfl,o,_,dx,_,rfl,upd_same,T.cl_Block,T.na_Block_y,Nat.le_of_ble_eq_true (by kernel_rfl),?_⟩
  refine ⟨_,rfl,_,rfl,o,_,dx,_,rfl,upd_same,T.cl_Block,T.na_Block_wide,Nat.le_of_ble_eq_true (by kernel_rfl),?_⟩
  refine ⟨_,rfl,_,rfl,o,_,dx,_,rfl,upd_same,T.cl_Block,T.na_Block_high,Nat.le_of_ble_eq_true (by kernel_rfl),?_⟩
  refine kQ hw hw2 _ (fun c u hc e => ?_) ?_
  ·rw [upd_ne hc,upd_ne hc,upd_ne hc,upd_ne hc]; exact s2 _ _ e
  ·rw [upd_same,fK_put]
def spBoxK (C:Addr):Sp:=fun vs H Q _ => ∃ (o dx:Addr) (x y wd hg:Int),vs = [.ref o]∧H o = some (.ins C dx (fK (.int x) (.int y) (.int wd) (.int hg)))∧∀ p H',Same H H'→H' p = some (.tup [.int x,.int y,.int wd,.int hg])→Q (.ref p) H'
theorem ok_Block_box (T:Txt K mg t):GoodM P w K mg base 1 t.c_Block "box" ["self"] (spBoxK t.c_Block):=by
 obtain ⟨fd,F,b⟩:=T.F_Block_box
 refine ⟨T.cl_Block,_,fd,T.M_Block_box,F.okX sc_Block_box (fun vs H Q E h => ?_) (fun cdv A outer s H vs Q E hr h => ?_),b⟩
 ·obtain ⟨o,dx,x,y,wd,hg,rfl,_⟩:=h
  rfl
 ·obtain ⟨o,dx,x,y,wd,hg,rfl,ho,q⟩:=h
  refine ⟨_,(pss_one (ps_ret (pe_tup (pa_cons (pe_fld (pv 0) rfl) (pa_cons (pe_fld (pv 0) rfl) (pa_cons (pe_fld (pv 0) rfl) (pa_cons (pe_fld (pv 0) rfl) pa_nil))))))),?_⟩
  refine ⟨_,rfl,o,_,dx,_,.int x,rfl,ho,T.cl_Block,T.na_Block_x,by kernel_rfl,?_⟩
  refine ⟨_,rfl,o,_,dx,_,.int y,rfl,ho,T.cl_Block,T.na_Block_y,by kernel_rfl,?_⟩
  refine ⟨_,rfl,o,_,dx,_,.int wd,rfl,ho,T.cl_Block,T.na_Block_wide,by kernel_rfl,?_⟩
  refine ⟨_,rfl,o,_,dx,_,.int hg,rfl,ho,T.cl_Block,T.na_Block_high,by kernel_rfl,(by show 4≤sizeLine; decide),fun p hp => q p _ (same_new (Same.refl H) hp) upd_same⟩
def spPlaces:Sp:=fun vs H Q _ => ∃ x y wd hg:Nat,vs = [.int x,.int y,.int wd,.int hg]∧x≤100∧y≤100∧wd≤12∧hg≤12∧∀ D ps H',Same H H'→H' D = some (.lst (ps.map V.ref))→Prs H' ps (plN x y wd hg)→Q (.ref D) H'
theorem ok_box_places (T:Txt K mg t):GoodF P w K mg base 1 "box_places" ["x","y","wide","high"] spPlaces:=by
 obtain ⟨fd,F,b⟩:=T.F_box_places
 refine ⟨_,fd,F.okX sc_box_places (fun vs H Q E h => ?_) (fun cdv A outer s H vs Q E hr h => ?_),b,F.kp,T.g_box_places⟩
 ·obtain ⟨x,y,wd,hg,rfl,_⟩:=h
  rfl
 ·obtain ⟨x,y,wd,hg,rfl,x1,y1,w1,h1,q⟩:=h
  refine ⟨_,(pss_cons (ps_set (i:=4) sc_box_places.nd rfl (Or.inl rfl) (pe_lst pa_nil))
   (pss_cons (ps_for owns_of (pi_range2 rfl T.n_range (pa_cons (pv 0) (pa_cons (pe_op op_add (pv 0) (pv 2)) pa_nil))) (pg_name (i:=5) sc_box_places.nd rfl (Or.inr rfl)) (pss_one (ps_expr (pe_bm PySem.F.plainAttrs_list PySem.F.slot_list_extend PySem.F.type_list_extend mt_extend (pv 4) (pa_cons (pe_comp (own:=["row"]) (cs_one (n:="column") (N:=["x","y","wide","high","places","column"]) rfl (by rfl) (by rfl) rfl (by rfl) (by decide +kernel) (by decide +kernel) (by decide +kernel)) (pi_range2 rfl T.n_range (pa_cons (pv 1) (pa_cons (pe_op op_add (pv 1) (pv 3)) pa_nil))) (fun _ _ _ _ _ => pg_name (i:=6) (by show (["x","y","wide","high","places","column","row"]:List Str).Nodup; decide +kernel) rfl (Or.inl rfl)) (fun _ _ _ _ _ => pf_nil) (fun _ _ _ _ _ => (pe_tup (pa_cons (pv 5) (pa_cons (pv 6) pa_nil))))) pa_nil)))))
   (pss_one (ps_ret (pv 4))))),?_⟩
  refine ⟨(by show 0≤sizeLine; decide),fun D hD => ?_⟩
  have s0:=same_new (o:=.lst []) (Same.refl H) hD
  have n1:((x:Int) + (wd:Int) - (x:Int)).toNat = wd:=by omega
  have n2:((y:Int) + (hg:Int) - (y:Int)).toNat = hg:=by omega
  refine ⟨_,rfl,_,rfl,_,rfl,(x:Int),(wd:Int),rfl,rfl,(x:Int),(x:Int) + (wd:Int),rfl,⟨by omega,by omega,by omega,by omega⟩,for_range (fun i σ H2 => ∃ (v:Option V) (ps:List Addr),σ = [some (.int x),some (.int y),some (.int wd),some (.int hg),some (.ref D),v]∧Same H H2∧H2 D = some (.lst (ps.map V.ref))∧Prs H2 ps (plN x y i hg)) ⟨_,[],rfl,s0,upd_same,Prs.nil⟩ ?_ ?_⟩
  ·rintro i σ H2 hi ⟨v,ps,rfl,s2,e2,C2⟩
   rw [n1] at hi
   have ex:(x:Int) + (i:Int) = ((x + i:Nat):Int):=by omega
   rw [ex]
   refine ⟨_,rfl,.inl ⟨rfl,_,SqL.of e2⟩,_,rfl,_,rfl,_,rfl,(y:Int),(hg:Int),rfl,rfl,(y:Int),(y:Int) + (hg:Int),rfl,⟨by omega,by omega,by omega,by omega⟩,comp_range (fun D2 j ys H' => ∃ qs:List Addr,ys = qs.map V.ref∧H2 D2 = none∧Same H2 H'∧H' D2 = some (.lst ys)∧ys.length = j∧Prs H' qs ((List.range j).map fun j => (((x + i:Nat):Int),((y + j:Nat):Int)))) (by rw [n2]; exact Nat.le_trans h1 (by decide)) (fun D2 hD2 => ⟨[],rfl,hD2,same_new (Same.refl _) hD2,upd_same,rfl,Prs.nil⟩) (fun D2 j ys H' ⟨qs,_,_,_,e,l,_⟩ => ⟨e,l⟩) ?_ ?_⟩
   ·rintro D2 j ys H' Qy Qn hj ⟨qs,rfl,d1,d2,d3,d4,d5⟩ hy
    have ey:(y:Int) + (j:Int) = ((y + j:Nat):Int):=by omega
    rw [ey]
    refine ⟨⟨_,rfl,rfl⟩,iteT ⟨_,rfl,_,rfl,(by show 2≤sizeLine; decide),fun p hp => ?_⟩⟩
    have npD:p≠D2:=fun z => by rw [z,d3] at hp; cases hp
    have sp:=same_new (o:=.tup [.int ((x + i:Nat):Int),.int ((y + j:Nat):Int)]) (Same.refl H') hp
    refine hy _ _ (by rw [upd_ne (Ne.symm npD)]; exact d3) ⟨qs ++ [p],by rw [List.map_append]; rfl,d1,fun b u e => ?_,upd_same,by rw [List.length_append,d4]; rfl,?_⟩
    ·have:=d2 b u e
     rw [upd_ne (ne_of_none e d1),upd_ne (ne_of_none this hp)]; exact this
    ·rw [List.range_succ,List.map_append]
     exact ((d5.same sp).app (Prs.one (c:=(((x + i:Nat):Int),((y + j:Nat):Int))) upd_same)).wr (sp _ _ d3)
   ·rintro D2 ys H' hD2 ⟨qs,rfl,d1,d2,d3,d4,d5⟩
    rw [n2] at d4 d5
    have eD:=d2 _ _ e2
    have l1:=C2.1
    rw [plN_len] at l1
    have l2:i * hg≤12 * 12:=Nat.mul_le_mul (by omega) h1
    refine ⟨D,D2,_,_,rfl,rfl,eD,d3,?_,_,ps ++ qs,rfl,fun b u e => ?_,by rw [upd_same,List.map_append],?_⟩
    ·rw [d4,List.length_map,l1]
     exact Nat.le_trans (show _≤1000 by omega) (by decide)
    ·rw [upd_ne (ne_of_none e hD)]
     exact d2 _ _ (s2 _ _ e)
    ·rw [plN_succ]
     exact ((C2.same d2).app d5).wr eD
  ·rintro σ H2 ⟨v,ps,rfl,s2,e2,C2⟩
   rw [n1] at C2
   exact ⟨_,rfl,q D ps H2 s2 e2 C2⟩
def spCellsK (C:Addr):Sp:=fun vs H Q _ => ∃ (o dx:Addr) (x y wd hg:Nat),vs = [.ref o]∧H o = some (.ins C dx (fK (.int x) (.int y) (.int wd) (.int hg)))∧x≤100∧y≤100∧wd≤12∧hg≤12∧∀ D ps H',Same H H'→H' D = some (.lst (ps.map V.ref))→Prs H' ps (plN x y wd hg)→Q (.ref D) H'
theorem ok_Block_cells (T:Txt K mg t):GoodM P w K mg base 2 t.c_Block "cells" ["self"] (spCellsK t.c_Block):=by
 obtain ⟨fd,F,b⟩:=T.F_Block_cells
 have G_box_places:=ok_box_places (P:=P) (w:=w) (base:=base) T
 refine ⟨T.cl_Block,_,fd,T.M_Block_cells,F.okX sc_Block_cells (fun vs H Q E h => ?_) (fun cdv A outer s H vs Q E hr h => ?_),b⟩
 ·obtain ⟨o,dx,x,y,wd,hg,rfl,_⟩:=h
  rfl
 ·obtain ⟨o,dx,x,y,wd,hg,rfl,ho,x1,y1,w1,h1,q⟩:=h
  refine ⟨_,(pss_one (ps_ret (pe_callG G_box_places (hr.mono (by decide)) passes_of (by rfl) (pa_cons (pe_fld (pv 0) rfl) (pa_cons (pe_fld (pv 0) rfl) (pa_cons (pe_fld (pv 0) rfl) (pa_cons (pe_fld (pv 0) rfl) pa_nil))))))),?_⟩
  refine ⟨_,rfl,o,_,dx,_,.int x,rfl,ho,T.cl_Block,T.na_Block_x,by kernel_rfl,?_⟩
  refine ⟨_,rfl,o,_,dx,_,.int y,rfl,ho,T.cl_Block,T.na_Block_y,by kernel_rfl,?_⟩
  refine ⟨_,rfl,o,_,dx,_,.int wd,rfl,ho,T.cl_Block,T.na_Block_wide,by kernel_rfl,?_⟩
  exact ⟨_,rfl,o,_,dx,_,.int hg,rfl,ho,T.cl_Block,T.na_Block_high,by kernel_rfl,x,y,wd,hg,rfl,x1,y1,w1,h1,q⟩
def clN (x y wd hg:Nat) (z:Int):List Cell:=(plN x y wd hg).map fun q => (q.1,q.2,z)
def spShapeCells (t:Adr):Sp:=fun vs H Q _ => ∃ (o dx dx2 c d r:Addr) (w h l x y wd hg z:Nat),vs = [.ref o,.ref r,.int z]∧H o = some (.ins t.c_Board dx (fB w h l c d))∧H r = some (.ins t.c_Block dx2 (fK (.int x) (.int y) (.int wd) (.int hg)))∧1≤wd∧1≤hg∧x + wd≤w∧y + hg≤h∧w≤12∧h≤12 ∧
 ∀ D ps H',Same H H'→H' D = some (.lst (ps.map V.ref))→Cells H' ps (clN x y wd hg z)→Q (.ref D) H'
theorem ok_Board_shape_cells (T:Txt K mg t):GoodM P w K mg base 3 t.c_Board "shape_cells" ["self","shape","z"] (spShapeCells t):=by
 obtain ⟨fd,F,b⟩:=T.F_Board_shape_cells
 have G_Block_box:=ok_Block_box (P:=P) (w:=w) (base:=base) T
 have G_Block_cells:=ok_Block_cells (P:=P) (w:=w) (base:=base) T
 have G_Board_has_square:=ok_Board_has_square (P:=P) (w:=w) (base:=base) T
 refine ⟨T.cl_Board,_,fd,T.M_Board_shape_cells,F.okX sc_Board_shape_cells (fun vs H Q E h => ?_) (fun cdv A outer s H vs Q E hr h => ?_),b⟩
 ·obtain ⟨o,dx,dx2,c,d,r,w,h,l,x,y,wd,hg,z,rfl,_⟩:=h
  rfl
 ·obtain ⟨o,dx,dx2,c,d,r,w,h,l,x,y,wd,hg,z,rfl,ho,hs,w1,h1,xw,yh,w12,h12,q⟩:=h
  refine ⟨_,(pss_cons (ps_set (i:=3) sc_Board_shape_cells.nd rfl (Or.inl rfl) (pe_meth0G (m0_of G_Block_box (hr.mono (by decide)) passes_of) (pv 1)))
   (pss_cons (ps_if (pw_or (pt_not (pt_val (pe_methG (pv 0) G_Board_has_square (hr.mono (by decide)) passes_of (pa_cons (pe_ix ix_tup (pv 3) pe_int (fun _ _ => rfl)) (pa_cons (pe_ix ix_tup (pv 3) pe_int (fun _ _ => rfl)) pa_nil))))) (pw_or1 (pt_not (pt_val (pe_methG (pv 0) G_Board_has_square (hr.mono (by decide)) passes_of (pa_cons (pe_op op_sub (pe_op op_add (pe_ix ix_tup (pv 3) pe_int (fun _ _ => rfl)) (pe_ix ix_tup (pv 3) pe_int (fun _ _ => rfl))) pe_int) (pa_cons (pe_op op_sub (pe_op op_add (pe_ix ix_tup (pv 3) pe_int (fun _ _ => rfl)) (pe_ix ix_tup (pv 3) pe_int (fun _ _ => rfl))) pe_int) pa_nil))))))).pt (pss_one (ps_raise throws_of rfl T.e_NoPlace rfl (pa_cons pe_str pa_nil))) pss_nil)
   (pss_one (ps_ret (pe_comp (own:=["place"]) (cs_one (n:="z") (N:=["self","shape","z","box"]) rfl (by rfl) (by rfl) rfl (by rfl) (by decide +kernel) (by decide +kernel) (by decide +kernel)) (pi_list (pe_meth0G (m0_of G_Block_cells (hr.mono (by decide)) passes_of) (pv 1))) (fun _ _ _ _ _ => pg_name (i:=4) (by show (["self","shape","z","box","place"]:List Str).Nodup; decide +kernel) rfl (Or.inl rfl)) (fun _ _ _ _ _ => pf_nil) (fun _ _ _ _ _ => (pe_op (op_catTK (K:=K) rfl) (pv 4) (pe_tup (pa_cons (pv 2) pa_nil))))))))),?_⟩
  refine ⟨_,rfl,r,dx2,_,rfl,hs,by kernel_rfl,r,dx2,x,y,wd,hg,rfl,hs,fun p H1 s1 ep => ?_⟩
  have S:SqT K H1 p [.int x,.int y,.int wd,.int hg]:=SqT.of ep
  have a1:(inB (x:Int) (w:Int) && inB (y:Int) (h:Int)) = true:=by rw [inB_nat (by omega),inB_nat (by omega)]; rfl
  have ex:(x:Int) + (wd:Int) - 1 = ((x + wd - 1:Nat):Int):=by omega
  have ey:(y:Int) + (hg:Int) - 1 = ((y + hg - 1:Nat):Int):=by omega
  have a2:(inB ((x:Int) + (wd:Int) - 1) (w:Int) && inB ((y:Int) + (hg:Int) - 1) (h:Int)) = true:=by rw [ex,ey,inB_nat (by omega),inB_nat (by omega)]; rfl
  refine gName_go ?_
  dsimp only
  refine ⟨_,rfl,o,dx,_,rfl,s1 _ _ ho,rfl,_,rfl,p,_,0,.int x,rfl,rfl,S,rfl,_,rfl,p,_,1,.int y,rfl,rfl,S,rfl,o,dx,c,d,w,h,l,x,y,rfl,s1 _ _ ho,_,rfl,iteNB (fun hf => absurd a1 (by rw [hf]; decide)) fun _ => ?_⟩
  refine ⟨_,rfl,o,dx,_,rfl,s1 _ _ ho,rfl,_,rfl,p,_,0,.int x,rfl,rfl,S,rfl,_,rfl,p,_,2,.int wd,rfl,rfl,S,rfl,(x:Int),(wd:Int),rfl,rfl,_,1,rfl,rfl,_,rfl,p,_,1,.int y,rfl,rfl,S,rfl,_,rfl,p,_,3,.int hg,rfl,rfl,S,rfl,(y:Int),(hg:Int),rfl,rfl,_,1,rfl,rfl,o,dx,c,d,w,h,l,(x:Int) + (wd:Int) - 1,(y:Int) + (hg:Int) - 1,rfl,s1 _ _ ho,_,rfl,iteNB (fun hf => absurd a2 (by rw [hf]; decide)) fun _ => ?_⟩
  refine ⟨_,rfl,r,dx2,_,rfl,s1 _ _ hs,by kernel_rfl,r,dx2,x,y,wd,hg,rfl,s1 _ _ hs,by omega,by omega,by omega,by omega,fun D ps H2 s2 eD CP => ?_⟩
  have lp:ps.length≤144:=by
   rw [CP.1,plN_len]
   exact Nat.mul_le_mul (show wd≤12 by omega) (show hg≤12 by omega)
  refine ⟨D,rfl,⟨_,SqL.of eD⟩,comp_list (xs:=ps.map V.ref) (fun D2 i ys H' => ∃ qs:List Addr,ys = qs.map V.ref∧H2 D2 = none∧Same H2 H'∧H' D2 = some (.lst ys)∧ys.length≤i∧Cells H' qs (((plN x y wd hg).take i).map fun q => (q.1,q.2,(z:Int)))) (by rw [List.length_map]; exact Nat.le_trans lp (by decide)) (fun D2 hD2 => ⟨[],rfl,hD2,same_new (Same.refl _) hD2,upd_same,Nat.le_refl _,Cells.nil⟩) (fun D2 i ys H' ⟨qs,_,_,d2,e,l,_⟩ => ⟨e,l,SqL.of (d2 _ _ eD)⟩) ?_ ?_⟩
  ·rintro D2 i v ys H' Qy Qn hi ⟨qs,rfl,d1,d2,d3,d4,d5⟩ hy _
   rw [List.getElem?_map] at hi
   obtain ⟨p2,hp2,rfl⟩:=Option.map_eq_some_iff.mp hi
   have hlt:i < (plN x y wd hg).length:=by rw [← CP.1]; exact (List.getElem?_eq_some_iff.mp hp2).1
   have eq2:=List.getElem?_eq_getElem hlt
   have ep3:=d2 _ _ (CP.2 i p2 _ hp2 eq2)
   have etk:(plN x y wd hg).take (i + 1) = (plN x y wd hg).take i ++ [(plN x y wd hg)[i]]:=by rw [List.take_succ,eq2]; rfl
   rw [etk] at hy
   generalize (plN x y wd hg)[i] = qq at ep3 hy
   refine ⟨⟨_,rfl,rfl⟩,iteT ⟨_,rfl,_,rfl,(by show 1≤sizeLine; decide),fun t1 ht1 => ?_⟩⟩
   refine ⟨p2,t1,[.int qq.1,.int qq.2],[.int z],rfl,rfl,SqT.of (by rw [upd_ne (ne_of_none ep3 ht1)]; exact ep3),SqT.of upd_same,by simp,(by show 3≤sizeLine; decide),(fun z => by cases z),fun _ p3 hp3 => ?_⟩
   have n1:D2≠t1:=ne_of_none d3 ht1
   have st:=same_new (o:=.tup [.int z]) (Same.refl H') ht1
   have d3':upd H' t1 (.tup [.int z]) D2 = some (.lst (qs.map V.ref)):=by rw [upd_ne n1]; exact d3
   have n2:D2≠p3:=ne_of_none d3' hp3
   have st2:=same_new (o:=.tup ([.int qq.1,.int qq.2] ++ [.int (z:Int)])) (Same.refl (upd H' t1 (.tup [.int z]))) hp3
   refine hy _ _ (by rw [upd_ne n2]; exact d3') ⟨qs ++ [p3],by rw [List.map_append]; rfl,d1,fun b u e => ?_,upd_same,by rw [List.length_append]; exact Nat.succ_le_succ d4,?_⟩
   ·have e3:=d2 b u e
    have e4:upd H' t1 (.tup [.int z]) b = some u:=by rw [upd_ne (ne_of_none e3 ht1)]; exact e3
    rw [upd_ne (ne_of_none e d1),upd_ne (ne_of_none e4 hp3)]; exact e4
   ·rw [List.map_append]
    exact (((d5.same st).same st2).snoc (c:=(qq.1,qq.2,(z:Int))) upd_same).wr (st2 _ _ d3')
  ·rintro D2 ys H' hD2 ⟨qs,rfl,d1,d2,d3,d4,d5⟩
   rw [List.length_map,CP.1,List.take_length] at d5
   exact q D2 qs H' (Same.trans s1 (Same.trans s2 d2)) d3 d5
theorem clN_in {x y wd hg w h l z:Nat} (xw:x + wd≤w) (yh:y + hg≤h) (hz:z < l):∀ c∈clN x y wd hg z,∃ a b e:Nat,a < w∧b < h∧e < l∧c = ((a:Int),(b:Int),(e:Int)):=fun c hc => by
 obtain ⟨q,hq,rfl⟩:=List.mem_map.mp hc
 obtain ⟨a,b,h1,h2,rfl⟩:=plN_mem hq
 exact ⟨a,b,z,by omega,by omega,hz,rfl⟩
def spLay (t:Adr) (f:Tab→List Cell→Tab):Sp:=fun vs H Q _ => ∃ (o dx dx2 c d r:Addr) (w h l x y wd hg z:Nat) (cs:Tab),vs = [.ref o,.ref r,.int z]∧H o = some (.ins t.c_Board dx (fB w h l c d))∧H r = some (.ins t.c_Block dx2 (fK (.int x) (.int y) (.int wd) (.int hg)))∧1≤wd∧1≤hg∧x + wd≤w∧y + hg≤h∧w≤12∧h≤12∧z < l∧H c = some (.dT cs)∧cs.length≤800 ∧
 ∀ H',Same H H'→Q .non (upd H' c (.dT (f cs (clN x y wd hg z))))
theorem ok_Board_lay (T:Txt K mg t):GoodM P w K mg base 6 t.c_Board "lay" ["self","shape","z"] (spLay t putAll):=by
 obtain ⟨fd,F,b⟩:=T.F_Board_lay
 have G_Board_put:=ok_Board_put (P:=P) (w:=w) (base:=base) T
 have G_Board_shape_cells:=ok_Board_shape_cells (P:=P) (w:=w) (base:=base) T
 refine ⟨T.cl_Board,_,fd,T.M_Board_lay,F.okX sc_Board_lay (fun vs H Q E h => ?_) (fun cdv A outer s H vs Q E hr h => ?_),b⟩
 ·obtain ⟨o,dx,dx2,c,d,r,w,h,l,x,y,wd,hg,z,cs,rfl,_⟩:=h
  rfl
 ·obtain ⟨o,dx,dx2,c,d,r,w,h,l,x,y,wd,hg,z,cs,rfl,ho,hs,w1,h1,xw,yh,w12,h12,hz,hc,lc,q⟩:=h
  refine ⟨_,(pss_one (ps_expr (pe_methG (pv 0) G_Board_put (hr.mono (by decide)) passes_of (pa_cons (pe_methG (pv 0) G_Board_shape_cells (hr.mono (by decide)) passes_of (pa_cons (pv 1) (pa_cons (pv 2) pa_nil))) pa_nil)))),?_⟩
  have onn:=onB_in (clN_in (x:=x) (y:=y) xw yh hz)
  have ll:(clN x y wd hg z).length≤12 * 12:=by
   unfold clN
   rw [List.length_map,plN_len]
   exact Nat.mul_le_mul (show wd≤12 by omega) (show hg≤12 by omega)
  exact ⟨_,rfl,o,dx,_,rfl,ho,rfl,_,rfl,o,dx,_,rfl,ho,rfl,_,rfl,_,rfl,o,dx,dx2,c,d,r,w,h,l,x,y,wd,hg,z,rfl,ho,hs,w1,h1,xw,yh,w12,h12,fun D ps H' s' eD CD => ⟨o,dx,c,d,D,ps,clN x y wd hg z,w,h,l,cs,rfl,s' _ _ ho,eD,CD,s' _ _ hc,by omega,fun _ => q H' s',fun g => absurd onn (by rw [g]; decide)⟩⟩
theorem ok_Board_clear (T:Txt K mg t):GoodM P w K mg base 6 t.c_Board "clear" ["self","shape","z"] (spLay t dropAll):=by
 obtain ⟨fd,F,b⟩:=T.F_Board_clear
 have G_Board_take:=ok_Board_take (P:=P) (w:=w) (base:=base) T
 have G_Board_shape_cells:=ok_Board_shape_cells (P:=P) (w:=w) (base:=base) T
 refine ⟨T.cl_Board,_,fd,T.M_Board_clear,F.okX sc_Board_clear (fun vs H Q E h => ?_) (fun cdv A outer s H vs Q E hr h => ?_),b⟩
 ·obtain ⟨o,dx,dx2,c,d,r,w,h,l,x,y,wd,hg,z,cs,rfl,_⟩:=h
  rfl
 ·obtain ⟨o,dx,dx2,c,d,r,w,h,l,x,y,wd,hg,z,cs,rfl,ho,hs,w1,h1,xw,yh,w12,h12,hz,hc,lc,q⟩:=h
  refine ⟨_,(pss_one (ps_expr (pe_methG (pv 0) G_Board_take (hr.mono (by decide)) passes_of (pa_cons (pe_methG (pv 0) G_Board_shape_cells (hr.mono (by decide)) passes_of (pa_cons (pv 1) (pa_cons (pv 2) pa_nil))) pa_nil)))),?_⟩
  have onn:=onB_in (clN_in (x:=x) (y:=y) xw yh hz)
  exact ⟨_,rfl,o,dx,_,rfl,ho,rfl,_,rfl,o,dx,_,rfl,ho,rfl,_,rfl,_,rfl,o,dx,dx2,c,d,r,w,h,l,x,y,wd,hg,z,rfl,ho,hs,w1,h1,xw,yh,w12,h12,fun D ps H' s' eD CD => ⟨o,dx,c,d,D,ps,clN x y wd hg z,w,h,l,cs,rfl,s' _ _ ho,eD,CD,s' _ _ hc,onn,q H' s'⟩⟩
end
def gridN (w h:Nat):Nat→List Cell
 | 0 => []
 | l + 1 => gridN w h l ++ clN 0 0 w h (l:Int)
theorem gridN_len (w h:Nat):∀ l,(gridN w h l).length = l * (w * h)
 | 0 => by simp [gridN]
 | l + 1 => by
  show (gridN w h l ++ clN 0 0 w h (l:Int)).length = _
  unfold clN
  rw [List.length_append,gridN_len w h l,List.length_map,plN_len,Nat.add_mul,Nat.one_mul]
theorem mem_gridN {w h x y z:Nat} (hx:x < w) (hy:y < h):∀ l,z < l→((x:Int),(y:Int),(z:Int))∈gridN w h l
 | 0,hz => absurd hz (by omega)
 | l + 1,hz => by
  show _∈gridN w h l ++ clN 0 0 w h (l:Int)
  by_cases e:z = l
  ·subst e
   refine List.mem_append_right _ (List.mem_map.mpr ⟨((x:Int),(y:Int)),?_,rfl⟩)
   unfold plN
   exact List.mem_flatMap.mpr ⟨x,List.mem_range.mpr hx,List.mem_map.mpr ⟨y,List.mem_range.mpr hy,by simp⟩⟩
  ·exact List.mem_append_left _ (mem_gridN hx hy l (by omega))
theorem tabC_len {cs:Tab} {w h l:Nat} (T:TabC cs w h l) (w12:w≤12) (h12:h≤12) (l3:l≤3):cs.length≤3 * (12 * 12):=by
 obtain ⟨cells,e,nd,mem⟩:=cells_of T (List.Perm.refl _)
 have h2:=congrArg List.length e
 rw [List.length_map,List.length_map] at h2
 have h3:=le_of_sub (b:=gridN w h l) nd fun x hx => by
  have hk:k3 x∈cs.map (·.1):=by rw [e]; exact List.mem_map.mpr ⟨x,hx,rfl⟩
  obtain ⟨kv,h1,e1⟩:=List.mem_map.mp hk
  obtain ⟨a,b,c,ha,hb,hc,e2⟩:=T.key kv h1
  have:x = ((a:Int),(b:Int),(c:Int)):=k3_inj (e1.symm.trans e2)
  rw [this]
  exact mem_gridN ha hb l hc
 rw [gridN_len] at h3
 have h4:l * (w * h)≤3 * (12 * 12):=Nat.mul_le_mul l3 (Nat.mul_le_mul w12 h12)
 omega
theorem TabC.dropAll {w h l:Nat}:∀ (cl:List Cell) (cs:Tab),TabC cs w h l→TabC (dropAll cs cl) w h l
 | [],_,T => T
 | c :: r,cs,T => TabC.dropAll r _ (T.drop _)
def Off2 (c d:Addr) (H H':Hp):Prop:=∀ b u,b≠c→b≠d→H b = some u→H' b = some u
theorem modN {n:Int} {w:Nat} (h:1≤w):∃ x:Nat,n % (w:Int) = (x:Int)∧x < w:=⟨(n % (w:Int)).toNat,by have:=Int.emod_nonneg n (show (w:Int)≠0 by omega); omega,by have:=Int.emod_lt_of_pos n (show (0:Int) < w by omega); omega⟩
end K23
namespace K23
open PySem L2 Wd TS
theorem step_lt {lo h:Int} {i:Nat} (hi:i < (Builtin.Range.rangeSize lo h 2).toNat):lo + i * 2 < h:=by
 unfold Builtin.Range.rangeSize at hi
 rw [if_pos (by decide)] at hi
 split at hi
 ·omega
 ·simp at hi
def rowL (y z:Int) (n:Nat):List Cell:=(List.range n).map fun (x:Nat) => ((x:Int),y,z)
def atF (w:Nat) (y z:Int):Int:=if (y / 2 + z) % 2 = 0 then 0 else (w:Int) - 1
def linE (w:Nat) (z:Int) (k:Nat):List Cell:=(List.range k).flatMap fun (i:Nat) => rowL (0 + i * 2) z w
def linO (w:Nat) (z:Int) (k:Nat):List Cell:=(List.range k).map fun (i:Nat) => (atF w (1 + i * 2) z,1 + i * 2,z)
def linZ (w h:Nat) (z:Int):List Cell:=linE w z (Builtin.Range.rangeSize 0 h 2).toNat ++ linO w z (Builtin.Range.rangeSize 1 h 2).toNat
def lin (w h l:Nat):List Cell:=(List.range l).flatMap fun (z:Nat) => linZ w h z
theorem putAll_app (cs:Tab) (a b:List Cell):putAll cs (a ++ b) = putAll (putAll cs a) b:=by unfold putAll; rw [List.foldl_append]
def linF (sc:List Int) (cs:Tab) (w h l:Nat):Tab:=if sc.getD 0 0 / 864 % 2 = 0 then cs else putAll cs (lin w h l)
theorem rowL_in {w h l:Nat} {y z:Nat} (hy:y < h) (hz:z < l):∀ c∈rowL (y:Int) (z:Int) w,∃ a b e:Nat,a < w∧b < h∧e < l∧c = ((a:Int),(b:Int),(e:Int)):=fun c hc => by
 obtain ⟨x,hx,rfl⟩:=List.mem_map.mp hc
 exact ⟨x,y,z,List.mem_range.mp hx,hy,hz,rfl⟩
theorem rowL_len (y z:Int) (n:Nat):(rowL y z n).length = n:=by unfold rowL; rw [List.length_map,List.length_range]
theorem linE_succ (w:Nat) (z:Int) (k:Nat):linE w z (k + 1) = linE w z k ++ rowL (0 + k * 2) z w:=by unfold linE; rw [List.range_succ,List.flatMap_append]; simp
theorem linO_succ (w:Nat) (z:Int) (k:Nat):linO w z (k + 1) = linO w z k ++ [((atF w (1 + (k:Int) * 2) z,1 + (k:Int) * 2,z):Cell)]:=by unfold linO; rw [List.range_succ,List.map_append]; rfl
theorem lin_succ (w h l:Nat):lin w h (l + 1) = lin w h l ++ linZ w h l:=by unfold lin; rw [List.range_succ,List.flatMap_append]; simp
theorem atF_nat {w:Nat} (h:1≤w) (y z:Int):∃ x:Nat,atF w y z = (x:Int)∧x < w:=by
 unfold atF
 split
 ·exact ⟨0,rfl,h⟩
 ·exact ⟨w - 1,by omega,by omega⟩
section
variable {P:Program} {w:World} {K:PySem.W.Frag} {mg:Str→Option Value} {base:Heap} {t:Adr}
def spLined (K:PySem.W.Frag) (C:Addr):Sp:=fun vs H Q _ => ∃ (o dx c d a:Addr) (w h l:Nat) (cs ds:Tab) (sc:List Int),vs = [.ref o,.ref a]∧Bd C H o dx c d w h l cs ds∧c≠d∧1≤w∧w≤12∧h≤12∧l≤3∧SqL K H a (sc.map V.int)∧sc.length≤63 ∧
 ∀ H',Off c H H'→Bd C H' o dx c d w h l (linF sc cs w h l) ds→Q .non H'
theorem ok_law_lined (T:Txt K mg t):GoodF P w K mg base 7 "_law_lined" ["_law_board_here","_law_script"] (spLined K t.c_Board):=by
 obtain ⟨fd,F,b⟩:=T.F_law_lined
 have G_law_cell_at:=ok_law_cell_at (P:=P) (w:=w) (base:=base) T
 have G_Board_put:=ok_Board_put (P:=P) (w:=w) (base:=base) T
 refine ⟨_,fd,F.okX sc_law_lined (fun vs H Q E h => ?_) (fun cdv A outer s H vs Q E hr h => ?_),b,F.kp,T.g__law_lined⟩
 ·obtain ⟨o,dx,c,d,a,w,h,l,cs,ds,sc,rfl,_⟩:=h
  rfl
 ·obtain ⟨o,dx,c,d,a,w,h,l,cs,ds,sc,rfl,B,ncd,w1,w12,h12,l3,ha,hsc,q⟩:=h
  refine ⟨_,(pss_cons (ps_if (pt_cmpR op_eq (pe_op op_mod (pe_op op_fdiv (pe_callG G_law_cell_at (hr.mono (by decide)) passes_of (by rfl) (pa_cons (pv 1) (pa_cons pe_int pa_nil))) pe_int) pe_int) pe_int (nomark _)) (pss_one ps_retN) pss_nil)
   (pss_one (ps_for owns_of (pi_range1 rfl T.n_range (pa_cons (pe_fld (pv 0) rfl) pa_nil)) (pg_name (i:=2) sc_law_lined.nd rfl (Or.inr rfl)) (pss_cons (ps_for owns_of (pi_range3 rfl T.n_range (pa_cons pe_int (pa_cons (pe_fld (pv 0) rfl) (pa_cons pe_int pa_nil)))) (pg_name (i:=3) sc_law_lined.nd rfl (Or.inr rfl)) (pss_one (ps_expr (pe_methG (pv 0) G_Board_put (hr.mono (by decide)) passes_of (pa_cons (pe_comp (own:=["_law_x"]) (cs_two (n1:="_law_z") (n2:="_law_y") (N:=["_law_board_here","_law_script","_law_z","_law_y","_law_at"]) rfl (by rfl) (by rfl) rfl rfl (by rfl) (by rfl) (by decide +kernel) (by decide +kernel) (by decide +kernel)) (pi_range1 rfl T.n_range (pa_cons (pe_fld (pv 0) rfl) pa_nil)) (fun _ _ _ _ _ => pg_name (i:=5) (by show (["_law_board_here","_law_script","_law_z","_law_y","_law_at","_law_x"]:List Str).Nodup; decide +kernel) rfl (Or.inl rfl)) (fun _ _ _ _ _ => pf_nil) (fun _ _ _ _ _ => (pe_tup (pa_cons (pv 5) (pa_cons (pv 3) (pa_cons (pv 2) pa_nil)))))) pa_nil)))))
   (pss_one (ps_for owns_of (pi_range3 rfl T.n_range (pa_cons pe_int (pa_cons (pe_fld (pv 0) rfl) (pa_cons pe_int pa_nil)))) (pg_name (i:=3) sc_law_lined.nd rfl (Or.inr rfl)) (pss_cons (ps_set (i:=4) sc_law_lined.nd rfl (Or.inl rfl) (pe_ix ix_list (pe_lst (pa_cons pe_int (pa_cons (pe_op op_sub (pe_fld (pv 0) rfl) pe_int) pa_nil))) (pe_op op_mod (pe_op op_add (pe_op op_fdiv (pv 3) pe_int) (pv 2)) pe_int) (fun _ _ => rfl)))
   (pss_one (ps_expr (pe_methG (pv 0) G_Board_put (hr.mono (by decide)) passes_of (pa_cons (pe_lst (pa_cons (pe_tup (pa_cons (pv 4) (pa_cons (pv 3) (pa_cons (pv 2) pa_nil)))) pa_nil)) pa_nil))))))))))),?_⟩
  have hB:∀ {H':Hp} {cs':Tab},Bd t.c_Board H' o dx c d w h l cs' ds→cs'.length + 12≤1000:=fun B' => by have:=tabC_len B'.C w12 h12 l3; omega
  refine ⟨_,rfl,a,sc,0,rfl,ha,by decide,by decide,hsc,_,864,rfl,rfl,⟨by decide,by decide⟩,_,2,rfl,rfl,(by show (0:Int) < 2; decide),rfl,_,rfl,iteD (fun e => ?_) fun e => ?_⟩
  ·refine q H (fun b u _ e => e) ?_
   have e2:sc.getD 0 0 / 864 % 2 = 0:=by injection e
   rw [linF,if_pos e2]; exact B
  have e2:¬ sc.getD 0 0 / 864 % 2 = 0:=fun z => e (congrArg V.int z)
  rw [linF,if_neg e2] at q
  refine ⟨_,rfl,o,_,dx,_,.int (l:Int),rfl,B.o,T.cl_Board,T.na_Board_layers,rfl,(l:Int),rfl,by omega,by omega,for_range (fun z σ H' => ∃ v2 v3 v4,σ = [some (.ref o),some (.ref a),v2,v3,v4]∧Off c H H'∧Bd t.c_Board H' o dx c d w h l (putAll cs (lin w h z)) ds) ⟨_,_,_,rfl,fun b u _ e => e,B⟩ ?_ ?_⟩
  ·rintro z σ H1 hz ⟨v2,v3,v4,rfl,f1,B1⟩
   rw [Int.toNat_natCast] at hz
   rw [Int.zero_add]
   show tSeq _ _ _ [some (.ref o),some (.ref a),some (.int (z:Int)),v3,v4] H1
   refine seq_gen (fun σ H' => ∃ v3 v4,σ = [some (.ref o),some (.ref a),some (.int (z:Int)),v3,v4]∧Off c H H'∧Bd t.c_Board H' o dx c d w h l (putAll cs (lin w h z ++ linE w z (Builtin.Range.rangeSize 0 h 2).toNat)) ds) (fun B' nx => ?_) ?_
   ·refine ⟨_,rfl,o,_,dx,_,.int (h:Int),rfl,B1.o,T.cl_Board,T.na_Board_high,rfl,0,(h:Int),2,rfl,⟨by omega,by omega,by omega,by omega,by omega,by omega⟩,for_step (fun k σ H' => ∃ v3 v4,σ = [some (.ref o),some (.ref a),some (.int (z:Int)),v3,v4]∧Off c H H'∧Bd t.c_Board H' o dx c d w h l (putAll cs (lin w h z ++ linE w z k)) ds) ⟨_,_,rfl,f1,by rw [show linE w z 0 = [] from rfl,List.append_nil]; exact B1⟩ ?_ fun σ H' p => nx σ H' p⟩
    rintro k σ H3 hk ⟨v3,v4,rfl,f3,B3⟩
    have hy:=step_lt hk
    have ey:(0:Int) + (k:Int) * 2 = ((k * 2:Nat):Int):=by omega
    rw [ey] at hy ⊢
    have hy':k * 2 < h:=by omega
    generalize eyk:k * 2 = y at hy hy' ey
    refine ⟨_,rfl,o,dx,_,rfl,B3.o,rfl,_,rfl,o,_,dx,_,.int (w:Int),rfl,B3.o,T.cl_Board,T.na_Board_wide,rfl,(w:Int),rfl,by omega,by omega,comp_range (fun D i ys H' => ∃ ps,ys = ps.map V.ref∧H' D = some (.lst ys)∧H3 D = none∧Same H3 H'∧Cells H' ps (rowL y z i)∧ys.length = i) (by rw [Int.toNat_natCast]; exact Nat.le_trans w12 (by decide)) (fun D hD => ⟨[],rfl,upd_same,hD,same_new (Same.refl H3) hD,Cells.nil,rfl⟩) (fun D i ys H' ⟨ps,_,e,_,_,_,hl⟩ => ⟨e,hl⟩) ?_ ?_⟩
    ·rintro D i ys H9 Qy Qn hi ⟨ps,rfl,eD,nD,s9,ce,hl⟩ hy
     rw [Int.zero_add]
     refine ⟨⟨_,rfl,rfl⟩,iteT ⟨_,rfl,_,rfl,_,rfl,(by show 3≤sizeLine; decide),fun q hq => ?_⟩⟩
     have nDq:D≠q:=ne_of_none eD hq
     refine hy _ _ (by rw [upd_ne nDq]; exact eD) ⟨ps ++ [q],by rw [List.map_append]; rfl,upd_same,nD,fun b u e => ?_,?_,by rw [List.length_append,hl]; rfl⟩
     ·rw [upd_ne (ne_of_none e nD),upd_ne (ne_of_none (s9 _ _ e) hq)]; exact s9 _ _ e
     ·have e1:rowL y z (i + 1) = rowL y z i ++ [((i:Int),(y:Int),(z:Int))]:=by unfold rowL; rw [List.range_succ,List.map_append]; rfl
      rw [e1]
      exact ce.add hq eD
    ·rintro D ys H9 hD ⟨ps,rfl,eD,nD,s9,ce,hl⟩
     rw [Int.toNat_natCast] at ce
     have B9:=B3.same s9
     have rin:=rowL_in (w:=w) hy' hz
     have hb:=hB B3
     refine ⟨o,dx,c,d,D,ps,rowL y z w,w,h,l,_,rfl,B9.o,eD,ce,B9.c,by rw [rowL_len]; omega,fun _ => ⟨_,_,rfl,fun b u n e => by rw [upd_ne n]; exact s9 _ _ (f3 b u n e),?_⟩,fun z => absurd (onB_in rin) (by rw [z]; decide)⟩
     have e1:putAll cs (lin w h z ++ linE w z (k + 1)) = putAll (putAll cs (lin w h z ++ linE w z k)) (rowL y z w):=by rw [linE_succ,← List.append_assoc,putAll_app,ey]
     rw [e1]
     exact B9.putC ncd (tabC_puts _ _ B9.C rin)
   ·rintro σ H2 ⟨v3,v4,rfl,f2,B2⟩
    refine ⟨_,rfl,o,_,dx,_,.int (h:Int),rfl,B2.o,T.cl_Board,T.na_Board_high,rfl,1,(h:Int),2,rfl,⟨by omega,by omega,by omega,by omega,by omega,by omega⟩,for_step (fun k σ H' => ∃ v3 v4,σ = [some (.ref o),some (.ref a),some (.int (z:Int)),v3,v4]∧Off c H H'∧Bd t.c_Board H' o dx c d w h l (putAll cs (lin w h z ++ linE w z (Builtin.Range.rangeSize 0 h 2).toNat ++ linO w z k)) ds) ⟨_,_,rfl,f2,by rw [show linO w z 0 = [] from rfl,List.append_nil]; exact B2⟩ ?_ fun σ H' ⟨v3,v4,e,f,b⟩ => ⟨_,v3,v4,e,f,by rw [lin_succ,linZ,← List.append_assoc]; exact b⟩⟩
    rintro k σ H3 hk ⟨v3,v4,rfl,f3,B3⟩
    have hy:=step_lt hk
    have ey:(1:Int) + (k:Int) * 2 = ((1 + k * 2:Nat):Int):=by omega
    have lo:=linO_succ w z k
    rw [ey] at hy lo ⊢
    have hy':1 + k * 2 < h:=by omega
    generalize 1 + k * 2 = y at hy hy' lo
    obtain ⟨x,ex,hx⟩:=atF_nat w1 (y:Int) (z:Int)
    refine ⟨_,rfl,o,_,dx,_,.int (w:Int),rfl,B3.o,T.cl_Board,T.na_Board_wide,rfl,(w:Int),1,rfl,rfl,(by show 2≤sizeLine; decide),fun la hla => ?_⟩
    have s4:=same_new (o:=.lst [.int 0,.int ((w:Int) - 1)]) (Same.refl H3) hla
    have e4:upd H3 la (.lst [.int 0,.int ((w:Int) - 1)]) la = some (.lst [.int 0,.int ((w:Int) - 1)]):=upd_same
    try dsimp only
    generalize upd H3 la (.lst [.int 0,.int ((w:Int) - 1)]) = H4 at s4 e4 ⊢
    have eat:atI [V.int 0,.int ((w:Int) - 1)] (((y:Int) / 2 + (z:Int)) % 2) = some (.int (x:Int)):=by
     rw [← ex,atF]
     split
     ·rename_i e; rw [e]; rfl
     ·rename_i e
      rw [show ((y:Int) / 2 + (z:Int)) % 2 = 1 by omega]; rfl
    refine ⟨_,rfl,(y:Int),2,rfl,rfl,⟨by decide,by decide⟩,_,rfl,_,_,rfl,rfl,_,2,rfl,rfl,(by show (0:Int) < 2; decide),la,_,_,.int (x:Int),rfl,rfl,SqL.of e4,eat,?_⟩
    refine gName_go ?_
    try dsimp only
    have B4:=B3.same s4
    refine ⟨_,rfl,o,dx,_,rfl,B4.o,rfl,_,rfl,_,rfl,_,rfl,(by show 3≤sizeLine; decide),fun pt hpt => ?_⟩
    have s5:=same_new (o:=.tup [.int x,.int y,.int z]) (Same.refl H4) hpt
    have e5:upd H4 pt (.tup [.int x,.int y,.int z]) pt = some (.tup [.int x,.int y,.int z]):=upd_same
    try dsimp only
    generalize upd H4 pt (.tup [.int x,.int y,.int z]) = H5 at s5 e5 ⊢
    refine ⟨(by show 1≤sizeLine; decide),fun pl gl => ?_⟩
    have s6:=same_new (o:=.lst [.ref pt]) (Same.refl H5) gl
    have e6:upd H5 pl (.lst [.ref pt]) pl = some (.lst ([pt].map V.ref)):=upd_same
    try dsimp only
    generalize upd H5 pl (.lst [.ref pt]) = H6 at s6 e6 ⊢
    have s36:=Same.trans s4 (Same.trans s5 s6)
    have B6:=B3.same s36
    have rin:∀ c∈[((x:Int),(y:Int),(z:Int))],∃ a b e:Nat,a < w∧b < h∧e < l∧c = ((a:Int),(b:Int),(e:Int)):=fun c hc => by
     rw [List.mem_singleton] at hc
     exact ⟨x,y,z,hx,hy',hz,hc⟩
    have hb:=hB B3
    refine ⟨o,dx,c,d,pl,[pt],[((x:Int),(y:Int),(z:Int))],w,h,l,_,rfl,B6.o,e6,Cells.nil.snoc (c:=((x:Int),(y:Int),(z:Int))) (s6 _ _ e5),B6.c,(by show _ + 1≤1000; omega),fun _ => ⟨_,_,rfl,fun b u n e => by rw [upd_ne n]; exact s36 _ _ (f3 b u n e),?_⟩,fun z => absurd (onB_in rin) (by rw [z]; decide)⟩
    rw [lo,ex,← List.append_assoc,putAll_app (b:=[((x:Int),(y:Int),(z:Int))])]
    exact B6.putC ncd (tabC_puts _ _ B6.C rin)
  ·rintro σ H1 ⟨v2,v3,v4,rfl,f1,B1⟩
   rw [Int.toNat_natCast] at B1
   exact q H1 f1 B1
def spDeed (t:Adr):Sp:=fun vs H Q _ => ∃ (o dx c d:Addr) (w h l:Nat) (n:Int) (cs ds:Tab),vs = [.ref o,.int n]∧Bd t.c_Board H o dx c d w h l cs ds∧c≠d∧1≤w∧1≤h∧1≤l∧w≤12∧h≤12∧l≤3∧ds.length≤900 ∧
 ∀ (cs' ds':Tab) (H':Hp),Off2 c d H H'→Bd t.c_Board H' o dx c d w h l cs' ds'→ds'.length≤ds.length + 1→Q .non H'
theorem ok_law_deed (T:Txt K mg t):GoodF P w K mg base 8 "_law_deed" ["_law_board_here","_law_cell"] (spDeed t):=by
 obtain ⟨fd,F,b⟩:=T.F_law_deed
 have G_Board_put:=ok_Board_put (P:=P) (w:=w) (base:=base) T
 have G_Board_drill:=ok_Board_drill (P:=P) (w:=w) (base:=base) T
 have G_Board_take:=ok_Board_take (P:=P) (w:=w) (base:=base) T
 have G_Board_plug:=ok_Board_plug (P:=P) (w:=w) (base:=base) T
 have G_Board_lay:=ok_Board_lay (P:=P) (w:=w) (base:=base) T
 have G_Board_clear:=ok_Board_clear (P:=P) (w:=w) (base:=base) T
 have G_Board_has_hole:=ok_Board_has_hole (P:=P) (w:=w) (base:=base) T
 have G_Block:=ok_Block_init (P:=P) (w:=w) (base:=base) T
 refine ⟨_,fd,F.okX sc_law_deed (fun vs H Q E h => ?_) (fun cdv A outer s H vs Q E hr h => ?_),b,F.kp,T.g__law_deed⟩
 ·obtain ⟨o,dx,c,d,w,h,l,n,cs,ds,rfl,_⟩:=h
  rfl
 ·obtain ⟨o,dx,c,d,w,h,l,n,cs,ds,rfl,B,ncd,w1,h1,l1,w12,h12,l3,ld,q⟩:=h
  refine ⟨_,(pss_cons (ps_set (i:=2) sc_law_deed.nd rfl (Or.inl rfl) (pe_op op_mod (pe_op op_fdiv (pv 1) pe_int) (pe_fld (pv 0) rfl)))
   (pss_cons (ps_set (i:=3) sc_law_deed.nd rfl (Or.inl rfl) (pe_op op_mod (pe_op op_fdiv (pv 1) pe_int) (pe_fld (pv 0) rfl)))
   (pss_cons (ps_set (i:=4) sc_law_deed.nd rfl (Or.inl rfl) (pe_op op_mod (pe_op op_fdiv (pv 1) pe_int) (pe_fld (pv 0) rfl)))
   (pss_cons (ps_set (i:=5) sc_law_deed.nd rfl (Or.inl rfl) (pe_op op_mod (pv 1) pe_int))
   (pss_cons (ps_if (pt_cmpR op_eq (pv 5) pe_int (nomark _)) (pss_one (ps_expr (pe_methG (pv 0) G_Board_take (hr.mono (by decide)) passes_of (pa_cons (pe_lst (pa_cons (pe_tup (pa_cons (pv 2) (pa_cons (pv 3) (pa_cons (pv 4) pa_nil)))) pa_nil)) pa_nil)))) pss_nil)
   (pss_cons (ps_if (pt_cmpR op_eq (pv 5) pe_int (nomark _)) (pss_one (ps_expr (pe_methG (pv 0) G_Board_put (hr.mono (by decide)) passes_of (pa_cons (pe_lst (pa_cons (pe_tup (pa_cons (pv 2) (pa_cons (pv 3) (pa_cons (pv 4) pa_nil)))) pa_nil)) pa_nil)))) pss_nil)
   (pss_cons (ps_if (pw_and (pt_cmpR op_eq (pv 5) pe_int (nomark _)) (pw_and1 (pt_val (pe_methG (pv 0) G_Board_has_hole (hr.mono (by decide)) passes_of (pa_cons (pv 2) (pa_cons (pv 3) pa_nil)))))).pt (pss_one (ps_expr (pe_methG (pv 0) G_Board_plug (hr.mono (by decide)) passes_of (pa_cons (pv 2) (pa_cons (pv 3) pa_nil))))) (pss_one (ps_if (pt_cmpR op_eq (pv 5) pe_int (nomark _)) (pss_one (ps_expr (pe_methG (pv 0) G_Board_drill (hr.mono (by decide)) passes_of (pa_cons (pv 2) (pa_cons (pv 3) pa_nil))))) pss_nil)))
   (pss_cons (ps_if (pt_cmpR op_eq (pv 5) pe_int (nomark _)) (pss_one (ps_expr (pe_methG (pv 0) G_Board_lay (hr.mono (by decide)) passes_of (pa_cons (pe_makeG G_Block (hr.mono (by decide)) passes_of (by rfl) (pa_cons (pv 2) (pa_cons (pv 3) (pa_cons (pe_op op_sub (pe_fld (pv 0) rfl) (pv 2)) (pa_cons pe_int pa_nil))))) (pa_cons (pv 4) pa_nil))))) pss_nil)
   (pss_one (ps_if (pt_cmpR op_eq (pv 5) pe_int (nomark _)) (pss_one (ps_expr (pe_methG (pv 0) G_Board_clear (hr.mono (by decide)) passes_of (pa_cons (pe_makeG G_Block (hr.mono (by decide)) passes_of (by rfl) (pa_cons (pv 2) (pa_cons (pv 3) (pa_cons pe_int (pa_cons (pe_op op_sub (pe_fld (pv 0) rfl) (pv 3)) pa_nil))))) (pa_cons (pv 4) pa_nil))))) pss_nil)))))))))),?_⟩
  obtain ⟨x,ex,hx⟩:=modN (n:=n / 5) w1
  obtain ⟨y,ey,hy⟩:=modN (n:=n / 60) h1
  obtain ⟨z,ez,hz⟩:=modN (n:=n / 720) l1
  refine ⟨_,rfl,n,5,rfl,rfl,⟨by decide,by decide⟩,_,rfl,o,_,dx,_,.int (w:Int),rfl,B.o,T.cl_Board,T.na_Board_wide,rfl,_,(w:Int),rfl,rfl,(by show (0:Int) < w; omega),?_⟩
  refine gName_go ?_
  dsimp only
  rw [ex]
  refine ⟨_,rfl,n,60,rfl,rfl,⟨by decide,by decide⟩,_,rfl,o,_,dx,_,.int (h:Int),rfl,B.o,T.cl_Board,T.na_Board_high,rfl,_,(h:Int),rfl,rfl,(by show (0:Int) < h; omega),?_⟩
  refine gName_go ?_
  dsimp only
  rw [ey]
  refine ⟨_,rfl,n,720,rfl,rfl,⟨by decide,by decide⟩,_,rfl,o,_,dx,_,.int (l:Int),rfl,B.o,T.cl_Board,T.na_Board_layers,rfl,_,(l:Int),rfl,rfl,(by show (0:Int) < l; omega),?_⟩
  refine gName_go ?_
  dsimp only
  rw [ez]
  refine ⟨_,rfl,n,5,rfl,rfl,(by show (0:Int) < 5; decide),?_⟩
  refine gName_go ?_
  dsimp only
  generalize n % 5 = wy
  have hxy:(inB (x:Int) (w:Int) && inB (y:Int) (h:Int)) = true:=by rw [inB_nat hx,inB_nat hy]; rfl
  have rin:∀ c∈[((x:Int),(y:Int),(z:Int))],∃ a b e:Nat,a < w∧b < h∧e < l∧c = ((a:Int),(b:Int),(e:Int)):=fun c hc => by
   rw [List.mem_singleton] at hc
   exact ⟨x,y,z,hx,hy,hz,hc⟩
  have on1:=onB_in rin
  have ln:∀ {H':Hp} {cs' ds':Tab},Bd t.c_Board H' o dx c d w h l cs' ds'→cs'.length≤800:=fun B' => by have:=tabC_len B'.C w12 h12 l3; omega
  let R:Nat→St→Hp→Prop:=fun m σ H' => ∃ cs' ds',σ = [some (.ref o),some (.int n),some (.int x),some (.int y),some (.int z),some (.int wy)]∧Off2 c d H H'∧Bd t.c_Board H' o dx c d w h l cs' ds'∧ds'.length≤ds.length + m
  have R0:R 0 [some (.ref o),some (.int n),some (.int x),some (.int y),some (.int z),some (.int wy)] H:=⟨cs,ds,rfl,fun b u _ _ e => e,B,Nat.le_refl _⟩
  have offC:∀ {H1 H2:Hp} {u:HO},Off2 c d H H1→Same H1 H2→Off2 c d H (upd H2 c u):=fun f s b u n1 n2 e => by rw [upd_ne n1]; exact s _ _ (f b u n1 n2 e)
  have offD:∀ {H1 H2:Hp} {u:HO},Off2 c d H H1→Same H1 H2→Off2 c d H (upd H2 d u):=fun f s b u n1 n2 e => by rw [upd_ne n2]; exact s _ _ (f b u n1 n2 e)
  refine seq_gen (R 0) (fun B' nx => ?_) ?_
  ·refine ⟨_,rfl,rfl,_,rfl,iteD (fun _ => ?_) fun _ => nx _ _ R0⟩
   refine ⟨_,rfl,o,dx,_,rfl,B.o,rfl,_,rfl,_,rfl,_,rfl,(by show 3≤sizeLine; decide),fun pt hpt => ?_⟩
   have s5:=same_new (o:=.tup [.int x,.int y,.int z]) (Same.refl H) hpt
   have e5:upd H pt (.tup [.int x,.int y,.int z]) pt = some (.tup [.int x,.int y,.int z]):=upd_same
   try dsimp only
   generalize upd H pt (.tup [.int x,.int y,.int z]) = H5 at s5 e5 ⊢
   refine ⟨(by show 1≤sizeLine; decide),fun pl gl => ?_⟩
   have s6:=same_new (o:=.lst [.ref pt]) (Same.refl H5) gl
   have e6:upd H5 pl (.lst [.ref pt]) pl = some (.lst ([pt].map V.ref)):=upd_same
   try dsimp only
   generalize upd H5 pl (.lst [.ref pt]) = H6 at s6 e6 ⊢
   have s36:=Same.trans s5 s6
   have B6:=B.same s36
   exact ⟨o,dx,c,d,pl,[pt],[((x:Int),(y:Int),(z:Int))],w,h,l,_,rfl,B6.o,e6,Cells.nil.snoc (c:=((x:Int),(y:Int),(z:Int))) (s6 _ _ e5),B6.c,on1,nx _ _ ⟨_,ds,rfl,offC (fun b u _ _ e => e) s36,B6.putC ncd (TabC.dropAll _ _ B6.C),Nat.le_refl _⟩⟩
  rintro σ H1 ⟨cs1,ds1,rfl,f1,B1,l1'⟩
  refine seq_gen (R 0) (fun B' nx => ?_) ?_
  ·refine ⟨_,rfl,rfl,_,rfl,iteD (fun _ => ?_) fun _ => nx _ _ ⟨cs1,ds1,rfl,f1,B1,l1'⟩⟩
   refine ⟨_,rfl,o,dx,_,rfl,B1.o,rfl,_,rfl,_,rfl,_,rfl,(by show 3≤sizeLine; decide),fun pt hpt => ?_⟩
   have s5:=same_new (o:=.tup [.int x,.int y,.int z]) (Same.refl H1) hpt
   have e5:upd H1 pt (.tup [.int x,.int y,.int z]) pt = some (.tup [.int x,.int y,.int z]):=upd_same
   try dsimp only
   generalize upd H1 pt (.tup [.int x,.int y,.int z]) = H5 at s5 e5 ⊢
   refine ⟨(by show 1≤sizeLine; decide),fun pl gl => ?_⟩
   have s6:=same_new (o:=.lst [.ref pt]) (Same.refl H5) gl
   have e6:upd H5 pl (.lst [.ref pt]) pl = some (.lst ([pt].map V.ref)):=upd_same
   try dsimp only
   generalize upd H5 pl (.lst [.ref pt]) = H6 at s6 e6 ⊢
   have s36:=Same.trans s5 s6
   have B6:=B1.same s36
   have hb:=ln B1
   exact ⟨o,dx,c,d,pl,[pt],[((x:Int),(y:Int),(z:Int))],w,h,l,_,rfl,B6.o,e6,Cells.nil.snoc (c:=((x:Int),(y:Int),(z:Int))) (s6 _ _ e5),B6.c,(by show _ + 1≤1000; omega),fun _ => nx _ _ ⟨_,ds1,rfl,offC f1 s36,B6.putC ncd (tabC_puts _ _ B6.C rin),l1'⟩,fun z => absurd on1 (by rw [z]; decide)⟩
  rintro σ H2 ⟨cs2,ds2,rfl,f2,B2,l2⟩
  refine seq_gen (R 1) (fun B' nx => ?_) ?_
  ·have elsePart:∀ H',Same H2 H'→(tIfS (tTest (tOp rEq (tVar 5) (tC (V.int 2)))) (tDrop (tMeth t.c_Board "drill" (spDrill t.c_Board t.c_NoPlace) [] E (tVar 0) (tCons (tVar 2) (tCons (tVar 3) tNil)))) tNext) { nx:=B' { nx:=fun x H' => Q V.non H',rt:=Q },rt:=Q } [some (.ref o),some (.int n),some (.int x),some (.int y),some (.int z),some (.int wy)] H':=fun H' s' => by
    have B7:=B2.same s'
    refine ⟨_,rfl,rfl,_,rfl,iteD (fun _ => ?_) fun _ => nx _ _ ⟨cs2,ds2,rfl,fun b u n1 n2 e => s' _ _ (f2 b u n1 n2 e),B7,by omega⟩⟩
    refine ⟨_,rfl,o,dx,_,rfl,B7.o,rfl,_,rfl,_,rfl,o,dx,c,d,w,h,l,x,y,ds2,rfl,B7.o,B7.d,by omega,fun _ p1 g1 => ?_,fun z => absurd hxy (by rw [z]; decide)⟩
    have t1:=same_new (o:=.tup [.int x,.int y]) (Same.refl H') g1
    have lk:=length_putK ds2 [.inl (x:Int),.inl (y:Int)] (.bl true)
    exact nx _ _ ⟨cs2,_,rfl,offD f2 (Same.trans s' t1),(B7.same t1).putD ncd (B7.D.put hx hy),by omega⟩
   refine ⟨_,rfl,rfl,_,rfl,iteD (fun _ => ?_) fun _ => iteF (elsePart H2 (Same.refl _))⟩
   refine ⟨_,rfl,o,dx,_,rfl,B2.o,rfl,_,rfl,_,rfl,o,dx,c,d,w,h,l,x,y,ds2,rfl,B2.o,B2.d,fun H7 s7 => ⟨_,rfl,?_⟩⟩
   generalize (inB (x:Int) (w:Int) && inB (y:Int) (h:Int) && (valV ds2 [.inl (x:Int),.inl (y:Int)]).isSome) = bb
   cases bb
   ·exact iteF (elsePart H7 s7)
   ·have B7:=B2.same s7
    refine iteT ⟨_,rfl,o,dx,_,rfl,B7.o,rfl,_,rfl,_,rfl,o,dx,c,d,w,h,l,x,y,ds2,rfl,B7.o,hxy,B7.d,fun p1 g1 => ?_⟩
    have t1:=same_new (o:=.tup [.int x,.int y]) (Same.refl H7) g1
    have lk:=length_dropK ds2 [.inl (x:Int),.inl (y:Int)]
    exact nx _ _ ⟨cs2,_,rfl,offD f2 (Same.trans s7 t1),(B7.same t1).putD ncd (B7.D.drop _),by omega⟩
  rintro σ H3 ⟨cs3,ds3,rfl,f3,B3,l3'⟩
  have hb:=ln B3
  refine seq_gen (R 1) (fun B' nx => ?_) ?_
  ·refine ⟨_,rfl,rfl,_,rfl,iteD (fun _ => ?_) fun _ => nx _ _ ⟨cs3,ds3,rfl,f3,B3,l3'⟩⟩
   refine ⟨_,rfl,o,dx,_,rfl,B3.o,rfl,_,rfl,_,rfl,_,rfl,o,_,dx,_,.int (w:Int),rfl,B3.o,T.cl_Board,T.na_Board_wide,rfl,_,rfl,(w:Int),(x:Int),rfl,rfl,fun r dx2 hr0 hdx2 nrd => ?_⟩
   have ew:(w:Int) - (x:Int) = ((w - x:Nat):Int):=by omega
   dsimp only
   rw [ew]
   refine ⟨r,dx2,.int x,.int y,.int (w - x:Nat),.int (1:Nat),rfl,upd_same,rfl,fun _ _ H4 but er => ⟨rfl,?_⟩,fun z => absurd ⟨rfl,?_⟩ z⟩
   ·have s4:=make_but (Same.refl H3) hr0 hdx2 but
    have B4:=B3.same s4
    exact ⟨_,rfl,o,dx,dx2,c,d,r,w,h,l,x,y,w - x,1,z,cs3,rfl,B4.o,er,by omega,by omega,by omega,by omega,w12,h12,hz,B4.c,hb,fun H5 s5 => nx _ _ ⟨_,ds3,rfl,offC f3 (Same.trans s4 s5),(B4.same s5).putC ncd (tabC_puts _ _ B4.C (clN_in (by omega) (by omega) hz)),l3'⟩⟩
   ·show (decide (1≤((w - x:Nat):Int)) && (decide (1≤((1:Nat):Int)) && true)) = true
    rw [decide_eq_true (by omega)]; rfl
  rintro σ H4 ⟨cs4,ds4,rfl,f4,B4,l4⟩
  refine ⟨_,rfl,rfl,_,rfl,iteD (fun _ => ?_) fun _ => q cs4 ds4 H4 f4 B4 l4⟩
  have hb4:=ln B4
  refine ⟨_,rfl,o,dx,_,rfl,B4.o,rfl,_,rfl,_,rfl,_,rfl,o,_,dx,_,.int (h:Int),rfl,B4.o,T.cl_Board,T.na_Board_high,rfl,_,rfl,(h:Int),(y:Int),rfl,rfl,fun r dx2 hr0 hdx2 nrd => ?_⟩
  have ew:(h:Int) - (y:Int) = ((h - y:Nat):Int):=by omega
  dsimp only
  rw [ew]
  refine ⟨r,dx2,.int x,.int y,.int (1:Nat),.int (h - y:Nat),rfl,upd_same,rfl,fun _ _ H5 but er => ⟨rfl,?_⟩,fun z => absurd ⟨rfl,?_⟩ z⟩
  ·have s5:=make_but (Same.refl H4) hr0 hdx2 but
   have B5:=B4.same s5
   exact ⟨_,rfl,o,dx,dx2,c,d,r,w,h,l,x,y,1,h - y,z,cs4,rfl,B5.o,er,by omega,by omega,by omega,by omega,w12,h12,hz,B5.c,hb4,fun H6 s6 => q _ ds4 _ (offC f4 (Same.trans s5 s6)) ((B5.same s6).putC ncd (TabC.dropAll _ _ B5.C)) l4⟩
  ·show (decide (1≤((1:Nat):Int)) && (decide (1≤((h - y:Nat):Int)) && true)) = true
   rw [decide_eq_true (by omega),decide_eq_true (by omega)]; rfl
end
end K23
namespace K23
open PySem L2 Wd TS
theorem b_set:bootBuiltins "set" = some (.type "set"):=by decide +kernel
theorem cut_first (v:V) (vs:List V):cutV (v :: vs) none (some 1) = [v]:=by
 unfold cutV HT.sIx
 dsimp only
 rw [if_neg (by decide)]
 have e:min (1:Int).toNat (v :: vs).length = 1:=by rw [List.length_cons]; show min 1 _ = 1; omega
 simp only [e]; rfl
theorem cut_last (vs:List V) (v:V):cutV (vs ++ [v]) (some (-1)) none = [v]:=by
 unfold cutV HT.sIx
 dsimp only
 rw [if_pos (by decide)]
 have e:((-1:Int) + ((vs ++ [v]).length:Int)).toNat = vs.length:=by rw [List.length_append]; show ((-1:Int) + ((vs.length + 1:Nat):Int)).toNat = _; omega
 simp only [e]
 rw [List.drop_left,List.length_append]
 show List.take (vs.length + 1 - vs.length) [v] = _
 rw [Nat.add_sub_cancel_left]; rfl
theorem next_go {D:Ends} {σ:St} {H:Hp} (h:D.nx σ H):tNext D σ H:=h
theorem Wlk.on {N:Cell→List Cell} {one other:Cell} {pl cells:List Cell} {n:Nat} (W:Wlk N one other pl n) (B:Nb N cells) (h:one∈cells):∀ (k:Nat) (x:Cell),pl[k]? = some x→x∈cells
 | 0,x,e => by rw [W.first] at e; cases e; exact h
 | k + 1,y,e => by
  have hk:=(List.getElem?_eq_some_iff.mp e).1
  have ex:=List.getElem?_eq_getElem (l:=pl) (i:=k) (by omega)
  exact B.on _ (W.on B h k _ ex) _ (W.near k _ y ex e)
theorem set_len {us:List (List Key × Addr)} {pl:List Cell} (nd:(us.map (·.1)).Nodup) (mm:∀ k,k∈us.map (·.1)↔k∈pl.map k3) (np:pl.Nodup):us.length = pl.length:=by
 have:=((List.perm_ext_iff_of_nodup nd (List.pairwise_map.mpr (np.imp fun h z => h (k3_inj z)))).mpr mm).length_eq
 rwa [List.length_map,List.length_map] at this
section
variable {P:Program} {w:World} {K:PySem.W.Frag} {mg:Str→Option Value} {base:Heap} {t:Adr}
def spRight (C:Addr):Sp:=fun vs H Q _ => ∃ (o dx c d p r tn:Addr) (w h l:Nat) (cs ds fd:Tab) (one other:Cell) (cells ks:List Cell) (lv:Cell→Nat),vs = [.ref o,.ref p,.ref r,.ref tn]∧Bd C H o dx c d w h l cs ds∧l≤3∧cs.length≤900∧H p = some (.tup [.int one.1,.int one.2.1,.int one.2.2])∧H r = some (.tup [.int other.1,.int other.2.1,.int other.2.2])∧one∈cells∧other∈cells∧CL cs w h l cells ∧
 H tn = some (.dT fd)∧fd.map (·.1) = ks.map k3∧(∀ e,e∈ks↔Rch (nearK cs ds w h l) one e)∧Lvl (nearK cs ds w h l) one ks lv∧Num ks lv fd∧∀ H',Same H H'→Q (.bl true) H'
theorem ok_law_right (T:Txt K mg t):GoodF P w K mg base 8 "_law_right" ["_law_board_here","_law_one","_law_other","_law_turns"] (spRight t.c_Board):=by
 obtain ⟨fd,F,b⟩:=T.F_law_right
 have G_walk:=ok_walk (P:=P) (w:=w) (base:=base) T
 have G_near:=ok_near (P:=P) (w:=w) (base:=base) T
 have G_island_of:=ok_island_of (P:=P) (w:=w) (base:=base) T
 refine ⟨_,fd,F.okX sc_law_right (fun vs H Q E h => ?_) (fun cdv A outer s H vs Q E hr h => ?_),b,F.kp,T.g__law_right⟩
 ·obtain ⟨o,dx,c,d,p,r,tn,w,h,l,cs,ds,fd,one,other,cells,ks,lv,rfl,_⟩:=h
  rfl
 ·obtain ⟨o,dx,c,d,p,r,tn,w,h,l,cs,ds,fd,one,other,cells,ks,lv,rfl,B,hl3,lc,hp,hr1,ho1,ho2,L,ht,ek,mem,LV,NU,q⟩:=h
  refine ⟨_,(pss_cons (ps_set (i:=4) sc_law_right.nd rfl (Or.inl rfl) (pe_callG G_walk (hr.mono (by decide)) passes_of (by rfl) (pa_cons (pv 0) (pa_cons (pv 1) (pa_cons (pv 2) pa_nil)))))
   (pss_cons (ps_set (i:=5) sc_law_right.nd rfl (Or.inl rfl) (pe_cmpR (op_inT hr.units) (pv 2) (pe_callG G_island_of (hr.mono (by decide)) passes_of (by rfl) (pa_cons (pv 0) (pa_cons (pv 1) pa_nil))) (by with_unfolding_all rfl)))
   (pss_cons (ps_if (pw_or (pt_cmpR op_ne (pv 5) (pe_cmp (pc_din (hu_of hr) (pv 2) (pv 3))) (nomark _)) (pw_or1 (pt_not (pt_val (pv 5))))).pt (pss_one (ps_ret (pe_and (pe_cmp (pc_isN (pv 4))) (pe_and (pe_not (pv 5)) (pe_one (pe_cmp (pc_dnotin (hu_of hr) (pv 2) (pv 3)))))))) pss_nil)
   (pss_cons (ps_if (pw_or (pt_not (pt_val (pe_callB call_isi (by rfl) T.n_isinstance b_isinstance (pa_cons (pv 4) (pa_cons (pe_bltn (v:=.ty "list") (by rfl) T.n_list b_list rfl) pa_nil))))) (pw_or (pt_cmpR (op_neLT hr.units) (pe_slice sl_list (pv 4) po_none (po_some pe_int)) (pe_lst (pa_cons (pv 1) pa_nil)) (nomark _)) (pw_or1 (pt_cmpR (op_neLT hr.units) (pe_slice sl_list (pv 4) (po_some (pe_un un_neg pe_int)) po_none) (pe_lst (pa_cons (pv 2) pa_nil)) (nomark _))))).pt (pss_one (ps_ret pe_bl)) pss_nil)
   (pss_cons (ps_for owns_of (pi_range2 rfl T.n_range (pa_cons pe_int (pa_cons (pe_callB call_len_seq (by rfl) T.n_len b_len (pa_cons (pv 4) pa_nil)) pa_nil))) (pg_name (i:=6) sc_law_right.nd rfl (Or.inl rfl)) (pss_one (ps_if (pt_cmpR (op_notInT hr.units) (pe_ix ix_list (pv 4) (pv 6) (fun _ _ => rfl)) (pe_callG G_near (hr.mono (by decide)) passes_of (by rfl) (pa_cons (pv 0) (pa_cons (pe_ix ix_list (pv 4) (pe_op op_sub (pv 6) pe_int) (fun _ _ => rfl)) pa_nil))) (by with_unfolding_all rfl)) (pss_one (ps_ret pe_bl)) pss_nil)))
   (pss_cons (ps_if (pw_or (pt_cmpR op_ne (pe_callB call_len_seq (by rfl) T.n_len b_len (pa_cons (pv 4) pa_nil)) (pe_op op_add pe_int (pe_dget (hu_of hr) (pv 3) (pv 2) (fun _ _ => rfl))) (nomark _)) (pw_or1 (pt_cmpR op_ne (pe_callB call_lenS (by rfl) T.n_len b_len (pa_cons (pe_callTy (call_setT rfl hr.units) (by rfl) T.n_set b_set (pa_cons (pv 4) pa_nil)) pa_nil)) (pe_callB call_len_seq (by rfl) T.n_len b_len (pa_cons (pv 4) pa_nil)) (nomark _)))).pt (pss_one (ps_ret pe_bl)) pss_nil)
   (pss_cons (ps_set (i:=7) sc_law_right.nd rfl (Or.inl rfl) (pe_callB call_len_seq (by rfl) T.n_len b_len (pa_cons (pv 4) pa_nil)))
   (pss_cons (ps_expr (pe_bm0 PySem.F.plainAttrs_list PySem.F.slot_list_clear PySem.F.type_list_clear mt_clear (pv 4)))
   (pss_one (ps_ret (pe_and (pe_cmpR op_eq (pe_callB call_len_seq (by rfl) T.n_len b_len (pa_cons (pe_callG G_walk (hr.mono (by decide)) passes_of (by rfl) (pa_cons (pv 0) (pa_cons (pv 2) (pa_cons (pv 1) pa_nil)))) pa_nil)) (pv 7) (nomark _)) (pe_one (pe_cmpR op_eq (pe_callB call_len_seq (by rfl) T.n_len b_len (pa_cons (pe_callG G_walk (hr.mono (by decide)) passes_of (by rfl) (pa_cons (pv 0) (pa_cons (pv 1) (pa_cons (pv 2) pa_nil)))) pa_nil)) (pv 7) (nomark _)))))))))))))),?_⟩
  have NB:=near_nb (ds:=ds) L.mem
  have lcc:=L.len B.C
  have mI:∀ e,l3 e∈(isl (nearK cs ds w h l) cells one).map l3↔e∈ks:=fun e => l3_mem.trans ((mem_isl NB ho1).trans (mem e).symm)
  refine ⟨_,rfl,_,rfl,_,rfl,o,dx,c,d,p,r,w,h,l,cs,ds,one,other,cells,rfl,B,hl3,lc,hp,hr1,ho1,ho2,L,fun nR H1 s1 => ?_,fun D bs pl ks2 lv2 H1 s1 hD eD CD LV2 hk2 hk1 W lpl => ?_⟩
  ·refine gName_go ?_
   try dsimp only
   have nk:other ∉ ks:=fun z => nR (((mem other).mp z).symm NB ho1)
   have hv:(valV fd (k3 other)).isSome = false:=by
    cases e:(valV fd (k3 other)).isSome with
    | false => rfl
    | true => exact absurd ((val_keys ek).mp e) nk
   refine ⟨_,rfl,_,rfl,_,rfl,o,dx,c,d,p,w,h,l,cs,ds,one,cells,rfl,B.same s1,hl3,by omega,s1 _ _ hp,ho1,L,fun a2 bs2 H2 s2 ha2 e2 C2 => ?_⟩
   have s02:=Same.trans s1 s2
   refine ⟨r,a2,l3 other,_,rfl,rfl,SqT.of (s02 _ _ hr1),C2.lt e2,?_⟩
   refine gName_go ?_
   show tSeq _ _ _ [some (.ref o),some (.ref p),some (.ref r),some (.ref tn),some .non,some (.bl (decide (l3 other∈(isl (nearK cs ds w h l) cells one).map l3))),none,none] H2
   rw [decide_eq_false (fun z => nk ((mI other).mp z))]
   have dg:=DGet.t (k:=k3 other) (s02 _ _ ht) (s02 _ _ hr1)
   refine ⟨_,rfl,_,rfl,_,rfl,tn,_,rfl,dg,rfl,_,rfl,iteNB (fun e => absurd (congrArg V.bl hv.symm) (of_decide_eq_false e)) fun _ => ⟨_,rfl,_,rfl,iteT ?_⟩⟩
   refine ⟨_,rfl,_,rfl,iteD (fun _ => ⟨_,rfl,_,rfl,_,rfl,iteT ⟨_,rfl,_,rfl,tn,_,rfl,dg,?_⟩⟩) fun z => absurd rfl z⟩
   rw [hv]
   exact q H2 s02
  ·refine gName_go ?_
   try dsimp only
   have hRo:Rch (nearK cs ds w h l) other one:=(LV2.way _ one hk1 rfl).rch
   have ik:other∈ks:=(mem other).mpr (hRo.symm NB ho2)
   have hRi:=(mem other).mp ik
   have hk0:one∈ks:=(mem one).mpr .refl
   have hv:(valV fd (k3 other)).isSome = true:=(val_keys ek).mpr ik
   have sy:=(LV.sym NB ho1 ho2 LV2 hk0 hk2 ik).2
   have wl:=W.len
   refine ⟨_,rfl,_,rfl,_,rfl,o,dx,c,d,p,w,h,l,cs,ds,one,cells,rfl,B.same s1,hl3,by omega,s1 _ _ hp,ho1,L,fun a2 bs2 H2 s2 ha2 e2 C2 => ?_⟩
   have s02:=Same.trans s1 s2
   refine ⟨r,a2,l3 other,_,rfl,rfl,SqT.of (s02 _ _ hr1),C2.lt e2,?_⟩
   refine gName_go ?_
   show tSeq _ _ _ [some (.ref o),some (.ref p),some (.ref r),some (.ref tn),some (.ref D),some (.bl (decide (l3 other∈(isl (nearK cs ds w h l) cells one).map l3))),none,none] H2
   rw [decide_eq_true ((mI other).mpr ik)]
   have dg:=DGet.t (k:=k3 other) (s02 _ _ ht) (s02 _ _ hr1)
   refine ⟨_,rfl,_,rfl,_,rfl,tn,_,rfl,dg,rfl,_,rfl,iteNB (fun e => absurd (congrArg V.bl hv.symm) (of_decide_eq_false e)) fun _ => ⟨_,rfl,_,rfl,iteF ?_⟩⟩
   refine next_go ?_
   try dsimp only
   clear C2 e2 ha2 dg
   have eD2:=s2 _ _ eD
   have CD2:=CD.same s2
   generalize H2 = H1 at s02 eD2 CD2
   clear s1 s2 eD CD
   have hb:bs.length = lv2 one + 1:=by rw [CD2.1]; exact wl
   have hne:bs≠[]:=fun z => by rw [z] at hb; cases hb
   obtain ⟨b0,bt,eb⟩:∃ b0 bt,bs = b0 :: bt:=List.exists_cons_of_ne_nil hne
   obtain ⟨bi,bl,eb2⟩:∃ bi bl,bs = bi ++ [bl]:=⟨_,_,(List.dropLast_concat_getLast hne).symm⟩
   have eb0:=CD2.2 0 b0 one (by rw [eb]; rfl) W.first
   have ebl:=CD2.2 (pl.length - 1) bl other (by
    rw [← CD2.1,eb2,List.length_append]
    show (bi ++ [bl])[bi.length + 1 - 1]? = _
    rw [Nat.add_sub_cancel,List.getElem?_append_right (Nat.le_refl _),Nat.sub_self]; rfl) W.last
   have c1:cutV (bs.map V.ref) none (some 1) = [b0].map V.ref:=by rw [eb]; exact cut_first _ _
   have c2:cutV (bs.map V.ref) (some (-1)) none = [bl].map V.ref:=by rw [eb2,List.map_append]; exact cut_last _ _
   refine seq_gen (fun σ H' => σ = [some (.ref o),some (.ref p),some (.ref r),some (.ref tn),some (.ref D),some (.bl true),none,none]∧Same H1 H') (fun B' nx => ?_) ?_
   ·refine ⟨_,rfl,_,_,_,_,_,rfl,.lst eD2,.ty _,rfl,_,rfl,iteF ?_⟩
    refine ⟨_,rfl,1,rfl,D,_,rfl,SqL.of eD2,fun q1 hq1 => ?_⟩
    rw [c1]
    have t1:=same_new (o:=.lst ([b0].map V.ref)) (Same.refl H1) hq1
    have f1:upd H1 q1 (.lst ([b0].map V.ref)) q1 = some (.lst ([b0].map V.ref)):=upd_same
    generalize upd H1 q1 (.lst ([b0].map V.ref)) = H3 at t1 f1 ⊢
    refine ⟨_,rfl,(by show 1≤sizeLine; decide),fun q2 hq2 => ?_⟩
    have t2:=same_new (o:=.lst [.ref p]) (Same.refl H3) hq2
    have f2:upd H3 q2 (.lst [.ref p]) q2 = some (.lst ([p].map V.ref)):=upd_same
    generalize upd H3 q2 (.lst [.ref p]) = H4 at t2 f2 ⊢
    have t12:=Same.trans t1 t2
    refine ⟨q1,q2,[b0],[p],_,_,rfl,rfl,SqL.of (t2 _ _ f1),SqL.of f2,(Cells.nil.snoc (t12 _ _ eb0)).tups,(Cells.nil.snoc (c:=one) (t12 _ _ (s02 _ _ hp))).tups,_,rfl,iteNB (fun e => absurd rfl (of_decide_eq_false e)) fun _ => ?_⟩
    refine ⟨_,rfl,1,rfl,-1,rfl,D,_,rfl,SqL.of (t12 _ _ eD2),fun q3 hq3 => ?_⟩
    rw [c2]
    have t3:=same_new (o:=.lst ([bl].map V.ref)) (Same.refl H4) hq3
    have f3:upd H4 q3 (.lst ([bl].map V.ref)) q3 = some (.lst ([bl].map V.ref)):=upd_same
    generalize upd H4 q3 (.lst ([bl].map V.ref)) = H5 at t3 f3 ⊢
    refine ⟨_,rfl,(by show 1≤sizeLine; decide),fun q4 hq4 => ?_⟩
    have t4:=same_new (o:=.lst [.ref r]) (Same.refl H5) hq4
    have f4:upd H5 q4 (.lst [.ref r]) q4 = some (.lst ([r].map V.ref)):=upd_same
    generalize upd H5 q4 (.lst [.ref r]) = H6 at t4 f4 ⊢
    have t14:=Same.trans t12 (Same.trans t3 t4)
    exact ⟨q3,q4,[bl],[r],_,_,rfl,rfl,SqL.of (t4 _ _ f3),SqL.of f4,(Cells.nil.snoc (t14 _ _ ebl)).tups,(Cells.nil.snoc (c:=other) (t14 _ _ (s02 _ _ hr1))).tups,_,rfl,iteNB (fun e => absurd rfl (of_decide_eq_false e)) fun _ => nx _ _ ⟨rfl,t14⟩⟩
   rintro σ H3 ⟨rfl,s3⟩
   have lm:(bs.map V.ref).length = lv2 one + 1:=by rw [List.length_map]; exact hb
   refine seq_gen (fun σ H' => ∃ v6,σ = [some (.ref o),some (.ref p),some (.ref r),some (.ref tn),some (.ref D),some (.bl true),v6,none]∧Same H1 H') (fun B' nx => ?_) ?_
   ·refine ⟨_,rfl,D,_,rfl,.inl (SqL.of (s3 _ _ eD2)),1,_,rfl,⟨by omega,by omega,by rw [lm]; omega,by rw [lm]; omega⟩,for_range (fun k σ H' => ∃ v6,σ = [some (.ref o),some (.ref p),some (.ref r),some (.ref tn),some (.ref D),some (.bl true),v6,none]∧Same H1 H') ⟨_,rfl,s3⟩ ?_ fun σ H' p => nx σ H' p⟩
    rintro k σ H4 hk ⟨v6,rfl,s4⟩
    have hk1':k + 1 < bs.length:=by rw [lm] at hk; omega
    have hk1p:k + 1 < pl.length:=by rw [← CD2.1]; exact hk1'
    obtain ⟨pa,ea⟩:∃ pa,bs[k]? = some pa:=⟨_,List.getElem?_eq_getElem (by omega)⟩
    obtain ⟨pb,eb'⟩:∃ pb,bs[k + 1]? = some pb:=⟨_,List.getElem?_eq_getElem hk1'⟩
    obtain ⟨x,ex⟩:∃ x,pl[k]? = some x:=⟨_,List.getElem?_eq_getElem (by omega)⟩
    obtain ⟨y,ey⟩:∃ y,pl[k + 1]? = some y:=⟨_,List.getElem?_eq_getElem hk1p⟩
    have epa:=s4 _ _ (CD2.2 k pa x ea ex)
    have epb:=s4 _ _ (CD2.2 (k + 1) pb y eb' ey)
    have hxc:=W.on NB ho1 k x ex
    have hcu:=(L.mem x).mp hxc
    have B4:=(B.same s02).same s4
    have e1:(1:Int) + (k:Int) = ((k + 1:Nat):Int):=by omega
    have e2:((k + 1:Nat):Int) - 1 = (k:Int):=by omega
    rw [e1]
    refine ⟨_,rfl,_,rfl,D,_,_,.ref pb,rfl,rfl,SqL.of (s4 _ _ eD2),atI_nat (j:=k + 1) (by rw [List.getElem?_map,eb']; rfl),_,rfl,_,rfl,_,rfl,_,1,rfl,rfl,D,_,_,.ref pa,rfl,rfl,SqL.of (s4 _ _ eD2),by rw [e2]; exact atI_nat (by rw [List.getElem?_map,ea]; rfl),o,dx,c,d,pa,w,h,x.1,x.2.1,x.2.2,l,cs,ds,rfl,B4.o,B4.c,B4.d,hl3,epa,fun _ nl bs2 nks H6 s6 hnl e6 ka pm up => ?_,fun z => absurd hcu (by rw [z]; decide)⟩
    obtain ⟨nbs,rfl,pm2⟩:=perm_k3 pm
    exact ⟨pb,nl,l3 y,_,rfl,rfl,SqT.of (s6 _ _ epb),(Cells.of_key ka).lt e6,_,rfl,iteNB (fun hin => absurd (l3_mem.mpr (pm2.mem_iff.mpr (W.near k x y ex ey))) (of_decide_eq_false hin)) fun _ => ⟨_,rfl,Same.trans s4 s6⟩⟩
   rintro σ H4 ⟨v6,rfl,s4⟩
   have s04:=Same.trans s02 s4
   have dg:=DGet.t (k:=k3 other) (s04 _ _ ht) (s04 _ _ hr1)
   rw [NU other ik] at dg
   have eD4:=s4 _ _ eD2
   have CD4:=CD2.same s4
   refine seq_gen (fun σ H' => σ = [some (.ref o),some (.ref p),some (.ref r),some (.ref tn),some (.ref D),some (.bl true),v6,none]∧Same H4 H') (fun B' nx => ?_) ?_
   ·refine ⟨_,rfl,D,_,rfl,.inl (SqL.of eD4),_,rfl,_,rfl,tn,_,rfl,dg,1,(lv other:Int),rfl,rfl,rfl,_,rfl,iteNB (fun e => absurd (congrArg V.int (by rw [lm,sy]; omega)) (of_decide_eq_false e)) fun _ => ?_⟩
    refine ⟨_,rfl,D,bs,pl.map k3,rfl,eD4,CD4.key,by rw [List.length_map]; omega,fun S us led hS nd mm keys => ?_⟩
    have sl:=set_len nd mm W.nd
    have t1:∀ o',Same H4 (upd H4 S o'):=fun _ => same_new (Same.refl H4) hS
    exact ⟨S,us,led,rfl,upd_same,by omega,_,rfl,D,_,rfl,.inl (SqL.of (t1 _ _ _ eD4)),rfl,_,rfl,iteNB (fun e => absurd (congrArg V.int (by rw [List.length_map,CD4.1,sl])) (of_decide_eq_false e)) fun _ => nx _ _ ⟨rfl,t1 _⟩⟩
   rintro σ H5 ⟨rfl,s5⟩
   have eD5:=s5 _ _ eD4
   have s05:=Same.trans s04 s5
   refine ⟨_,rfl,D,_,rfl,.inl (SqL.of eD5),?_⟩
   refine gName_go ?_
   dsimp only
   rw [lm]
   refine ⟨_,rfl,.inl ⟨rfl,_,SqL.of eD5⟩,D,_,rfl,rfl,eD5,?_⟩
   have s06:Same H (upd H5 D (.lst [])):=fun b u e => by rw [upd_ne (ne_of_none e hD)]; exact s05 _ _ e
   generalize upd H5 D (.lst []) = H6 at s06 ⊢
   refine ⟨_,rfl,_,rfl,_,rfl,o,dx,c,d,r,p,w,h,l,cs,ds,other,one,cells,rfl,B.same s06,hl3,lc,s06 _ _ hr1,s06 _ _ hp,ho2,ho1,L,fun nR => absurd hRi nR,fun D7 bs7 pl7 ks7 lv7 H7 s7 hD7 eD7 CD7 LV7 hk7 hk7' W7 _ => ?_⟩
   have y7:=(LV7.sym NB ho1 ho2 LV2 hk7 hk2 hk7').2
   have w7:=W7.len
   have s07:=Same.trans s06 s7
   refine ⟨D7,_,rfl,.inl (SqL.of eD7),_,rfl,rfl,_,rfl,iteD (fun _ => ?_) fun z => absurd (congrArg V.int (by rw [List.length_map,CD7.1,w7,y7])) z⟩
   refine ⟨_,rfl,_,rfl,_,rfl,o,dx,c,d,p,r,w,h,l,cs,ds,one,other,cells,rfl,B.same s07,hl3,lc,s07 _ _ hp,s07 _ _ hr1,ho1,ho2,L,fun nR => absurd hRo nR,fun D8 bs8 pl8 ks8 lv8 H8 s8 hD8 eD8 CD8 LV8 hk8 hk8' W8 _ => ?_⟩
   have y8:=(LV.sym NB ho1 ho2 LV8 hk0 hk8 ik).2
   have w8:=W8.len
   refine ⟨D8,_,rfl,.inl (SqL.of eD8),_,rfl,rfl,?_⟩
   rw [decide_eq_true (congrArg V.int (by rw [List.length_map,CD8.1,w8,← y8,sy]))]
   exact q H8 (Same.trans s07 s8)
end
end K23
namespace K23
open PySem L2 Wd TS
theorem pick {bs:List Addr} {cells:List Cell} (hl:bs.length = cells.length) (hne:cells≠[]) (n:Int):(0:Int) < ((bs.map V.ref).length:Int)∧∃ (p:Addr) (e:Cell),atI (bs.map V.ref) (n % ((bs.map V.ref).length:Int)) = some (.ref p)∧e∈cells∧∀ H',Cells H' bs cells→H' p = some (.tup [.int e.1,.int e.2.1,.int e.2.2]):=by
 have h1:1≤bs.length:=by rw [hl]; exact List.length_pos_iff.mpr hne
 rw [List.length_map]
 obtain ⟨i,ei,hi⟩:=modN (n:=n) h1
 have hi2:i < cells.length:=by omega
 exact ⟨by omega,bs[i],cells[i],by rw [ei]; exact atI_nat (by rw [List.getElem?_map,List.getElem?_eq_getElem hi]; rfl),List.getElem_mem hi2,fun H' C => C.2 i _ _ (List.getElem?_eq_getElem hi) (List.getElem?_eq_getElem hi2)⟩
theorem sqL_off2 {K:PySem.W.Frag} {H H':Hp} {a c d:Addr} {xs:List V} {u v:Tab} (h:SqL K H a xs) (hc:H c = some (.dT u)) (hd:H d = some (.dT v)) (f:Off2 c d H H'):SqL K H' a xs:=by
 rcases h with (h | ⟨o,h⟩) | h
 ·exact .inl (.inl (f _ _ (ne_of h hc (by intro z; cases z)) (ne_of h hd (by intro z; cases z)) h))
 ·exact .inl (.inr ⟨o,f _ _ (ne_of h hc (by intro z; cases z)) (ne_of h hd (by intro z; cases z)) h⟩)
 ·exact .inr h
theorem one_of {pl:List Cell} {one:Cell} (h:pl[0]? = some one) (l:pl.length = 1):pl = [one]:=by
 match pl,h,l with
 | [x],h,_ => cases h; rfl
section
variable {P:Program} {w:World} {K:PySem.W.Frag} {mg:Str→Option Value} {base:Heap} {t:Adr}
def spLaw (K:PySem.W.Frag):Sp:=fun vs H Q _ => ∃ (a:Addr) (sc:List Int),vs = [.ref a]∧SqL K H a (sc.map V.int)∧sc.length≤63∧∀ H',Q (.bl true) H'
theorem law_fn (T:Txt K mg t):∃ fd:FuncData,(∀ (s:Shared) (u:Value),BindsTo s fd ⟨[u],[]⟩ [("_law_script",u)])∧∀ base:Heap,K.In base→base.Ns mainGlobals mg→FnOk P w K mg base (XC P w) 10 t.f_law fd ["_law_script"] (spLaw K):=by
 obtain ⟨fd,F,b⟩:=T.F_law
 refine ⟨fd,b,fun base _ _ => ?_⟩
 have G_law_cell_at:=ok_law_cell_at (P:=P) (w:=w) (base:=base) T
 have G_law_board:=ok_law_board (P:=P) (w:=w) (base:=base) T
 have G_law_lined:=ok_law_lined (P:=P) (w:=w) (base:=base) T
 have G_law_mixed:=ok_law_mixed (P:=P) (w:=w) (base:=base) T
 have G_law_rounds:=ok_law_rounds (P:=P) (w:=w) (base:=base) T
 have G_law_right:=ok_law_right (P:=P) (w:=w) (base:=base) T
 have G_law_deed:=ok_law_deed (P:=P) (w:=w) (base:=base) T
 have G_walk:=ok_walk (P:=P) (w:=w) (base:=base) T
 have G_Board_cells:=ok_Board_cells (P:=P) (w:=w) (base:=base) T
 have G_Board_holes:=ok_Board_holes (P:=P) (w:=w) (base:=base) T
 refine F.okX sc_law (fun vs H Q E h => ?_) (fun cdv A outer s H vs Q E hr h => ?_)
 ·obtain ⟨a,sc,rfl,_⟩:=h
  rfl
 ·obtain ⟨a,sc,rfl,ha,hsc,q⟩:=h
  refine ⟨_,(pss_cons (ps_set (i:=1) sc_law.nd rfl (Or.inl rfl) (pe_callG G_law_board (hr.mono (by decide)) passes_of (by rfl) (pa_cons (pv 0) pa_nil)))
   (pss_cons (ps_expr (pe_callG G_law_lined (hr.mono (by decide)) passes_of (by rfl) (pa_cons (pv 1) (pa_cons (pv 0) pa_nil))))
   (pss_cons (ps_set (i:=2) sc_law.nd rfl (Or.inl rfl) (pe_callG G_law_board (hr.mono (by decide)) passes_of (by rfl) (pa_cons (pv 0) pa_nil)))
   (pss_cons (ps_expr (pe_callG G_law_lined (hr.mono (by decide)) passes_of (by rfl) (pa_cons (pv 2) (pa_cons (pv 0) pa_nil))))
   (pss_cons (ps_set (i:=3) sc_law.nd rfl (Or.inl rfl) (pe_ix ix_list (pe_lst (pa_cons (pv 1) (pa_cons (pv 2) pa_nil))) (pe_op op_mod (pe_callG G_law_cell_at (hr.mono (by decide)) passes_of (by rfl) (pa_cons (pv 0) (pa_cons pe_int pa_nil))) pe_int) (fun _ _ => rfl)))
   (pss_cons (ps_set (i:=4) sc_law.nd rfl (Or.inl rfl) (pe_meth0G (mN_of G_Board_cells (hr.mono (by decide)) passes_of) (pv 3)))
   (pss_cons (ps_set (i:=5) sc_law.nd rfl (Or.inl rfl) (pe_tup (pa_cons (pe_callTy call_list_of (by rfl) T.n_list b_list (pa_cons (pv 4) pa_nil)) (pa_cons (pe_meth0G (m0_of G_Board_holes (hr.mono (by decide)) passes_of) (pv 3)) pa_nil))))
   (pss_cons (ps_if (pt_cmpR (op_eqLT hr.units) (pv 4) (pe_lst pa_nil) (nomark _)) (pss_one (ps_ret pe_bl)) pss_nil)
   (pss_cons (ps_set (i:=6) sc_law.nd rfl (Or.inl rfl) (pe_ix ix_list (pv 4) (pe_op op_mod (pe_op op_fdiv (pe_callG G_law_cell_at (hr.mono (by decide)) passes_of (by rfl) (pa_cons (pv 0) (pa_cons pe_int pa_nil))) pe_int) (pe_callB call_len_seq (by rfl) T.n_len b_len (pa_cons (pv 4) pa_nil))) (fun _ _ => rfl)))
   (pss_cons (ps_set (i:=7) sc_law.nd rfl (Or.inl rfl) (pe_callG G_law_rounds (hr.mono (by decide)) passes_of (by rfl) (pa_cons (pv 3) (pa_cons (pv 6) pa_nil))))
   (pss_cons (ps_for owns_of (pi_range1 rfl T.n_range (pa_cons pe_int pa_nil)) (pg_name (i:=8) sc_law.nd rfl (Or.inl rfl)) (pss_cons (ps_set (i:=9) sc_law.nd rfl (Or.inl rfl) (pe_ix ix_list (pv 4) (pe_op op_mod (pe_callG G_law_cell_at (hr.mono (by decide)) passes_of (by rfl) (pa_cons (pv 0) (pa_cons (pe_op op_add pe_int (pv 8)) pa_nil))) (pe_callB call_len_seq (by rfl) T.n_len b_len (pa_cons (pv 4) pa_nil))) (fun _ _ => rfl)))
   (pss_one (ps_if (pt_not (pt_val (pe_callG G_law_right (hr.mono (by decide)) passes_of (by rfl) (pa_cons (pv 1) (pa_cons (pv 6) (pa_cons (pv 9) (pa_cons (pv 7) pa_nil))))))) (pss_one (ps_ret pe_bl)) pss_nil))))
   (pss_cons (ps_if (pw_or (pt_cmpR (op_neLT hr.units) (pe_callG G_walk (hr.mono (by decide)) passes_of (by rfl) (pa_cons (pv 1) (pa_cons (pv 6) (pa_cons (pv 6) pa_nil)))) (pe_lst (pa_cons (pv 6) pa_nil)) (nomark _)) (pw_or1 (pt_cmpR (op_ne2L hr.units) (pe_tup (pa_cons (pe_meth0G (mN_of G_Board_cells (hr.mono (by decide)) passes_of) (pv 1)) (pa_cons (pe_meth0G (m0_of G_Board_holes (hr.mono (by decide)) passes_of) (pv 1)) pa_nil))) (pv 5) (nomark _)))).pt (pss_one (ps_ret pe_bl)) pss_nil)
   (pss_cons (ps_for owns_of (pi_range1 rfl T.n_range (pa_cons pe_int pa_nil)) (pg_name (i:=8) sc_law.nd rfl (Or.inl rfl)) (pss_cons (ps_expr (pe_callG G_law_deed (hr.mono (by decide)) passes_of (by rfl) (pa_cons (pv 1) (pa_cons (pe_callG G_law_mixed (hr.mono (by decide)) passes_of (by rfl) (pa_cons (pe_callG G_law_cell_at (hr.mono (by decide)) passes_of (by rfl) (pa_cons (pv 0) (pa_cons (pe_op op_add pe_int (pv 8)) pa_nil))) (pa_cons (pe_op op_add pe_int (pv 8)) pa_nil))) pa_nil))))
   (pss_cons (ps_set (i:=4) sc_law.nd rfl (Or.inl rfl) (pe_meth0G (mN_of G_Board_cells (hr.mono (by decide)) passes_of) (pv 1)))
   (pss_one (ps_if (pt_cmpR (op_neLT hr.units) (pv 4) (pe_lst pa_nil) (nomark _)) (pss_cons (ps_set (i:=6) sc_law.nd rfl (Or.inl rfl) (pe_ix ix_list (pv 4) (pe_op op_mod (pe_callG G_law_cell_at (hr.mono (by decide)) passes_of (by rfl) (pa_cons (pv 0) (pa_cons pe_int pa_nil))) (pe_callB call_len_seq (by rfl) T.n_len b_len (pa_cons (pv 4) pa_nil))) (fun _ _ => rfl)))
   (pss_cons (ps_set (i:=9) sc_law.nd rfl (Or.inl rfl) (pe_ix ix_list (pv 4) (pe_op op_mod (pe_callG G_law_cell_at (hr.mono (by decide)) passes_of (by rfl) (pa_cons (pv 0) (pa_cons (pe_op op_add pe_int (pv 8)) pa_nil))) (pe_callB call_len_seq (by rfl) T.n_len b_len (pa_cons (pv 4) pa_nil))) (fun _ _ => rfl)))
   (pss_one (ps_if (pt_not (pt_val (pe_callG G_law_right (hr.mono (by decide)) passes_of (by rfl) (pa_cons (pv 1) (pa_cons (pv 6) (pa_cons (pv 9) (pa_cons (pe_callG G_law_rounds (hr.mono (by decide)) passes_of (by rfl) (pa_cons (pv 1) (pa_cons (pv 6) pa_nil))) pa_nil))))))) (pss_one (ps_ret pe_bl)) pss_nil)))) pss_nil)))))
   (pss_one (ps_ret pe_bl))))))))))))))),?_⟩
  obtain ⟨⟨w1,w12⟩,⟨h1,h12⟩,l1,hl3⟩:=b_sizes sc
  obtain ⟨TC,lC⟩:=bC_tab sc
  obtain ⟨TH,lH⟩:=bD_tab sc
  generalize hcs:bC sc = cs0 at TC lC
  generalize hds:bD sc = ds at TH lH
  generalize hw:bW sc = w' at w1 w12 TC TH
  generalize hh:bH sc = h at h1 h12 TC TH
  generalize hl:bL sc = l at l1 hl3 TC
  refine ⟨_,rfl,a,sc,rfl,ha,hsc,fun o dx c d H1 s1 _ _ _ ncd eo ec ed => ?_⟩
  refine gName_go ?_
  try dsimp only
  rw [hw,hh,hl] at eo
  rw [hcs] at ec
  rw [hds] at ed
  have ha1:=same_sqL s1 ha
  refine ⟨_,rfl,_,rfl,o,dx,c,d,a,w',h,l,cs0,ds,sc,rfl,⟨eo,ec,ed,TC,TH⟩,ncd,w1,w12,h12,hl3,ha1,hsc,fun H2 f2 B2 => ?_⟩
  have ha2:=sqL_off ha1 ec f2
  generalize hcl:linF sc cs0 w' h l = cs at B2
  refine ⟨_,rfl,a,sc,rfl,ha2,hsc,fun o2 dx2 c2 d2 H3 s3 _ nc2 _ ncd2 eo2 ec2 ed2 => ?_⟩
  refine gName_go ?_
  try dsimp only
  rw [hw,hh,hl] at eo2
  rw [hcs] at ec2
  rw [hds] at ed2
  have ha3:=same_sqL s3 ha2
  refine ⟨_,rfl,_,rfl,o2,dx2,c2,d2,a,w',h,l,cs0,ds,sc,rfl,⟨eo2,ec2,ed2,TC,TH⟩,ncd2,w1,w12,h12,hl3,ha3,hsc,fun H4 f4 B24 => ?_⟩
  rw [hcl] at B24
  have B4:Bd t.c_Board H4 o dx c d w' h l cs ds:=⟨f4 _ _ (ne_of_none B2.o nc2) (s3 _ _ B2.o),f4 _ _ (ne_of_none B2.c nc2) (s3 _ _ B2.c),f4 _ _ (ne_of_none B2.d nc2) (s3 _ _ B2.d),B2.C,B2.D⟩
  have ha4:=sqL_off ha3 ec2 f4
  have lC:=tabC_len B2.C w12 h12 hl3
  have TC:=B2.C
  clear ha ha1 ha2 ha3 B2 eo ec ed eo2 ec2 ed2 f2 f4 s1 s3
  refine ⟨_,rfl,_,rfl,(by show 2≤sizeLine; decide),fun L0 hL0 => ?_⟩
  have s5:=same_new (o:=.lst [.ref o,.ref o2]) (Same.refl H4) hL0
  have e5:upd H4 L0 (.lst [.ref o,.ref o2]) L0 = some (.lst [.ref o,.ref o2]):=upd_same
  generalize upd H4 L0 (.lst [.ref o,.ref o2]) = H5 at s5 e5 ⊢
  have ha5:=same_sqL s5 ha4
  have B5:=B4.same s5
  have B25:=B24.same s5
  refine ⟨_,rfl,a,sc,3,rfl,ha5,by decide,by decide,hsc,_,2,rfl,rfl,(by show (0:Int) < 2; decide),?_⟩
  try dsimp only
  have two:sc.getD (3:Int).toNat 0 % 2 = 0∨sc.getD (3:Int).toNat 0 % 2 = 1:=by omega
  obtain ⟨ob,dxb,cb,db,Bb,eat⟩:∃ ob dxb cb db,Bd t.c_Board H5 ob dxb cb db w' h l cs ds∧atI [V.ref o,V.ref o2] (sc.getD (3:Int).toNat 0 % 2) = some (.ref ob):=by
   rcases two with z | z
   ·exact ⟨o,dx,c,d,B5,by rw [z]; rfl⟩
   ·exact ⟨o2,dx2,c2,d2,B25,by rw [z]; rfl⟩
  refine ⟨L0,_,_,.ref ob,rfl,rfl,SqL.of e5,eat,?_⟩
  refine gName_go ?_
  try dsimp only
  refine ⟨_,rfl,ob,dxb,_,rfl,Bb.o,rfl,ob,dxb,cb,db,w',h,l,cs,rfl,Bb.o,Bb.c,TC.sds,fun kq bs ks hkq ka pm up => ?_⟩
  obtain ⟨cells,rfl,L,lcl⟩:=CL.of TC pm up
  have s6:=same_new (o:=.lst (bs.map V.ref)) (Same.refl H5) hkq
  have e6:upd H5 kq (.lst (bs.map V.ref)) kq = some (.lst (bs.map V.ref)):=upd_same
  have C6:=(Cells.of_key ka).same s6
  refine gName_go ?_
  try dsimp only
  generalize upd H5 kq (.lst (bs.map V.ref)) = H6 at s6 e6 C6 ⊢
  refine ⟨_,rfl,kq,_,rfl,.inl (SqL.of e6),fun kl hkl => ?_⟩
  have s7:=same_new (o:=.lst (bs.map V.ref)) (Same.refl H6) hkl
  have e7:upd H6 kl (.lst (bs.map V.ref)) kl = some (.lst (bs.map V.ref)):=upd_same
  generalize upd H6 kl (.lst (bs.map V.ref)) = H7 at s7 e7 ⊢
  have s57:=Same.trans s6 s7
  have Bb7:=Bb.same s57
  refine ⟨_,rfl,ob,dxb,_,rfl,Bb7.o,rfl,ob,dxb,cb,db,w',h,l,ds,rfl,Bb7.o,Bb7.d,TH.sds,fun k2 bs2 ks2 hk2 ka2 pm2 up2 => ?_⟩
  have s8:=same_new (o:=.lst (bs2.map V.ref)) (Same.refl H7) hk2
  have e8:upd H7 k2 (.lst (bs2.map V.ref)) k2 = some (.lst (bs2.map V.ref)):=upd_same
  have A8:=KeyAt.same ka2 s8
  generalize upd H7 k2 (.lst (bs2.map V.ref)) = H8 at s8 e8 A8 ⊢
  refine ⟨(by show 2≤sizeLine; decide),fun kp hkp => ?_⟩
  have s9:=same_new (o:=.tup [.ref kl,.ref k2]) (Same.refl H8) hkp
  have ekp:upd H8 kp (.tup [.ref kl,.ref k2]) kp = some (.tup [.ref kl,.ref k2]):=upd_same
  refine gName_go ?_
  try dsimp only
  generalize upd H8 kp (.tup [.ref kl,.ref k2]) = H9 at s9 ekp ⊢
  refine ⟨_,rfl,(by show 0≤sizeLine; omega),fun z hz => ?_⟩
  have s10:=same_new (o:=.lst []) (Same.refl H9) hz
  have ez:upd H9 z (.lst []) z = some (.lst (([]:List Addr).map V.ref)):=upd_same
  generalize upd H9 z (.lst []) = H10 at s10 ez ⊢
  have s810:=Same.trans s9 s10
  have s710:=Same.trans s8 s810
  have s610:=Same.trans s7 s710
  have s510:=Same.trans s6 s610
  have ekq:=s610 _ _ e6
  have CK:=C6.same s610
  have ekl:=s710 _ _ e7
  have ek2:=s810 _ _ e8
  have AK:=KeyAt.same A8 s810
  have ekp:=s10 _ _ ekp
  have B10:=B5.same s510
  have Bb10:=Bb.same s510
  have ha10:=same_sqL s510 ha5
  refine ⟨kq,z,bs,[],_,_,rfl,rfl,SqL.of ekq,SqL.of ez,CK.tups,Cells.nil.tups,_,rfl,iteD (fun _ => q H10) fun hne0 => ?_⟩
  have hne:cells≠[]:=fun z => hne0 (by rw [z])
  clear e6 e7 e8 A8 C6 s5 s6 s7 s8 s9 s10 s57 s810 s710 s610 s510 Bb Bb7 B4 B5 B24 B25 ha4 ha5 e5 ez
  refine next_go ?_
  try dsimp only
  have pk:=fun n => pick CK.1 hne n
  obtain ⟨hpos,p1,one,at1,ho1,ep1⟩:=pk (sc.getD (3:Int).toNat 0 / 2)
  refine ⟨_,rfl,_,rfl,a,sc,3,rfl,ha10,by decide,by decide,hsc,_,2,rfl,rfl,⟨by decide,by decide⟩,_,rfl,kq,_,rfl,.inl (SqL.of ekq),_,_,rfl,rfl,hpos,kq,_,_,.ref p1,rfl,rfl,SqL.of ekq,at1,?_⟩
  refine gName_go ?_
  try dsimp only
  have hp1:=ep1 _ CK
  refine ⟨_,rfl,_,rfl,ob,dxb,cb,db,p1,w',h,l,cs,ds,one,cells,rfl,Bb10,hl3,by omega,hp1,ho1,L,fun tn fdT ks lv H11 s11 htn etn ekT mem LV NU => ?_⟩
  refine gName_go ?_
  try dsimp only
  refine seq_gen (fun σ H' => ∃ v8 v9,σ = [some (.ref a),some (.ref o),some (.ref o2),some (.ref ob),some (.ref kq),some (.ref kp),some (.ref p1),some (.ref tn),v8,v9]∧Same H11 H') (fun B' nx => ?_) ?_
  ·refine ⟨3,rfl,by decide,by decide,for_range (fun k σ H' => ∃ v8 v9,σ = [some (.ref a),some (.ref o),some (.ref o2),some (.ref ob),some (.ref kq),some (.ref kp),some (.ref p1),some (.ref tn),v8,v9]∧Same H11 H') ⟨_,_,rfl,Same.refl _⟩ ?_ fun σ H' p => nx σ H' p⟩
   rintro k σ H12 hk ⟨v8,v9,rfl,s12⟩
   have hk3:k < 3:=hk
   rw [Int.zero_add]
   have s1012:=Same.trans s11 s12
   obtain ⟨hpos,p2,other,at2,ho2,ep2⟩:=pk (sc.getD (4 + (k:Int)).toNat 0)
   have ekq':=s1012 _ _ ekq
   refine ⟨_,rfl,_,rfl,_,rfl,4,(k:Int),rfl,rfl,a,sc,_,rfl,same_sqL s1012 ha10,by omega,by omega,hsc,_,rfl,kq,_,rfl,.inl (SqL.of ekq'),_,_,rfl,rfl,hpos,kq,_,_,.ref p2,rfl,rfl,SqL.of ekq',at2,?_⟩
   refine gName_go ?_
   try dsimp only
   refine ⟨_,rfl,_,rfl,_,rfl,_,rfl,o,dx,c,d,p1,p2,tn,w',h,l,cs,ds,fdT,one,other,cells,ks,lv,rfl,B10.same s1012,hl3,by omega,s1012 _ _ hp1,s1012 _ _ (ep2 _ CK),ho1,ho2,L,s12 _ _ etn,ekT,mem,LV,NU,fun H13 s13 => ⟨_,rfl,iteF ⟨_,_,rfl,Same.trans s12 s13⟩⟩⟩
  rintro σ H12 ⟨v8,v9,rfl,s12⟩
  have s1012:=Same.trans s11 s12
  refine seq_gen (fun σ H' => σ = [some (.ref a),some (.ref o),some (.ref o2),some (.ref ob),some (.ref kq),some (.ref kp),some (.ref p1),some (.ref tn),v8,v9]∧Same H10 H') (fun B' nx => ?_) ?_
  ·have B12:=B10.same s1012
   have hp12:=s1012 _ _ hp1
   refine ⟨_,rfl,_,rfl,_,rfl,o,dx,c,d,p1,p1,w',h,l,cs,ds,one,one,cells,rfl,B12,hl3,by omega,hp12,hp12,ho1,ho1,L,fun nR => absurd .refl nR,fun D bsW pl ksW lvW H13 s13 hD eD CD LVW hkW _ W _ => ?_⟩
   have epl:pl = [one]:=one_of W.first (by rw [W.len,LVW.z])
   subst epl
   refine ⟨_,rfl,(by show 1≤sizeLine; decide),fun q2 hq2 => ?_⟩
   have t2:=same_new (o:=.lst [.ref p1]) (Same.refl H13) hq2
   have g2:upd H13 q2 (.lst [.ref p1]) q2 = some (.lst ([p1].map V.ref)):=upd_same
   generalize upd H13 q2 (.lst [.ref p1]) = H14 at t2 g2 ⊢
   have s1014:=Same.trans s1012 (Same.trans s13 t2)
   refine ⟨D,q2,bsW,[p1],_,_,rfl,rfl,SqL.of (t2 _ _ eD),SqL.of g2,(CD.same t2).tups,(Cells.nil.snoc (c:=one) (s1014 _ _ hp1)).tups,_,rfl,iteNB (fun e => absurd rfl (of_decide_eq_false e)) fun _ => ?_⟩
   have B14:=B10.same s1014
   refine ⟨_,rfl,o,dx,_,rfl,B14.o,rfl,o,dx,c,d,w',h,l,cs,rfl,B14.o,B14.c,TC.sds,fun k3' bs3 ks3 hk3 ka3 pm3 up3 => ?_⟩
   have q31:=L.eq TC pm3 up3
   subst q31
   have t1:=same_new (o:=.lst (bs3.map V.ref)) (Same.refl H14) hk3
   have f1:upd H14 k3' (.lst (bs3.map V.ref)) k3' = some (.lst (bs3.map V.ref)):=upd_same
   have D1:=(Cells.of_key ka3).same t1
   generalize upd H14 k3' (.lst (bs3.map V.ref)) = H15 at t1 f1 D1 ⊢
   refine ⟨_,rfl,o,dx,_,rfl,t1 _ _ B14.o,rfl,o,dx,c,d,w',h,l,ds,rfl,t1 _ _ B14.o,t1 _ _ B14.d,TH.sds,fun k4 bs4 ks4 hk4 ka4 pm4 up4 => ?_⟩
   have q42:ks4 = ks2:=sorted_eq (pm4.trans pm2.symm) up4 up2
   subst q42
   have t3:=same_new (o:=.lst (bs4.map V.ref)) (Same.refl H15) hk4
   have f3:upd H15 k4 (.lst (bs4.map V.ref)) k4 = some (.lst (bs4.map V.ref)):=upd_same
   have D3:=KeyAt.same ka4 t3
   generalize upd H15 k4 (.lst (bs4.map V.ref)) = H16 at t3 f3 D3 ⊢
   refine ⟨(by show 2≤sizeLine; decide),fun kr hkr => ?_⟩
   have t4:=same_new (o:=.tup [.ref k3',.ref k4]) (Same.refl H16) hkr
   have f4:upd H16 kr (.tup [.ref k3',.ref k4]) kr = some (.tup [.ref k3',.ref k4]):=upd_same
   generalize upd H16 kr (.tup [.ref k3',.ref k4]) = H17 at t4 f4 ⊢
   have n31:k3'≠kl:=fun z => by rw [z,s1014 _ _ ekl] at hk3; cases hk3
   have n42:k4≠k2:=fun z => by rw [z,t1 _ _ (s1014 _ _ ek2)] at hk4; cases hk4
   have s1017:=Same.trans s1014 (Same.trans t1 (Same.trans t3 t4))
   exact ⟨_,rfl,kr,kp,k3',k4,kl,k2,_,_,_,_,rfl,rfl,SqT.of f4,SqT.of (s1017 _ _ ekp),((D1.same t3).same t4).lt (t4 _ _ (t3 _ _ f1)),lt_of (t4 _ _ f3) (KeyAt.same D3 t4) (TH.ints pm4),(CK.same s1017).lt (s1017 _ _ ekl),lt_of (s1017 _ _ ek2) (KeyAt.same AK s1017) (TH.ints pm2),n31,n42,_,rfl,iteNB (fun e => absurd e (by simp)) fun _ => nx _ _ ⟨rfl,s1017⟩⟩
  rintro σ H13 ⟨rfl,s13⟩
  refine seq_gen (fun σ H' => True) (fun B' nx => ?_) fun σ H' _ => q H'
  refine ⟨2,rfl,by decide,by decide,for_range (fun k σ H' => ∃ v4 v6 v8 v9 cs' ds',σ = [some (.ref a),some (.ref o),some (.ref o2),some (.ref ob),v4,some (.ref kp),v6,some (.ref tn),v8,v9]∧Bd t.c_Board H' o dx c d w' h l cs' ds'∧SqL K H' a (sc.map V.int)∧ds'.length≤800 + k) ⟨_,_,_,_,cs,ds,rfl,B10.same s13,same_sqL s13 ha10,by omega⟩ ?_ fun σ H' _ => nx σ H' trivial⟩
  rintro k σ H14 hk ⟨v4,v6,v8,v9,cs14,ds14,rfl,B14,ha14,ld14⟩
  have hk2:k < 2:=hk
  rw [Int.zero_add]
  refine ⟨_,rfl,_,rfl,_,rfl,7,(k:Int),rfl,rfl,a,sc,_,rfl,ha14,by omega,by omega,hsc,_,rfl,31,(k:Int),rfl,rfl,_,_,rfl,o,dx,c,d,w',h,l,_,cs14,ds14,rfl,B14,ncd,w1,h1,l1,w12,h12,hl3,by omega,fun cs15 ds15 H15 f15 B15 ld15 => ?_⟩
  have ha15:=sqL_off2 ha14 B14.c B14.d f15
  have lc15:=tabC_len B15.C w12 h12 hl3
  refine ⟨_,rfl,o,dx,_,rfl,B15.o,rfl,o,dx,c,d,w',h,l,cs15,rfl,B15.o,B15.c,B15.C.sds,fun kq2 bs2 ks2 hkq2 ka2 pm2 up2 => ?_⟩
  obtain ⟨cells2,rfl,L2,lcl2⟩:=CL.of B15.C pm2 up2
  have s16:=same_new (o:=.lst (bs2.map V.ref)) (Same.refl H15) hkq2
  have e16:upd H15 kq2 (.lst (bs2.map V.ref)) kq2 = some (.lst (bs2.map V.ref)):=upd_same
  have C16:=(Cells.of_key ka2).same s16
  refine gName_go ?_
  try dsimp only
  generalize upd H15 kq2 (.lst (bs2.map V.ref)) = H16 at s16 e16 C16 ⊢
  refine ⟨_,rfl,(by show 0≤sizeLine; omega),fun z hz => ?_⟩
  have s17:=same_new (o:=.lst []) (Same.refl H16) hz
  have ez:upd H16 z (.lst []) z = some (.lst (([]:List Addr).map V.ref)):=upd_same
  generalize upd H16 z (.lst []) = H17 at s17 ez ⊢
  have s1517:=Same.trans s16 s17
  have e17:=s17 _ _ e16
  have C17:=C16.same s17
  have B17:=B15.same s1517
  have ha17:=same_sqL s1517 ha15
  refine ⟨kq2,z,bs2,[],_,_,rfl,rfl,SqL.of e17,SqL.of ez,C17.tups,Cells.nil.tups,_,rfl,iteNB (fun hne0 => ?_) fun _ => ⟨_,_,_,_,cs15,ds15,rfl,B17,ha17,by omega⟩⟩
  have hne2:cells2≠[]:=fun z => of_decide_eq_false hne0 (by rw [z])
  have pk2:=fun n => pick C17.1 hne2 n
  obtain ⟨hpos,p3,one3,at3,ho3,ep3⟩:=pk2 (sc.getD (3:Int).toNat 0)
  refine ⟨_,rfl,_,rfl,a,sc,3,rfl,ha17,by decide,by decide,hsc,_,rfl,kq2,_,rfl,.inl (SqL.of e17),_,_,rfl,rfl,hpos,kq2,_,_,.ref p3,rfl,rfl,SqL.of e17,at3,?_⟩
  refine gName_go ?_
  try dsimp only
  obtain ⟨hpos,p4,other4,at4,ho4,ep4⟩:=pk2 (sc.getD (4 + (k:Int)).toNat 0)
  refine ⟨_,rfl,_,rfl,_,rfl,4,(k:Int),rfl,rfl,a,sc,_,rfl,ha17,by omega,by omega,hsc,_,rfl,kq2,_,rfl,.inl (SqL.of e17),_,_,rfl,rfl,hpos,kq2,_,_,.ref p4,rfl,rfl,SqL.of e17,at4,?_⟩
  refine gName_go ?_
  try dsimp only
  refine ⟨_,rfl,_,rfl,_,rfl,_,rfl,_,rfl,o,dx,c,d,p3,w',h,l,cs15,ds15,one3,cells2,rfl,B17,hl3,by omega,ep3 _ C17,ho3,L2,fun tn2 fdT2 ks2 lv2 H18 s18 htn2 etn2 ekT2 mem2 LV2 NU2 => ?_⟩
  exact ⟨o,dx,c,d,p3,p4,tn2,w',h,l,cs15,ds15,fdT2,one3,other4,cells2,ks2,lv2,rfl,B17.same s18,hl3,by omega,s18 _ _ (ep3 _ C17),s18 _ _ (ep4 _ C17),ho3,ho4,L2,etn2,ekT2,mem2,LV2,NU2,fun H19 s19 => ⟨_,rfl,iteF ⟨_,_,_,_,cs15,ds15,rfl,(B17.same s18).same s19,same_sqL (Same.trans s18 s19) ha17,by omega⟩⟩⟩
end
theorem walk {l:PySem.W.OpenLaw} {q:Program} {loose:List Str} {XP:(Str→Option Value)→Heap→Prop} {YP:World→Heap→Prop} {d:DefRec} {K:Params→PySem.W.Frag} (hn:l.most = some 63) (hdf:d.params.defaults = [])
  (hY:∀ (w:World) (h:Heap),YP w h→(K w.params).In h)
  (F:∀ (w:World) (mg:Str→Option Value) (fa:Addr) (h:Heap),(K w.params).In h→h.Ns mainGlobals mg→mg d.name = some (.ref fa) →
   ∃ fd:FuncData,(∀ (s:Shared) (u:Value),BindsTo s fd ⟨[u],[]⟩ [("_law_script",u)])∧∀ base:Heap,(K w.params).In base→base.Ns mainGlobals mg→FnOk l.prog w (K w.params) mg base (XC l.prog w) 10 fa fd ["_law_script"] (spLaw (K w.params))) :
  PySem.W.WalkO q loose XP YP l.row.toRowW d [] (fun f vs => PySem.call f vs) :=
 L2.walk_of (n:=63) (k:=10) (x:="_law_script") (CX:=fun w => XC l.prog w) (sp:=fun w => spLaw (K w.params)) hn (by decide) hdf ⟨fun _ => rfl,by decide,by decide⟩ hY F (fun _ _ a ns hl _ hS => ⟨a,ns,rfl,hS,hl,fun _ => rfl⟩) fun w H s e s' z => by
  obtain ⟨_,_,_,_,_,_,_,_,_,q⟩:=z
  exact q
end K23
open PySem PySem.W PyProof.Rows
set_option maxRecDepth 100000 in
set_option maxHeartbeats 0 in
theorem PySem.Challenge.cw_copperbook_k23_whole_joined_or_not_holds : PySem.Challenge.rw_copperbook_k23_whole_joined_or_not.Holds := by
 w_on; o_law; k_head; (case hw => w_witness2)
 k_fill
 refine K23.walk (l:=PySem.Challenge.rw_copperbook_k23_whole_joined_or_not) rfl rfl (fun w h Y => PySem.W.kIn_of Y) ?F
 case F =>
  intro w mg fa h KX G hmg
  have TT:∃ t:K23.Adr,K23.Txt (L2.KOf KX) mg t:=by
   dsimp only [L2.KOf]
   refine' K23.txt_mk KX G ?g_Board ?g_Block ?pg_Board ?hd_Board ?po_Board ?sa_Board ?mk_Board ?kc_Board ?na_Board_wide ?na_Board_high ?na_Board_layers ?na_Board_copper ?na_Board_drilled ?pg_Block ?hd_Block ?po_Block ?sa_Block ?mk_Block ?kc_Block ?na_Block_x ?na_Block_y ?na_Block_wide ?na_Block_high ?a_near ?l_near ?cc_near ?k_near ?a_island_of ?l_island_of ?cc_island_of ?k_island_of ?a_walk ?l_walk ?cc_walk ?k_walk ?a_spread ?l_spread ?cc_spread ?k_spread ?a_neighbours ?l_neighbours ?cc_neighbours ?k_neighbours ?a_beside ?l_beside ?cc_beside ?k_beside ?a_over_and_under ?l_over_and_under ?cc_over_and_under ?k_over_and_under ?a_need_copper ?l_need_copper ?cc_need_copper ?k_need_copper ?a_is_whole ?l_is_whole ?cc_is_whole ?k_is_whole ?a_Board_init ?i_Board_init ?l_Board_init ?dl_Board_init ?cc_Board_init ?k_Board_init ?a_Board_cells ?i_Board_cells ?l_Board_cells ?dl_Board_cells ?cc_Board_cells ?k_Board_cells ?a_Board_holes ?i_Board_holes ?l_Board_holes ?cc_Board_holes ?k_Board_holes ?a_Board_lay ?i_Board_lay ?l_Board_lay ?dl_Board_lay ?cc_Board_lay ?k_Board_lay ?a_Board_clear ?i_Board_clear ?l_Board_clear ?dl_Board_clear ?cc_Board_clear ?k_Board_clear ?a_Board_put ?i_Board_put ?l_Board_put ?cc_Board_put ?k_Board_put ?a_Board_take ?i_Board_take ?l_Board_take ?cc_Board_take ?k_Board_take ?a_Board_drill ?i_Board_drill ?l_Board_drill ?cc_Board_drill ?k_Board_drill ?a_Board_plug ?i_Board_plug ?l_Board_plug ?cc_Board_plug ?k_Board_plug ?a_Board_is_copper ?i_Board_is_copper ?l_Board_is_copper ?dl_Board_is_copper ?cc_Board_is_copper ?k_Board_is_copper ?a_Board_has_hole ?i_Board_has_hole ?l_Board_has_hole ?cc_Board_has_hole ?k_Board_has_hole ?a_Board_has_layer ?i_Board_has_layer ?l_Board_has_layer ?cc_Board_has_layer ?k_Board_has_layer ?a_Board_has_square ?i_Board_has_square ?l_Board_has_square ?cc_Board_has_square ?k_Board_has_square ?a_Board_has_cell ?i_Board_has_cell ?l_Board_has_cell ?cc_Board_has_cell ?k_Board_has_cell ?a_Board_need_square ?i_Board_need_square ?l_Board_need_square ?cc_Board_need_square ?k_Board_need_square ?a_Board_need_cells ?i_Board_need_cells ?l_Board_need_cells ?cc_Board_need_cells ?k_Board_need_cells ?a_Board_shape_cells ?i_Board_shape_cells ?l_Board_shape_cells ?cc_Board_shape_cells ?k_Board_shape_cells ?a_need_measure ?l_need_measure ?cc_need_measure ?k_need_measure ?a_Block_init ?i_Block_init ?l_Block_init ?cc_Block_init ?k_Block_init ?a_Block_cells ?i_Block_cells ?l_Block_cells ?cc_Block_cells ?k_Block_cells ?a_Block_box ?i_Block_box ?l_Block_box ?cc_Block_box ?k_Block_box ?a_need_whole ?l_need_whole ?cc_need_whole ?k_need_whole ?a_need_from_one ?l_need_from_one ?cc_need_from_one ?k_need_from_one ?a_box_places ?l_box_places ?cc_box_places ?k_box_places ?a_law_cell_at ?l_law_cell_at ?cc_law_cell_at ?k_law_cell_at ?a_law_mixed ?l_law_mixed ?cc_law_mixed ?k_law_mixed ?a_law_rows ?l_law_rows ?cc_law_rows ?k_law_rows ?a_law_board ?l_law_board ?cc_law_board ?k_law_board ?a_law_lined ?l_law_lined ?cc_law_lined ?k_law_lined ?a_law_rounds ?l_law_rounds ?cc_law_rounds ?k_law_rounds ?a_law_right ?l_law_right ?cc_law_right ?k_law_right ?a_law_deed ?l_law_deed ?cc_law_deed ?k_law_deed ?a_law ?l_law ?cc_law ?k_law ?g_CopperError ?g_NoShape ?g_NoBoard ?g_NoPlace ?g_NoCopper ?x_NoBoard ?x_NoPlace ?x_NoCopper ?x_NoShape ?n_isinstance ?n_int ?n_bool ?n_list ?n_tuple ?n_len ?n_range ?n_min ?n_enumerate ?n_sorted ?n_set ?g_MOST_WIDE ?g_MOST_HIGH ?g_MOST_LAYERS
   (case g_Board => k_is)
   (case g_Block => k_is)
   (case pg_Board => k_is)
   (case hd_Board => k_is)
   (case po_Board => k_is)
   (case sa_Board => k_is)
   (case mk_Board => k_is)
   (case kc_Board => k_is)
   (case na_Board_wide => k_is)
   (case na_Board_high => k_is)
   (case na_Board_layers => k_is)
   (case na_Board_copper => k_is)
   (case na_Board_drilled => k_is)
   (case pg_Block => k_is)
   (case hd_Block => k_is)
   (case po_Block => k_is)
   (case sa_Block => k_is)
   (case mk_Block => k_is)
   (case kc_Block => k_is)
   (case na_Block_x => k_is)
   (case na_Block_y => k_is)
   (case na_Block_wide => k_is)
   (case na_Block_high => k_is)
   (case a_near => k_is)
   (case l_near => k_is)
   (case cc_near => k_is)
   (case k_near => k_is)
   (case a_island_of => k_is)
   (case l_island_of => k_is)
   (case cc_island_of => k_is)
   (case k_island_of => k_is)
   (case a_walk => k_is)
   (case l_walk => k_is)
   (case cc_walk => k_is)
   (case k_walk => k_is)
   (case a_spread => k_is)
   (case l_spread => k_is)
   (case cc_spread => k_is)
   (case k_spread => k_is)
   (case a_neighbours => k_is)
   (case l_neighbours => k_is)
   (case cc_neighbours => k_is)
   (case k_neighbours => k_is)
   (case a_beside => k_is)
   (case l_beside => k_is)
   (case cc_beside => k_is)
   (case k_beside => k_is)
   (case a_over_and_under => k_is)
   (case l_over_and_under => k_is)
   (case cc_over_and_under => k_is)
   (case k_over_and_under => k_is)
   (case a_need_copper => k_is)
   (case l_need_copper => k_is)
   (case cc_need_copper => k_is)
   (case k_need_copper => k_is)
   (case a_is_whole => k_is)
   (case l_is_whole => k_is)
   (case cc_is_whole => k_is)
   (case k_is_whole => k_is)
   (case a_Board_init => k_is)
   (case i_Board_init => k_is)
   (case l_Board_init => k_is)
   (case dl_Board_init => k_is)
   (case cc_Board_init => k_is)
   (case k_Board_init => k_is)
   (case a_Board_cells => k_is)
   (case i_Board_cells => k_is)
   (case l_Board_cells => k_is)
   (case dl_Board_cells => k_is)
   (case cc_Board_cells => k_is)
   (case k_Board_cells => k_is)
   (case a_Board_holes => k_is)
   (case i_Board_holes => k_is)
   (case l_Board_holes => k_is)
   (case cc_Board_holes => k_is)
   (case k_Board_holes => k_is)
   (case a_Board_lay => k_is)
   (case i_Board_lay => k_is)
   (case l_Board_lay => k_is)
   (case dl_Board_lay => k_is)
   (case cc_Board_lay => k_is)
   (case k_Board_lay => k_is)
   (case a_Board_clear => k_is)
   (case i_Board_clear => k_is)
   (case l_Board_clear => k_is)
   (case dl_Board_clear => k_is)
   (case cc_Board_clear => k_is)
   (case k_Board_clear => k_is)
   (case a_Board_put => k_is)
   (case i_Board_put => k_is)
   (case l_Board_put => k_is)
   (case cc_Board_put => k_is)
   (case k_Board_put => k_is)
   (case a_Board_take => k_is)
   (case i_Board_take => k_is)
   (case l_Board_take => k_is)
   (case cc_Board_take => k_is)
   (case k_Board_take => k_is)
   (case a_Board_drill => k_is)
   (case i_Board_drill => k_is)
   (case l_Board_drill => k_is)
   (case cc_Board_drill => k_is)
   (case k_Board_drill => k_is)
   (case a_Board_plug => k_is)
   (case i_Board_plug => k_is)
   (case l_Board_plug => k_is)
   (case cc_Board_plug => k_is)
   (case k_Board_plug => k_is)
   (case a_Board_is_copper => k_is)
   (case i_Board_is_copper => k_is)
   (case l_Board_is_copper => k_is)
   (case dl_Board_is_copper => k_is)
   (case cc_Board_is_copper => k_is)
   (case k_Board_is_copper => k_is)
   (case a_Board_has_hole => k_is)
   (case i_Board_has_hole => k_is)
   (case l_Board_has_hole => k_is)
   (case cc_Board_has_hole => k_is)
   (case k_Board_has_hole => k_is)
   (case a_Board_has_layer => k_is)
   (case i_Board_has_layer => k_is)
   (case l_Board_has_layer => k_is)
   (case cc_Board_has_layer => k_is)
   (case k_Board_has_layer => k_is)
   (case a_Board_has_square => k_is)
   (case i_Board_has_square => k_is)
   (case l_Board_has_square => k_is)
   (case cc_Board_has_square => k_is)
   (case k_Board_has_square => k_is)
   (case a_Board_has_cell => k_is)
   (case i_Board_has_cell => k_is)
   (case l_Board_has_cell => k_is)
   (case cc_Board_has_cell => k_is)
   (case k_Board_has_cell => k_is)
   (case a_Board_need_square => k_is)
   (case i_Board_need_square => k_is)
   (case l_Board_need_square => k_is)
   (case cc_Board_need_square => k_is)
   (case k_Board_need_square => k_is)
   (case a_Board_need_cells => k_is)
   (case i_Board_need_cells => k_is)
   (case l_Board_need_cells => k_is)
   (case cc_Board_need_cells => k_is)
   (case k_Board_need_cells => k_is)
   (case a_Board_shape_cells => k_is)
   (case i_Board_shape_cells => k_is)
   (case l_Board_shape_cells => k_is)
   (case cc_Board_shape_cells => k_is)
   (case k_Board_shape_cells => k_is)
   (case a_need_measure => k_is)
   (case l_need_measure => k_is)
   (case cc_need_measure => k_is)
   (case k_need_measure => k_is)
   (case a_Block_init => k_is)
   (case i_Block_init => k_is)
   (case l_Block_init => k_is)
   (case cc_Block_init => k_is)
   (case k_Block_init => k_is)
   (case a_Block_cells => k_is)
   (case i_Block_cells => k_is)
   (case l_Block_cells => k_is)
   (case cc_Block_cells => k_is)
   (case k_Block_cells => k_is)
   (case a_Block_box => k_is)
   (case i_Block_box => k_is)
   (case l_Block_box => k_is)
   (case cc_Block_box => k_is)
   (case k_Block_box => k_is)
   (case a_need_whole => k_is)
   (case l_need_whole => k_is)
   (case cc_need_whole => k_is)
   (case k_need_whole => k_is)
   (case a_need_from_one => k_is)
   (case l_need_from_one => k_is)
   (case cc_need_from_one => k_is)
   (case k_need_from_one => k_is)
   (case a_box_places => k_is)
   (case l_box_places => k_is)
   (case cc_box_places => k_is)
   (case k_box_places => k_is)
   (case a_law_cell_at => k_is)
   (case l_law_cell_at => k_is)
   (case cc_law_cell_at => k_is)
   (case k_law_cell_at => k_is)
   (case a_law_mixed => k_is)
   (case l_law_mixed => k_is)
   (case cc_law_mixed => k_is)
   (case k_law_mixed => k_is)
   (case a_law_rows => k_is)
   (case l_law_rows => k_is)
   (case cc_law_rows => k_is)
   (case k_law_rows => k_is)
   (case a_law_board => k_is)
   (case l_law_board => k_is)
   (case cc_law_board => k_is)
   (case k_law_board => k_is)
   (case a_law_lined => k_is)
   (case l_law_lined => k_is)
   (case cc_law_lined => k_is)
   (case k_law_lined => k_is)
   (case a_law_rounds => k_is)
   (case l_law_rounds => k_is)
   (case cc_law_rounds => k_is)
   (case k_law_rounds => k_is)
   (case a_law_right => k_is)
   (case l_law_right => k_is)
   (case cc_law_right => k_is)
   (case k_law_right => k_is)
   (case a_law_deed => k_is)
   (case l_law_deed => k_is)
   (case cc_law_deed => k_is)
   (case k_law_deed => k_is)
   (case a_law => k_is)
   (case l_law => k_is)
   (case cc_law => k_is)
   (case k_law => k_is)
   (case g_CopperError => k_is)
   (case g_NoShape => k_is)
   (case g_NoBoard => k_is)
   (case g_NoPlace => k_is)
   (case g_NoCopper => k_is)
   (case x_NoBoard => k_exc)
   (case x_NoPlace => k_exc)
   (case x_NoCopper => k_exc)
   (case x_NoShape => k_exc)
   (case n_isinstance => k_is)
   (case n_int => k_is)
   (case n_bool => k_is)
   (case n_list => k_is)
   (case n_tuple => k_is)
   (case n_len => k_is)
   (case n_range => k_is)
   (case n_min => k_is)
   (case n_enumerate => k_is)
   (case n_sorted => k_is)
   (case n_set => k_is)
   (case g_MOST_WIDE => k_is)
   (case g_MOST_HIGH => k_is)
   (case g_MOST_LAYERS => k_is)
  obtain ⟨t,T⟩:=TT
  have e:=hmg.symm.trans T.g_law
  cases e
  exact K23.law_fn T
