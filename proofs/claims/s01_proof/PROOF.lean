import PyProof.Rows.All
import VbdeabSpec
import Wide.All
import OpenK.AllK
import Wide.FinOn
import PyProof.EqAt
import PyProof.EqKinds
import PyProof.TupleCall
import KE.BitLaws
import Open.SpecLaws
import KE.OsHead
import KE.OsGo
import KE.IntBitsLaws
import KE.KLam
import KE.KSortKeyAny
import KE.KNest
import PySem.Challenge.RW_toldchance_s01_answers
import PyVbdeab
import PyFlatLaws
set_option Elab.async false
set_option linter.all false
set_option maxRecDepth 100000
set_option maxHeartbeats 2000000
inductive PySem.W.Fast:Type|tw12431914988326751322|tw16778293736953812535|tw15914116317158455284|tw15742860449131527073|tw5463368429055545702|tw9182583897468792359|tw12830891442582113111|tw5936616668941269758|tw5003936086911677279|tw11990924929570449618|tw10310216905564145556|tw10757049238514008366|tw16757420751912548318|tw6596173663294872229|tw1081917364714018277|tw7327753264068488931|tw11771075155360313648|tw10198408067027780389|tw9330356652639915197|tw14397722298467082850|tw3001399256230100409|tw15220328211249636285|tw8392970024204344839|tw1695415432481185034|tw7825065650568865881|tw13981594397897146268|tw15500287641619291886|tw7578281736231953068|tw10851405245388056622|tw11642152128394632923|tw2522987130876208059|tw9988587871708223540|tw14839091986227263915|tw12524374726428677136|tw15384366132751483820|tw5163379296650003455|tw2241325001004975404|tw1692465560135967478|tw2047630232844566039|tw10554019307066335570|tw15262691942085817519|tw10459542935050205401|tw8579355222605862015|tw9379573662130969066|tw11171067039983236617|tw17760360187962731894|tw92932844564617628|tw4307136963332669866|tw10965535152836602413|tw5276250902903391756|tw18241584460750836733|tw14803406139126536182|tw4401280138204368331|tw6390938394777395144|tw16707359932153311502|tw4902839882442642475|tw15844800771371713596|tw3699871686542258292|tw7786982980943712884|tw13023240040889684401|tw5419578771426699508|tw11180022255712002361|tw5886859474059175146|tw6750019973470879786|tw9087947436506392228|tw14570811391389759739|tw11388095044323661639|tw6274244201637779582|tw10513958037738339489|tw2174838871033289758|tw18162154289865588611|tw17230399139168421995|tw13545810358921001884|tw5560698326240943118|tw18360507309077415389|tw10376376090963237836|tw8838774897981785302|tw16871005333562265531|tw1802429432766989674|tw3659289785144885401|tw16931412246381595329|tw1618590998860269120|tw2537056952779272347|tw1913801623592772511|tw11718540395176346692|tw2466833718299399061|tw6246141104374020626|tw4576077693986152740|tw4272889962347832532|tw5324631765817377247|tw3889156918371561491|tw12729050014827158136|tw14852014018240673269|tw8778038463018057072|tw7272239055069281919|tw18317836777723647867|tw7573622576148446409|tw10975348464945954305|tw3570696299762338538|tw8630945023152042967|tw10761755605955809539|tw536753092742911359|tw7332383152568028492|tw6151217328153208785|tw3817525387847013299|tw17832656018570386277|tw10120892596323888408|tw12728284102914194887|tw188991319534363130|tw17369656851672675106|tw9678406258465426747|tw7266019224206337715|tw7675450105396308513|tw10180188338088308634|tw13052968106049902569|tw6463546168144929460|tw15411522603153917911|tw6446984584962420033|tw14834362276064988773|tw17484133310484421074|tw5068551061790308068|tw125083495094165998|tw16560617189575999308|tw13240728075750230912|tw17532118305517732053|tw1697456450450476872|tw17921341698526614108|tw14968347811782331618|tw5413777810154599273|tw5533767865841854900|tw10538871719552461161|tw10990087327468786873|tw2169298730449505143|tw2123839068004472106|tw14775091007476542302|tw4587812306169842366|tw6261041180200227176|tw14986152619710003422|tw3590270509260355105|tw12597804462203351069|tw4218490640029870386|tw958885402553729324|tw13557637306267881350|tw12974354005945731419|tw2267689087366717723|tw11594505573318286209|tw18082723640546590500|tw18268305580548573349|tw5509026615517033458|tw14562458328854495419|tw3072066672218875709|tw14579207725010098236|tw6964198792446407068|tw15007168763490365399|tw10237027411789452285|tw3996317641103821134|tw8846230918864547321|tw67507659384495029|tw4465871810035029545|tw5688209324577566695|tw4991557813684955237|tw12500728127230144304|tw6750026833186242885|tw6421067732977501336|tw12570815459397270920|tw7704592523292020023|tw14660599537116692848|tw14738587476684427187|tw8125901364625570885|tw12485129414894941322|tw6269022102459443249|tw4734546295739961267|tw9750352245553151298|tw4517753849657663693|tw1186792577974138819|tw3880585846722365216|tw10124745922059574162|tw8440976257946475163|tw11558429632888861086|tw4900311490850824102|tw18105160357506477323|tw2985787939216132493|tw16951657960010824068|tw15256147773698809478|tw18392823778901869955|tw6382770546196655957|tw8743206745991973806|tw8166856835279771542|tw15742969878861826270|tw5789585848005309009|tw4910322640759799498|tw7395264641086370092|tw12569513236361537656|tw12513502977108977662|tw3722305288677087956|tw5667353429257588458|tw13868107838862248496|tw339337648701769168|tw4101925265144046270|tw7317891217308333556|tw6586054283964533306|tw1873073383491227325|tw13384365436532152517|tw17364921315677021282|tw7190447943697066389|tw5609817289925781470|tw9512937437238796358|tw5326989675257632759|tw13530775658081973025|tw17914192834223817471|tw3456486029369215671|tw17589144510286641275|tw12975831232072372801|tw4815518517886243263|tw4119233461223336508|tw14558078100580092322|tw3107929278314037803|tw1144321808859358206|tw16767480939537521971|tw1644357926432848161|tw9336271774863121029|tw14568538333043614768|tw17938061991783102274|tw7524791537477580277|tw1213730978802625912|tw9659808156131142714|tw14988961731674713429|tw7856131229150254250|tw11952649664269599030|tw13966230480502705560|tw6551972500375903067|tw2481097232128465123|tw15196092117976647303|tw15455154648968325360|tw12268050975337188174|tw7300415807067458665|tw4133117768978828576|tw5162721648739606277|tw12177257780662319969|tw457895351464260294|tw685920056419048305|tw13513061111080151581|tw14425618859956152685|tw11984189211503537545|tw233314622639563951|tw7249287904279225286|tw12822035133174571070|tw1974469415256258403|tw2959448131370667753|tw695180229324830396|tw17157484533695682507|tw11981626522738389144|tw233363219871733689|tw5512801112098991552|tw13746005448374599605|tw3380977453708080917|tw14166087262788312818|tw12071078641487483286|tw14749535125434829528|tw88862392382355731|tw13826092326072578340|tw12602771419054200569|tw1491503281053737499|tw15215894119883363939|tw10689654979489164677|tw11032248545498225601|tw11382743414067519394|tw8033299602772860178|tw5577367666301592771|tw6842407035123331798|tw12065057565529968042|tw2648279384338507346|tw4152688173261273965|tw7425831982869547326|tw4612857437682964448|tw6434720319542739187|tw15513530999619128665|tw18061403588680902585|tw565155733058754099|tw12077967104812440901|tw11507648333024220347|tw14836414269208192542|tw5673466559812010662|tw1372915358515562732|tw16092017046456103241|tw1540006038459782071|tw18425802427676450975|tw17652495506422853590|tw12024749385151845047|tw12180050710604550995|tw15223761845560157401|tw29367475724147647|tw7859366347596863267|tw18341692617013339674|tw577076929577615664|tw15093270867136013621|tw15304769162326401998|tw14382351182663227667|tw15991779687213956191|tw7916180450563768669|tw14418693045759799162|tw17070587588340822322|tw16282688584839493568|tw14452450358330025911|tw10063504246422613144|tw13677211905620629993|tw4767951246793664623|tw14149695298899453210|tw17230911349217379277|tw6437602591061925497|tw7645341705620470469|tw8937783704893590160|tw11808252793972498021|tw6097423247552012024|tw10296797578864915772|tw8142821309035813820|tw3220837405025171530|tw6238184955614331596|tw15847752340978490305|tw9486721630780025903|tw4786492776185912981|tw11917385746904477204|tw6420344703784840741|tw15366722342700686391|tw4886902656211389059|tw9482276692916718948|tw7105729497256241015|tw11245305095021012802|tw15072284641870332938|tw126870665220926756|tw5162900589611327955|tw1696749746098804690|tw8136345781005141269|tw1506433207083766342|tw14992602047317604871|tw12294509193375342782|tw15451004329785269634|tw5243608137197844355|tw5257888467330087242|tw2825855820404476172|tw277928004685057561|tw10148854840548726594|tw14050786935568159342|tw4935201796466070618|tw7700822238287497727|tw2150750194015142843|tw5544909212738085960|tw1275107949389515697|tw1760237157535272720|tw1067917869616331221|tw12213596597089613525|tw10498016525363348150|tw3949262546679116156|tw8301448697010853885|tw6418018110458672762|tw2006877495507706246|tw4546628504401690474|tw12078270367795513776|tw3521860147608743794|tw17409390338444701746|tw7635758035708113167|tw2302610333512248544|tw6265151200444914041|tw11949577813455738138|tw2064526721405809560|tw1952233376249152948|tw13055030839883858919|tw12519978334215460831|tw6717164924033018312|tw11580973221204691863|tw17528239949349618447|tw5017565418951213611|tw2470575585551271500|tw10433952369301770685|tw4795811747659122693|tw9074659617886917912|tw17530973479381108702|tw12904276425923984396|tw538285196509971052|tw17027418458716957225|tw3438415540865641911|tw6632959631577369620|tw14027056021712945709|tw13286245931640300182|tw17857105324234779100|tw12443241003362825843|tw3861110935761454044|tw8710771247375263146|tw10658695402666237803|tw13388560168060058773|tw3661920627641432989|tw9986946329779951239|tw2991048487252703173|tw18136963177976850338|tw9098083819698847681|tw817150534826893520|tw10090944316071617879|tw16182347875021737606|tw5355721110955810700|tw1228251312022814878
section
set_option maxHeartbeats 0
open PySem PySem.W PyProof.Rows
local macro_rules | `(tactic| o_law) => `(tactic| skip)
local macro_rules | `(tactic| k_head) => `(tactic| k_headS)
local macro_rules | `(tactic| w_witness2) => `(tactic| exact ⟨[.list [.int 1, .int 0]], by decide +kernel, by decide +kernel⟩)
open_top hdTop for PySem.Challenge.rw_toldchance_s01_answers
end
noncomputable section
open Vbdeab (LIMIT State Stream along bestOf build ceilDiv checked chosen classes does exchange farFrom fractions hitsFrom holdNew joined links locate lotsOf nats onDist onStream place point points ramp ranges sharesFrom shownClass shownQ shownRow shuffled spaced stateOk streamOk taken toldRows tooth total variance weighted weights weightsOk within)
def G6:=@Array.length_toList
def yb:=@Bool.and_eq_true
def IB:=@Bool.and_eq_true_iff
def uq:=@Bool.false_ne_true
def i5:=@PySem.Heap.get?_push_of_some
def vb:=@PySem.Heap.get?_push_size
def fj:=@PySem.Heap.lt_size
def AU:=@PySem.Heap.size_push
def IC:=@Int.dvd_mul_of_dvd_left
def fF:=@Int.le_of_lt
def G7:=@Int.le_of_mul_le_mul_right
def JA:=@Int.lt_ediv_add_one_mul_self
def nU:=@Int.mul_assoc
def pG:=@Int.mul_comm
def CG:=@Int.mul_ediv_cancel_left
def CH:=@Int.mul_le_mul_of_nonneg_left
def vD:=@Int.mul_le_mul_of_nonneg_right
def Mp:=@Int.mul_le_mul_of_nonpos_left
def pH:=@Int.mul_left_comm
def eW:=@Int.mul_pos
def Ah:=@Int.natAbs_dvd_natAbs
def kh:=@Int.natAbs_natCast
def pI:=@Int.natCast_add
def CI:=@Int.natCast_ediv
def b7:=@Int.natCast_mul
def r8:=@Int.natCast_sub
def Mq:=@Int.nonneg_of_mul_nonneg_left
def CJ:=@Int.ofNat_dvd
def cT:=@Int.toNat_natCast
def cC:=@Int.toNat_of_nonneg
def kj:=@Int.zero_add
def CK:=@List.all_cons
def Ai:=@List.all_eq_true
def vE:=@List.append_nil
def G8:=@List.cons_append
def G9:=@List.eq_nil_of_length_eq_zero
def Ha:=@List.filter_append
def ur:=@List.filter_cons
def CL:=@List.find?_cons
def Hb:=@List.flatMap_cons
def He:=@List.flatten_cons
def eX:=@List.getD_eq_getElem?_getD
def nV:=@List.getElem?_append_left
def nW:=@List.getElem?_append_right
def bF:=@List.getElem?_eq_getElem
def ut:=@List.getElem?_eq_none
def cb:=@List.getElem?_eq_some_iff
def dn:=@List.getElem?_map
def Hf:=@List.getElem?_range
def Aj:=@List.getElem?_set_ne
def Ak:=@List.getElem?_set_self
def bX:=@List.length_append
def d5:=@List.length_cons
def CM:=@List.length_drop
def Hg:=@List.length_filter_le
def aD:=@List.length_map
def fm:=@List.length_range
def JB:=@List.length_replicate
def r9:=@List.length_set
def ic:=@List.length_take
def CN:=@List.lookup_cons
def du:=@List.map_append
def nX:=@List.map_congr_left
def eY:=@List.map_cons
def fo:=@List.map_map
def yc:=@List.map_set
def jO:=@List.mem_append
def CO:=@List.mem_append_left
def sj:=@List.mem_append_right
def cF:=@List.mem_cons
def dU:=@List.mem_cons_of_mem
def fB:=@List.mem_cons_self
def CP:=@List.mem_filter
def lO:=@List.mem_map
def eM:=@List.mem_of_getElem?
def gN:=@List.mem_singleton
def Hh:=@List.nil_append
def uu:=@List.nodup_cons
def JC:=@List.range_succ_eq_map
def CQ:=@List.replicate_succ
def fP:=@List.size_toArray
def Al:=@List.sum_cons
def jP:=@List.take_length
def lv:=@List.take_of_length_le
def ye:=@Nat.add_assoc
def uv:=@Nat.add_mod
def Am:=@Nat.add_mul
def lP:=@Nat.add_zero
def Hi:=@Nat.dvd_antisymm
def yf:=@Nat.dvd_gcd
def Ei:=@Nat.eq_zero_or_pos
def vF:=@Nat.gcd_dvd_left
def jg:=@Nat.gcd_dvd_right
def Hj:=@Nat.gcd_pos_of_pos_right
def bp:=@Nat.le_refl
def fQ:=@Nat.le_trans
def sn:=@Nat.lt_irrefl
def nY:=@Nat.lt_of_le_of_lt
def gO:=@Nat.lt_of_lt_of_le
def so:=@Nat.lt_or_ge
def CC:=@Nat.lt_trichotomy
def wB:=@Nat.min_eq_left
def ra:=@Nat.mod_eq_of_lt
def iZ:=@Nat.mod_lt
def uk:=@Nat.mod_mod
def wC:=@Nat.mul_add
def wD:=@Nat.mul_assoc
def jN:=@Nat.mul_mod
def ou:=@Nat.mul_pos
def fi:=@Nat.ne_of_lt
def ow:=@Nat.one_mul
def CD:=@Nat.pow_lt_pow_right
def mO:=@Nat.pow_succ
def ul:=@Nat.sub_self
def wE:=@Nat.two_pow_pos
def i3:=@Nat.zero_add
def bn:=@Nat.zero_le
def mP:=@Option.map_eq_some_iff
def bE:=@Option.some.inj
def cJ:=@PySem.PassesOwn.never
def CF:=@PyProof.Rows.callWith_type1
def lF:=@PySem.F.plainAttrs_list
def um:=@PySem.F.slot_list_append
def Fl:=@PySem.F.slot_list_extend
def uo:=@PySem.F.type_list_append
def Fm:=@PySem.F.type_list_extend
def zx:=@PySem.W.mg_of
def eh:=@PySem.boot_len
def i4:=@PySem.mem_of_lookup
def cx:=@congrArg
def bq:=@decide_eq_false
def aE:=@decide_eq_true
def fz:=@decide_eq_true_eq
def bj:=@of_decide_eq_true
def fA:=@trivial
def wF:=@PySem.wpAny_Call_Name_kw
def bI:=@PySem.wpAny_bind
def kL:=@PySem.wpAny_mono
def wG:=@PySem.wpAny_passesOwn
def dP:=@PySem.wpAny_pure
def wH:=@PySem.wpAny_truthy_bool
section
theorem fe {p1 p2 p3:Prop}(h1:p1)(h2:p2)(h3:p3):p1∧p2∧p3:=⟨h1,h2,h3⟩
theorem bZ {p1 p2 p3 p4:Prop}(h1:p1)(h2:p2)(h3:p3)(h4:p4):p1∧p2∧p3∧p4:=⟨h1,h2,h3,h4⟩
theorem kK {p1:Prop}{p2:ta→Prop}(h1:p1)(a:ta)(h2:p2 a):p1∧∃a,p2 a:=⟨h1,a,h2⟩
theorem dm {p1:Prop}{p2 p3:ta→Prop}(h1:p1)(a:ta)(h2:p2 a)(h3:p3 a):p1∧∃a,p2 a∧p3 a:=⟨h1,a,h2,h3⟩
theorem mN {p1:Prop}{p2 p3 p4:ta→Prop}(h1:p1)(a:ta)(h2:p2 a)(h3:p3 a)(h4:p4 a):p1∧∃a,p2 a∧p3 a∧p4 a:=⟨h1,a,h2,h3,h4⟩
theorem bH {p1 p2:ta→Prop}(a:ta)(h1:p1 a)(h2:p2 a):∃a,p1 a∧p2 a:=⟨a,h1,h2⟩
theorem cZ {p1 p2 p3:ta→Prop}(a:ta)(h1:p1 a)(h2:p2 a)(h3:p3 a):∃a,p1 a∧p2 a∧p3 a:=⟨a,h1,h2,h3⟩
theorem eK {p1 p2:ta→Prop}{p3 p4:ta→tb→Prop}(a:ta)(h1:p1 a)(h2:p2 a)(b:tb)(h3:p3 a b)(h4:p4 a b):∃a,p1 a∧p2 a∧∃b,p3 a b∧p4 a b:=⟨a,h1,h2,b,h3,h4⟩
theorem bB {p1:ta→Prop}{p2 p3:ta→tb→Prop}(a:ta)(h1:p1 a)(b:tb)(h2:p2 a b)(h3:p3 a b):∃a,p1 a∧∃b,p2 a b∧p3 a b:=⟨a,h1,b,h2,h3⟩
theorem pE {p1:ta→Prop}{p2 p3 p4:ta→tb→Prop}(a:ta)(h1:p1 a)(b:tb)(h2:p2 a b)(h3:p3 a b)(h4:p4 a b):∃a,p1 a∧∃b,p2 a b∧p3 a b∧p4 a b:=⟨a,h1,b,h2,h3,h4⟩
theorem sC {p1:ta→Prop}{p2 p3 p4 p5:ta→tb→Prop}(a:ta)(h1:p1 a)(b:tb)(h2:p2 a b)(h3:p3 a b)(h4:p4 a b)(h5:p5 a b):∃a,p1 a∧∃b,p2 a b∧p3 a b∧p4 a b∧p5 a b:=⟨a,h1,b,h2,h3,h4,h5⟩
theorem bc {p1:ta→Prop}{p2:ta→tb→Prop}{p3 p4:ta→tb→tc→Prop}(a:ta)(h1:p1 a)(b:tb)(h2:p2 a b)(c:tc)(h3:p3 a b c)(h4:p4 a b c):∃a,p1 a∧∃b,p2 a b∧∃c,p3 a b c∧p4 a b c:=⟨a,h1,b,h2,c,h3,h4⟩
theorem Dt {p1:ta→Prop}{p2:ta→tb→Prop}{p3:ta→tb→tc→Prop}{p4:ta→tb→tc→td→Prop}{p5:ta→tb→tc→td→te→Prop}{p6:ta→tb→tc→td→te→tf→tg→Prop}(a:ta)(h1:p1 a)(b:tb)(h2:p2 a b)(c:tc)(h3:p3 a b c)(d:td)(h4:p4 a b c d)(e:te)(h5:p5 a b c d e)(f:tf)(g:tg)(h6:p6 a b c d e f g):∃a,p1 a∧∃b,p2 a b∧∃c,p3 a b c∧∃d,p4 a b c d∧∃e,p5 a b c d e∧∃f,∃g,p6 a b c d e f g:=⟨a,h1,b,h2,c,h3,d,h4,e,h5,f,g,h6⟩
theorem iW {p1:ta→Prop}{p2:ta→tb→Prop}{p3:ta→tb→tc→Prop}{p4 p5:ta→tb→tc→td→te→tf→Prop}(a:ta)(h1:p1 a)(b:tb)(h2:p2 a b)(c:tc)(h3:p3 a b c)(d:td)(e:te)(f:tf)(h4:p4 a b c d e f)(h5:p5 a b c d e f):∃a,p1 a∧∃b,p2 a b∧∃c,p3 a b c∧∃d,∃e,∃f,p4 a b c d e f∧p5 a b c d e f:=⟨a,h1,b,h2,c,h3,d,e,f,h4,h5⟩
theorem eV {p1:ta→Prop}{p2:ta→tb→Prop}{p3 p4 p5:ta→tb→tc→td→Prop}(a:ta)(h1:p1 a)(b:tb)(h2:p2 a b)(c:tc)(d:td)(h3:p3 a b c d)(h4:p4 a b c d)(h5:p5 a b c d):∃a,p1 a∧∃b,p2 a b∧∃c,∃d,p3 a b c d∧p4 a b c d∧p5 a b c d:=⟨a,h1,b,h2,c,d,h3,h4,h5⟩
theorem pF {p1:ta→Prop}{p2:ta→tb→Prop}{p3 p4 p5 p6 p7 p8:ta→tb→tc→td→te→tf→Prop}(a:ta)(h1:p1 a)(b:tb)(h2:p2 a b)(c:tc)(d:td)(e:te)(f:tf)(h3:p3 a b c d e f)(h4:p4 a b c d e f)(h5:p5 a b c d e f)(h6:p6 a b c d e f)(h7:p7 a b c d e f)(h8:p8 a b c d e f):∃a,p1 a∧∃b,p2 a b∧∃c,∃d,∃e,∃f,p3 a b c d e f∧p4 a b c d e f∧p5 a b c d e f∧p6 a b c d e f∧p7 a b c d e f∧p8 a b c d e f:=⟨a,h1,b,h2,c,d,e,f,h3,h4,h5,h6,h7,h8⟩
theorem iX {p1:ta→Prop}{p2:ta→tb→Prop}{p3 p4 p5 p6 p7 p8:ta→tb→tc→td→te→tf→tg→Prop}(a:ta)(h1:p1 a)(b:tb)(h2:p2 a b)(c:tc)(d:td)(e:te)(f:tf)(g:tg)(h3:p3 a b c d e f g)(h4:p4 a b c d e f g)(h5:p5 a b c d e f g)(h6:p6 a b c d e f g)(h7:p7 a b c d e f g)(h8:p8 a b c d e f g):∃a,p1 a∧∃b,p2 a b∧∃c,∃d,∃e,∃f,∃g,p3 a b c d e f g∧p4 a b c d e f g∧p5 a b c d e f g∧p6 a b c d e f g∧p7 a b c d e f g∧p8 a b c d e f g:=⟨a,h1,b,h2,c,d,e,f,g,h3,h4,h5,h6,h7,h8⟩
theorem fy {p1:ta→Prop}{p2:ta→tb→tc→Prop}(a:ta)(h1:p1 a)(b:tb)(c:tc)(h2:p2 a b c):∃a,p1 a∧∃b,∃c,p2 a b c:=⟨a,h1,b,c,h2⟩
theorem cv {p1:ta→Prop}{p2 p3 p4:ta→tb→tc→Prop}(a:ta)(h1:p1 a)(b:tb)(c:tc)(h2:p2 a b c)(h3:p3 a b c)(h4:p4 a b c):∃a,p1 a∧∃b,∃c,p2 a b c∧p3 a b c∧p4 a b c:=⟨a,h1,b,c,h2,h3,h4⟩
theorem d9 {p1:ta→Prop}{p2 p3 p4 p5:ta→tb→tc→Prop}(a:ta)(h1:p1 a)(b:tb)(c:tc)(h2:p2 a b c)(h3:p3 a b c)(h4:p4 a b c)(h5:p5 a b c):∃a,p1 a∧∃b,∃c,p2 a b c∧p3 a b c∧p4 a b c∧p5 a b c:=⟨a,h1,b,c,h2,h3,h4,h5⟩
theorem lu {p1:ta→Prop}{p2 p3:ta→tb→tc→Prop}{p4 p5:ta→tb→tc→td→Prop}(a:ta)(h1:p1 a)(b:tb)(c:tc)(h2:p2 a b c)(h3:p3 a b c)(d:td)(h4:p4 a b c d)(h5:p5 a b c d):∃a,p1 a∧∃b,∃c,p2 a b c∧p3 a b c∧∃d,p4 a b c d∧p5 a b c d:=⟨a,h1,b,c,h2,h3,d,h4,h5⟩
theorem cM {p1:ta→Prop}{p2 p3 p4 p5:ta→tb→tc→td→Prop}(a:ta)(h1:p1 a)(b:tb)(c:tc)(d:td)(h2:p2 a b c d)(h3:p3 a b c d)(h4:p4 a b c d)(h5:p5 a b c d):∃a,p1 a∧∃b,∃c,∃d,p2 a b c d∧p3 a b c d∧p4 a b c d∧p5 a b c d:=⟨a,h1,b,c,d,h2,h3,h4,h5⟩
theorem bO {p1:ta→Prop}{p2 p3 p4 p5 p6:ta→tb→tc→td→te→Prop}(a:ta)(h1:p1 a)(b:tb)(c:tc)(d:td)(e:te)(h2:p2 a b c d e)(h3:p3 a b c d e)(h4:p4 a b c d e)(h5:p5 a b c d e)(h6:p6 a b c d e):∃a,p1 a∧∃b,∃c,∃d,∃e,p2 a b c d e∧p3 a b c d e∧p4 a b c d e∧p5 a b c d e∧p6 a b c d e:=⟨a,h1,b,c,d,e,h2,h3,h4,h5,h6⟩
theorem gM {p1:ta→Prop}{p2 p3 p4 p5 p6 p7:ta→tb→tc→td→te→Prop}(a:ta)(h1:p1 a)(b:tb)(c:tc)(d:td)(e:te)(h2:p2 a b c d e)(h3:p3 a b c d e)(h4:p4 a b c d e)(h5:p5 a b c d e)(h6:p6 a b c d e)(h7:p7 a b c d e):∃a,p1 a∧∃b,∃c,∃d,∃e,p2 a b c d e∧p3 a b c d e∧p4 a b c d e∧p5 a b c d e∧p6 a b c d e∧p7 a b c d e:=⟨a,h1,b,c,d,e,h2,h3,h4,h5,h6,h7⟩
theorem fg {p1:ta→Prop}{p2 p3 p4 p5:ta→tb→tc→td→te→Prop}{p6 p7 p8:ta→tb→tc→td→te→tf→tg→Prop}(a:ta)(h1:p1 a)(b:tb)(c:tc)(d:td)(e:te)(h2:p2 a b c d e)(h3:p3 a b c d e)(h4:p4 a b c d e)(h5:p5 a b c d e)(f:tf)(g:tg)(h6:p6 a b c d e f g)(h7:p7 a b c d e f g)(h8:p8 a b c d e f g):∃a,p1 a∧∃b,∃c,∃d,∃e,p2 a b c d e∧p3 a b c d e∧p4 a b c d e∧p5 a b c d e∧∃f,∃g,p6 a b c d e f g∧p7 a b c d e f g∧p8 a b c d e f g:=⟨a,h1,b,c,d,e,h2,h3,h4,h5,f,g,h6,h7,h8⟩
theorem aM {p1:ta→Prop}{p2 p3 p4 p5 p6 p7:ta→tb→tc→td→te→tf→Prop}(a:ta)(h1:p1 a)(b:tb)(c:tc)(d:td)(e:te)(f:tf)(h2:p2 a b c d e f)(h3:p3 a b c d e f)(h4:p4 a b c d e f)(h5:p5 a b c d e f)(h6:p6 a b c d e f)(h7:p7 a b c d e f):∃a,p1 a∧∃b,∃c,∃d,∃e,∃f,p2 a b c d e f∧p3 a b c d e f∧p4 a b c d e f∧p5 a b c d e f∧p6 a b c d e f∧p7 a b c d e f:=⟨a,h1,b,c,d,e,f,h2,h3,h4,h5,h6,h7⟩
theorem ot {p1:ta→tb→Prop}(a:ta)(b:tb)(h1:p1 a b):∃a,∃b,p1 a b:=⟨a,b,h1⟩
theorem cI {p1 p2:ta→tb→Prop}(a:ta)(b:tb)(h1:p1 a b)(h2:p2 a b):∃a,∃b,p1 a b∧p2 a b:=⟨a,b,h1,h2⟩
theorem bT {p1 p2 p3:ta→tb→Prop}(a:ta)(b:tb)(h1:p1 a b)(h2:p2 a b)(h3:p3 a b):∃a,∃b,p1 a b∧p2 a b∧p3 a b:=⟨a,b,h1,h2,h3⟩
theorem bP {p1 p2 p3 p4:ta→tb→Prop}(a:ta)(b:tb)(h1:p1 a b)(h2:p2 a b)(h3:p3 a b)(h4:p4 a b):∃a,∃b,p1 a b∧p2 a b∧p3 a b∧p4 a b:=⟨a,b,h1,h2,h3,h4⟩
theorem jo {p1 p2 p3:ta→tb→Prop}{p4 p5 p6:ta→tb→tc→td→Prop}(a:ta)(b:tb)(h1:p1 a b)(h2:p2 a b)(h3:p3 a b)(c:tc)(d:td)(h4:p4 a b c d)(h5:p5 a b c d)(h6:p6 a b c d):∃a,∃b,p1 a b∧p2 a b∧p3 a b∧∃c,∃d,p4 a b c d∧p5 a b c d∧p6 a b c d:=⟨a,b,h1,h2,h3,c,d,h4,h5,h6⟩
theorem hJ {p1 p2 p3:ta→tb→tc→Prop}(a:ta)(b:tb)(c:tc)(h1:p1 a b c)(h2:p2 a b c)(h3:p3 a b c):∃a,∃b,∃c,p1 a b c∧p2 a b c∧p3 a b c:=⟨a,b,c,h1,h2,h3⟩
theorem bW {p1 p2 p3 p4:ta→tb→tc→Prop}(a:ta)(b:tb)(c:tc)(h1:p1 a b c)(h2:p2 a b c)(h3:p3 a b c)(h4:p4 a b c):∃a,∃b,∃c,p1 a b c∧p2 a b c∧p3 a b c∧p4 a b c:=⟨a,b,c,h1,h2,h3,h4⟩
theorem iY {p1 p2 p3 p4 p5:ta→tb→tc→Prop}(a:ta)(b:tb)(c:tc)(h1:p1 a b c)(h2:p2 a b c)(h3:p3 a b c)(h4:p4 a b c)(h5:p5 a b c):∃a,∃b,∃c,p1 a b c∧p2 a b c∧p3 a b c∧p4 a b c∧p5 a b c:=⟨a,b,c,h1,h2,h3,h4,h5⟩
theorem jY {p1 p2 p3 p4 p5:ta→tb→tc→td→Prop}(a:ta)(b:tb)(c:tc)(d:td)(h1:p1 a b c d)(h2:p2 a b c d)(h3:p3 a b c d)(h4:p4 a b c d)(h5:p5 a b c d):∃a,∃b,∃c,∃d,p1 a b c d∧p2 a b c d∧p3 a b c d∧p4 a b c d∧p5 a b c d:=⟨a,b,c,d,h1,h2,h3,h4,h5⟩
theorem jZ {p1 p2 p3 p4 p5 p6:ta→tb→tc→td→Prop}(a:ta)(b:tb)(c:tc)(d:td)(h1:p1 a b c d)(h2:p2 a b c d)(h3:p3 a b c d)(h4:p4 a b c d)(h5:p5 a b c d)(h6:p6 a b c d):∃a,∃b,∃c,∃d,p1 a b c d∧p2 a b c d∧p3 a b c d∧p4 a b c d∧p5 a b c d∧p6 a b c d:=⟨a,b,c,d,h1,h2,h3,h4,h5,h6⟩
theorem iG {p1 p2 p3 p4 p5 p6:ta→tb→tc→td→te→Prop}(a:ta)(b:tb)(c:tc)(d:td)(e:te)(h1:p1 a b c d e)(h2:p2 a b c d e)(h3:p3 a b c d e)(h4:p4 a b c d e)(h5:p5 a b c d e)(h6:p6 a b c d e):∃a,∃b,∃c,∃d,∃e,p1 a b c d e∧p2 a b c d e∧p3 a b c d e∧p4 a b c d e∧p5 a b c d e∧p6 a b c d e:=⟨a,b,c,d,e,h1,h2,h3,h4,h5,h6⟩
theorem jp {p1 p2 p3 p4 p5 p6 p7:ta→tb→tc→td→te→tf→Prop}(a:ta)(b:tb)(c:tc)(d:td)(e:te)(f:tf)(h1:p1 a b c d e f)(h2:p2 a b c d e f)(h3:p3 a b c d e f)(h4:p4 a b c d e f)(h5:p5 a b c d e f)(h6:p6 a b c d e f)(h7:p7 a b c d e f):∃a,∃b,∃c,∃d,∃e,∃f,p1 a b c d e f∧p2 a b c d e f∧p3 a b c d e f∧p4 a b c d e f∧p5 a b c d e f∧p6 a b c d e f∧p7 a b c d e f:=⟨a,b,c,d,e,f,h1,h2,h3,h4,h5,h6,h7⟩
theorem wA {p1:ta→tb→tc→td→te→tf→tg→th→Prop}(a:ta)(b:tb)(c:tc)(d:td)(e:te)(f:tf)(g:tg)(h:th)(h1:p1 a b c d e f g h):∃a,∃b,∃c,∃d,∃e,∃f,∃g,∃h,p1 a b c d e f g h:=⟨a,b,c,d,e,f,g,h,h1⟩
theorem ij {p1 p2 p3 p4:ta→tb→tc→td→te→tf→tg→th→ti→tj→tk→Prop}(a:ta)(b:tb)(c:tc)(d:td)(e:te)(f:tf)(g:tg)(h:th)(i:ti)(j:tj)(k:tk)(h1:p1 a b c d e f g h i j k)(h2:p2 a b c d e f g h i j k)(h3:p3 a b c d e f g h i j k)(h4:p4 a b c d e f g h i j k):∃a,∃b,∃c,∃d,∃e,∃f,∃g,∃h,∃i,∃j,∃k,p1 a b c d e f g h i j k∧p2 a b c d e f g h i j k∧p3 a b c d e f g h i j k∧p4 a b c d e f g h i j k:=⟨a,b,c,d,e,f,g,h,i,j,k,h1,h2,h3,h4⟩
end
section
namespace Lc
open Vbdeab (P A C M)
def C5 (f g:Nat×Nat):Nat×Nat:=(f.1*g.1%P,(g.1*f.2+g.2)%P)
def lz (f:Nat×Nat) (x:Nat):Nat:=(f.1*x+f.2)%P
def pw:Nat→Nat×Nat
 | 0=>(1,0)
 | n+1=>C5 (pw n) (A,C)
theorem C4:0<P:=by decide
theorem EA (f:Nat×Nat) (x:Nat):lz f x<P:=iZ _ C4
theorem FC (f g:Nat×Nat) (x:Nat):lz (C5 f g) x=lz g (lz f x):=by
 unfold lz C5
 simp only
 have e1:(f.1*g.1%P*x+(g.1*f.2+g.2)%P)%P=(f.1*g.1*x+(g.1*f.2+g.2))%P:=by
  rw [uv,uk,jN,uk,←jN,←uv]
 have e2:(g.1*((f.1*x+f.2)%P)+g.2)%P=(g.1*(f.1*x+f.2)+g.2)%P:=by
  rw [uv,jN,uk,←jN,←uv]
 rw [e1,e2]
 congr 1
 rw [wC,←wD,Nat.mul_comm g.1 f.1,ye]
theorem JO (f g h:Nat×Nat):C5 (C5 f g) h=C5 f (C5 g h):=by
 unfold C5
 simp only
 refine Prod.ext ?_ ?_
 ·show f.1*g.1%P*h.1%P=f.1*(g.1*h.1%P)%P
  rw [jN,uk,←jN,jN f.1,uk,←jN,wD]
 ·show(h.1*((g.1*f.2+g.2)%P)+h.2)%P=(g.1*h.1%P*f.2+(h.1*g.2+h.2)%P)%P
  have e1:(h.1*((g.1*f.2+g.2)%P)+h.2)%P=(h.1*(g.1*f.2+g.2)+h.2)%P:=by
   rw [uv,jN,uk,←jN,←uv]
  have e2:(g.1*h.1%P*f.2+(h.1*g.2+h.2)%P)%P=(g.1*h.1*f.2+(h.1*g.2+h.2))%P:=by
   rw [uv,uk,jN,uk,←jN,←uv]
  rw [e1,e2]
  congr 1
  rw [wC,←wD,Nat.mul_comm g.1 h.1,ye]
def Nr (f:Nat×Nat):Prop:=f.1<P∧f.2<P
theorem MD (f g:Nat×Nat):Nr (C5 f g):=⟨iZ _ C4,iZ _ C4⟩
theorem IK {f:Nat×Nat} (h:Nr f):C5 f (1,0)=f:=by
 unfold C5
 simp only [Nat.mul_one,ow,lP]
 rw [ra h.1,ra h.2]
theorem mv:∀n,Nr (pw n)
 | 0=>by unfold Nr pw;decide
 | n+1=>MD _ _
theorem oh (m:Nat):∀n,pw (m+n)=C5 (pw m) (pw n)
 | 0=>(IK (mv m)).symm
 | n+1=>by
  show C5 (pw (m+n)) (A,C)=C5 (pw m) (C5 (pw n) (A,C))
  rw [oh m n,JO]
theorem LX:pw 1=(A,C):=by decide+kernel
theorem GX:∀(f n:Nat),n<2 ^ f→Vbdeab.steps f n=pw n
 | 0,n,h=>by
  have:n=0:=by simpa using h
  subst this
  rfl
 | f+1,n,h=>by
  have ih:=GX f (n /2) (by rw [mO] at h;omega)
  have hd:(((pw (n /2)).1*(pw (n /2)).1%P,((pw (n /2)).1*(pw (n /2)).2+(pw (n /2)).2)%P):Nat×Nat)=pw (n /2+n /2):=by
   rw [oh]
   rfl
  unfold Vbdeab.steps
  simp only [ih]
  rw [hd]
  by_cases q:n%2=1
  ·rw [if_pos q]
   have e:n=(n /2+n /2)+1:=by omega
   conv=>rhs;rw [e]
   show _=C5 (pw (n /2+n /2)) (A,C)
   rw [←hd]
   unfold C5
   simp only
   rw [Nat.mul_comm A]
  ·rw [if_neg q]
   congr 1
   omega
theorem A9 {n:Nat} (h:n<P) (x:Nat):Vbdeab.skip n x=lz (pw n) x:=by
 unfold Vbdeab.skip
 rw [GX 64 n h]
 rfl
def sq:Nat→Nat×Nat
 | 0=>(A,C)
 | k+1=>C5 (sq k) (sq k)
theorem Jp:∀k,sq k=pw (2 ^ k)
 | 0=>LX.symm
 | k+1=>by
  show C5 (sq k) (sq k)=_
  rw [Jp k,←oh]
  congr 1
  rw [mO];omega
theorem P4:pw P=(1,0):=by
 have h:sq 64=(1,0):=by decide+kernel
 rw [Jp] at h
 exact h
theorem Jl:∀k,pw (P*k)=(1,0)
 | 0=>rfl
 | k+1=>by
  rw [Nat.mul_succ,oh,Jl k,P4]
  decide+kernel
theorem Om (n:Nat):pw (n%P)=pw n:=by
 have e:n=n%P+P*(n /P):=(Nat.mod_add_div n P).symm
 conv=>rhs;rw [e]
 rw [oh,Jl,IK (mv _)]
theorem Lu {a b l:Nat} (h:l%2=1):C5 (pw a) (pw b)=pw (a+b)∧a+b+(l /2)*(b+b)=a+l*b:=by
 refine⟨(oh a b).symm,?_⟩
 have e:l=2*(l /2)+1:=by omega
 conv=>rhs;rw [e]
 rw [Am,wC,Nat.mul_right_comm,ow]
 have:2*b*(l /2)=l /2*b+l /2*b:=by rw [wD,Nat.mul_comm b,Nat.two_mul]
 omega
theorem J5 {a b l:Nat} (h:l%2=0):a+(l /2)*(b+b)=a+l*b:=by
 have e:l=2*(l /2):=by omega
 conv=>rhs;rw [e]
 rw [wC,Nat.mul_right_comm]
 have:2*b*(l /2)=l /2*b+l /2*b:=by rw [wD,Nat.mul_comm b,Nat.two_mul]
 omega
theorem Ot:∀k,k<64→(sq k).1%2 ^ (k+1)=1%2 ^ (k+1)∧(sq k).2%2 ^ (k+1)=2 ^ k:=by decide+kernel
theorem Lr {k:Nat} (hk:k<64) (x:Nat):lz (sq k) x%2 ^ (k+1)=(x+2 ^ k)%2 ^ (k+1):=by
 obtain⟨h1,h2⟩:=Ot k hk
 have hp:P=2 ^ (k+1)*2 ^ (63 - k):=by
  rw [←Nat.pow_add]
  show 2 ^ 64=_
  congr 1
  omega
 unfold lz
 rw [hp,Nat.mod_mul_right_mod,uv,jN,h1,h2,←jN,ow,uv x]
 congr 2
 exact(ra (by rw [mO];have:=wE k;omega)).symm
theorem Lw {k x y:Nat} (h:x%2 ^ k=y%2 ^ k) (hn:x%2 ^ (k+1)≠y%2 ^ (k+1)):(x+2 ^ k)%2 ^ (k+1)=y%2 ^ (k+1):=by
 have hp:=wE k
 have e1:=Nat.mod_pow_succ (b:=2) (k:=k) (x:=x)
 have e2:=Nat.mod_pow_succ (b:=2) (k:=k) (x:=y)
 have b1:x /2 ^ k%2<2:=iZ _ (by decide)
 have b2:y /2 ^ k%2<2:=iZ _ (by decide)
 have r1:x%2 ^ k<2 ^ k:=iZ _ hp
 have r2:(x%2 ^ (k+1))<2 ^ (k+1):=iZ _ (wE _)
 have ps:2 ^ (k+1)=2 ^ k*2:=mO ..
 rw [uv]
 rw [ra (show 2 ^ k<2 ^ (k+1) by omega)]
 rcases (show x /2 ^ k%2=0∨x /2 ^ k%2=1 by omega) with q | q<;>rcases (show y /2 ^ k%2=0∨y /2 ^ k%2=1 by omega) with q' | q'<;>rw [q] at e1<;>rw [q'] at e2
 ·exact absurd (by omega) hn
 ·rw [ra (by omega)];omega
 ·rw [Nat.mod_eq_sub_mod (by omega),ra (by omega)];omega
 ·exact absurd (by omega) hn
theorem FH:∀(f k y:Nat),farFrom f k y y=0
 | 0,_,_=>rfl
 | f+1,k,y=>by
  unfold farFrom
  rw [if_pos rfl,FH f]
theorem NX {f k x y:Nat} (h:x%2 ^ (k+1)=y%2 ^ (k+1)):farFrom (f+1) k x y=farFrom f (k+1) x y:=by
 conv=>lhs;unfold farFrom
 rw [if_pos h]
theorem NZ {f k x y:Nat} (hk:k<64) (h:x%2 ^ (k+1)≠y%2 ^ (k+1)):farFrom (f+1) k x y=2 ^ k+farFrom f (k+1) (lz (sq k) x) y:=by
 conv=>lhs;unfold farFrom
 rw [if_neg h,A9 (show 2 ^ k<2 ^ 64 from CD (by decide) hk),←Jp]
theorem IJ {k x y:Nat} (h:x%2 ^ k=y%2 ^ k):x &&& 2 ^ k=y &&& 2 ^ k↔x%2 ^ (k+1)=y%2 ^ (k+1):=by
 have e1:=Nat.mod_pow_succ (b:=2) (k:=k) (x:=x)
 have e2:=Nat.mod_pow_succ (b:=2) (k:=k) (x:=y)
 have b1:∀z,z &&& 2 ^ k=2 ^ k*(z /2 ^ k%2):=fun z=>by
  apply Nat.eq_of_testBit_eq
  intro i
  rw [Nat.testBit_and,Nat.testBit_two_pow,Nat.testBit_two_pow_mul]
  by_cases hi:k=i
  ·subst hi
   simp [Nat.testBit,Nat.shiftRight_eq_div_pow]
  ·by_cases hik:k≤i
   ·have:(z /2 ^ k%2).testBit (i - k)=false:=by
     apply Nat.testBit_lt_two_pow
     have:2 ^ 1≤2 ^ (i - k):=Nat.pow_le_pow_right (by decide) (by omega)
     omega
    simp [hi,this]
   ·simp [hi,hik]
 have hp:=wE k
 rw [b1,b1,e1,e2,h]
 constructor
 ·intro q;rw [q]
 ·intro q;exact Nat.add_left_cancel q
theorem Nh {k x y:Nat} (hk:k<64) (h:x%2 ^ k=y%2 ^ k) (hn:x%2 ^ (k+1)≠y%2 ^ (k+1)):lz (sq k) x%2 ^ (k+1)=y%2 ^ (k+1):=by
 rw [Lr hk,Lw h hn]
theorem Bp:∀(f k x y:Nat),farFrom f k x y*1+2 ^ k≤2 ^ (k+f)
 | 0,k,x,y=>by
  unfold farFrom
  rw [lP,Nat.zero_mul,i3]
  exact bp _
 | f+1,k,x,y=>by
  have ih:=Bp f (k+1)
  have e:2 ^ (k+1)=2 ^ k+2 ^ k:=by rw [mO];omega
  have e2:k+(f+1)=k+1+f:=by omega
  unfold farFrom
  rw [e2]
  split
  ·have:=ih x y
   omega
  ·have:=ih (Vbdeab.skip (2 ^ k) x) y
   omega
theorem NY (x y:Nat):Vbdeab.far x y<P:=by
 have h:=Bp 64 0 x y
 unfold Vbdeab.far
 show _<2 ^ 64
 omega
theorem KZ {x y:Nat} (hx:x<P) (hy:y<P) (h:x%2 ^ 64=y%2 ^ 64):x=y:=by
 have e1:x%2 ^ 64=x:=ra hx
 have e2:y%2 ^ 64=y:=ra hy
 rw [e1,e2] at h
 exact h
end Lc
end
section
namespace Ch
open Vbdeab (M)
theorem sum_nil:Vbdeab.sum []=0:=rfl
theorem sum_cons (a:Nat) (l:List Nat):Vbdeab.sum (a::l)=a+Vbdeab.sum l:=rfl
theorem sum_append:∀(l r:List Nat),Vbdeab.sum (l++r)=Vbdeab.sum l+Vbdeab.sum r
 | [],r=>by rw [Hh,sum_nil,i3]
 | a::l,r=>by rw [G8,sum_cons,sum_cons,sum_append l r,ye]
theorem bw {α:Type} {l:List α} {i:Nat} {x:α} (h:l[i]?=some x):l.take (i+1)=l.take i++ [x]:=by
 rw [List.take_add_one,h]
 rfl
theorem yq {α:Type} {l:List α} {i:Nat} {x:α} (h:l[i]?=some x):l.drop i=x::l.drop (i+1):=by
 obtain⟨hi,e⟩:=cb.mp h
 rw [List.drop_eq_getElem_cons hi,e]
theorem eu {l:List Nat} {i x:Nat} (h:l[i]?=some x):Vbdeab.sum (l.take (i+1))=Vbdeab.sum (l.take i)+x:=by
 rw [bw h,sum_append]
 rfl
structure Em (ws:List Nat) (x i:Nat):Prop where
 lt:i<ws.length
 eq:place ws x 0=i+place (ws.drop i) x (Vbdeab.sum (ws.take i))
theorem Em.start {ws:List Nat} {x:Nat} (h:0<ws.length):Em ws x 0:=⟨h,by simp [sum_nil]⟩
theorem Em.stop {ws:List Nat} {x i:Nat} (s:Em ws x i) (h:x<M*Vbdeab.sum (ws.take (i+1))):place ws x 0=i:=by
 obtain⟨lt,eq⟩:=s
 have e:ws[i]?=some ws[i]:=bF lt
 rw [eq,yq e]
 unfold place
 rw [if_pos (by rw [eu e] at h;exact h)]
 all_goals rfl
theorem Em.next {ws:List Nat} {x i:Nat} (s:Em ws x i) (hx:x<M*Vbdeab.sum ws) (h:M*Vbdeab.sum (ws.take (i+1))≤x):Em ws x (i+1):=by
 obtain⟨lt,eq⟩:=s
 have e:ws[i]?=some ws[i]:=bF lt
 refine⟨?_,?_⟩
 ·rcases so (i+1) ws.length with q | q
  ·exact q
  ·rw [lv q] at h
   exact absurd hx (Nat.not_lt.mpr h)
 ·rw [eq,yq e]
  conv=>lhs;unfold place
  rw [if_neg (by rw [eu e] at h;exact Nat.not_lt.mpr h),eu e]
  omega
theorem Ja {ws:List Nat} {u:Nat} (hu:u<M) (hw:0<Vbdeab.sum ws):u*Vbdeab.sum ws<M*Vbdeab.sum ws:=Nat.mul_lt_mul_of_pos_right hu hw
theorem dA (s:Stream):Vbdeab.raws 0 s=(s,[]):=by rw [Vbdeab.raws]
theorem uK (n:Nat) (s:Stream):Vbdeab.raws (n+1) s=((Vbdeab.raws n (Vbdeab.raw s).1).1,(Vbdeab.raw s).2::(Vbdeab.raws n (Vbdeab.raw s).1).2):=by rw [Vbdeab.raws]
theorem fU:∀(n:Nat) (s:Stream),Vbdeab.raws (n+1) s=((Vbdeab.raw (Vbdeab.raws n s).1).1,(Vbdeab.raws n s).2++ [(Vbdeab.raw (Vbdeab.raws n s).1).2])
 | 0,s=>by rw [uK,dA,dA,Hh]
 | n+1,s=>by
  rw [uK (n+1),fU n (Vbdeab.raw s).1,uK n,G8]
theorem gC:∀(n:Nat) (s:Stream),(Vbdeab.raws n s).2.length=n
 | 0,s=>by rw [dA];exact List.length_nil
 | n+1,s=>by
  rw [uK,d5,gC n]
theorem vZ {s:Stream}:(Vbdeab.raw s).2<M:=by
 have h:Vbdeab.next s.state<Vbdeab.P:=iZ _ (by decide)
 have h2:Vbdeab.next s.state /M<M:=Nat.div_lt_of_lt_mul h
 have hM:0<M:=by decide
 unfold Vbdeab.raw Stream.number Vbdeab.out
 simp only
 generalize Vbdeab.next s.state /M=q at h2
 generalize M=m at*
 split<;>omega
theorem Eu (l:List Int) (i j:Nat):(exchange l i j).length=l.length:=by
 unfold exchange
 simp
theorem g9 (n:Nat):∀(us:List Nat) (i:Nat) (l:List Int),(shuffled n us i l).length=l.length
 | [],_,_=>rfl
 | u::r,i,l=>by
  unfold shuffled
  rw [g9 n r,Eu]
theorem vA (n u:Nat):∀(us:List Nat) (i:Nat) (l:List Int),shuffled n (us++ [u]) i l=exchange (shuffled n us i l) (i+us.length) (i+us.length+u*(n - (i+us.length)) /M)
 | [],i,l=>rfl
 | v::r,i,l=>by
  show shuffled n (r++ [u]) (i+1) _=_
  rw [vA n u r]
  have e:i+1+r.length=i+(v::r).length:=by rw [d5];omega
  rw [e]
  rfl
theorem Gj (n:Nat):(ramp n).length=n:=by
 unfold ramp
 simp
theorem LT {n i u:Nat} (hi:i<n) (hu:u<M):i+u*(n - i) /M<n:=by
 have h:u*(n - i) /M<n - i:=Nat.div_lt_of_lt_mul (Nat.mul_lt_mul_of_pos_right hu (by omega))
 omega
end Ch
end
section
namespace Fr
open Vbdeab (Q mkQ)
theorem MH {n:Int} {d:Nat} (h:0<d):0<Nat.gcd n.natAbs d:=Hj _ h
theorem xc {n:Int} {d:Nat} (h:0<d):∃g:Nat,0<g∧n=(mkQ n d).num*(g:Int)∧d=(mkQ n d).den*g∧Nat.gcd (mkQ n d).num.natAbs (mkQ n d).den=1:=by
 have hg:=MH (n:=n) h
 refine⟨Nat.gcd n.natAbs d,hg,?_,?_,?_⟩
 ·show n=n /(Nat.gcd n.natAbs d:Nat)*_
  rw [Int.ediv_mul_cancel]
  exact Int.ofNat_dvd_left.mpr (vF _ _)
 ·show d=d /Nat.gcd n.natAbs d*_
  rw [Nat.div_mul_cancel (jg _ _)]
 ·show Nat.gcd (n /(Nat.gcd n.natAbs d:Nat)).natAbs (d /Nat.gcd n.natAbs d)=1
  rw [Int.natAbs_ediv_of_dvd (Int.ofNat_dvd_left.mpr (vF _ _)),kh]
  exact Nat.coprime_div_gcd_div_gcd hg
theorem sV {n:Int} {d:Nat} (h:0<d):0<(mkQ n d).den:=by
 obtain⟨g,hg,_,e,_⟩:=xc (n:=n) h
 rcases Ei (mkQ n d).den with q | q
 ·rw [q,Nat.zero_mul] at e
  omega
 ·exact q
theorem HD {a c:Int} {b d:Nat} (hb:0<b) (hd:0<d) (h1:Nat.gcd a.natAbs b=1) (h2:Nat.gcd c.natAbs d=1) (e:a*(d:Int)=c*(b:Int)):a=c∧b=d:=by
 have e1:a.natAbs*d=c.natAbs*b:=by
  have:=cx Int.natAbs e
  rwa [Int.natAbs_mul,Int.natAbs_mul,kh,kh] at this
 have d1:b∣d:=by
  have:b∣a.natAbs*d:=by rw [e1];exact Nat.dvd_mul_left b c.natAbs
  exact Nat.Coprime.dvd_of_dvd_mul_left (Nat.Coprime.symm h1) this
 have d2:d∣b:=by
  have:d∣c.natAbs*b:=by rw [←e1];exact Nat.dvd_mul_left d a.natAbs
  exact Nat.Coprime.dvd_of_dvd_mul_left (Nat.Coprime.symm h2) this
 have eb:b=d:=Hi d1 d2
 subst eb
 exact⟨Int.eq_of_mul_eq_mul_right (by omega) e,rfl⟩
theorem DS {a c:Int} {b d:Nat} (hb:0<b) (hd:0<d) (e:a*(d:Int)=c*(b:Int)):mkQ a b=mkQ c d:=by
 obtain⟨g,hg,ea,eb,l1⟩:=xc (n:=a) hb
 obtain⟨k,hk,ec,ed,l2⟩:=xc (n:=c) hd
 have hx:(mkQ a b).num*((mkQ c d).den:Int)=(mkQ c d).num*((mkQ a b).den:Int):=by
  have e2:((mkQ a b).num*(g:Int))*(((mkQ c d).den*k:Nat):Int)=((mkQ c d).num*(k:Int))*(((mkQ a b).den*g:Nat):Int):=by rw [←ea,←ed,←ec,←eb];exact e
  rw [b7,b7] at e2
  have e3:((mkQ a b).num*((mkQ c d).den:Int))*((g:Int)*(k:Int))=((mkQ c d).num*((mkQ a b).den:Int))*((g:Int)*(k:Int)):=by
   have l:(mkQ a b).num*(g:Int)*(((mkQ c d).den:Int)*(k:Int))=((mkQ a b).num*((mkQ c d).den:Int))*((g:Int)*(k:Int)):=by
    simp only [nU,pH,pG]
   have r:(mkQ c d).num*(k:Int)*(((mkQ a b).den:Int)*(g:Int))=((mkQ c d).num*((mkQ a b).den:Int))*((g:Int)*(k:Int)):=by
    simp only [nU,pH,pG]
   rw [←l,←r]
   exact e2
  refine Int.eq_of_mul_eq_mul_right ?_ e3
  have:=ou hg hk
  rw [←b7]
  omega
 obtain⟨e1,e2⟩:=HD (sV hb) (sV hd) l1 l2 hx
 have ext:∀x y:Q,x.num=y.num→x.den=y.den→x=y:=fun x y h1 h2=>by cases x;cases y;simp only at h1 h2;subst h1;subst h2;rfl
 exact ext _ _ e1 e2
structure Is (q:Q) (n:Int) (d:Nat):Prop where
 dpos:0<d
 pos:0<q.den
 low:Nat.gcd q.num.natAbs q.den=1
 val:q.num*(d:Int)=n*(q.den:Int)
theorem Is.eq {q:Q} {n:Int} {d:Nat} (h:Is q n d):q=mkQ n d:=by
 have e:mkQ q.num q.den=q:=by
  have g1:Nat.gcd q.num.natAbs q.den=1:=h.low
  unfold Vbdeab.mkQ
  rw [g1,Nat.div_one]
  simp
 rw [←e]
 exact DS h.pos h.dpos h.val
theorem Is.mk' {n:Int} {d:Nat} (h:0<d):Is (mkQ n d) n d:=by
 obtain⟨g,hg,e1,e2,l⟩:=xc (n:=n) h
 refine⟨h,sV h,l,?_⟩
 have:(mkQ n d).num*(((mkQ n d).den*g:Nat):Int)=((mkQ n d).num*(g:Int))*((mkQ n d).den:Int):=by
  rw [b7]
  simp only [nU,pH,pG]
 rw [←e1,←e2] at this
 exact this
theorem Is.conv {q:Q} {n m:Int} {d e:Nat} (h:Is q n d) (he:0<e) (x:n*(e:Int)=m*(d:Int)):Is q m e:=by
 rw [h.eq,DS h.dpos he x]
 exact Is.mk' he
theorem Is.add {a b:Q} {n m:Int} {d e:Nat} (h:Is a n d) (k:Is b m e):Is (a.add b) (n*(e:Int)+m*(d:Int)) (d*e):=by
 refine(Is.mk' (ou h.pos k.pos)).conv (ou h.dpos k.dpos) ?_
 have h1:=h.val
 have k1:=k.val
 rw [b7,b7,Int.add_mul,Int.add_mul]
 have e1:a.num*(b.den:Int)*((d:Int)*(e:Int))=n*(e:Int)*((a.den:Int)*(b.den:Int)):=by
  have:a.num*(b.den:Int)*((d:Int)*(e:Int))=(a.num*(d:Int))*((b.den:Int)*(e:Int)):=by simp only [nU,pH,pG]
  rw [this,h1]
  simp only [nU,pH,pG]
 have e2:b.num*(a.den:Int)*((d:Int)*(e:Int))=m*(d:Int)*((a.den:Int)*(b.den:Int)):=by
  have:b.num*(a.den:Int)*((d:Int)*(e:Int))=(b.num*(e:Int))*((a.den:Int)*(d:Int)):=by simp only [nU,pH,pG]
  rw [this,k1]
  simp only [nU,pH,pG]
 rw [e1,e2]
theorem Is.mul {a b:Q} {n m:Int} {d e:Nat} (h:Is a n d) (k:Is b m e):Is (a.mul b) (n*m) (d*e):=by
 refine(Is.mk' (ou h.pos k.pos)).conv (ou h.dpos k.dpos) ?_
 have h1:=h.val
 have k1:=k.val
 rw [b7,b7]
 have:a.num*b.num*((d:Int)*(e:Int))=(a.num*(d:Int))*(b.num*(e:Int)):=by simp only [nU,pH,pG]
 rw [this,h1,k1]
 simp only [nU,pH,pG]
theorem Is.neg {a:Q} {n:Int} {d:Nat} (h:Is a n d):Is a.neg (-n) d:=
 ⟨h.dpos,h.pos,by show Nat.gcd (-a.num).natAbs a.den=1;rw [Int.natAbs_neg];exact h.low,by show -a.num*(d:Int)= -n*(a.den:Int);rw [Int.neg_mul,Int.neg_mul,h.val]⟩
theorem Ls {a b c d x y:Int} (hx:0<x) (hy:0<y) (e:a*x=c*y) (f:b*x=d*y):a≤b↔c≤d:=by
 constructor
 ·intro h
  have:c*y≤d*y:=by rw [←e,←f];exact vD h (fF hx)
  exact G7 this hy
 ·intro h
  have:a*x≤b*x:=by rw [e,f];exact vD h (fF hy)
  exact G7 this hx
theorem Is.le_iff {a b:Q} {n m:Int} {d e:Nat} (h:Is a n d) (k:Is b m e):a.le b=true↔n*(e:Int)≤m*(d:Int):=by
 unfold Vbdeab.Q.le
 rw [fz]
 have h1:=h.val
 have k1:=k.val
 refine Ls (x:=(d:Int)*(e:Int)) (y:=(a.den:Int)*(b.den:Int)) ?_ ?_ ?_ ?_
 ·have:=ou h.dpos k.dpos
  rw [←b7];omega
 ·have:=ou h.pos k.pos
  rw [←b7];omega
 ·have:a.num*(b.den:Int)*((d:Int)*(e:Int))=(a.num*(d:Int))*((b.den:Int)*(e:Int)):=by simp only [nU,pH,pG]
  rw [this,h1]
  simp only [nU,pH,pG]
 ·have:b.num*(a.den:Int)*((d:Int)*(e:Int))=(b.num*(e:Int))*((a.den:Int)*(d:Int)):=by simp only [nU,pH,pG]
  rw [this,k1]
  simp only [nU,pH,pG]
theorem Ny (a b:Q):a.lt b= !(b.le a):=by
 unfold Vbdeab.Q.lt Vbdeab.Q.le
 by_cases h:b.num*(a.den:Int)≤a.num*(b.den:Int)
 ·rw [aE h,bq (by omega)];rfl
 ·rw [bq h,aE (by omega)];rfl
theorem Is.lt_iff {a b:Q} {n m:Int} {d e:Nat} (h:Is a n d) (k:Is b m e):a.lt b=true↔n*(e:Int)<m*(d:Int):=by
 have z:=k.le_iff h
 rw [Ny]
 by_cases q:b.le a=true
 ·rw [q]
  have:=z.mp q
  simp only [Bool.not_true,Bool.false_eq_true,false_iff]
  omega
 ·have q':¬m*(d:Int)≤n*(e:Int):=fun y=>q (z.mpr y)
  simp only [q,Bool.not_eq_true',true_iff]
  simp only [Bool.not_eq_true] at q
  simp [q]
  omega
end Fr
namespace Hv
open Vbdeab (firstAt countGood)
structure Dv (p:Nat→Bool) (lo hi r:Nat):Prop where
 ge:lo≤r
 le:r≤hi
 no:∀i,lo≤i→i<r→p i=false
 yes:∀i,r≤i→i<hi→p i=true
theorem Dv.unique {p:Nat→Bool} {lo hi r s:Nat} (a:Dv p lo hi r) (b:Dv p lo hi s):r=s:=by
 rcases CC r s with q | q | q
 ·have h1:=a.yes r (bp _) (gO q b.le)
  have h2:=b.no r a.ge q
  rw [h1] at h2;cases h2
 ·exact q
 ·have h1:=b.yes s (bp _) (gO q a.le)
  have h2:=a.no s b.ge q
  rw [h1] at h2;cases h2
theorem pT {p:Nat→Bool}:∀(f lo hi:Nat),lo≤hi→hi - lo<2 ^ f→(∀i j,lo≤i→i≤j→j<hi→p i=true→p j=true)→Dv p lo hi (firstAt p f lo hi)
 | 0,lo,hi,h,hf,_=>by
  have:lo=hi:=by simp at hf;omega
  subst this
  exact⟨bp _,bp _,fun i h1 h2=>by unfold firstAt at h2;omega,fun i h1 h2=>by unfold firstAt at h1;omega⟩
 | f+1,lo,hi,h,hf,mono=>by
  rw [mO] at hf
  unfold firstAt
  by_cases q:lo<hi
  ·rw [if_pos q]
   by_cases pm:p ((lo+hi) /2)=true
   ·rw [if_pos pm]
    have ih:=pT f lo ((lo+hi) /2) (by omega) (by omega) fun i j a b c d=>mono i j a b (by omega) d
    refine⟨ih.ge,by have:=ih.le;omega,ih.no,fun i h1 h2=> ?_⟩
    rcases so i ((lo+hi) /2) with z | z
    ·exact ih.yes i h1 z
    ·exact mono _ i (by omega) z h2 pm
   ·rw [if_neg pm]
    have ih:=pT f ((lo+hi) /2+1) hi (by omega) (by omega) fun i j a b c d=>mono i j (by omega) b c d
    refine⟨by have:=ih.ge;omega,ih.le,fun i h1 h2=> ?_,ih.yes⟩
    rcases so ((lo+hi) /2) i with z | z
    ·exact ih.no i z h2
    ·cases e:p i with
     | false=>rfl
     | true=>exact absurd (mono i _ h1 z (by omega) e) pm
  ·rw [if_neg q]
   have:lo=hi:=by omega
   subst this
   exact⟨bp _,bp _,fun i h1 h2=>by omega,fun i h1 h2=>by omega⟩
end Hv
end
section
namespace Cb
open Vbdeab (ways choose addRows spread throws)
theorem ya:∀n,(ways n).length=n+1
 | 0=>rfl
 | n+1=>by
  unfold ways
  rw [List.length_zipWith,d5,bX,ya n]
  simp
theorem choose_zero:∀n,choose n 0=1
 | 0=>rfl
 | n+1=>by
  have ih:=choose_zero n
  unfold choose at ih⊢
  unfold ways
  have hl:=ya n
  match e:ways n,hl with
  | a::r,_=>
   rw [e] at ih
   simp at ih⊢
   exact ih
theorem choose_succ (n i:Nat):choose (n+1) (i+1)=choose n i+choose n (i+1):=by
 unfold choose
 conv=>lhs;unfold ways
 simp only [eX,List.getElem?_zipWith,List.getElem?_cons_succ]
 have hl:=ya n
 rcases CC (i+1) (n+1) with q | q | q
 ·rw [nV (by omega),bF (show i<(ways n).length by omega),bF (show i+1<(ways n).length by omega)]
  rfl
 ·rw [nW (by omega),bF (show i<(ways n).length by omega),ut (show(ways n).length≤i+1 by omega)]
  have:i+1 - (ways n).length=0:=by omega
  rw [this]
  rfl
 ·rw [ut (show(ways n).length≤i by omega),ut (show(ways n).length≤i+1 by omega)]
  rfl
theorem JM:∀(n i:Nat),n<i→choose n i=0:=fun n i h=>by
 unfold choose
 rw [eX,ut (by rw [ya];omega)]
 rfl
theorem choose_zero_succ (i:Nat):choose 0 (i+1)=0:=JM 0 (i+1) (by omega)
theorem choose_step:∀(n i:Nat),(i+1)*choose n (i+1)+i*choose n i=n*choose n i
 | 0,i=>by
  rw [choose_zero_succ]
  cases i with
  | zero=>rfl
  | succ j=>rw [choose_zero_succ];simp
 | n+1,0=>by
  have ih:=choose_step n 0
  rw [choose_zero] at ih
  rw [choose_succ,choose_zero,choose_zero]
  omega
 | n+1,i+1=>by
  have h1:=choose_step n i
  have h2:=choose_step n (i+1)
  rw [choose_succ n (i+1),choose_succ n i]
  generalize choose n i=a at*
  generalize choose n (i+1)=b at*
  generalize choose n (i+1+1)=c at*
  have e1:(i+1+1)*(b+c)+(i+1)*(a+b)=((i+1+1)*c+(i+1)*b)+((i+1)*b+i*a)+(a+b):=by
   simp only [Am,wC,ow]
   omega
  rw [e1,h1,h2]
  simp only [Am,wC,ow]
  omega
theorem IH:∀(l r:List Nat) (i:Nat),(addRows l r).getD i 0=l.getD i 0+r.getD i 0
 | [],r,i=>by
  unfold addRows
  simp
 | a::l,[],i=>by
  unfold addRows
  simp
 | a::l,b::r,0=>by
  unfold addRows
  simp
 | a::l,b::r,i+1=>by
  have ih:=IH l r i
  unfold addRows
  simp only [eX,List.getElem?_cons_succ] at ih⊢
  exact ih
theorem En:∀(l r:List Nat),(addRows l r).length=max l.length r.length
 | [],r=>by unfold addRows;simp
 | a::l,[]=>by unfold addRows;simp
 | a::l,b::r=>by
  unfold addRows
  rw [d5,En l r,d5,d5]
  omega
theorem Ad (l:List Nat):spread l 0= []:=by rw [spread]
theorem ug (l:List Nat) (s:Nat):spread l (s+1)=addRows l (0::spread l s):=by rw [spread]
theorem spread_len {l:List Nat} (hl:0<l.length):∀s,(spread l (s+1)).length=l.length+s
 | 0=>by
  rw [ug,Ad,En,List.length_singleton]
  omega
 | s+1=>by
  rw [ug,En,d5,spread_len hl s]
  omega
theorem spread_get (l:List Nat):∀(s i:Nat),(spread l s).getD i 0=((List.range s).map fun j=>if j≤i then l.getD (i - j) 0 else 0).sum
 | 0,i=>by rw [Ad];rfl
 | s+1,i=>by
  rw [ug,IH,JC,eY,Al]
  rw [if_pos (bn i),Nat.sub_zero]
  congr 1
  cases i with
  | zero=>
   rw [fo]
   show(0:Nat)=_
   have:∀k:List Nat,(k.map ((fun j=>if j≤0 then l.getD (0 - j) 0 else 0)∘Nat.succ)).sum=0:=fun k=>by
    induction k with
    | nil=>rfl
    | cons a r ih=>rw [eY,Al,ih];simp
   exact(this _).symm
  | succ i=>
   have ih:=spread_get l s i
   show(spread l s).getD i 0=_
   rw [ih,fo]
   congr 1
   refine nX fun j _=> ?_
   show(if j≤i then _ else _)=if j+1≤i+1 then _ else _
   by_cases q:j≤i
   ·rw [if_pos q,if_pos (by omega)]
    congr 1
    omega
   ·rw [if_neg q,if_neg (by omega)]
theorem throws_zero (s:Nat):throws s 0= [1]:=by rw [throws]
theorem throws_succ (s n:Nat):throws s (n+1)=spread (throws s n) s:=by rw [throws]
theorem throws_len (s:Nat):∀n,(throws (s+1) n).length=n*s+1
 | 0=>by rw [throws_zero];simp
 | n+1=>by
  rw [throws_succ,spread_len (by rw [throws_len s n];omega),throws_len s n,Am]
  omega
end Cb
end
section
namespace Fr
open Vbdeab (Q mkQ)
structure Iz (q:Q) (n d:Int):Prop where
 dpos:0<d
 pos:0<q.den
 low:Nat.gcd q.num.natAbs q.den=1
 val:q.num*d=n*(q.den:Int)
theorem Iz.is {q:Q} {n d:Int} (h:Iz q n d):Is q n d.toNat:=
 ⟨by have:=h.dpos;omega,h.pos,h.low,by rw [cC (fF h.dpos)];exact h.val⟩
theorem Is.iz {q:Q} {n:Int} {d:Nat} (h:Is q n d):Iz q n (d:Int):=⟨by have:=h.dpos;omega,h.pos,h.low,h.val⟩
theorem Is.iz' {q:Q} {n d:Int} {e:Nat} (h:Is q n e) (x:(e:Int)=d):Iz q n d:=by
 subst x
 exact h.iz
theorem Iz.eq {q:Q} {n d:Int} (h:Iz q n d):q=mkQ n d.toNat:=h.is.eq
theorem Iz.mk' {n d:Int} (h:0<d):Iz (mkQ n d.toNat) n d:=(Is.mk' (n:=n) (d:=d.toNat) (by omega)).iz' (cC (fF h))
theorem Iz.conv {q:Q} {n m d e:Int} (h:Iz q n d) (he:0<e) (x:n*e=m*d):Iz q m e:=by
 refine(h.is.conv (e:=e.toNat) (m:=m) (by omega) ?_).iz' (cC (fF he))
 rw [cC (fF he),cC (fF h.dpos)]
 exact x
theorem Iz.unique {a b:Q} {n m d e:Int} (h:Iz a n d) (k:Iz b m e) (x:n*e=m*d):a=b:=by
 rw [(h.conv k.dpos x).eq,k.eq]
theorem Iz.self {q:Q} (p:0<q.den) (l:Nat.gcd q.num.natAbs q.den=1):Iz q q.num (q.den:Int):=⟨by omega,p,l,rfl⟩
theorem Iz.add {a b:Q} {n m d e:Int} (h:Iz a n d) (k:Iz b m e):Iz (a.add b) (n*e+m*d) (d*e):=by
 have z:=h.is.add k.is
 rw [cC (fF h.dpos),cC (fF k.dpos)] at z
 exact z.iz' (by rw [b7,cC (fF h.dpos),cC (fF k.dpos)])
theorem Iz.mul {a b:Q} {n m d e:Int} (h:Iz a n d) (k:Iz b m e):Iz (a.mul b) (n*m) (d*e):=by
 have z:=h.is.mul k.is
 exact z.iz' (by rw [b7,cC (fF h.dpos),cC (fF k.dpos)])
theorem Iz.neg {a:Q} {n d:Int} (h:Iz a n d):Iz a.neg (-n) d:=by
 have z:=h.is.neg
 exact z.iz' (cC (fF h.dpos))
theorem Iz.sub {a b:Q} {n m d e:Int} (h:Iz a n d) (k:Iz b m e):Iz (a.sub b) (n*e - m*d) (d*e):=by
 have z:=h.add k.neg
 rw [Int.neg_mul,←Int.sub_eq_add_neg] at z
 exact z
theorem Iz.le_iff {a b:Q} {n m d e:Int} (h:Iz a n d) (k:Iz b m e):a.le b=true↔n*e≤m*d:=by
 have z:=h.is.le_iff k.is
 rw [cC (fF h.dpos),cC (fF k.dpos)] at z
 exact z
theorem Iz.lt_iff {a b:Q} {n m d e:Int} (h:Iz a n d) (k:Iz b m e):a.lt b=true↔n*e<m*d:=by
 have z:=h.is.lt_iff k.is
 rw [cC (fF h.dpos),cC (fF k.dpos)] at z
 exact z
theorem Iz.ofInt (z:Int):Iz (Vbdeab.ofInt z) z 1:=⟨by decide,by show 0<1;decide,by show Nat.gcd _ 1=1;exact Nat.gcd_one_right _,rfl⟩
theorem Iz.ofNat (n:Nat):Iz (Vbdeab.ofNat n) (n:Int) 1:=Iz.ofInt (n:Int)
theorem Iz.half:Iz ⟨1,2⟩ 1 2:=⟨by decide,by decide,by decide,by decide⟩
theorem Iz.third:Iz ⟨1,3⟩ 1 3:=⟨by decide,by decide,by decide,by decide⟩
theorem Iz.zero {d:Int} (h:0<d):Iz (Vbdeab.ofNat 0) 0 d:=(Iz.ofNat 0).conv h (by simp)
theorem Iz.divNat {a:Q} {n d:Int} (h:Iz a n d) {w:Nat} (hw:0<w):Iz (a.div (Vbdeab.ofNat w)) n (d*w):=by
 have e:a.div (Vbdeab.ofNat w)=mkQ a.num (a.den*w):=by
  unfold Vbdeab.Q.div
  have e1:(Vbdeab.ofNat w).num=(w:Int):=rfl
  have e2:(Vbdeab.ofNat w).den=1:=rfl
  rw [e1,e2,if_neg (by omega)]
  simp
 rw [e]
 have z:=(Is.mk' (n:=a.num) (d:=a.den*w) (ou h.pos hw)).iz
 refine z.conv (eW h.dpos (by omega)) ?_
 have v:=h.val
 rw [b7]
 grind
theorem Iz.divPos {a b:Q} {n m d e:Int} (h:Iz a n d) (k:Iz b m e) (hm:0<m):Iz (a.div b) (n*e) (d*m):=by
 have hb:0<b.num:=by
  have v:=k.val
  have p1:0<m*(b.den:Int):=eW hm (by have:=k.pos;omega)
  rw [←v] at p1
  exact Int.pos_of_mul_pos_left p1 k.dpos |>fun z=>z
 have e0:a.div b=mkQ (a.num*(b.den:Int)) (a.den*b.num.natAbs):=by
  unfold Vbdeab.Q.div
  rw [if_neg (by omega),Int.mul_one]
 rw [e0]
 have z:=(Is.mk' (n:=a.num*(b.den:Int)) (d:=a.den*b.num.natAbs) (ou h.pos (by omega))).iz
 refine z.conv (eW h.dpos hm) ?_
 have v1:=h.val
 have v2:=k.val
 have e3:((b.num.natAbs:Nat):Int)=b.num:=by omega
 rw [b7,e3]
 grind
open Vbdeab (Class)
def lowQ (q:Q):Prop:=0<q.den∧Nat.gcd q.num.natAbs q.den=1
theorem Iz.lowQ {q:Q} {n d:Int} (h:Iz q n d):lowQ q:=⟨h.pos,h.low⟩
theorem lowQ.iz {q:Q} (h:Fr.lowQ q):Iz q q.num (q.den:Int):= .self h.1 h.2
def su (x y:Q):Int:=(x.den:Int)*((y.den /Nat.gcd x.den y.den:Nat):Int)
def Db (x:Q) (b:Int):Int:=x.num*(b /(x.den:Int))
theorem oF {x y:Q} (hx:lowQ x) (hy:lowQ y):0<su x y:=by
 have h1:=hx.1
 have h2:0<y.den /Nat.gcd x.den y.den:=Nat.div_pos (Nat.le_of_dvd hy.1 (jg _ _)) (Nat.gcd_pos_of_pos_left _ hx.1)
 unfold su
 exact eW (by omega) (by omega)
theorem DI (x y:Q):(x.den:Int)∣su x y:=⟨_,rfl⟩
theorem Bk (x y:Q):(y.den:Int)∣su x y:=by
 unfold su
 obtain⟨k,hk⟩:=vF x.den y.den
 obtain⟨j,hj⟩:=jg x.den y.den
 rcases Ei (Nat.gcd x.den y.den) with q | q
 ·rw [q] at hk hj
  simp at hk hj
  rw [hk,hj]
  exact⟨0,rfl⟩
 ·refine⟨(k:Int),?_⟩
  have e:y.den /Nat.gcd x.den y.den=j:=Nat.div_eq_of_eq_mul_right q hj
  rw [e]
  generalize Nat.gcd x.den y.den=g at*
  rw [hk,hj,b7,b7]
  grind
theorem A6 {x:Q} {b:Int} (hx:lowQ x) (hb:0<b) (hd:(x.den:Int)∣b):Iz x (Db x b) b:=by
 obtain⟨k,rfl⟩:=hd
 have hp:(0:Int)<x.den:=by have:=hx.1;omega
 refine hx.iz.conv hb ?_
 unfold Db
 rw [CG _ (by omega)]
 grind
def cB:Class→Int
 | .line x y=>su x y
 | .comb x s _=>su x s
def cO:Class→Int
 | .line x y=>Db x (su x y)
 | .comb x s _=>Db x (su x s)
def cR:Class→Int
 | .line x y=>Db y (su x y) - Db x (su x y)
 | .comb x s _=>Db s (su x s)
def jX:Class→Prop
 | .line x y=>lowQ x∧lowQ y
 | .comb x s n=>lowQ x∧lowQ s∧1≤n
theorem mi {c:Class} (h:jX c):0<cB c:=by
 cases c with
 | line x y=>exact oF h.1 h.2
 | comb x s n=>exact oF h.1 h.2.1
theorem qc {x y:Q} (h:jX (.line x y)):Iz x (cO (.line x y)) (cB (.line x y)):=A6 h.1 (oF h.1 h.2) (DI _ _)
theorem sS {x y:Q} (h:jX (.line x y)):Iz y (cO (.line x y)+cR (.line x y)) (cB (.line x y)):=by
 have z:=A6 h.2 (oF h.1 h.2) (Bk x y)
 have e:Db y (su x y)=cO (.line x y)+cR (.line x y):=by unfold cO cR;simp only;omega
 rw [e] at z
 exact z
theorem Bm {x s:Q} {n:Nat} (h:jX (.comb x s n)):Iz x (cO (.comb x s n)) (cB (.comb x s n)):=A6 h.1 (oF h.1 h.2.1) (DI _ _)
theorem vJ {x s:Q} {n:Nat} (h:jX (.comb x s n)):Iz s (cR (.comb x s n)) (cB (.comb x s n)):=A6 h.2.1 (oF h.1 h.2.1) (Bk _ _)
theorem x8 {x s:Q} {n:Nat} (h:jX (.comb x s n)) (i:Nat):Iz (tooth x s i) (cO (.comb x s n)+cR (.comb x s n)*(i:Int)) (cB (.comb x s n)):=by
 have z:=(Bm h).add ((vJ h).mul (Iz.ofNat i))
 refine z.conv (mi h) ?_
 grind
theorem Nq:(0:Int)<(Vbdeab.M:Int):=by decide
def KL (c:Class) (t span:Int):Int:=match c with
 | .line x y=>cO (.line x y)*span+cR (.line x y)*t
 | .comb x s n=>cO (.comb x s n)+cR (.comb x s n)*(t*n /span)
def NP (c:Class) (span:Int):Int:=match c with
 | .line x y=>cB (.line x y)*span
 | .comb x s n=>cB (.comb x s n)
theorem sK {c:Class} (h:jX c) {w:Nat} (hw:0<w) (t:Nat):Iz (along w c t) (KL c t ((Vbdeab.M:Int)*w)) (NP c ((Vbdeab.M:Int)*w)):=by
 have hs:(0:Int)<(Vbdeab.M:Int)*w:=eW Nq (by omega)
 cases c with
 | line x y=>
  have z:=(qc h).add (((sS h).sub (qc h)).mul ((Is.mk' (n:=(t:Int)) (d:=Vbdeab.M*w) (ou (by decide) hw)).iz))
  refine z.conv (eW (mi h) hs) ?_
  rw [b7]
  unfold KL NP
  simp only
  generalize (Vbdeab.M:Int)*(w:Int)=sp
  generalize cO (.line x y)=o
  generalize cR (.line x y)=r
  generalize cB (.line x y)=b
  grind
 | comb x s n=>
  have z:=x8 h (t*n /(Vbdeab.M*w))
  rw [CI,b7,b7] at z
  exact z
def Fq:Class→Int
 | .line x y=>2*cO (.line x y)+cR (.line x y)
 | .comb x s n=>2*cO (.comb x s n)+cR (.comb x s n)*((n:Int) - 1)
def tX:Class→Int
 | .line x y=>6*cO (.line x y)*(cO (.line x y)+cR (.line x y))+2*cR (.line x y)*cR (.line x y)
 | .comb x s n=>6*cO (.comb x s n)*(cO (.comb x s n)+cR (.comb x s n)*((n:Int) - 1))+cR (.comb x s n)*(cR (.comb x s n)*((n:Int) - 1))*(2*(n:Int) - 1)
theorem MQ {c:Class} (h:jX c):Iz c.mean (Fq c) (2*cB c):=by
 have hb:=mi h
 cases c with
 | line x y=>
  have z:=((qc h).add (sS h)).mul Iz.half
  refine z.conv (by omega) ?_
  unfold Fq
  simp only
  generalize cO (.line x y)=o
  generalize cR (.line x y)=r
  generalize cB (.line x y)=b
  grind
 | comb x s n=>
  have z:=(Bm h).add ((vJ h).mul ((Is.mk' (n:=(n:Int) - 1) (d:=2) (by decide)).iz))
  refine z.conv (by omega) ?_
  unfold Fq
  simp only
  generalize cO (.comb x s n)=o
  generalize cR (.comb x s n)=r
  generalize cB (.comb x s n)=b
  grind
theorem Kv {c:Class} (h:jX c):Iz c.square (tX c) (6*(cB c*cB c)):=by
 have hb:=mi h
 have hb2:=eW hb hb
 cases c with
 | line x y=>
  have z:=(((qc h).mul (qc h)).add (((qc h).mul (sS h)).add ((sS h).mul (sS h)))).mul Iz.third
  refine z.conv (by omega) ?_
  unfold tX
  simp only
  generalize cO (.line x y)=o
  generalize cR (.line x y)=r
  generalize cB (.line x y)=b
  grind
 | comb x s n=>
  have z:=((Bm h).mul (Bm h)).add ((((Bm h).mul (vJ h)).mul (Iz.ofInt ((n:Int) - 1))).add (((vJ h).mul (vJ h)).mul ((Is.mk' (n:=((n:Int) - 1)*(2*(n:Int) - 1)) (d:=6) (by decide)).iz)))
  refine z.conv (by omega) ?_
  unfold tX
  simp only
  generalize cO (.comb x s n)=o
  generalize cR (.comb x s n)=r
  generalize cB (.comb x s n)=b
  grind
end Fr
end
section
namespace Fr
open Vbdeab (Q mkQ Class Dist)
def Pp (f:Class→Q) (d:Dist):Q:=d.foldr (fun c a=>((Vbdeab.ofNat c.1).mul (f c.2)).add a) (Vbdeab.ofNat 0)
theorem G5 (f:Class→Q) (d:Dist):weighted f d=(Pp f d).div (Vbdeab.ofNat (total d)):=rfl
def ie (num den:Class→Int) (b:Int):Dist→Int
 | []=>0
 | c::r=>(if 0<c.1 then(c.1:Int)*num c.2*(b /den c.2) else 0)+ie num den b r
theorem lX (num den:Class→Int) (b:Int) (c:Nat×Class) (r:Dist):ie num den b (c::r)=(if 0<c.1 then(c.1:Int)*num c.2*(b /den c.2) else 0)+ie num den b r:=rfl
theorem Jw {f:Class→Q} {num den:Class→Int} {k b:Int} (hk:0<k) (hb:0<b):∀{d:Dist},(∀c∈d,jX c.2)→(∀c∈d,Iz (f c.2) (num c.2) (k*den c.2)∧0<den c.2)→(∀c∈d,0<c.1→den c.2∣b)→Iz (Pp f d) (ie num den b d) (k*b)
 | [],_,_,_=>Iz.zero (eW hk hb)
 | c::r,hl,hf,hd=>by
  have ih:=Jw (f:=f) (num:=num) (den:=den) hk hb (d:=r) (fun c hc=>hl c (dU _ hc)) (fun c hc=>hf c (dU _ hc)) (fun c hc=>hd c (dU _ hc))
  obtain⟨h1,h2⟩:=hf c fB
  have z:=((Iz.ofNat c.1).mul h1).add ih
  refine z.conv (eW hk hb) ?_
  rw [lX]
  by_cases q:0<c.1
  ·obtain⟨j,hj⟩:=hd c fB q
   rw [if_pos q]
   have e:b /den c.2=j:=by rw [hj];exact CG _ (by omega)
   rw [e]
   clear z ih hl hf hd h1
   generalize ie num den b r=s
   generalize num c.2=nn
   generalize den c.2=dd at*
   clear e
   subst hj
   grind
  ·have q0:(c.1:Int)=0:=by omega
   rw [if_neg q,q0]
   grind
theorem ui {f:Class→Q} {num den:Class→Int} {k b:Int} (hk:0<k) (hb:0<b) {d:Dist} (hl:∀c∈d,jX c.2) (hf:∀c∈d,Iz (f c.2) (num c.2) (k*den c.2)∧0<den c.2) (hd:∀c∈d,0<c.1→den c.2∣b) (hw:0<total d):
  Iz (weighted f d) (ie num den b d) (k*b*(total d:Nat)):=by
 rw [G5]
 exact(Jw hk hb hl hf hd).divNat hw
theorem Jb {b:Int} (hb:0<b) {d:Dist} (hl:∀c∈d,jX c.2) (hd:∀c∈d,0<c.1→cB c.2∣b) (hw:0<total d):Iz (Vbdeab.mean d) (ie Fq cB b d) (2*b*(total d:Nat)):=
 ui (by decide) hb hl (fun c hc=>⟨MQ (hl c hc),mi (hl c hc)⟩) hd hw
def K5 (c:Class):Int:=cB c*cB c
theorem O9 {b:Int} (hb:0<b) {d:Dist} (hl:∀c∈d,jX c.2) (hd:∀c∈d,0<c.1→cB c.2∣b) (hw:0<total d):Iz (weighted Class.square d) (ie tX K5 (b*b) d) (6*(b*b)*(total d:Nat)):=
 ui (by decide) (eW hb hb) hl (fun c hc=>⟨Kv (hl c hc),eW (mi (hl c hc)) (mi (hl c hc))⟩) (fun c hc q=>by
  obtain⟨j,e⟩:=hd c hc q
  exact⟨j*j,by rw [e];unfold K5;grind⟩) hw
theorem OA {b:Int} (hb:0<b) {d:Dist} (hl:∀c∈d,jX c.2) (hd:∀c∈d,0<c.1→cB c.2∣b) (hw:0<total d):
  Iz (variance d) (2*(total d:Nat)*ie tX K5 (b*b) d - 3*ie Fq cB b d*ie Fq cB b d) (12*(total d:Nat)*(total d:Nat)*b*b):=by
 have m:=Jb hb hl hd hw
 have s:=O9 hb hl hd hw
 have z:=s.sub (m.mul m)
 have hW:(0:Int)<(total d:Nat):=by omega
 refine z.conv (eW (eW (eW (eW (by decide) hW) hW) hb) hb) ?_
 generalize ie tX K5 (b*b) d=x
 generalize ie Fq cB b d=y
 generalize ((total d:Nat):Int)=W at*
 grind
structure Mw (bN:Int) (fs:Int) (left bottom:Int):Prop where
 bpos:0<bottom
 fpos:0<fs
 eq:bN*bottom=left*fs
 low:Nat.gcd left.natAbs bottom.natAbs=1
theorem Mw.start (bN:Int):Mw bN 1 bN 1:=⟨by decide,by decide,rfl,by simp⟩
theorem FI {a b:Nat} (h:0<b):Nat.gcd (a /Nat.gcd a b) (b /Nat.gcd a b)=1:=by
 have hg:0<Nat.gcd a b:=Hj _ h
 rw [Nat.gcd_div (vF _ _) (jg _ _),Nat.div_self hg]
theorem Bx {a:Int} {g:Nat} (h:(g:Int)∣a) (hg:0<g):(a /(g:Int)).natAbs=a.natAbs /g:=by
 obtain⟨k,rfl⟩:=h
 rw [CG _ (by omega),Int.natAbs_mul,kh,Nat.mul_div_cancel_left _ hg]
theorem er (a:Int) (b:Nat):((Nat.gcd a.natAbs b:Nat):Int)∣a:=Ah.mp (by rw [kh];exact vF _ _)
theorem Mw.step {bN fs left bottom f:Int} (h:Mw bN fs left bottom) (hf:0<f):Mw bN (fs*f) (left /((Nat.gcd left.natAbs f.toNat:Nat):Int)) (bottom*(f /((Nat.gcd left.natAbs f.toNat:Nat):Int))):=by
 obtain⟨F,rfl⟩:∃F:Nat,f=(F:Int):=⟨f.toNat,by omega⟩
 have hF:0<F:=by omega
 rw [cT]
 have hg:0<Nat.gcd left.natAbs F:=Hj _ hF
 have d1:=er left F
 have d2:((Nat.gcd left.natAbs F:Nat):Int)∣(F:Int):=CJ.mpr (jg _ _)
 have hq:0<F /Nat.gcd left.natAbs F:=Nat.div_pos (Nat.le_of_dvd hF (jg _ _)) hg
 have e2:(F:Int) /((Nat.gcd left.natAbs F:Nat):Int)=((F /Nat.gcd left.natAbs F:Nat):Int):=(CI _ _).symm
 refine⟨eW h.bpos (by rw [e2];omega),eW h.fpos hf,?_,?_⟩
 ·obtain⟨a,ha⟩:=d1
  obtain⟨b,hb⟩:=d2
  have h1:left /((Nat.gcd left.natAbs F:Nat):Int)=a:=by
   conv=>lhs;lhs;rw [ha]
   exact CG _ (by omega)
  have h2:(F:Int) /((Nat.gcd left.natAbs F:Nat):Int)=b:=by
   conv=>lhs;lhs;rw [hb]
   exact CG _ (by omega)
  rw [h1,h2]
  have e:=h.eq
  generalize ((Nat.gcd left.natAbs F:Nat):Int)=g at*
  grind
 ·have c1:Nat.gcd (left /((Nat.gcd left.natAbs F:Nat):Int)).natAbs (F /Nat.gcd left.natAbs F)=1:=by
   rw [Bx d1 hg]
   exact FI hF
  have c2:Nat.gcd (left /((Nat.gcd left.natAbs F:Nat):Int)).natAbs bottom.natAbs=1:=by
   rw [Bx d1 hg]
   have:left.natAbs /Nat.gcd left.natAbs F∣left.natAbs:=Nat.div_dvd_of_dvd (vF _ _)
   exact Nat.Coprime.coprime_dvd_left this h.low
  rw [e2,Int.natAbs_mul,kh]
  exact Nat.Coprime.mul_right c2 c1
theorem Mw.iz {bN fs left bottom:Int} (h:Mw bN fs left bottom):Iz ⟨left,bottom.toNat⟩ bN fs:=by
 have hb:=h.bpos
 refine⟨h.fpos,by show 0<bottom.toNat;omega,?_,?_⟩
 ·show Nat.gcd left.natAbs bottom.toNat=1
  have e:bottom.toNat=bottom.natAbs:=by omega
  rw [e]
  exact h.low
 ·show left*fs=bN*((bottom.toNat:Nat):Int)
  rw [cC (fF hb)]
  exact h.eq.symm
theorem le_antisymm {a b:Q} (ha:lowQ a) (hb:lowQ b) (h1:a.le b=true) (h2:b.le a=true):a=b:=by
 have z1:=(ha.iz.le_iff hb.iz).mp h1
 have z2:=(hb.iz.le_iff ha.iz).mp h2
 exact ha.iz.unique hb.iz (Int.le_antisymm z1 z2)
theorem le_refl (a:Q):a.le a=true:=by unfold Vbdeab.Q.le;simp
theorem FP (a b:Q):a.le b=true∨b.le a=true:=by
 unfold Vbdeab.Q.le
 simp only [fz]
 omega
theorem le_trans {a b c:Q} (ha:lowQ a) (hb:lowQ b) (hc:lowQ c) (h1:a.le b=true) (h2:b.le c=true):a.le c=true:=by
 have z1:=(ha.iz.le_iff hb.iz).mp h1
 have z2:=(hb.iz.le_iff hc.iz).mp h2
 refine(ha.iz.le_iff hc.iz).mpr ?_
 have p1:(0:Int)<a.den:=by have:=ha.1;omega
 have p2:(0:Int)<b.den:=by have:=hb.1;omega
 have p3:(0:Int)<c.den:=by have:=hc.1;omega
 have y1:a.num*(b.den:Int)*(c.den:Int)≤b.num*(a.den:Int)*(c.den:Int):=vD z1 (fF p3)
 have y2:b.num*(c.den:Int)*(a.den:Int)≤c.num*(b.den:Int)*(a.den:Int):=vD z2 (fF p1)
 refine G7 (a:=(b.den:Int)) ?_ p2
 have e1:a.num*(c.den:Int)*(b.den:Int)=a.num*(b.den:Int)*(c.den:Int):=by grind
 have e2:c.num*(a.den:Int)*(b.den:Int)=c.num*(b.den:Int)*(a.den:Int):=by grind
 have e3:b.num*(a.den:Int)*(c.den:Int)=b.num*(c.den:Int)*(a.den:Int):=by grind
 omega
structure jt (l:List Q) (q:Q):Prop where
 mem:q∈l
 le:∀z∈l,q.le z=true
structure md (l:List Q) (q:Q):Prop where
 mem:q∈l
 le:∀z∈l,z.le q=true
theorem jt.unique {l:List Q} {a b:Q} (hl:∀z∈l,lowQ z) (h:jt l a) (k:jt l b):a=b:=le_antisymm (hl _ h.mem) (hl _ k.mem) (h.le _ k.mem) (k.le _ h.mem)
theorem md.unique {l:List Q} {a b:Q} (hl:∀z∈l,lowQ z) (h:md l a) (k:md l b):a=b:=le_antisymm (hl _ h.mem) (hl _ k.mem) (k.le _ h.mem) (h.le _ k.mem)
theorem HC (a b:Q):jt [a,b] (a.least b):=by
 unfold Vbdeab.Q.least
 by_cases h:a.le b=true
 ·rw [if_pos h]
  exact⟨by simp,fun z hz=>by rcases cF.mp hz with rfl | hz;exact le_refl _;rw [gN] at hz;rw [hz];exact h⟩
 ·rw [if_neg h]
  have h':b.le a=true:=(FP a b).resolve_left h
  exact⟨by simp,fun z hz=>by rcases cF.mp hz with rfl | hz;exact h';rw [gN] at hz;rw [hz];exact le_refl _⟩
theorem Lz (a b:Q):md [a,b] (a.most b):=by
 unfold Vbdeab.Q.most
 by_cases h:a.le b=true
 ·rw [if_pos h]
  exact⟨by simp,fun z hz=>by rcases cF.mp hz with rfl | hz;exact h;rw [gN] at hz;rw [hz];exact le_refl _⟩
 ·rw [if_neg h]
  have h':b.le a=true:=(FP a b).resolve_left h
  exact⟨by simp,fun z hz=>by rcases cF.mp hz with rfl | hz;exact le_refl _;rw [gN] at hz;rw [hz];exact h'⟩
theorem EB {l r:List Q} {a b:Q} (hl:∀z∈l++r,lowQ z) (h:jt l a) (k:jt r b):jt (l++r) (a.least b):=by
 have la:=hl a (CO _ h.mem)
 have lb:=hl b (sj _ k.mem)
 have z:=HC a b
 have lm:lowQ (a.least b):=by
  rcases cF.mp z.mem with e | e
  ·rw [e];exact la
  ·rw [gN] at e;rw [e];exact lb
 refine⟨?_,fun y hy=> ?_⟩
 ·rcases cF.mp z.mem with e | e
  ·rw [e];exact CO _ h.mem
  ·rw [gN] at e;rw [e];exact sj _ k.mem
 ·rcases jO.mp hy with q | q
  ·exact le_trans lm la (hl y hy) (z.le a (by simp)) (h.le y q)
  ·exact le_trans lm lb (hl y hy) (z.le b (by simp)) (k.le y q)
theorem FU {l r:List Q} {a b:Q} (hl:∀z∈l++r,lowQ z) (h:md l a) (k:md r b):md (l++r) (a.most b):=by
 have la:=hl a (CO _ h.mem)
 have lb:=hl b (sj _ k.mem)
 have z:=Lz a b
 have lm:lowQ (a.most b):=by
  rcases cF.mp z.mem with e | e
  ·rw [e];exact la
  ·rw [gN] at e;rw [e];exact lb
 refine⟨?_,fun y hy=> ?_⟩
 ·rcases cF.mp z.mem with e | e
  ·rw [e];exact CO _ h.mem
  ·rw [gN] at e;rw [e];exact sj _ k.mem
 ·rcases jO.mp hy with q | q
  ·exact le_trans (hl y hy) la lm (h.le y q) (z.le a (by simp))
  ·exact le_trans (hl y hy) lb lm (k.le y q) (z.le b (by simp))
def Ao:Class→Q
 | .line _ y=>y
 | .comb x s n=>tooth x s (n - 1)
def rH:Class→Q
 | .line x _=>x
 | .comb x _ _=>x
def iN (d:Dist):List Q:=d.flatMap fun c=> [rH c.2,Ao c.2]
theorem zL (c:Class):c.least=(rH c).least (Ao c):=by cases c<;>rfl
theorem Bi (c:Class):c.most=(rH c).most (Ao c):=by cases c<;>rfl
theorem MG {c:Class} (h:jX c):lowQ (Ao c):=by
 cases c with
 | line x y=>exact h.2
 | comb x s n=>exact(x8 h (n - 1)).lowQ
theorem LC {c:Class} (h:jX c):lowQ (rH c):=by
 cases c with
 | line x y=>exact h.1
 | comb x s n=>exact h.1
theorem Bo {d:Dist} (h:∀c∈d,jX c.2):∀z∈iN d,lowQ z:=fun z hz=>by
 obtain⟨c,hc,e⟩:=List.mem_flatMap.mp hz
 rcases cF.mp e with e | e
 ·rw [e];exact LC (h c hc)
 ·rw [gN] at e
  rw [e];exact MG (h c hc)
theorem Bh:∀{d:Dist},d≠ []→(∀c∈d,jX c.2)→jt (iN d) (bestOf Q.least (d.map fun c=>c.2.least))
 | [],h,_=>absurd rfl h
 | [c],_,h=>by
  show jt ([rH c.2,Ao c.2]++ []) c.2.least
  rw [vE,zL]
  exact HC _ _
 | c::e::r,_,h=>by
  have ih:=Bh (d:=e::r) (by simp) fun c hc=>h c (dU _ hc)
  show jt ([rH c.2,Ao c.2]++iN (e::r)) (c.2.least.least _)
  refine EB (Bo (d:=c::e::r) h) ?_ ih
  rw [zL]
  exact HC _ _
theorem Dz:∀{d:Dist},d≠ []→(∀c∈d,jX c.2)→md (iN d) (bestOf Q.most (d.map fun c=>c.2.most))
 | [],h,_=>absurd rfl h
 | [c],_,h=>by
  show md ([rH c.2,Ao c.2]++ []) c.2.most
  rw [vE,Bi]
  exact Lz _ _
 | c::e::r,_,h=>by
  have ih:=Dz (d:=e::r) (by simp) fun c hc=>h c (dU _ hc)
  show md ([rH c.2,Ao c.2]++iN (e::r)) (c.2.most.most _)
  refine FU (Bo (d:=c::e::r) h) ?_ ih
  rw [Bi]
  exact Lz _ _
end Fr
end
section
namespace Hv
open Vbdeab (firstAt countGood)
theorem ft {good:Nat→Bool} {lo hi r:Nat} (hf:hi - lo<2 ^ 64) (F:Dv (fun i=> !good i) lo hi r):countGood good true lo hi=r - lo:=by
 unfold countGood
 rw [if_pos rfl]
 have z:=pT (p:=fun i=> !good i) 64 lo hi (fQ F.ge F.le) hf fun i j h1 h2 h3 h4=>by
  rcases so i r with q | q
  ·have:=F.no i h1 q
   rw [this] at h4;cases h4
  ·exact F.yes j (by omega) h3
 rw [z.unique F]
theorem jv {good:Nat→Bool} {lo hi r:Nat} (hf:hi - lo<2 ^ 64) (F:Dv good lo hi r):countGood good false lo hi=hi - r:=by
 unfold countGood
 rw [if_neg (by decide)]
 have z:=pT (p:=good) 64 lo hi (fQ F.ge F.le) hf fun i j h1 h2 h3 h4=>by
  rcases so i r with q | q
  ·have:=F.no i h1 q
   rw [this] at h4;cases h4
  ·exact F.yes j (by omega) h3
 rw [z.unique F]
def NM (g:Nat→Bool) (rising:Bool) (lo hi:Nat):Prop:=∀i j,lo≤i→i≤j→j<hi→if rising=true then(g j=true→g i=true) else(g i=true→g j=true)
theorem count_same {g:Nat→Bool} {rising:Bool} {lo hi:Nat} (hm:NM g rising lo hi) (hlt:lo<hi) (hf:hi - lo<2 ^ 64) (e:g lo=g (hi - 1)):countGood g rising lo hi=if g lo=true then hi - lo else 0:=by
 cases rising with
 | true=>
  cases h:g lo with
  | true=>
   rw [if_pos rfl,ft hf (r:=hi) ⟨by omega,bp _,fun i h1 h2=> ?_,fun i h1 h2=>by omega⟩]
   have z:=hm i (hi - 1) h1 (by omega) (by omega)
   rw [if_pos rfl] at z
   show(!g i)=false
   rw [z (by rw [←e];exact h)]
   rfl
  | false=>
   rw [if_neg (by decide),ft hf (r:=lo) ⟨by omega,by omega,fun i h1 h2=>by omega,fun i h1 h2=> ?_⟩,ul]
   have z:=hm lo i (by omega) h1 h2
   rw [if_pos rfl] at z
   show(!g i)=true
   cases q:g i with
   | true=>rw [z q] at h;cases h
   | false=>rfl
 | false=>
  cases h:g lo with
  | true=>
   rw [if_pos rfl,jv hf (r:=lo) ⟨by omega,by omega,fun i h1 h2=>by omega,fun i h1 h2=> ?_⟩]
   have z:=hm lo i (by omega) h1 h2
   rw [if_neg (by decide)] at z
   exact z h
  | false=>
   rw [if_neg (by decide),jv hf (r:=hi) ⟨by omega,bp _,fun i h1 h2=> ?_,fun i h1 h2=>by omega⟩,ul]
   have z:=hm i (hi - 1) h1 (by omega) (by omega)
   rw [if_neg (by decide)] at z
   cases q:g i with
   | true=>rw [←e,h] at z;exact absurd (z q) (by decide)
   | false=>rfl
theorem count_turn {g:Nat→Bool} {rising:Bool} {lo hi m:Nat} (hm:NM g rising lo hi) (h1:lo≤m) (h2:m+1<hi) (hf:hi - lo<2 ^ 64) (e1:g m=g lo) (e2:g (m+1)= !g lo):countGood g rising lo hi=if g lo=true then m+1 - lo else hi - (m+1):=by
 cases rising with
 | true=>
  cases h:g lo with
  | true=>
   rw [h] at e1 e2
   rw [if_pos rfl,ft hf (r:=m+1) ⟨by omega,by omega,fun i a b=> ?_,fun i a b=> ?_⟩]
   ·have z:=hm i m a (by omega) (by omega)
    rw [if_pos rfl] at z
    show(!g i)=false
    rw [z e1]
    rfl
   ·have z:=hm (m+1) i (by omega) a b
    rw [if_pos rfl] at z
    show(!g i)=true
    cases q:g i with
    | true=>rw [z q] at e2;cases e2
    | false=>rfl
  | false=>
   rw [h] at e1 e2
   have z:=hm m (m+1) h1 (by omega) h2
   rw [if_pos rfl] at z
   rw [z e2] at e1
   cases e1
 | false=>
  cases h:g lo with
  | true=>
   rw [h] at e1 e2
   have z:=hm m (m+1) h1 (by omega) h2
   rw [if_neg (by decide)] at z
   rw [z e1] at e2
   cases e2
  | false=>
   rw [h] at e1 e2
   rw [if_neg (by decide),jv hf (r:=m+1) ⟨by omega,by omega,fun i a b=> ?_,fun i a b=> ?_⟩]
   ·have z:=hm i m a (by omega) (by omega)
    rw [if_neg (by decide)] at z
    cases q:g i with
    | true=>rw [z q] at e1;cases e1
    | false=>rfl
   ·have z:=hm (m+1) i (by omega) a b
    rw [if_neg (by decide)] at z
    exact z e2
end Hv
namespace Fr
open Vbdeab (Q mkQ Class Dist)
open Hv
def m6 (b:Bool):Int:=if b=true then 1 else 0
theorem Ef {strict:Bool} {a v:Q} {n d p q:Int} (ha:Iz a n d) (hv:Iz v p q):Vbdeab.under strict a v=true↔n*q+m6 strict≤p*d:=by
 unfold Vbdeab.under m6
 cases strict with
 | true=>
  rw [if_pos rfl,if_pos rfl,ha.lt_iff hv]
  omega
 | false=>
  rw [if_neg (by decide),if_neg (by decide),ha.le_iff hv]
  omega
theorem CA {strict:Bool} {a b v:Q} (ha:lowQ a) (hb:lowQ b) (hv:lowQ v) (h:a.le b=true) (k:Vbdeab.under strict b v=true):Vbdeab.under strict a v=true:=by
 unfold Vbdeab.under at k⊢
 cases strict with
 | true=>
  rw [if_pos rfl] at k⊢
  rw [Ny] at k⊢
  cases q:v.le a with
  | false=>rfl
  | true=>
   rw [le_trans hv ha hb q h] at k
   cases k
 | false=>
  rw [if_neg (by decide)] at k⊢
  exact le_trans ha hb hv h k
theorem GH {q:Q} {n d:Int} (h:Iz q n d):0≤q.num↔0≤n:=by
 have v:=h.val
 have p1:(0:Int)<q.den:=by have:=h.pos;omega
 constructor
 ·intro z
  have:0≤n*(q.den:Int):=by rw [←v];exact Int.mul_nonneg z (fF h.dpos)
  exact Mq this p1
 ·intro z
  have:0≤q.num*d:=by rw [v];exact Int.mul_nonneg z (fF p1)
  exact Mq this h.dpos
def f9 (a m:Int):Int:=if a<0 then 0 else if m<a then m else a
def oV (r room step n:Int):Int:=if r=0 then(if 0≤room then n else 0) else if 0<r then room /step+1 else n+room /step
theorem G1 {x s:Q} {n:Nat} (h:jX (.comb x s n)) (hn:n<2 ^ 64) {v:Q} {p q:Int} (hv:Iz v p q) (strict:Bool):
  ((Vbdeab.countGood (fun i=>Vbdeab.under strict (tooth x s i) v) (decide (0≤s.num)) 0 n:Nat):Int)=
    f9 (oV (cR (.comb x s n)) (p*cB (.comb x s n) - cO (.comb x s n)*q - m6 strict) ((if cR (.comb x s n)<0 then - cR (.comb x s n) else cR (.comb x s n))*q) n) n:=by
 have sg:=GH (vJ h)
 have good:∀i:Nat,Vbdeab.under strict (tooth x s i) v=true↔cR (.comb x s n)*q*i≤p*cB (.comb x s n) - cO (.comb x s n)*q - m6 strict:=fun i=>by
  rw [Ef (x8 h i) hv]
  have:(cO (.comb x s n)+cR (.comb x s n)*i)*q=cO (.comb x s n)*q+cR (.comb x s n)*q*i:=by grind
  omega
 generalize cR (.comb x s n)=r at*
 generalize hroom:p*cB (.comb x s n) - cO (.comb x s n)*q - m6 strict=room at*
 have hq:=hv.dpos
 have dec:decide (0≤s.num)=decide (0≤r):=by
  by_cases z:0≤r
  ·rw [aE z,aE (sg.mpr z)]
  ·rw [bq z,bq fun y=>z (sg.mp y)]
 rw [dec]
 have notg:∀i:Nat,¬(r*q*i≤room)→(Vbdeab.under strict (tooth x s i) v)=false:=fun i z=>by
  cases e:Vbdeab.under strict (tooth x s i) v with
  | false=>rfl
  | true=>exact absurd ((good i).mp e) z
 rcases Int.lt_trichotomy r 0 with hr | hr | hr
 ·
  rw [bq (by omega)]
  have hst:0< -r*q:=eW (by omega) hq
  have hf:(if r<0 then -r else r)= -r:=if_pos hr
  rw [hf]
  have hre:oV r room (-r*q) n=n+room /(-r*q):=by unfold oV;rw [if_neg (by omega),if_neg (by omega)]
  rw [hre]
  unfold f9
  generalize hs: -r*q=step at*
  have good':∀i:Nat,r*q*i= -(step*i):=fun i=>by rw [←hs];grind
  have hd:=Int.ediv_mul_le room (show step≠0 by omega)
  have hd2:=JA room hst
  generalize hD:room /step=D at*
  have crit:∀i:Nat,r*q*i≤room↔-D≤i:=fun i=>by
   rw [good' i]
   constructor
   ·intro z
    refine Int.not_lt.mp fun y=> ?_
    have y1:(i:Int)+1≤-D:=by omega
    have:step*((i:Int)+1)≤step*(-D):=CH y1 (fF hst)
    have e1:step*((i:Int)+1)=step*i+step:=by grind
    have e2:step*(-D)= -(D*step):=by grind
    have e3:(D+1)*step=D*step+step:=by grind
    omega
   ·intro z
    have:step*(-D)≤step*i:=CH z (fF hst)
    have e2:step*(-D)= -(D*step):=by grind
    omega
  let k:Nat:=if (-D)<0 then 0 else if (n:Int)< -D then n else(-D).toNat
  have hk:k≤n:=by show(if (-D)<0 then 0 else if (n:Int)< -D then n else(-D).toNat)≤n;split;omega;split<;>omega
  rw [jv (r:=k) (by omega) ⟨by omega,hk,fun i _ h2=>notg i fun z=> ?_,fun i h1 h2=>(good i).mpr ((crit i).mpr ?_)⟩]
  ·show((n - (if (-D)<0 then 0 else if (n:Int)< -D then n else(-D).toNat):Nat):Int)=_
   repeat' split
   all_goals omega
  ·have z':=(crit i).mp z
   have h2':i<(if (-D)<0 then 0 else if (n:Int)< -D then n else(-D).toNat):=h2
   revert h2'
   repeat' split
   all_goals omega
  ·have h1':(if (-D)<0 then 0 else if (n:Int)< -D then n else(-D).toNat)≤i:=h1
   revert h1'
   repeat' split
   all_goals omega
 ·
  subst hr
  rw [aE (by omega)]
  have hre:∀st,oV 0 room st n=if 0≤room then(n:Int) else 0:=fun st=>by unfold oV;rw [if_pos rfl]
  rw [hre]
  unfold f9
  by_cases z:0≤room
  ·rw [if_pos z,ft (r:=n) (by omega) ⟨by omega,bp _,fun i _ _=> ?_,fun i h1 h2=>by omega⟩]
   ·repeat' split
    all_goals omega
   ·show(!Vbdeab.under _ _ _)=false
    rw [(good i).mpr (by simp;exact z)]
    rfl
  ·rw [if_neg z,ft (r:=0) (by omega) ⟨by omega,by omega,fun i _ _=>by omega,fun i h1 h2=> ?_⟩]
   ·repeat' split
    all_goals omega
   ·show(!Vbdeab.under _ _ _)=true
    rw [notg i (by simp;omega)]
    rfl
 ·rw [aE (by omega)]
  have hst:0<r*q:=eW hr hq
  have hf:(if r<0 then -r else r)=r:=if_neg (by omega)
  rw [hf]
  have hre:oV r room (r*q) n=room /(r*q)+1:=by unfold oV;rw [if_neg (by omega),if_pos hr]
  rw [hre]
  unfold f9
  generalize r*q=step at*
  have hd:=Int.ediv_mul_le room (show step≠0 by omega)
  have hd2:=JA room hst
  generalize hD:room /step=D at*
  have crit:∀i:Nat,step*i≤room↔(i:Int)≤D:=fun i=>by
   constructor
   ·intro z
    refine Int.not_lt.mp fun y=> ?_
    have y1:D+1≤(i:Int):=by omega
    have:step*(D+1)≤step*i:=CH y1 (fF hst)
    have e1:step*(D+1)=(D+1)*step:=by grind
    omega
   ·intro z
    have:step*i≤step*D:=CH z (fF hst)
    have e2:step*D=D*step:=by grind
    omega
  let k:Nat:=if D+1<0 then 0 else if (n:Int)<D+1 then n else(D+1).toNat
  have hk:k≤n:=by show(if D+1<0 then 0 else if (n:Int)<D+1 then n else(D+1).toNat)≤n;split;omega;split<;>omega
  rw [ft (r:=k) (by omega) ⟨by omega,hk,fun i _ h2=> ?_,fun i h1 h2=> ?_⟩]
  ·show((((if D+1<0 then 0 else if (n:Int)<D+1 then n else(D+1).toNat) - 0:Nat)):Int)=_
   repeat' split
   all_goals omega
  ·have h2':i<(if D+1<0 then 0 else if (n:Int)<D+1 then n else(D+1).toNat):=h2
   show(!Vbdeab.under _ _ _)=false
   rw [(good i).mpr ((crit i).mpr ?_)]
   ·rfl
   ·revert h2'
    repeat' split
    all_goals omega
  ·have h1':(if D+1<0 then 0 else if (n:Int)<D+1 then n else(D+1).toNat)≤i:=h1
   show(!Vbdeab.under _ _ _)=true
   rw [notg i fun z=> ?_]
   ·rfl
   ·have z':=(crit i).mp z
    revert h1'
    repeat' split
    all_goals omega
end Fr
end
section
namespace Fr
open Vbdeab (Q mkQ Class Dist)
open Hv
def vI (r:Int):Int:=if r<0 then -r else r
theorem Fx {r:Int} (h:r≠0):0<vI r:=by unfold vI;split<;>omega
def Ly (a b:Int):Int:=if b<a then b else a
def xq (c:Class) (p q st:Int):Int:=match c with
 | .line x y=>if cR (.line x y)=0 then(if st≤p*cB (.line x y) - cO (.line x y)*q then 1 else 0) else
   f9 (p*cB (.line x y) - Ly (cO (.line x y)) (cO (.line x y)+cR (.line x y))*q) (vI (cR (.line x y))*q)
 | .comb x s n=>f9 (oV (cR (.comb x s n)) (p*cB (.comb x s n) - cO (.comb x s n)*q - st) (vI (cR (.comb x s n))*q) n) n
def vj (c:Class) (q:Int):Int:=match c with
 | .line x y=>if cR (.line x y)=0 then 1 else vI (cR (.line x y))*q
 | .comb _ _ n=>(n:Int)
theorem FQ {x y:Q} (h:jX (.line x y)):x=y↔cR (.line x y)=0:=by
 have hx:=qc h
 have hy:=sS h
 constructor
 ·intro e
  rw [←e] at hy
  have v1:=hx.val
  have v2:=hy.val
  have p:(0:Int)<x.den:=by have:=h.1.1;omega
  have e3:(cO (.line x y)+cR (.line x y))*(x.den:Int)=cO (.line x y)*(x.den:Int):=by
   rw [e] at v1 v2⊢
   omega
  have e4:cR (.line x y)*(x.den:Int)=0:=by
   have:(cO (.line x y)+cR (.line x y))*(x.den:Int)=cO (.line x y)*(x.den:Int)+cR (.line x y)*(x.den:Int):=Int.add_mul _ _ _
   omega
  rcases Int.mul_eq_zero.mp e4 with q | q
  ·exact q
  ·omega
 ·intro e
  rw [e,Int.add_zero] at hy
  exact hx.unique hy rfl
theorem Lv {x y:Q} {a b d:Int} (hx:Iz x a d) (hy:Iz y b d):Iz (x.least y) (if a≤b then a else b) d:=by
 have z:=hx.le_iff hy
 have hd:=hx.dpos
 unfold Vbdeab.Q.least
 by_cases q:a≤b
 ·have q2:a*d≤b*d:=vD q (fF hd)
  rw [if_pos q,if_pos (z.mpr q2)]
  exact hx
 ·have q2:¬a*d≤b*d:=fun y=>q (G7 y hd)
  rw [if_neg q,if_neg fun y=>q2 (z.mp y)]
  exact hy
theorem MS {x y:Q} {a b d:Int} (hx:Iz x a d) (hy:Iz y b d):Iz (x.most y) (if a≤b then b else a) d:=by
 have z:=hx.le_iff hy
 have hd:=hx.dpos
 unfold Vbdeab.Q.most
 by_cases q:a≤b
 ·have q2:a*d≤b*d:=vD q (fF hd)
  rw [if_pos q,if_pos (z.mpr q2)]
  exact hy
 ·have q2:¬a*d≤b*d:=fun y=>q (G7 y hd)
  rw [if_neg q,if_neg fun y=>q2 (z.mp y)]
  exact hx
theorem MZ {c:Class} (h:jX c) (hn:∀x s n,c= .comb x s n→n<2 ^ 64) {v:Q} {p q:Int} (hv:Iz v p q) (strict:Bool):Iz (c.part strict v) (xq c p q (m6 strict)) (vj c q):=by
 have hq:=hv.dpos
 cases c with
 | comb x s n=>
  have e:Class.part strict v (.comb x s n)=mkQ ((Vbdeab.countGood (fun i=>Vbdeab.under strict (tooth x s i) v) (decide (0≤s.num)) 0 n:Nat):Int) n:=rfl
  rw [e,G1 h (hn _ _ _ rfl) hv strict]
  exact(Is.mk' (d:=n) (by have:=h.2.2;omega)).iz
 | line x y=>
  have hx:=qc h
  have hy:=sS h
  have eq:=FQ h
  have hB:=mi h
  unfold Class.part xq vj
  simp only
  by_cases z:x=y
  ·rw [if_pos z,if_pos (eq.mp z),if_pos (eq.mp z)]
   have u:=Ef (strict:=strict) hx hv
   by_cases w:Vbdeab.under strict x v=true
   ·rw [if_pos w,if_pos (by have:=u.mp w;omega)]
    exact Iz.ofNat 1
   ·rw [if_neg w,if_neg fun y=>w (u.mpr (by omega))]
    exact Iz.ofNat 0
  ·have hr:¬cR (.line x y)=0:=fun y=>z (eq.mpr y)
   rw [if_neg z,if_neg hr,if_neg hr]
   have hl:=Lv hx hy
   have hm:=MS hx hy
   generalize cO (.line x y)=o at*
   generalize cR (.line x y)=r at*
   generalize cB (.line x y)=b at*
   have emin:Ly o (o+r)=if o≤o+r then o else o+r:=by unfold Ly;repeat' split;all_goals omega
   rw [emin]
   have e2:(if o≤o+r then o+r else o)=(if o≤o+r then o else o+r)+vI r:=by unfold vI;repeat' split;all_goals omega
   rw [e2] at hm
   have ha:=Fx hr
   generalize vI r=a at*
   generalize (if o≤o+r then o else o+r)=lo at*
   have hw:0<a*q:=eW ha hq
   have c1:=hv.le_iff hl
   have c2:=hm.le_iff hv
   have e3:(lo+a)*q=lo*q+a*q:=Int.add_mul _ _ _
   by_cases k1:v.le (x.least y)=true
   ·rw [if_pos k1]
    have e4:f9 (p*b - lo*q) (a*q)=0:=by have:=c1.mp k1;unfold f9;repeat' split;all_goals omega
    rw [e4]
    exact Iz.zero hw
   ·have k1':¬p*b≤lo*q:=fun y=>k1 (c1.mpr y)
    rw [if_neg k1]
    by_cases k2:(x.most y).le v=true
    ·rw [if_pos k2]
     have e4:f9 (p*b - lo*q) (a*q)=a*q:=by have:=c2.mp k2;unfold f9;repeat' split;all_goals omega
     rw [e4]
     exact(Iz.ofNat 1).conv hw (by simp)
    ·have k2':¬(lo+a)*q≤p*b:=fun y=>k2 (c2.mpr y)
     rw [if_neg k2]
     have e4:f9 (p*b - lo*q) (a*q)=p*b - lo*q:=by unfold f9;repeat' split;all_goals omega
     rw [e4]
     have z:=(hv.sub hl).divPos (hm.sub hl) (by
      have:(lo+a)*b - lo*b=a*b:=by grind
      rw [this]
      exact eW ha hB)
     refine z.conv hw ?_
     grind
theorem DZ {c:Class} (h:jX c):c.rises=true↔0≤cR c:=by
 cases c with
 | line x y=>
  have z:=(qc h).le_iff (sS h)
  have hB:=mi h
  show x.le y=true↔_
  rw [z]
  have e:(cO (.line x y)+cR (.line x y))*cB (.line x y)=cO (.line x y)*cB (.line x y)+cR (.line x y)*cB (.line x y):=Int.add_mul _ _ _
  constructor
  ·intro q
   have:0≤cR (.line x y)*cB (.line x y):=by omega
   exact Mq this hB
  ·intro q
   have:=Int.mul_nonneg q (fF hB)
   omega
 | comb x s n=>
  show decide (0≤s.num)=true↔_
  rw [fz]
  exact GH (vJ h)
theorem KY {c:Class} {sp t t':Int} (hsp:0<sp) (h:t≤t'):(0≤cR c→KL c t sp≤KL c t' sp)∧(cR c≤0→KL c t' sp≤KL c t sp):=by
 cases c with
 | line x y=>
  unfold KL
  simp only
  constructor
  ·intro q
   have:=CH h q
   omega
  ·intro q
   have:=Mp q h
   omega
 | comb x s n=>
  unfold KL
  simp only
  have hm:t*n /sp≤t'*n /sp:=Int.ediv_le_ediv hsp (vD h (by omega))
  constructor
  ·intro q
   have:=CH hm q
   omega
  ·intro q
   have:=Mp q hm
   omega
theorem My {c:Class} (h:jX c) {sp:Int} (hsp:0<sp):0<NP c sp:=by
 have hB:=mi h
 cases c with
 | line x y=>exact eW hB hsp
 | comb x s n=>exact hB
theorem Hu {c:Class} (h:jX c) {w:Nat} (hw:0<w) {t t':Nat} (ht:t≤t'):
  if c.rises=true then(along w c t).le (along w c t')=true else(along w c t').le (along w c t)=true:=by
 have hsp:(0:Int)<(Vbdeab.M:Int)*w:=eW Nq (by omega)
 have z1:=sK h hw t
 have z2:=sK h hw t'
 obtain⟨m1,m2⟩:=KY (c:=c) (t:=(t:Int)) (t':=(t':Int)) hsp (by omega)
 have hD:=fF (My h hsp)
 by_cases q:c.rises=true
 ·rw [if_pos q,z1.le_iff z2]
  exact vD (m1 ((DZ h).mp q)) hD
 ·rw [if_neg q,z2.le_iff z1]
  have:¬0≤cR c:=fun y=>q ((DZ h).mpr y)
  exact vD (m2 (by omega)) hD
def fu (strict:Bool) (v:Q) (W:Nat) (w:Nat) (c:Class) (b u:Nat):Bool:=Vbdeab.under strict (along w c (u*W - Vbdeab.M*b)) v
theorem Ll {c:Class} (h:jX c) {w:Nat} (hw:0<w) {v:Q} (hv:lowQ v) (strict:Bool) (W b lo hi:Nat):NM (fu strict v W w c b) c.rises lo hi:=fun i j _ h2 _=>by
 have ht:i*W - Vbdeab.M*b≤j*W - Vbdeab.M*b:=Nat.sub_le_sub_right (Nat.mul_le_mul_right _ h2) _
 have z:=Hu h hw ht
 have l1:=(sK h hw (i*W - Vbdeab.M*b)).lowQ
 have l2:=(sK h hw (j*W - Vbdeab.M*b)).lowQ
 by_cases q:c.rises=true
 ·rw [if_pos q] at z⊢
  exact fun k=>CA l1 l2 hv z k
 ·rw [if_neg q] at z⊢
  exact fun k=>CA l2 l1 hv z k
theorem IZ {u a W:Nat} (hW:0<W):u<ceilDiv a W↔u*W<a:=by
 unfold ceilDiv
 rw [Nat.lt_iff_add_one_le,Nat.le_div_iff_mul_le hW,Am,ow]
 omega
theorem lQ {u a W:Nat} (hW:0<W):ceilDiv a W≤u↔a≤u*W:=by
 have:=IZ (u:=u) (a:=a) hW
 omega
theorem K6 {a W:Nat} (hW:0<W): -(-(a:Int) /(W:Int))=((ceilDiv a W:Nat):Int):=by
 have h1:=(lQ (u:=ceilDiv a W) (a:=a) hW).mp (bp _)
 have hW':(0:Int)<W:=by omega
 have k1:=Int.ediv_mul_le (-(a:Int)) (show(W:Int)≠0 by omega)
 have k2:=JA (-(a:Int)) hW'
 generalize -(a:Int) /(W:Int)=D at*
 generalize hc:ceilDiv a W=c at*
 have hDn:0≤-D:=by
  refine Int.not_lt.mp fun q=> ?_
  have:1*(W:Int)≤D*W:=vD (by omega) (fF hW')
  omega
 obtain⟨m,hm⟩:∃m:Nat,-D=(m:Int):=⟨(-D).toNat,by omega⟩
 have hD:D= -(m:Int):=by omega
 subst hD
 have a1:a≤m*W:=by
  have: -(m:Int)*W= -((m*W:Nat):Int):=by rw [b7];grind
  omega
 have a2:c≤m:=by rw [←hc];exact(lQ hW).mpr a1
 have a3:m≤c:=by
  refine Nat.not_lt.mp fun q=> ?_
  have q1:c*W+W≤m*W:=by
   have:(c+1)*W≤m*W:=Nat.mul_le_mul_right _ q
   rw [Am,ow] at this
   exact this
  have:(-(m:Int)+1)*W= -((m*W:Nat):Int)+W:=by rw [b7];grind
  omega
 omega
theorem yl {a b W:Nat} (hW:0<W) (h:a≤b):ceilDiv a W≤ceilDiv b W:=(lQ hW).mpr (fQ h ((lQ hW).mp (bp _)))
theorem JL {W:Nat} (hW:0<W) (m:Nat):ceilDiv (m*W) W=m:=by
 have h1:=(lQ (u:=m) (a:=m*W) hW).mpr (bp _)
 have h2:=(lQ (u:=ceilDiv (m*W) W) (a:=m*W) hW).mp (bp _)
 have h3:=Nat.le_of_mul_le_mul_right h2 hW
 omega
theorem DH (W:Nat) (hW:0<W):ceilDiv 0 W=0:=by
 have h1:=(lQ (u:=0) (a:=0) hW).mpr (by omega)
 omega
def dD (d:Dist) (i:Nat):Nat:=Vbdeab.sum ((d.map fun c=>c.1).take i)
theorem sM (d:Dist):dD d 0=0:=rfl
theorem ju {d:Dist} {i:Nat} {c:Nat×Class} (h:d[i]?=some c):dD d (i+1)=dD d i+c.1:=Ch.eu (by rw [dn,h];rfl)
theorem MC (d:Dist):dD d d.length=total d:=by
 unfold dD total
 rw [lv (by rw [aD];exact bp _)]
theorem Hw {d:Dist}:∀{i j:Nat},i≤j→dD d i≤dD d j:=fun {i j} h=>by
 obtain⟨k,rfl⟩:∃k,j=i+k:=⟨j - i,by omega⟩
 clear h
 induction k with
 | zero=>exact bp _
 | succ k ih=>
  cases e:d[i+k]? with
  | some c=>
   have:=ju e
   show dD d i≤dD d (i+k+1)
   omega
  | none=>
   have hl:=List.getElem?_eq_none_iff.mp e
   have:dD d (i+k+1)=dD d (i+k):=by
    unfold dD
    rw [lv (by rw [aD];omega),lv (by rw [aD];omega)]
   show dD d i≤dD d (i+k+1)
   omega
theorem Bv:∀{d:Dist} {i x b:Nat} {w:Nat} {c:Class},d[i]?=some (w,c)→x<Vbdeab.M*(b+dD d (i+1))→(∀j,j<i→Vbdeab.M*(b+dD d (j+1))≤x)→locate d x b=some (w,c,x - Vbdeab.M*(b+dD d i))
 | [],i,_,_,_,_,h,_,_=>by simp at h
 | e::r,0,x,b,w,c,h,h1,_=>by
  simp at h
  subst h
  have:dD ((w,c)::r) 1=w:=by unfold dD;simp [Vbdeab.sum]
  rw [this] at h1
  unfold locate
  rw [if_pos h1,sM,lP]
 | e::r,i+1,x,b,w,c,h,h1,h2=>by
  obtain⟨w',c'⟩:=e
  have cons:∀j,dD ((w',c')::r) (j+1)=w'+dD r j:=fun j=>by unfold dD;rw [eY,List.take_succ_cons,Ch.sum_cons]
  have z0:=h2 0 (by omega)
  rw [cons,sM,lP] at z0
  unfold locate
  rw [if_neg (Nat.not_lt.mpr z0)]
  have ih:=Bv (d:=r) (i:=i) (x:=x) (b:=b+w') (w:=w) (c:=c) (by simpa using h) (by rw [cons] at h1;rw [ye];exact h1) fun j hj=>by
   have:=h2 (j+1) (by omega)
   rw [cons] at this
   rw [ye]
   exact this
  rw [ih,cons,ye]
theorem Mi {d:Dist} {i u w:Nat} {c:Class} (h:d[i]?=some (w,c)) (h1:u*total d<Vbdeab.M*dD d (i+1)) (h2:∀j,j<i→Vbdeab.M*dD d (j+1)≤u*total d):Vbdeab.value d u=along w c (u*total d - Vbdeab.M*dD d i):=by
 unfold Vbdeab.value
 rw [Bv (b:=0) h (by rw [i3];exact h1) (fun j hj=>by rw [i3];exact h2 j hj)]
 simp only [i3]
theorem Fy {d:Dist} {i:Nat} {c:Nat×Class} (h:d[i]?=some c):d.drop i=c::d.drop (i+1):=Ch.yq h
def qL (d:Dist) (i:Nat):List Nat:=sharesFrom (total d) (d.drop i) (dD d i)
theorem E3 (d:Dist):Vbdeab.shares d=qL d 0:=rfl
theorem GF {d:Dist} {i:Nat} {c:Nat×Class} (h:d[i]?=some c):qL d i=(ceilDiv (Vbdeab.M*dD d (i+1)) (total d) - ceilDiv (Vbdeab.M*dD d i) (total d))::qL d (i+1):=by
 unfold qL
 rw [Fy h,ju h]
 obtain⟨w,k⟩:=c
 rfl
theorem Ic (d:Dist):qL d d.length= []:=by
 unfold qL
 rw [List.drop_length]
 rfl
def Bs (strict:Bool) (v:Q) (d:Dist) (i:Nat):Nat:=hitsFrom strict v (total d) (d.drop i) (dD d i)
theorem HB (strict:Bool) (v:Q) (d:Dist):Vbdeab.hits strict v d=Bs strict v d 0:=rfl
theorem JU {strict:Bool} {v:Q} {d:Dist} {i w:Nat} {c:Class} (h:d[i]?=some (w,c)):Bs strict v d i=Vbdeab.countGood (fu strict v (total d) w c (dD d i)) c.rises (ceilDiv (Vbdeab.M*dD d i) (total d)) (ceilDiv (Vbdeab.M*dD d (i+1)) (total d))+Bs strict v d (i+1):=by
 unfold Bs
 rw [Fy h,ju h]
 rfl
theorem Lm (strict:Bool) (v:Q) (d:Dist):Bs strict v d d.length=0:=by
 unfold Bs
 rw [List.drop_length]
 rfl
theorem FD {g:Nat→Bool} {r:Bool} (lo:Nat):Vbdeab.countGood g r lo lo=0:=by
 have f:∀p,Vbdeab.firstAt p 64 lo lo=lo:=fun p=>by unfold Vbdeab.firstAt;rw [if_neg (sn _)]
 unfold Vbdeab.countGood
 rw [f,f]
 split<;>omega
end Fr
end
section
namespace Kd
open Vbdeab (Q mkQ Class Dist fraction BIG)
open Fr
def a6 {α:Type}:List (Option α)→Option (List α)
 | []=>some []
 | none::_=>none
 | some a::r=>(a6 r).map (a::·)
theorem BK {α β:Type} (f:α→β):∀l:List (Option α),a6 (l.map (Option.map f))=(a6 l).map (List.map f)
 | []=>rfl
 | none::r=>rfl
 | some a::r=>by
  show(a6 (r.map (Option.map f))).map (f a::·)=((a6 r).map (a::·)).map (List.map f)
  rw [BK f r]
  cases a6 r<;>rfl
theorem qu {α:Type}:∀{l:List (Option α)} {r:List α},a6 l=some r→r.length=l.length
 | [],r,h=>by cases h;rfl
 | none::_,r,h=>by cases h
 | some a::l,r,h=>by
  cases e:a6 l with
  | none=>rw [a6,e] at h;cases h
  | some r'=>
   rw [a6,e] at h
   cases h
   rw [d5,d5,qu e]
theorem vX {α:Type}:∀{l:List (Option α)} {r:List α},a6 l=some r→l=r.map some
 | [],r,h=>by cases h;rfl
 | none::_,r,h=>by cases h
 | some a::l,r,h=>by
  cases e:a6 l with
  | none=>rw [a6,e] at h;cases h
  | some r'=>
   rw [a6,e] at h
   cases h
   rw [eY,←vX e]
theorem nl {α:Type}:∀(r:List α),a6 (r.map some)=some r
 | []=>rfl
 | a::r=>by
  show(a6 (r.map some)).map (a::·)=_
  rw [nl r]
  rfl
theorem Ge {α:Type} {l:List (Option α)} (h:none∈l):a6 l=none:=by
 cases e:a6 l with
 | none=>rfl
 | some r=>
  rw [vX e] at h
  obtain⟨x,_,hx⟩:=lO.mp h
  cases hx
def sm:Option Class→Option Class:=fun o=>o.bind fun c=>if c.small=true then some c else none
def Ft (l:List Class):Option (List Class):=if (l.all fun c=>c.small)=true then some l else none
theorem yG:∀l:List (Option Class),a6 (l.map sm)=(a6 l).bind Ft
 | []=>rfl
 | none::r=>rfl
 | some c::r=>by
  have ih:=yG r
  rw [eY]
  by_cases q:c.small=true
  ·have e:sm (some c)=some c:=by show(if c.small=true then some c else none)=_;rw [if_pos q]
   rw [e]
   show(a6 (r.map sm)).map (c::·)=((a6 r).map (c::·)).bind Ft
   rw [ih]
   cases a6 r with
   | none=>rfl
   | some z=>
    show(Ft z).map (c::·)=Ft (c::z)
    unfold Ft
    rw [CK,q,Bool.true_and]
    split<;>rfl
  ·have e:sm (some c)=none:=by show(if c.small=true then some c else none)=_;rw [if_neg q]
   rw [e]
   show none=((a6 r).map (c::·)).bind Ft
   cases a6 r with
   | none=>rfl
   | some z=>
    show none=Ft (c::z)
    unfold Ft
    rw [CK]
    simp [q]
def wS (a:List Int) (os:List (Option Class)):Option Dist:=match weights a,a6 os with
 | some ws,some l=>some (ws.zip l)
 | _,_=>none
theorem wy {a:List Int} {ws:List Nat} (h:weights a=some ws):ws=a.map Int.toNat∧weightsOk ws=true∧∀x∈a,0≤x:=by
 unfold weights at h
 split at h
 ·rename_i hc
  cases h
  exact⟨rfl,hc.2,fun x hx=>bj (Ai.mp hc.1 x hx)⟩
 ·cases h
theorem Bb {ws:List Nat} {l:List Class} (h:ws.length=l.length):(ws.zip l).map (fun c=>c.1)=ws:=by
 have:=List.map_fst_zip (l₁:=ws) (l₂:=l) (by omega)
 exact this
theorem Jz:∀{ws:List Nat} {l:List Class},ws.length=l.length→((ws.zip l).all fun c=>c.2.small)=l.all fun c=>c.small
 | [],[],_=>rfl
 | a::ws,c::l,h=>by
  rw [List.zip_cons_cons,CK,CK,Jz (by simpa using h)]
 | [],_::_,h=>by simp at h
 | _::_,[],h=>by simp at h
theorem m7 {a:List Int} {ws:List Nat} {l:List Class} (h:weights a=some ws) (hl:ws.length=l.length):checked (some (ws.zip l))=(Ft l).map (ws.zip ·):=by
 obtain⟨_,h2,_⟩:=wy h
 unfold checked Vbdeab.ok Ft
 simp only
 rw [Bb hl,h2,Bool.true_and,Jz hl]
 split<;>rfl
theorem oJ {a:List Int} {os:List (Option Class)} (hl:os.length=a.length):checked (joined a a.length (a6 os))=wS a (os.map sm):=by
 unfold joined wS
 rw [yG]
 cases hw:weights a with
 | none=>rfl
 | some ws=>
  have hws:ws.length=a.length:=by rw [(wy hw).1,aD]
  cases ho:a6 os with
  | none=>rfl
  | some l=>
   have hl2:=qu ho
   simp only
   rw [if_pos ⟨hws,by omega⟩,m7 hw (by omega)]
   show(Ft l).map _=_
   show _=(match some ws,Ft l with | some ws,some l=>some (ws.zip l) | _,_=>none)
   cases Ft l<;>rfl
theorem vL {a:List Int} {cs:Option (List Class)} (h:∀l,cs=some l→l.length≠a.length):joined a a.length cs=none:=by
 unfold joined
 cases weights a with
 | none=>rfl
 | some ws=>
  cases cs with
  | none=>rfl
  | some l=>
   simp only
   rw [if_neg fun z=>h l rfl z.2]
def aU (b:List Int) (j:Nat):Option Q:=fraction (b.getD j 0) (b.getD (j+1) 0)
theorem gB {α:Type} (f:Nat→α) (n:Nat):(List.range (n+1)).map f=f 0::(List.range n).map fun i=>f (i+1):=by
 rw [JC,eY,fo]
 rfl
theorem pU:∀(n:Nat) (b:List Int),b.length=2*n→fractions b=a6 ((List.range n).map fun i=>aU b (2*i))
 | 0,b,h=>by
  have:b= []:=G9 (by omega)
  subst this
  rfl
 | n+1,b,h=>by
  match b,h with
  | p::q::r,h=>
   have ih:=pU n r (by simp at h;omega)
   rw [gB]
   have e:(fun i=>aU (p::q::r) (2*(i+1)))=fun i=>aU r (2*i):=by
    funext i
    unfold aU
    have e1:2*(i+1)=2*i+1+1:=by omega
    rw [e1]
    rfl
   rw [e]
   have e0:aU (p::q::r) (2*0)=fraction p q:=rfl
   rw [e0]
   unfold fractions
   rw [ih]
   cases fraction p q with
   | none=>rfl
   | some x=>
    show _=(a6 _).map (x::·)
    cases a6 ((List.range n).map fun i=>aU r (2*i))<;>rfl
  | [x],h=>simp at h;omega
  | [],h=>simp at h
theorem n8:∀{b:List Int} {l:List Q},fractions b=some l→b.length=2*l.length
 | [],l,h=>by cases h;rfl
 | [x],l,h=>by cases h
 | p::q::r,l,h=>by
  unfold fractions at h
  cases e1:fraction p q with
  | none=>rw [e1] at h;cases h
  | some x=>
   cases e2:fractions r with
   | none=>rw [e1,e2] at h;cases h
   | some z=>
    rw [e1,e2] at h
    cases h
    have:=n8 e2
    simp only [d5]
    omega
theorem gv {n d:Int} {q:Q} (h:fraction n d=some q):q.small=true∧lowQ q∧q=mkQ n d.toNat∧1≤d:=by
 unfold Vbdeab.fraction at h
 split at h
 ·rename_i hc
  cases h
  exact⟨hc.2,(Iz.mk' (n:=n) (d:=d) (by omega)).lowQ,rfl,hc.1⟩
 ·cases h
theorem tF (q:Q):(point q).small=q.small:=by
 show(q.small && (Q.mk 0 1).small && decide (1≤1) && decide (1≤BIG))=_
 have e1:(Q.mk 0 1).small=true:=by decide
 have e2:decide (1≤BIG)=true:=by decide
 rw [e1,e2]
 simp
def tE (o:Option Q):Option Class:=o.map point
def j3 (x y:Option Q):Option Class:=match x,y with
 | some a,some b=>some (.line a b)
 | _,_=>none
def m9 (x s:Option Q) (n:Int):Option Class:=match x,s with
 | some a,some b=>if 1≤n∧n≤1000000000000000000 then some (.comb a b n.toNat) else none
 | _,_=>none
theorem OU {a b:List Int} (h:b.length=2*a.length):checked (build 2 a b)=wS a ((List.range a.length).map fun i=>tE (aU b (2*i))):=by
 have e:build 2 a b=joined a a.length ((fractions b).map fun l=>l.map point):=by unfold build;rw [if_pos rfl]
 rw [e,pU _ b h]
 have e2:=BK point ((List.range a.length).map fun i=>aU b (2*i))
 rw [show(Option.map (fun l=>l.map point))=Option.map (List.map point) from rfl,←e2,oJ (by simp)]
 rw [fo,fo]
 congr 1
 refine nX fun i _=> ?_
 show sm ((aU b (2*i)).map point)=tE (aU b (2*i))
 cases e3:aU b (2*i) with
 | none=>rfl
 | some x=>
  show(if (point x).small=true then _ else _)=_
  rw [tF,if_pos (gv e3).1]
  rfl
theorem JZ {a b:List Int} (h:b.length≠2*a.length):checked (build 2 a b)=none:=by
 have e:build 2 a b=joined a a.length ((fractions b).map fun l=>l.map point):=by unfold build;rw [if_pos rfl]
 rw [e,vL]
 ·rfl
 ·intro l hl hx
  cases e1:fractions b with
  | none=>rw [e1] at hl;cases hl
  | some z=>
   rw [e1] at hl
   cases hl
   have:=n8 e1
   rw [aD] at hx
   omega
theorem vN {x y:Q} (hx:x.small=true) (hy:y.small=true):(Class.line x y).small=true:=by show(x.small && y.small)=true;rw [hx,hy];rfl
theorem DQ:∀(n:Nat) (f:Nat→Option Q),a6 ((List.range (n+1)).map fun i=>j3 (f i) (f (i+1)))=(a6 ((List.range (n+2)).map f)).map links
 | 0,f=>by
  show a6 [j3 (f 0) (f 1)]=(a6 [f 0,f 1]).map _
  cases f 0 with
  | none=>rfl
  | some x=>
   cases f 1 with
   | none=>rfl
   | some y=>rfl
 | n+1,f=>by
  have ih:=DQ n fun i=>f (i+1)
  rw [gB _ (n+1),gB _ (n+2)]
  cases e0:f 0 with
  | none=>rfl
  | some x=>
   cases e1:f 1 with
   | none=>
    have z:a6 ((List.range (n+2)).map fun i=>f (i+1))=none:=by
     rw [gB _ (n+1),e1]
     rfl
    show none=((a6 _).map (x::·)).map links
    rw [z]
    rfl
   | some y=>
    show(a6 _).map (Class.line x y::·)=((a6 _).map (x::·)).map links
    rw [ih]
    rw [gB _ (n+1),e1]
    show(((a6 _).map (y::·)).map links).map _=(((a6 _).map (y::·)).map _).map _
    cases a6 ((List.range (n+1)).map fun i=>f (i+1+1)) with
    | none=>rfl
    | some z=>rfl
theorem MF (os:List (Option Class)):wS [] os=none:=rfl
theorem OV {a b:List Int} (h:b.length=2*a.length+2):checked (build 3 a b)=wS a ((List.range a.length).map fun i=>j3 (aU b (2*i)) (aU b (2*i+2))):=by
 have e:build 3 a b=(match fractions b with
  | some l=>if l.length=a.length+1 then joined a a.length (some (links l)) else none
  | none=>none):=by unfold build;rw [if_neg (by decide),if_pos rfl];rfl
 rw [e,pU (a.length+1) b (by omega)]
 cases ha:a with
 | nil=>
  rw [MF]
  cases a6 ((List.range (([]:List Int).length+1)).map fun i=>aU b (2*i)) with
  | none=>rfl
  | some l=>
   simp only
   split<;>rfl
 | cons a0 ar=>
  have hn:(a0::ar).length=ar.length+1:=rfl
  rw [hn]
  have k:=DQ ar.length fun i=>aU b (2*i)
  have k2:((List.range (ar.length+1)).map fun i=>j3 (aU b (2*i)) (aU b (2*i+2)))=((List.range (ar.length+1)).map fun i=>j3 (aU b (2*i)) (aU b (2*(i+1)))):=rfl
  rw [k2]
  have smid:(((List.range (ar.length+1)).map fun i=>j3 (aU b (2*i)) (aU b (2*(i+1)))).map sm)=((List.range (ar.length+1)).map fun i=>j3 (aU b (2*i)) (aU b (2*(i+1)))):=by
   rw [fo]
   refine nX fun i _=> ?_
   show sm (j3 (aU b (2*i)) (aU b (2*(i+1))))=_
   cases e1:aU b (2*i) with
   | none=>rfl
   | some x=>
    cases e2:aU b (2*(i+1)) with
    | none=>rfl
    | some y=>
     show(if (Class.line x y).small=true then _ else _)=_
     rw [if_pos (vN (gv e1).1 (gv e2).1)]
     rfl
  rw [←smid,←oJ (a:=a0::ar) (by simp),k,hn]
  cases ho:a6 ((List.range (ar.length+2)).map fun i=>aU b (2*i)) with
  | none=>
   show checked none=checked (joined (a0::ar) (ar.length+1) none)
   unfold joined
   cases weights (a0::ar)<;>rfl
  | some l=>
   have hl:=qu ho
   rw [aD,fm] at hl
   simp only
   rw [if_pos (by omega)]
   rfl
theorem J0 {a b:List Int} (h:b.length≠2*a.length+2):checked (build 3 a b)=none:=by
 have e:build 3 a b=(match fractions b with
  | some l=>if l.length=a.length+1 then joined a a.length (some (links l)) else none
  | none=>none):=by unfold build;rw [if_neg (by decide),if_pos rfl];rfl
 rw [e]
 cases e1:fractions b with
 | none=>rfl
 | some l=>
  have:=n8 e1
  simp only
  rw [if_neg (by omega)]
  rfl
def mw (x y:Int):Option Class:=if x≤y∧x.natAbs≤BIG∧y.natAbs≤BIG then some (.comb (Vbdeab.ofInt x) ⟨1,1⟩ (y - x+1).toNat) else none
def kJ (x y:Int):Option Class:=if x≤y∧x.natAbs≤BIG∧y.natAbs≤BIG∧y - x+1≤1000000000000000000 then some (.comb (Vbdeab.ofInt x) ⟨1,1⟩ (y - x+1).toNat) else none
theorem n6:BIG=1000000000000000000:=rfl
theorem sY {z:Int} (h:z.natAbs≤BIG):(Vbdeab.ofInt z).small=true:=by
 unfold Vbdeab.Q.small Vbdeab.ofInt
 simp only [yb,fz]
 exact⟨⟨h,by decide⟩,by decide⟩
theorem Ko:(Q.mk 1 1).small=true:=by decide
theorem GJ (x y:Int):sm (mw x y)=kJ x y:=by
 unfold mw kJ
 by_cases h:x≤y∧x.natAbs≤BIG∧y.natAbs≤BIG
 ·rw [if_pos h]
  show(if (Class.comb (Vbdeab.ofInt x) ⟨1,1⟩ (y - x+1).toNat).small=true then _ else _)=_
  have e:(Class.comb (Vbdeab.ofInt x) ⟨1,1⟩ (y - x+1).toNat).small=(decide (1≤(y - x+1).toNat) && decide ((y - x+1).toNat≤BIG)):=by
   show((Vbdeab.ofInt x).small && (Q.mk 1 1).small && decide (1≤(y - x+1).toNat) && decide ((y - x+1).toNat≤BIG))=_
   rw [sY h.2.1,Ko]
   simp
  rw [e]
  have h1:=h.1
  by_cases k:y - x+1≤1000000000000000000
  ·have c:(decide (1≤(y - x+1).toNat) && decide ((y - x+1).toNat≤BIG))=true:=by
    rw [aE (show 1≤(y - x+1).toNat by omega),aE (show(y - x+1).toNat≤BIG by rw [n6];omega)]
    rfl
   rw [if_pos c,if_pos ⟨h.1,h.2.1,h.2.2,k⟩]
  ·have c:¬(decide (1≤(y - x+1).toNat) && decide ((y - x+1).toNat≤BIG))=true:=by
    rw [bq (show ¬(y - x+1).toNat≤BIG by rw [n6];omega),Bool.and_false]
    decide
   rw [if_neg c,if_neg fun z=>k z.2.2.2]
 ·rw [if_neg h,if_neg fun z=>h ⟨z.1,z.2.1,z.2.2.1⟩]
  rfl
theorem DY:∀(n:Nat) (b:List Int),b.length=2*n→ranges b=a6 ((List.range n).map fun i=>mw (b.getD (2*i) 0) (b.getD (2*i+1) 0))
 | 0,b,h=>by
  have:b= []:=G9 (by omega)
  subst this
  rfl
 | n+1,b,h=>by
  match b,h with
  | p::q::r,h=>
   have ih:=DY n r (by simp at h;omega)
   rw [gB]
   have e:(fun i=>mw ((p::q::r).getD (2*(i+1)) 0) ((p::q::r).getD (2*(i+1)+1) 0))=fun i=>mw (r.getD (2*i) 0) (r.getD (2*i+1) 0):=by
    funext i
    have e1:2*(i+1)=2*i+1+1:=by omega
    rw [e1]
    rfl
   rw [e]
   have e0:mw ((p::q::r).getD (2*0) 0) ((p::q::r).getD (2*0+1) 0)=mw p q:=rfl
   rw [e0]
   unfold ranges
   rw [ih]
   unfold mw
   cases e2:a6 ((List.range n).map fun i=>if r.getD (2*i) 0≤r.getD (2*i+1) 0∧(r.getD (2*i) 0).natAbs≤BIG∧(r.getD (2*i+1) 0).natAbs≤BIG then some (Class.comb (Vbdeab.ofInt (r.getD (2*i) 0)) ⟨1,1⟩ (r.getD (2*i+1) 0 - r.getD (2*i) 0+1).toNat) else none) with
   | none=>
    by_cases c:p≤q∧p.natAbs≤BIG∧q.natAbs≤BIG
    ·rw [if_pos c]
     show none=(a6 _).map _
     rw [e2]
     rfl
    ·rw [if_neg c]
     rfl
   | some l=>
    simp only
    by_cases c:p≤q∧p.natAbs≤BIG∧q.natAbs≤BIG
    ·rw [if_pos c,if_pos c]
     show _=(a6 _).map _
     rw [e2]
     rfl
    ·rw [if_neg c,if_neg c]
     rfl
  | [x],h=>simp at h;omega
  | [],h=>simp at h
theorem BN:∀{b:List Int} {l:List Class},ranges b=some l→b.length=2*l.length
 | [],l,h=>by cases h;rfl
 | [x],l,h=>by cases h
 | p::q::r,l,h=>by
  unfold ranges at h
  cases e2:ranges r with
  | none=>rw [e2] at h;cases h
  | some z=>
   rw [e2] at h
   simp only at h
   split at h
   ·cases h
    have:=BN e2
    simp only [d5]
    omega
   ·cases h
theorem OW {a b:List Int} (h:b.length=2*a.length):checked (build 4 a b)=wS a ((List.range a.length).map fun i=>kJ (b.getD (2*i) 0) (b.getD (2*i+1) 0)):=by
 have e:build 4 a b=joined a a.length (ranges b):=by unfold build;rw [if_neg (by decide),if_neg (by decide),if_pos rfl]
 rw [e,DY _ b h,oJ (by simp),fo]
 congr 1
 exact nX fun i _=>GJ _ _
theorem J1 {a b:List Int} (h:b.length≠2*a.length):checked (build 4 a b)=none:=by
 have e:build 4 a b=joined a a.length (ranges b):=by unfold build;rw [if_neg (by decide),if_neg (by decide),if_pos rfl]
 rw [e,vL]
 ·rfl
 ·intro l hl hx
  have:=BN hl
  omega
def xZ (t n:Int) (x y:Option Q):Option Class:=match x,y with
 | some x,some y=>if t=0∧n=0 then some (.line x y) else if t=1∧1≤n then some (.comb x y n.toNat) else none
 | _,_=>none
def Md (t n:Int) (x y:Option Q):Option Class:=if t=0∧n=0 then j3 x y else if t=1 then m9 x y n else none
def qY (b:List Int) (j:Nat):Option Class:=Md (b.getD j 0) (b.getD (j+5) 0) (aU b (j+1)) (aU b (j+3))
theorem Bl {x s:Q} {n:Nat} (hx:x.small=true) (hs:s.small=true):(Class.comb x s n).small=(decide (1≤n) && decide (n≤BIG)):=by
 show(x.small && s.small && decide (1≤n) && decide (n≤BIG))=_
 rw [hx,hs]
 simp
theorem Ng {t n:Int} {x y:Option Q} (hx:∀q,x=some q→q.small=true) (hy:∀q,y=some q→q.small=true):sm (xZ t n x y)=Md t n x y:=by
 unfold xZ Md
 cases x with
 | none=>
  show none=_
  unfold j3 m9
  simp
 | some p=>
  cases y with
  | none=>
   show none=_
   unfold j3 m9
   simp
  | some q=>
   simp only
   by_cases c:t=0∧n=0
   ·rw [if_pos c,if_pos c]
    show(if (Class.line p q).small=true then _ else _)=_
    rw [if_pos (vN (hx _ rfl) (hy _ rfl))]
    rfl
   ·rw [if_neg c,if_neg c]
    by_cases c1:t=1
    ·rw [if_pos c1]
     unfold m9
     simp only
     by_cases c2:1≤n
     ·rw [if_pos ⟨c1,c2⟩]
      show(if (Class.comb p q n.toNat).small=true then _ else _)=_
      rw [Bl (hx _ rfl) (hy _ rfl)]
      by_cases c3:n≤1000000000000000000
      ·have c4:(decide (1≤n.toNat) && decide (n.toNat≤BIG))=true:=by
        rw [aE (show 1≤n.toNat by omega),aE (show n.toNat≤BIG by rw [n6];omega)]
        rfl
       rw [if_pos c4,if_pos ⟨c2,c3⟩]
      ·have c4:¬(decide (1≤n.toNat) && decide (n.toNat≤BIG))=true:=by
        rw [bq (show ¬n.toNat≤BIG by rw [n6];omega),Bool.and_false]
        decide
       rw [if_neg c4,if_neg fun z=>c3 z.2]
     ·rw [if_neg fun z=>c2 z.2,if_neg fun z=>c2 z.1]
      rfl
    ·rw [if_neg fun z=>c1 z.1,if_neg c1]
     rfl
theorem Bj:∀(n:Nat) (b:List Int),b.length=6*n→classes b=a6 ((List.range n).map fun i=>xZ (b.getD (6*i) 0) (b.getD (6*i+5) 0) (aU b (6*i+1)) (aU b (6*i+3)))
 | 0,b,h=>by
  have:b= []:=G9 (by omega)
  subst this
  rfl
 | n+1,b,h=>by
  match b,h with
  | t::p::q::p2::q2::m::r,h=>
   have ih:=Bj n r (by simp at h;omega)
   rw [gB]
   have e:(fun i=>xZ ((t::p::q::p2::q2::m::r).getD (6*(i+1)) 0) ((t::p::q::p2::q2::m::r).getD (6*(i+1)+5) 0) (aU (t::p::q::p2::q2::m::r) (6*(i+1)+1)) (aU (t::p::q::p2::q2::m::r) (6*(i+1)+3)))=fun i=>xZ (r.getD (6*i) 0) (r.getD (6*i+5) 0) (aU r (6*i+1)) (aU r (6*i+3)):=by
    funext i
    have e1:6*(i+1)=6*i+1+1+1+1+1+1:=by omega
    rw [e1]
    rfl
   rw [e]
   have e0:xZ ((t::p::q::p2::q2::m::r).getD (6*0) 0) ((t::p::q::p2::q2::m::r).getD (6*0+5) 0) (aU (t::p::q::p2::q2::m::r) (6*0+1)) (aU (t::p::q::p2::q2::m::r) (6*0+3))=xZ t m (fraction p q) (fraction p2 q2):=rfl
   rw [e0]
   unfold classes
   rw [ih]
   have cons:∀(o:Option Class) (l:List (Option Class)),a6 (o::l)=match o,a6 l with | some c,some z=>some (c::z) | _,_=>none:=fun o l=>by
    cases o with
    | none=>rfl
    | some c=>show(a6 l).map _=_;cases a6 l<;>rfl
   rw [cons]
   generalize a6 ((List.range n).map fun i=>xZ (r.getD (6*i) 0) (r.getD (6*i+5) 0) (aU r (6*i+1)) (aU r (6*i+3)))=O at*
   cases fraction p q with
   | none=>rfl
   | some x=>
    cases fraction p2 q2 with
    | none=>rfl
    | some y=>
     unfold xZ
     cases O with
     | none=>
      simp only
      repeat' split
      all_goals first | rfl | simp_all
     | some z=>
      simp only
      repeat' split
      all_goals first | rfl | simp_all
  | [],h=>simp at h
  | [_],h=>simp at h;omega
  | [_,_],h=>simp at h;omega
  | [_,_,_],h=>simp at h;omega
  | [_,_,_,_],h=>simp at h;omega
  | [_,_,_,_,_],h=>simp at h;omega
theorem zM:∀{b:List Int} {l:List Class},classes b=some l→b.length=6*l.length
 | [],l,h=>by cases h;rfl
 | [_],l,h=>by cases h
 | [_,_],l,h=>by cases h
 | [_,_,_],l,h=>by cases h
 | [_,_,_,_],l,h=>by cases h
 | [_,_,_,_,_],l,h=>by cases h
 | t::p::q::p2::q2::m::r,l,h=>by
  unfold classes at h
  cases e1:fraction p q with
  | none=>rw [e1] at h;cases h
  | some x=>
   cases e2:fraction p2 q2 with
   | none=>rw [e1,e2] at h;cases h
   | some y=>
    cases e3:classes r with
    | none=>rw [e1,e2,e3] at h;cases h
    | some z=>
     have ih:=zM e3
     rw [e1,e2,e3] at h
     simp only at h
     split at h
     ·cases h
      simp only [d5]
      omega
     ·split at h
      ·cases h
       simp only [d5]
       omega
      ·cases h
theorem OX {a b:List Int} (h:b.length=6*a.length):checked (build 5 a b)=wS a ((List.range a.length).map fun i=>qY b (6*i)):=by
 have e:build 5 a b=joined a a.length (classes b):=by unfold build;rw [if_neg (by decide),if_neg (by decide),if_neg (by decide),if_pos rfl]
 rw [e,Bj _ b h,oJ (by simp),fo]
 congr 1
 exact nX fun i _=>Ng (fun q hq=>(gv hq).1) (fun q hq=>(gv hq).1)
theorem J2 {a b:List Int} (h:b.length≠6*a.length):checked (build 5 a b)=none:=by
 have e:build 5 a b=joined a a.length (classes b):=by unfold build;rw [if_neg (by decide),if_neg (by decide),if_neg (by decide),if_pos rfl]
 rw [e,vL]
 ·rfl
 ·intro l hl hx
  have:=zM hl
  omega
theorem DF {kind:Int} (a:List Int) {b:List Int} (h2:kind≠2) (h3:kind≠3) (h4:kind≠4) (h5:kind≠5) (hb:b≠ []):build kind a b=none:=by
 unfold build
 rw [if_neg h2,if_neg h3,if_neg h4,if_neg h5,if_pos hb]
theorem BM:∀(ws:List Nat) (i:Nat),points ws i=ws.zip ((List.range ws.length).map fun j=>point (Vbdeab.ofNat (i+j)))
 | [],i=>rfl
 | w::r,i=>by
  rw [d5,gB,List.zip_cons_cons]
  have ih:=BM r (i+1)
  have e:points (w::r) i=(w,point (Vbdeab.ofNat i))::points r (i+1):=by rw [points]
  rw [e,ih]
  congr 2
  refine nX fun j _=> ?_
  have:i+1+j=i+(j+1):=by omega
  rw [this]
theorem jL (ws:List Nat):weights (nats ws)=if weightsOk ws=true then some ws else none:=by
 unfold weights
 have e:(nats ws).map Int.toNat=ws:=by
  unfold nats
  rw [fo]
  have:(Int.toNat∘Int.ofNat)=id:=by funext n;rfl
  rw [this,List.map_id]
 have e2:((nats ws).all fun w=>decide (0≤w))=true:=Ai.mpr fun x hx=>by
  obtain⟨n,_,rfl⟩:=lO.mp hx
  exact aE (Int.natCast_nonneg n)
 rw [e,e2]
 by_cases h:weightsOk ws=true
 ·rw [if_pos ⟨rfl,h⟩,if_pos h]
 ·rw [if_neg fun z=>h z.2,if_neg h]
def gr (first n:Nat):List (Option Class):=(List.range n).map fun j=>some (point (Vbdeab.ofNat (first+j)))
theorem jA {ws:List Nat} {i:Nat} (h:i+ws.length≤BIG):checked (some (points ws i))=wS (nats ws) (gr i ws.length):=by
 have e:gr i ws.length=(((List.range ws.length).map fun j=>point (Vbdeab.ofNat (i+j))).map some):=by unfold gr;rw [fo];rfl
 unfold wS
 rw [jL,e,nl,BM]
 have hs:(((List.range ws.length).map fun j=>point (Vbdeab.ofNat (i+j))).all fun c=>c.small)=true:=Ai.mpr fun c hc=>by
  obtain⟨j,hj,rfl⟩:=lO.mp hc
  rw [List.mem_range] at hj
  rw [tF]
  exact sY (z:=((i+j:Nat):Int)) (by omega)
 by_cases hw:weightsOk ws=true
 ·rw [if_pos hw,m7 (a:=nats ws) (by rw [jL,if_pos hw]) (by simp)]
  unfold Ft
  rw [if_pos hs]
  rfl
 ·rw [if_neg hw]
  unfold checked Vbdeab.ok
  simp only
  rw [Bb (by simp),if_neg (by simp [hw])]
theorem eF (n lo hi:Int):within n lo hi=decide (lo≤n∧n≤hi):=by
 unfold within
 by_cases h1:lo≤n<;>by_cases h2:n≤hi<;>simp [h1,h2]
theorem OS (p q:Int):checked (build 0 [p,q] [])=wS [1] [tE (fraction p q)]:=by
 have e:build 0 [p,q] []=(fraction p q).map fun v=> [(1,point v)]:=rfl
 rw [e]
 cases e1:fraction p q with
 | none=>rfl
 | some v=>
  show checked (some ([1].zip [point v]))=_
  rw [m7 (a:= [1]) (ws:= [1]) rfl rfl]
  unfold Ft
  rw [if_pos (by rw [CK,tF,(gv e1).1];rfl)]
  rfl
theorem OT (x y:Int):checked (build 1 [x,y] [])=wS [1] [kJ x y]:=by
 have e:build 1 [x,y] []=if x≤y∧x.natAbs≤BIG∧y.natAbs≤BIG then some [(1,.comb (Vbdeab.ofInt x) ⟨1,1⟩ (y - x+1).toNat)] else none:=rfl
 have e2:(if x≤y∧x.natAbs≤BIG∧y.natAbs≤BIG then some [(1,Class.comb (Vbdeab.ofInt x) ⟨1,1⟩ (y - x+1).toNat)] else none:Option Dist)=joined [1] 1 (a6 [mw x y]):=by
  unfold mw
  by_cases c:x≤y∧x.natAbs≤BIG∧y.natAbs≤BIG
  ·rw [if_pos c,if_pos c]
   rfl
  ·rw [if_neg c,if_neg c]
   rfl
 rw [e,e2]
 have z:=oJ (a:= [1]) (os:= [mw x y]) rfl
 rw [eY,GJ] at z
 exact z
def Iy (n p q:Nat):List Nat:=(List.range (n+1)).map fun i=>Vbdeab.choose n i*p ^ i*(q - p) ^ (n - i)
def Fk (m p q:Nat):List Nat:=(List.range m).map (fun i=>p*(q - p) ^ i*q ^ (m - 1 - i))++ [(q - p) ^ m]
def IA (t k n:Nat):List Nat:=(List.range (n+1)).map fun i=>Vbdeab.choose k i*Vbdeab.choose (t - k) (n - i)
theorem OY (n p q:Int):checked (build 6 [n,p,q] [])=if (0≤n∧n≤20)∧(1≤q∧q≤100)∧(0≤p∧p≤q) then wS (nats (Iy n.toNat p.toNat q.toNat)) (gr 0 (n.toNat+1)) else none:=by
 have e:build 6 [n,p,q] []=if within n 0 20=true∧within q 1 100=true∧within p 0 q=true then
    some (points ((List.range (n.toNat+1)).map fun i=>Vbdeab.choose n.toNat i*p.toNat ^ i*(q - p).toNat ^ (n.toNat - i)) 0) else none:=rfl
 rw [e,eF,eF,eF]
 simp only [fz]
 by_cases c:(0≤n∧n≤20)∧(1≤q∧q≤100)∧(0≤p∧p≤q)
 ·rw [if_pos c,if_pos c]
  have e2:(q - p).toNat=q.toNat - p.toNat:=by omega
  have z:=jA (ws:=Iy n.toNat p.toNat q.toNat) (i:=0) (by unfold Iy;rw [aD,fm,n6];omega)
  unfold Iy at z⊢
  rw [aD,fm] at z
  rw [e2]
  exact z
 ·rw [if_neg c,if_neg c]
  rfl
theorem OZ (n p q:Int):checked (build 7 [n,p,q] [])=if (0≤n∧n≤20)∧(1≤q∧q≤100)∧(0≤p∧p≤q) then wS (nats (Fk n.toNat p.toNat q.toNat)) (gr 0 (n.toNat+1)) else none:=by
 have e:build 7 [n,p,q] []=if within n 0 20=true∧within q 1 100=true∧within p 0 q=true then
    some (points ((List.range n.toNat).map (fun i=>p.toNat*(q - p).toNat ^ i*q.toNat ^ (n.toNat - 1 - i))++ [(q - p).toNat ^ n.toNat]) 0) else none:=rfl
 rw [e,eF,eF,eF]
 simp only [fz]
 by_cases c:(0≤n∧n≤20)∧(1≤q∧q≤100)∧(0≤p∧p≤q)
 ·rw [if_pos c,if_pos c]
  have e2:(q - p).toNat=q.toNat - p.toNat:=by omega
  have hl:(Fk n.toNat p.toNat q.toNat).length=n.toNat+1:=by unfold Fk;rw [bX,aD,fm];rfl
  have z:=jA (ws:=Fk n.toNat p.toNat q.toNat) (i:=0) (by rw [hl,n6];omega)
  rw [hl] at z
  unfold Fk at z⊢
  rw [e2]
  exact z
 ·rw [if_neg c,if_neg c]
  rfl
theorem O0 (t k n:Int):checked (build 8 [t,k,n] [])=if (0≤t∧t≤60)∧(0≤k∧k≤t)∧(0≤n∧n≤t) then wS (nats (IA t.toNat k.toNat n.toNat)) (gr 0 (n.toNat+1)) else none:=by
 have e:build 8 [t,k,n] []=if within t 0 60=true∧within k 0 t=true∧within n 0 t=true then
    some (points ((List.range (n.toNat+1)).map fun i=>Vbdeab.choose k.toNat i*Vbdeab.choose (t - k).toNat (n.toNat - i)) 0) else none:=rfl
 rw [e,eF,eF,eF]
 simp only [fz]
 by_cases c:(0≤t∧t≤60)∧(0≤k∧k≤t)∧(0≤n∧n≤t)
 ·rw [if_pos c,if_pos c]
  have e2:(t - k).toNat=t.toNat - k.toNat:=by omega
  have z:=jA (ws:=IA t.toNat k.toNat n.toNat) (i:=0) (by unfold IA;rw [aD,fm,n6];omega)
  unfold IA at z⊢
  rw [aD,fm] at z
  rw [e2]
  exact z
 ·rw [if_neg c,if_neg c]
  rfl
theorem O1 (n s:Int):checked (build 9 [n,s] [])=if (0≤n∧n≤6)∧(1≤s∧s≤10) then wS (nats (Vbdeab.throws s.toNat n.toNat)) (gr n.toNat (Vbdeab.throws s.toNat n.toNat).length) else none:=by
 have e:build 9 [n,s] []=if within n 0 6=true∧within s 1 10=true then some (points (Vbdeab.throws s.toNat n.toNat) n.toNat) else none:=rfl
 rw [e,eF,eF]
 simp only [fz]
 by_cases c:(0≤n∧n≤6)∧(1≤s∧s≤10)
 ·rw [if_pos c,if_pos c]
  obtain⟨m,hm⟩:∃m,s.toNat=m+1:=⟨s.toNat - 1,by omega⟩
  refine jA ?_
  rw [hm,Cb.throws_len,n6]
  have:n.toNat*m≤6*9:=Nat.mul_le_mul (by omega) (by omega)
  omega
 ·rw [if_neg c,if_neg c]
  rfl
theorem J3 {kind:Int} (a b:List Int) (h:∀k:Int,0≤k→k≤9→kind≠k):build kind a b=none:=by
 unfold build
 rw [if_neg (h 2 (by decide) (by decide)),if_neg (h 3 (by decide) (by decide)),if_neg (h 4 (by decide) (by decide)),if_neg (h 5 (by decide) (by decide))]
 split
 ·rfl
 ·rw [if_neg (h 0 (by decide) (by decide)),if_neg (h 1 (by decide) (by decide)),if_neg (h 6 (by decide) (by decide)),if_neg (h 7 (by decide) (by decide)),if_neg (h 8 (by decide) (by decide)),if_neg (h 9 (by decide) (by decide))]
def Mc (kind:Int):Nat:=if kind=0∨kind=1∨kind=9 then 2 else 3
theorem Lo {kind:Int} {a:List Int} (h:kind=0∨kind=1∨kind=6∨kind=7∨kind=8∨kind=9) (hl:a.length≠Mc kind):build kind a []=none:=by
 rcases h with rfl | rfl | rfl | rfl | rfl | rfl<;>(
  unfold Mc at hl
  simp at hl
  match a,hl with
  | [],_=>rfl
  | [_],_=>rfl
  | [_,_],hl=>first | rfl | exact absurd rfl hl
  | [_,_,_],hl=>first | rfl | exact absurd rfl hl
  | _::_::_::_::_,_=>rfl)
theorem Hy (n i:Nat):(Vbdeab.choose n i:Int)*((n:Int) - (i:Int)) /((i:Int)+1)=(Vbdeab.choose n (i+1):Int):=by
 have h:=Cb.choose_step n i
 have e:(Vbdeab.choose n i:Int)*((n:Int) - (i:Int))=(Vbdeab.choose n (i+1):Int)*((i:Int)+1):=by
  have h':(((i+1)*Vbdeab.choose n (i+1)+i*Vbdeab.choose n i:Nat):Int)=((n*Vbdeab.choose n i:Nat):Int):=by rw [h]
  rw [pI,b7,b7,b7,pI] at h'
  grind
 rw [e,Int.mul_ediv_cancel _ (by omega)]
theorem JR (l:List Nat) (i k:Nat):(l.take i).getD k 0=if k<i then l.getD k 0 else 0:=by
 rw [eX,eX,List.getElem?_take]
 split<;>rfl
theorem Js (x:Nat) (i k:Nat):∀s:Nat,((List.range s).map fun j=>if j≤k∧k - j=i then x else 0).sum=if i≤k∧k<i+s then x else 0
 | 0=>by simp;omega
 | s+1=>by
  rw [List.range_succ,du,List.sum_append,Js x i k s]
  simp only [eY,List.map_nil,Al,List.sum_nil,lP]
  repeat' split
  all_goals omega
theorem Jr (f g:Nat→Nat):∀l:List Nat,(l.map fun j=>f j+g j).sum=(l.map f).sum+(l.map g).sum
 | []=>rfl
 | a::r=>by
  rw [eY,eY,eY,Al,Al,Al,Jr f g r]
  omega
theorem GP (l:List Nat) (s i k:Nat) (hi:i<l.length):(Vbdeab.spread (l.take (i+1)) s).getD k 0=(Vbdeab.spread (l.take i) s).getD k 0+if i≤k∧k<i+s then l.getD i 0 else 0:=by
 rw [Cb.spread_get,Cb.spread_get,←Js,←Jr]
 congr 1
 refine nX fun j _=> ?_
 simp only [JR]
 by_cases h1:j≤k
 ·rw [if_pos h1,if_pos h1]
  by_cases h2:k - j=i
  ·rw [if_pos (by omega),if_neg (by omega),if_pos ⟨h1,h2⟩,h2,i3]
  ·have h4:¬(j≤k∧k - j=i):=fun z=>h2 z.2
   by_cases h3:k - j<i
   ·rw [if_pos (by omega),if_pos h3,if_neg h4];rfl
   ·rw [if_neg (by omega),if_neg h3,if_neg h4]
 ·have h4:¬(j≤k∧k - j=i):=fun z=>h1 z.1
  rw [if_neg h1,if_neg h1,if_neg h4]
theorem Cv (s k:Nat):(Vbdeab.spread [] s).getD k 0=0:=by
 rw [Cb.spread_get]
 have:∀l:List Nat,(l.map fun j=>if j≤k then([]:List Nat).getD (k - j) 0 else 0).sum=0:=fun l=>by
  induction l with
  | nil=>rfl
  | cons a r ih=>rw [eY,Al,ih];simp
 exact this _
theorem JS {t b:Int} {P:Int} {S:Nat} (hb:0<b) (hd:t∣P) (hS:S=Nat.gcd (P%b).natAbs b.toNat):Nat.gcd t.natAbs S=Nat.gcd t.natAbs b.toNat:=by
 obtain⟨B,rfl⟩:∃B:Nat,b=(B:Int):=⟨b.toNat,by omega⟩
 rw [cT] at hS⊢
 have hS2:S=Nat.gcd P.natAbs B:=by
  rw [hS]
  apply Hi
  ·refine yf ?_ (jg _ _)
   have h1:((Nat.gcd (P%(B:Int)).natAbs B:Nat):Int)∣P%(B:Int):=er _ _
   have h2:((Nat.gcd (P%(B:Int)).natAbs B:Nat):Int)∣(B:Int):=CJ.mpr (jg _ _)
   have h3:((Nat.gcd (P%(B:Int)).natAbs B:Nat):Int)∣P:=by
    have e:=Int.emod_add_mul_ediv P (B:Int)
    conv=>rhs;rw [←e]
    exact Int.dvd_add h1 (IC h2)
   have h4:=Ah.mpr h3
   rwa [kh] at h4
  ·refine yf ?_ (jg _ _)
   have h1:((Nat.gcd P.natAbs B:Nat):Int)∣P:=er _ _
   have h2:((Nat.gcd P.natAbs B:Nat):Int)∣(B:Int):=CJ.mpr (jg _ _)
   have h3:((Nat.gcd P.natAbs B:Nat):Int)∣P%(B:Int):=by
    rw [Int.emod_def]
    exact Int.dvd_sub h1 (IC h2)
   have h4:=Ah.mpr h3
   rwa [kh] at h4
 rw [hS2]
 have ht:t.natAbs∣P.natAbs:=Ah.mpr hd
 apply Hi
 ·exact yf (vF _ _) (Nat.dvd_trans (jg _ _) (jg _ _))
 ·exact yf (vF _ _) (yf (Nat.dvd_trans (vF _ _) ht) (jg _ _))
theorem EE {n d:Int} (h:0<d):(mkQ n d.toNat).num=n /((Nat.gcd n.natAbs d.toNat:Nat):Int):=rfl
theorem ED {n d:Int} (h:0<d):(((mkQ n d.toNat).den:Nat):Int)=d /((Nat.gcd n.natAbs d.toNat:Nat):Int):=by
 show((d.toNat /Nat.gcd n.natAbs d.toNat:Nat):Int)=_
 rw [CI,cC (fF h)]
theorem Lh {l s:Int} (h:0<s):Nat.gcd s.natAbs (l%s).natAbs=Nat.gcd l.natAbs s.natAbs:=by
 apply Hi
 ·refine yf ?_ (vF _ _)
  have h1:((Nat.gcd s.natAbs (l%s).natAbs:Nat):Int)∣s:=er _ _
  have h2:((Nat.gcd s.natAbs (l%s).natAbs:Nat):Int)∣l%s:=by rw [Nat.gcd_comm];exact er _ _
  have h3:((Nat.gcd s.natAbs (l%s).natAbs:Nat):Int)∣l:=by
   have e:=Int.emod_add_mul_ediv l s
   conv=>rhs;rw [←e]
   exact Int.dvd_add h2 (IC h1)
  have h4:=Ah.mpr h3
  rwa [kh] at h4
 ·refine yf (jg _ _) ?_
  have h1:((Nat.gcd l.natAbs s.natAbs:Nat):Int)∣l:=er _ _
  have h2:((Nat.gcd l.natAbs s.natAbs:Nat):Int)∣s:=by rw [Nat.gcd_comm];exact er _ _
  have h3:((Nat.gcd l.natAbs s.natAbs:Nat):Int)∣l%s:=by
   rw [Int.emod_def]
   exact Int.dvd_sub h1 (IC h2)
  have h4:=Ah.mpr h3
  rwa [kh] at h4
theorem C7 {l r:List Nat} (h:l.length=r.length) (e:∀k,k<l.length→l.getD k 0=r.getD k 0):l=r:=by
 refine List.ext_getElem h fun i h1 h2=> ?_
 have:=e i h1
 rw [eX,eX,bF h1,bF h2] at this
 exact this
end Kd
end
section
namespace Lt
open Vbdeab (M)
def left:List Nat→List Nat→List Nat
 | [],ws=>ws
 | u::r,ws=>left r (ws.set (chosen ws u) 0)
theorem yt (u:Nat):∀(us ws:List Nat),left (us++ [u]) ws=(left us ws).set (chosen (left us ws) u) 0
 | [],ws=>rfl
 | v::r,ws=>by
  show left (r++ [u]) _=_
  rw [yt u r]
  rfl
theorem DR (u:Nat):∀(us ws:List Nat),lotsOf (us++ [u]) ws=lotsOf us ws++ [chosen (left us ws) u]
 | [],ws=>rfl
 | v::r,ws=>by
  show chosen ws v::lotsOf (r++ [u]) _=_
  rw [DR u r]
  rfl
theorem xa:∀(us ws:List Nat),(lotsOf us ws).length=us.length
 | [],_=>rfl
 | u::r,ws=>by
  show(lotsOf r _).length+1=_
  rw [xa r]
  rfl
def pos (ws:List Nat):Nat:=(ws.filter fun w=>decide (0<w)).length
theorem oU (w:Nat) (r:List Nat):pos (w::r)=(if 0<w then 1 else 0)+pos r:=by
 unfold pos
 rw [ur]
 by_cases h:0<w
 ·rw [if_pos (aE h),if_pos h,d5];omega
 ·rw [if_neg (by simp;omega),if_neg h,i3]
theorem Jk:∀{ws:List Nat} {i w:Nat},ws[i]?=some w→0<w→pos (ws.set i 0)+1=pos ws
 | [],i,w,h,_=>by simp at h
 | x::r,0,w,h,hw=>by
  simp at h
  subst h
  rw [List.set_cons_zero,oU,oU,if_neg (by omega),if_pos hw]
  omega
 | x::r,i+1,w,h,hw=>by
  have ih:=Jk (ws:=r) (i:=i) (by simpa using h) hw
  rw [List.set_cons_succ,oU,oU]
  omega
theorem Jt:∀{ws:List Nat} {i w:Nat},ws[i]?=some w→Vbdeab.sum (ws.set i 0)+w=Vbdeab.sum ws
 | [],i,w,h=>by simp at h
 | x::r,0,w,h=>by
  simp at h
  subst h
  rw [List.set_cons_zero,Ch.sum_cons,Ch.sum_cons]
  omega
 | x::r,i+1,w,h=>by
  have ih:=Jt (ws:=r) (i:=i) (w:=w) (by simpa using h)
  rw [List.set_cons_succ,Ch.sum_cons,Ch.sum_cons]
  omega
theorem ER:∀{ws:List Nat},0<pos ws→0<Vbdeab.sum ws
 | [],h=>by simp [pos] at h
 | w::r,h=>by
  rw [oU] at h
  rw [Ch.sum_cons]
  by_cases q:0<w
  ·omega
  ·rw [if_neg q,i3] at h
   have:=ER h
   omega
theorem Gi:∀{ws:List Nat} {x b:Nat},x<M*(b+Vbdeab.sum ws)→M*b≤x→∃w,ws[place ws x b]?=some w∧0<w
 | [],x,b,h,k=>by
  rw [Ch.sum_nil,lP] at h
  omega
 | w::r,x,b,h,k=>by
  unfold place
  by_cases q:x<M*(b+w)
  ·rw [if_pos q]
   refine⟨w,rfl,?_⟩
   rcases Ei w with z | z
   ·rw [z,lP] at q;omega
   ·exact z
  ·rw [if_neg q]
   obtain⟨v,hv,hp⟩:=Gi (ws:=r) (x:=x) (b:=b+w) (by rw [Ch.sum_cons] at h;rw [ye];exact h) (Nat.not_lt.mp q)
   refine⟨v,?_,hp⟩
   rw [Nat.add_comm 1,List.getElem?_cons_succ]
   exact hv
theorem JN {ws:List Nat} {u:Nat} (hu:u<M) (hs:0<Vbdeab.sum ws):∃w,ws[chosen ws u]?=some w∧0<w:=
 Gi (b:=0) (by rw [i3];exact Ch.Ja hu hs) (by rw [Nat.mul_zero];exact bn _)
structure Ej (ws0:List Nat) (i:Nat) (ws:List Nat):Prop where
 len:ws.length=ws0.length
 pos:pos ws+i=pos ws0
 sum:Vbdeab.sum ws≤Vbdeab.sum ws0
theorem Ej.start (ws:List Nat):Ej ws 0 ws:=⟨rfl,rfl,bp _⟩
theorem Ej.step {ws0 ws:List Nat} {i u:Nat} (h:Ej ws0 i ws) (hi:i<Lt.pos ws0) (hu:u<M):Ej ws0 (i+1) (ws.set (chosen ws u) 0)∧chosen ws u<ws.length:=by
 have hp:=h.pos
 obtain⟨w,hw,hw0⟩:=JN hu (ER (ws:=ws) (by omega))
 have h1:=Jk hw hw0
 have h2:=Jt hw
 have h3:=h.sum
 exact⟨⟨by rw [r9];exact h.len,by omega,by omega⟩,(cb.mp hw).1⟩
theorem Ej.spos {ws0 ws:List Nat} {i:Nat} (h:Ej ws0 i ws) (hi:i<Lt.pos ws0):0<Vbdeab.sum ws:=ER (by have:=h.pos;omega)
end Lt
end
section
namespace L2
open PySem PySem.Spec PyProof.Rows
abbrev yk:=Sum Int Str
def DP:yk→Value→Bool
 | .inl k,v=>Value.isInt k v
 | .inr x,v=>Value.isStrOf x v
def P0 (w:World):yk→Int
 | .inl k=>hashInt k
 | .inr x=>hashStr w x
theorem eS:∀{k:yk} {v:Value},DP k v=true→(∃i t,k=Sum.inl i∧v=Value.int i t)∨(∃x t,k=Sum.inr x∧v=Value.str x t)
 | .inl i,v,h=>by
  obtain⟨t,e⟩:=Value.isInt_shape (k:=i) (v:=v) h
  exact .inl ⟨i,t,rfl,e⟩
 | .inr x,v,h=>by
  obtain⟨t,e⟩:=Value.isStrOf_shape (x:=x) (v:=v) h
  exact .inr ⟨x,t,rfl,e⟩
theorem JX (i:Int) (t:Tok):DP (.inl i) (.int i t)=true:=by simp [DP,Value.isInt]
theorem JY (x:Str) (t:Tok):DP (.inr x) (.str x t)=true:=by simp [DP,Value.isStrOf]
theorem N2 (a b:Int):decide ((Sum.inl a:yk)=Sum.inl b)=(a==b):=by
 by_cases e:a=b
 ·subst e;simp
 ·have h:¬(Sum.inl a:yk)=Sum.inl b:=fun q=>e (Sum.inl.inj q)
  rw [bq h]
  exact(beq_eq_false_iff_ne.mpr e).symm
theorem N5 (a b:Str):decide ((Sum.inr a:yk)=Sum.inr b)=decide (a=b):=by
 by_cases e:a=b
 ·subst e;simp
 ·have h:¬(Sum.inr a:yk)=Sum.inr b:=fun q=>e (Sum.inr.inj q)
  rw [bq h,bq e]
theorem N3 (a:Int) (b:Str):decide ((Sum.inl a:yk)=Sum.inr b)=false:=bq (fun q=>nomatch q)
theorem N4 (a:Str) (b:Int):decide ((Sum.inr a:yk)=Sum.inl b)=false:=bq (fun q=>nomatch q)
def lR (prog:Program) (w:World):PySem.KeyKind prog w yk where
 is:=DP
 hash:=P0 w
 inj:=fun v a b ha hb=>by
  rcases eS ha with⟨i,t,rfl,rfl⟩ | ⟨x,t,rfl,rfl⟩
  ·rcases eS hb with⟨j,u,rfl,e⟩ | ⟨y,u,rfl,e⟩
   ·injection e with e1 _;rw [e1]
   ·exact nomatch e
  ·rcases eS hb with⟨j,u,rfl,e⟩ | ⟨y,u,rfl,e⟩
   ·exact nomatch e
   ·injection e with e1 _;rw [e1]
 byValue:=fun k v h=>by
  rcases eS h with⟨i,t,rfl,rfl⟩ | ⟨x,t,rfl,rfl⟩<;>rfl
 pyHash:=fun hv h=>by
  rcases eS hv with⟨i,t,rfl,rfl⟩ | ⟨x,t,rfl,rfl⟩
  ·exact wpAny_pyHash_int h
  ·exact wpAny_pyHash_str h
 eqBool:=fun hu hv h=>by
  rcases eS hu with⟨i,t,rfl,rfl⟩ | ⟨x,t,rfl,rfl⟩
  ·rcases eS hv with⟨j,u,rfl,rfl⟩ | ⟨y,u,rfl,rfl⟩
   ·rw [N2] at h;exact wpAny_eqBool_int h
   ·rw [N3] at h;exact SeqAt.EqAt.int_str i t y u _ _ _ _ h
  ·rcases eS hv with⟨j,u,rfl,rfl⟩ | ⟨y,u,rfl,rfl⟩
   ·rw [N4] at h;exact SeqAt.EqAt.str_int x t j u _ _ _ _ h
   ·rw [N5] at h;exact wpAny_eqBool_str h
 «strs»:=fun k x t v h=>by
  rcases eS h with⟨i,u,rfl,e⟩ | ⟨y,u,rfl,e⟩
  ·exact nomatch e
  ·injection e with e1 _
   subst e1
   cases v<;>rfl
theorem FS (prog:Program) (w:World) (i:Int) (t:Tok):(lR prog w).is (.inl i) (.int i t)=true:=JX i t
theorem FT (prog:Program) (w:World) (x:Str) (t:Tok):(lR prog w).is (.inr x) (.str x t)=true:=JY x t
end L2
namespace L2
open PySem PySem.Spec PyProof.Rows
inductive V where
 | non | bl (b:Bool) | int (i:Int) | str (x:Str) | byt (b:Array UInt8) | flt (b:UInt64) | ref (a:Addr) | ty (n:String)
 deriving DecidableEq
def cX:V→Value→Prop
 | .non,u=>u=Value.none
 | .bl b,u=>u=Value.bool b
 | .int i,u=>∃t,u=Value.int i t
 | .str x,u=>∃t,u=Value.str x t
 | .byt b,u=>∃t,u=Value.bytes b t
 | .flt b,u=>∃t,u=Value.float b t
 | .ref a,u=>u=Value.ref a
 | .ty n,u=>u=Value.type n
abbrev bM:List V→List Value→Prop:=Paired cX
theorem bM.length {xs:List V} {us:List Value} (r:bM xs us):xs.length=us.length:=Paired.length r
theorem bM.get:∀{xs:List V} {us:List Value} {i:Nat} {x:V},bM xs us→xs[i]?=some x→∃u,us[i]?=some u∧cX x u
 | _,_,_,_,.nil,e=>by simp at e
 | _,_,0,_,.cons r _,e=>by simp at e;subst e;exact⟨_,rfl,r⟩
 | _,_,i+1,x,.cons _ t,e=>by
  obtain⟨u,h1,h2⟩:=bM.get (i:=i) (x:=x) t (by simpa using e)
  exact⟨u,by simpa using h1,h2⟩
theorem bM.set {x:V} {u:Value} (r:cX x u):∀{xs:List V} {us:List Value} (i:Nat),bM xs us→bM (xs.set i x) (us.set i u)
 | _,_,_,.nil=> .nil
 | _,_,0,.cons _ t=> .cons r t
 | _,_,i+1,.cons q t=> .cons q (bM.set r i t)
theorem bM.append:∀{xs ys:List V} {us ws:List Value},bM xs us→bM ys ws→bM (xs++ys) (us++ws)
 | _,_,_,_,.nil,s=>s
 | _,_,_,_,.cons r t,s=> .cons r (bM.append t s)
theorem bM.take:∀{xs:List V} {us:List Value} (n:Nat),bM xs us→bM (xs.take n) (us.take n)
 | _,_,0,_=> .nil
 | _,_,_+1,.nil=> .nil
 | _,_,n+1,.cons r t=> .cons r (bM.take n t)
theorem bM.drop:∀{xs:List V} {us:List Value} (n:Nat),bM xs us→bM (xs.drop n) (us.drop n)
 | _,_,0,r=>r
 | _,_,_+1,.nil=> .nil
 | _,_,n+1,.cons _ t=>bM.drop n t
def vH:Option V→Option Value→Prop
 | some v,some u=>cX v u
 | none,none=>True
 | _,_=>False
def KV {κ:Type}:List (κ×V)→List (κ×Value)→Prop:=Paired fun(p:κ×V) (q:κ×Value)=>p.1=q.1∧cX p.2 q.2
def kV:yk→V
 | .inl i=> .int i
 | .inr x=> .str x
inductive HO where
 | lst (xs:List V)
 | tup (xs:List V)
 | dK (kvs:List (yk×V)) | dT (kvs:List (List yk×V))
 | set (S:Int→Bool) (n:Nat)
 | ins (C dx:Addr) (fs:List (Str×V))
 | own (x:Addr)
 | xd (fs:List (Str×V))
 | met (f x:Addr)
 | rng (lo hi:Int)
 | frz (o:Obj) (u:HO)
 | tbl (ps:Array Value)
 | ext (φ:Heap→Prop)
abbrev Hp:=Addr→Option HO
def bR (H:Hp) (a:Addr) (o:HO):Hp:=fun b=>if b=a then some o else H b
theorem af {H:Hp} {a:Addr} {o:HO}:bR H a o a=some o:=by unfold bR;rw [if_pos rfl]
theorem ak {H:Hp} {a b:Addr} {o:HO} (h:b≠a):bR H a o b=H b:=by unfold bR;rw [if_neg h]
theorem bf {H:Hp} {a b:Addr} {o u:HO} (h:H a=some o) (h':H b=some u) (d:o≠u):a≠b:=by
 intro e;subst e;rw [h] at h';exact d (bE h')
theorem aw {H:Hp} {a b:Addr} {o:HO} (h:H a=some o) (h':H b=none):a≠b:=by
 intro e;subst e;rw [h] at h';cases h'
section
variable (P:Program) (w:World)
def iB (H:Hp) (h:Heap) (a:Addr):HO→Prop
 | .lst xs=>xs.length≤sizeLine∧∃(its:List Value) (n:Nat),bM xs its∧h.get? a=some {cls:= .type "list",data:= .seq its.toArray n}
 | .tup xs=>xs.length≤sizeLine∧∃its:List Value,bM xs its∧IsTup h a its.toArray
 | .dK kvs=>kvs.length≤sizeLine∧(a==sysModules)=false∧∃vs,KV kvs vs∧h.DictOf (lR P w) a vs
 | .dT kvs=>kvs.length≤sizeLine∧(a==sysModules)=false∧∃xs:List (List yk×Addr×Value),
   Paired (fun(p:List yk×V) (q:List yk×Addr×Value)=>p.1=q.1∧H q.2.1=some (.tup (p.1.map kV))∧cX p.2 q.2.2) kvs xs∧
   ∃o es ep,h.get? a=some o∧o.ExactDict∧o.data= .dict es ep∧es.toList=xs.map (entryOfKey (tupleKind (lR P w)))∧(xs.map (·.1)).Nodup
 | .set S n=>h.SetOf (intKind P w) a S n
 | .ins C dx fs=>H dx=some (.own a)∧fs.length≤1000∧dx≠a∧h.get? a=some (PySem.W.instObj C dx)∧
   ∃mA,h.Ns1 dx mA∧(∀f,vH (fs.lookup f) (mA f))∧PySem.Within mA (fs.map (·.1))
 | .own _=>∃o,h.get? a=some o
 | .xd fs=>∃mA,h.Ns1 a mA∧∀f,vH (fs.lookup f) (mA f)
 | .rng lo hi=>∃t u v,h.get? a=some {cls:= .type "range",data:= .fields #[.int lo t,.int hi u,.int 1 v]}
 | .frz o u=>h.get? a=some o∧iB H h a u
 | .tbl ps=>h.get? a=some {cls:= .none,data:= .fields ps}
 | .met f x=>h.get? a=some (PySem.W.methodObj (.ref f) (.ref x))
 | .ext φ=>φ h∧(∃o,h.get? a=some o)∧∀h1 h2:Heap,φ h1→(∀o,h1.get? a=some o→h2.get? a=some o)→φ h2
def vG (H:Hp) (h:Heap):Prop:=∀a o,H a=some o→iB P w H h a o
end
section
variable {P:Program} {w:World} {H H':Hp} {h h':Heap} {a:Addr} {o:HO}
theorem iB.lt (x:iB P w H h a o):a<h.objs.size:=by
 cases o with
 | lst xs=>obtain⟨_,_,_,_,e⟩:=x;exact fj e
 | tup xs=>obtain⟨_,_,_,p⟩:=x;exact p.lt
 | dK kvs=>obtain⟨_,_,_,_,o,_,_,e,_⟩:=x;exact fj e
 | dT kvs=>obtain⟨_,_,_,_,o,_,_,e,_⟩:=x;exact fj e
 | set S n=>obtain⟨o,_,_,_,e,_⟩:=x;exact fj e
 | ins C dx fs=>obtain⟨_,_,_,e,_⟩:=x;exact fj e
 | own y=>obtain⟨_,e⟩:=x;exact fj e
 | xd fs=>obtain⟨_,⟨_,_,_,e,_⟩,_⟩:=x;exact fj e
 | rng lo hi=>obtain⟨_,_,_,e⟩:=x;exact fj e
 | frz ob u=>obtain⟨e,_⟩:=x;exact fj e
 | tbl ps=>exact fj (show h.get? a=some _ from x)
 | met f y=>exact fj (show h.get? a=some _ from x)
 | ext φ=>obtain⟨_,⟨_,e⟩,_⟩:=x;exact fj e
theorem Paired.mapP {α β:Type} {F G:α→β→Prop}:∀{l₁:List α} {l₂:List β},Paired F l₁ l₂→(∀a b,F a b→G a b)→Paired G l₁ l₂
 | _,_,.nil,_=> .nil
 | _,_,.cons r t,f=> .cons (f _ _ r) (Paired.mapP t f)
theorem iB.stay (x:iB P w H h a o) (k:∀b u,(b=a∨H b=some (.own a))→h.get? b=some u→h'.get? b=some u)
  (ho:∀b,H b=some (.own a)→H' b=some (.own a)) (ht:∀b xs,H b=some (.tup xs)→H' b=some (.tup xs)):iB P w H' h' a o:=by
 induction o with
 | lst xs=>obtain⟨z,its,n,r,e⟩:=x;exact⟨z,its,n,r,k _ _ (.inl rfl) e⟩
 | tup xs=>obtain⟨z,its,r,ob,e,c⟩:=x;exact⟨z,its,r,ob,k _ _ (.inl rfl) e,c⟩
 | dK kvs=>obtain⟨z,y,vs,r,ob,es,ep,e,c⟩:=x;exact⟨z,y,vs,r,ob,es,ep,k _ _ (.inl rfl) e,c⟩
 | dT kvs=>
  obtain⟨z,y,xs,r,ob,es,ep,e,c⟩:=x
  exact⟨z,y,xs,Paired.mapP r fun p q z=>⟨z.1,ht _ _ z.2.1,z.2.2⟩,ob,es,ep,k _ _ (.inl rfl) e,c⟩
 | set S n=>obtain⟨ob,es,ep,t,e,c⟩:=x;exact⟨ob,es,ep,t,k _ _ (.inl rfl) e,c⟩
 | ins C dx fs=>
  obtain⟨d,z,ne,e,mA,⟨od,es,ep,e2,c⟩,r⟩:=x
  exact⟨ho _ d,z,ne,k _ _ (.inl rfl) e,mA,⟨od,es,ep,k _ _ (.inr d) e2,c⟩,r⟩
 | own y=>obtain⟨ob,e⟩:=x;exact⟨ob,k _ _ (.inl rfl) e⟩
 | xd fs=>obtain⟨mA,⟨od,es,ep,e,c⟩,r⟩:=x;exact⟨mA,⟨od,es,ep,k _ _ (.inl rfl) e,c⟩,r⟩
 | rng lo hi=>obtain⟨t,u,v,e⟩:=x;exact⟨t,u,v,k _ _ (.inl rfl) e⟩
 | frz ob u ih=>obtain⟨e,q⟩:=x;exact⟨k _ _ (.inl rfl) e,ih q⟩
 | tbl ps=>
  have e:h.get? a=some {cls:= .none,data:= .fields ps}:=x
  show h'.get? a=some {cls:= .none,data:= .fields ps}
  exact k a _ (.inl rfl) e
 | met f y=>
  have e:h.get? a=some (PySem.W.methodObj (.ref f) (.ref y)):=x
  show h'.get? a=some (PySem.W.methodObj (.ref f) (.ref y))
  exact k a _ (.inl rfl) e
 | ext φ=>obtain⟨p,⟨o,e⟩,st⟩:=x;exact⟨st _ _ p fun o q=>k _ _ (.inl rfl) q,⟨o,k _ _ (.inl rfl) e⟩,st⟩
theorem vG.lt (x:vG P w H h) (e:H a=some o):a<h.objs.size:=(x a o e).lt
theorem vG.fresh (x:vG P w H h) (e:h.objs.size≤a):H a=none:=by
 cases q:H a with
 | none=>rfl
 | some u=>exact absurd (gO (x.lt q) e) (sn _)
theorem vG.kept (x:vG P w H h) (k:∀b u,h.get? b=some u→h'.get? b=some u):vG P w H h':=fun a o e=>
 (x a o e).stay (fun b u _ q=>k b u q) (fun _ q=>q) fun _ _ q=>q
theorem vG.laid (x:vG P w H h) (k:∀b u,h.get? b=some u→h'.get? b=some u) (hp:h.objs.size≤a) (new:iB P w (bR H a o) h' a o):vG P w (bR H a o) h':=fun b u e=>by
 have hn:=x.fresh hp
 by_cases hb:b=a
 ·subst hb;rw [af] at e;cases e;exact new
 ·rw [ak hb] at e
  exact(x b u e).stay (fun c v _ q=>k c v q) (fun c q=>by rw [ak (aw q hn)];exact q) fun c xs q=>by rw [ak (aw q hn)];exact q
end
def Rd (H:Hp) (a:Addr) (u:HO):Prop:=H a=some u∨∃o,H a=some (.frz o u)
theorem Rd.ok {P:Program} {w:World} {H:Hp} {h:Heap} {a:Addr} {u:HO} (r:Rd H a u) (x:vG P w H h):iB P w H h a u:=by
 rcases r with r | ⟨o,r⟩
 ·exact x a u r
 ·obtain⟨_,q⟩:=x a _ r
  exact q
def Pu:Option HO→Prop
 | some (.lst _)=>True
 | some (.dK _)=>True
 | some (.dT _)=>True
 | some (.set _ _)=>True
 | some (.ins _ _ _)=>True
 | some (.ext _)=>True
 | _=>False
section
variable {P:Program} {w:World} {H:Hp} {h h':Heap} {x e:Addr} {o':HO}
theorem vG.write (ok:vG P w H h) (mu:Pu (H x)) (he:e=x∨H e=some (.own x)) (k:∀b u,b≠e→h.get? b=some u→h'.get? b=some u) (heo:∃u,h'.get? e=some u)
  (new:iB P w (bR H x o') h' x o'):vG P w (bR H x o') h':=fun b u q=>by
 have nown:∀c y,H c=some (.own y)→c≠x:=fun c y r z=>by subst z;rw [r] at mu;exact mu
 have ntup:∀c xs,H c=some (.tup xs)→c≠x:=fun c xs r z=>by subst z;rw [r] at mu;exact mu
 by_cases hb:b=x
 ·subst hb;rw [af] at q;cases q;exact new
 ·rw [ak hb] at q
  by_cases hbe:b=e
  ·have q':H b=some (.own x):=by
    rcases he with z | z
    ·exact absurd (hbe.trans z) hb
    ·rw [hbe];exact z
   rw [q] at q';cases q'
   obtain⟨v,hv⟩:=heo
   exact⟨v,by rw [hbe];exact hv⟩
  ·refine(ok b u q).stay (fun c v hc r=>k c v ?_ r) (fun c r=>by rw [ak (nown c b r)];exact r) fun c xs r=>by rw [ak (ntup c xs r)];exact r
   rcases hc with rfl | hc
   ·exact hbe
   ·rintro rfl
    rcases he with z | z
    ·exact nown c b hc z
    ·rw [hc] at z;cases z;exact hb rfl
end
structure Un (fs ex:List Addr) (H H':Hp) (h h':Heap):Prop where
 keep:∀b o,h.get? b=some o→H b=none→b ∉ fs→b ∉ ex→h'.get? b=some o
 slot:∀b o,h.get? b=some o→H b=none→b∈fs→b ∉ ex→∃sl,h'.get? b=some {o with slots:=sl}
 free:∀b o,h.get? b=some o→H b=none→b ∉ ex→H' b=none
 there:∀b o,h.get? b=some o→b ∉ ex→∃o',h'.get? b=some o'
 tups:∀b xs,H b=some (.tup xs)→H' b=some (.tup xs)
 frzs:∀b o u,H b=some (.frz o u)→H' b=some (.frz o u)
 tbls:∀b ps,H b=some (.tbl ps)→∃more,H' b=some (.tbl (ps++more))
section
variable {fs fs' ex ex':List Addr} {H H1 H2:Hp} {h h1 h2 h':Heap} {a x e:Addr} {o:HO}
theorem Un.any (u:Un fs ex H H1 h h1) {b:Addr} {ob:Obj} (q:h.get? b=some ob) (n:H b=none) (hx:b ∉ ex):∃sl,h1.get? b=some {ob with slots:=sl}:=by
 by_cases hb:b∈fs
 ·exact u.slot b ob q n hb hx
 ·exact⟨ob.slots,u.keep b ob q n hb hx⟩
theorem Un.kept (k:∀b u,h.get? b=some u→h'.get? b=some u):Un fs ex H H h h':=
 ⟨fun b ob q _ _ _=>k b ob q,fun b ob q _ _ _=>⟨ob.slots,k b ob q⟩,fun _ _ _ n _=>n,fun b ob q _=>⟨ob,k b ob q⟩,fun _ _ q=>q,fun _ _ _ q=>q,fun _ ps q=>⟨#[],by rw [q];simp⟩⟩
theorem Un.refl:Un fs ex H H h h:=Un.kept fun _ _ q=>q
theorem Un.laid (k:∀b u,h.get? b=some u→h'.get? b=some u) (hp:h.objs.size≤a) (hn:H a=none):Un fs ex H (bR H a o) h h' where
 keep:=fun b u q _ _ _=>k b u q
 slot:=fun b u q _ _ _=>⟨u.slots,k b u q⟩
 free:=fun b u q n _=>by rw [ak (fi (gO (fj q) hp))];exact n
 there:=fun b u q _=>⟨u,k b u q⟩
 tups:=fun b xs q=>by rw [ak (aw q hn)];exact q
 frzs:=fun b u xs q=>by rw [ak (aw q hn)];exact q
 tbls:=fun b ps q=>⟨#[],by rw [ak (aw q hn),q];simp⟩
theorem Un.write (mu:Pu (H x)) (he:e=x∨H e=some (.own x)) (k:∀b u,b≠e→h.get? b=some u→h'.get? b=some u) (heo:∃u,h'.get? e=some u):Un fs ex H (bR H x o) h h':=by
 have hx:∀b,H b=none→b≠x:=fun b n z=>by subst z;rw [n] at mu;exact mu
 have hb:∀b,H b=none→b≠e:=fun b n z=>by
  subst z
  rcases he with r | r
  ·exact hx b n r
  ·rw [n] at r;cases r
 have hm:∀b u,H b=some u→¬Pu (some u)→b≠x:=fun b u q nm z=>by subst z;rw [q] at mu;exact nm mu
 refine⟨fun b u q n _ _=>k b u (hb b n) q,fun b u q n _ _=>⟨u.slots,k b u (hb b n) q⟩,fun b u q n _=>by rw [ak (hx b n)];exact n,fun b u q _=> ?_,
  fun b xs q=>by rw [ak (hm b _ q fun z=>z)];exact q,fun b u xs q=>by rw [ak (hm b _ q fun z=>z)];exact q,fun b ps q=>⟨#[],by rw [ak (hm b _ q fun z=>z),q];simp⟩⟩
 by_cases hbe:b=e
 ·subst hbe;exact heo
 ·exact⟨u,k b u hbe q⟩
end
def PB (h:Heap) (H:Hp):List Addr:=(List.range h.objs.size).filter fun a=>(H a).isSome
def Ew (h:Heap) (H:Hp):Heap:=PySem.W.hideAll h (PB h H)
theorem JT (h:Heap) (H:Hp):(Ew h H).objs.size=h.objs.size:=PySem.W.hideAll_size _ _
theorem Lk {h:Heap} {H:Hp} {b:Addr} {o:Obj} (e:h.get? b=some o) (n:H b=none):(Ew h H).get? b=some o:=
 PySem.W.hideAll_get _ e fun hm=>by
  have q:(H b).isSome=true:=(CP.mp hm).2
  rw [n] at q;simp at q
theorem MW {h:Heap} {H:Hp} {b:Addr} {o:Obj} (e:(Ew h H).get? b=some o):h.get? b=some o∧H b=none:=by
 have e':h.get? b=some o:=PySem.W.of_hideAll (PB h H) e
 refine⟨e',?_⟩
 cases q:H b with
 | none=>rfl
 | some x=>
  have hm:b∈PB h H:=CP.mpr ⟨List.mem_range.mpr (fj e'),by simp [q]⟩
  have z:(Ew h H).get? b=none:=PySem.W.hideAll_none (PB h H) hm
  rw [z] at e;cases e
end L2
namespace L2
open PySem PySem.Spec PyProof.Rows
structure Mod (K:PySem.W.Frag) (mg:Str→Option Value) (base:Heap):Prop where
 kin:K.In base
 glob:base.Ns mainGlobals mg
 blt:∃mb,base.Ns builtinsNs mb∧∀x:Str,x≠"__name__"→mb x=bootBuiltins x
 nolimit:base.NoLimit
structure Cx where
 prog:Program
 w:World
 K:PySem.W.Frag
 mg:Str→Option Value
 base:Heap
 A:Around
 N:List Str
 s_0:Shared
 H_0:Hp
 env:Env
 outer:List Env
 stack:List Env
 ex:List Addr
 fn:Str→Bool
 calm:Bool
 pn:List (Addr×Obj)
 xe:Value→Shared→Prop
def Lf (l:List Env):List Addr:=l.filterMap (·.frame)
abbrev Cx.fs (X:Cx):List Addr:=Lf X.outer
def NO (sc:Scope) (x:Str):Prop:=sc.names.lookup x=some .local∨sc.names.lookup x=some .cell∨sc.names.lookup x=some .free
def NL (sc:Scope) (x:Str):Prop:=sc.names.lookup x=some .local∨sc.names.lookup x=some .cell
def PF (env:Env) (h:Heap) (m:Str→Option Value) (x:Str) (u:Value):Prop:=
 (env.kindOf x=some .local∧m x=some u)∨((env.kindOf x=some .cell∨env.kindOf x=some .free)∧∃c,env.cells.lookup x=some c∧h.IsCell c (some u))
structure Cx.Ok (X:Cx):Prop where
 mod:Mod X.K X.mg X.base
 kind:X.env.scope.kind= .function
 glob:X.env.globals=mainGlobals
 blt:X.env.builtins=builtinsNs
 above:X.s_0.heap.objs.size≤X.env.locals
 inj:∀x y c,X.env.cells.lookup x=some c→X.env.cells.lookup y=some c→x=y
 has:∀x,(X.env.kindOf x=some .cell∨X.env.kindOf x=some .free)→∃c,X.env.cells.lookup x=some c
 cab:∀x c,X.fn x=true→X.env.cells.lookup x=some c→X.s_0.heap.objs.size≤c
 hd:X.calm=true→X.A.handled=none
 frames:X.A.frames=some X.stack
 stk:X.stack=X.outer∨(X.stack=X.env::X.outer∧X.env.frame=some X.env.locals)
 exf:∀b∈X.ex,b≠X.env.locals∧∀x c,X.env.cells.lookup x=some c→c≠b
 bs:∀b o,X.base.get? b=some o→X.s_0.heap.get? b=some o∧X.H_0 b=none
 bsz:X.base.objs.size≤X.s_0.heap.objs.size
 noex:∀b o,X.base.get? b=some o→b ∉ X.ex
 exfs:∀b∈X.ex,b ∉ X.fs
 funs:X.s_0.heap.FunFrames X.base X.outer
 frf:∀b∈X.fs,X.H_0 b=none
structure bd (X:Cx) (pins:List (Addr×Obj)) (σ:List (Option V)) (H:Hp) (s:Shared):Prop where
 ok:X.Ok
 os:s.os=X.s_0.os
 bare:AllBare s.gens
 base:Un X.fs X.ex X.H_0 H X.s_0.heap s.heap
 loc:∃m,s.heap.Ns X.env.locals m∧∀(i:Nat) (x:Str) (v:V),X.N[i]?=some x→σ[i]?=some (some v)→NO X.env.scope x→∃u,cX v u∧PF X.env s.heap m x u
 cell:∀x c,X.env.cells.lookup x=some c→∃v,s.heap.IsCell c v
 free:H X.env.locals=none
 freeC:∀x c,X.env.cells.lookup x=some c→H c=none
 pin:∀p∈X.pn++pins,s.heap.get? p.1=some p.2∧H p.1=none∧p.1≠X.env.locals∧p.1 ∉ X.fs∧∀v,p.2.data≠ .cell v
 hok:vG X.prog X.w H s.heap
 len:σ.length=X.N.length
section
variable {X:Cx} {pins:List (Addr×Obj)} {σ:List (Option V)} {H H':Hp} {s:Shared} {h':Heap}
theorem Cx.Ok.nofr (ok:X.Ok) {b:Addr} {o:Obj} (e:X.base.get? b=some o):b ∉ X.fs:=fun hb=>by
 have:=(ok.funs.mem hb).1
 rw [e] at this;cases this
theorem bd.bs (I:bd X pins σ H s):∀b o,X.base.get? b=some o→s.heap.get? b=some o∧H b=none:=fun b o e=>
 ⟨I.base.keep b o (I.ok.bs b o e).1 (I.ok.bs b o e).2 (I.ok.nofr e) (I.ok.noex b o e),I.base.free b o (I.ok.bs b o e).1 (I.ok.bs b o e).2 (I.ok.noex b o e)⟩
theorem bd.bk (I:bd X pins σ H s):∀b o,X.base.get? b=some o→s.heap.get? b=some o:=fun b o e=>(I.bs b o e).1
theorem bd.mod (I:bd X pins σ H s):Mod X.K X.mg X.base:=I.ok.mod
theorem bd.kIn (I:bd X pins σ H s):X.K.In s.heap:=I.ok.mod.kin.keeps I.bk
theorem bd.nolimit (I:bd X pins σ H s):s.heap.NoLimit:=I.ok.mod.nolimit.keeps I.bk
theorem bd.fr (I:bd X pins σ H s):∃m,Fr X.base X.env.locals s.heap m:=
 let ⟨m,hn,_⟩:=I.loc
 ⟨m,hn,I.bk,fQ I.ok.bsz I.ok.above⟩
theorem bd.lt (I:bd X pins σ H s):X.env.locals<s.heap.objs.size:=let ⟨_,hn,_⟩:=I.loc;hn.lt
theorem bd.sz (I:bd X pins σ H s):X.s_0.heap.objs.size≤s.heap.objs.size:=fQ I.ok.above (Nat.le_of_lt I.lt)
theorem bd.nofs (I:bd X pins σ H s) {a:Addr} (h:s.heap.objs.size≤a):a ∉ X.fs:=fun hb=>by
 obtain⟨_,o,ho,_⟩:=I.ok.funs.mem hb
 exact absurd (gO (fj ho) (fQ I.sz h)) (sn _)
theorem bd.cne (I:bd X pins σ H s):∀x c,X.env.cells.lookup x=some c→c≠X.env.locals:=fun x c e z=>by
 obtain⟨v,o,ho,hd⟩:=I.cell x c e
 obtain⟨m,⟨o',es,ep,ho',hd',_⟩,_⟩:=I.loc
 rw [z,ho'] at ho;cases ho;rw [hd'] at hd;cases hd
theorem bd.funs (I:bd X pins σ H s):s.heap.FunFrames X.base X.outer:=by
 have all:∀(l:List Env),(∀b∈Lf l,b∈X.fs)→X.s_0.heap.FunFrames X.base l→s.heap.FunFrames X.base l:=by
  intro l
  induction l with
  | nil=>intro _ _;fA
  | cons env r ih=>
   intro hs hl
   obtain⟨hk,⟨L,o,hf,hn,ho,hd⟩,hr⟩:=hl
   have hL:L∈X.fs:=hs L (by unfold Lf;rw [List.filterMap_cons,hf];exact fB)
   obtain⟨sl,e⟩:=I.base.slot L o ho (I.ok.frf L hL) hL fun z=>I.ok.exfs L z hL
   exact⟨hk,⟨L,_,hf,hn,e,hd⟩,ih (fun b hb=>hs b (by unfold Lf;rw [List.filterMap_cons,hf];exact dU _ hb)) hr⟩
 exact all X.outer (fun _ hb=>hb) I.ok.funs
theorem bd.stack (I:bd X pins σ H s):s.heap.FunFrames X.base X.stack:=by
 rcases I.ok.stk with e | ⟨e,hf⟩
 ·rw [e];exact I.funs
 ·rw [e]
  obtain⟨m,hn,_⟩:=I.loc
  refine .cons (by rw [I.ok.kind];decide) hf hn ?_ I.funs
  exact Heap.get?_none_of_le (fQ I.ok.bsz I.ok.above)
theorem bd.stkSub (I:bd X pins σ H s):∀b∈Lf X.stack,b∈X.env.locals::X.fs:=fun b hb=>by
 rcases I.ok.stk with e | ⟨e,hf⟩
 ·rw [e] at hb;exact dU _ hb
 ·rw [e] at hb
  unfold Lf at hb
  rw [List.filterMap_cons,hf] at hb
  exact hb
theorem bd.stkFree (I:bd X pins σ H s):∀b∈Lf X.stack,H b=none:=fun b hb=>by
 rcases cF.mp (I.stkSub b hb) with e | hb
 ·rw [e];exact I.free
 ·obtain⟨_,o,ho,_⟩:=I.ok.funs.mem hb
  exact I.base.free b o ho (I.ok.frf b hb) fun z=>I.ok.exfs b z hb
theorem bd.step {g':Array GenState} {t':Nat} {d':Drawn} {ch:List Addr} (I:bd X pins σ H s)
  (hch:∀b∈ch,(b∈X.ex∨X.s_0.heap.objs.size≤b)∧b≠X.env.locals∧(∀x c,X.env.cells.lookup x=some c→c≠b)∧∀p∈X.pn++pins,p.1≠b)
  (keep:∀b o,b≠X.env.locals→b ∉ X.fs→b ∉ ch→s.heap.get? b=some o→H b=none→h'.get? b=some o)
  (slot:∀b o,b≠X.env.locals→b∈X.fs→b ∉ ch→s.heap.get? b=some o→H b=none→∃sl,h'.get? b=some {o with slots:=sl}) (free:∀b o,b ∉ ch→s.heap.get? b=some o→H b=none→H' b=none)
  (there:∀b o,b ∉ ch→s.heap.get? b=some o→∃o',h'.get? b=some o')
  (tups:∀b xs,H b=some (.tup xs)→H' b=some (.tup xs)) (frzs:∀b o u,H b=some (.frz o u)→H' b=some (.frz o u)) (tbls:∀b ps,H b=some (.tbl ps)→∃more,H' b=some (.tbl (ps++more)))
  (ns:∀m,s.heap.Ns X.env.locals m→h'.Ns X.env.locals m) (hok:vG X.prog X.w H' h') (hg:AllBare g'):
  bd X pins σ H' {s with heap:=h',gens:=g',drawn:=d',toks:=t'}:=by
 have neL:∀b o,X.s_0.heap.get? b=some o→b≠X.env.locals:=fun b o e=>fi (gO (fj e) I.ok.above)
 have neC:∀b o,X.s_0.heap.get? b=some o→b ∉ X.ex→b ∉ ch:=fun b o e hx hb=>by
  rcases (hch b hb).1 with z | z
  ·exact hx z
  ·exact absurd (gO (fj e) z) (sn _)
 have cellK:∀x c,X.env.cells.lookup x=some c→∀v,s.heap.IsCell c v→h'.IsCell c v:=fun x c e v ⟨o,ho,hd⟩=>by
  have nch:c ∉ ch:=fun z=>(hch c z).2.2.1 x c e rfl
  by_cases hc:c∈X.fs
  ·obtain⟨sl,q⟩:=slot c o (I.cne x c e) hc nch ho (I.freeC x c e)
   exact⟨_,q,hd⟩
  ·exact⟨o,keep c o (I.cne x c e) hc nch ho (I.freeC x c e),hd⟩
 refine⟨I.ok,I.os,hg,⟨fun b o e n hb hx=> ?_,fun b o e n hb hx=> ?_,fun b o e n hx=> ?_,fun b o e hx=> ?_,fun b xs e=>tups b xs (I.base.tups b xs e),fun b o xs e=>frzs b o xs (I.base.frzs b o xs e),fun b ps e=> ?_⟩,?_,fun x c e=> ?_,?_,fun x c e=> ?_,fun p hp=> ?_,hok,I.len⟩
 ·exact keep b o (neL b o e) hb (neC b o e hx) (I.base.keep b o e n hb hx) (I.base.free b o e n hx)
 ·obtain⟨sl,e1⟩:=I.base.slot b o e n hb hx
  obtain⟨sl',e2⟩:=slot b _ (neL b o e) hb (neC b o e hx) e1 (I.base.free b o e n hx)
  exact⟨sl',e2⟩
 ·obtain⟨o',e1⟩:=I.base.there b o e hx
  exact free b o' (neC b o e hx) e1 (I.base.free b o e n hx)
 ·obtain⟨o',e1⟩:=I.base.there b o e hx
  exact there b o' (neC b o e hx) e1
 ·obtain⟨m1,e1⟩:=I.base.tbls b ps e
  obtain⟨m2,e2⟩:=tbls b _ e1
  exact⟨m1++m2,by rw [e2,Array.append_assoc]⟩
 ·obtain⟨m,hn,hl⟩:=I.loc
  refine⟨m,ns m hn,fun i x v e1 e2 e3=> ?_⟩
  obtain⟨u,r,l⟩:=hl i x v e1 e2 e3
  refine⟨u,r,?_⟩
  rcases l with l | ⟨k,c,e,z⟩
  ·exact .inl l
  ·exact .inr ⟨k,c,e,cellK x c e _ z⟩
 ·obtain⟨v,z⟩:=I.cell x c e
  exact⟨v,cellK x c e v z⟩
 ·obtain⟨m,⟨o,_,_,ho,_⟩,_⟩:=I.loc
  exact free _ o (fun z=>(hch _ z).2.1 rfl) ho I.free
 ·obtain⟨v,o,ho,hd⟩:=I.cell x c e
  exact free c o (fun z=>(hch c z).2.2.1 x c e rfl) ho (I.freeC x c e)
 ·obtain⟨e,n,ne,nf,d⟩:=I.pin p hp
  have nch:p.1 ∉ ch:=fun z=>(hch p.1 z).2.2.2 p hp rfl
  exact⟨keep p.1 p.2 ne nf nch e n,free p.1 p.2 nch e n,ne,nf,d⟩
theorem bd.un {t':Nat} (I:bd X pins σ H s) (u:Un X.fs [] H H' s.heap h') (hok:vG X.prog X.w H' h'):bd X pins σ H' {s with heap:=h',toks:=t'}:=by
 obtain⟨m,⟨o,es,ep,ho,r⟩,_⟩:=id I.loc
 obtain⟨sl,hL⟩:=u.any ho I.free (by simp)
 exact I.step (g':=s.gens) (d':=s.drawn) (ch:= []) (fun _ z=>nomatch z) (fun b o _ hb _ e n=>u.keep b o e n hb (by simp)) (fun b o _ hb _ e n=>u.slot b o e n hb (by simp)) (fun b o _ e n=>u.free b o e n (by simp)) (fun b o _ e=>u.there b o e (by simp)) u.tups u.frzs u.tbls (fun m' hm=>by
  obtain⟨o',es',ep',ho',r'⟩:=hm
  rw [ho] at ho';cases ho'
  exact⟨_,es',ep',hL,r'⟩) hok I.bare
theorem bd.call {g':Array GenState} {t':Nat} {d':Drawn} {ch:List Addr} (I:bd X pins σ H s) (u:Un (Lf X.stack) ch H H' s.heap h') (hok:vG X.prog X.w H' h') (hg:AllBare g')
  (hch:∀b∈ch,(b∈X.ex∨X.s_0.heap.objs.size≤b)∧b≠X.env.locals∧(∀x c,X.env.cells.lookup x=some c→c≠b)∧∀p∈X.pn++pins,p.1≠b):
  bd X pins σ H' {s with heap:=h',gens:=g',drawn:=d',toks:=t'}:=by
 obtain⟨m,⟨o,es,ep,ho,r⟩,_⟩:=id I.loc
 obtain⟨sl,hL⟩:=u.any ho I.free fun z=>(hch _ z).2.1 rfl
 exact I.step (ch:=ch) hch (fun b o hL hb hc e n=>u.keep b o e n (fun z=>(cF.mp (I.stkSub b z)).elim hL hb) hc) (fun b o _ _ hc e n=>u.any e n hc) (fun b o hc e n=>u.free b o e n hc) (fun b o hc e=>u.there b o e hc) u.tups u.frzs u.tbls (fun m' hm=>by
  obtain⟨o',es',ep',ho',r'⟩:=hm
  rw [ho] at ho';cases ho'
  exact⟨_,es',ep',hL,r'⟩) hok hg
theorem bd.turned {t':Nat} {it:Addr} (I:bd X pins σ H s) (k:∀b o,b≠it→s.heap.get? b=some o→h'.get? b=some o) (hn:H it=none) (hL:it≠X.env.locals)
  (h1:it∈X.ex∨X.s_0.heap.objs.size≤it) (h2:∀x c,X.env.cells.lookup x=some c→c≠it) (h3:∀p∈X.pn++pins,p.1≠it):bd X pins σ H {s with heap:=h',toks:=t'}:=by
 have nit:∀b u,H b=some u→b≠it:=fun b u e z=>by rw [z,hn] at e;cases e
 refine I.step (g':=s.gens) (d':=s.drawn) (ch:= [it]) (fun b hb=> ?_) (fun b o _ _ hc e _=>k b o (fun z=>hc (by simp [z])) e) (fun b o _ _ hc e _=>⟨o.slots,k b o (fun z=>hc (by simp [z])) e⟩) (fun _ _ _ _ n=>n)
  (fun b o hc e=>⟨o,k b o (fun z=>hc (by simp [z])) e⟩) (fun _ _ e=>e) (fun _ _ _ e=>e) (fun b ps e=>⟨#[],by rw [e];simp⟩) (fun m hm=> ?_) (fun b u e=> ?_) I.bare
 ·have e:b=it:=by simpa using hb
  subst e
  exact⟨h1,hL,h2,h3⟩
 ·obtain⟨o,es,ep,ho,r⟩:=hm
  exact⟨o,es,ep,k _ o (Ne.symm hL) ho,r⟩
 ·refine(I.hok b u e).stay (fun c v hc q=>k c v ?_ q) (fun _ q=>q) fun _ _ q=>q
  rcases hc with z | z
  ·rw [z];exact nit b u e
  ·exact nit c _ z
theorem bd.tok (I:bd X pins σ H s) (t:Nat):bd X pins σ H {s with toks:=t}:=I.un (h':=s.heap) (t':=t) Un.refl I.hok
theorem bd.kept {t':Nat} (I:bd X pins σ H s) (k:∀b u,s.heap.get? b=some u→h'.get? b=some u):bd X pins σ H {s with heap:=h',toks:=t'}:=I.un (Un.kept k) (I.hok.kept k)
theorem bd.laid {a:Addr} {o:HO} {t':Nat} (I:bd X pins σ H s) (k:∀b u,s.heap.get? b=some u→h'.get? b=some u) (hp:s.heap.objs.size≤a) (new:iB X.prog X.w (bR H a o) h' a o):
  bd X pins σ (bR H a o) {s with heap:=h',toks:=t'}:=I.un (Un.laid k hp (I.hok.fresh hp)) (I.hok.laid k hp new)
theorem bd.write {x e:Addr} {o:HO} {t':Nat} (I:bd X pins σ H s) (mu:Pu (H x)) (he:e=x∨H e=some (.own x)) (k:∀b u,b≠e→s.heap.get? b=some u→h'.get? b=some u) (heo:∃u,h'.get? e=some u)
  (new:iB X.prog X.w (bR H x o) h' x o):bd X pins σ (bR H x o) {s with heap:=h',toks:=t'}:=I.un (Un.write mu he k heo) (I.hok.write mu he k heo new)
theorem bd.weak {σ':List (Option V)} (I:bd X pins σ H s) (hl:σ'.length=σ.length) (w:∀(i:Nat) v,σ'[i]?=some (some v)→σ[i]?=some (some v)):bd X pins σ' H s:=
 ⟨I.ok,I.os,I.bare,I.base,let ⟨m,hn,hl'⟩:=I.loc;⟨m,hn,fun i x v e1 e2 e3=>hl' i x v e1 (w i v e2) e3⟩,I.cell,I.free,I.freeC,I.pin,I.hok,hl.trans I.len⟩
theorem bd.pins_of {pins':List (Addr×Obj)} (I:bd X pins σ H s) (h:∀p∈pins',s.heap.get? p.1=some p.2∧H p.1=none∧p.1≠X.env.locals∧p.1 ∉ X.fs∧∀v,p.2.data≠ .cell v):bd X pins' σ H s:=
 ⟨I.ok,I.os,I.bare,I.base,I.loc,I.cell,I.free,I.freeC,fun p hp=>(jO.mp hp).elim (fun z=>I.pin p (CO _ z)) (h p),I.hok,I.len⟩
theorem Bz {N:List Str} (hN:N.Nodup) {i j:Nat} {x:Str} (a:N[i]?=some x) (b:N[j]?=some x):i=j:=by
 obtain⟨h1,e1⟩:=cb.mp a
 obtain⟨h2,e2⟩:=cb.mp b
 exact(List.getElem_inj hN).mp (e1.trans e2.symm)
theorem Ee {M:Model} {A:Around} {E:Value→Shared→Prop} {i:Nat} {x:Str} {v:V} {u:Value} {Q:Unit→Shared→Prop} (I:bd X pins σ H s) (hN:X.N.Nodup) (hi:X.N[i]?=some x) (hx:NL X.env.scope x) (r:cX v u)
  (h:∀s',bd X pins (σ.set i (some v)) H s'→(∃a,Heap.SameBut a s.heap s'.heap∧(a=X.env.locals∨X.env.cells.lookup x=some a))→Q () s') (hf:X.fn x=true∨X.env.scope.names.lookup x=some .local:=by first | exact .inl rfl | exact .inr rfl | assumption):wpAny M A (storeName X.env x u) Q E s:=by
 obtain⟨m,hn,hl⟩:=id I.loc
 have hcls:(X.env.scope.kind== .class || (X.env.scope.kind== .module && X.env.locals !=X.env.globals))=false:=by rw [I.ok.kind];rfl
 have hiσ:i<σ.length:=by rw [I.len];exact(cb.mp hi).1
 have cne:=I.cne
 have tracked:∀{a:Addr} {h':Heap},(∃o,s.heap.get? a=some o∧H a=none)→Heap.SameBut a s.heap h'→vG X.prog X.w H h':=fun {a h'} ha hs b ob e=>by
  obtain⟨_,_,hfree⟩:=ha
  refine(I.hok b ob e).stay (fun c w' hc q=>(hs.2 c ?_).trans q) (fun _ q=>q) fun _ _ q=>q
  rintro rfl
  rcases hc with rfl | hc
  ·rw [hfree] at e;cases e
  ·rw [hfree] at hc;cases hc
 rcases hx with hk | hk
 ·refine wpAny_storeName_local hk hn (fun h' hn' hs=> ?_) hcls
  obtain⟨oL,_,_,hoL,_⟩:=id hn
  refine h _ ⟨I.ok,I.os,I.bare,⟨fun b o e n hb hx=> ?_,fun b o e n hb hx=> ?_,I.base.free,fun b o e hx=> ?_,I.base.tups,I.base.frzs,I.base.tbls⟩,⟨_,hn',fun j y v' e1 e2 e3=> ?_⟩,fun y c e=> ?_,I.free,I.freeC,fun p hp=> ?_,tracked ⟨oL,hoL,I.free⟩ hs,by simpa using I.len⟩ ⟨_,hs,.inl rfl⟩
  ·exact(hs.2 b (fi (gO (fj e) I.ok.above))).trans (I.base.keep b o e n hb hx)
  ·obtain⟨sl,e1⟩:=I.base.slot b o e n hb hx
   exact⟨sl,(hs.2 b (fi (gO (fj e) I.ok.above))).trans e1⟩
  ·obtain⟨o',e1⟩:=I.base.there b o e hx
   exact⟨o',(hs.2 b (fi (gO (fj e) I.ok.above))).trans e1⟩
  ·by_cases hj:j=i
   ·subst hj
    rw [hi] at e1;cases e1
    rw [Ak hiσ] at e2
    cases e2
    exact⟨u,r,.inl ⟨hk,by simp⟩⟩
   ·rw [Aj (Ne.symm hj)] at e2
    obtain⟨u',r',q⟩:=hl j y v' e1 e2 e3
    refine⟨u',r',?_⟩
    rcases q with⟨k,e⟩ | ⟨k,c,e,z⟩
    ·refine .inl ⟨k,?_⟩
     have:y≠x:=fun e=>hj (Bz hN e1 (e▸hi))
     simp [this,e]
    ·exact .inr ⟨k,c,e,z.sameBut hs (cne y c e)⟩
  ·obtain⟨w',z⟩:=I.cell y c e
   exact⟨w',z.sameBut hs (cne y c e)⟩
  ·obtain⟨e,n,ne,nf,d⟩:=I.pin p hp
   exact⟨(hs.2 p.1 ne).trans e,n,ne,nf,d⟩
 ·have hfn:X.fn x=true:=by
   rcases hf with z | z
   ·exact z
   ·rw [z] at hk;cases hk
  obtain⟨c,hc⟩:=I.ok.has x (.inl hk)
  obtain⟨w',z⟩:=I.cell x c hc
  refine wpAny_storeName_cell I.ok.kind hk hc z (fun h' hc' hs=> ?_)
  obtain⟨oc,hoc,hocd⟩:=id z
  refine h {s with heap:=h'} ⟨I.ok,I.os,I.bare,⟨fun b o e n hb hx=> ?_,fun b o e n hb hx=> ?_,I.base.free,fun b o e hx=> ?_,I.base.tups,I.base.frzs,I.base.tbls⟩,⟨m,hn.sameBut hs (Ne.symm (cne x c hc)),fun j y v' e1 e2 e3=> ?_⟩,fun y c' e=> ?_,I.free,I.freeC,fun p hp=> ?_,tracked ⟨oc,hoc,I.freeC x c hc⟩ hs,by simpa using I.len⟩ ⟨c,hs,.inr hc⟩
  ·exact(hs.2 b (fi (gO (fj e) (I.ok.cab x c hfn hc)))).trans (I.base.keep b o e n hb hx)
  ·obtain⟨sl,e1⟩:=I.base.slot b o e n hb hx
   exact⟨sl,(hs.2 b (fi (gO (fj e) (I.ok.cab x c hfn hc)))).trans e1⟩
  ·obtain⟨o',e1⟩:=I.base.there b o e hx
   exact⟨o',(hs.2 b (fi (gO (fj e) (I.ok.cab x c hfn hc)))).trans e1⟩
  ·by_cases hj:j=i
   ·subst hj
    rw [hi] at e1;cases e1
    rw [Ak hiσ] at e2
    cases e2
    exact⟨u,r,.inr ⟨.inl hk,c,hc,hc'⟩⟩
   ·rw [Aj (Ne.symm hj)] at e2
    obtain⟨u',r',q⟩:=hl j y v' e1 e2 e3
    refine⟨u',r',?_⟩
    rcases q with q | ⟨k,c',e,z'⟩
    ·exact .inl q
    ·refine .inr ⟨k,c',e,z'.sameBut hs ?_⟩
     rintro rfl
     exact hj (Bz hN e1 (I.ok.inj _ _ _ e hc▸hi))
  ·by_cases hcc:c'=c
   ·subst hcc;exact⟨_,hc'⟩
   ·obtain⟨w2,z2⟩:=I.cell y c' e
    exact⟨w2,z2.sameBut hs hcc⟩
  ·obtain⟨e,n,ne,nf,d⟩:=I.pin p hp
   refine⟨(hs.2 p.1 ?_).trans e,n,ne,nf,d⟩
   intro q
   rw [q,hoc] at e
   have q':oc=p.2:=bE e
   exact d w' (by rw [←q'];exact hocd)
theorem Cw {M:Model} {A:Around} {E:Value→Shared→Prop} {i:Nat} {x:Str} {v:V} {u:Value} {Q:Unit→Shared→Prop} (I:bd X pins σ H s) (hN:X.N.Nodup) (hi:X.N[i]?=some x) (hx:NL X.env.scope x) (r:cX v u)
  (h:∀s',bd X pins (σ.set i (some v)) H s'→Q () s') (hf:X.fn x=true∨X.env.scope.names.lookup x=some .local:=by first | exact .inl rfl | exact .inr rfl | assumption):wpAny M A (storeName X.env x u) Q E s:=
 Ee I hN hi hx r (fun s' I' _=>h s' I') hf
theorem bd.call' {s':Shared} {ch:List Addr} (I:bd X pins σ H s) (ho:s'.os=s.os) (u:Un (Lf X.stack) ch H H' s.heap s'.heap) (hok:vG X.prog X.w H' s'.heap) (hg:AllBare s'.gens)
  (hch:∀b∈ch,(b∈X.ex∨X.s_0.heap.objs.size≤b)∧b≠X.env.locals∧(∀x c,X.env.cells.lookup x=some c→c≠b)∧∀p∈X.pn++pins,p.1≠b):bd X pins σ H' s':=by
 obtain⟨h',g',d',t',o'⟩:=s'
 have e:o'=s.os:=ho
 subst e
 exact I.call (g':=g') (t':=t') (d':=d') u hok hg hch
end
abbrev XK:=Value→Option Addr→Hp→Prop
abbrev St:=List (Option V)
abbrev VK:=V→Hp→Prop
abbrev TE:=St→Hp→VK→Prop
abbrev TT:=St→Hp→(Bool→Hp→Prop)→Prop
abbrev TA:=St→Hp→(List V→Hp→Prop)→Prop
structure Fv where
 nx:St→Hp→Prop
 rt:VK
 bk:St→Hp→Prop:=fun _ _=>False
 ct:St→Hp→Prop:=fun _ _=>False
abbrev TS:=Fv→St→Hp→Prop
def EP (X:Cx) (pins:List (Addr×Obj)) (σ:St) (Q:VK) (u:Value) (s':Shared):Prop:=∃v H',bd X pins σ H' s'∧cX v u∧Q v H'
def TP (X:Cx) (pins:List (Addr×Obj)) (σ:St) (Q:Bool→Hp→Prop) (b:Bool) (s':Shared):Prop:=∃H',bd X pins σ H' s'∧Q b H'
def AP (X:Cx) (pins:List (Addr×Obj)) (σ:St) (Q:List V→Hp→Prop) (us:List Value) (s':Shared):Prop:=∃vs H',bd X pins σ H' s'∧bM vs us∧Q vs H'
def SP (X:Cx) (pins:List (Addr×Obj)) (D:Fv) (f:Flow) (s':Shared):Prop:=
 match f with
 | .next=>∃σ' H',bd X pins σ' H' s'∧D.nx σ' H'
 | .brk=>∃σ' H',bd X pins σ' H' s'∧D.bk σ' H'
 | .cont=>∃σ' H',bd X pins σ' H' s'∧D.ct σ' H'
 | .ret u=>∃v σ' H',bd X pins σ' H' s'∧cX v u∧D.rt v H'
def PE (X:Cx) (e:Expr) (t:TE):Prop:=
 ∀(pins:List (Addr×Obj)) (s:Shared) (σ:St) (H:Hp) (Q:VK),bd X pins σ H s→t σ H Q→wpAny (model X.prog X.w) X.A (eval e X.env) (EP X pins σ Q) X.xe s
def PT (X:Cx) (e:Expr) (t:TT):Prop:=
 ∀(pins:List (Addr×Obj)) (s:Shared) (σ:St) (H:Hp) (Q:Bool→Hp→Prop),bd X pins σ H s→t σ H Q→wpAny (model X.prog X.w) X.A (isTrue e X.env (eval e X.env)) (TP X pins σ Q) X.xe s
def PW (X:Cx) (e:Expr) (t:TT):Prop:=
 ∀(whole:Sem Value) (pins:List (Addr×Obj)) (s:Shared) (σ:St) (H:Hp) (Q:Bool→Hp→Prop),bd X pins σ H s→t σ H Q→wpAny (model X.prog X.w) X.A (isTrue e X.env whole) (TP X pins σ Q) X.xe s
def PA (X:Cx) (es:List Expr) (t:TA):Prop:=
 ∀(pos:Pos) (pins:List (Addr×Obj)) (s:Shared) (σ:St) (H:Hp) (Q:List V→Hp→Prop),bd X pins σ H s→t σ H Q→wpAny (model X.prog X.w) X.A (spliced (backTo pos (starEach es X.env))) (AP X pins σ Q) X.xe s
def PS (X:Cx) (st:Stmt) (t:TS):Prop:=
 ∀(pins:List (Addr×Obj)) (s:Shared) (σ:St) (H:Hp) (D:Fv),bd X pins σ H s→t D σ H→wpAny (model X.prog X.w) X.A (exec st X.env) (SP X pins D) X.xe s
def Hq (X:Cx) (st:List Stmt) (t:TS):Prop:=
 ∀(pins:List (Addr×Obj)) (s:Shared) (σ:St) (H:Hp) (D:Fv),bd X pins σ H s→t D σ H→wpAny (model X.prog X.w) X.A (execs st X.env) (SP X pins D) X.xe s
theorem eO {α:Type} {t:Sem α} {Q Q':α→Shared→Prop} {M:Model} {A:Around} {E:Value→Shared→Prop} {s:Shared} (h:wpAny M A t Q E s) (hQ:∀a s,Q a s→Q' a s):wpAny M A t Q' E s:=kL h hQ fun _ _ x=>x
end L2
namespace L2
open PySem PySem.Spec PyProof.Rows
section
variable {X:Cx}
theorem QU {a b:Expr} {ta tb:TE} (ha:PE X a ta) (hb:PE X b tb) {pins:List (Addr×Obj)} {s:Shared} {σ:St} {H:Hp} {R:V→V→Hp→Prop} (I:bd X pins σ H s) (h:ta σ H fun x H1=>tb σ H1 fun y H2=>R x y H2)
  {α:Type} {Q:α→Shared→Prop} {f:Value→Value→Sem α}
  (hf:∀v u s2 x y H2,bd X pins σ H2 s2→cX x v→cX y u→R x y H2→wpAny (model X.prog X.w) X.A (f v u) Q X.xe s2):
  wpAny (model X.prog X.w) X.A (eval a X.env) (fun v s₁=>wpAny (model X.prog X.w) X.A (eval b X.env) (fun u s₂=>wpAny (model X.prog X.w) X.A (f v u) Q X.xe s₂) X.xe s₁) X.xe s:=by
 refine eO (ha pins s σ H _ I h) fun v s1 ⟨x,H1,I1,r1,q1⟩=> ?_
 refine eO (hb pins s1 σ H1 _ I1 q1) fun u s2 ⟨y,H2,I2,r2,q2⟩=> ?_
 exact hf v u s2 x y H2 I2 r1 r2 q2
def Ox (i:Nat):TE:=fun σ H Q=>∃v,σ[i]?=some (some v)∧Q v H
def tC (v:V):TE:=fun _ H Q=>Q v H
theorem LS {i:Nat} {x:Str} {pos:Pos} (hN:X.N[i]?=some x) (hv:NO X.env.scope x) (hd:(x==("__debug__":Str))=false:=by decide) (hcd:(x==("__classdict__":Str))=false:=by decide):PE X (.Name x pos) (Ox i):=by
 intro pins s σ H Q I h
 obtain⟨v,e,h⟩:=h
 obtain⟨m,hn,hl⟩:=I.loc
 obtain⟨u,r,l⟩:=hl i x v hN e hv
 have fin:EP X pins σ Q u s:=⟨v,H,I,r,h⟩
 rcases l with⟨hk,hm⟩ | ⟨hk,c,hc,hcell⟩
 ·exact wpAny_Name (wpAny_loadName_local I.ok.kind hk hn hm fin) hd
 ·rcases hk with hk | hk
  ·exact wpAny_Name (wpAny_loadName_cell I.ok.kind hk hc hcell fin) hd
  ·exact wpAny_Name (wpAny_loadName_free I.ok.kind hk hc hcell fin hcd) hd
theorem am {i j pos}:PE X (.Constant (.int i) j pos) (tC (.int i)):=fun _ _ _ H _ I h=>wpAny_Constant_int ⟨.int i,H,I.tok _,⟨_,rfl⟩,h⟩
theorem NB {b j pos}:PE X (.Constant (.bool b) j pos) (tC (.bl b)):=fun _ _ _ H _ I h=>Constant_bool ⟨.bl b,H,I,rfl,h⟩
theorem cY {j pos}:PE X (.Constant .none j pos) (tC .non):=fun _ _ _ H _ I h=>Constant_none ⟨.non,H,I,rfl,h⟩
def Gl (X:Cx) (x:Str):Prop:=X.env.kindOf x=some .globalImplicit
theorem A5 {E:Value→Shared→Prop} {pins:List (Addr×Obj)} {s:Shared} {σ:St} {H:Hp} {x:Str} {u:Value} {pos:Pos} {Q:Value→Shared→Prop} (I:bd X pins σ H s) (hg:Gl X x) (hm:X.mg x=some u) (h:Q u s)
  (hd:(x==("__debug__":Str))=false:=by decide):wpAny (model X.prog X.w) X.A (eval (.Name x pos) X.env) Q E s:=
 Calls.Name_function_global I.ok.kind hg (Calls.loadGlobal_global (by rw [I.ok.glob];exact I.mod.glob.keeps I.bk) hm h) hd
theorem vM {E:Value→Shared→Prop} {pins:List (Addr×Obj)} {s:Shared} {σ:St} {H:Hp} {x:Str} {u:Value} {pos:Pos} {Q:Value→Shared→Prop} (I:bd X pins σ H s) (hg:Gl X x) (hm:X.mg x=none) (hv:bootBuiltins x=some u) (h:Q u s)
  (hn:x≠"__name__":=by decide) (hd:(x==("__debug__":Str))=false:=by decide):wpAny (model X.prog X.w) X.A (eval (.Name x pos) X.env) Q E s:=by
 obtain⟨mb,h1,h2⟩:=I.mod.blt
 exact Calls.Name_function_global I.ok.kind hg (Calls.loadGlobal_builtin (by rw [I.ok.glob];exact I.mod.glob.keeps I.bk) hm (by rw [I.ok.blt];exact h1.keeps I.bk) ((h2 x hn).trans hv) h) hd
theorem Jh {x:Str} {v:V} {u:Value} {pos:Pos} (hg:Gl X x) (hm:X.mg x=some u) (r:cX v u) (hd:(x==("__debug__":Str))=false:=by decide):PE X (.Name x pos) (tC v):=
 fun _ _ _ H _ I h=>A5 I hg hm ⟨v,H,I,r,h⟩ hd
variable {a b:Expr} {ta tb:TE} {pos:Pos}
def PC (X:Cx) (op:CmpOp) (a b:Expr) (t:TE):Prop:=
 ∀(pins:List (Addr×Obj)) (s:Shared) (σ:St) (H:Hp) (Q:VK),bd X pins σ H s→t σ H Q→
  wpAny (model X.prog X.w) X.A (eval a X.env) (fun v s₁=>wpAny (model X.prog X.w) X.A (eval b X.env) (fun u s₂=>wpAny (model X.prog X.w) X.A (compareOp op v u) (EP X pins σ Q) X.xe s₂) X.xe s₁) X.xe s
def tB (t:TE):TT:=fun σ H Q=>t σ H fun x H1=>∃c,x= .bl c∧Q c H1
theorem Oe {op:CmpOp} {t:TE} (h:PC X op a b t) (h1:behindInMarks op b=false:=by first | exact nobehind _ (by decide) (by decide) | rfl):PE X (.Compare a [op] [b] pos) t:=fun pins s σ H Q I hw=>wpAny_Compare1 (h pins s σ H Q I hw) h1
theorem Oj {op:CmpOp} {t:TE} (h:PC X op a b t) (h1:behindInMarks op b=false:=by first | exact nobehind _ (by decide) (by decide) | rfl):PT X (.Compare a [op] [b] pos) (tB t):=by
 intro pins s σ H Q I hw
 refine wpAny_isTrue_Compare1 (eO (h pins s σ H _ I hw) fun v s1 h1=>eO h1 fun u s2 h2=>eO h2 fun c s3 ⟨x,H1,I1,r1,q1⟩=> ?_) h1
 obtain⟨d,rfl,q⟩:=q1
 cases r1
 exact wH ⟨H1,I1,q⟩
theorem aS {e:Expr} {t:TE} (h:PE X e t) (he:∀whole,isTrue e X.env whole=(do let v ←whole;standAt e.pos;holding [v] (truthy v)):=by intro _;rfl):PT X e (tB t):=by
 intro pins s σ H Q I hw
 refine isTrue_plain (eO (h pins s σ H _ I hw) fun v s1 ⟨x,H1,I1,r1,q1⟩=> ?_) (he _)
 obtain⟨d,rfl,q⟩:=q1
 cases r1
 exact wH ⟨H1,I1,q⟩
variable {tA tB':TT} {rest:List Expr}
def Qh (t u:TT):TT:=fun σ H Q=>t σ H fun c H1=>if c=true then u σ H1 Q else Q false H1
def QQ (t u:TT):TT:=fun σ H Q=>t σ H fun c H1=>if c=true then Q true H1 else u σ H1 Q
def Qm (t:TT):TT:=fun σ H Q=>t σ H fun c H1=>Q (!c) H1
theorem M8 (ha:PT X a tA):PW X (.BoolOp .And [a] pos) tA:=by
 intro wh pins s σ H Q I h
 refine isTrue_and (eO (ha pins s σ H Q I h) fun c s1 e=> ?_)
 cases c with
 | true=>exact isTrue_and_nil e
 | false=>exact e
theorem ig (ha:PT X a tA):PW X (.BoolOp .Or [a] pos) tA:=by
 intro wh pins s σ H Q I h
 refine isTrue_or (eO (ha pins s σ H Q I h) fun c s1 e=> ?_)
 cases c with
 | false=>exact isTrue_or_nil e
 | true=>exact e
theorem Ol (ha:PT X a tA) (hb:PW X (.BoolOp .And (b::rest) pos) tB'):PW X (.BoolOp .And (a::b::rest) pos) (Qh tA tB'):=by
 intro wh pins s σ H Q I h
 refine isTrue_and (eO (ha pins s σ H _ I h) fun c s1 ⟨H1,I1,q1⟩=> ?_)
 cases c with
 | true=>exact hb wh pins s1 σ H1 Q I1 q1
 | false=>exact⟨H1,I1,q1⟩
theorem h9 (ha:PT X a tA) (hb:PW X (.BoolOp .Or (b::rest) pos) tB'):PW X (.BoolOp .Or (a::b::rest) pos) (QQ tA tB'):=by
 intro wh pins s σ H Q I h
 refine isTrue_or (eO (ha pins s σ H _ I h) fun c s1 ⟨H1,I1,q1⟩=> ?_)
 cases c with
 | true=>exact⟨H1,I1,q1⟩
 | false=>exact hb wh pins s1 σ H1 Q I1 q1
theorem aV (ha:PT X a tA):PT X (.UnaryOp .Not a pos) (Qm tA):=by
 intro pins s σ H Q I h
 exact isTrue_not (ha pins s σ H (fun c H1=>Q (!c) H1) I h)
def Pa (ta tb:TE):TE:=fun σ H Q=>ta σ H fun x H1=>∃c,x= .bl c∧if c=true then tb σ H1 Q else Q (.bl false) H1
def Pi (ta:TE):TE:=fun σ H Q=>ta σ H fun x H1=>∃c,x= .bl c∧Q (.bl (!c)) H1
theorem Og {op} {t:TE} (h:PE X a t):PE X (.BoolOp op [a] pos) t:=fun pins s σ H Q I hw=>BoolOp_one (h pins s σ H Q I hw)
theorem LN (ha:PE X a ta) (hb:PE X (.BoolOp .And (b::rest) pos) tb):PE X (.BoolOp .And (a::b::rest) pos) (Pa ta tb):=by
 intro pins s σ H Q I h
 refine BoolOp_and (eO (ha pins s σ H _ I h) fun v s1 ⟨x,H1,I1,r1,q1⟩=> ?_)
 obtain⟨c,rfl,q1⟩:=q1
 cases r1
 refine wH ?_
 cases c with
 | true=>exact hb pins s1 σ H1 Q I1 q1
 | false=>exact⟨.bl false,H1,I1,rfl,q1⟩
theorem Of (ha:PE X a ta):PE X (.UnaryOp .Not a pos) (Pi ta):=by
 intro pins s σ H Q I h
 refine UnaryOp_ (eO (ha pins s σ H _ I h) fun v s1 ⟨x,H1,I1,r1,q1⟩=> ?_)
 obtain⟨c,rfl,q1⟩:=q1
 cases r1
 exact not_of (wH ⟨.bl (!c),H1,I1,rfl,q1⟩)
def QP (t:TT) (ta tb:TE):TE:=fun σ H Q=>t σ H fun c H1=>if c=true then ta σ H1 Q else tb σ H1 Q
theorem xt {c:Expr} (hc:PT X c tA) (ha:PE X a ta) (hb:PE X b tb):PE X (.IfExp c a b pos) (QP tA ta tb):=by
 intro pins s σ H Q I h
 refine wpAny_IfExp (eO (hc pins s σ H _ I h) fun d s1 ⟨H1,I1,q1⟩=> ?_)
 cases d with
 | true=>exact ha pins s1 σ H1 Q I1 q1
 | false=>exact hb pins s1 σ H1 Q I1 q1
end
end L2
namespace L2
open PySem PySem.Spec PyProof.Rows
def a4 (K:PySem.W.Frag) (H:Hp) (a:Addr) (xs:List V):Prop:=
 Rd H a (.lst xs)∨
  ∃(o:Obj) (its:Array Value) (n:Nat),K.lookup a=some o∧o.cls= .type "list"∧o.dict=none∧o.data= .seq its n∧its.size≤sizeLine∧bM xs its.toList
def Hr (K:PySem.W.Frag) (H:Hp) (a:Addr) (xs:List V):Prop:=
 Rd H a (.tup xs)∨
  ∃(o:Obj) (its:Array Value) (n:Nat),K.lookup a=some o∧o.cls= .type "tuple"∧o.data= .seq its n∧its.size≤sizeLine∧bM xs its.toList
def PL:Value→Option V
 | .none=>some .non
 | .bool b=>some (.bl b)
 | .int i _=>some (.int i)
 | .str x _=>some (.str x)
 | .bytes b _=>some (.byt b)
 | .float b _=>some (.flt b)
 | .ref a=>some (.ref a)
 | .type n=>some (.ty n)
 | _=>none
theorem cX.abs {x:V} {u:Value} (r:cX x u):PL u=some x:=by
 cases x with
 | non=>cases r;rfl
 | bl _=>cases r;rfl
 | int _=>obtain⟨t,rfl⟩:=r;rfl
 | str _=>obtain⟨t,rfl⟩:=r;rfl
 | byt _=>obtain⟨t,rfl⟩:=r;rfl
 | flt _=>obtain⟨t,rfl⟩:=r;rfl
 | ref _=>cases r;rfl
 | ty _=>cases r;rfl
theorem cX.inj {x y:V} {u:Value} (r:cX x u) (q:cX y u):x=y:=bE (r.abs.symm.trans q.abs)
theorem bM.inj:∀{xs ys:List V} {us:List Value},bM xs us→bM ys us→xs=ys
 | _,_,_,.nil,.nil=>rfl
 | _,_,_,.cons r t,.cons r' t'=>by rw [r.inj r',bM.inj t t']
section
variable {X:Cx} {pins:List (Addr×Obj)} {σ:St} {H:Hp} {s:Shared} {a:Addr} {xs ys:List V}
theorem a4.of {K:PySem.W.Frag} (h:H a=some (.lst xs)):a4 K H a xs:= .inl (.inl h)
theorem Hr.of {K:PySem.W.Frag} (h:H a=some (.tup xs)):Hr K H a xs:= .inl (.inl h)
theorem bd.list (I:bd X pins σ H s) (h:a4 X.K H a xs):∃its:List Value,bM xs its∧PlainL s.heap a its.toArray∧xs.length≤sizeLine:=by
 rcases h with h | ⟨o,its,n,hk,hc,hd,hs,hz,r⟩
 ·obtain⟨z,its,n,r,e⟩:=h.ok I.hok
  exact⟨its,r,⟨_,n,e,rfl,rfl,rfl⟩,z⟩
 ·refine⟨its.toList,r,⟨o,n,I.kIn a o hk,hc,hd,by simpa using hs⟩,?_⟩
  have e:=r.length
  simp only [G6] at e
  omega
theorem bd.tuple (I:bd X pins σ H s) (h:Hr X.K H a xs):∃its:List Value,bM xs its∧IsTup s.heap a its.toArray∧xs.length≤sizeLine:=by
 rcases h with h | ⟨o,its,n,hk,hc,hs,hz,r⟩
 ·obtain⟨z,its,r,p⟩:=h.ok I.hok
  exact⟨its,r,p,z⟩
 ·refine⟨its.toList,r,⟨o,I.kIn a o hk,hc,n,by simpa using hs⟩,?_⟩
  have e:=r.length
  simp only [G6] at e
  omega
theorem bd.list_inj (I:bd X pins σ H s) (h:a4 X.K H a xs) (h':a4 X.K H a ys):xs=ys:=by
 obtain⟨its,r,⟨o,n,e,_,_,d⟩,_⟩:=I.list h
 obtain⟨its',r',⟨o',n',e',_,_,d'⟩,_⟩:=I.list h'
 rw [e] at e';cases e'
 rw [d] at d'
 injection d' with d1 _
 have:its=its':=by simpa using cx Array.toList d1
 subst this
 exact r.inj r'
end
abbrev Cx.wish (X:Cx) (E:Value→Shared→Prop):Cx:={X with xe:=E}
abbrev Cx.nox (X:Cx):Cx:=X.wish fun _ _=>False
theorem Cx.Ok.wish {X:Cx} (ok:X.Ok) (E:Value→Shared→Prop):(X.wish E).Ok:=
 ⟨ok.mod,ok.kind,ok.glob,ok.blt,ok.above,ok.inj,ok.has,ok.cab,ok.hd,ok.frames,ok.stk,ok.exf,ok.bs,ok.bsz,ok.noex,ok.exfs,ok.funs,ok.frf⟩
theorem Cx.Ok.unwish {X:Cx} {E:Value→Shared→Prop} (ok:(X.wish E).Ok):X.Ok:=
 ⟨ok.mod,ok.kind,ok.glob,ok.blt,ok.above,ok.inj,ok.has,ok.cab,ok.hd,ok.frames,ok.stk,ok.exf,ok.bs,ok.bsz,ok.noex,ok.exfs,ok.funs,ok.frf⟩
section
variable {X:Cx} {pins:List (Addr×Obj)} {σ:St} {H:Hp} {s:Shared} {E:Value→Shared→Prop}
theorem bd.wish (I:bd X pins σ H s) (E:Value→Shared→Prop):bd (X.wish E) pins σ H s:=⟨I.ok.wish E,I.os,I.bare,I.base,I.loc,I.cell,I.free,I.freeC,I.pin,I.hok,I.len⟩
theorem bd.unwish (I:bd (X.wish E) pins σ H s):bd X pins σ H s:=⟨I.ok.unwish,I.os,I.bare,I.base,I.loc,I.cell,I.free,I.freeC,I.pin,I.hok,I.len⟩
theorem SP.unwish {D:Fv} {f:Flow} {s':Shared} (h:SP (X.wish E) pins D f s'):SP X pins D f s':=by
 cases f with
 | next=>obtain⟨σ',H',I,q⟩:=h;exact⟨σ',H',I.unwish,q⟩
 | brk=>obtain⟨σ',H',I,q⟩:=h;exact⟨σ',H',I.unwish,q⟩
 | cont=>obtain⟨σ',H',I,q⟩:=h;exact⟨σ',H',I.unwish,q⟩
 | ret u=>obtain⟨v,σ',H',I,r,q⟩:=h;exact⟨v,σ',H',I.unwish,r,q⟩
theorem Hq.nox {st:List Stmt} {t:TS} (h:Hq X.nox st t):Hq X st t:=fun pins s σ H D I hw=>
 kL (h pins s σ H D (I.wish _) hw) (fun _ _ q=>q.unwish) fun _ _ z=>False.elim z
end
section
variable {X:Cx} {st:Stmt} {rest:List Stmt} {t u:TS} {e:Expr} {te:TE} {pos:Pos}
def Ph:TS:=fun D σ H=>D.nx σ H
def Qo (t u:TS):TS:=fun D σ H=>t {D with nx:=u D} σ H
theorem aG:Hq X [] Ph:=fun _ _ σ H _ I h=>wpAny_execs_nil ⟨σ,H,I,h⟩
theorem ac (h1:PS X st t) (h2:Hq X rest u):Hq X (st::rest) (Qo t u):=by
 intro pins s σ H D I h
 refine wpAny_execs_cons (eO (h1 pins s σ H {D with nx:=u D} I h) fun f s1 q=> ?_)
 cases f with
 | next=>
  obtain⟨σ',H',I',q⟩:=q
  exact h2 pins s1 σ' H' D I' q
 | ret v=>exact q
 | brk=>exact q
 | cont=>exact q
theorem ae (h1:PS X st t):Hq X [st] t:=by
 intro pins s σ H D I h
 refine wpAny_execs_cons (eO (h1 pins s σ H D I h) fun f s1 q=> ?_)
 cases f with
 | next=>exact wpAny_execs_nil q
 | ret v=>exact q
 | brk=>exact q
 | cont=>exact q
theorem bd.quiet {pins:List (Addr×Obj)} {σ:St} {H:Hp} {s:Shared} (I:bd X pins σ H s):interactive X.env=false:=by simp [interactive,I.ok.kind]
def Pd (te:TE):TS:=fun D σ H=>te σ H fun _ H1=>D.nx σ H1
theorem gt (he:PE X e te) (hs:swapsWith e none pos.line X.env=pure false:=by rfl):PS X (.Expr e pos) (Pd te):=by
 intro pins s σ H D I h
 exact wpAny_Expr_any (eO (he pins s σ H _ I h) fun v s1 ⟨x,H1,I1,r1,q1⟩=>⟨σ,H1,I1,q1⟩) I.quiet hs
def Qn (te:TE):TS:=fun D σ H=>te σ H D.rt
theorem aj (he:PE X e te):PS X (.Return (some e) pos) (Qn te):=by
 intro pins s σ H D I h
 exact wpAny_Return_some (eO (he pins s σ H _ I h) fun v s1 ⟨x,H1,I1,r1,q1⟩=>⟨x,σ,H1,I1,r1,q1⟩)
def Qk (c:TT) (t u:TS):TS:=fun D σ H=>c σ H fun b H1=>if b=true then t D σ H1 else u D σ H1
theorem aT {c:Expr} {a b:List Stmt} {tc:TT} (hc:PT X c tc) (ha:Hq X a t) (hb:Hq X b u):PS X (.If c a b pos) (Qk tc t u):=by
 intro pins s σ H D I h
 refine wpAny_If (eO (hc pins s σ H _ I h) fun d s1 ⟨H1,I1,q1⟩=> ?_)
 cases d with
 | true=>exact ha pins s1 σ H1 D I1 q1
 | false=>exact hb pins s1 σ H1 D I1 q1
end
abbrev TG:=V→St→Hp→(St→Hp→Prop)→Prop
abbrev Nt:=List V→St→Hp→(St→Hp→Prop)→Prop
def PG (X:Cx) (target:Expr) (t:TG):Prop:=
 ∀(pins:List (Addr×Obj)) (s:Shared) (σ:St) (H:Hp) (v:V) (u:Value) (Q:St→Hp→Prop),bd X pins σ H s→cX v u→t v σ H Q→
  wpAny (model X.prog X.w) X.A (assign target X.env u) (fun _ s'=>∃σ' H',bd X pins σ' H' s'∧Q σ' H') X.xe s
def OI (X:Cx) (ts:List Expr) (t:Nt):Prop:=
 ∀(pins:List (Addr×Obj)) (s:Shared) (σ:St) (H:Hp) (vs:List V) (us:List Value) (Q:St→Hp→Prop),bd X pins σ H s→bM vs us→t vs σ H Q→
  wpAny (model X.prog X.w) X.A (assignInOrder ((assignEach ts X.env).map (·.2)) us) (fun _ s'=>∃σ' H',bd X pins σ' H' s'∧Q σ' H') X.xe s
abbrev KU:=V→V→V→Hp→(Hp→Prop)→Prop
def NN (X:Cx) (t:KU):Prop:=
 ∀(pins:List (Addr×Obj)) (s:Shared) (σ:St) (H:Hp) (o i v:V) (ov iv u:Value) (Q:Hp→Prop),bd X pins σ H s→cX o ov→cX i iv→cX v u→t o i v H Q→
  wpAny (model X.prog X.w) X.A (setItem ov iv u) (fun _ s'=>∃H',bd X pins σ H' s'∧Q H') X.xe s
abbrev OC:=V→V→Hp→VK→Prop
def PH (X:Cx) (op:Operator) (t:OC):Prop:=
 ∀(pins:List (Addr×Obj)) (s:Shared) (σ:St) (H:Hp) (x y:V) (v u:Value) (Q:VK),bd X pins σ H s→cX x v→cX y u→t x y H Q→
  wpAny (model X.prog X.w) X.A (inplaceOp op v u) (EP X pins σ Q) X.xe s
section
variable {X:Cx} {pos:Pos}
def DM (i:Nat):TG:=fun v σ H Q=>Q (σ.set i (some v)) H
theorem M5 {i:Nat} {x:Str} (hN:X.N.Nodup) (hi:X.N[i]?=some x) (hx:NL X.env.scope x) (hf:X.fn x=true∨X.env.scope.names.lookup x=some .local:=by first | exact .inl rfl | exact .inr rfl | assumption):PG X (.Name x pos) (DM i):=by
 intro pins s σ H v u Q I r h
 exact wpAny_assign_Name (Cw I hN hi hx r (fun s' I'=>⟨_,H,I',h⟩) hf)
def PX:Nt:=fun vs σ H Q=>vs= []∧Q σ H
def OL (t:TG) (u:Nt):Nt:=fun vs σ H Q=>∃v r,vs=v::r∧t v σ H fun σ' H'=>u r σ' H' Q
theorem qx:OI X [] PX:=by
 intro pins s σ H vs us Q I r h
 obtain⟨e,h⟩:=h
 subst e
 cases r
 exact assignInOrder_nil ⟨σ,H,I,h⟩
theorem eU {e:Expr} {es:List Expr} {t:TG} {u:Nt} (h1:PG X e t) (h2:OI X es u)
  (hs:(assignEach (e::es) X.env).map (·.2)=assign e X.env::(assignEach es X.env).map (·.2):=by rfl):OI X (e::es) (OL t u):=by
 intro pins s σ H vs us Q I r h
 obtain⟨v,vr,e1,h⟩:=h
 subst e1
 cases r with
 | cons r rr=>
  rw [hs]
  refine assignInOrder_cons (eO (h1 pins s σ H _ _ _ I r h) fun _ s1 ⟨σ1,H1,I1,q1⟩=> ?_)
  exact h2 pins s1 σ1 H1 _ _ Q I1 rr q1
def OM (K:PySem.W.Frag) (n:Nat) (t:Nt):TG:=fun v σ H Q=>∃a xs,v= .ref a∧Hr K H a xs∧xs.length=n∧t xs σ H Q
theorem EQ {es:List Expr} {k:Nat} {t:Nt} {n:Nat} (hc:X.calm=true) (h:OI X es t)
  (hn:(assignEach es X.env).length=n:=by rfl) (hst:(assignEach es X.env).findIdx? (·.1)=none:=by rfl):PG X (.Tuple es k pos) (OM X.K n t):=by
 intro pins s σ H v u Q I r hw
 obtain⟨a,xs,e1,hq,hl,hw⟩:=hw
 subst e1
 cases r
 obtain⟨its,rv,ht,hz⟩:=I.tuple hq
 refine assign_Tuple_tuple (I.ok.hd hc) ht (by simp [hn,←hl,rv.length]) hst fun h' hx=> ?_
 have I1:bd X pins σ H {s with heap:=h'}:=I.kept (t':=s.toks) fun b o e=>hx b o (fi (fj e)) e
 exact h pins _ σ H xs _ Q I1 (by simpa using rv) hw
def PY (to ti:TE) (t:KU):TG:=fun v σ H Q=>to σ H fun o H1=>ti σ H1 fun i H2=>t o i v H2 fun H3=>Q σ H3
theorem qw {o i:Expr} {to ti:TE} {t:KU} (ho:PE X o to) (hi:PE X i ti) (hs:NN X t)
  (ha:∀v,assign (.Subscript o i pos) X.env v=(do
   let ov ←holding [v] (eval o X.env)
   let iv ←holding [v,ov] (eval i X.env)
   standAt pos
   holding [v,ov,iv] (setItem ov iv v)
   release [v,ov,iv] []):=by intro _;rfl):PG X (.Subscript o i pos) (PY to ti t):=by
 intro pins s σ H v u Q I r h
 rw [ha]
 refine bI (wpAny_holding (eO (ho pins s σ H _ I h) fun ov s1 ⟨x,H1,I1,r1,q1⟩=> ?_))
 refine bI (wpAny_holding (eO (hi pins s1 σ H1 _ I1 q1) fun iv s2 ⟨y,H2,I2,r2,q2⟩=> ?_))
 refine bI (wpAny_standAt (bI (wpAny_holding (eO (hs pins s2 σ H2 x y v ov iv u _ I2 r1 r2 r q2) fun _ s3 ⟨H3,I3,q3⟩=> ?_))))
 exact wpAny_release ⟨σ,H3,I3,q3⟩
def Nk (te:TE) (g:TG):TS:=fun D σ H=>te σ H fun x H1=>g x σ H1 D.nx
theorem qA {tg e:Expr} {te:TE} {g:TG} (he:PE X e te) (hg:PG X tg g) (hs:swapsWithSole [tg] e pos.line X.env=pure false:=by rfl) (hw:swappedStores [tg] e X.env=pure none:=by rfl)
  (h1:(assignEach [tg] X.env).map (·.2)= [assign tg X.env]:=by rfl):PS X (.Assign [tg] e pos) (Nk te g):=by
 intro pins s σ H D I h
 refine wpAny_Assign_stores (eO (he pins s σ H _ I h) fun v s1 ⟨x,H1,I1,r1,q1⟩=> ?_) hs hw
 rw [h1]
 exact eO (hg pins s1 σ H1 x v _ I1 r1 q1) fun _ s2 q=>q
theorem Oi {i:Nat} {x:Str} {e:Expr} {te:TE} {pos':Pos} (hN:X.N.Nodup) (hi:X.N[i]?=some x) (hx:NL X.env.scope x) (he:PE X e te) (hs:swapsWith e (some (.Name x pos')) pos.line X.env=pure false:=by rfl) (hf:X.fn x=true∨X.env.scope.names.lookup x=some .local:=by first | exact .inl rfl | exact .inr rfl | assumption):
  PS X (.Assign [.Name x pos'] e pos) (Nk te (DM i)):=by
 intro pins s σ H D I h
 refine wpAny_Assign_Name (eO (he pins s σ H _ I h) fun v s1 ⟨y,H1,I1,r1,q1⟩=> ?_) hs
 exact Cw I1 hN hi hx r1 (fun s2 I2=>⟨_,H1,I2,q1⟩) hf
def Qi (i:Nat) (te:TE) (ti:OC):TS:=fun D σ H=>∃x,σ[i]?=some (some x)∧te σ H fun y H1=>ti x y H1 fun z H2=>D.nx (σ.set i (some z)) H2
theorem og {i:Nat} {x:Str} {e:Expr} {te:TE} {op:Operator} {ti:OC} {pos':Pos} (hN:X.N.Nodup) (hi:X.N[i]?=some x) (hx:NL X.env.scope x) (he:PE X e te) (ho:PH X op ti) (hf:X.fn x=true∨X.env.scope.names.lookup x=some .local:=by first | exact .inl rfl | exact .inr rfl | assumption):
  PS X (.AugAssign (.Name x pos') op e pos) (Qi i te ti):=by
 intro pins s σ H D I h
 obtain⟨v,e1,h⟩:=h
 obtain⟨m,hn,hl⟩:=I.loc
 have vis:NO X.env.scope x:=by rcases hx with k | k;exact .inl k;exact .inr (.inl k)
 obtain⟨u,r,l⟩:=hl i x v hi e1 vis
 refine wpAny_AugAssign_Name ?_
 have go:wpAny (model X.prog X.w) X.A (eval e X.env) (fun w s₂=>wpAny (model X.prog X.w) X.A (inplaceOp op u w) (fun r s₃=>wpAny (model X.prog X.w) X.A (storeName X.env x r) (fun _=>SP X pins D .next) X.xe s₃) X.xe s₂) X.xe s:=by
  refine eO (he pins s σ H _ I h) fun w s1 ⟨y,H1,I1,r1,q1⟩=> ?_
  refine eO (ho pins s1 σ H1 v y u w _ I1 r r1 q1) fun z s2 ⟨zv,H2,I2,r2,q2⟩=> ?_
  exact Cw I2 hN hi hx r2 (fun s3 I3=>⟨_,H2,I3,q2⟩) hf
 rcases l with⟨hk,hm⟩ | ⟨hk,c,hc,hcell⟩
 ·exact wpAny_loadName_local I.ok.kind hk hn hm go
 ·rcases hk with hk | hk
  ·exact wpAny_loadName_cell I.ok.kind hk hc hcell go
  ·rcases hx with k | k
   ·have:X.env.scope.names.lookup x=some .free:=hk
    rw [k] at this;cases this
   ·have:X.env.scope.names.lookup x=some .free:=hk
    rw [k] at this;cases this
def Pb (to ti te:TE) (tget:V→V→Hp→VK→Prop) (tip:OC) (tset:KU):TS:=fun D σ H=>to σ H fun o H1=>ti σ H1 fun i H2=>tget o i H2 fun x H3=>te σ H3 fun y H4=>tip x y H4 fun z H5=>tset o i z H5 fun H6=>D.nx σ H6
def OH (X:Cx) (t:V→V→Hp→VK→Prop):Prop:=
 ∀(pins:List (Addr×Obj)) (s:Shared) (σ:St) (H:Hp) (o i:V) (ov iv:Value) (Q:VK),bd X pins σ H s→cX o ov→cX i iv→t o i H Q→
  wpAny (model X.prog X.w) X.A (getItem ov iv) (EP X pins σ Q) X.xe s
theorem M7 {o i e:Expr} {to ti te:TE} {tget:V→V→Hp→VK→Prop} {tip:OC} {tset:KU} {op:Operator} {tpos:Pos} (ho:PE X o to) (hi:PE X i ti) (hg:OH X tget) (he:PE X e te) (hp:PH X op tip) (hs:NN X tset)
  (ha:∀ov iv new,augStore i ov iv new=(do holding [new,ov,iv] (setItem ov iv new);release [new,ov,iv] [];pure .next):=by intros;rfl):PS X (.AugAssign (.Subscript o i tpos) op e pos) (Pb to ti te tget tip tset):=by
 intro pins s σ H D I h
 refine wpAny_AugAssign_SubscriptAny (eO (ho pins s σ H _ I h) fun ov s1 ⟨x1,H1,I1,r1,q1⟩=> ?_) ha
 refine eO (hi pins s1 σ H1 _ I1 q1) fun iv s2 ⟨x2,H2,I2,r2,q2⟩=> ?_
 refine eO (hg pins s2 σ H2 x1 x2 ov iv _ I2 r1 r2 q2) fun old s3 ⟨x3,H3,I3,r3,q3⟩=> ?_
 refine eO (he pins s3 σ H3 _ I3 q3) fun v s4 ⟨x4,H4,I4,r4,q4⟩=> ?_
 refine eO (hp pins s4 σ H4 x3 x4 old v _ I4 r3 r4 q4) fun new s5 ⟨x5,H5,I5,r5,q5⟩=> ?_
 exact eO (hs pins s5 σ H5 x1 x2 x5 ov iv new _ I5 r1 r2 r5 q5) fun _ s6 ⟨H6,I6,q6⟩=>⟨σ,H6,I6,q6⟩
def QK (f:Int→Int→Int):OC:=fun x y H Q=>∃i j,x= .int i∧y= .int j∧Q (.int (f i j)) H
theorem ml:PH X .Add (QK fun i j=>i+j):=by
 intro pins s σ H x y v u Q I r1 r2 h
 obtain⟨i,j,e1,e2,q⟩:=h
 subst e1;subst e2
 obtain⟨t,rfl⟩:=r1
 obtain⟨t',rfl⟩:=r2
 exact iadd_int ⟨.int _,H,I.tok _,⟨_,rfl⟩,q⟩
end
section
variable {X:Cx} {pos:Pos}
def Oy (c:TT) (tb:TS):TS:=fun D σ H=>∃W:Nat→St→Hp→Prop,(∃m,W m σ H)∧∀m σ H,W m σ H→
 c σ H fun b H1=>if b=true then ∃N:St→Hp→Prop,(∀σ' H',N σ' H'→∃m',m'<m∧W m' σ' H')∧tb {D with nx:=N,ct:=N,bk:=D.nx} σ H1 else D.nx σ H1
theorem lg {c:Expr} {body:List Stmt} {tc:TT} {tb:TS} (hp:PassesOwn (model X.prog X.w) X.A X.env X.xe) (hc:PT X c tc) (hb:Hq X body tb):PS X (.While c body [] pos) (Oy tc tb):=by
 intro pins s σ H D I h
 obtain⟨W,⟨m0,w0⟩,turn⟩:=h
 refine wpAny_While (codeAny_whileLoop (fun n s'=>∃σ' H',bd X pins σ' H' s'∧W n σ' H') ?_ m0 ⟨σ,H,I,w0⟩)
 rintro n s1 ⟨σ1,H1,I1,w1⟩
 refine wG hp (eO (hc pins s1 σ1 H1 _ I1 (turn n σ1 H1 w1)) fun b s2 ⟨H2,I2,q2⟩=> ?_)
 cases b with
 | true=>
  obtain⟨N,hN,q2⟩:=q2
  rw [if_pos rfl]
  refine wG hp (eO (hb pins s2 σ1 H2 _ I2 q2) fun f s3 q3=> ?_)
  cases f with
  | next=>
   obtain⟨σ3,H3,I3,n3⟩:=q3
   obtain⟨m',hm,w3⟩:=hN σ3 H3 n3
   exact⟨m',hm,σ3,H3,I3,w3⟩
  | cont=>
   obtain⟨σ3,H3,I3,n3⟩:=q3
   obtain⟨m',hm,w3⟩:=hN σ3 H3 n3
   exact⟨m',hm,σ3,H3,I3,w3⟩
  | brk=>exact q3
  | ret v=>exact q3
 | false=>
  rw [if_neg uq]
  exact wpAny_execs_nil ⟨σ1,H2,I2,q2⟩
end
structure It where
 go:Nat→Hp→Prop
 yld:Nat→Hp→V→Hp→Prop
 stop:Nat→Hp→Prop
def An (X:Cx) (pins:List (Addr×Obj)) (H:Hp) (b:Addr):Prop:=
 H b=none∧b≠X.env.locals∧b ∉ X.fs∧(b∈X.ex∨X.s_0.heap.objs.size≤b)∧(∀x c,X.env.cells.lookup x=some c→c≠b)∧∀p∈X.pn++pins,p.1≠b
theorem bd.fpOk {X:Cx} {pins:List (Addr×Obj)} {σ:St} {H H':Hp} {s:Shared} {b:Addr} (I:bd X pins σ H s) (hb:s.heap.objs.size≤b) (hn:H' b=none):An X pins H' b:=by
 refine⟨hn,Nat.ne_of_gt (gO I.lt hb),I.nofs hb,.inr (fQ I.sz hb),fun x c e z=> ?_,fun p hp z=> ?_⟩
 ·obtain⟨v,q⟩:=I.cell x c e
  exact absurd (gO q.lt (by rw [z];exact hb)) (sn _)
 ·exact absurd (gO (fj (I.pin p hp).1) (by rw [z];exact hb)) (sn _)
structure Mx (P:Program) (w:World) (K:PySem.W.Frag) (tg:Expr) (J:It) (fp:List Addr) (it:Addr) (tn:Nat→Heap→Prop):Prop where
 mem:it∈fp
 obj:∀i h,tn i h→∀b∈fp,∃o,h.get? b=some o∧∀v,o.data≠ .cell v
 keep:∀i h h',tn i h→(∀b∈fp,∀o,h.get? b=some o→h'.get? b=some o)→tn i h'
 item:∀(X:Cx),X.prog=P→X.w=w→X.K=K→X.calm=true→∀(i:Nat) (pins:List (Addr×Obj)) (s:Shared) (σ:St) (H:Hp) (E:Value→Shared→Prop),bd X pins σ H s→(∀b∈fp,An X pins H b)→tn i s.heap→J.go i H→
  wpAny (model P w) X.A (pyNext (.ref it)) (fun r s1=>∃u,r=some u∧
   wpAny (model P w) X.A (letOwnedTupleGo tg (.ref it) u) (fun _ s2=>∃x H',bd X pins σ H' s2∧cX x u∧J.yld i H x H'∧tn (i+1) s2.heap∧∀b∈fp,H' b=none) E s1) E s
 done:∀(X:Cx),X.prog=P→X.w=w→X.K=K→X.calm=true→∀(i:Nat) (pins:List (Addr×Obj)) (s:Shared) (σ:St) (H:Hp) (E:Value→Shared→Prop),bd X pins σ H s→(∀b∈fp,An X pins H b)→tn i s.heap→J.stop i H→
  wpAny (model P w) X.A (pyNext (.ref it)) (fun r s1=>r=none∧bd X pins σ H s1) E s
 self:∀(A:Around) (i:Nat) (s:Shared) (Q:Value→Shared→Prop) (E:Value→Shared→Prop),tn i s.heap→Q (.ref it) s→wpAny (model P w) A (pyIter (.ref it)) Q E s
abbrev TI:=St→Hp→(It→Hp→Prop)→Prop
def Qs (X:Cx) (pins:List (Addr×Obj)) (σ:St) (tg:Expr) (R:It→Hp→Prop) (itv:Value) (s2:Shared):Prop:=
 ∃(it:Addr) (fp:List Addr) (tn:Nat→Heap→Prop) (J:It) (H':Hp),itv= .ref it∧bd X pins σ H' s2∧Mx X.prog X.w X.K tg J fp it tn∧tn 0 s2.heap∧(∀b∈fp,An X pins H' b)∧R J H'
def PI (X:Cx) (tg iter:Expr) (wi:TI):Prop:=
 ∀(pins:List (Addr×Obj)) (s:Shared) (σ:St) (H:Hp) (R:It→Hp→Prop),bd X pins σ H s→wi σ H R→
  wpAny (model X.prog X.w) X.A (eval iter X.env) (fun v s1=>wpAny (model X.prog X.w) X.A (pyIter v) (Qs X pins σ tg R) X.xe s1) X.xe s
theorem Nv {M:Model} {A:Around} {E:Value→Shared→Prop} {s:Shared} {tg:Expr} {it:Addr} {u:Value} {o:Obj} {n:String} {vs:Array Value} {Q:Unit→Shared→Prop} (ho:s.heap.get? it=some o) (hc:o.cls= .type n) (hd:o.data= .fields vs)
  (hn: ["enumerate","zip","dict_itemiterator","dict_reverseitemiterator","odict_iterator","itertools.zip_longest","itertools.pairwise"].contains n=false) (hQ:Q () s):wpAny M A (letOwnedTupleGo tg (.ref it) u) Q E s:=by
 unfold letOwnedTupleGo
 cases tg<;>first
  | exact dP hQ
  | (cases u<;>first
    | exact dP hQ
    | (refine bI (wpAny_load ho ?_)
       rw [hc,hd]
       show wpAny M A (if (["enumerate","zip","dict_itemiterator","dict_reverseitemiterator","odict_iterator","itertools.zip_longest","itertools.pairwise"].contains n && vs[0]?==some (rawInt _))=true then _ else _) Q E s
       rw [if_neg (by intro h;rw [hn,Bool.false_and] at h;cases h)]
       exact dP hQ))
def Np (K:PySem.W.Frag) (a:Addr):It:=
 ⟨fun i H=>∃xs x,a4 K H a xs∧xs[i]?=some x,fun i H x H'=>H'=H∧∀xs,a4 K H a xs→xs[i]?=some x,fun i H=>∃xs,a4 K H a xs∧xs.length≤i⟩
def Mt (lo:Int) (n:Nat):It:=⟨fun i _=>i<n,fun i H x H'=>H'=H∧x= .int (lo+i),fun i _=>n≤i⟩
theorem KK {P:Program} {w:World} {K:PySem.W.Frag} {tg:Expr} (a it:Addr):Mx P w K tg (Np K a) [it] it (fun i h=>h.IsListIter it a i) where
 mem:=by simp
 obj:=fun i h st b hb=>by
  have e:b=it:=by simpa using hb
  subst e
  obtain⟨o,e,c,d⟩:=st
  exact⟨o,e,fun v z=>by rw [d] at z;cases z⟩
 keep:=fun i h h' st k=>st.at fun o e=>k it (by simp) o e
 item:=by
  intro X hP hw hK hc i pins s σ H E I hf st hg
  subst hP hw hK
  obtain⟨xs,x,hq,hx⟩:=hg
  obtain⟨its,rv,p,hz⟩:=I.list hq
  obtain⟨u,hu,ru⟩:=rv.get hx
  obtain⟨f0,f1,f2,f3,f4,f5⟩:=hf it (by simp)
  refine wpAny_pyNext_list_item st p.isList (x:=u) (by simpa using hu) fun h' st' sb=> ?_
  have I1:bd X pins σ H {s with heap:=h'}:=I.turned (t':=s.toks) (fun b o hb e=>(sb.2 b hb).trans e) f0 f1 f3 f4 f5
  obtain⟨o,e,c,d⟩:=id st'
  exact⟨u,rfl,Nv (s:={s with heap:=h'}) e c d (by decide) ⟨x,H,I1,ru,⟨rfl,fun ys hy=>by rw [I.list_inj hy hq];exact hx⟩,st',fun b hb=>(hf b hb).1⟩⟩
 done:=by
  intro X hP hw hK hc i pins s σ H E I hf st hg
  subst hP hw hK
  obtain⟨xs,hq,hx⟩:=hg
  obtain⟨its,rv,p,hz⟩:=I.list hq
  obtain⟨f0,f1,f2,f3,f4,f5⟩:=hf it (by simp)
  have hl:=rv.length
  exact wpAny_pyNext_list_end (I.ok.hd hc) st p.isList (by simp;omega) fun h' eb=>⟨rfl,I.turned (t':=s.toks) (fun b o hb e=>eb b o hb e) f0 f1 f3 f4 f5⟩
 self:=fun _ _ _ _ _ st h=>wpAny_pyIter_listiter st h
theorem Iv {P:Program} {w:World} {K:PySem.W.Frag} {tg:Expr} (it:Addr) (lo:Int) (n:Nat):Mx P w K tg (Mt lo n) [it] it (fun i h=>IsRangeIter h it (lo+(i:Nat)*1) ((n:Int) - (i:Nat)) 1) where
 mem:=by simp
 obj:=fun i h st b hb=>by
  have e:b=it:=by simpa using hb
  subst e
  exact⟨_,st,fun v z=>by
   have z':Data.fields _=Data.cell v:=z
   cases z'⟩
 keep:=fun i h h' st k=>k it (by simp) _ st
 item:=by
  intro X hP hw hK hc i pins s σ H E I hf st hg
  subst hP hw hK
  obtain⟨f0,f1,f2,f3,f4,f5⟩:=hf it (by simp)
  have W:=Walks.range (prog:=X.prog) (w:=X.w) (I.ok.hd hc) it lo 1 n
  refine W.item i s _ _ hg st fun v h' tk hv st' kk=> ?_
  obtain⟨t,rfl⟩:=hv
  have I1:bd X pins σ H {s with heap:=h',toks:=tk}:=I.turned (fun b o hb e=>kk b o (by simpa using hb) e) f0 f1 f3 f4 f5
  refine⟨_,rfl,Nv (s:={s with heap:=h',toks:=tk}) (n:="range_iterator") st' rfl rfl (by decide) ⟨.int (lo+i),H,I1,⟨t,?_⟩,⟨rfl,rfl⟩,st',fun b hb=>(hf b hb).1⟩⟩
  rw [Int.mul_one]
 done:=by
  intro X hP hw hK hc i pins s σ H E I hf st hg
  subst hP hw hK
  obtain⟨f0,f1,f2,f3,f4,f5⟩:=hf it (by simp)
  exact wpAny_pyNext_range_end (I.ok.hd hc) st (by have:n≤i:=hg;omega) fun h' eb=>⟨rfl,I.turned (t':=s.toks) (fun b o hb e=>eb b o hb e) f0 f1 f3 f4 f5⟩
 self:=fun _ _ _ _ _ st h=>wpAny_pyIter_rangeiter st h
end L2
namespace L2
open PySem PySem.Spec PyProof.Rows
section
variable {X:Cx} {tg:Expr}
def OO (K:PySem.W.Frag) (tl:TE):TI:=fun σ H R=>tl σ H fun x H1=>∃a,x= .ref a∧(∃xs,a4 K H1 a xs)∧R (Np K a) H1
theorem cD {l:Expr} {tl:TE} (hl:PE X l tl):PI X tg l (OO X.K tl):=by
 intro pins s σ H R I h
 refine eO (hl pins s σ H _ I h) fun v s1 ⟨x,H1,I1,r1,q1⟩=> ?_
 obtain⟨a,e,⟨xs,hq⟩,q⟩:=q1
 subst e
 cases r1
 obtain⟨its,rv,p,hz⟩:=I1.list hq
 refine wpAny_pyIter_list p.isList ?_
 refine⟨s1.heap.objs.size,[s1.heap.objs.size],_,_,H1,rfl,I1.kept (t':=s1.toks) fun b o e=>i5 _ e,KK a _,⟨_,vb _ rfl,rfl,rfl⟩,fun b hb=> ?_,q⟩
 have e:b=s1.heap.objs.size:=by simpa using hb
 subst e
 exact I1.fpOk (bp _) (I1.hok.fresh (bp _))
theorem Gk {pins:List (Addr×Obj)} {σ:St} {H:Hp} {s:Shared} {R:It→Hp→Prop} {E:Value→Shared→Prop} {lo hi:Int} {t u v:Tok} {tk:Nat} (I:bd X pins σ H s) (h1: -(2 ^ 62)≤lo) (h2:lo<2 ^ 62) (h3: -(2 ^ 62)≤hi) (h4:hi<2 ^ 62)
  (q:R (Mt lo (hi - lo).toNat) H):wpAny (model X.prog X.w) X.A (pyIter (.ref s.heap.objs.size)) (Qs X pins σ tg R) E {s with heap:=s.heap.push {cls:= .type "range",data:= .fields #[.int lo t,.int hi u,.int 1 v]},toks:=tk}:=by
 refine wpAny_pyIter_range (IsRange.new ..) (small_one h1 h2 h3 h4) ?_
 have I1:bd X pins σ H {s with heap:=s.heap.push {cls:= .type "range",data:= .fields #[.int lo t,.int hi u,.int 1 v]},toks:=tk}:=I.kept fun b o e=>i5 _ e
 refine⟨(s.heap.push {cls:= .type "range",data:= .fields #[.int lo t,.int hi u,.int 1 v]}).objs.size,[(s.heap.push {cls:= .type "range",data:= .fields #[.int lo t,.int hi u,.int 1 v]}).objs.size],_,_,H,rfl,
  I1.kept (t':=tk) fun b o e=>i5 _ e,Iv _ lo (hi - lo).toNat,?_,fun b hb=> ?_,q⟩
 ·have e1:lo+((0:Nat):Int)*1=lo:=by simp
  have e2:(((hi - lo).toNat:Nat):Int) - ((0:Nat):Int)=Builtin.Range.rangeSize lo hi 1:=by rw [rangeSize_one];split<;>omega
  show IsRangeIter _ _ (lo+((0:Nat):Int)*1) ((((hi - lo).toNat:Nat):Int) - ((0:Nat):Int)) 1
  rw [e1,e2]
  exact vb _ rfl
 ·have e:b=(s.heap.push {cls:= .type "range",data:= .fields #[.int lo t,.int hi u,.int 1 v]}).objs.size:=by simpa using hb
  subst e
  exact I1.fpOk (bp _) (I1.hok.fresh (bp _))
def OP (ta:TA):TI:=fun σ H R=>ta σ H fun vs H1=>∃j:Int,vs= [.int j]∧-(2 ^ 62)≤j∧j<2 ^ 62∧R (Mt 0 j.toNat) H1
def OR (ta:TA):TI:=fun σ H R=>ta σ H fun vs H1=>∃i j:Int,vs= [.int i,.int j]∧(-(2 ^ 62)≤i∧i<2 ^ 62∧-(2 ^ 62)≤j∧j<2 ^ 62)∧R (Mt i (j - i).toNat) H1
theorem cq {a:Expr} {ta:TA} {p pos:Pos} (hg:Gl X "range") (hm:X.mg "range"=none) (ha:PA X [a] ta) (hs:starEach [a] X.env= [(false,eval a X.env)]:=by rfl):PI X tg (.Call (.Name "range" p) [a] [] pos) (OP ta):=by
 intro pins s σ H R I h
 refine Call_ (vM I hg hm boot_range (CF (eO (ha pos pins s σ H _ I h) fun us s1 ⟨vs,H1,I1,r1,q1⟩=> ?_) hs rfl))
 obtain⟨j,e,q1,q2,q⟩:=q1
 subst e
 cases r1 with
 | cons r rr=>
  cases rr
  obtain⟨t,rfl⟩:=r
  exact call_range_1 (Gk I1 (by omega) (by omega) q1 q2 (by simpa using q))
theorem Kq {a b:Expr} {ta:TA} {p pos:Pos} (hg:Gl X "range") (hm:X.mg "range"=none) (ha:PA X [a,b] ta) (hs:starEach [a,b] X.env= [(false,eval a X.env),(false,eval b X.env)]:=by rfl) (hs2:starEach [b] X.env= [(false,eval b X.env)]:=by rfl):
  PI X tg (.Call (.Name "range" p) [a,b] [] pos) (OR ta):=by
 intro pins s σ H R I h
 refine Call_ (vM I hg hm boot_range (CF (eO (ha pos pins s σ H _ I h) fun us s1 ⟨vs,H1,I1,r1,q1⟩=> ?_) (by rw [hs,hs2]) (by rw [hs2];rfl)))
 obtain⟨i,j,e,⟨q1,q2,q3,q4⟩,q⟩:=q1
 subst e
 cases r1 with
 | cons r rr=>
  cases rr with
  | cons r' rr=>
   cases rr
   obtain⟨t,rfl⟩:=r
   obtain⟨t',rfl⟩:=r'
   exact call_range_2 (Gk I1 q1 q2 q3 q4 q)
def Qj (wi:TI) (g:TG) (tb:TS):TS:=fun D σ H=>wi σ H fun J H1=>∃W:Nat→Nat→St→Hp→Prop,(∃m,W 0 m σ H1)∧∀i m σ H,W i m σ H→
 (J.stop i H∧D.nx σ H)∨(J.go i H∧∃N:St→Hp→Prop,(∀σ' H',N σ' H'→∃m',m'<m∧W (i+1) m' σ' H')∧∀x H',J.yld i H x H'→g x σ H' fun σ2 H2=>tb {D with nx:=N,ct:=N,bk:=D.nx} σ2 H2)
def BL (fp:List Addr) (h:Heap):List (Addr×Obj):=fp.filterMap fun b=>(h.get? b).map fun o=>(b,o)
theorem vP {fp:List Addr} {h:Heap} {b:Addr} {o:Obj} (hb:b∈fp) (e:h.get? b=some o):(b,o)∈BL fp h:=List.mem_filterMap.mpr ⟨b,hb,by rw [e];rfl⟩
theorem J8 {fp:List Addr} {h:Heap} {p:Addr×Obj} (hp:p∈BL fp h):p.1∈fp∧h.get? p.1=some p.2:=by
 obtain⟨b,hb,e⟩:=List.mem_filterMap.mp hp
 cases q:h.get? b with
 | none=>rw [q] at e;cases e
 | some o=>
  rw [q] at e
  have e':(b,o)=p:=bE e
  subst e'
  exact⟨hb,q⟩
theorem bd.pinned {pins:List (Addr×Obj)} {σ:St} {H:Hp} {s:Shared} {fp:List Addr} (I:bd X pins σ H s) (hf:∀b∈fp,An X pins H b) (ho:∀b∈fp,∃o,s.heap.get? b=some o∧∀v,o.data≠ .cell v):bd X (pins++BL fp s.heap) σ H s:=
 I.pins_of fun p hp=>(jO.mp hp).elim (fun z=>I.pin p (sj _ z)) fun z=>by
  obtain⟨hb,e⟩:=J8 z
  obtain⟨f0,f1,f2,_⟩:=hf p.1 hb
  obtain⟨o,e',d⟩:=ho p.1 hb
  rw [e] at e';cases e'
  exact⟨e,f0,f1,f2,d⟩
theorem bd.unpinned {pins pl:List (Addr×Obj)} {σ:St} {H:Hp} {s:Shared} (I:bd X (pins++pl) σ H s):bd X pins σ H s:=I.pins_of fun p hp=>I.pin p (sj _ (CO _ hp))
theorem d7 {iter:Expr} {body:List Stmt} {wi:TI} {g:TG} {tb:TS} {pos:Pos} (hp:PassesOwn (model X.prog X.w) X.A X.env X.xe) (hc:X.calm=true) (hi:PI X tg iter wi) (hg:PG X tg g) (hb:Hq X body tb)
  (hs:∀x,foldedSetIterable iter X.env x=pure x:=by intro _;rfl):PS X (.For tg iter body [] pos) (Qj wi g tb):=by
 intro pins s σ H D I h
 refine wpAny_For (eO (hi pins s σ H _ I h) fun v s1 h1=>eO h1 fun itv s2 h2=> ?_) hs
 obtain⟨it,fp,tn,J,H2,e,I2,T,st2,f2,W,⟨m0,w0⟩,turn⟩:=h2
 subst e
 have stat:∀{H':Hp},(∀b∈fp,H' b=none)→∀b∈fp,An X pins H' b:=fun hn b hb=>⟨hn b hb,(f2 b hb).2⟩
 refine codeAny_forLoop_any (fun n s'=>∃i σ' H',bd X pins σ' H' s'∧tn i s'.heap∧(∀b∈fp,H' b=none)∧W i n σ' H') ?_ m0 ⟨0,σ,H2,I2,st2,fun b hb=>(f2 b hb).1,w0⟩
 rintro n s3 ⟨i,σ3,H3,I3,st3,fr3,w3⟩
 rcases turn i n σ3 H3 w3 with⟨stop,qn⟩ | ⟨go,N,hN,step⟩
 ·refine wG hp (eO (T.done X rfl rfl rfl hc i pins s3 σ3 H3 X.xe I3 (stat fr3) st3 stop) fun r s4 ⟨hr,I4⟩=> ?_)
  subst hr
  exact wpAny_execs_nil ⟨σ3,H3,I4,qn⟩
 ·refine wG hp (eO (T.item X rfl rfl rfl hc i pins s3 σ3 H3 X.xe I3 (stat fr3) st3 go) fun r s4 ⟨u,hr,h4⟩=> ?_)
  subst hr
  refine wG hp (eO h4 fun _ s5 ⟨x,H5,I5,r5,y5,st5,fr5⟩=> ?_)
  have I5':=I5.pinned (stat fr5) (T.obj _ _ st5)
  refine wG hp (eO (hg _ s5 σ3 H5 x u _ I5' r5 (step x H5 y5)) fun _ s6 ⟨σ6,H6,I6,q6⟩=> ?_)
  refine wG hp (eO (hb _ s6 σ6 H6 _ I6 q6) fun f s7 q7=> ?_)
  have again:∀{σ7:St} {H7:Hp},bd X (pins++BL fp s5.heap) σ7 H7 s7→N σ7 H7→∃m,m<n∧∃i σ' H',bd X pins σ' H' s7∧tn i s7.heap∧(∀b∈fp,H' b=none)∧W i m σ' H':=fun {σ7 H7} I7 n7=>by
   obtain⟨m',hm,w7⟩:=hN σ7 H7 n7
   refine⟨m',hm,i+1,σ7,H7,I7.unpinned,T.keep _ _ _ st5 fun b hb o e=>(I7.pin (b,o) (sj _ (sj _ (vP hb e)))).1,fun b hb=> ?_,w7⟩
   obtain⟨o,e,d⟩:=T.obj _ _ st5 b hb
   exact(I7.pin (b,o) (sj _ (sj _ (vP hb e)))).2.1
  cases f with
  | next=>obtain⟨σ7,H7,I7,n7⟩:=q7;exact again I7 n7
  | cont=>obtain⟨σ7,H7,I7,n7⟩:=q7;exact again I7 n7
  | brk=>obtain⟨σ7,H7,I7,q7⟩:=q7;exact⟨σ7,H7,I7.unpinned,q7⟩
  | ret v=>obtain⟨x7,σ7,H7,I7,r7,q7⟩:=q7;exact⟨x7,σ7,H7,I7.unpinned,r7,q7⟩
end
theorem eB {K:PySem.W.Frag} {a:Addr} {xs:List V} {g:TG} {tb:TS} {D:Fv} {σ:St} {H:Hp} (Pv:Nat→St→Hp→Prop) (h0:Pv 0 σ H) (hl:∀i σ H,i≤xs.length→Pv i σ H→a4 K H a xs)
  (hs:∀i x σ H,xs[i]?=some x→Pv i σ H→g x σ H fun σ2 H2=>tb {D with nx:=Pv (i+1),ct:=Pv (i+1),bk:=D.nx} σ2 H2) (hd:∀σ H,Pv xs.length σ H→D.nx σ H):
  ∃W:Nat→Nat→St→Hp→Prop,(∃m,W 0 m σ H)∧∀i m σ H,W i m σ H→
   ((Np K a).stop i H∧D.nx σ H)∨((Np K a).go i H∧∃N:St→Hp→Prop,(∀σ' H',N σ' H'→∃m',m'<m∧W (i+1) m' σ' H')∧∀x H',(Np K a).yld i H x H'→g x σ H' fun σ2 H2=>tb {D with nx:=N,ct:=N,bk:=D.nx} σ2 H2):=by
 refine⟨fun i m σ H=>m=xs.length - i∧i≤xs.length∧Pv i σ H,⟨xs.length,by simp,bn _,h0⟩,?_⟩
 rintro i m σ H ⟨rfl,hi,p⟩
 have q:=hl i σ H hi p
 by_cases hlt:i<xs.length
 ·refine .inr ⟨⟨xs,xs[i],q,by simp [hlt]⟩,Pv (i+1),fun σ' H' p'=>⟨xs.length - (i+1),by omega,rfl,hlt,p'⟩,fun x H' y=> ?_⟩
  obtain⟨e,y⟩:=y
  subst e
  exact hs i x σ _ (y xs q) p
 ·have e:i=xs.length:=by omega
  subst e
  exact .inl ⟨⟨xs,q,bp _⟩,hd σ H p⟩
theorem gU {lo:Int} {n:Nat} {g:TG} {tb:TS} {D:Fv} {σ:St} {H:Hp} (Pv:Nat→St→Hp→Prop) (h0:Pv 0 σ H)
  (hs:∀i σ H,i<n→Pv i σ H→g (.int (lo+i)) σ H fun σ2 H2=>tb {D with nx:=Pv (i+1),ct:=Pv (i+1),bk:=D.nx} σ2 H2) (hd:∀σ H,Pv n σ H→D.nx σ H):
  ∃W:Nat→Nat→St→Hp→Prop,(∃m,W 0 m σ H)∧∀i m σ H,W i m σ H→
   ((Mt lo n).stop i H∧D.nx σ H)∨((Mt lo n).go i H∧∃N:St→Hp→Prop,(∀σ' H',N σ' H'→∃m',m'<m∧W (i+1) m' σ' H')∧∀x H',(Mt lo n).yld i H x H'→g x σ H' fun σ2 H2=>tb {D with nx:=N,ct:=N,bk:=D.nx} σ2 H2):=by
 refine⟨fun i m σ H=>m=n - i∧i≤n∧Pv i σ H,⟨n,by simp,bn _,h0⟩,?_⟩
 rintro i m σ H ⟨rfl,hi,p⟩
 by_cases hlt:i<n
 ·refine .inr ⟨hlt,Pv (i+1),fun σ' H' p'=>⟨n - (i+1),by omega,rfl,hlt,p'⟩,fun x H' y=> ?_⟩
  obtain⟨e,y⟩:=y
  subst e y
  exact hs i σ _ hlt p
 ·have e:i=n:=by omega
  subst e
  exact .inl ⟨bp _,hd σ H p⟩
end L2
namespace L2
open PySem PySem.Spec PyProof.Rows
abbrev R2:=V→V→Hp→VK→Prop
def Bf (X:Cx) (f:Value→Value→Sem Value) (r:R2):Prop:=
 ∀(pins:List (Addr×Obj)) (s:Shared) (σ:St) (H:Hp) (x y:V) (v u:Value) (Q:VK),bd X pins σ H s→cX x v→cX y u→r x y H Q→
  wpAny (model X.prog X.w) X.A (f v u) (EP X pins σ Q) X.xe s
def PK (X:Cx) (f:Value→Sem Value) (r:V→Hp→VK→Prop):Prop:=
 ∀(pins:List (Addr×Obj)) (s:Shared) (σ:St) (H:Hp) (x:V) (v:Value) (Q:VK),bd X pins σ H s→cX x v→r x H Q→
  wpAny (model X.prog X.w) X.A (f v) (EP X pins σ Q) X.xe s
def rD (X:Cx) (f:Value) (r:List V→Hp→VK→Prop):Prop:=
 ∀(pins:List (Addr×Obj)) (s:Shared) (σ:St) (H:Hp) (xs:List V) (us:List Value) (Q:VK),bd X pins σ H s→bM xs us→r xs H Q→
  wpAny (model X.prog X.w) X.A (call f us) (EP X pins σ Q) X.xe s
def Pj (r:R2) (ta tb:TE):TE:=fun σ H Q=>ta σ H fun x H1=>tb σ H1 fun y H2=>r x y H2 Q
def QS (r:V→Hp→VK→Prop) (ta:TE):TE:=fun σ H Q=>ta σ H fun x H1=>r x H1 Q
def rI (C:Int→Int→Prop) (g:Int→Int→V):R2:=fun x y H Q=>∃i j,x= .int i∧y= .int j∧C i j∧Q (g i j) H
def Nb (g:Int→Int→V):R2:=fun x y H Q=>∃i j,x= .int i∧y= .int j∧Q (g i j) H
def rU (g:Int→V):V→Hp→VK→Prop:=fun x H Q=>∃i,x= .int i∧Q (g i) H
section
variable {X:Cx} {a b c:Expr} {ta tb tc:TE} {pos:Pos}
theorem NS (ha:PE X a ta) (hb:PE X b tb) {pins:List (Addr×Obj)} {s:Shared} {σ:St} {H:Hp} {R:V→V→Hp→Prop} (I:bd X pins σ H s)
  (h:ta σ H fun x H1=>tb σ H1 fun y H2=>R x y H2) {Q:Value→Shared→Prop} {f:Value→Value→Sem Value}
  (hf:∀v u s2 x y H2,bd X pins σ H2 s2→cX x v→cX y u→R x y H2→wpAny (model X.prog X.w) X.A (f v u) Q X.xe s2):
  wpAny (model X.prog X.w) X.A (eval a X.env) (fun v s₁=>wpAny (model X.prog X.w) X.A (eval b X.env) (fun u s₂=>wpAny (model X.prog X.w) X.A (f v u) Q X.xe s₂) X.xe s₁) X.xe s:=by
 refine eO (ha pins s σ H _ I h) fun v s1 ⟨x,H1,I1,r1,q1⟩=> ?_
 refine eO (hb pins s1 σ H1 _ I1 q1) fun u s2 ⟨y,H2,I2,r2,q2⟩=> ?_
 exact hf v u s2 x y H2 I2 r1 r2 q2
theorem aB {op:Operator} {r:R2} (ho:Bf X (binaryOp op) r) (ha:PE X a ta) (hb:PE X b tb):PE X (.BinOp a op b pos) (Pj r ta tb):=by
 intro pins s σ H Q I h
 exact wpAny_BinOp (NS ha hb I h fun v u s2 x y H2 I2 rx ry q=>ho pins s2 σ H2 x y v u Q I2 rx ry q)
theorem Ji {op:UnaryOp} {r:V→Hp→VK→Prop} (ho:PK X (unaryOp op) r) (ha:PE X a ta):PE X (.UnaryOp op a pos) (QS r ta):=by
 intro pins s σ H Q I h
 exact UnaryOp_ (eO (ha pins s σ H _ I h) fun v s1 ⟨x,H1,I1,r1,q1⟩=>ho pins s1 σ H1 x v Q I1 r1 q1)
theorem P3 {f:Value→Value→Sem Value} {C:Int→Int→Prop} {g:Int→Int→Int}
  (rule:∀(i j:Int) (t u:Tok) (s:Shared) (Q:Value→Shared→Prop) (E:Value→Shared→Prop),C i j→Q (.int (g i j) s.toks) {s with toks:=s.toks+1}→wpAny (model X.prog X.w) X.A (f (.int i t) (.int j u)) Q E s):
  Bf X f (rI C fun i j=> .int (g i j)):=by
 intro pins s σ H x y v u Q I rx ry h
 obtain⟨i,j,rfl,rfl,hc,q⟩:=h
 obtain⟨t,rfl⟩:=rx
 obtain⟨t',rfl⟩:=ry
 exact rule i j t t' s _ _ hc ⟨.int (g i j),H,I.tok _,⟨_,rfl⟩,q⟩
theorem Oc {f:Value→Value→Sem Value} {g:Int→Int→Int}
  (rule:∀(i j:Int) (t u:Tok) (s:Shared) (Q:Value→Shared→Prop) (E:Value→Shared→Prop),Q (.int (g i j) s.toks) {s with toks:=s.toks+1}→wpAny (model X.prog X.w) X.A (f (.int i t) (.int j u)) Q E s):
  Bf X f (Nb fun i j=> .int (g i j)):=by
 intro pins s σ H x y v u Q I rx ry h
 obtain⟨i,j,rfl,rfl,q⟩:=h
 obtain⟨t,rfl⟩:=rx
 obtain⟨t',rfl⟩:=ry
 exact rule i j t t' s _ _ ⟨.int (g i j),H,I.tok _,⟨_,rfl⟩,q⟩
theorem MX {f:Value→Value→Sem Value} {g:Int→Int→Bool}
  (rule:∀(i j:Int) (t u:Tok) (s:Shared) (Q:Value→Shared→Prop) (E:Value→Shared→Prop),Q (.bool (g i j)) s→wpAny (model X.prog X.w) X.A (f (.int i t) (.int j u)) Q E s):
  Bf X f (Nb fun i j=> .bl (g i j)):=by
 intro pins s σ H x y v u Q I rx ry h
 obtain⟨i,j,rfl,rfl,q⟩:=h
 obtain⟨t,rfl⟩:=rx
 obtain⟨t',rfl⟩:=ry
 exact rule i j t t' s _ _ ⟨.bl (g i j),H,I,rfl,q⟩
theorem bY:Bf X (binaryOp .Add) (Nb fun i j=> .int (i+j)):=Oc fun _ _ _ _ _ _ _ q=>add_int q
theorem b9:Bf X (binaryOp .Sub) (Nb fun i j=> .int (i - j)):=Oc fun _ _ _ _ _ _ _ q=>sub_int q
theorem vW:Bf X (binaryOp .Mod) (rI (fun _ j=>0<j) fun i j=> .int (i%j)):=P3 fun i j _ _ _ _ _ hc q=>by
 have h1:(0:Int)<j:=hc
 exact mod_int' (by omega) (by rw [Int.fmod_eq_emod_of_nonneg i (by omega)];exact q)
theorem LI:Bf X (binaryOp .BitAnd) (Nb fun i j=> .int (Builtin.bitAnd i j)):=Oc fun _ _ _ _ _ _ _ q=>and_int q
theorem QT {f:Value→Sem Value} {g:Int→Int}
  (rule:∀(i:Int) (t:Tok) (s:Shared) (Q:Value→Shared→Prop) (E:Value→Shared→Prop),Q (.int (g i) s.toks) {s with toks:=s.toks+1}→wpAny (model X.prog X.w) X.A (f (.int i t)) Q E s):
  PK X f (rU fun i=> .int (g i)):=by
 intro pins s σ H x v Q I rx h
 obtain⟨i,rfl,q⟩:=h
 obtain⟨t,rfl⟩:=rx
 exact rule i t s _ _ ⟨.int (g i),H,I.tok _,⟨_,rfl⟩,q⟩
theorem Fi:PK X (unaryOp .USub) (rU fun i=> .int (-i)):=QT fun _ _ _ _ _ q=>neg_int q
end
def O8:V→V→Bool
 | .non,.non=>true | .non,.int _=>true | .int _,.non=>true | .non,.bl _=>true | .bl _,.non=>true | .non,.str _=>true | .str _,.non=>true
 | .int _,.int _=>true | .bl _,.bl _=>true | .str _,.str _=>true | .byt _,.byt _=>true
 | .int _,.str _=>true | .str _,.int _=>true | .bl _,.str _=>true | .str _,.bl _=>true
 | _,_=>false
def QM:R2:=fun x y H Q=>O8 x y=true∧Q (.bl (decide (x=y))) H
def QN:R2:=fun x y H Q=>O8 x y=true∧Q (.bl (!decide (x=y))) H
theorem IM {i j:Int}:decide (V.int i=V.int j)=(i==j):=by
 rw [Bool.eq_iff_iff]
 simp
theorem La {i j:Bool}:decide (V.bl i=V.bl j)=(i==j):=by
 rw [Bool.eq_iff_iff]
 simp
theorem IN {i j:Str}:decide (V.str i=V.str j)=(i==j):=by
 rw [Bool.eq_iff_iff]
 simp
theorem IL {i j:Array UInt8}:decide (V.byt i=V.byt j)=(i.toList==j.toList):=by
 rw [Bool.eq_iff_iff]
 cases i
 cases j
 simp
section
variable {X:Cx} {a b c:Expr} {ta tb tc:TE} {pos:Pos}
theorem cP {pins:List (Addr×Obj)} {σ:St} {H:Hp} {s:Shared} {Q:VK} {k k':Bool} (I:bd X pins σ H s) (q:Q (.bl k) H) (e:k=k'):EP X pins σ Q (.bool k') s:=by
 subst e
 exact⟨.bl k,H,I,rfl,q⟩
theorem rK:Bf X (compareOp .Eq) QM:=by
 intro pins s σ H x y v u Q I rx ry h
 obtain⟨hs,q⟩:=h
 cases x with
 | non=>
  cases rx
  cases y with
  | non=>cases ry;exact PySem.EqNone.eq_none_none (cP I q (by simp))
  | bl j=>cases ry;exact PySem.EqNone.eq_none_bool (cP I q (by simp))
  | int j=>obtain⟨t',rfl⟩:=ry;exact PySem.EqNone.eq_none_int (cP I q (by simp))
  | str j=>obtain⟨t',rfl⟩:=ry;exact PySem.EqNone.eq_none_str (cP I q (by simp))
  | _=>exact absurd (show false=true from hs) uq
 | bl i=>
  cases rx
  cases y with
  | non=>cases ry;exact PySem.EqNone.eq_bool_none (cP I q (by simp))
  | bl j=>cases ry;exact eq_bool (cP I q La)
  | str j=>obtain⟨t',rfl⟩:=ry;exact PySem.EqMixed.eq_bool_str (cP I q (by simp))
  | _=>exact absurd (show false=true from hs) uq
 | int i=>
  obtain⟨t,rfl⟩:=rx
  cases y with
  | non=>cases ry;exact PySem.EqNone.eq_int_none (cP I q (by simp))
  | int j=>obtain⟨t',rfl⟩:=ry;exact eq_int (cP I q IM)
  | str j=>obtain⟨t',rfl⟩:=ry;exact PySem.EqMixed.eq_int_str (cP I q (by simp))
  | _=>exact absurd (show false=true from hs) uq
 | str i=>
  obtain⟨t,rfl⟩:=rx
  cases y with
  | non=>cases ry;exact PySem.EqNone.eq_str_none (cP I q (by simp))
  | bl j=>cases ry;exact PySem.EqMixed.eq_str_bool (cP I q (by simp))
  | int j=>obtain⟨t',rfl⟩:=ry;exact PySem.EqMixed.eq_str_int (cP I q (by simp))
  | str j=>obtain⟨t',rfl⟩:=ry;exact eq_str (cP I q IN)
  | _=>exact absurd (show false=true from hs) uq
 | byt i=>
  obtain⟨t,rfl⟩:=rx
  cases y with
  | byt j=>obtain⟨t',rfl⟩:=ry;exact PySem.W.eq_bytes (cP I q IL)
  | _=>exact absurd (show false=true from hs) uq
 | _=>cases y<;>exact absurd (show false=true from hs) uq
theorem Jg:Bf X (compareOp .NotEq) QN:=by
 intro pins s σ H x y v u Q I rx ry h
 obtain⟨hs,q⟩:=h
 cases x with
 | non=>
  cases rx
  cases y with
  | non=>cases ry;exact PySem.EqNone.ne_none_none (cP I q (by simp))
  | bl j=>cases ry;exact PySem.EqNone.ne_none_bool (cP I q (by simp))
  | int j=>obtain⟨t',rfl⟩:=ry;exact PySem.EqNone.ne_none_int (cP I q (by simp))
  | str j=>obtain⟨t',rfl⟩:=ry;exact PySem.EqNone.ne_none_str (cP I q (by simp))
  | _=>exact absurd (show false=true from hs) uq
 | bl i=>
  cases rx
  cases y with
  | non=>cases ry;exact PySem.EqNone.ne_bool_none (cP I q (by simp))
  | bl j=>cases ry;exact ne_bool (cP I q (cx not La))
  | str j=>obtain⟨t',rfl⟩:=ry;exact PySem.EqMixed.ne_bool_str (cP I q (by simp))
  | _=>exact absurd (show false=true from hs) uq
 | int i=>
  obtain⟨t,rfl⟩:=rx
  cases y with
  | non=>cases ry;exact PySem.EqNone.ne_int_none (cP I q (by simp))
  | int j=>obtain⟨t',rfl⟩:=ry;exact ne_int (cP I q (cx not IM))
  | str j=>obtain⟨t',rfl⟩:=ry;exact PySem.EqMixed.ne_int_str (cP I q (by simp))
  | _=>exact absurd (show false=true from hs) uq
 | str i=>
  obtain⟨t,rfl⟩:=rx
  cases y with
  | non=>cases ry;exact PySem.EqNone.ne_str_none (cP I q (by simp))
  | bl j=>cases ry;exact PySem.EqMixed.ne_str_bool (cP I q (by simp))
  | int j=>obtain⟨t',rfl⟩:=ry;exact PySem.EqMixed.ne_str_int (cP I q (by simp))
  | str j=>obtain⟨t',rfl⟩:=ry;exact ne_str (cP I q (cx not IN))
  | _=>exact absurd (show false=true from hs) uq
 | byt i=>
  obtain⟨t,rfl⟩:=rx
  cases y with
  | byt j=>obtain⟨t',rfl⟩:=ry;exact PySem.W.ne_bytes (cP I q (cx not IL))
  | _=>exact absurd (show false=true from hs) uq
 | _=>cases y<;>exact absurd (show false=true from hs) uq
theorem ld:Bf X (compareOp .Lt) (Nb fun i j=> .bl (decide (i<j))):=MX fun _ _ _ _ _ _ _ q=>lt_int q
theorem NA:Bf X (compareOp .LtE) (Nb fun i j=> .bl (decide (i≤j))):=MX fun _ _ _ _ _ _ _ q=>le_int q
theorem vi:Bf X (compareOp .Gt) (Nb fun i j=> .bl (decide (j<i))):=MX fun _ _ _ _ _ _ _ q=>gt_int q
theorem Jf:Bf X (compareOp .GtE) (Nb fun i j=> .bl (decide (j≤i))):=MX fun _ _ _ _ _ _ _ q=>ge_int q
theorem kC:Bf X (compareOp .Is) (fun x y H Q=>y= .non∧Q (.bl (decide (x= .non))) H):=by
 intro pins s σ H x y v u Q I rx ry h
 obtain⟨rfl,q⟩:=h
 cases ry
 refine is_none_gen (cP I q ?_)
 cases x<;>first
  | (cases rx;rfl)
  | (obtain⟨t,rfl⟩:=rx;rfl)
theorem aY (b:Expr) {op:CmpOp} (h:op≠ .In:=by decide) (h2:op≠ .NotIn:=by decide):behindInMarks op b=false:=by
 have e1:(op==CmpOp.In)=false:=by cases op<;>first | rfl | exact absurd rfl h
 have e2:(op==CmpOp.NotIn)=false:=by cases op<;>first | rfl | exact absurd rfl h2
 cases b<;>simp [behindInMarks,e1,e2]
theorem EN {op:CmpOp} {r:R2} (ho:Bf X (compareOp op) r) (ha:PE X a ta) (hb:PE X b tb) (hm:behindInMarks op b=false):PE X (.Compare a [op] [b] pos) (Pj r ta tb):=by
 intro pins s σ H Q I h
 exact wpAny_Compare1 (NS ha hb I h fun v u s2 x y H2 I2 rx ry q=>ho pins s2 σ H2 x y v u Q I2 rx ry q) hm
def Po (t:TE):TT:=fun σ H Q=>t σ H fun x H'=>∃k,x= .bl k∧Q k H'
theorem aR {op:CmpOp} {r:R2} (ho:Bf X (compareOp op) r) (ha:PE X a ta) (hb:PE X b tb) (hm:behindInMarks op b=false):PT X (.Compare a [op] [b] pos) (Po (Pj r ta tb)):=by
 intro pins s σ H Q I h
 refine wpAny_isTrue_Compare1 (eO (ha pins s σ H _ I h) fun v s1 ⟨x,H1,I1,r1,q1⟩=>eO (hb pins s1 σ H1 _ I1 q1) fun u s2 ⟨y,H2,I2,r2,q2⟩=>
  eO (ho pins s2 σ H2 x y v u _ I2 r1 r2 q2) fun c s3 ⟨z,H3,I3,r3,k,e,q3⟩=> ?_) hm
 subst e
 cases r3
 exact wH ⟨H3,I3,q3⟩
def Ov (r r':R2) (ta tb tc:TE):TE:=fun σ H Q=>ta σ H fun x H1=>tb σ H1 fun y H2=>r x y H2 fun z H3=>∃k,z= .bl k∧
 (if k=true then tc σ H3 fun w' H4=>r' y w' H4 Q else Q (.bl false) H3)
theorem LO {op op':CmpOp} {r r':R2} (ho:Bf X (compareOp op) r) (ho':Bf X (compareOp op') r') (ha:PE X a ta) (hb:PE X b tb) (hc:PE X c tc)
  (hm:lastMarks [op,op'] [b,c]=false:=by with_unfolding_all rfl):PE X (.Compare a [op,op'] [b,c] pos) (Ov r r' ta tb tc):=by
 intro pins s σ H Q I h
 refine Compare_chain (eO (ha pins s σ H _ I h) fun v s1 ⟨x,H1,I1,r1,q1⟩=>chain_link (eO (hb pins s1 σ H1 _ I1 q1) fun u s2 ⟨y,H2,I2,r2,q2⟩=>
  eO (ho pins s2 σ H2 x y v u _ I2 r1 r2 q2) fun d s3 ⟨z,H3,I3,r3,k,e,q3⟩=> ?_)) hm
 subst e
 cases r3
 refine wH ?_
 cases k with
 | false=>exact ite_ff ⟨.bl false,H3,I3,rfl,q3⟩
 | true=>exact ite_tt (chain_last (eO (hc pins s3 σ H3 _ I3 q3) fun w' s4 ⟨z',H4,I4,r4,q4⟩=>ho' pins s4 σ H4 y z' u w' Q I4 r2 r4 q4))
theorem Bu:(sizeLine:Nat)<2 ^ 63:=by rw [sizeLine_eq];decide
theorem Jv {x:V} {us:List Value} (r:bM [x] us):∃u,us= [u]∧cX x u:=by
 cases r with
 | cons r1 r2=>cases r2;exact⟨_,rfl,r1⟩
theorem NE {x y:V} {us:List Value} (r:bM [x,y] us):∃u w',us= [u,w']∧cX x u∧cX y w':=by
 cases r with
 | cons r1 r2=>
  cases r2 with
  | cons r3 r4=>cases r4;exact⟨_,_,rfl,r1,r3⟩
theorem FA:rD X (.builtin "abs") (fun xs H Q=>∃i,xs= [.int i]∧Q (.int (if i<0 then -i else i)) H):=by
 intro pins s σ H xs us Q I r h
 obtain⟨i,rfl,q⟩:=h
 obtain⟨u,rfl,t,rfl⟩:=Jv r
 exact call_abs_int fun u tk=>⟨.int (if i<0 then -i else i),H,I.tok _,⟨_,rfl⟩,q⟩
theorem JK (hc:X.calm=true):rD X (.builtin "max") (fun xs H Q=>∃i j,xs= [.int i,.int j]∧Q (.int (if j>i then j else i)) H):=by
 intro pins s σ H xs us Q I r h
 obtain⟨i,j,rfl,q⟩:=h
 obtain⟨u,w',rfl,⟨t,rfl⟩,⟨t',rfl⟩⟩:=NE r
 refine max_two_ints (I.ok.hd hc) fun h' tk k=>⟨_,H,I.kept k,?_,q⟩
 by_cases hj:j>i
 ·rw [if_pos hj,if_pos hj];exact⟨_,rfl⟩
 ·rw [if_neg hj,if_neg hj];exact⟨_,rfl⟩
theorem DG (hc:X.calm=true):rD X (.builtin "min") (fun xs H Q=>∃i j,xs= [.int i,.int j]∧Q (.int (if j<i then j else i)) H):=by
 intro pins s σ H xs us Q I r h
 obtain⟨i,j,rfl,q⟩:=h
 obtain⟨u,w',rfl,⟨t,rfl⟩,⟨t',rfl⟩⟩:=NE r
 refine min_two_ints (I.ok.hd hc) fun h' tk k=>⟨_,H,I.kept k,?_,q⟩
 by_cases hj:j<i
 ·rw [if_pos hj,if_pos hj];exact⟨_,rfl⟩
 ·rw [if_neg hj,if_neg hj];exact⟨_,rfl⟩
end
end L2
namespace L2
open PySem PySem.Spec PyProof.Rows
structure Ht (h:Heap) (x dx C:Addr) (mA:Str→Option Value):Prop where
 obj:h.get? x=some (PySem.W.instObj C dx)
 ns:h.Ns1 dx mA
 ne:dx≠x
theorem J6 {h:Heap} {dx:Addr} {mA:Str→Option Value} (n:h.Ns1 dx mA):∃od,h.get? dx=some od∧∀name,PySem.W.lookIn name od=some (mA name):=by
 obtain⟨o,es,ep,ho,hd,hk,_,hm⟩:=n
 refine⟨o,ho,fun name=> ?_⟩
 have e:=hm name
 unfold nsFind findBy at e
 rw [←Array.find?_toList] at e
 unfold PySem.W.lookIn
 rw [hd]
 dsimp only
 split
 ·rename_i y q
  rw [q] at e
  exact cx some e
 ·rename_i q
  rw [q] at e
  have a:es.toList.any (·.refKey)=false:=by
   rw [List.any_eq_false]
   intro y hy
   obtain⟨z,t,hkey⟩:=hk y (Array.mem_toList_iff.mp hy)
   simp [DictEntry.refKey,hkey]
  have a':¬es.toList.any (·.refKey)=true:=by rw [a];exact uq
  rw [if_neg a']
  exact cx some e
theorem Ht.look {h:Heap} {x dx C:Addr} {mA:Str→Option Value} (I:Ht h x dx C mA):∃od,PySem.W.InstAt h x (PySem.W.instObj C dx) C (some od)∧∀name,PySem.W.lookIn name od=some (mA name):=
 let ⟨od,ho,hl⟩:=J6 I.ns
 ⟨od,⟨I.obj,rfl,rfl,ho⟩,hl⟩
section
variable {prog:Program} {w:World} {A:Around} {E:Value→Shared→Prop} {s:Shared} {K:PySem.W.Frag} {x dx C f:Addr} {mA:Str→Option Value} {name:Str} {v:Value}
theorem IQ {expr:Bool} {Q:Value→Shared→Prop} (X:K.In s.heap) (I:Ht s.heap x dx C mA) (hg:PySem.W.plainGet K C name=true) (hh:PySem.W.hasDictIn K C=true)
  (ha:PySem.W.findIn K (.ref C) name=some none) (hv:mA name=some v) (hv':PySem.W.handedIn v=true) (h:Q v {s with toks:=s.toks+1}):
  wpAny (model prog w) A (getAttr (.ref x) name expr) Q E s:=by
 obtain⟨od,J,hl⟩:=I.look
 exact PySem.W.get_value X J (PySem.W.plainGet_of hg).1 (PySem.W.findObj_own hh ha rfl (by rw [hl,hv])) hv' h
theorem Lj {pl:Sem Bool} {Q:Value×List Value→Shared→Prop} (X:K.In s.heap) (I:Ht s.heap x dx C mA) (hg:PySem.W.plainGet K C name=true)
  (hf:PySem.W.findIn K (.ref C) name=some (some (.ref f))) (ht:PySem.W.isFn K (.ref f)=true) (hv:mA name=none) (h:Q (.ref f,[.ref x]) s):
  wpAny (model prog w) A (getMethod (.ref x) name pl) Q E s:=by
 obtain⟨od,J,hl⟩:=I.look
 exact PySem.W.method_fn X J (PySem.W.plainGet_of hg).1 (PySem.W.plainGet_of hg).2 hf (beq_iff_eq.mp ht) (by show(PySem.W.lookIn name od).map (·.isSome)=some false;rw [hl,hv];rfl) h
theorem Nf {ns:List Str} {Q:Unit→Shared→Prop} (X:K.In s.heap) (I:Ht s.heap x dx C mA)
  (hs:PySem.W.findIn K (.ref C) "__setattr__"=some (some (.builtin "object.__setattr__"))) (hp:PySem.W.plainOver K C=true) (ht:PySem.W.takerIn K C name=some none) (hh:PySem.W.hasDictIn K C=true)
  (hw:PySem.Within mA ns) (hsz:ns.length≤sizeLine)
  (h:∀h',Ht h' x dx C (fun y=>if y=name then some v else mA y)→Heap.SameBut dx s.heap h'→Q () {s with heap:=h',toks:=s.toks+2}):
  wpAny (model prog w) A (setAttr (.ref x) name v) Q E s:=by
 obtain⟨od,J,hl⟩:=I.look
 refine PySem.W.set_plain X J hs (PySem.W.osa_open (s:={s with toks:=s.toks+1}) (r:=none) X J hp ht fun b=> ?_)
 obtain⟨cd,hc,hd'⟩:=PySem.W.any_some hh
 have hx:s.heap.get? x=some ⟨.ref C,some dx,.plain,#[]⟩:=I.obj
 refine bI (dP (bI (bI (wpAny_loadPart hx (bI (PySem.W.Looks.here (s:={s with toks:=s.toks+1}) (PySem.W.looks_clsIn X hc) ?_))))))
 rw [hd']
 refine dP (a:=some dx) (bI (dP (bI ?_)))
 refine wpAny_nsSet1 (s:={s with toks:=s.toks+1}) I.ns fun h' hn2 hs2=> ?_
 obtain⟨oD,esD,epD,hoD,hdD,hcD⟩:=hn2.count (PySem.Within.cons name v hw)
 refine bI (wpAny_lookBehind hoD (by rw [hdD];exact pastItsLine_dict (fQ hcD (by rw [d5];omega))) ?_)
 exact dP (h _ ⟨(hs2.2 _ (Ne.symm I.ne)).trans I.obj,hn2,I.ne⟩ hs2)
theorem Lx {R:Result→Shared→Prop} {vs:List Value} {kw:List (Str×Value)} (X:K.In s.heap) (hm:PySem.W.makesIn K C=true)
  (hi:PySem.W.findIn K (.ref C) "__init__"=some (some (.ref f))) (hf:PySem.W.typeIn K (.ref f)=some (.type "function"))
  (h:codeAny (model prog w) (A.under (.builtin "type.__call__" ⟨.ref C::vs,kw⟩)) (.call (.ref f) ⟨.ref (s.heap.objs.size+1)::vs,kw⟩) (PySem.W.InitBack (s.heap.objs.size+1) R)
   {s with heap:=(s.heap.push PySem.W.emptyDict).push (PySem.W.instObj C s.heap.objs.size)}):
  codeAny (model prog w) A (.call (.ref C) ⟨vs,kw⟩) R s:=by
 obtain⟨hh,g,d,t,os⟩:=s
 exact PySem.W.make_core (PySem.W.makes_of X hm) (PySem.W.looks_findIn X hi) (fun self=>PySem.W.bind_fn X self hf) (.inl rfl) h
end
def li (f:Str) (v:V):List (Str×V)→List (Str×V)
 | []=> [(f,v)]
 | (g,x)::r=>if g=f then(g,v)::r else(g,x)::li f v r
theorem zO (f g:Str) (v:V):∀fs:List (Str×V),(li f v fs).lookup g=if g=f then some v else fs.lookup g
 | []=>by
  show List.lookup g [(f,v)]=_
  by_cases h:g=f
  ·have hb:(g==f)=true:=beq_iff_eq.mpr h
   simp only [List.lookup,hb,if_pos h]
  ·have hb:(g==f)=false:=beq_eq_false_iff_ne.mpr h
   simp only [List.lookup,hb,if_neg h]
 | (k,x)::r=>by
  have ih:=zO f g v r
  rw [show li f v ((k,x)::r)=(if k=f then(k,v)::r else(k,x)::li f v r) from rfl]
  by_cases hk:k=f
  ·rw [if_pos hk]
   by_cases h:g=k
   ·have hb:(g==k)=true:=beq_iff_eq.mpr h
    simp only [List.lookup,hb,if_pos (h.trans hk)]
   ·have hb:(g==k)=false:=beq_eq_false_iff_ne.mpr h
    simp only [List.lookup,hb,if_neg (fun e:g=f=>h (e.trans hk.symm))]
  ·rw [if_neg hk]
   by_cases h:g=k
   ·have hb:(g==k)=true:=beq_iff_eq.mpr h
    simp only [List.lookup,hb,if_neg (fun e:g=f=>hk (h.symm.trans e))]
   ·have hb:(g==k)=false:=beq_eq_false_iff_ne.mpr h
    simp only [List.lookup,hb]
    exact ih
theorem yr (f:Str) (v:V):∀fs:List (Str×V),f∈(li f v fs).map (·.1)∧∀g,g∈fs.map (·.1)→g∈(li f v fs).map (·.1)
 | []=>⟨by simp [li],fun g h=>by simp at h⟩
 | (k,x)::r=>by
  obtain⟨i1,i2⟩:=yr f v r
  rw [show li f v ((k,x)::r)=(if k=f then(k,v)::r else(k,x)::li f v r) from rfl]
  by_cases hk:k=f
  ·rw [if_pos hk]
   subst hk
   exact⟨by simp,fun g h=>by simpa using h⟩
  ·rw [if_neg hk]
   refine⟨?_,fun g h=> ?_⟩
   ·rw [eY]
    exact dU _ i1
   ·rw [eY] at h⊢
    rcases cF.mp h with e | e
    ·exact cF.mpr (.inl e)
    ·exact dU _ (i2 g e)
theorem zN (f:Str) (v:V):∀fs:List (Str×V),(li f v fs).length≤fs.length+1
 | []=>by simp [li]
 | (k,x)::r=>by
  have ih:=zN f v r
  rw [show li f v ((k,x)::r)=(if k=f then(k,v)::r else(k,x)::li f v r) from rfl]
  by_cases hk:k=f
  ·rw [if_pos hk,d5,d5];omega
  ·rw [if_neg hk,d5,d5];omega
theorem vH.some_of {v:V} {o:Option Value} (r:vH (some v) o):∃u,o=some u∧cX v u:=by
 cases o with
 | none=>exact(show False from r).elim
 | some u=>exact⟨u,rfl,r⟩
theorem vH.none_of {o:Option Value} (r:vH none o):o=none:=by
 cases o with
 | none=>rfl
 | some u=>exact(show False from r).elim
theorem DN {v:V} {u:Value} (r:cX v u):PySem.W.handedIn u=true:=by
 cases v with
 | non=>cases (show u=Value.none from r);rfl
 | bl b=>cases (show u=Value.bool b from r);rfl
 | int i=>obtain⟨t,e⟩:=(show ∃t,u=Value.int i t from r);cases e;rfl
 | str x=>obtain⟨t,e⟩:=(show ∃t,u=Value.str x t from r);cases e;rfl
 | byt b=>obtain⟨t,e⟩:=(show ∃t,u=Value.bytes b t from r);cases e;rfl
 | flt b=>obtain⟨t,e⟩:=(show ∃t,u=Value.float b t from r);cases e;rfl
 | ref a=>cases (show u=Value.ref a from r);rfl
 | ty n=>cases (show u=Value.type n from r);rfl
section
variable {P:Program} {w:World} {H H':Hp} {h h':Heap} {a C dx:Addr} {fs fs':List (Str×V)}
theorem A0 (hok:vG P w H h) (e:H a=some (.ins C dx fs)):∃mA,Ht h a dx C mA∧(∀f,vH (fs.lookup f) (mA f))∧PySem.Within mA (fs.map (·.1))∧fs.length≤1000∧H dx=some (.own a):=by
 obtain⟨d,z,ne,ob,mA,n,r,q⟩:=(show iB P w H h a (.ins C dx fs) from hok a _ e)
 exact⟨mA,⟨ob,n,ne⟩,r,q,z,d⟩
end
structure Ho (K:PySem.W.Frag) (C:Addr):Prop where
 pg:PySem.W.plainGet K C Str.empty=true
 hd:PySem.W.hasDictIn K C=true
 po:PySem.W.plainOver K C=true
 sa:PySem.W.findIn K (.ref C) "__setattr__"=some (some (.builtin "object.__setattr__"))
theorem Ho.get {K:PySem.W.Frag} {C:Addr} (c:Ho K C) (f:Str):PySem.W.plainGet K C f=true:=c.pg
def kl (K:PySem.W.Frag) (C:Addr) (f:Str):Prop:=PySem.W.findIn K (.ref C) f=some none
theorem kl.taker {K:PySem.W.Frag} {C:Addr} {f:Str} (n:kl K C f):PySem.W.takerIn K C f=some none:=by
 unfold PySem.W.takerIn
 rw [show PySem.W.findIn K (.ref C) f=some none from n]
 rfl
structure KT (K:PySem.W.Frag) (C:Addr) (m:Str) (f:Addr):Prop where
 at_:PySem.W.findIn K (.ref C) m=some (some (.ref f))
 fn:PySem.W.isFn K (.ref f)=true
 kp:PySem.W.keepIn K (.ref f)=true
section
variable {X:Cx} {pins:List (Addr×Obj)} {σ:St} {H:Hp} {s:Shared} {a C dx:Addr} {fs:List (Str×V)} {f:Str} {v:V} {A:Around} {E:Value→Shared→Prop}
theorem Br {b:Bool} {Q:Value→Shared→Prop} (I:bd X pins σ H s) (e:H a=some (.ins C dx fs)) (c:Ho X.K C) (n:kl X.K C f) (l:fs.lookup f=some v)
  (h:∀u s',bd X pins σ H s'→cX v u→Q u s'):wpAny (model X.prog X.w) A (getAttr (.ref a) f b) Q E s:=by
 obtain⟨mA,O,r,_,_,_⟩:=A0 I.hok e
 obtain⟨u,hu,ru⟩:=vH.some_of (v:=v) (o:=mA f) (by rw [←l];exact r f)
 exact IQ I.kIn O (c.get f) c.hd n hu (DN ru) (h u _ (I.tok _) ru)
theorem vK {m:Str} {g:Addr} {pl:Sem Bool} {Q:Value×List Value→Shared→Prop} (I:bd X pins σ H s) (e:H a=some (.ins C dx fs)) (c:Ho X.K C) (k:KT X.K C m g) (l:fs.lookup m=none)
  (h:Q (.ref g,[.ref a]) s):wpAny (model X.prog X.w) A (getMethod (.ref a) m pl) Q E s:=by
 obtain⟨mA,O,r,_,_,_⟩:=A0 I.hok e
 have hn:mA m=none:=vH.none_of (by rw [←l];exact r m)
 exact Lj I.kIn O (c.get m) k.at_ k.fn hn h
theorem Cd {y:V} {u:Value} {Q:Unit→Shared→Prop} (I:bd X pins σ H s) (e:H a=some (.ins C dx fs)) (c:Ho X.K C) (n:kl X.K C f) (hl:fs.length<1000) (ry:cX y u)
  (h:∀s',bd X pins σ (bR H a (.ins C dx (li f y fs))) s'→Q () s'):wpAny (model X.prog X.w) A (setAttr (.ref a) f u) Q E s:=by
 obtain⟨mA,O,r,wi,_,ho⟩:=A0 I.hok e
 have hz:(fs.map (·.1)).length≤sizeLine:=by rw [aD,sizeLine_eq];omega
 refine Nf I.kIn O c.sa c.po n.taker c.hd wi hz fun h' O' sb=>h _ ?_
 have hd:∃o,h'.get? dx=some o:=let ⟨o,_,_,e',_⟩:=O'.ns;⟨o,e'⟩
 refine I.write (x:=a) (e:=dx) (by rw [e];exact True.intro) (.inr ho) (fun b q hb z=>(sb.2 b hb).trans z) hd ?_
 refine⟨by rw [ak O.ne];exact ho,?_,O.ne,O'.obj,_,O'.ns,fun g=> ?_,fun g hg=> ?_⟩
 ·have:=zN f y fs;omega
 ·show vH ((li f y fs).lookup g) (if g=f then some u else mA g)
  rw [zO]
  by_cases q:g=f
  ·rw [if_pos q,if_pos q];exact ry
  ·rw [if_neg q,if_neg q];exact r g
 ·by_cases q:g=f
  ·rw [q];exact(yr f y fs).1
  ·refine(yr f y fs).2 g (wi g fun z=>hg ?_)
   show(if g=f then some u else mA g)=none
   rw [if_neg q];exact z
theorem bd.made (I:bd X pins σ H s):bd X pins σ (bR (bR H s.heap.objs.size (.own (s.heap.objs.size+1))) (s.heap.objs.size+1) (.ins C s.heap.objs.size []))
  {s with heap:=(s.heap.push PySem.W.emptyDict).push (PySem.W.instObj C s.heap.objs.size)}:=by
 have e1:(s.heap.push PySem.W.emptyDict).get? s.heap.objs.size=some PySem.W.emptyDict:=vb s.heap rfl
 have e2:((s.heap.push PySem.W.emptyDict).push (PySem.W.instObj C s.heap.objs.size)).get? (s.heap.objs.size+1)=some (PySem.W.instObj C s.heap.objs.size):=by
  have:=vb (s.heap.push PySem.W.emptyDict) (o:=PySem.W.instObj C s.heap.objs.size) rfl
  rwa [AU] at this
 have e3:(s.heap.push PySem.W.emptyDict).Ns s.heap.objs.size (fun _=>none):=⟨PySem.W.emptyDict,#[],_,e1,rfl,(fun e he=>absurd he (by simp)),fun _=>rfl⟩
 have I1:=I.laid (a:=s.heap.objs.size) (o:= .own (s.heap.objs.size+1)) (h':=s.heap.push PySem.W.emptyDict) (t':=s.toks) (fun b u q=>i5 _ q) (bp _) ⟨_,e1⟩
 refine I1.laid (a:=s.heap.objs.size+1) (o:= .ins C s.heap.objs.size []) (t':=s.toks) (fun b u q=>i5 _ q) (Nat.le_of_eq (AU _ _)) ?_
 have ne:s.heap.objs.size≠s.heap.objs.size+1:=fi (Nat.lt_succ_self _)
 refine⟨by rw [ak ne,af],bn _,ne,e2,fun _=>none,(Heap.Ns1.of_empty e3).at fun o q=>i5 _ q,fun _=>True.intro,fun y hy=>absurd rfl hy⟩
theorem II {prog:Program} {w:World} {env:Env} {e:Expr} {f:Str} {pos:Pos} {s:Shared} {Q:Value→Shared→Prop} (hb:attributeBase e f env (eval e env)=eval e env)
  (h:wpAny (model prog w) A (eval e env) (fun o s₁=>wpAny (model prog w) A (getAttr o f true) Q E s₁) E s):wpAny (model prog w) A (eval (.Attribute e f pos) env) Q E s:=
 Attribute_any_ h (by rw [arm_eval_Attribute,hb])
end
def Pe (K:PySem.W.Frag) (ta:TE) (f:Str):TE:=fun σ H Q=>ta σ H fun x H1=>∃a C dx fs v,x= .ref a∧H1 a=some (.ins C dx fs)∧Ho K C∧kl K C f∧fs.lookup f=some v∧Q v H1
def Qe (K:PySem.W.Frag) (ta tv:TE) (f:Str):TS:=fun D σ H=>tv σ H fun y H1=>ta σ H1 fun x H2=>∃a C dx fs,x= .ref a∧H2 a=some (.ins C dx fs)∧Ho K C∧kl K C f∧fs.length<1000∧
 D.nx σ (bR H2 a (.ins C dx (li f y fs)))
def OE (X:Cx) (op:Operator) (rd:V→V→Hp→VK→Prop):Prop:=
 ∀(pins:List (Addr×Obj)) (s:Shared) (σ:St) (H:Hp) (x y:V) (u v:Value) (Q:VK),bd X pins σ H s→cX x u→cX y v→rd x y H Q→wpAny (model X.prog X.w) X.A (inplaceOp op u v) (EP X pins σ Q) X.xe s
def Nd (K:PySem.W.Frag) (ta tv:TE) (rd:V→V→Hp→VK→Prop) (f:Str):TS:=fun D σ H=>ta σ H fun x H1=>∃a C dx fs v,x= .ref a∧H1 a=some (.ins C dx fs)∧Ho K C∧kl K C f∧fs.lookup f=some v∧
 tv σ H1 fun y H2=>rd v y H2 fun z H3=>∃dx' fs',H3 a=some (.ins C dx' fs')∧fs'.length<1000∧D.nx σ (bR H3 a (.ins C dx' (li f z fs')))
section
variable {X:Cx} {o e value:Expr} {f:Str} {pos pos' tpos:Pos} {ta tv:TE}
theorem ao (he:PE X e ta) (hb:attributeBase e f X.env (eval e X.env)=eval e X.env):PE X (.Attribute e f pos) (Pe X.K ta f):=by
 intro pins s σ H Q I h
 refine II hb (eO (he pins s σ H _ I h) fun u s1 ⟨x,H1,I1,rx,a,C,dx,fs,v,ex,ea,c,n,l,q⟩=> ?_)
 subst ex
 obtain rfl:u=Value.ref a:=rx
 exact Br I1 ea c n l fun u' s2 I2 ru=>⟨v,H1,I2,ru,q⟩
theorem cr (ha:PE X o ta) (hv:PE X value tv) (hs:swapsWith value (some (.Attribute o f pos')) pos.line X.env=pure false):PS X (.Assign [.Attribute o f pos'] value pos) (Qe X.K ta tv f):=by
 intro pins s σ H D I h
 refine plainObj_wpAny_Assign_Attribute (eO (hv pins s σ H _ I h) fun u s1 ⟨y,H1,I1,ry,q⟩=>eO (ha pins s1 σ H1 _ I1 q) fun ov s2 ⟨x,H2,I2,rx,a,C,dx,fs,ex,ea,c,n,l,q2⟩=> ?_) hs
 subst ex
 obtain rfl:ov=Value.ref a:=rx
 exact Cd I2 ea c n l ry fun s3 I3=>⟨σ,_,I3,q2⟩
theorem uI {op:Operator} {rd:V→V→Hp→VK→Prop} (ha:PE X o ta) (hv:PE X value tv) (hop:OE X op rd):PS X (.AugAssign (.Attribute o f tpos) op value pos) (Nd X.K ta tv rd f):=by
 intro pins s σ H D I h
 refine wpAny_AugAssign_AttributeAny (eO (ha pins s σ H _ I h) fun ov s1 ⟨x,H1,I1,rx,a,C,dx,fs,v,ex,ea,c,n,l,q⟩=> ?_)
 subst ex
 obtain rfl:ov=Value.ref a:=rx
 refine Br I1 ea c n l fun u s2 I2 ru=>eO (hv pins s2 σ H1 _ I2 q) fun w3 s3 ⟨y,H2,I3,ry,q3⟩=>eO (hop pins s3 σ H2 v y u w3 _ I3 ru ry q3) fun w4 s4 ⟨z,H3,I4,rz,dx',fs',ea',l',q4⟩=> ?_
 exact Cd I4 ea' c n l' rz fun s5 I5=>⟨σ,_,I5,q4⟩
def P5:V→V→Hp→VK→Prop:=fun x y H Q=>∃i j,x= .int i∧y= .int j∧Q (.int (i+j)) H
theorem Ex:OE X .Add P5:=by
 rintro pins s σ H x y u v Q I rx ry ⟨i,j,rfl,rfl,q⟩
 obtain⟨t,rfl⟩:=(show ∃t,u=Value.int i t from rx)
 obtain⟨t',rfl⟩:=(show ∃t',v=Value.int j t' from ry)
 exact PyProof.Rows.iadd_int ⟨.int (i+j),H,I.tok _,⟨_,rfl⟩,q⟩
theorem Nz {pl:Sem Bool} {m:Str} {apos:Pos} {args:List Expr} {pins:List (Addr×Obj)} {s:Shared} {σ:St} {H:Hp} {Q:Value→Shared→Prop} {te:TE} (he:PE X e te) (I:bd X pins σ H s)
  (h:te σ H fun x H1=>∃a C dx fs g,x= .ref a∧H1 a=some (.ins C dx fs)∧Ho X.K C∧KT X.K C m g∧fs.lookup m=none∧
   ∀s1,bd X pins σ H1 s1→wpAny (model X.prog X.w) X.A (callWith pos (.ref g) [.ref a] (backTo pos (starEach args X.env)) (backToKw pos (keywordEach [] X.env))) Q X.xe s1)
  (ht:eval (.Call (.Attribute e m apos) args [] pos) X.env=(do
   let ov ←eval e X.env
   standAt apos.atName
   let (f,first) ←holding [ov] (getMethod ov m pl)
   callWith pos f first (backTo pos (starEach args X.env)) (backToKw pos (keywordEach [] X.env)))):
  wpAny (model X.prog X.w) X.A (eval (.Call (.Attribute e m apos) args [] pos) X.env) Q X.xe s:=by
 refine PySem.W.methodCall_KW (pl:=pl) (eO (he pins s σ H _ I h) fun u s1 ⟨x,H1,I1,rx,a,C,dx,fs,g,ex,ea,c,k,l,q⟩=> ?_) ht
 subst ex
 obtain rfl:u=Value.ref a:=rx
 exact vK I1 ea c k l (q s1 I1)
end
section
variable {X:Cx} {pins:List (Addr×Obj)} {σ:St} {H:Hp} {s:Shared} {A:Around} {E:Value→Shared→Prop} {Q:Value→Shared→Prop} {c:Value} {b:Bool}
end
end L2
namespace L2
open PySem PySem.Spec PyProof.Rows
structure eR (k:Nat) (A:Around):Prop where
 hd:A.handled=none
 dp:A.depth+3*k+5<recursionLimit
 un:A.units+16*k+200<cLine
theorem eR.mono {j k:Nat} {A:Around} (r:eR k A) (h:j≤k):eR j A:=⟨r.hd,by have:=r.dp;omega,by have:=r.un;omega⟩
theorem eR.deeper {k:Nat} {A:Around} (r:eR (k+1) A) (env:Env):eR k (A.deeper env):=
 ⟨r.hd,by have:=r.dp;show A.depth+1+3*k+5<_;omega,by have:=r.un;show A.units+3+16*k+200<_;omega⟩
theorem HE {A:Around} {C:Addr} {us:List Value} {kw:List (Str×Value)}:(A.under (.builtin "type.__call__" ⟨.ref C::us,kw⟩)).depth=A.depth+1:=by
 first | rfl | simp [Around.under,Code.weight,Code.isCreation,Code.isGuard,Code.isCaller,Code.frames,Code.isFrame,guardIds]
theorem HF {A:Around} {C:Addr} {us:List Value} {kw:List (Str×Value)}:(A.under (.builtin "type.__call__" ⟨.ref C::us,kw⟩)).units=A.units+1:=by
 first | rfl | simp [Around.under,Code.cUnits,Code.frames,Code.isFrame]
theorem eR.make {k:Nat} {A:Around} (r:eR (k+1) A) (C:Addr) (us:List Value) (kw:List (Str×Value)):eR k (A.under (.builtin "type.__call__" ⟨.ref C::us,kw⟩)):=
 ⟨r.hd,by have:=r.dp;rw [HE];omega,by have:=r.un;rw [HF];omega⟩
theorem eR.depth {k:Nat} {A:Around} (r:eR k A):A.depth<recursionLimit:=by have:=r.dp;omega
def Ma:TA:=fun _ H Q=>Q [] H
def Pc (ta:TE) (tr:TA):TA:=fun σ H Q=>ta σ H fun x H1=>tr σ H1 fun xs H2=>Q (x::xs) H2
section
variable {X:Cx} {e:Expr} {es:List Expr} {te:TE} {t:TA} {pos:Pos}
theorem ad:PA X [] Ma:=fun _ _ _ _ H Q I h=>Calls.spliced_nil ⟨[],H,I,.nil,h⟩
theorem ab (ha:PE X e te) (hr:PA X es t) (hs:starEach (e::es) X.env=(false,eval e X.env)::starEach es X.env:=by rfl):PA X (e::es) (Pc te t):=by
 intro pos pins s σ H Q I h
 rw [hs]
 show wpAny _ _ (spliced ((false,eval e X.env)::backTo pos (starEach es X.env))) _ _ s
 refine Calls.spliced_cons (eO (ha pins s σ H _ I h) fun u s1 ⟨x,H1,I1,r1,q1⟩=> ?_)
 exact eO (hr pos pins s1 σ H1 _ I1 q1) fun us s2 ⟨xs,H2,I2,r2,q2⟩=>⟨x::xs,H2,I2,.cons r1 r2,q2⟩
def Qp (t:TA):TE:=fun σ H Q=>t σ H fun xs H1=>xs.length≤sizeLine∧∀p,H1 p=none→Q (.ref p) (bR H1 p (.tup xs))
def Ql (t:TA):TE:=fun σ H Q=>t σ H fun xs H1=>xs.length≤sizeLine∧∀p,H1 p=none→Q (.ref p) (bR H1 p (.lst xs))
theorem LR {x1} (h:PA X es t):PE X (.Tuple es x1 pos) (Qp t):=by
 intro pins s σ H Q I hq
 refine wpAny_Tuple_spliced (eO (h pos pins s σ H _ I hq) fun us s1 ⟨xs,H1,I1,r,z,q⟩=>⟨by rw [←r.length];exact z,?_⟩)
 have hf:H1 s1.heap.objs.size=none:=I1.hok.fresh (bp _)
 refine⟨.ref s1.heap.objs.size,bR H1 s1.heap.objs.size (.tup xs),I1.laid (t':=s1.toks) (fun b u e=>i5 _ e) (bp _) ?_,rfl,q _ hf⟩
 exact⟨z,us,r,⟨_,vb _ rfl,rfl,_,rfl⟩⟩
theorem aI (h:PA X es t):PE X (.List es pos) (Ql t):=by
 intro pins s σ H Q I hq
 refine wpAny_List_spliced (eO (h pos pins s σ H _ I hq) fun us s1 ⟨xs,H1,I1,r,z,q⟩=>⟨by rw [←r.length];exact z,?_⟩)
 have hf:H1 s1.heap.objs.size=none:=I1.hok.fresh (bp _)
 refine⟨.ref s1.heap.objs.size,bR H1 s1.heap.objs.size (.lst xs),I1.laid (t':=s1.toks) (fun b u e=>i5 _ e) (bp _) ?_,rfl,q _ hf⟩
 exact⟨z,us,0,r,vb _ rfl⟩
end
abbrev Sp:=List V→Hp→VK→XK→Prop
abbrev KN:=List Env→Hp→Shared→XK→Value→Shared→Prop
structure Hs (P:Program) (w:World) (K:PySem.W.Frag) (mg:Str→Option Value) (base:Heap) (A:Around) (outer:List Env) (s:Shared) (H:Hp):Prop where
 frames:A.frames=some outer
 mod:Mod K mg base
 bs:∀b o,base.get? b=some o→s.heap.get? b=some o∧H b=none
 bsz:base.objs.size≤s.heap.objs.size
 funs:s.heap.FunFrames base outer
 frf:∀b∈Lf outer,H b=none
 hok:vG P w H s.heap
 bare:AllBare s.gens
def CE (outer:List Env) (P:Program) (w:World) (H:Hp) (s:Shared) (Q:VK) (u:Value) (s':Shared):Prop:=
 ∃v H',s'.os=s.os∧AllBare s'.gens∧Un (Lf outer) [] H H' s.heap s'.heap∧vG P w H' s'.heap∧cX v u∧Q v H'
def CR (CX:KN) (outer:List Env) (P:Program) (w:World) (H:Hp) (s:Shared) (Q:VK) (E:XK) (r:Result) (s':Shared):Prop:=
 match r with
 | .ok (.ret u)=>CE outer P w H s Q u s'
 | .ok _=>False
 | .error e=>CX outer H s E e s'
structure jV (P:Program) (w:World) (K:PySem.W.Frag) (mg:Str→Option Value) (base:Heap) (CX:KN) (k:Nat) (f:Addr) (fd:FuncData) (ps:List Str) (sp:Sp):Prop where
 len:∀vs H Q E,sp vs H Q E→vs.length=ps.length
 run:∀(A:Around) (outer:List Env) (s:Shared) (H:Hp) (args:Args) (us:List Value) (vs:List V) (Q:VK) (E:XK),eR k A→Hs P w K mg base A outer s H→BindsTo s fd args (ps.zip us)→bM vs us→sp vs H Q E→
  codeAny (model P w) A (.call (.ref f) args) (CR CX outer P w H s Q E) s
theorem Hs.make {P:Program} {w:World} {K:PySem.W.Frag} {mg:Str→Option Value} {base:Heap} {A:Around} {outer:List Env} {s:Shared} {H:Hp} (e:Hs P w K mg base A outer s H) (C:Addr) (us:List Value) (kw:List (Str×Value)):
  Hs P w K mg base (A.under (.builtin "type.__call__" ⟨.ref C::us,kw⟩)) outer s H:=⟨by first | exact e.frames | (simpa [Around.under,Code.envs,Code.isFrame,pushEnvs] using e.frames),e.mod,e.bs,e.bsz,e.funs,e.frf,e.hok,e.bare⟩
section
variable {X:Cx} {pins:List (Addr×Obj)} {σ:St} {H:Hp} {s s':Shared}
theorem bd.env0 (I:bd X pins σ H s):Hs X.prog X.w X.K X.mg X.base X.A X.stack s H:=
 ⟨I.ok.frames,I.ok.mod,I.bs,fQ I.ok.bsz I.sz,I.stack,I.stkFree,I.hok,I.bare⟩
theorem bd.after {Q:VK} {u:Value} (I:bd X pins σ H s) (h:CE X.stack X.prog X.w H s Q u s'):EP X pins σ Q u s':=by
 obtain⟨v,H',os,bare,un,hok,r,q⟩:=h
 obtain⟨hh,g,d,t,os'⟩:=s'
 obtain rfl:os'=s.os:=os
 exact⟨v,H',I.call (h':=hh) (g':=g) (d':=d) (t':=t) (ch:= []) un hok bare (fun b z=>absurd z (by simp)),r,q⟩
end
def ND (sp:Sp) (dvs:List V) (E:XK) (t:TA):TE:=fun σ H Q=>t σ H fun vs H1=>sp (vs++dvs) H1 Q E
def GY (C:Addr) (m:Str) (sp:Sp) (dvs:List V) (E:XK) (ta:TE) (t:TA):TE:=fun σ H Q=>ta σ H fun x H1=>∃a dx fs,x= .ref a∧H1 a=some (.ins C dx fs)∧fs.lookup m=none∧
 t σ H1 fun vs H2=>sp (x::(vs++dvs)) H2 Q E
def L9 (C:Addr) (sp:Sp) (dvs:List V) (E:XK) (t:TA):TE:=fun σ H Q=>t σ H fun vs H1=>∀x dx,H1 x=none→H1 dx=none→dx≠x→
 sp (.ref x::(vs++dvs)) (bR (bR H1 dx (.own x)) x (.ins C dx [])) (fun v H2=>v= .non∧Q (.ref x) H2) E
def i8 (K:PySem.W.Frag) (fd:FuncData) (ps:List Str) (ds:List Value):Prop:=
 ∀(s:Shared) (us:List Value),K.In s.heap→(us++ds).length=ps.length→BindsTo s fd ⟨us,[]⟩ (ps.zip (us++ds))
theorem i8.all {K:PySem.W.Frag} {fd:FuncData} {ps:List Str} (h:∀us:List Value,us.length=ps.length→bindArgs fd ⟨us,[]⟩=pure (ps.zip us)):i8 K fd ps []:=fun s us _ hl=>by
 rw [vE] at hl⊢
 exact .of_eq (h us hl)
def sJ (CX:KN) (X:Cx) (E:XK):Prop:=∀(pins:List (Addr×Obj)) (σ:St) (H:Hp) (s:Shared) (e:Value) (s':Shared),bd X pins σ H s→CX X.stack H s E e s'→X.xe e s'
section
variable {X:Cx} {CX:KN} {k:Nat} {f C:Addr} {fd:FuncData} {ps:List Str} {sp:Sp} {dvs:List V} {ds:List Value} {E:XK} {x m:Str} {p pos apos:Pos} {e o:Expr} {es:List Expr} {ta:TE} {t:TA}
theorem ET {pins:List (Addr×Obj)} {σ:St} {H:Hp} {s:Shared} {Q:VK} {us:List Value} {vs:List V} (F:jV X.prog X.w X.K X.mg X.base CX k f fd ps sp) (hr:eR k X.A) (hb:i8 X.K fd ps ds) (hd:bM dvs ds) (hx:sJ CX X E)
  (I:bd X pins σ H s) (r:bM vs us) (h:sp (vs++dvs) H Q E):wpAny (model X.prog X.w) X.A (call (.ref f) us) (EP X pins σ Q) X.xe s:=by
 have r2:bM (vs++dvs) (us++ds):=r.append hd
 have hl:(us++ds).length=ps.length:=by rw [←r2.length];exact F.len _ _ _ _ h
 refine wpAny_call (codeAny_mono (F.run X.A X.stack s H ⟨us,[]⟩ (us++ds) (vs++dvs) Q E hr I.env0 (hb s us I.kIn hl) r2 h) fun r s' hq=> ?_)
 cases r with
 | error e=>exact hx pins σ H s e s' I hq
 | ok fl=>
  cases fl with
  | ret u=>exact I.after hq
  | next=>exact False.elim hq
  | brk=>exact False.elim hq
  | cont=>exact False.elim hq
theorem M3 (F:jV X.prog X.w X.K X.mg X.base CX k f fd ps sp) (hr:eR k X.A) (hg:Gl X x) (hm:X.mg x=some (.ref f)) (hk:PySem.W.keepIn X.K (.ref f)=true) (hb:i8 X.K fd ps ds) (hd:bM dvs ds) (hx:sJ CX X E)
  (ha:PA X (e::es) t) (hdb:(x==("__debug__":Str))=false:=by decide) (he:starEach (e::es) X.env=(false,eval e X.env)::starEach es X.env:=by rfl) (hpl:(backTo pos (starEach es X.env)).any (·.1)=false:=by rfl):
  PE X (.Call (.Name x p) (e::es) [] pos) (ND sp dvs E t):=by
 intro pins s σ H Q I h
 refine wF (A5 I hg hm ?_ hdb)
 refine PySem.W.callWith_K (h₀:=X.base) I.ok.mod.kin hk (eO (ha pos pins s σ H _ I h) fun us s1 ⟨vs,H1,I1,r,q⟩=>⟨I1.kIn,?_⟩) he hpl
 exact ET F hr hb hd hx I1 r q
theorem M4 {pl:Sem Bool} (he:PE X o ta) (c:Ho X.K C) (hm:KT X.K C m f) (F:jV X.prog X.w X.K X.mg X.base CX k f fd ps sp) (hr:eR k X.A) (hb:i8 X.K fd ps ds) (hd:bM dvs ds) (hx:sJ CX X E) (ha:PA X (e::es) t)
  (hst:starEach (e::es) X.env=(false,eval e X.env)::starEach es X.env:=by rfl) (hpl:(backTo pos (starEach es X.env)).any (·.1)=false:=by rfl)
  (ht:eval (.Call (.Attribute o m apos) (e::es) [] pos) X.env=(do
   let ov ←eval o X.env
   standAt apos.atName
   let (f,first) ←holding [ov] (getMethod ov m pl)
   callWith pos f first (backTo pos (starEach (e::es) X.env)) (backToKw pos (keywordEach [] X.env))):=by rfl):
  PE X (.Call (.Attribute o m apos) (e::es) [] pos) (GY C m sp dvs E ta t):=by
 intro pins s σ H Q I h
 refine PySem.W.methodCall_KW (pl:=pl) (eO (he pins s σ H _ I h) fun u s1 ⟨x,H1,I1,rx,a,dx,fs,ex,ea,l,q⟩=> ?_) ht
 subst ex
 obtain rfl:u=Value.ref a:=rx
 refine vK I1 ea c hm l ?_
 refine PySem.W.callWith_K (first:= [.ref a]) (h₀:=X.base) I.ok.mod.kin hm.kp (eO (ha pos pins s1 σ H1 _ I1 q) fun us s2 ⟨vs,H2,I2,r,q2⟩=>⟨I2.kIn,?_⟩) hst hpl
 exact ET (us:= .ref a::us) (vs:= .ref a::vs) F hr hb hd hx I2 (.cons rfl r) q2
theorem LQ {pl:Sem Bool} (he:PE X o ta) (c:Ho X.K C) (hm:KT X.K C m f) (F:jV X.prog X.w X.K X.mg X.base CX k f fd ps sp) (hr:eR k X.A) (hb:i8 X.K fd ps ds) (hd:bM dvs ds) (hx:sJ CX X E)
  (ht:eval (.Call (.Attribute o m apos) [] [] pos) X.env=(do
   let ov ←eval o X.env
   standAt apos.atName
   let (f,first) ←holding [ov] (getMethod ov m pl)
   callWith pos f first (backTo pos (starEach [] X.env)) (backToKw pos (keywordEach [] X.env))):=by rfl):
  PE X (.Call (.Attribute o m apos) [] [] pos) (GY C m sp dvs E ta Ma):=by
 intro pins s σ H Q I h
 refine PySem.W.methodCall_KW (pl:=pl) (eO (he pins s σ H _ I h) fun u s1 ⟨x,H1,I1,rx,a,dx,fs,ex,ea,l,q⟩=> ?_) ht
 subst ex
 obtain rfl:u=Value.ref a:=rx
 refine vK I1 ea c hm l ?_
 exact PySem.W.callWith_K0 (first:= [.ref a]) I1.kIn hm.kp (ET (us:= [.ref a]) (vs:= [.ref a]) F hr hb hd hx I1 (.cons rfl .nil) q)
structure Mk (K:PySem.W.Frag) (C f:Addr):Prop where
 makes:PySem.W.makesIn K C=true
 init:PySem.W.findIn K (.ref C) "__init__"=some (some (.ref f))
 fn:PySem.W.isFn K (.ref f)=true
 kp:PySem.W.keepIn K (.ref C)=true
theorem Gm {pins:List (Addr×Obj)} {σ:St} {H:Hp} {s:Shared} {Q:VK} {us:List Value} {vs:List V} (M:Mk X.K C f) (F:jV X.prog X.w X.K X.mg X.base CX k f fd ps sp) (hr:eR (k+1) X.A) (hb:i8 X.K fd ps ds) (hd:bM dvs ds)
  (hx:sJ CX X E) (I:bd X pins σ H s) (r:bM vs us)
  (h:∀x dx,H x=none→H dx=none→dx≠x→sp (.ref x::(vs++dvs)) (bR (bR H dx (.own x)) x (.ins C dx [])) (fun v H2=>v= .non∧Q (.ref x) H2) E):
  wpAny (model X.prog X.w) X.A (call (.ref C) us) (EP X pins σ Q) X.xe s:=by
 have hq:=h (s.heap.objs.size+1) s.heap.objs.size (I.hok.fresh (Nat.le_succ _)) (I.hok.fresh (bp _)) (fi (Nat.lt_succ_self _))
 have I2:=bd.made (C:=C) I
 have r2:bM (V.ref (s.heap.objs.size+1)::(vs++dvs)) (Value.ref (s.heap.objs.size+1)::(us++ds)):= .cons rfl (r.append hd)
 have hl:(Value.ref (s.heap.objs.size+1)::us++ds).length=ps.length:=by
  have e:=r2.length
  rw [F.len _ _ _ _ hq] at e
  exact e.symm
 refine wpAny_call (Lx (f:=f) I.kIn M.makes M.init (beq_iff_eq.mp M.fn) (codeAny_mono (F.run _ X.stack _ _ ⟨Value.ref (s.heap.objs.size+1)::us,[]⟩ (Value.ref (s.heap.objs.size+1)::(us++ds)) _ _ E (hr.make C us [])
  (I2.env0.make C us []) (hb _ (Value.ref (s.heap.objs.size+1)::us) I2.kIn hl) r2 hq) fun r s' hq'=> ?_))
 cases r with
 | error e=>exact hx pins σ _ _ e s' I2 hq'
 | ok fl=>
  cases fl with
  | ret u=>
   obtain⟨v,H',I3,rv,ev,q3⟩:=I2.after hq'
   subst ev
   exact⟨rv,⟨V.ref (s.heap.objs.size+1),H',I3,rfl,q3⟩⟩
  | next=>exact False.elim hq'
  | brk=>exact False.elim hq'
  | cont=>exact False.elim hq'
theorem EO (M:Mk X.K C f) (F:jV X.prog X.w X.K X.mg X.base CX k f fd ps sp) (hr:eR (k+1) X.A) (hg:Gl X x) (hm:X.mg x=some (.ref C)) (hb:i8 X.K fd ps ds) (hd:bM dvs ds) (hx:sJ CX X E)
  (ha:PA X (e::es) t) (hdb:(x==("__debug__":Str))=false:=by decide) (he:starEach (e::es) X.env=(false,eval e X.env)::starEach es X.env:=by rfl) (hpl:(backTo pos (starEach es X.env)).any (·.1)=false:=by rfl):
  PE X (.Call (.Name x p) (e::es) [] pos) (L9 C sp dvs E t):=by
 intro pins s σ H Q I h
 refine wF (A5 I hg hm ?_ hdb)
 refine PySem.W.callWith_K (h₀:=X.base) I.ok.mod.kin M.kp (eO (ha pos pins s σ H _ I h) fun us s1 ⟨vs,H1,I1,r,q⟩=>⟨I1.kIn,?_⟩) he hpl
 exact Gm M F hr hb hd hx I1 r q
theorem LP (M:Mk X.K C f) (F:jV X.prog X.w X.K X.mg X.base CX k f fd ps sp) (hr:eR (k+1) X.A) (hg:Gl X x) (hm:X.mg x=some (.ref C)) (hb:i8 X.K fd ps ds) (hd:bM dvs ds) (hx:sJ CX X E)
  (hdb:(x==("__debug__":Str))=false:=by decide):PE X (.Call (.Name x p) [] [] pos) (L9 C sp dvs E Ma):=by
 intro pins s σ H Q I h
 refine wF (A5 I hg hm ?_ hdb)
 exact PySem.W.callWith_K0 I.kIn M.kp (Gm (us:= []) M F hr hb hd hx I .nil h)
end
section
variable {X:Cx} {CX:KN} {k:Nat} {f C:Addr} {fd:FuncData} {ps ks:List Str} {sp:Sp} {E:XK} {x m:Str} {p pos apos kpos:Pos} {e o:Expr} {es:List Expr} {kws:List Keyword} {te ta:TE} {t tk:TA} {nm:Option Str}
variable {g:List Value→List Value→List Value} {gV:List V→List V→List V}
end
structure ap (N P:List Str) (sc:Scope):Prop where
 kind:sc.kind= .function
 co:sc.isCoroutine=false
 gen:sc.isGenerator=false
 nd:N.Nodup
 pre:N.take P.length=P
 par:∀x∈P,sc.names.lookup x=some .local∨sc.names.lookup x=some .cell
 nofree:∀y∈sc.names,y.2≠ .free
theorem DE {kindOf:Str→Option NameKind} {x:Str}:∀{binds:List (Str×Value)} {m:Str→Option Value},(∀v,(x,v) ∉ binds)→bindL kindOf binds m x=m x
 | [],_,_=>rfl
 | (n,v)::r,m,h=>by
  unfold bindL
  rw [DE fun w hw=>h w (dU _ hw)]
  split
  ·have:x≠n:=by rintro rfl;exact h v fB
   simp [this]
  ·rfl
theorem DB {kindOf:Str→Option NameKind} {x:Str}:∀{binds:List (Str×Value)} {m:Str→Option Value},(∀v,(x,v) ∉ binds)→bindC kindOf binds m x=m x
 | [],_,_=>rfl
 | (n,v)::r,m,h=>by
  unfold bindC
  rw [DB fun w hw=>h w (dU _ hw)]
  split
  ·rfl
  ·have:x≠n:=by rintro rfl;exact h v fB
   simp [this]
theorem DC {kindOf:Str→Option NameKind} {x:Str} {v:Value}:∀{P:List Str} {vs:List Value} {i:Nat} {m:Str→Option Value},P.Nodup→P[i]?=some x→vs[i]?=some v→kindOf x=some .local→
  bindL kindOf (P.zip vs) m x=some v
 | [],_,_,_,_,h,_,_=>by simp at h
 | _::_,[],_,_,_,_,h,_=>by simp at h
 | p::P,w::vs,0,m,nd,h1,h2,hk=>by
  simp at h1 h2;subst h1;subst h2
  show bindL kindOf ((p,w)::P.zip vs) m p=_
  unfold bindL
  rw [DE fun v hv=>(uu.mp nd).1 (List.of_mem_zip hv).1,if_pos hk]
  simp
 | p::P,w::vs,i+1,m,nd,h1,h2,hk=>by
  show bindL kindOf ((p,w)::P.zip vs) m x=_
  unfold bindL
  exact DC (i:=i) (uu.mp nd).2 (by simpa using h1) (by simpa using h2) hk
theorem DA {kindOf:Str→Option NameKind} {x:Str} {v:Value}:∀{P:List Str} {vs:List Value} {i:Nat} {m:Str→Option Value},P.Nodup→P[i]?=some x→vs[i]?=some v→kindOf x≠some .local→
  bindC kindOf (P.zip vs) m x=some v
 | [],_,_,_,_,h,_,_=>by simp at h
 | _::_,[],_,_,_,_,h,_=>by simp at h
 | p::P,w::vs,0,m,nd,h1,h2,hk=>by
  simp at h1 h2;subst h1;subst h2
  show bindC kindOf ((p,w)::P.zip vs) m p=_
  unfold bindC
  rw [DB fun v hv=>(uu.mp nd).1 (List.of_mem_zip hv).1,if_neg hk]
  simp
 | p::P,w::vs,i+1,m,nd,h1,h2,hk=>by
  show bindC kindOf ((p,w)::P.zip vs) m x=_
  unfold bindC
  exact DA (i:=i) (uu.mp nd).2 (by simpa using h1) (by simpa using h2) hk
def start (N:List Str) (vs:List V):St:=vs.map some++List.replicate (N.length - vs.length) none
def Es (CX:KN) (P:Program) (w:World) (K:PySem.W.Frag) (mg:Str→Option Value) (base:Heap) (N:List Str) (qual:Str) (scope:Scope) (f:Addr) (cd:Value) (A:Around) (outer:List Env) (s:Shared) (H:Hp) (E:XK):Cx where
 prog:=P
 w:=w
 K:=K
 mg:=mg
 base:=base
 A:=A.deeper (envOfC qual scope s.heap.objs.size f cd)
 N:=N
 s_0:=s
 H_0:=H
 env:=envOfC qual scope s.heap.objs.size f cd
 outer:=outer
 stack:=envOfC qual scope s.heap.objs.size f cd::outer
 ex:= []
 calm:=true
 fn:=fun _=>true
 pn:= []
 xe:=fun e s'=>wpAny (model P w) (A.deeper (envOfC qual scope s.heap.objs.size f cd)) (leaving (envOfC qual scope s.heap.objs.size f cd) e) (fun _ s''=>CX outer H s E e s'') (fun e' s''=>CX outer H s E e' s'') s'
theorem FB {sc:Scope} {n:Nat} {x:Str} (h:sc.names.lookup x=some .cell):∃c,(cellsFrom n sc.names []).lookup x=some c:=by
 have q:=PySem.W.cellsFrom_some sc.names n [] (.inl h)
 exact Option.isSome_iff_exists.mp q
theorem JV {CX:KN} {P:Program} {w:World} {K:PySem.W.Frag} {mg:Str→Option Value} {base:Heap} {N ps:List Str} {qual:Str} {scope:Scope} {f:Addr} {cd:Value} {A:Around} {outer:List Env} {s s1:Shared} {H:Hp} {E:XK} {us:List Value} {vs:List V}
  (S:ap N ps scope) (hd:A.handled=none) (e0:Hs P w K mg base A outer s H) (hl:vs.length=ps.length) (r:bM vs us)
  (x:InCallC s s.heap.objs.size (bindL (envOfC qual scope s.heap.objs.size f cd).kindOf (ps.zip us) fun _=>none) (cellsFrom (s.heap.objs.size+1) scope.names []) (bindC (envOfC qual scope s.heap.objs.size f cd).kindOf (ps.zip us) fun _=>none) s1):
  bd (Es CX P w K mg base N qual scope f cd A outer s H E) [] (start N vs) H s1:=by
 have hpl:ps.length≤N.length:=by have:=cx List.length S.pre;rw [ic] at this;omega
 obtain⟨h1,tk,rfl,hk⟩:=x.done
 have noA:∀b:Addr,b ∉ (Es CX P w K mg base N qual scope f cd A outer s H E).ex:=fun b z=>absurd (show b∈([]:List Addr) from z) (by simp)
 refine⟨⟨e0.mod,S.kind,rfl,rfl,bp _,fun y z c h1 h2=> ?_,fun y hy=> ?_,fun y c _ h=> ?_,fun _=>hd,Around.frames_deeper e0.frames,.inr ⟨rfl,rfl⟩,fun b z=>absurd z (noA b),e0.bs,e0.bsz,fun b _ _=>noA b,fun b z=>absurd z (noA b),e0.funs,e0.frf⟩,
  rfl,e0.bare,Un.kept hk,⟨_,x.toInCall.ns,fun i y v h1 h2 h3=> ?_⟩,fun y c h=>⟨_,x.cell y c h⟩,e0.hok.fresh (bp _),fun y c h=> ?_,fun p hp=>absurd (show p∈([]:List (Addr×Obj)) from hp) (by simp),e0.hok.kept hk,?_⟩
 ·exact name_of_addr x.apart (i4 h1) (i4 h2)
 ·have hy:scope.names.lookup y=some .cell∨scope.names.lookup y=some .free:=hy
  rcases hy with hy | hy
  ·exact FB hy
  ·exact absurd rfl (S.nofree _ (i4 hy))
 ·exact Nat.le_of_lt (x.above y c (i4 h))
 ·have hi:i<vs.length:=by
   unfold start at h2
   by_cases hi:i<vs.length
   ·exact hi
   ·rw [nW (by simpa using hi)] at h2
    rw [List.getElem?_replicate] at h2
    split at h2<;>cases h2
  have ha:vs[i]?=some v:=by
   unfold start at h2
   rw [nV (by simpa using hi),dn] at h2
   cases e:vs[i]? with
   | none=>rw [e] at h2;cases h2
   | some a=>rw [e] at h2;cases h2;rfl
  obtain⟨u,hu,rv⟩:=r.get ha
  have hp:ps[i]?=some y:=by
   rw [←S.pre,List.getElem?_take_of_lt (by omega)];exact h1
  have ndP:ps.Nodup:=by rw [←S.pre];exact S.nd.sublist (List.take_sublist _ _)
  refine⟨u,rv,?_⟩
  rcases S.par y (eM hp) with k | k
  ·exact .inl ⟨k,DC ndP hp hu k⟩
  ·obtain⟨c,e⟩:=FB (n:=s.heap.objs.size+1) k
   refine .inr ⟨.inl k,c,e,?_⟩
   have q:=x.cell y c e
   rw [DA ndP hp hu (by show scope.names.lookup y≠_;rw [k];decide)] at q
   exact q
 ·exact e0.hok.fresh (Nat.le_of_lt (x.above y c (i4 h)))
 ·unfold start
  show _=N.length
  rw [bX,aD,JB]
  omega
theorem Nu {CX:KN} {P:Program} {w:World} {K:PySem.W.Frag} {mg:Str→Option Value} {base:Heap} {k:Nat} {f:Addr} {name qual:Str} {params:Arguments} {body:List Stmt} {scope:Scope} {dV kV doc pm cdv ct oc:Value} {an od:Option Addr}
  {osl:Array (Option Value)} {N ps:List Str} {sp:Sp} (lk:K.lookup f=some ⟨oc,od,.func (PySem.W.fnOf name qual params body scope dV kV doc pm an cdv ct),osl⟩) (hcd:PySem.W.codeIn K cdv qual=true) (S:ap N ps scope)
  (len:∀vs H Q E,sp vs H Q E→vs.length=ps.length)
  (hbody:∀(A:Around) (outer:List Env) (s:Shared) (H:Hp) (vs:List V) (Q:VK) (E:XK),eR k (A.deeper (envOfC qual scope s.heap.objs.size f cdv))→sp vs H Q E→
   ∃t,Hq (Es CX P w K mg base N qual scope f cdv A outer s H E) body t∧t {nx:=fun _ H'=>Q .non H',rt:=Q} (start N vs) H):
  jV P w K mg base CX (k+1) f (PySem.W.fnOf name qual params body scope dV kV doc pm an cdv ct) ps sp:=by
 refine⟨len,fun A outer s H args us vs Q E hr e0 hb r hsp=> ?_⟩
 have hl:=len _ _ _ _ hsp
 have KX:K.In s.heap:=e0.mod.kin.keeps fun b o e=>(e0.bs b o e).1
 have lim:s.heap.NoLimit:=e0.mod.nolimit.keeps fun b o e=>(e0.bs b o e).1
 have hkind:∀y∈ps.zip us,scope.names.lookup y.1=some .local∨(scope.names.lookup y.1=some .cell∧((cellsFrom (s.heap.objs.size+1) scope.names []).lookup y.1).isSome=true):=fun⟨n,v⟩ hy=>by
  rcases S.par n (List.of_mem_zip hy).1 with q | q
  ·exact .inl q
  ·exact .inr ⟨q,PySem.W.cellsFrom_some _ _ _ (.inl q)⟩
 refine codeAny_call_function hr.depth (KX _ _ lk) rfl S.co S.gen rfl (PySem.W.codeRec_of KX hcd) (hb _ _ _ _ ?_)
 refine wpAny_newFunctionEnv_cells S.kind hkind fun env he s1 x=> ?_
 subst he
 refine⟨lim.keeps x.toInCall.keep,codeAny_func ?_⟩
 obtain⟨t,ht,hq⟩:=hbody A outer s H vs Q E (hr.deeper _) hsp
 have I:bd (Es CX P w K mg base N qual scope f cdv A outer s H E) [] (start N vs) H s1:=JV S hr.hd e0 hl r x
 refine kL (ht [] s1 (start N vs) H _ I hq) (fun fl s' hs=> ?_) fun e s' hs=>hs
 have fin:∀{σ':St} {H':Hp} {v:V} {u:Value},bd (Es CX P w K mg base N qual scope f cdv A outer s H E) [] σ' H' s'→cX v u→Q v H'→CE outer P w H s Q u s':=
  fun {σ' H' v u} J rv q=>⟨v,H',J.os,J.bare,J.base,J.hok,rv,q⟩
 cases fl with
 | ret u=>
  obtain⟨v,σ',H',J,rv,q⟩:=hs
  exact fin J rv q
 | next=>
  obtain⟨σ',H',J,q⟩:=hs
  exact fin (v:=V.non) (u:=Value.none) J rfl q
 | brk=>
  obtain⟨_,_,_,q⟩:=hs
  exact False.elim q
 | cont=>
  obtain⟨_,_,_,q⟩:=hs
  exact False.elim q
end L2
namespace L2
open PySem PySem.Spec PyProof.Rows
section
variable {X:Cx} {x:Str} {p pos:Pos} {e:Expr} {es:List Expr} {t:TA} {id T:String} {r:List V→Hp→VK→Prop}
def QF (r:List V→Hp→VK→Prop) (t:TA):TE:=fun σ H Q=>t σ H fun vs H1=>r vs H1 Q
theorem a8 (hc:rD X (.builtin id) r) (hg:Gl X x) (hm:X.mg x=none) (hv:bootBuiltins x=some (.builtin id)) (ha:PA X (e::es) t) (hn:x≠"__name__":=by decide) (hdb:(x==("__debug__":Str))=false:=by decide)
  (he:starEach (e::es) X.env=(false,eval e X.env)::starEach es X.env:=by rfl) (hpl:(backTo pos (starEach es X.env)).any (·.1)=false:=by rfl):PE X (.Call (.Name x p) (e::es) [] pos) (QF r t):=by
 intro pins s σ H Q I h
 refine wF (vM I hg hm hv ?_ hn hdb)
 exact PyProof.Rows.callWith_builtin1 (eO (ha pos pins s σ H _ I h) fun us s1 ⟨vs,H1,I1,r1,q1⟩=>hc pins s1 σ H1 vs us Q I1 r1 q1) he hpl
theorem oS (hc:rD X (.type T) r) (hg:Gl X x) (hm:X.mg x=none) (hv:bootBuiltins x=some (.type T)) (ha:PA X (e::es) t) (hn:x≠"__name__":=by decide) (hdb:(x==("__debug__":Str))=false:=by decide)
  (he:starEach (e::es) X.env=(false,eval e X.env)::starEach es X.env:=by rfl) (hpl:(backTo pos (starEach es X.env)).any (·.1)=false:=by rfl):PE X (.Call (.Name x p) (e::es) [] pos) (QF r t):=by
 intro pins s σ H Q I h
 refine wF (vM I hg hm hv ?_ hn hdb)
 exact CF (eO (ha pos pins s σ H _ I h) fun us s1 ⟨vs,H1,I1,r1,q1⟩=>hc pins s1 σ H1 vs us Q I1 r1 q1) he hpl
end
end L2
namespace HT
open PySem PyProof.Rows
section
open PySem.SeqAt
open PySem.AutoSeq1 (wpAny_loadPart')
open PySem.MeetsSeq PySem.MeetsSeq2 PySem.MeetsSeq3
end
section
variable {prog:Program} {w:World} {A:Around} {E:Value→Shared→Prop} {s:Shared}
def sIx (n d:Nat):Option Int→Nat
 | none=>d
 | some v=>if v<0 then(v+(n:Int)).toNat else min v.toNat n
end
end HT
namespace L2
open PySem PySem.Spec PyProof.Rows
abbrev TO:=St→Hp→(Option Int→Hp→Prop)→Prop
def PO (X:Cx) (e:Option Expr) (t:TO):Prop:=
 ∀(pins:List (Addr×Obj)) (s:Shared) (σ:St) (H:Hp) (Q:Option Int→Hp→Prop),bd X pins σ H s→t σ H Q→
  wpAny (model X.prog X.w) X.A (evalPart e X.env) (fun u s'=>∃o H',bd X pins σ H' s'∧IsPart u o∧Q o H') X.xe s
def Nl:TO:=fun _ H Q=>Q none H
def Pk (t:TE):TO:=fun σ H Q=>t σ H fun x H1=>∃i,x= .int i∧Q (some i) H1
section
variable {X:Cx} {e:Expr} {te:TE} {lo hi:Option Expr} {tl th:TO} {pos p2:Pos}
theorem M6:PO X none Nl:=by
 intro pins s σ H Q I h
 rw [evalPart_none]
 exact dP ⟨none,H,I,.none,h⟩
theorem qy (h:PE X e te):PO X (some e) (Pk te):=by
 intro pins s σ H Q I hw
 rw [evalPart_some]
 refine eO (h pins s σ H _ I hw) fun u s1 ⟨x,H1,I1,r1,q1⟩=> ?_
 obtain⟨i,rfl,q⟩:=q1
 obtain⟨t,rfl⟩:=r1
 exact⟨some i,H1,I1,.int i t,q⟩
def PJ (X:Cx) (r:V→Option Int→Option Int→Hp→VK→Prop):Prop:=
 ∀(pins:List (Addr×Obj)) (s:Shared) (σ:St) (H:Hp) (x:V) (v vl vu:Value) (lo hi:Option Int) (sl:Addr) (Q:VK),bd X pins σ H s→cX x v→s.heap.IsSliceOf sl vl vu .none→IsPart vl lo→IsPart vu hi→r x lo hi H Q→
  ∃T id,typeLookup (.type T) "__getitem__"=pure (some (.builtin id))∧s.TypeIs v T∧wpAny (model X.prog X.w) X.A (getItem v (.ref sl)) (EP X pins σ Q) X.xe s
def QR (r:V→Option Int→Option Int→Hp→VK→Prop) (te:TE) (tl th:TO):TE:=fun σ H Q=>te σ H fun x H1=>tl σ H1 fun l H2=>th σ H2 fun u H3=>r x l u H3 Q
theorem xu {r:V→Option Int→Option Int→Hp→VK→Prop} (hr:PJ X r) (he:PE X e te) (hl:PO X lo tl) (hu:PO X hi th):PE X (.Subscript e (.Slice lo hi none p2) pos) (QR r te tl th):=by
 intro pins s σ H Q I h
 refine Subscript_ (eO (he pins s σ H _ I h) fun v s1 ⟨x,H1,I1,r1,q1⟩=> ?_)
 refine wpAny_Slice (eO (hl pins s1 σ H1 _ I1 q1) fun vl s2 ⟨l,H2,I2,pl,q2⟩=>eO (hu pins s2 σ H2 _ I2 q2) fun vu s3 ⟨u,H3,I3,pu,q3⟩=> ?_)
 rw [evalPart_none]
 refine dP ?_
 have I4:bd X pins σ H3 {s3 with heap:=s3.heap.push {cls:= .type "slice",data:= .fields #[vl,vu,.none]}}:=I3.kept (t':=s3.toks) fun b ob q=>i5 _ q
 obtain⟨T,id,hT,ht,hg⟩:=hr pins {s3 with heap:=s3.heap.push {cls:= .type "slice",data:= .fields #[vl,vu,.none]}} σ H3 x v vl vu l u s3.heap.objs.size Q I4 r1 (Heap.IsSliceOf.new ..) pl pu q3
 show wpAny (model X.prog X.w) X.A (subscriptTail e (.Slice lo hi none p2) v (.ref s3.heap.objs.size)) (EP X pins σ Q) X.xe {s3 with heap:=s3.heap.push {cls:= .type "slice",data:= .fields #[vl,vu,.none]}}
 exact tail_any (ops:= [.ref s3.heap.objs.size,v]) ht hT hg (by with_unfolding_all rfl)
def uW (xs:List V) (lo hi:Option Int):List V:=(xs.drop (HT.sIx xs.length 0 lo)).take (HT.sIx xs.length xs.length hi - HT.sIx xs.length 0 lo)
theorem FE (xs:List V) (lo hi:Option Int):(uW xs lo hi).length≤xs.length:=by
 unfold uW
 rw [ic,CM]
 omega
end
end L2
namespace L2
open PySem PySem.Spec PyProof.Rows
def Mu (n:Nat) (i:Int):Option Nat:=if 0≤i then(if i<n then some i.toNat else none) else if -(n:Int)≤i then some (i+n).toNat else none
def KM {α:Type} (xs:List α) (i:Int):Option α:=(Mu xs.length i).bind fun j=>xs[j]?
theorem IU {n:Nat} {i:Int} {j:Nat} (h:Mu n i=some j):seqIndex? i n=some j∧j<n∧-(n:Int)≤i∧i<n:=by
 unfold Mu at h
 by_cases h0:0≤i
 ·rw [if_pos h0] at h
  by_cases h1:i<n
  ·rw [if_pos h1] at h
   have e:i.toNat=j:=bE h
   exact⟨by rw [seqIndex_of h0 h1,e],by omega,by omega,h1⟩
  ·rw [if_neg h1] at h;cases h
 ·rw [if_neg h0] at h
  by_cases h1: -(n:Int)≤i
  ·rw [if_pos h1] at h
   have e:(i+n).toNat=j:=bE h
   exact⟨by rw [seqIndex_neg (by omega) h1,e],by omega,h1,by omega⟩
  ·rw [if_neg h1] at h;cases h
theorem MA {α:Type} {xs:List α} {i:Int} {v:α} (h:KM xs i=some v):∃j,seqIndex? i xs.length=some j∧xs[j]?=some v∧j<xs.length∧-(xs.length:Int)≤i∧i<xs.length:=by
 unfold KM at h
 cases e:Mu xs.length i with
 | none=>rw [e] at h;cases h
 | some j=>
  rw [e] at h
  obtain⟨h1,h2,h3,h4⟩:=IU e
  exact⟨j,h1,h,h2,h3,h4⟩
theorem MB {α:Type} {xs:List α} {j:Nat} {v:α} (h:xs[j]?=some v):KM xs (j:Int)=some v:=by
 have hj:j<xs.length:=(cb.mp h).1
 have e:Mu xs.length (j:Int)=some j:=by
  unfold Mu
  rw [if_pos (by omega),if_pos (by omega)];simp
 unfold KM;rw [e];exact h
def IE (b:Expr):Prop:=∀o i,subscripted b false o i=operate [o,i] (getItem o i)
def PD (X:Cx) (r:R2):Prop:=
 ∀(value slice:Expr) (pins:List (Addr×Obj)) (s:Shared) (σ:St) (H:Hp) (x y:V) (v u:Value) (Q:VK),bd X pins σ H s→cX x v→cX y u→r x y H Q→
  subscripted slice false v u=operate [v,u] (getItem v u)→wpAny (model X.prog X.w) X.A (subscriptTail value slice v u) (EP X pins σ Q) X.xe s
def QI (X:Cx) (id:String) (r:V→List V→Hp→VK→Prop):Prop:=
 ∀(pins:List (Addr×Obj)) (s:Shared) (σ:St) (H:Hp) (x:V) (xs:List V) (v:Value) (us:List Value) (Q:VK),bd X pins σ H s→cX x v→bM xs us→r x xs H Q→
  wpAny (model X.prog X.w) X.A (call (.builtin id) (v::us)) (EP X pins σ Q) X.xe s
section
variable {X:Cx} {a b:Expr} {ta tb:TE} {pos:Pos}
theorem Gf {r:R2} (hr:PD X r) (ha:PE X a ta) (hb:PE X b tb) (hs:IE b):PE X (.Subscript a b pos) (Pj r ta tb):=by
 intro pins s σ H Q I h
 exact Subscript_ (NS ha hb I h fun v u s2 x y H2 I2 rx ry q=>hr a b pins s2 σ H2 x y v u Q I2 rx ry q (hs _ _))
def On (K:PySem.W.Frag):R2:=fun x y H Q=>∃p xs i v,x= .ref p∧y= .int i∧a4 K H p xs∧KM xs i=some v∧Q v H
theorem IV:PD X (On X.K):=by
 intro value slice pins s σ H x y v u Q I rx ry h hs
 obtain⟨p,xs,i,z,rfl,rfl,hq,he,q⟩:=h
 cases rx
 obtain⟨t,rfl⟩:=ry
 obtain⟨its,r,pl,hz⟩:=I.list hq
 obtain⟨j,h1,h2,h3,h4,h5⟩:=MA he
 obtain⟨w,ew,rw'⟩:=r.get h2
 have hl:=r.length
 have hn:=Bu
 have fin:EP X pins σ Q w s:=⟨z,H,I,rw',q⟩
 by_cases h0:0≤i
 ·have hj:i.toNat=j:=by
   rw [seqIndex_of h0 h5] at h1
   exact bE h1
  exact item_listR pl.isList h0 (by omega) (by rw [hj];simpa using ew) fin hs
 ·have hj:(i+(its.toArray.size:Int)).toNat=j:=by
   rw [seqIndex_neg (by omega) h4] at h1
   rw [fP,←hl]
   exact bE h1
  exact subscriptTail_builtinR (x:=w) pl.isList.typeIs slot_list_getitem.lookup
   (wpAny_getItem_list_neg (Q:=fun r s'=>r=w∧EP X pins σ Q r s') pl.isList (by omega) (by rw [fP]<;>omega) (by omega) (by rw [hj];simpa using ew) ⟨rfl,fin⟩) hs
theorem HG (its:List Value) (n j:Nat) (u:Value):Obj.mapSeq (·.setIfInBounds j u) {cls:= .type "list",data:= .seq its.toArray n}={cls:= .type "list",data:= .seq (its.set j u).toArray n}:=by
 simp [Obj.mapSeq]
theorem bd.lst {pins:List (Addr×Obj)} {σ:St} {H:Hp} {s:Shared} {p:Addr} {xs:List V} (I:bd X pins σ H s) (h:H p=some (.lst xs)):
  ∃(its:List Value) (n:Nat),bM xs its∧s.heap.get? p=some {cls:= .type "list",data:= .seq its.toArray n}∧xs.length≤sizeLine:=by
 obtain⟨z,its,n,r,e⟩:=I.hok p _ h
 exact⟨its,n,r,e,z⟩
theorem bd.lstUpd {pins:List (Addr×Obj)} {σ:St} {H:Hp} {s:Shared} {p:Addr} {xs ys:List V} {its its':List Value} {n n':Nat} {f:Obj→Obj} (I:bd X pins σ H s) (h:H p=some (.lst xs))
  (ho:s.heap.get? p=some {cls:= .type "list",data:= .seq its.toArray n}) (hf:f {cls:= .type "list",data:= .seq its.toArray n}={cls:= .type "list",data:= .seq its'.toArray n'}) (r:bM ys its') (hz:ys.length≤sizeLine) (t:Nat):
  bd X pins σ (bR H p (.lst ys)) {s with heap:=s.heap.update p f,toks:=t}:=by
 have e:(s.heap.update p f).get? p=some {cls:= .type "list",data:= .seq its'.toArray n'}:=by
  rw [Heap.get?_update_self f ho (by rw [hf]<;>rfl),hf]
 refine I.write (x:=p) (e:=p) (by rw [h];fA) (.inl rfl) (fun b u hb q=>(Heap.get?_update_other _ _ (Ne.symm hb)).trans q) ⟨_,e⟩ ?_
 exact⟨hz,its',n',r,e⟩
def O6:V→V→V→Hp→(Hp→Prop)→Prop:=fun o i v H Q=>∃p xs k j,o= .ref p∧i= .int k∧H p=some (.lst xs)∧Mu xs.length k=some j∧Q (bR H p (.lst (xs.set j v)))
theorem iF:NN X O6:=by
 intro pins s σ H o i v ov iv u Q I ro ri rv h
 obtain⟨p,xs,k,j,rfl,rfl,hp,hj,q⟩:=h
 cases ro
 obtain⟨t,rfl⟩:=ri
 obtain⟨its,n,r,ho,hz⟩:=I.lst hp
 obtain⟨h1,h2,h3,h4⟩:=IU hj
 have hl:=r.length
 have hn:=Bu
 have I':bd X pins σ (bR H p (.lst (xs.set j v))) {s with heap:=s.heap.update p (Obj.mapSeq (·.setIfInBounds j u))}:=
  I.lstUpd hp ho (HG its n j u) (r.set rv j) (by rw [r9];exact hz) s.toks
 by_cases h0:0≤k
 ·have hk:k.toNat=j:=by
   rw [seqIndex_of h0 h4] at h1
   exact bE h1
  exact PySem.W.ki_setAt ho h0 (by omega) (by rw [fP,←hl];exact h4) (by rw [hk];exact⟨_,I',q⟩)
 ·have hk:(k+(its.toArray.size:Int)).toNat=j:=by
   rw [seqIndex_neg (by omega) h3] at h1
   rw [fP,←hl]
   exact bE h1
  exact PySem.W.ki_setBack ho (by omega) (by rw [fP,←hl];exact h3) (by omega) (by rw [hk];exact⟨_,I',q⟩)
theorem E5 (lo hi:Option Int) (n:Nat):(sliceBounds lo hi none n).1=((HT.sIx n 0 lo:Nat):Int)∧(sliceBounds lo hi none n).2.1=((HT.sIx n n hi:Nat):Int)∧(sliceBounds lo hi none n).2.2=1:=by
 refine⟨?_,?_,rfl⟩
 ·cases lo with
  | none=>simp [sliceBounds,HT.sIx]
  | some i=>
   simp only [sliceBounds,HT.sIx,Option.getD_none,show(1:Int)>0 by decide,if_true]
   by_cases h:i<0
   ·simp only [h,if_true]<;>omega
   ·simp only [h,if_false]<;>omega
 ·cases hi with
  | none=>simp [sliceBounds,HT.sIx]
  | some i=>
   simp only [sliceBounds,HT.sIx,Option.getD_none,show(1:Int)>0 by decide,if_true]
   by_cases h:i<0
   ·simp only [h,if_true]<;>omega
   ·simp only [h,if_false]<;>omega
theorem Dj (its:List Value) (lo hi:Option Int):slicePick its.toArray lo hi none=((its.drop (HT.sIx its.length 0 lo)).take (HT.sIx its.length its.length hi - HT.sIx its.length 0 lo)).toArray:=by
 obtain⟨h1,h2,h3⟩:=E5 lo hi its.toArray.size
 unfold slicePick
 rw [h1,h2,h3]
 simp only [sliceRange_one,pick_run,fP]<;>rfl
def O7 (K:PySem.W.Frag):V→Option Int→Option Int→Hp→VK→Prop:=fun x lo hi H Q=>∃a xs,x= .ref a∧a4 K H a xs∧∀p,H p=none→Q (.ref p) (bR H p (.lst (uW xs lo hi)))
theorem Ba:PJ X (O7 X.K):=by
 intro pins s σ H x v vl vu lo hi sl Q I rx hs pl pu h
 obtain⟨a,xs,rfl,hx,q⟩:=h
 cases rx
 obtain⟨its,r,ht,hz⟩:=I.list hx
 have hlen:=r.length
 refine⟨"list",_,slot_list_getitem.lookup,ht.isList.typeIs,?_⟩
 refine wpAny_getItem_list_slice ht.isList hs pl pu .none (by simp) ?_ (by rw [fP]<;>omega)
 rw [Dj,←hlen]
 refine⟨.ref s.heap.objs.size,_,I.laid (t':=s.toks) (o:= .lst (uW xs lo hi)) (fun b ob q=>i5 _ q) (bp _) ?_,rfl,q _ (I.hok.fresh (bp _))⟩
 exact⟨fQ (FE xs lo hi) hz,_,0,(r.drop (HT.sIx xs.length 0 lo)).take (HT.sIx xs.length xs.length hi - HT.sIx xs.length 0 lo),vb _ rfl⟩
theorem aW:rD X (.builtin "len") (fun xs H Q=>∃p ys,xs= [.ref p]∧(a4 X.K H p ys∨Hr X.K H p ys)∧Q (.int ys.length) H):=by
 intro pins s σ H xs us Q I r h
 obtain⟨p,ys,rfl,hq,q⟩:=h
 obtain⟨u,rfl,rx⟩:=Jv r
 cases rx
 have hn:=Bu
 rcases hq with hq | hq
 ·obtain⟨its,r',pl,hz⟩:=I.list hq
  have hlen:=r'.length
  exact Calls.call_len_list pl.isList (by simp only [fP]<;>omega) ⟨.int ys.length,H,I.tok _,⟨s.toks+1,by rw [fP,hlen]⟩,q⟩
 ·obtain⟨its,r',pl,hz⟩:=I.tuple hq
  have hlen:=r'.length
  exact len_tuple pl (by simp only [fP]<;>omega) ⟨.int ys.length,H,I.tok _,⟨s.toks+1,by rw [fP,hlen]⟩,q⟩
theorem pQ:rD X (.type "list") (fun xs H Q=>∃p ys,xs= [.ref p]∧(a4 X.K H p ys∨Hr X.K H p ys)∧∀l,H l=none→Q (.ref l) (bR H l (.lst ys))):=by
 intro pins s σ H xs us Q I r h
 obtain⟨p,ys,rfl,hq,q⟩:=h
 obtain⟨u,rfl,rx⟩:=Jv r
 cases rx
 have fin:∀(its:List Value),bM ys its→ys.length≤sizeLine→∀(h':Heap) (c':Nat),(∀b o',s.heap.get? b=some o'→h'.get? b=some o')→
   h'.get? s.heap.objs.size=some {cls:= .type "list",dict:=none,data:= .seq its.toArray c',slots:=#[]}→EP X pins σ Q (.ref s.heap.objs.size) {s with heap:=h'}:=fun its r' hz h' c' kp e=>
  ⟨.ref s.heap.objs.size,_,I.laid (t':=s.toks) kp (bp _) (show iB X.prog X.w _ h' _ (.lst ys) from⟨hz,its,c',r',e⟩),rfl,q _ (I.hok.fresh (bp _))⟩
 rcases hq with hq | hq
 ·obtain⟨its,r',pl,hz⟩:=I.list hq
  have hlen:=r'.length
  obtain⟨o,ho,hc,n,hd⟩:=pl.isList
  exact call_list_seq p (.inl rfl) ho hc hd (fun h' c' kp e=>fin its r' hz h' c' kp e) (by simp only [fP]<;>omega)
 ·obtain⟨its,r',pl,hz⟩:=I.tuple hq
  have hlen:=r'.length
  obtain⟨o,ho,hc,n,hd⟩:=pl
  exact call_list_seq p (.inr rfl) ho hc hd (fun h' c' kp e=>fin its r' hz h' c' kp e) (by simp only [fP]<;>omega)
def QG (K:PySem.W.Frag) (T:String) (x:V) (H:Hp):Prop:=match x with
 | .str _=>T="str"
 | .int _=>T="int"
 | .ref p=>(T="list"∧∃xs,a4 K H p xs)∨(T="tuple"∧∃o,K.lookup p=some o∧o.cls= .type "tuple"∧o.dict=none)∨
   (T="dict"∧((∃kvs,H p=some (.dK kvs))∨∃kvs,H p=some (.dT kvs)))∨(T="set"∧∃S n,H p=some (.set S n))
 | _=>False
theorem Oz {pins:List (Addr×Obj)} {σ:St} {H:Hp} {s:Shared} {T:String} {x:V} {v:Value} (I:bd X pins σ H s) (r:cX x v) (ty:QG X.K T x H):
  s.TypeIs v T∧∀a,v= .ref a→∃ob,s.heap.get? a=some ob∧ob.dict=none:=by
 cases x with
 | str z=>
  obtain⟨t,rfl⟩:=r
  cases (show T="str" from ty)
  exact⟨typeIs_str s z t,fun _ e=>nomatch e⟩
 | int i=>
  obtain⟨t,rfl⟩:=r
  cases (show T="int" from ty)
  exact⟨typeIs_int s i t,fun _ e=>nomatch e⟩
 | ref p=>
  cases r
  rcases ty with⟨rfl,xs,hq⟩ | ⟨rfl,o,hk,hc,hd⟩ | ⟨rfl,hk⟩ | ⟨rfl,S,n,hk⟩
  ·obtain⟨its,_,pl,_⟩:=I.list hq
   refine⟨pl.isList.typeIs,fun a e=> ?_⟩
   cases e
   obtain⟨o,n,e,c,hd,_⟩:=pl
   exact⟨o,e,hd⟩
  ·refine⟨⟨o,I.kIn p o hk,hc⟩,fun a e=> ?_⟩
   cases e
   exact⟨o,I.kIn _ o hk,hd⟩
  ·have z:∃o,s.heap.get? p=some o∧o.ExactDict:=by
    rcases hk with⟨kvs,hk⟩ | ⟨kvs,hk⟩
    ·obtain⟨_,_,_,_,o,_,_,e,ex,_⟩:=I.hok p _ hk
     exact⟨o,e,ex⟩
    ·obtain⟨_,_,_,_,o,_,_,e,ex,_⟩:=I.hok p _ hk
     exact⟨o,e,ex⟩
   obtain⟨o,e,ex⟩:=z
   refine⟨⟨o,e,ex.1⟩,fun a e2=> ?_⟩
   cases e2
   exact⟨o,e,ex.2.1⟩
  ·obtain⟨o,_,_,_,e,ex,_⟩:=I.hok p _ hk
   refine⟨⟨o,e,ex.1⟩,fun a e2=> ?_⟩
   cases e2
   exact⟨o,e,ex.2.1⟩
 | _=>exact False.elim ty
def QO (K:PySem.W.Frag) (T:String) (r:V→List V→Hp→VK→Prop) (to:TE) (t:TA):TE:=fun σ H Q=>to σ H fun x H1=>QG K T x H1∧t σ H1 fun xs H2=>r x xs H2 Q
variable {o e:Expr} {es:List Expr} {to:TE} {t:TA} {name:Str} {apos cpos:Pos} {T id:String} {r:V→List V→Hp→VK→Prop}
theorem rL (pa:PlainAttrs T) (slot:Slot T name id) (hty:typeOf (.builtin id)=pure (.type "method_descriptor")) (hm:QI X id r) (ho:PE X o to) (ha:PA X (e::es) t)
  (hbase:attributeBase o name X.env (eval o X.env)=eval o X.env:=by rfl)
  (hfew:((backTo cpos (starEach (e::es) X.env)).all (fun x=> !x.1) && (backToKw cpos (keywordEach [] X.env)).all (fun x=>x.1.isSome)
   && decide ((e::es).length+([]:List Keyword).length+(if ([]:List Keyword).isEmpty then 0 else 1)<30))=true:=by rfl)
  (hline:(apos.endLine==cpos.line)=true:=by rfl) (hs:starEach (e::es) X.env=(false,eval e X.env)::starEach es X.env:=by rfl) (hplain:(backTo cpos (starEach es X.env)).any (·.1)=false:=by rfl):
  PE X (.Call (.Attribute o name apos) (e::es) [] cpos) (QO X.K T r to t):=by
 intro pins s σ H Q I h
 refine wpAny_Call_method_late hbase hfew hline rfl (eO (ho pins s σ H _ I h) fun v s1 ⟨x,H1,I1,r1,ty,q1⟩=> ?_)
 obtain⟨h1,h2⟩:=Oz I1 r1 ty
 refine⟨T,id,pa,slot,hty,h1,h2,?_⟩
 have hA:=ha cpos pins s1 σ H1 _ I1 q1
 rw [hs] at hA⊢
 refine Calls.callWith_builtin (by show(false || (backTo cpos (starEach es X.env)).any (·.1))=false;rw [hplain]<;>rfl) (Calls.evalArgs_plain ?_)
 exact eO hA fun us s2 ⟨vs,H2,I2,r2,q2⟩=>hm pins s2 σ H2 x vs v us Q I2 r1 r2 q2
end
end L2
namespace L2
open PySem PySem.Spec PyProof.Rows
def Qr (X:Cx) (id:String) (r:V→List V→Hp→VK→Prop):Prop:=
 ∀(pins:List (Addr×Obj)) (s:Shared) (σ:St) (H:Hp) (x:V) (xs:List V) (v:Value) (us:List Value) (Q:VK),bd X pins σ H s→cX x v→bM xs us→r x xs H Q→
  wpAny (model X.prog X.w) X.A (call (.builtin id) (v::us)) (EP X pins σ Q) X.xe s
theorem bM.one:∀{x:V} {us:List Value},bM [x] us→∃u,us= [u]∧cX x u
 | _,_,.cons r .nil=>⟨_,rfl,r⟩
theorem bM.rep {xs:List V} {us:List Value} (h:bM xs us):∀k:Nat,bM (List.replicate k xs).flatten (List.replicate k us).flatten
 | 0=> .nil
 | k+1=>by
  rw [CQ,CQ,He,He]
  exact bM.append h (bM.rep h k)
theorem DL (its:List Value):∀(k:Nat) (acc:List Value),
  List.foldl (fun x1 x2=>x1++x2) acc.toArray (List.replicate k its.toArray)=(acc++(List.replicate k its).flatten).toArray
 | 0,acc=>by simp
 | k+1,acc=>by
  have e:acc.toArray++its.toArray=(acc++its).toArray:=by simp
  have e2:(acc++its)++(List.replicate k its).flatten=acc++(List.replicate (k+1) its).flatten:=by
   rw [CQ,He,List.append_assoc]
  rw [←e2,←DL its k (acc++its),←e,CQ,List.foldl_cons]
section
variable {X:Cx} {pins:List (Addr×Obj)} {σ:St} {H:Hp} {s:Shared} {l b:Addr} {xs ys zs:List V}
theorem bd.lset {its its':List Value} {n:Nat} {f:Array Value→Array Value} {t':Nat} (I:bd X pins σ H s) (hH:H l=some (.lst xs))
  (e:s.heap.get? l=some {cls:= .type "list",data:= .seq its.toArray n}) (hf:f its.toArray=its'.toArray) (hv:bM ys its') (hz:ys.length≤sizeLine):
  bd X pins σ (bR H l (.lst ys)) {s with heap:=s.heap.update l (Obj.mapSeq f),toks:=t'}:=by
 have q:=PySem.IsL.update e f
 rw [hf] at q
 refine I.write (x:=l) (e:=l) (by rw [hH];exact fA) (.inl rfl) (fun b' u hb hu=>(Heap.get?_update_other s.heap (Obj.mapSeq f) (Ne.symm hb)).trans hu) ⟨_,q⟩ ?_
 exact⟨hz,its',_,hv,q⟩
theorem bd.lnew {its:List Value} {t':Nat} (I:bd X pins σ H s) (hv:bM ys its) (hz:ys.length≤sizeLine):
  bd X pins σ (bR H s.heap.objs.size (.lst ys)) {s with heap:=s.heap.push {cls:= .type "list",data:= .seq its.toArray},toks:=t'}:=
 I.laid (fun _ _ q=>i5 _ q) (bp _) ⟨hz,its,0,hv,vb _ rfl⟩
theorem bd.fresh (I:bd X pins σ H s):H s.heap.objs.size=none:=I.hok.fresh (bp _)
theorem bd.lstM (I:bd X pins σ H s) (hH:H l=some (.lst xs)):xs.length≤sizeLine∧∃(its:List Value) (n:Nat),bM xs its∧xs.length=its.length∧s.heap.get? l=some {cls:= .type "list",data:= .seq its.toArray n}:=by
 obtain⟨z,its,n,r,e⟩:=I.hok l _ hH
 exact⟨z,its,n,r,r.length,e⟩
theorem F0 {n:Nat} (h:n≤sizeLine):Builtin.List.listTooLong n=false:=by
 unfold Builtin.List.listTooLong
 exact bq (by omega)
end
section
variable {X:Cx}
def M9:V→List V→Hp→VK→Prop:=fun x vs H Q=>∃l xs y,x= .ref l∧vs= [y]∧H l=some (.lst xs)∧xs.length<sizeLine∧Q .non (bR H l (.lst (xs++ [y])))
theorem jc:Qr X "list.append" M9:=by
 intro pins s σ H x vs v us Q I rx rv h
 obtain⟨l,xs,y,rfl,rfl,hH,hz,q⟩:=h
 cases rx
 obtain⟨u,rfl,ru⟩:=rv.one
 obtain⟨z,its,n,r,hl,e⟩:=I.lstM hH
 refine call_meets F.slot_list_append ⟨_,e,rfl⟩ F.entry_list_append (F.args_list_append_2 _ _) (PySem.list_append l its.toArray n u (by rw [fP];omega)) ⟨e,?_⟩
 refine⟨.non,_,I.lset (its':=its++ [u]) hH e (by simp) (r.append (.cons ru .nil)) ?_,rfl,q⟩
 rw [bX,List.length_singleton]
 omega
def Na:V→List V→Hp→VK→Prop:=fun x vs H Q=>∃l b xs zs,x= .ref l∧vs= [.ref b]∧H l=some (.lst xs)∧H b=some (.lst zs)∧xs.length+zs.length≤sizeLine∧Q .non (bR H l (.lst (xs++zs)))
theorem uG:Qr X "list.extend" Na:=by
 intro pins s σ H x vs v us Q I rx rv h
 obtain⟨l,b,xs,zs,rfl,rfl,hH,hB,hz,q⟩:=h
 cases rx
 obtain⟨u,rfl,ru⟩:=rv.one
 cases ru
 obtain⟨z,its,n,r,hl,e⟩:=I.lstM hH
 obtain⟨z2,its2,n2,r2,hl2,e2⟩:=I.lstM hB
 have hsz:its.toArray.size+its2.toArray.size≤sizeLine:=by rw [fP,fP];omega
 have hlong:¬(!its.toArray.isEmpty && Builtin.List.listTooLong (its.toArray.size+its2.toArray.size))=true:=by
  rw [F0 hsz,Bool.and_false]
  exact uq
 refine call_meets F.slot_list_extend ⟨_,e,rfl⟩ F.entry_list_extend (F.args_list_extend_2 _ _)
  (AutoSeq1.list_extend_list_list_0 l its.toArray n b its2.toArray n2 hlong (by rw [fP];omega) (by omega)) ⟨e,e2,?_⟩
 refine⟨.non,_,I.lset (its':=its++its2) hH e (by simp) (r.append r2) ?_,rfl,q⟩
 rw [bX]
 omega
def P8:R2:=fun x y H Q=>∃l b xs zs,x= .ref l∧y= .ref b∧H l=some (.lst xs)∧H b=some (.lst zs)∧xs.length+zs.length≤sizeLine∧∀p,H p=none→Q (.ref p) (bR H p (.lst (xs++zs)))
theorem e9:Bf X (binaryOp .Add) P8:=by
 intro pins s σ H x y v u Q I rx ry h
 obtain⟨l,b,xs,zs,rfl,rfl,hH,hB,hz,q⟩:=h
 cases rx
 cases ry
 obtain⟨z,its,n,r,hl,e⟩:=I.lstM hH
 obtain⟨z2,its2,n2,r2,hl2,e2⟩:=I.lstM hB
 refine PySem.P.add_list e e2 ?_ (by rw [fP,fP];omega)
 have ea:its.toArray++its2.toArray=(its++its2).toArray:=by simp
 rw [ea]
 exact⟨.ref _,_,I.lnew (t':=s.toks) (r.append r2) (by rw [bX];omega),rfl,q _ I.fresh⟩
def Qa:R2:=fun x y H Q=>∃l k xs,x= .ref l∧y= .int k∧H l=some (.lst xs)∧-(2 ^ 63)≤k∧k<2 ^ 63∧xs.length*k.toNat≤sizeLine∧
 ∀p,H p=none→Q (.ref p) (bR H p (.lst (List.replicate k.toNat xs).flatten))
theorem MO {α:Type} (xs:List α) (k:Nat):(List.replicate k xs).flatten.length=k*xs.length:=by
 induction k with
 | zero=>simp
 | succ k ih=>rw [CQ,He,bX,ih,Nat.succ_mul,Nat.add_comm]
theorem LJ:Bf X (binaryOp .Mult) Qa:=by
 intro pins s σ H x y v u Q I rx ry h
 obtain⟨l,k,xs,rfl,rfl,hH,h1,h2,hz,q⟩:=h
 cases rx
 obtain⟨t,rfl⟩:=ry
 obtain⟨z,its,n,r,hl,e⟩:=I.lstM hH
 have hlen:its.toArray.size*k.toNat≤sizeLine:=by rw [fP,←hl];exact hz
 have hcap:¬its.toArray.size*k.toNat>(2 ^ 63 - 1) /8:=by
  have:(sizeLine:Nat)≤(2 ^ 63 - 1) /8:=by decide
  omega
 have hfit:¬(!Builtin.List.listFitsIndex k)=true:=by
  rw [fitsIndex_both h1 h2]
  exact uq
 have hlong:¬Builtin.List.listTooLong (its.toArray.size*k.toNat)=true:=by
  rw [F0 hlen]
  exact uq
 have hnew:List.foldl (fun x1 x2=>x1++x2) #[] (List.replicate (if its.toArray.isEmpty=true then 0 else k.toNat) its.toArray)=(List.replicate k.toNat its).flatten.toArray:=by
  have f0:∀m:Nat,List.foldl (fun x1 x2=>x1++x2) #[] (List.replicate m its.toArray)=(List.replicate m its).flatten.toArray:=fun m=>by
   have:=DL its m []
   rw [Hh] at this
   exact this
  rw [f0]
  cases its with
  | nil=>simp
  | cons a r'=>rw [if_neg (by simp)]
 refine wpAny_binaryOp_repeat_ref (T:="list") (U:="int") (by decide) ⟨_,e,rfl⟩ (fun s'=>typeIs_int s' k t) noFill_list_mul F.fills_int_mul F.slot_int_rmul repeat_list F.slot_int_index.lookup
  (call_meets F.slot_int_rmul (typeIs_int s k t) F.entry_int_rmul (F.args_int_rmul_2 _ _) (int___rmul___int_list k t l its.toArray n)
   ⟨e,rfl,⟨_,e,rfl⟩,call_meets F.slot_list_mul ⟨_,e,rfl⟩ F.entry_list_mul (F.args_list_mul_2 _ _) (AutoListH.list___mul___list_int_3 l its.toArray n k t hfit hcap hlong) ⟨e,?_⟩⟩)
 rw [hnew]
 exact⟨.ref _,_,I.lnew (t':=s.toks) (r.rep k.toNat) (by rw [MO,Nat.mul_comm];exact hz),rfl,q _ I.fresh⟩
end
section
variable {prog:Program} {w:World} {A:Around} {E:Value→Shared→Prop} {s:Shared}
set_option maxRecDepth 100000 in
end
section
variable {X:Cx}
end
end L2
namespace L2
open PySem PySem.Spec PyProof.Rows
theorem bM.ints:∀{ns:List Int} {us:List Value},bM (ns.map V.int) us→IntsAre us ns
 | [],us,h=>by
  rw [List.map_nil] at h
  cases h
  exact IntsAre.nil
 | n::ns,us,h=>by
  rw [eY] at h
  cases h with
  | cons r t=>
   obtain⟨k,rfl⟩:=r
   exact IntsAre.cons n k (bM.ints t)
theorem bM.bls:∀{bs:List Bool} {us:List Value},bM (bs.map V.bl) us→us=bs.map Value.bool
 | [],us,h=>by
  rw [List.map_nil] at h
  cases h
  rfl
 | b::bs,us,h=>by
  rw [eY] at h
  cases h with
  | cons r t=>
   cases r
   rw [bM.bls t,eY]
theorem bM.ref1 {a:Addr} {us:List Value} (r:bM [V.ref a] us):us= [Value.ref a]:=by
 cases r with
 | cons r t=>
  cases t
  cases r
  rfl
section
variable {prog:Program} {w:World} {A:Around} {E:Value→Shared→Prop} {s:Shared} {l:Addr} {its:List Value} {ns:List Int} {Q:Value→Shared→Prop}
theorem Nj (hh:A.handled=none) (hl:s.heap.IsList l its.toArray) (hi:IntsAre its ns)
  (h:∀h' tk t',(∀b o,s.heap.get? b=some o→h'.get? b=some o)→Q (.int ns.sum t') {s with heap:=h',toks:=tk}):wpAny (model prog w) A (call (.builtin "sum") [.ref l]) Q E s:=by
 obtain⟨xs,e⟩:=hi.allInts.items
 have hn:numsOf (intItems xs).toList=ns:=by rw [←e];exact hi.numsOf
 rw [nums_intItems] at hn
 rw [e] at hl
 refine PySem.sum_intListG hh hl fun h' tk t' hk=> ?_
 have:=h h' tk t' hk
 rw [preSum_eq,lv (by simp),hn];exact this
theorem Px (hh:A.handled=none) (hl:s.heap.IsList l its.toArray) (hi:IntsAre its ns) (hne:0<ns.length)
  (h:∀h' tk M t',(∀b o,s.heap.get? b=some o→h'.get? b=some o)→M∈ns→(∀a,a∈ns→a≤M)→Q (.int M t') {s with heap:=h',toks:=tk}):wpAny (model prog w) A (call (.builtin "max") [.ref l]) Q E s:=by
 obtain⟨xs,e⟩:=hi.allInts.items
 have hn:numsOf (intItems xs).toList=ns:=by rw [←e];exact hi.numsOf
 rw [nums_intItems] at hn
 subst hn
 rw [e] at hl
 have hsz:0<xs.size:=by simpa using hne
 refine PySem.max_intList hh hl hsz fun v h' tk hv hk=> ?_
 obtain⟨t,rfl⟩:=intItems_at hv
 obtain⟨h1,h2⟩:=argBest_gt (numAt xs) (xs.size - 1)
 refine h h' tk _ t hk ?_ fun a ha=> ?_
 ·rw [numAt_eq];exact PySem.getD_mem (by rw [aD,G6];omega)
 ·obtain⟨j,hj,rfl⟩:=mem_getD ha
  rw [aD,G6] at hj
  rw [←numAt_eq];exact h2 j (by omega)
theorem MR (hh:A.handled=none) (hl:s.heap.IsList l its.toArray) (hi:IntsAre its ns) (hne:0<ns.length)
  (h:∀h' tk M t',(∀b o,s.heap.get? b=some o→h'.get? b=some o)→M∈ns→(∀a,a∈ns→M≤a)→Q (.int M t') {s with heap:=h',toks:=tk}):wpAny (model prog w) A (call (.builtin "min") [.ref l]) Q E s:=by
 obtain⟨xs,e⟩:=hi.allInts.items
 have hn:numsOf (intItems xs).toList=ns:=by rw [←e];exact hi.numsOf
 rw [nums_intItems] at hn
 subst hn
 rw [e] at hl
 have hsz:0<xs.size:=by simpa using hne
 refine PySem.min_intList hh hl hsz fun v h' tk hv hk=> ?_
 obtain⟨t,rfl⟩:=intItems_at hv
 obtain⟨h1,h2⟩:=argBest_lt (numAt xs) (xs.size - 1)
 refine h h' tk _ t hk ?_ fun a ha=> ?_
 ·rw [numAt_eq];exact PySem.getD_mem (by rw [aD,G6];omega)
 ·obtain⟨j,hj,rfl⟩:=mem_getD ha
  rw [aD,G6] at hj
  rw [←numAt_eq];exact h2 j (by omega)
end
section
variable {X:Cx}
def Qb (K:PySem.W.Frag):List V→Hp→VK→Prop:=fun vs H Q=>∃(a:Addr) (ns:List Int),vs= [V.ref a]∧a4 K H a (ns.map V.int)∧Q (.int ns.sum) H
def P9 (K:PySem.W.Frag):List V→Hp→VK→Prop:=fun vs H Q=>∃(a:Addr) (ns:List Int),vs= [V.ref a]∧a4 K H a (ns.map V.int)∧0<ns.length∧∀m,m∈ns→(∀y,y∈ns→m≤y)→Q (.int m) H
theorem Er (hc:X.calm=true):rD X (.builtin "sum") (Qb X.K):=by
 intro pins s σ H vs us Q I r h
 obtain⟨a,ns,rfl,hs,q⟩:=h
 obtain⟨its,rv,hl,_⟩:=I.list hs
 rw [bM.ref1 r]
 exact Nj (I.ok.hd hc) hl.isList rv.ints fun h' tk t' hk=>⟨.int _,H,I.kept hk,⟨_,rfl⟩,q⟩
theorem NV (hc:X.calm=true):rD X (.builtin "min") (P9 X.K):=by
 intro pins s σ H vs us Q I r h
 obtain⟨a,ns,rfl,hs,hne,q⟩:=h
 obtain⟨its,rv,hl,_⟩:=I.list hs
 rw [bM.ref1 r]
 exact MR (I.ok.hd hc) hl.isList rv.ints hne fun h' tk m t' hk h1 h2=>⟨.int _,H,I.kept hk,⟨_,rfl⟩,q m h1 h2⟩
end
section
variable {X:Cx}
end
section
variable {X:Cx}
end
theorem FO {prog:Program} {w:World} {A:Around} {E:Value→Shared→Prop} {s:Shared} {l:Addr} {items:Array Value} {Q:Value→Shared→Prop} (hl:s.heap.IsList l items)
  (h:∀s₂:Shared,s₂={s with heap:=s.heap.push {cls:= .type "list_iterator",data:= .fields #[.ref l,.int 0 0]}}→
   (s₂.heap.IsListIter s.heap.objs.size l 0∧s₂.heap.IsList l items)→l≠s.heap.objs.size→Q (.ref s.heap.objs.size) s₂):wpAny (model prog w) A (pyIter (.ref l)) Q E s:=by
 have hlt:l<s.heap.objs.size:=by obtain⟨_,e,_⟩:=hl;exact fj e
 exact wpAny_pyIter_list hl (h _ rfl ⟨⟨_,vb _ rfl,rfl,rfl⟩,hl.push _⟩ (fi hlt))
theorem Af {prog:Program} {w:World} {A:Around} {bs:List Bool} {its:List Value} (e:its=bs.map Value.bool):
  TruthOf prog w A (fun i v=>its.toArray[i]?=some v) (fun i=>bs.getD i false):=fun i v s Q E hv hq=>by
 have hv':its[i]?=some v:=by simpa using hv
 rw [e,dn] at hv'
 obtain⟨b,hb,rfl⟩:=mP.mp hv'
 have hg:bs.getD i false=b:=by rw [eX,hb]<;>rfl
 have hq':Q (bs.getD i false) s:=hq
 rw [hg] at hq'
 exact wH hq'
theorem Dy:∀bs:List Bool,(List.range bs.length).any (fun i=>bs.getD i false)=bs.any id
 | []=>rfl
 | b::bs=>by
  rw [d5,JC,List.any_cons,List.any_map,List.any_cons,←Dy bs]
  all_goals rfl
theorem Dx:∀bs:List Bool,(List.range bs.length).all (fun i=>bs.getD i false)=bs.all id
 | []=>rfl
 | b::bs=>by
  rw [d5,JC,CK,List.all_map,CK,←Dx bs]
  all_goals rfl
section
variable {X:Cx}
def P7 (K:PySem.W.Frag):List V→Hp→VK→Prop:=fun vs H Q=>∃(a:Addr) (bs:List Bool),vs= [V.ref a]∧a4 K H a (bs.map V.bl)∧Q (.bl (bs.any id)) H
def P6 (K:PySem.W.Frag):List V→Hp→VK→Prop:=fun vs H Q=>∃(a:Addr) (bs:List Bool),vs= [V.ref a]∧a4 K H a (bs.map V.bl)∧Q (.bl (bs.all id)) H
theorem NU (hc:X.calm=true):rD X (.builtin "any") (P7 X.K):=by
 intro pins s σ H vs us Q I r h
 obtain⟨a,bs,rfl,hs,q⟩:=h
 obtain⟨its,rv,hl,_⟩:=I.list hs
 rw [bM.ref1 r]
 have hb:=rv.bls
 refine call_any_walk (FO hl.isList fun s₂ e2 st hne=> ?_)
 subst e2
 refine⟨_,_,_,_,_,_,_,rfl,Walks.list (A:=X.A.in1) (I.ok.hd hc) _ a hne its.toArray,st,Af hb,fun h' tk hk=> ?_⟩
 refine⟨.bl _,H,I.kept fun b o eo=>hk b o (fun hmem=> ?_) (i5 _ eo),?_,q⟩
 ·rcases cF.mp hmem with e1 | hmem
  ·exact absurd (e1▸fj eo) (sn _)
  ·cases hmem
 ·show Value.bool _=Value.bool _
  rw [←Dy,hb,fP,aD]
theorem NT (hc:X.calm=true):rD X (.builtin "all") (P6 X.K):=by
 intro pins s σ H vs us Q I r h
 obtain⟨a,bs,rfl,hs,q⟩:=h
 obtain⟨its,rv,hl,_⟩:=I.list hs
 rw [bM.ref1 r]
 have hb:=rv.bls
 refine call_all_walk (FO hl.isList fun s₂ e2 st hne=> ?_)
 subst e2
 refine⟨_,_,_,_,_,_,_,rfl,Walks.list (A:=X.A.in1) (I.ok.hd hc) _ a hne its.toArray,st,Af hb,fun h' tk hk=> ?_⟩
 refine⟨.bl _,H,I.kept fun b o eo=>hk b o (fun hmem=> ?_) (i5 _ eo),?_,q⟩
 ·rcases cF.mp hmem with e1 | hmem
  ·exact absurd (e1▸fj eo) (sn _)
  ·cases hmem
 ·show Value.bool _=Value.bool _
  rw [←Dx,hb,fP,aD]
end
section
variable {X:Cx} {pins:List (Addr×Obj)} {σ:St} {H:Hp} {s:Shared}
end
section
variable {X:Cx}
end
end L2
namespace L2
open PySem PySem.Spec PyProof.Rows
abbrev KO (h:Heap) (c:Addr) (v:Option Value):Prop:=h.IsCell c v
def Qc (scope sc:Scope):Scope:=
 {scope with names:=scope.names.map fun(n,k)=>if (k== .free && sc.kind== .function && sc.names.lookup n==some .cell) then(n,.cell) else(n,k)}
def dE (cells:List (Str×Addr)):List (Str×NameKind)→List (Str×Addr)→List (Str×Addr)
 | [],acc=>acc
 | (n,k)::r,acc=>if k== .free then dE cells r ((n,(cells.lookup n).getD 0)::acc) else dE cells r acc
theorem wX (env:Env) (f:Str×NameKind→List (Str×Addr)→Sem (ForInStep (List (Str×Addr))))
  (hf:∀n k c,f (n,k) c=if k== .free then(do let a ←cellOf env n;pure (.yield ((n,a)::c))) else pure (.yield c)):
  ∀(names:List (Str×NameKind)) (acc:List (Str×Addr)),(∀y∈names,y.2= .free→∃c,env.cells.lookup y.1=some c)→forIn names acc f=pure (dE env.cells names acc)
 | [],acc,_=>by rw [List.forIn_nil];rfl
 | (n,k)::r,acc,h=>by
  rw [List.forIn_cons,hf]
  have ih:=fun acc=>wX env f hf r acc fun y hy=>h y (dU _ hy)
  unfold dE
  by_cases hk:(k==NameKind.free)=true
  ·rw [if_pos hk,if_pos hk]
   obtain⟨c,hc⟩:=h (n,k) fB (by simpa using hk)
   have e:cellOf env n=pure c:=by unfold cellOf;rw [hc]
   rw [e]
   have e2:(env.cells.lookup n).getD 0=c:=by rw [hc];rfl
   rw [e2]
   exact ih _
  ·rw [if_neg hk,if_neg hk]
   exact ih _
theorem Hz {scope:Scope} {env:Env} (h:∀y∈scope.names,y.2= .free→∃c,env.cells.lookup y.1=some c):closureFor scope env=pure (dE env.cells scope.names []):=by
 simp only [closureFor]
 rw [wX env _ (fun n k c=>rfl) scope.names [] h]
 rfl
theorem vO {α:Type}:∀{l:List (Str×α)} {n:Str} {c:α},(n,c)∈l→∃c',l.lookup n=some c'
 | (k,v)::r,n,c,h=>by
  rw [CN]
  cases hb:n==k with
  | true=>exact⟨_,rfl⟩
  | false=>
   rcases cF.mp h with e | h
   ·cases e;simp at hb
   ·exact vO h
theorem m8 {cells:List (Str×Addr)}:∀{names:List (Str×NameKind)} {acc:List (Str×Addr)} {n:Str} {c:Addr},(n,c)∈dE cells names acc→(n,c)∈acc∨((n,.free)∈names∧c=(cells.lookup n).getD 0)
 | [],_,_,_,h=> .inl h
 | (m,k)::r,acc,n,c,h=>by
  unfold dE at h
  split at h
  ·rename_i hk
   have hk:k= .free:=by simpa using hk
   rcases m8 h with h | ⟨h1,h2⟩
   ·rcases cF.mp h with e | h
    ·cases e;exact .inr ⟨hk▸fB,rfl⟩
    ·exact .inl h
   ·exact .inr ⟨dU _ h1,h2⟩
  ·rcases m8 h with h | ⟨h1,h2⟩
   ·exact .inl h
   ·exact .inr ⟨dU _ h1,h2⟩
theorem sP {cells:List (Str×Addr)}:∀{names:List (Str×NameKind)} {acc:List (Str×Addr)} {p:Str×Addr},p∈acc→p∈dE cells names acc
 | [],_,_,h=>h
 | (m,k)::r,acc,p,h=>by
  unfold dE
  split
  ·exact sP (dU _ h)
  ·exact sP h
theorem sQ {cells:List (Str×Addr)}:∀{names:List (Str×NameKind)} {acc:List (Str×Addr)} {n:Str},(n,.free)∈names→(n,(cells.lookup n).getD 0)∈dE cells names acc
 | (m,k)::r,acc,n,h=>by
  unfold dE
  rcases cF.mp h with e | h
  ·cases e
   exact sP fB
  ·split
   ·exact sQ h
   ·exact sQ h
theorem oE:∀{names:List (Str×NameKind)} {h:Heap} {acc:List (Str×Addr)} {x:Str} {c:Addr},(x,c)∈cellsFrom h.objs.size names acc→
  (x,c)∈acc∨((x,.cell)∈names∧h.objs.size≤c∧KO (pushCells h names) c none)
 | [],_,_,_,_,h=> .inl h
 | (n,k)::r,h,acc,x,c,hm=>by
  unfold cellsFrom at hm
  unfold pushCells
  split at hm
  ·rename_i hk
   rw [if_pos hk]
   have hk:k= .cell:=by simpa using hk
   rw [←AU h {cls:= .type "cell",data:= .cell none}] at hm
   rcases oE hm with hm | ⟨h1,h2,h3⟩
   ·rcases cF.mp hm with e | hm
    ·cases e
     exact .inr ⟨hk▸fB,bp _,_,pushCells_keeps r _ _ _ (vb _ rfl),rfl⟩
    ·exact .inl hm
   ·rw [AU] at h2
    exact .inr ⟨dU _ h1,Nat.le_of_succ_le h2,h3⟩
  ·rename_i hk
   rw [if_neg hk]
   rcases oE hm with hm | ⟨h1,h2,h3⟩
   ·exact .inl hm
   ·exact .inr ⟨dU _ h1,h2,h3⟩
theorem uF:∀{names:List (Str×NameKind)} {n:Nat} {acc:List (Str×Addr)} {p:Str×Addr},p∈acc→p∈cellsFrom n names acc
 | [],_,_,_,h=>h
 | (m,k)::r,n,acc,p,h=>by
  unfold cellsFrom
  split
  ·exact uF (dU _ h)
  ·exact uF h
theorem yo:∀{names:List (Str×NameKind)} {n:Nat} {acc:List (Str×Addr)} {x:Str},(x,.cell)∈names→∃c,(x,c)∈cellsFrom n names acc
 | (m,k)::r,n,acc,x,h=>by
  unfold cellsFrom
  rcases cF.mp h with e | h
  ·cases e
   exact⟨n,uF fB⟩
  ·split
   ·exact yo h
   ·exact yo h
theorem yp:∀{names:List (Str×NameKind)} {h:Heap} {acc:List (Str×Addr)} {x y:Str} {c:Addr},(∀p∈acc,p.2<h.objs.size)→(∀x y c,(x,c)∈acc→(y,c)∈acc→x=y)→
  (x,c)∈cellsFrom h.objs.size names acc→(y,c)∈cellsFrom h.objs.size names acc→x=y
 | [],_,_,_,_,_,_,hi,h1,h2=>hi _ _ _ h1 h2
 | (n,k)::r,h,acc,x,y,c,hl,hi,h1,h2=>by
  unfold cellsFrom at h1 h2
  split at h1
  ·rename_i hk
   rw [if_pos hk] at h2
   rw [←AU h {cls:= .type "cell",data:= .cell none}] at h1 h2
   refine yp (h:=h.push _) (fun p hp=> ?_) (fun x y c a b=> ?_) h1 h2
   ·rw [AU]
    rcases cF.mp hp with rfl | hp
    ·exact Nat.lt_succ_self _
    ·exact Nat.lt_succ_of_lt (hl p hp)
   ·rcases cF.mp a with e | a<;>rcases cF.mp b with e' | b
    ·cases e;cases e';rfl
    ·cases e;exact absurd (hl _ b) (sn _)
    ·cases e';exact absurd (hl _ a) (sn _)
    ·exact hi _ _ _ a b
  ·rename_i hk
   rw [if_neg hk] at h2
   exact yp hl hi h1 h2
theorem FZ {M:Model} {A:Around} {E:Value→Shared→Prop} {s:Shared} {scope:Scope} {globals:Addr} {closure:List (Str×Addr)} {qual:Str} {func:Option Addr} {code:Value} {around:Env} {builtins:Addr} {Q:Env→Shared→Prop}
  (h:Q (newEnv scope s.heap.objs.size globals (cellsFrom (s.heap.objs.size+1) scope.names closure) qual func code (some around) builtins)
   {s with heap:=pushCells (s.heap.push {cls:= .type "dict",data:= .dict #[]}) scope.names}):
  wpAny M A (newFunctionEnv scope globals closure [] qual func code (some around) builtins) Q E s:=by
 simp only [newFunctionEnv,Option.isSome_some,if_true]
 refine bI (wpAny_alloc ?_)
 refine bI (wpAny_layCells _ (fun n k c=>rfl) scope.names closure _ _ ?_)
 rw [show({s with heap:=s.heap.push {cls:= .type "dict",data:= .dict #[]}}:Shared).heap.objs.size=s.heap.objs.size+1 from AU ..]
 rw [List.forIn_nil]
 exact bI (dP (dP h))
theorem sU {sc:Scope}:∀{names:List (Str×NameKind)} {x:Str} {k:NameKind},
  (names.map fun(n,k)=>if (k==NameKind.free && sc.kind== .function && sc.names.lookup n==some .cell) then(n,NameKind.cell) else(n,k)).lookup x=some k→
  ∃k',names.lookup x=some k'∧(k=k'∨(k'= .free∧k= .cell))
 | [],_,_,h=>by simp at h
 | (n,k₀)::r,x,k,h=>by
  have ih:= @sU sc r x k
  have h':List.lookup x ((if (k₀==NameKind.free && sc.kind== .function && sc.names.lookup n==some .cell)=true then(n,NameKind.cell) else(n,k₀))::(r.map _))=some k:=h
  cases hx:x==n with
  | true=>
   simp only [CN,hx]
   by_cases hc:(k₀==NameKind.free && sc.kind== .function && sc.names.lookup n==some .cell)=true
   ·rw [if_pos hc] at h'
    simp only [CN,hx] at h'
    cases h'
    simp only [yb,beq_iff_eq] at hc
    exact⟨k₀,rfl,.inr ⟨hc.1.1,rfl⟩⟩
   ·rw [if_neg hc] at h'
    simp only [CN,hx] at h'
    cases h'
    exact⟨_,rfl,.inl rfl⟩
  | false=>
   simp only [CN,hx]
   by_cases hc:(k₀==NameKind.free && sc.kind== .function && sc.names.lookup n==some .cell)=true
   ·rw [if_pos hc] at h'
    simp only [CN,hx] at h'
    exact ih h'
   ·rw [if_neg hc] at h'
    simp only [CN,hx] at h'
    exact ih h'
structure Fu (N:List Str) (sc scope:Scope) (own:List (Str×Nat)):Prop where
 kind:scope.kind= .function
 uniq:∀y∈scope.names,scope.names.lookup y.1=some y.2
 ix:∀p∈own,N[p.2]?=some p.1
 free:∀y∈scope.names,y.2= .free→sc.names.lookup y.1=some .cell∨sc.names.lookup y.1=some .free
 own:∀y∈scope.names,y.2= .local∨y.2= .cell→y.1∈own.map (·.1)∨y.1 ∉ N
def iV (σ:St):List Nat→St
 | []=>σ
 | v::vs=>(iV σ vs).set v none
theorem uj (σ:St):∀vs:List Nat,(iV σ vs).length=σ.length
 | []=>rfl
 | v::vs=>by unfold iV;rw [r9,uj σ vs]
theorem zu {σ:St} {i:Nat} {x:V}:∀{vs:List Nat},(iV σ vs)[i]?=some (some x)→σ[i]?=some (some x)∧i ∉ vs
 | [],h=>⟨h,by simp⟩
 | v::vs,h=>by
  unfold iV at h
  by_cases hi:v=i
  ·subst hi
   by_cases hv:v<(iV σ vs).length
   ·rw [Ak hv] at h;cases h
   ·rw [ut (by simpa using hv)] at h;cases h
  ·rw [Aj hi] at h
   obtain⟨h1,h2⟩:=zu h
   exact⟨h1,by simp only [cF,not_or];exact⟨fun e=>hi e.symm,h2⟩⟩
abbrev Cx.blk (X:Cx) (s:Shared) (H:Hp) (scope:Scope) (cenv:Env) (fp:List Addr):Cx:={X with s_0:=s,H_0:=H,env:=cenv,outer:=X.stack,ex:=fp,fn:=fun x=>scope.names.lookup x==some .cell,pn:= [],xe:=fun _ _=>False}
section
variable {X:Cx} {pins:List (Addr×Obj)} {σ:St} {H:Hp} {s:Shared}
theorem Fz {scope:Scope} {own:List (Str×Nat)} {fp:List Addr} (I:bd X pins σ H s) (ok:Fu X.N X.env.scope scope own) (hN:X.N.Nodup) (hfp:∀b∈fp,An X pins H b∧b<s.heap.objs.size):
  bd (X.blk s H scope (compEnvC scope (cellsFrom (s.heap.objs.size+1) scope.names (dE X.env.cells scope.names [])) s.heap.objs.size X.env) fp) [] (iV σ (own.map (·.2))) H {s with heap:=pushCells (s.heap.push {cls:= .type "dict",data:= .dict #[]}) scope.names}:=by
 have hfree:∀y∈scope.names,y.2= .free→∃c,X.env.cells.lookup y.1=some c:=fun y hy e=>by
  rcases ok.free y hy e with k | k
  ·exact I.ok.has _ (.inl k)
  ·exact I.ok.has _ (.inr k)
 generalize hcenv:compEnvC scope (cellsFrom (s.heap.objs.size+1) scope.names (dE X.env.cells scope.names [])) s.heap.objs.size X.env=cenv
 have kp:∀b o,s.heap.get? b=some o→(pushCells (s.heap.push {cls:= .type "dict",data:= .dict #[]}) scope.names).get? b=some o:=fun b o e=>pushCells_keeps _ _ _ _ (i5 _ e)
 have hL:cenv.locals=s.heap.objs.size:=by rw [←hcenv];rfl
 have hcl:cenv.cells=cellsFrom (s.heap.objs.size+1) scope.names (dE X.env.cells scope.names []):=by rw [←hcenv];rfl
 have hsc:cenv.scope=Qc scope X.env.scope:=by rw [←hcenv];rfl
 rw [←AU s.heap {cls:= .type "dict",data:= .dict #[]}] at hcl
 have cm:∀{y c},(y,c)∈dE X.env.cells scope.names []→X.env.cells.lookup y=some c∧c<s.heap.objs.size:=fun {y c} hm=>by
  rcases m8 hm with hm | ⟨h1,rfl⟩
  ·cases hm
  ·obtain⟨c,hc⟩:=hfree _ h1 rfl
   rw [hc]
   obtain⟨w,z⟩:=I.cell _ _ hc
   exact⟨rfl,z.lt⟩
 have mem:∀{y c},cenv.cells.lookup y=some c→(X.env.cells.lookup y=some c∧c<s.heap.objs.size)∨(s.heap.objs.size+1≤c∧KO (pushCells (s.heap.push {cls:= .type "dict",data:= .dict #[]}) scope.names) c none):=fun {y c} e=>by
  rw [hcl] at e
  rcases oE (i4 e) with hm | ⟨_,h2,h3⟩
  ·exact .inl (cm hm)
  ·rw [AU] at h2;exact .inr ⟨h2,h3⟩
 have look:∀{y},scope.names.lookup y=some .free→∃c,cenv.cells.lookup y=some c∧X.env.cells.lookup y=some c:=fun {y} hl=>by
  have hy:(y,NameKind.free)∈scope.names:=i4 hl
  obtain⟨c',e'⟩:=vO (uF (names:=scope.names) (n:=(s.heap.push {cls:= .type "dict",data:= .dict #[]}).objs.size) (sQ (cells:=X.env.cells) (acc:= []) hy))
  rw [←hcl] at e'
  refine⟨c',e',?_⟩
  rw [hcl] at e'
  rcases oE (i4 e') with hm | ⟨h1,_,_⟩
  ·exact(cm hm).1
  ·have:=ok.uniq _ h1
   rw [hl] at this;cases this
 have okB:(X.blk s H scope cenv fp).Ok:=by
  refine⟨I.ok.mod,by show cenv.scope.kind=_;rw [hsc];exact ok.kind,by show cenv.globals=_;rw [←hcenv];exact I.ok.glob,by show cenv.builtins=_;rw [←hcenv];exact I.ok.blt,by show s.heap.objs.size≤cenv.locals;rw [hL];exact bp _,
   fun y z c e1 e2=> ?_,fun y hy=> ?_,fun y c z e=> ?_,I.ok.hd,I.ok.frames,.inl rfl,fun b hb=>⟨?_,fun y c e z=> ?_⟩,I.bs,fQ I.ok.bsz I.sz,fun b o e hb=> ?_,fun b hb z=> ?_,I.stack,I.stkFree⟩
  ·have e1:cenv.cells.lookup y=some c:=e1
   have e2:cenv.cells.lookup z=some c:=e2
   rw [hcl] at e1 e2
   refine yp (fun p hp=> ?_) (fun y z c a b=>I.ok.inj y z c (cm a).1 (cm b).1) (i4 e1) (i4 e2)
   rw [AU]
   exact Nat.lt_succ_of_lt (cm (y:=p.1) (c:=p.2) hp).2
  ·show ∃c,cenv.cells.lookup y=some c
   have key:∀k,cenv.kindOf y=some k→(k= .cell∨k= .free)→∃c,cenv.cells.lookup y=some c:=fun k hk hk'=>by
    unfold Env.kindOf at hk
    rw [hsc] at hk
    obtain⟨k',e,r⟩:=sU hk
    have:k'= .cell∨k'= .free:=by
     rcases r with rfl | ⟨rfl,_⟩
     ·exact hk'
     ·exact .inr rfl
    rcases this with rfl | rfl
    ·obtain⟨c,hm⟩:=yo (n:=(s.heap.push {cls:= .type "dict",data:= .dict #[]}).objs.size) (acc:=dE X.env.cells scope.names []) (i4 e)
     obtain⟨c',e'⟩:=vO hm
     exact⟨c',by rw [hcl];exact e'⟩
    ·obtain⟨c,h1,_⟩:=look e
     exact⟨c,h1⟩
   rcases hy with hy | hy
   ·exact key _ hy (.inl rfl)
   ·exact key _ hy (.inr rfl)
  ·have z:(scope.names.lookup y==some NameKind.cell)=true:=z
   have z:scope.names.lookup y=some .cell:=by simpa using z
   have e:cenv.cells.lookup y=some c:=e
   rw [hcl] at e
   rcases oE (i4 e) with hm | ⟨_,h2,_⟩
   ·rcases m8 hm with hm | ⟨h1,_⟩
    ·cases hm
    ·have q:=ok.uniq _ h1
     rw [z] at q;cases q
   ·rw [AU] at h2
    exact Nat.le_of_succ_le h2
  ·show b≠cenv.locals
   rw [hL];exact fi (hfp b hb).2
  ·have e:cenv.cells.lookup y=some c:=e
   rcases mem e with⟨h1,_⟩ | ⟨h1,_⟩
   ·exact(hfp b hb).1.2.2.2.2.1 y c h1 z
   ·have h2:s.heap.objs.size+1≤b:=by rw [←z];exact h1
    exact absurd (gO (hfp b hb).2 (Nat.le_of_succ_le h2)) (sn _)
  ·rcases (hfp b hb).1.2.2.2.1 with z | z
   ·exact I.ok.noex b o e z
   ·exact absurd (gO (fj e) (fQ I.ok.bsz z)) (sn _)
  ·rcases cF.mp (I.stkSub b z) with z | z
   ·exact(hfp b hb).1.2.1 z
   ·exact(hfp b hb).1.2.2.1 z
 refine⟨okB,rfl,I.bare,Un.kept kp,⟨fun _=>none,?_,fun i y av e1 e2 e3=> ?_⟩,fun y c e=> ?_,?_,fun y c e=> ?_,fun p hp=> ?_,I.hok.kept kp,by rw [uj];exact I.len⟩
 ·show Heap.Ns _ cenv.locals _
  rw [hL]
  exact Heap.Ns.keeps (Heap.Ns.new ..) fun b o e=>pushCells_keeps _ _ _ _ e
 ·obtain⟨e2,hne⟩:=zu e2
  have hfr:scope.names.lookup y=some .free∧(cenv.kindOf y=some .cell∨cenv.kindOf y=some .free):=by
   have key:∀k,cenv.scope.names.lookup y=some k→k= .local∨k= .cell∨k= .free→scope.names.lookup y=some .free∧(cenv.kindOf y=some .cell∨cenv.kindOf y=some .free):=fun k hk hk'=>by
    have hk0:=hk
    rw [hsc] at hk
    obtain⟨k',e,r⟩:=sU hk
    have no:¬(k'= .local∨k'= .cell):=fun hh=>by
     rcases ok.own _ (i4 e) hh with e' | e'
     ·obtain⟨p,hp,hpy⟩:=lO.mp e'
      have e3:=ok.ix p hp
      have:p.1=y:=hpy
      rw [this] at e3
      exact hne (lO.mpr ⟨p,hp,Bz hN e3 e1⟩)
     ·exact e' (eM e1)
    rcases r with rfl | ⟨rfl,rfl⟩
    ·rcases hk' with rfl | rfl | rfl
     ·exact absurd (.inl rfl) no
     ·exact absurd (.inr rfl) no
     ·exact⟨e,.inr hk0⟩
    ·exact⟨e,.inl hk0⟩
   have e3:NO cenv.scope y:=e3
   rcases e3 with e3 | e3 | e3
   ·exact key _ e3 (.inl rfl)
   ·exact key _ e3 (.inr (.inl rfl))
   ·exact key _ e3 (.inr (.inr rfl))
  obtain⟨m,hn,hl⟩:=I.loc
  have hvis:NO X.env.scope y:=(ok.free _ (i4 hfr.1) rfl).elim (fun k=> .inr (.inl k)) (fun k=> .inr (.inr k))
  obtain⟨w,r,q⟩:=hl i y av e1 e2 hvis
  refine⟨w,r,.inr ⟨hfr.2,?_⟩⟩
  obtain⟨c,h1,h2⟩:=look hfr.1
  rcases q with⟨k,_⟩ | ⟨_,c',e',z⟩
  ·have k:X.env.scope.names.lookup y=some .local:=k
   rcases ok.free _ (i4 hfr.1) rfl with k' | k'<;>rw [show X.env.scope.names.lookup y=_ from k'] at k<;>cases k
  ·rw [h2] at e';cases e'
   exact⟨c,h1,z.keeps kp⟩
 ·have e:cenv.cells.lookup y=some c:=e
  rcases mem e with⟨h1,_⟩ | ⟨_,z⟩
  ·obtain⟨w,z⟩:=I.cell y c h1
   exact⟨w,z.keeps kp⟩
  ·exact⟨_,z⟩
 ·show H cenv.locals=none
  rw [hL];exact I.hok.fresh (bp _)
 ·have e:cenv.cells.lookup y=some c:=e
  rcases mem e with⟨h1,_⟩ | ⟨h1,_⟩
  ·exact I.freeC y c h1
  ·exact I.hok.fresh (Nat.le_of_succ_le h1)
 ·exact absurd (show p∈([]:List (Addr×Obj))++ [] from hp) (by simp)
theorem NR {E:Value→Shared→Prop} {D:Addr} {xs:List V} {y:V} {v:Value} {Q:Value→Shared→Prop} (I:bd X pins σ H s) (hD:H D=some (.lst xs)) (hz:xs.length<sizeLine) (r:cX y v)
  (h:∀s',bd X pins σ (bR H D (.lst (xs++ [y]))) s'→Q .none s'):wpAny (model X.prog X.w) X.A (call (.builtin "list.append") [.ref D,v]) Q E s:=by
 obtain⟨hz',its,n,ri,e⟩:=I.hok D _ hD
 have hl:=ri.length
 refine append_at (hsz:=by rw [fP];omega) e fun h' sb ho'=> ?_
 refine h {s with heap:=h'} (I.write (t':=s.toks) (by rw [hD];fA) (.inl rfl) (fun b u hb q=>(sb.2 b hb).trans q) ⟨_,ho'⟩ ⟨by rw [bX];exact hz,its++ [v],n+1,ri.append (.cons r .nil),?_⟩)
 rw [ho']
 simp
def OJ (X:Cx) (ifs:List Expr) (t:TT):Prop:=
 ∀(pins:List (Addr×Obj)) (s:Shared) (σ:St) (H:Hp) (Q:Bool→Hp→Prop),bd X pins σ H s→t σ H Q→
  wpAny (model X.prog X.w) X.A (forIn ifs true fun c r=>if r=true then do let ok ←isTrue c X.env (eval c X.env);pure (ForInStep.yield ok) else pure (ForInStep.yield r)) (TP X pins σ Q) X.xe s
def Qq:TT:=fun _ H Q=>Q true H
theorem dQ:OJ X [] Qq:=fun _ _ _ H _ I h=>wpAny_tests_nil ⟨H,I,h⟩
theorem ES {c:Expr} {t:TT} (h:PT X c t):OJ X [c] t:=fun pins s σ H Q I hw=>wpAny_tests_one (h pins s σ H Q I hw)
end
theorem KH {α:Type} {t:Sem α} {Q Q':α→Shared→Prop} {M:Model} {A:Around} {E:Value→Shared→Prop} {s:Shared} (h:wpAny M A t Q (fun _ _=>False) s) (hQ:∀a s,Q a s→Q' a s):wpAny M A t Q' E s:=kL h hQ fun _ _ z=>False.elim z
theorem Ep {prog:Program} {w:World} {A:Around} {R:Result→Shared→Prop} {s:Shared} {elt target iter:Expr} {ifs:List Expr} {scope:Scope} {pos:Pos} {it acc:Value} {env:Env} (I:Nat→Shared→Prop)
  (turn:∀n s,I n s→wpAny (model prog w) A (pyNext it) (fun r s₁=>match r with
   | none=>R (.ok .next) s₁
   | some v=>wpAny (model prog w) A (letOwnedTupleGo target it v) (fun _ s₁'=>wpAny (model prog w) A (assign target env v) (fun _ s₂=>
     wpAny (model prog w) A (forIn ifs true fun c r=>if r=true then do let ok ←isTrue c env (eval c env);pure (ForInStep.yield ok) else pure (ForInStep.yield r)) (fun ok s₃=>
      if ok=true then wpAny (model prog w) A (eval elt env) (fun x s₄=>
       wpAny (model prog w) A (call (.builtin "list.append") [acc,x]) (fun _ s₅=>∃m,m<n∧I m s₅) (notedBy (model prog w) A env fun e s'=>R (.error e) s') s₄) (notedBy (model prog w) A env fun e s'=>R (.error e) s') s₃
      else ∃m,m<n∧I m s₃) (notedBy (model prog w) A env fun e s'=>R (.error e) s') s₂) (notedBy (model prog w) A env fun e s'=>R (.error e) s') s₁') (notedBy (model prog w) A env fun e s'=>R (.error e) s') s₁) (notedBy (model prog w) A env fun e s'=>R (.error e) s') s)
  (n:Nat) (h:I n s):
  codeAny (model prog w) A (.compLoop (.ListComp elt [⟨target,iter,ifs,0⟩] scope pos) 0 it acc env) R s:=by
 refine codeAny_loop rfl I (fun n s hI=> ?_) n h
 show wpAny _ A ((compTurn (.ListComp elt [⟨target,iter,ifs,0⟩] scope pos) 0 it acc env).onRaise (fun x=>do noteFrame x env;theTreesLotGoes x)) _ _ s
 refine wpAny_noted ?_
 rw [compTurn_list]
 refine bI (wpAny_standAt (bI (kL (turn n s hI) (fun r s₁ h₁=> ?_) fun _ _ h'=>h')))
 cases r with
 | none=>exact dP h₁
 | some v=>
  refine bI (kL h₁ (fun _ s₁' h₁'=> ?_) fun _ _ h'=>h')
  refine bI (kL h₁' (fun _ s₂ h₂=>bI (kL h₂ (fun ok s₃ h₃=> ?_) fun _ _ h'=>h')) fun _ _ h'=>h')
  cases ok with
  | false=>exact dP ⟨rfl,h₃⟩
  | true=>
   exact bI (bI (kL h₃ (fun x s₄ h₄=>bI (kL h₄ (fun _ s₅ h₅=>dP (dP ⟨rfl,h₅⟩)) fun _ _ h'=>h')) fun _ _ h'=>h'))
section
variable {X:Cx}
def Pz (wi:TI) (g:TG) (tt:TT) (te:TE) (vs:List Nat):TE:=fun σ H Q=>wi σ H fun J H1=>∀D,H1 D=none→∃W:Nat→Nat→Hp→Prop,(∃m,W 0 m (bR H1 D (.lst [])))∧∀i m H,W i m H→
 (J.stop i H∧Q (.ref D) H)∨(J.go i H∧∃Nx:Hp→Prop,(∀H',Nx H'→∃m',m'<m∧W (i+1) m' H')∧∀x H',J.yld i H x H'→g x (iV σ vs) H' fun σ2 H2=>iV σ2 vs=iV σ vs∧tt σ2 H2 fun b H3=>
  if b=true then te σ2 H3 fun y H4=>∃acc,H4 D=some (.lst acc)∧acc.length<sizeLine∧Nx (bR H4 D (.lst (acc++ [y]))) else Nx H3)
theorem IX {pins:List (Addr×Obj)} {s:Shared} {σ:St} {H:Hp} {Q:VK} {elt tg iter:Expr} {ifs:List Expr} {scope:Scope} {own:List (Str×Nat)} {pos pos':Pos} {wi:TI} {g:TG} {tt:TT} {te:TE} {use:Option (Value→Sem Unit)} {Qf:Value→Shared→Prop}
  (hc:X.calm=true) (hN:X.N.Nodup) (I:bd X pins σ H s) (hi:PI X tg iter wi) (ok:Fu X.N X.env.scope scope own)
  (hg:∀(s:Shared) (H:Hp) (C:Addr) (cl:List (Str×Addr)) (fp:List Addr),PG (X.blk s H scope (compEnvC scope cl C X.env) fp) tg g) (ht:∀(s:Shared) (H:Hp) (C:Addr) (cl:List (Str×Addr)) (fp:List Addr),OJ (X.blk s H scope (compEnvC scope cl C X.env) fp) ifs tt)
  (he:∀(s:Shared) (H:Hp) (C:Addr) (cl:List (Str×Addr)) (fp:List Addr),PE (X.blk s H scope (compEnvC scope cl C X.env) fp) elt te) (hs:∀x,foldedSetIterable iter X.env x=pure x)
  (h:Pz wi g tt te (own.map (·.2)) σ H Q)
  (hRR:∀D C s' m H',bd X pins σ H' s'→Q (.ref D) H'→s'.heap.Ns C m→An X pins H' C→compPost (model X.prog X.w) X.A X.xe use Qf (.ref D) C (.ok .next) s'):
  wpAny (model X.prog X.w) X.A (comprehension (.ListComp elt [⟨tg,iter,ifs,0⟩] scope pos) scope X.env pos' (newList []) false (eval iter X.env) use) Qf X.xe s:=by
 have hfree:∀y∈scope.names,y.2= .free→∃c,X.env.cells.lookup y.1=some c:=fun y hy e=>by
  rcases ok.free y hy e with k | k
  ·exact I.ok.has _ (.inl k)
  ·exact I.ok.has _ (.inr k)
 refine wpAny_comprehension_free (use:=use) rfl hs (Hz hfree) ok.kind (fun y hy e=>by rw [ok.uniq y hy,e])
  (eO (hi pins s σ H _ I h) fun xv s1 hx=>eO hx fun itv s2 h2=> ?_)
 obtain⟨it,fp,tn,J,H2,e,I2,T,st2,f2,q⟩:=h2
 subst e
 refine wpAny_newObj_type (FZ ?_) (by show 0≤sizeLine;decide)
 generalize hD:s2.heap.objs.size=D
 have hDn:H2 D=none:=I2.hok.fresh (Nat.le_of_eq hD)
 obtain⟨W,⟨m0,w0⟩,turn⟩:=q D hDn
 generalize hs3:({s2 with heap:=s2.heap.push {cls:= .type "list",data:= .seq ([]:List Value).toArray}}:Shared)=s3
 have I3:bd X pins σ (bR H2 D (.lst [])) s3:=by
  rw [←hs3]
  refine I2.laid (t':=s2.toks) (fun b o e=>i5 _ e) (Nat.le_of_eq hD) ⟨bn _,[],0,.nil,?_⟩
  rw [←hD]
  exact vb _ rfl
 have h3:s3.heap=s2.heap.push {cls:= .type "list",data:= .seq ([]:List Value).toArray}:=by rw [←hs3]
 have sz:∀b∈fp,b<s2.heap.objs.size:=fun b hb=>by
  obtain⟨o,e,_⟩:=T.obj _ _ st2 b hb
  exact fj e
 have f3:∀b∈fp,An X pins (bR H2 D (.lst [])) b∧b<s3.heap.objs.size:=fun b hb=>by
  have hlt:=sz b hb
  refine⟨⟨?_,(f2 b hb).2⟩,by rw [h3,AU];exact Nat.lt_succ_of_lt hlt⟩
  rw [ak (by rw [←hD];exact fi hlt)]
  exact(f2 b hb).1
 have st3:tn 0 s3.heap:=T.keep _ _ _ st2 fun b _ o e=>by rw [h3];exact i5 _ e
 have I4:=Fz I3 ok hN f3
 have pg:=hg s3 (bR H2 D (.lst [])) s3.heap.objs.size (cellsFrom (s3.heap.objs.size+1) scope.names (dE X.env.cells scope.names [])) fp
 have pt:=ht s3 (bR H2 D (.lst [])) s3.heap.objs.size (cellsFrom (s3.heap.objs.size+1) scope.names (dE X.env.cells scope.names [])) fp
 have pe:=he s3 (bR H2 D (.lst [])) s3.heap.objs.size (cellsFrom (s3.heap.objs.size+1) scope.names (dE X.env.cells scope.names [])) fp
 show codeAny _ _ (.compStart (.ListComp elt [⟨tg,iter,ifs,0⟩] scope pos) 0 (.ref it) (.ref D) (compEnvC scope (cellsFrom (s3.heap.objs.size+1) scope.names (dE X.env.cells scope.names [])) s3.heap.objs.size X.env)) (compPost (model X.prog X.w) X.A X.xe use Qf (.ref D) s3.heap.objs.size) {s3 with heap:=pushCells (s3.heap.push {cls:= .type "dict",data:= .dict #[]}) scope.names}
 have nfp:∀b∈fp,(bR H2 D (.lst [])) b=none:=fun b hb=>(f3 b hb).1.1
 generalize hce:compEnvC scope (cellsFrom (s3.heap.objs.size+1) scope.names (dE X.env.cells scope.names [])) s3.heap.objs.size X.env=ce at I4 pg pt pe⊢
 have cL:ce.locals=s3.heap.objs.size:=by subst hce;rfl
 generalize hH3:bR H2 D (.lst [])=H3 at I3 I4 pg pt pe w0 nfp f3
 generalize hs4:({s3 with heap:=pushCells (s3.heap.push {cls:= .type "dict",data:= .dict #[]}) scope.names}:Shared)=s4 at I4⊢
 have st4:tn 0 s4.heap:=T.keep _ _ _ st3 fun b _ o e=>by rw [←hs4];exact pushCells_keeps _ _ _ _ (i5 _ e)
 have stat:∀{σ':St} {H':Hp} {s':Shared},bd (X.blk s3 H3 scope ce fp) [] σ' H' s'→(∀b∈fp,H' b=none)→∀b∈fp,An (X.blk s3 H3 scope ce fp) [] H' b:=fun {σ' H' s'} I' hn b hb=>
  ⟨hn b hb,(I'.ok.exf b hb).1,I'.ok.exfs b hb,.inl hb,fun x c e=>(I'.ok.exf b hb).2 x c e,fun p hp=>absurd (show p∈([]:List (Addr×Obj))++ [] from hp) (by simp)⟩
 have loop:codeAny (model X.prog X.w) X.A (.compLoop (.ListComp elt [⟨tg,iter,ifs,0⟩] scope pos) 0 (.ref it) (.ref D) ce) (compPost (model X.prog X.w) X.A X.xe use Qf (.ref D) s3.heap.objs.size) s4:=by
  refine Ep (fun n s'=>∃i H',bd (X.blk s3 H3 scope ce fp) [] (iV σ (own.map (·.2))) H' s'∧tn i s'.heap∧(∀b∈fp,H' b=none)∧W i n H') ?_ m0 ⟨0,H3,I4,st4,nfp,w0⟩
  rintro n s5 ⟨i,H5,I5,st5,n5,w5⟩
  rcases turn i n H5 w5 with⟨stop,qq⟩ | ⟨go,Nx,hNx,step⟩
  ·have td:=T.done (X.blk s3 H3 scope ce fp) rfl rfl rfl hc i [] s5 _ H5 (fun _ _=>False) I5 (stat I5 n5) st5 stop
   refine KH td fun r s6 ⟨hr,I6⟩=> ?_
   subst hr
   have I7:bd X pins σ H5 s6:=I3.call' (ch:=fp) I6.os I6.base I6.hok I6.bare fun b hb=>⟨(f3 b hb).1.2.2.2.1,(f3 b hb).1.2.1,(f3 b hb).1.2.2.2.2.1,(f3 b hb).1.2.2.2.2.2⟩
   have nC:H5 s3.heap.objs.size=none:=by
    have z:H5 ce.locals=none:=I6.free
    rw [cL] at z
    exact z
   obtain⟨m,hn,_⟩:=I6.loc
   have hn:s6.heap.Ns ce.locals m:=hn
   rw [cL] at hn
   exact hRR D s3.heap.objs.size s6 m H5 I7 qq hn (I3.fpOk (bp _) nC)
  ·have ti:=T.item (X.blk s3 H3 scope ce fp) rfl rfl rfl hc i [] s5 _ H5 (fun _ _=>False) I5 (stat I5 n5) st5 go
   refine KH ti fun r s6 ⟨u,hr,h6⟩=> ?_
   subst hr
   refine KH h6 fun _ s7 ⟨x,H7,I7,r7,y7,st7,n7⟩=> ?_
   have I7':=I7.pinned (stat I7 n7) (T.obj _ _ st7)
   refine KH (pg _ s7 _ H7 x u _ I7' r7 (step x H7 y7)) fun _ s8 ⟨σ8,H8,I8,hw8,q8⟩=> ?_
   refine KH (pt _ s8 σ8 H8 _ I8 q8) fun b s9 ⟨H9,I9,q9⟩=> ?_
   have fin:∀{s':Shared} {H':Hp},bd (X.blk s3 H3 scope ce fp) ([]++BL fp s7.heap) σ8 H' s'→Nx H'→∃m,m<n∧∃i H',bd (X.blk s3 H3 scope ce fp) [] (iV σ (own.map (·.2))) H' s'∧tn i s'.heap∧(∀b∈fp,H' b=none)∧W i m H':=fun {s' H'} I' nx=>by
    obtain⟨m',hm,w'⟩:=hNx H' nx
    have pin':∀b∈fp,∀o,s7.heap.get? b=some o→s'.heap.get? b=some o∧H' b=none:=fun b hb o e=>
     let z:=I'.pin (b,o) (sj _ (sj _ (vP hb e)))
     ⟨z.1,z.2.1⟩
    have hl:(iV σ (own.map (·.2))).length=σ8.length:=by rw [←hw8,uj]
    refine⟨m',hm,i+1,H',(I'.unpinned (pins:= [])).weak hl (fun j v e=> ?_),T.keep _ _ _ st7 fun b hb o e=>(pin' b hb o e).1,fun b hb=> ?_,w'⟩
    ·rw [←hw8] at e
     exact(zu e).1
    ·obtain⟨o,e,_⟩:=T.obj _ _ st7 b hb
     exact(pin' b hb o e).2
   cases b with
   | false=>
    simp only [Bool.false_eq_true,if_false] at q9⊢
    exact fin I9 q9
   | true=>
    simp only [if_true] at q9⊢
    refine KH (pe _ s9 σ8 H9 _ I9 q9) fun z s10 ⟨yv,H10,I10,r10,acc,hD10,hz10,nx⟩=> ?_
    exact NR (X:=X.blk s3 H3 scope ce fp) I10 hD10 hz10 r10 fun s11 I11=>fin I11 nx
 exact codeAny_compStart_list loop (T.self X.A 0 _ _ _ st4 loop)
theorem j4 {elt tg iter:Expr} {ifs:List Expr} {scope:Scope} {own:List (Str×Nat)} {pos:Pos} {wi:TI} {g:TG} {tt:TT} {te:TE} (hc:X.calm=true) (hN:X.N.Nodup) (hi:PI X tg iter wi) (ok:Fu X.N X.env.scope scope own)
  (hg:∀(s:Shared) (H:Hp) (C:Addr) (cl:List (Str×Addr)) (fp:List Addr),PG (X.blk s H scope (compEnvC scope cl C X.env) fp) tg g) (ht:∀(s:Shared) (H:Hp) (C:Addr) (cl:List (Str×Addr)) (fp:List Addr),OJ (X.blk s H scope (compEnvC scope cl C X.env) fp) ifs tt)
  (he:∀(s:Shared) (H:Hp) (C:Addr) (cl:List (Str×Addr)) (fp:List Addr),PE (X.blk s H scope (compEnvC scope cl C X.env) fp) elt te) (hs:∀x,foldedSetIterable iter X.env x=pure x:=by intro _;rfl):
  PE X (.ListComp elt [⟨tg,iter,ifs,0⟩] scope pos) (Pz wi g tt te (own.map (·.2))):=by
 intro pins s σ H Q I h
 rw [eval_ListComp]
 refine IX hc hN I hi ok hg ht he hs h fun D C s' m H' I' q hn f=>⟨m,hn,fun h'' sb=> ?_⟩
 obtain⟨f0,f1,f2,f3,f4,f5⟩:=f
 exact⟨.ref D,H',I'.turned (t':=s'.toks) (fun b o hb e=>(sb.2 b hb).trans e) f0 f1 f3 f4 f5,rfl,q⟩
theorem tH {i:Nat} {y:Str} {py:Pos} {elt tg iter:Expr} {ifs:List Expr} {scope:Scope} {own:List (Str×Nat)} {pos spos:Pos} {wi:TI} {g:TG} {tt:TT} {te:TE} (hc:X.calm=true) (hN:X.N.Nodup) (hy:X.N[i]?=some y) (hyl:X.env.scope.names.lookup y=some .local)
  (hsw:swapsWith (.ListComp elt [⟨tg,iter,ifs,0⟩] scope pos) (some (.Name y py)) spos.line X.env=pure true) (hi:PI X tg iter wi) (ok:Fu X.N X.env.scope scope own)
  (hg:∀(s:Shared) (H:Hp) (C:Addr) (cl:List (Str×Addr)) (fp:List Addr),PG (X.blk s H scope (compEnvC scope cl C X.env) fp) tg g) (ht:∀(s:Shared) (H:Hp) (C:Addr) (cl:List (Str×Addr)) (fp:List Addr),OJ (X.blk s H scope (compEnvC scope cl C X.env) fp) ifs tt)
  (he:∀(s:Shared) (H:Hp) (C:Addr) (cl:List (Str×Addr)) (fp:List Addr),PE (X.blk s H scope (compEnvC scope cl C X.env) fp) elt te) (hs:∀x,foldedSetIterable iter X.env x=pure x:=by intro _;rfl):
  PS X (.Assign [.Name y py] (.ListComp elt [⟨tg,iter,ifs,0⟩] scope pos) spos) (Nk (Pz wi g tt te (own.map (·.2))) (DM i)):=by
 intro pins s σ H D I h
 rw [exec_Assign_Name_used _ _ _ _ hsw]
 refine bI (wpAny_standAt (bI ?_))
 show wpAny _ X.A (do let _ ←comprehension (.ListComp elt [⟨tg,iter,ifs,0⟩] scope pos) scope X.env (firstIterPos [⟨tg,iter,ifs,0⟩] pos) (newList []) false (eval iter X.env) (some (assign (.Name y py) X.env))) _ _ s
 have h:Pz wi g tt te (own.map (·.2)) σ H (fun x H1=>DM i x σ H1 D.nx):=h
 refine bI (eO (IX (Qf:=fun _ s'=>SP X pins D .next s') hc hN I hi ok hg ht he hs h fun L C s' m H' I' q hn f=> ?_) fun _ s' hq=>dP (dP hq))
 show wpAny _ _ (assign (.Name y py) X.env (.ref L)) _ _ _
 refine wpAny_assign_Name (Ee (v:=V.ref L) I' hN hy (.inl hyl) rfl (fun s2 I2 ⟨a,sb,ha⟩=> ?_) (.inr hyl))
 obtain⟨f0,f1,f2,f3,f4,f5⟩:=f
 have haC:C≠a:=by
  rcases ha with z | z
  ·rw [z];exact f1
  ·exact fun e=>f4 y a z e.symm
 refine⟨m,hn.sameBut sb haC,fun h3 sb3=> ?_⟩
 exact⟨_,H',I2.turned (t':=s2.toks) (fun b o hb e=>(sb3.2 b hb).trans e) f0 f1 f3 f4 f5,q⟩
theorem xY {elt:Expr} {gs:List Comprehension} {scope:Scope} {pos py:Pos} {y:Str} {l:Nat} {env:Env} (hk:env.scope.kind= .function) (hy:env.scope.names.lookup y=some .local) (hl:(py.line==pos.line)=true)
  (ha:(scope.names.any fun(n,k)=>n==y && (k== .local || k== .cell))=false):swapsWith (.ListComp elt gs scope pos) (some (.Name y py)) l env=pure true:=by
 have ky:env.kindOf y=some .local:=hy
 have hb:env.blockKind= .function:=by unfold Env.blockKind;rw [hk];rfl
 unfold swapsWith
 simp only [hb,ky,ha,Expr.pos,hl]
 rfl
end
theorem gx {lo:Int} {n:Nat} {g:TG} {tt:TT} {te:TE} {vs:List Nat} {σ:St} {H1:Hp} {D:Addr} {Qd:Hp→Prop} (Pv:Nat→Hp→Prop) (h0:Pv 0 (bR H1 D (.lst [])))
  (hs:∀i H,i<n→Pv i H→g (.int (lo+i)) (iV σ vs) H fun σ2 H2=>iV σ2 vs=iV σ vs∧tt σ2 H2 fun b H3=>
   if b=true then te σ2 H3 fun y H4=>∃acc,H4 D=some (.lst acc)∧acc.length<sizeLine∧Pv (i+1) (bR H4 D (.lst (acc++ [y]))) else Pv (i+1) H3) (hd:∀H,Pv n H→Qd H):
  ∃W:Nat→Nat→Hp→Prop,(∃m,W 0 m (bR H1 D (.lst [])))∧∀i m H,W i m H→
   ((Mt lo n).stop i H∧Qd H)∨((Mt lo n).go i H∧∃Nx:Hp→Prop,(∀H',Nx H'→∃m',m'<m∧W (i+1) m' H')∧∀x H',(Mt lo n).yld i H x H'→g x (iV σ vs) H' fun σ2 H2=>iV σ2 vs=iV σ vs∧tt σ2 H2 fun b H3=>
     if b=true then te σ2 H3 fun y H4=>∃acc,H4 D=some (.lst acc)∧acc.length<sizeLine∧Nx (bR H4 D (.lst (acc++ [y]))) else Nx H3):=by
 refine⟨fun i m H=>m=n - i∧i≤n∧Pv i H,⟨n,by simp,bn _,h0⟩,?_⟩
 rintro i m H ⟨rfl,hi,p⟩
 by_cases hlt:i<n
 ·refine .inr ⟨hlt,Pv (i+1),fun H' p'=>⟨n - (i+1),by omega,rfl,hlt,p'⟩,fun x H' y=> ?_⟩
  obtain⟨e,y⟩:=y
  subst e y
  exact hs i _ hlt p
 ·have e:i=n:=by omega
  subst e
  exact .inl ⟨bp _,hd H p⟩
theorem jy {K:PySem.W.Frag} {a:Addr} {xs:List V} {g:TG} {tt:TT} {te:TE} {vs:List Nat} {σ:St} {H1:Hp} {D:Addr} {Qd:Hp→Prop} (Pv:Nat→Hp→Prop) (h0:Pv 0 (bR H1 D (.lst []))) (hl:∀i H,i≤xs.length→Pv i H→a4 K H a xs)
  (hs:∀i x H,xs[i]?=some x→Pv i H→g x (iV σ vs) H fun σ2 H2=>iV σ2 vs=iV σ vs∧tt σ2 H2 fun b H3=>
   if b=true then te σ2 H3 fun y H4=>∃acc,H4 D=some (.lst acc)∧acc.length<sizeLine∧Pv (i+1) (bR H4 D (.lst (acc++ [y]))) else Pv (i+1) H3) (hd:∀H,Pv xs.length H→Qd H):
  ∃W:Nat→Nat→Hp→Prop,(∃m,W 0 m (bR H1 D (.lst [])))∧∀i m H,W i m H→
   ((Np K a).stop i H∧Qd H)∨((Np K a).go i H∧∃Nx:Hp→Prop,(∀H',Nx H'→∃m',m'<m∧W (i+1) m' H')∧∀x H',(Np K a).yld i H x H'→g x (iV σ vs) H' fun σ2 H2=>iV σ2 vs=iV σ vs∧tt σ2 H2 fun b H3=>
     if b=true then te σ2 H3 fun y H4=>∃acc,H4 D=some (.lst acc)∧acc.length<sizeLine∧Nx (bR H4 D (.lst (acc++ [y]))) else Nx H3):=by
 refine⟨fun i m H=>m=xs.length - i∧i≤xs.length∧Pv i H,⟨xs.length,by simp,bn _,h0⟩,?_⟩
 rintro i m H ⟨rfl,hi,p⟩
 have q:=hl i H hi p
 by_cases hlt:i<xs.length
 ·refine .inr ⟨⟨xs,xs[i],q,by simp [hlt]⟩,Pv (i+1),fun H' p'=>⟨xs.length - (i+1),by omega,rfl,hlt,p'⟩,fun x H' y=> ?_⟩
  obtain⟨e,y⟩:=y
  subst e
  exact hs i x _ (y xs q) p
 ·have e:i=xs.length:=by omega
  subst e
  exact .inl ⟨⟨xs,q,bp _⟩,hd H p⟩
def OK (N:List Str) (sc scope:Scope) (own:List (Str×Nat)):Bool:=
 (match scope.kind with | .function=>true | _=>false) && (scope.names.all fun y=>decide (scope.names.lookup y.1=some y.2)) && (own.all fun p=>decide (N[p.2]?=some p.1)) &&
  (scope.names.all fun y=>match y.2 with
   | .free=>(match sc.names.lookup y.1 with | some .cell=>true | some .free=>true | _=>false)
   | .local=>decide (y.1∈own.map (·.1)) || decide (y.1 ∉ N)
   | .cell=>decide (y.1∈own.map (·.1)) || decide (y.1 ∉ N)
   | _=>true)
theorem cf {N:List Str} {sc scope:Scope} {own:List (Str×Nat)} (h:OK N sc scope own=true):Fu N sc scope own:=by
 unfold OK at h
 simp only [yb,Ai,fz] at h
 obtain⟨⟨⟨h1,h2⟩,h3⟩,h4⟩:=h
 refine⟨?_,h2,h3,fun y hy e=> ?_,fun y hy e=> ?_⟩
 ·split at h1
  ·assumption
  ·cases h1
 ·have q:=h4 y hy
  simp only [e] at q
  split at q<;>first | exact .inl (by assumption) | exact .inr (by assumption) | cases q
 ·have q:=h4 y hy
  rcases e with e | e<;>(simp only [e,Bool.or_eq_true,fz] at q;exact q)
end L2
namespace L2
open PySem PySem.Spec PyProof.Rows
section
variable {prog:Program} {w:World} {A:Around} {R:Result→Shared→Prop} {s:Shared} {elt t0 i0 t1 i1:Expr} {ifs0 ifs1:List Expr} {scope:Scope} {pos:Pos} {it acc:Value} {env:Env}
end
section
variable {X:Cx}
end
end L2
namespace L2
open PySem PySem.Spec PyProof.Rows
section
variable {κ:Type} [DecidableEq κ]
def G4 (kvs:List (κ×V)) (k:κ):Option V:=(kvs.find? fun kv=>decide (kv.1=k)).map (·.2)
theorem Mh {p:κ×V} {r:List (κ×V)} {k:κ} (e:p.1=k):G4 (p::r) k=some p.2:=by simp [G4,CL,e]
theorem Mg {p:κ×V} {r:List (κ×V)} {k:κ} (e:¬p.1=k):G4 (p::r) k=G4 r k:=by simp [G4,CL,e]
theorem vH.isSome_eq {o:Option V} {u:Option Value} (r:vH o u):o.isSome=u.isSome:=by
 cases o with
 | none=>cases u with
  | none=>rfl
  | some _=>exact(show False from r).elim
 | some _=>cases u with
  | none=>exact(show False from r).elim
  | some _=>rfl
theorem KV.val {kvs:List (κ×V)} {vs:List (κ×Value)} (r:KV kvs vs) (k:κ):vH (G4 kvs k) (valueAt vs k):=by
 unfold KV at r
 induction r with
 | nil=>exact True.intro
 | @cons p q ps qs h t ih=>
  obtain⟨h1,h2⟩:=h
  by_cases e:p.1=k
  ·have e':q.1=k:=h1.symm.trans e
   have b:valueAt (q::qs) k=some q.2:=by simp [valueAt,CL,e']
   rw [Mh e,b];exact h2
  ·have e':¬q.1=k:=fun z=>e (h1.trans z)
   have b:valueAt (q::qs) k=valueAt qs k:=by simp [valueAt,CL,e']
   rw [Mg e,b];exact ih
end
theorem Nw {P:Program} {w:World} {k:yk} {u:Value} (r:cX (kV k) u):(lR P w).is k u=true:=by
 cases k with
 | inl i=>obtain⟨t,e⟩:=(show ∃t,u=Value.int i t from r);subst e;exact FS P w i t
 | inr x=>obtain⟨t,e⟩:=(show ∃t,u=Value.str x t from r);subst e;exact FT P w x t
section
variable {P:Program} {w:World} {H:Hp} {h:Heap} {a:Addr}
end
section
variable {X:Cx} {pins:List (Addr×Obj)} {σ:St} {H:Hp} {s:Shared} {a:Addr} {y v:V} {u r:Value} {o:Option V} {A:Around} {E:Value→Shared→Prop}
end
section
variable {X:Cx} {pins:List (Addr×Obj)} {σ:St} {H:Hp} {s:Shared} {a:Addr} {kvs:List (yk×V)} {k:yk} {u:Value} {A:Around} {E:Value→Shared→Prop}
end
def OG (i:Expr):Prop:=∀ov iv,subscripted i false ov iv=operate [ov,iv] (getItem ov iv)
theorem Ni {prog:Program} {w:World} {A:Around} {E:Value→Shared→Prop} {s:Shared} {env:Env} {value slice:Expr} {pos:Pos} {T id:String} {Q:Value→Shared→Prop}
  (hl:typeLookup (.type T) "__getitem__"=pure (some (.builtin id))) (hs:OG slice)
  (h:wpAny (model prog w) A (eval value env) (fun o s₁=>wpAny (model prog w) A (eval slice env) (fun i s₂=>s₂.TypeIs o T∧wpAny (model prog w) A (getItem o i) Q E s₂) E s₁) E s):
  wpAny (model prog w) A (eval (.Subscript value slice pos) env) Q E s:=by
 refine Subscript_ (kL h (fun o s₁ h₁=>kL h₁ (fun i s₂ h₂=> ?_) fun _ _ x=>x) fun _ _ x=>x)
 obtain⟨hT,h₂⟩:=h₂
 unfold subscriptTail
 refine bI ?_
 rw [getitemInPython_of_ne hT.not_modules]
 refine bI (wpAny_specialOf hT hl ?_)
 have fin:wpAny (model prog w) A (subscripted slice false o i) (fun r s₃=>wpAny (model prog w) A (letTemporaryGo value o r>>=fun _=>pure r) Q E s₃) E s₂:=by
  rw [hs o i]
  exact wpAny_operating (kL h₂ (fun r s₃ h₃=>bI (wpAny_letTemporaryGo (dP h₃))) fun _ _ x=>x)
 first
  | exact dP (bI fin)
  | exact bI (dP (bI fin))
  | exact bI fin
section
variable {X:Cx} {o i e value:Expr} {pos pos' tpos:Pos} {td ty tv:TE}
end
section
variable {X:Cx} {pos:Pos}
end
section
variable {X:Cx} {pins:List (Addr×Obj)} {σ:St} {H:Hp} {s:Shared} {a:Addr} {y d:V} {u r:Value} {o:Option V} {A:Around} {E:Value→Shared→Prop}
end
section
variable {X:Cx} {o e f:Expr} {apos cpos:Pos} {td ty tx:TE}
end
section
variable {X:Cx} {pins:List (Addr×Obj)} {σ:St} {H:Hp} {s:Shared} {a:Addr} {kvs:List (yk×V)} {A:Around} {E:Value→Shared→Prop}
end
section
variable {X:Cx} {pins:List (Addr×Obj)} {σ:St} {H:Hp} {s:Shared} {a:Addr} {y:V} {u:Value} {A:Around} {E:Value→Shared→Prop}
end
end L2
namespace L2
open PySem PySem.Spec PyProof.Rows
section
variable {prog:Program} {w:World} {A:Around} {E:Value→Shared→Prop}
end
section
variable {X:Cx}
end
end L2
namespace L2
open PySem PySem.Spec PyProof.Rows
section
variable {X:Cx} {pins:List (Addr×Obj)} {σ:St} {H:Hp} {s:Shared} {h':Heap}
theorem bd.turnedL {t':Nat} {ch:List Addr} (I:bd X pins σ H s) (k:∀b o,b ∉ ch→s.heap.get? b=some o→h'.get? b=some o) (hf:∀b∈ch,An X pins H b):bd X pins σ H {s with heap:=h',toks:=t'}:=by
 have nit:∀b u,H b=some u→b ∉ ch:=fun b u e z=>by
  have q:=(hf b z).1
  rw [q] at e;cases e
 refine I.step (g':=s.gens) (d':=s.drawn) (ch:=ch) (fun b hb=>⟨(hf b hb).2.2.2.1,(hf b hb).2.1,(hf b hb).2.2.2.2.1,(hf b hb).2.2.2.2.2⟩) (fun b o _ _ hc e _=>k b o hc e) (fun b o _ _ hc e _=>⟨o.slots,k b o hc e⟩)
  (fun _ _ _ _ n=>n) (fun b o hc e=>⟨o,k b o hc e⟩) (fun _ _ e=>e) (fun _ _ _ e=>e) (fun b ps e=>⟨#[],by rw [e];simp⟩) (fun m hm=> ?_) (fun b u e=> ?_) I.bare
 ·obtain⟨o,es,ep,ho,r⟩:=hm
  exact⟨o,es,ep,k _ o (fun z=>(hf _ z).2.1 rfl) ho,r⟩
 ·refine(I.hok b u e).stay (fun c v hc q=>k c v ?_ q) (fun _ q=>q) fun _ _ q=>q
  rcases hc with z | z
  ·rw [z];exact nit b u e
  ·exact nit c _ z
theorem bd.turnedNew {t':Nat} {ch:List Addr} {T:Addr} {ob:HO} (I:bd X pins σ H s) (k:∀b o,b ∉ ch→s.heap.get? b=some o→h'.get? b=some o) (hf:∀b∈ch,An X pins H b) (hT:s.heap.objs.size≤T)
  (new:iB X.prog X.w (bR H T ob) h' T ob):bd X pins σ (bR H T ob) {s with heap:=h',toks:=t'}:=by
 have hn:H T=none:=I.hok.fresh hT
 have nit:∀b u,H b=some u→b ∉ ch:=fun b u e z=>by
  have q:=(hf b z).1
  rw [q] at e;cases e
 refine I.step (g':=s.gens) (d':=s.drawn) (ch:=ch) (fun b hb=>⟨(hf b hb).2.2.2.1,(hf b hb).2.1,(hf b hb).2.2.2.2.1,(hf b hb).2.2.2.2.2⟩) (fun b o _ _ hc e _=>k b o hc e) (fun b o _ _ hc e _=>⟨o.slots,k b o hc e⟩)
  (fun b o _ e n=> ?_) (fun b o hc e=>⟨o,k b o hc e⟩) (fun b xs e=> ?_) (fun b o u e=> ?_) (fun b ps e=>⟨#[],?_⟩) (fun m hm=> ?_) (fun b u e=> ?_) I.bare
 ·rw [ak (fi (gO (fj e) hT))];exact n
 ·rw [ak (aw e hn)];exact e
 ·rw [ak (aw e hn)];exact e
 ·rw [ak (aw e hn),e];simp
 ·obtain⟨o,es,ep,ho,r⟩:=hm
  exact⟨o,es,ep,k _ o (fun z=>(hf _ z).2.1 rfl) ho,r⟩
 ·by_cases hb:b=T
  ·subst hb
   rw [af] at e
   cases e
   exact new
  ·rw [ak hb] at e
   refine(I.hok b u e).stay (fun c v hc q=>k c v ?_ q) (fun c q=>by rw [ak (aw q hn)];exact q) fun c xs q=>by rw [ak (aw q hn)];exact q
   rcases hc with z | z
   ·rw [z];exact nit b u e
   ·exact nit c _ z
end
section
variable {X:Cx}
end
section
variable {X:Cx} {tg:Expr}
end
section
variable {X:Cx} {tg:Expr}
end
section
variable {prog:Program} {w:World} {A:Around} {E:Value→Shared→Prop} {s:Shared}
end
section
variable {X:Cx} {pins:List (Addr×Obj)} {σ:St} {H:Hp} {s:Shared} {d:Addr} {o:Obj}
end
section
variable {P:Program} {w:World} {K:PySem.W.Frag} {tg:Expr} {d:Addr} {o:Obj} {es:Array DictEntry} {ep:Nat}
end
section
variable {X:Cx} {tg e:Expr} {td:TE} {apos cpos:Pos}
end
theorem JJ:bootBuiltins "zip"=some (.type "zip"):=by decide+kernel
def OF (K:PySem.W.Frag) (a b:Addr):It:=
 ⟨fun i H=>∃(xs ys:List V) (x y:V),a4 K H a xs∧a4 K H b ys∧xs[i]?=some x∧ys[i]?=some y,
  fun i H v H'=>∃T x y,v= .ref T∧H T=none∧H'=bR H T (.tup [x,y])∧(∀xs,a4 K H a xs→xs[i]?=some x)∧∀ys,a4 K H b ys→ys[i]?=some y,
  fun i H=>∃xs ys:List V,a4 K H a xs∧a4 K H b ys∧(xs.length≤i∨ys.length≤i)⟩
theorem Mf {P:Program} {w:World} {K:PySem.W.Frag} {elts:List Expr} {kk:Nat} {tpos:Pos} {a b z TI TO i1 i2:Addr} (D:ZipApart z TI TO i1 i2 a b):
  Mx P w K (.Tuple elts kk tpos) (OF K a b) [z,TI,TO,i1,i2] z (fun i h=>IsZip h z TI TO .none∧IsPair h TI (.ref i1) (.ref i2)∧(∃x y,IsPair h TO x y)∧h.IsListIter i1 a i∧h.IsListIter i2 b i) where
 mem:=by simp
 obj:=fun i h st c hc=>by
  obtain⟨hz,hTI,⟨x,y,hTO⟩,⟨o1,e1,_,d1⟩,⟨o2,e2,_,d2⟩⟩:=st
  have e':c=z∨c=TI∨c=TO∨c=i1∨c=i2:=by simpa using hc
  rcases e' with q | q | q | q | q
  ·rw [q];exact⟨_,hz,fun v q=>nomatch q⟩
  ·rw [q];exact⟨_,hTI,fun v q=>nomatch q⟩
  ·rw [q];exact⟨_,hTO,fun v q=>nomatch q⟩
  ·rw [q];exact⟨o1,e1,fun v q=>by rw [d1] at q;cases q⟩
  ·rw [q];exact⟨o2,e2,fun v q=>by rw [d2] at q;cases q⟩
 keep:=fun i h h' st k=>by
  obtain⟨hz,hTI,⟨x,y,hTO⟩,h1,h2⟩:=st
  exact⟨k z (by simp) _ hz,k TI (by simp) _ hTI,⟨x,y,k TO (by simp) _ hTO⟩,h1.at fun o q=>k i1 (by simp) o q,h2.at fun o q=>k i2 (by simp) o q⟩
 item:=by
  intro X hP hw hK hc i pins s σ H E I hf st hg
  subst hP hw hK
  obtain⟨hz,hTI,⟨x0,y0,hTO⟩,h1,h2⟩:=st
  obtain⟨xs,ys,x,y,hqx,hqy,hx,hy⟩:=hg
  obtain⟨its,rv,p,_⟩:=I.list hqx
  obtain⟨its2,rv2,p2,_⟩:=I.list hqy
  obtain⟨u,hu,ru⟩:=rv.get hx
  obtain⟨u2,hu2,ru2⟩:=rv2.get hy
  have hzl:z<s.heap.objs.size:=fj hz
  refine wpAny_pyNext_zip_item D hz hTI hTO h1 h2 p.isList p2.isList (x:=u) (y:=u2) (by simpa using hu) (by simpa using hu2) fun h' z' TO' h1' h2' hT hsz hk=> ?_
  refine⟨_,rfl,wpAny_letOwnedTupleGo_zip (s:={s with heap:=h'}) z' fun h'' z'' sb=> ?_⟩
  have hT2:h''.get? s.heap.objs.size=some {cls:= .type "tuple",data:= .seq #[u,u2]}:=(sb.2 _ (Nat.ne_of_gt hzl)).trans hT
  have new:iB X.prog X.w (bR H s.heap.objs.size (.tup [x,y])) h'' s.heap.objs.size (.tup [x,y]):=
   ⟨by show 2≤sizeLine;decide,[u,u2],.cons ru (.cons ru2 .nil),⟨_,hT2,rfl,_,rfl⟩⟩
  have I1:bd X pins σ (bR H s.heap.objs.size (.tup [x,y])) {s with heap:=h''}:=
   I.turnedNew (t':=s.toks) (ch:= [z,TI,TO,i1,i2]) (fun c o hb q=>(sb.2 c (fun q'=>hb (by simp [q']))).trans (hk c o (fun q'=>hb (by simp [q'])) (fun q'=>hb (by simp [q'])) (fun q'=>hb (by simp [q'])) (fun q'=>hb (by simp [q'])) q)) hf (bp _) new
  refine⟨.ref s.heap.objs.size,_,I1,rfl,⟨_,x,y,rfl,I.hok.fresh (bp _),rfl,fun l hl=>by rw [I.list_inj hl hqx];exact hx,fun l hl=>by rw [I.list_inj hl hqy];exact hy⟩,⟨z'',?_,⟨u,u2,?_⟩,?_,?_⟩,fun c hcm=> ?_⟩
  ·exact(sb.2 _ D.TIz).trans (hk _ _ D.TIz D.TITO D.TIi1 D.TIi2 hTI)
  ·exact(sb.2 _ D.TOz).trans TO'
  ·exact h1'.at fun o q=>(sb.2 _ D.i1z).trans q
  ·exact h2'.at fun o q=>(sb.2 _ D.i2z).trans q
  ·have hlt:c<s.heap.objs.size:=by
    have e':c=z∨c=TI∨c=TO∨c=i1∨c=i2:=by simpa using hcm
    rcases e' with q | q | q | q | q
    ·rw [q];exact hzl
    ·rw [q];exact fj hTI
    ·rw [q];exact fj hTO
    ·rw [q];obtain⟨_,e1,_⟩:=h1;exact fj e1
    ·rw [q];obtain⟨_,e2,_⟩:=h2;exact fj e2
   rw [ak (fi hlt)]
   exact(hf c hcm).1
 done:=by
  intro X hP hw hK hc i pins s σ H E I hf st hg
  subst hP hw hK
  obtain⟨hz,hTI,⟨x0,y0,hTO⟩,h1,h2⟩:=st
  obtain⟨xs,ys,hqx,hqy,hend⟩:=hg
  obtain⟨its,rv,p,_⟩:=I.list hqx
  obtain⟨its2,rv2,p2,_⟩:=I.list hqy
  have l1:=rv.length
  have l2:=rv2.length
  have he:its.toArray[i]?=none∨its2.toArray[i]?=none:=by
   rcases hend with q | q
   ·exact .inl (by simp;omega)
   ·exact .inr (by simp;omega)
  exact wpAny_pyNext_zip_end (I.ok.hd hc) D hz hTI hTO h1 h2 p.isList p2.isList he fun h' hk=>⟨rfl,I.turnedL (t':=s.toks) (ch:= [z,TI,TO,i1,i2]) (fun c o hb q=>
   hk c o (fun q'=>hb (by simp [q'])) (fun q'=>hb (by simp [q'])) (fun q'=>hb (by simp [q'])) (fun q'=>hb (by simp [q'])) q) hf⟩
 self:=fun A i s Q E st h=>wpAny_pyIter_zip st.1 h
def PZ (K:PySem.W.Frag) (ta:TA):TI:=fun σ H R=>ta σ H fun vs H1=>∃a b xs ys,vs= [.ref a,.ref b]∧a4 K H1 a xs∧a4 K H1 b ys∧R (OF K a b) H1
theorem Oh {X:Cx} {e e2:Expr} {ta:TA} {p pos tpos:Pos} {elts:List Expr} {kk:Nat} (hg:Gl X "zip") (hm:X.mg "zip"=none) (ha:PA X [e,e2] ta)
  (hs:starEach [e,e2] X.env=(false,eval e X.env)::starEach [e2] X.env:=by rfl) (hpl:(backTo pos (starEach [e2] X.env)).any (·.1)=false:=by rfl):
  PI X (.Tuple elts kk tpos) (.Call (.Name "zip" p) [e,e2] [] pos) (PZ X.K ta):=by
 intro pins s σ H R I h
 refine Call_ (vM I hg hm JJ (CF (eO (ha pos pins s σ H _ I h) fun us s1 ⟨vs,H1,I1,r1,q1⟩=> ?_) hs hpl))
 obtain⟨a,b,xs,ys,ex,hqx,hqy,q⟩:=q1
 subst ex
 cases r1 with
 | cons r rr=>
  cases rr with
  | cons r' rr=>
   cases rr
   cases r
   cases r'
   obtain⟨its,rv,p1,_⟩:=I1.list hqx
   obtain⟨its2,rv2,p2,_⟩:=I1.list hqy
   have la:a<s1.heap.objs.size:=p1.lt
   have lb:b<s1.heap.objs.size:=p2.lt
   refine call_zip_2 p1.isList p2.isList fun h' hz hTI hTO h1 h2 hsz hk=>wpAny_pyIter_zip hz ?_
   have I2:bd X pins σ H1 {s1 with heap:=h'}:=I1.kept (t':=s1.toks) hk
   refine⟨s1.heap.objs.size+4,[s1.heap.objs.size+4,s1.heap.objs.size+2,s1.heap.objs.size+3,s1.heap.objs.size,s1.heap.objs.size+1],_,_,H1,rfl,I2,Mf (PySem.W.ktu_apart s1.heap.objs.size a b la lb),⟨hz,hTI,⟨_,_,hTO⟩,h1,h2⟩,fun c hcm=> ?_,q⟩
   have e':c=s1.heap.objs.size+4∨c=s1.heap.objs.size+2∨c=s1.heap.objs.size+3∨c=s1.heap.objs.size∨c=s1.heap.objs.size+1:=by simpa using hcm
   have hle:s1.heap.objs.size≤c:=by
    rcases e' with z | z | z | z | z
    ·rw [z];exact Nat.le_add_right _ _
    ·rw [z];exact Nat.le_add_right _ _
    ·rw [z];exact Nat.le_add_right _ _
    ·rw [z];exact bp _
    ·rw [z];exact Nat.le_add_right _ _
   exact I1.fpOk hle (I1.hok.fresh hle)
end L2
section
namespace Bits
open PySem PyProof.Rows
end Bits
end
section
namespace TL
open PySem PySem.Builtin PySem.Builtin.Str PySem.StrLaws
end TL
end
namespace L2
open PySem PySem.Spec PyProof.Rows
section
variable {X:Cx} {pins:List (Addr×Obj)} {σ:St} {H:Hp} {s:Shared} {Q:VK}
end
section
variable {X:Cx}
end
section
variable {X:Cx} {o e:Expr} {to te:TE}
end
end L2
namespace L2
open PySem PySem.Spec PyProof.Rows
section
variable {X:Cx}
end
end L2
namespace Att
open PySem PySem.W PySem.Calls PyProof.Rows
section
variable {prog:Program} {w:World} {A:Around} {E:Value→Shared→Prop} {s:Shared} {K:Frag}
end
end Att
namespace L2
open PySem PySem.Spec PyProof.Rows
end L2
namespace L2
open PySem PySem.Spec PyProof.Rows
end L2
namespace L2
open PySem PySem.Spec PyProof.Rows
def bu (s:Stmt) (j:Nat):Stmt:=match s with
 | .ClassDef _ _ _ body _ _ _ _ _ _ _=>body.getD j (.Pass ⟨0,0,0,0⟩)
 | _=> .Pass ⟨0,0,0,0⟩
def pR (s:Stmt):Arguments:=match s with
 | .FunctionDef _ a _ _ _ _ _ _ _ _=>a
 | _=>{posonlyargs:= [],args:= [],vararg:=none,kwonlyargs:= [],kw_defaults:= [],kwarg:=none,defaults:= []}
def jw (s:Stmt):List Stmt:=match s with
 | .FunctionDef _ _ b _ _ _ _ _ _ _=>b
 | _=> []
def ag (s:Stmt):Scope:=match s with
 | .FunctionDef _ _ _ _ _ _ sc _ _ _=>sc
 | _=>{kind:= .function,names:= [],isGenerator:=false,isCoroutine:=false}
abbrev AV:KN:=fun _ _ _ _ _ _=>False
abbrev E0:XK:=fun _ _ _=>False
theorem zQ {X:Cx}:sJ AV X E0:=fun _ _ _ _ _ _ _ h=>h.elim
structure NI (K:PySem.W.Frag) (x qual:Str) (st:Stmt) (f:Addr) (fd:FuncData):Prop where
 ex:∃(oc:Value) (od:Option Addr) (kV doc pm:Value) (an:Option Addr) (cdv ct:Value) (osl:Array (Option Value)),
  fd=PySem.W.fnOf x qual (pR st) (jw st) (ag st) .none kV doc pm an cdv ct∧K.lookup f=some ⟨oc,od,.func fd,osl⟩∧PySem.W.codeIn K cdv qual=true
 kp:PySem.W.keepIn K (.ref f)=true
section
variable {P:Program} {w:World} {K:PySem.W.Frag} {mg:Str→Option Value} {base:Heap}
theorem NI.ok {x qual:Str} {st:Stmt} {f:Addr} {fd:FuncData} {N ps:List Str} {k:Nat} {sp:Sp} (F:NI K x qual st f fd) (S:ap N ps (ag st)) (len:∀vs H Q E,sp vs H Q E→vs.length=ps.length)
  (hbody:∀(cdv:Value) (A:Around) (outer:List Env) (s:Shared) (H:Hp) (vs:List V) (Q:VK) (E:XK),eR k (A.deeper (envOfC qual (ag st) s.heap.objs.size f cdv))→sp vs H Q E→
   ∃t,Hq (Es AV P w K mg base N qual (ag st) f cdv A outer s H E).nox (jw st) t∧t {nx:=fun _ H'=>Q .non H',rt:=Q} (start N vs) H):jV P w K mg base AV (k+1) f fd ps sp:=by
 obtain⟨oc,od,kV,doc,pm,an,cdv,ct,osl,rfl,lk,hcd⟩:=F.ex
 refine Nu lk hcd S len fun A outer s H vs Q E hr hsp=> ?_
 obtain⟨t,h,q⟩:=hbody cdv A outer s H vs Q E hr hsp
 exact⟨t,h.nox,q⟩
theorem Lg {x qual:Str} {st:Stmt} {f:Addr} {oc:Value} {od an:Option Addr} {osl:Array (Option Value)} {kV doc pm cdv ct:Value} (l:K.lookup f=some ⟨oc,od,.func (PySem.W.fnOf x qual (pR st) (jw st) (ag st) .none kV doc pm an cdv ct),osl⟩)
  (c:PySem.W.codeIn K cdv qual=true) (k:PySem.W.keepIn K (.ref f)=true):NI K x qual st f (PySem.W.fnOf x qual (pR st) (jw st) (ag st) .none kV doc pm an cdv ct):=⟨⟨oc,od,kV,doc,pm,an,cdv,ct,osl,rfl,l,c⟩,k⟩
end
section
variable {X:Cx}
theorem pv (i:Nat) {x:Str} {pos:Pos} (hN:X.N[i]?=some x:=by rfl) (hv:NO X.env.scope x:=by first | exact Or.inl rfl | exact Or.inr (Or.inl rfl) | exact Or.inr (Or.inr rfl)) (hd:(x==("__debug__":Str))=false:=by decide)
  (hcd:(x==("__classdict__":Str))=false:=by decide):PE X (.Name x pos) (Ox i):=LS hN hv hd hcd
end
theorem jx {A B:Prop} (h:A):if true=true then A else B:=by
 rw [if_pos rfl]
 exact h
theorem aX {c A B:Prop} [Decidable c] (h1:c→A) (h2:¬c→B):if c then A else B:=by
 by_cases h:c
 ·rw [if_pos h]
  exact h1 h
 ·rw [if_neg h]
  exact h2 h
def aC (H H':Hp):Prop:=∀b o,H b=some o→H' b=some o
theorem aC.trans {H H1 H2:Hp} (a:aC H H1) (b:aC H1 H2):aC H H2:=fun c o h=>b c o (a c o h)
theorem aC.free {H H':Hp} (e:aC H H') {l:Addr} (h:H' l=Option.none):H l=Option.none:=by
 cases q:H l with
 | none=>rfl
 | some o=>
  rw [e l o q] at h
  cases h
theorem aC.seq {K:PySem.W.Frag} {H H':Hp} {a:Addr} {xs:List V} (e:aC H H') (h:a4 K H a xs):a4 K H' a xs:=by
 rcases h with(h | ⟨o,h⟩) | h
 ·exact .inl (.inl (e _ _ h))
 ·exact .inl (.inr ⟨o,e _ _ h⟩)
 ·exact .inr h
section
variable {κ:Type} [DecidableEq κ]
end
theorem ve {xs:List V} {z:Int} {j:Nat} {v:V} (e:z=(j:Int)) (h:xs[j]?=some v):KM xs z=some v:=by
 rw [e]
 exact MB h
theorem O3 {α:Type} {l:List α} (hN:l.Nodup) {i j:Nat} {x:α} (a:l[i]?=some x) (b:l[j]?=some x):i=j:=by
 obtain⟨h1,e1⟩:=cb.mp a
 obtain⟨h2,e2⟩:=cb.mp b
 exact(List.getElem_inj hN).mp (e1.trans e2.symm)
theorem aC.made {H H1:Hp} {x dx C:Addr} (nx:H x=Option.none) (nd:H dx=Option.none) (k:∀b o,(bR (bR H dx (.own x)) x (.ins C dx [])) b=some o→b≠x→H1 b=some o):aC H H1:=fun b o e=>
 k b o (by rw [ak (aw e nx),ak (aw e nd)];exact e) (aw e nx)
end L2
end
section
section
namespace L2
open PySem PySem.Spec PyProof.Rows
open PySem.W (WData Codec OpenSpec Well WellAll ReadsW ReadsAllW)
mutual
inductive Dw (K:PySem.W.Frag) (H:Hp):V→WData→Prop
 | non:Dw K H .non .none
 | bl (b:Bool):Dw K H (.bl b) (.bool b)
 | int (i:Int):Dw K H (.int i) (.int i)
 | str (x:Str):Dw K H (.str x) (.str x)
 | byt (b:Array UInt8):Dw K H (.byt b) (.bytes b.toList)
 | lst {a:Addr} {xs:List V} {ds:List WData}:a4 K H a xs→sI K H xs ds→Dw K H (.ref a) (.list ds)
 | tup {a:Addr} {xs:List V} {ds:List WData}:Hr K H a xs→sI K H xs ds→Dw K H (.ref a) (.tuple ds)
inductive sI (K:PySem.W.Frag) (H:Hp):List V→List WData→Prop
 | nil:sI K H [] []
 | cons {v:V} {vs:List V} {d:WData} {ds:List WData}:Dw K H v d→sI K H vs ds→sI K H (v::vs) (d::ds)
end
theorem IP {K:PySem.W.Frag} {H:Hp}:∀ns:List Int,sI K H (ns.map V.int) (ns.map WData.int)
 | []=> .nil
 | n::r=> .cons (.int n) (IP r)
theorem IT {K:PySem.W.Frag} {H:Hp}:∀(ns:List Int) (xs:List V),sI K H xs (ns.map WData.int)→xs=ns.map V.int
 | [],xs,h=>by
  cases h
  rfl
 | n::r,xs,h=>by
  cases h with
  | cons h1 h2=>
   cases h1
   rw [IT r _ h2]<;>rfl
section
variable {P:Program} {w:World} {K:PySem.W.Frag} {H:Hp} {h:Heap} {R:PySem.W.WRecords} {cl:Str→Option Addr}
theorem Oq {a:Addr} {xs:List V} (hok:vG P w H h) (KX:K.In h) (q:a4 K H a xs):∃(its:List Value) (o:Obj) (n:Nat),bM xs its∧h.get? a=some o∧o.cls= .type "list"∧o.data= .seq its.toArray n:=by
 rcases q with q | ⟨o,its,n,e,hc,_,hd,_,hv⟩
 ·obtain⟨_,its,n,hv,e⟩:=(show iB P w H h a (.lst xs) from q.ok hok)
  exact⟨its,_,n,hv,e,rfl,rfl⟩
 ·exact⟨its.toList,o,n,hv,KX _ _ e,hc,by simp [hd]⟩
theorem Os {a:Addr} {xs:List V} (hok:vG P w H h) (KX:K.In h) (q:Hr K H a xs):∃(its:List Value) (o:Obj) (n:Nat),bM xs its∧h.get? a=some o∧o.cls= .type "tuple"∧o.data= .seq its.toArray n:=by
 rcases q with q | ⟨o,its,n,e,hc,hd,_,hv⟩
 ·obtain⟨_,its,hv,o,e,hc,n,hd⟩:=(show iB P w H h a (.tup xs) from q.ok hok)
  exact⟨its,o,n,hv,e,hc,hd⟩
 ·exact⟨its.toList,o,n,hv,KX _ _ e,hc,by simp [hd]⟩
mutual
theorem Dw.reads (hok:vG P w H h) (KX:K.In h):∀(d:WData) (v:V) (u:Value),Dw K H v d→cX v u→∃as,ReadsW R cl h u d as
 | .none,_,_,x,r=>by
  cases x
  cases r
  exact⟨_,ReadsW.none⟩
 | .bool b,_,_,x,r=>by
  cases x
  cases r
  exact⟨_,ReadsW.bool b⟩
 | .int i,_,_,x,r=>by
  cases x
  obtain⟨t,rfl⟩:=r
  exact⟨_,ReadsW.int i t⟩
 | .str s,_,_,x,r=>by
  cases x
  obtain⟨t,rfl⟩:=r
  exact⟨_,ReadsW.str s t⟩
 | .bytes b,_,_,x,r=>by
  cases x
  obtain⟨t,rfl⟩:=r
  exact⟨_,ReadsW.bytes _ t⟩
 | .list ds,_,_,x,r=>by
  cases x with
  | lst hs ha=>
   cases r
   obtain⟨its,o,n,rv,ho,hc,hd⟩:=Oq hok KX hs
   obtain⟨as,hr⟩:=Dw.readsAll hok KX ds _ its ha rv
   exact⟨_,ReadsW.list ho hc hd hr⟩
 | .tuple ds,_,_,x,r=>by
  cases x with
  | tup hs ha=>
   cases r
   obtain⟨its,o,n,rv,ho,hc,hd⟩:=Os hok KX hs
   obtain⟨as,hr⟩:=Dw.readsAll hok KX ds _ its ha rv
   exact⟨_,ReadsW.tuple ho hc hd hr⟩
 | .float _,_,_,x,_=>by cases x
 | .dict _,_,_,x,_=>by cases x
 | .bytearray _,_,_,x,_=>by cases x
 | .set _,_,_,x,_=>by cases x
 | .frozenset _,_,_,x,_=>by cases x
 | .obj _ _,_,_,x,_=>by cases x
theorem Dw.readsAll (hok:vG P w H h) (KX:K.In h):∀(ds:List WData) (vs:List V) (us:List Value),sI K H vs ds→bM vs us→∃as,ReadsAllW R cl h us ds as
 | [],_,_,x,r=>by
  cases x
  cases r
  exact⟨_,ReadsAllW.nil⟩
 | d::ds,_,_,x,r=>by
  cases x with
  | cons h1 h2=>
   cases r with
   | cons r1 r2=>
    obtain⟨as,q1⟩:=Dw.reads hok KX d _ _ h1 r1
    obtain⟨bs,q2⟩:=Dw.readsAll hok KX ds _ _ h2 r2
    exact⟨_,ReadsAllW.cons q1 q2⟩
end
end
mutual
def Jj:WData→Bool
 | .none=>true
 | .bool _=>true
 | .int _=>true
 | .str _=>true
 | .bytes _=>true
 | .list xs=>Az xs
 | .tuple xs=>Az xs
 | _=>false
def Az:List WData→Bool
 | []=>true
 | x::r=>Jj x && Az r
end
theorem Gg {α:Type} {f:α→WData} (h:∀a,Jj (f a)=true):∀l:List α,Az (l.map f)=true
 | []=>rfl
 | x::r=>by
  show(Jj (f x) && Az (r.map f))=true
  rw [h x,Gg h r]<;>rfl
theorem tD:∀(c:Codec) (a:c.denote),Jj (c.enc a)=true
 | .unit,_=>rfl
 | .bool,_=>rfl
 | .int _ _,_=>rfl
 | .nat _ _,_=>rfl
 | .u8,_=>rfl
 | .bytes _ _,_=>rfl
 | .text _ _ _ _,_=>rfl
 | .list _ _ c,a=>Gg (fun x=>tD c x) a
 | .pair c d,a=>by
  show(Jj (c.enc a.1) && (Jj (d.enc a.2) && true))=true
  rw [tD c a.1,tD d a.2]<;>rfl
 | .triple c d e,a=>by
  show(Jj (c.enc a.1) && (Jj (d.enc a.2.1) && (Jj (e.enc a.2.2) && true)))=true
  rw [tD c a.1,tD d a.2.1,tD e a.2.2]<;>rfl
 | .option c,none=>rfl
 | .option c,some x=>tD c x
theorem DU:∀(cs:List Codec) (a:Codec.denoteAll cs),Az (Codec.encAll cs a)=true
 | [],_=>rfl
 | c::cs,a=>by
  show(Jj (c.enc a.1) && Az (Codec.encAll cs a.2))=true
  rw [tD c a.1,DU cs a.2]<;>rfl
theorem wx:∀{xs:List WData} {d:WData},d∈xs→d.weight≤WData.weightAll xs
 | [],d,h=>absurd h (by simp)
 | x::r,d,h=>by
  show d.weight≤x.weight+1+WData.weightAll r
  rcases cF.mp h with e | m
  ·rw [e]
   omega
  ·have z:=wx m
   omega
def G2:Value→V
 | .none=> .non
 | .bool b=> .bl b
 | .int i _=> .int i
 | .str x _=> .str x
 | .bytes b _=> .byt b
 | .ref a=> .ref a
 | _=> .non
def JE (A:List Addr):Value→Prop
 | .none=>True
 | .bool _=>True
 | .int _ _=>True
 | .str _ _=>True
 | .bytes _ _=>True
 | .ref a=>a∈A
 | _=>False
theorem JE.mono {A B:List Addr} (h:∀a∈A,a∈B):∀{u:Value},JE A u→JE B u:=fun {u} x=>by
 cases u with
 | ref a=>exact h a x
 | none=>fA
 | bool b=>fA
 | int i t=>fA
 | str s t=>fA
 | bytes b t=>fA
 | _=>exact False.elim x
theorem L0 {A:List Addr} {u:Value} (x:JE A u):cX (G2 u) u:=by
 cases u with
 | ref a=>rfl
 | none=>rfl
 | bool b=>rfl
 | int i t=>exact⟨t,rfl⟩
 | str s t=>exact⟨t,rfl⟩
 | bytes b t=>exact⟨t,rfl⟩
 | _=>exact False.elim x
theorem pD {A:List Addr}:∀{vs:List Value},(∀u∈vs,JE A u)→bM (vs.map G2) vs
 | [],_=> .nil
 | u::r,h=> .cons (L0 (h u (fB ..))) (pD fun x hx=>h x (dU _ hx))
def sH (h:Heap) (A:List Addr) (a:Addr):Prop:=∃vs:List Value,vs.length≤sizeLine∧(∀u∈vs,JE A u)∧
 (h.get? a=some {cls:= .type "list",data:= .seq vs.toArray}∨h.get? a=some {cls:= .type "tuple",data:= .seq vs.toArray})
theorem sH.mono {h:Heap} {A B:List Addr} {a:Addr} (k:∀a∈A,a∈B) (x:sH h A a):sH h B a:=by
 obtain⟨vs,h1,h2,h3⟩:=x
 exact⟨vs,h1,fun u hu=>(h2 u hu).mono k,h3⟩
theorem nS {P:Params} {h:Heap}:∀{vs:List Value} {ds:List WData},WellAll P h vs ds→vs.length=ds.length
 | _,_,.nil=>rfl
 | _,_,.cons _ b=>by
  show _+1=_+1
  rw [nS b]
theorem Eh {P:Params} {h:Heap} {v:Value} {ds:List WData} (x:Well P h v (.list ds)):∃(a:Addr) (vs:List Value),v= .ref a∧h.get? a=some {cls:= .type "list",data:= .seq vs.toArray}∧WellAll P h vs ds:=by
 cases x with
 | list ho hall=>exact⟨_,_,rfl,ho,hall⟩
theorem CB {P:Params} {h:Heap} {v:Value} {ds:List WData} (x:Well P h v (.tuple ds)):∃(a:Addr) (vs:List Value),v= .ref a∧h.get? a=some {cls:= .type "tuple",data:= .seq vs.toArray}∧WellAll P h vs ds:=by
 cases x with
 | tuple ho hall=>exact⟨_,_,rfl,ho,hall⟩
theorem Eg {P:Params} {h:Heap} {us:List Value} {d:WData} {ds:List WData} (x:WellAll P h us (d::ds)):∃(v:Value) (vs:List Value),us=v::vs∧Well P h v d∧WellAll P h vs ds:=by
 cases x with
 | cons a b=>exact⟨_,_,rfl,a,b⟩
theorem IY {n:Nat} (h:n≤1048576):n≤sizeLine:=fQ h (by decide)
section
variable {P:Params} {h:Heap}
mutual
theorem K0:∀(d:WData) (v:Value),Well P h v d→Jj d=true→d.weight≤1048576→∃A:List Addr,JE A v∧∀a∈A,sH h A a
 | .none,_,x,_,_=>by
  cases x
  exact⟨[],fA,fun a m=>absurd m (by simp)⟩
 | .bool b,_,x,_,_=>by
  cases x
  exact⟨[],fA,fun a m=>absurd m (by simp)⟩
 | .int i,_,x,_,_=>by
  cases x
  exact⟨[],fA,fun a m=>absurd m (by simp)⟩
 | .str s,_,x,_,_=>by
  cases x
  exact⟨[],fA,fun a m=>absurd m (by simp)⟩
 | .bytes b,_,x,_,_=>by
  cases x
  exact⟨[],fA,fun a m=>absurd m (by simp)⟩
 | .list ds,_,x,p,z=>by
  obtain⟨a,vs,rfl,ho,hall⟩:=Eh x
  have z2:WData.weightAll ds≤1048576:=z
  obtain⟨A,h1,h2⟩:=wT ds _ hall p fun d hd=>fQ (wx hd) z2
  have k:∀b∈A,b∈a::A:=fun b hb=>dU _ hb
  refine⟨a::A,fB ..,fun b hb=> ?_⟩
  rcases cF.mp hb with e | m
  ·rw [e]
   exact⟨vs,IY (by rw [nS hall];exact fQ (PySem.W.length_le_weightAllW ds) z2),fun u hu=>(h1 u hu).mono k,.inl ho⟩
  ·exact(h2 b m).mono k
 | .tuple ds,_,x,p,z=>by
  obtain⟨a,vs,rfl,ho,hall⟩:=CB x
  have z2:WData.weightAll ds≤1048576:=z
  obtain⟨A,h1,h2⟩:=wT ds _ hall p fun d hd=>fQ (wx hd) z2
  have k:∀b∈A,b∈a::A:=fun b hb=>dU _ hb
  refine⟨a::A,fB ..,fun b hb=> ?_⟩
  rcases cF.mp hb with e | m
  ·rw [e]
   exact⟨vs,IY (by rw [nS hall];exact fQ (PySem.W.length_le_weightAllW ds) z2),fun u hu=>(h1 u hu).mono k,.inr ho⟩
  ·exact(h2 b m).mono k
 | .float _,_,_,p,_=>Bool.noConfusion (show false=true from p)
 | .dict _,_,_,p,_=>Bool.noConfusion (show false=true from p)
 | .bytearray _,_,_,p,_=>Bool.noConfusion (show false=true from p)
 | .set _,_,_,p,_=>Bool.noConfusion (show false=true from p)
 | .frozenset _,_,_,p,_=>Bool.noConfusion (show false=true from p)
 | .obj _ _,_,_,p,_=>Bool.noConfusion (show false=true from p)
theorem wT:∀(ds:List WData) (vs:List Value),WellAll P h vs ds→Az ds=true→(∀d∈ds,d.weight≤1048576)→∃A:List Addr,(∀u∈vs,JE A u)∧∀a∈A,sH h A a
 | [],_,x,_,_=>by
  cases x
  exact⟨[],fun u m=>absurd m (by simp),fun a m=>absurd m (by simp)⟩
 | d::ds,_,x,p,z=>by
  obtain⟨v,vs,rfl,x1,x2⟩:=Eg x
  have q:Jj d=true∧Az ds=true:=IB.mp p
  obtain⟨A,a1,a2⟩:=K0 d v x1 q.1 (z d (fB ..))
  obtain⟨B,b1,b2⟩:=wT ds vs x2 q.2 fun e he=>z e (dU _ he)
  have kA:∀b∈A,b∈A++B:=fun b hb=>jO.mpr (.inl hb)
  have kB:∀b∈B,b∈A++B:=fun b hb=>jO.mpr (.inr hb)
  refine⟨A++B,fun u hu=> ?_,fun b hb=> ?_⟩
  ·rcases cF.mp hu with e | m
   ·rw [e]
    exact a1.mono kA
   ·exact(b1 u m).mono kB
  ·rcases jO.mp hb with m | m
   ·exact(a2 b m).mono kA
   ·exact(b2 b m).mono kB
end
end
def MK (o:Obj):Option HO:=match o.data with
 | .seq vs _=>if (o.cls==Value.type "list")=true then some (.frz o (.lst (vs.toList.map G2))) else some (.frz o (.tup (vs.toList.map G2)))
 | _=>none
def ly (K:PySem.W.Frag) (h:Heap) (A:List Addr):Hp:=fun b=>if b∈A then(if (K.lookup b).isNone=true then(h.get? b).bind MK else none) else none
def Fw (H:Hp):Prop:=∀b,H b=none∨∃o u,H b=some (.frz o u)
theorem FL (vs:List Value):MK {cls:= .type "list",data:= .seq vs.toArray}=some (.frz {cls:= .type "list",data:= .seq vs.toArray} (.lst (vs.map G2))):=by
 show(if (Value.type "list"==Value.type "list")=true then some (HO.frz {cls:= .type "list",data:= .seq vs.toArray} (.lst (vs.toArray.toList.map G2))) else some (HO.frz {cls:= .type "list",data:= .seq vs.toArray} (.tup (vs.toArray.toList.map G2))))=_
 rw [if_pos (beq_self_eq_true _)]
theorem FM (vs:List Value):MK {cls:= .type "tuple",data:= .seq vs.toArray}=some (.frz {cls:= .type "tuple",data:= .seq vs.toArray} (.tup (vs.map G2))):=by
 show(if (Value.type "tuple"==Value.type "list")=true then some (HO.frz {cls:= .type "tuple",data:= .seq vs.toArray} (.lst (vs.toArray.toList.map G2))) else some (HO.frz {cls:= .type "tuple",data:= .seq vs.toArray} (.tup (vs.toArray.toList.map G2))))=_
 rw [if_neg (by decide)]
section
variable {P:Program} {w:World} {K:PySem.W.Frag} {h:Heap} {A:List Addr}
theorem AX {b:Addr} {o:Obj} (hb:b∈A) (hk:K.lookup b=none) (e:h.get? b=some o):ly K h A b=MK o:=by
 unfold ly
 rw [if_pos hb,hk,if_pos (show(none:Option Obj).isNone=true from rfl),e]<;>rfl
theorem MV {b:Addr} {u:HO} (q:ly K h A b=some u):b∈A∧K.lookup b=none:=by
 unfold ly at q
 by_cases hb:b∈A
 ·rw [if_pos hb] at q
  cases hk:K.lookup b with
  | none=>exact⟨hb,rfl⟩
  | some o=>
   rw [hk,if_neg (by simp)] at q
   cases q
 ·rw [if_neg hb] at q
  cases q
theorem wU (ar:∀a∈A,sH h A a) {b:Addr} {u:HO} (q:ly K h A b=some u):K.lookup b=none∧∃vs:List Value,vs.length≤sizeLine∧(∀u∈vs,JE A u)∧
  ((h.get? b=some {cls:= .type "list",data:= .seq vs.toArray}∧u= .frz {cls:= .type "list",data:= .seq vs.toArray} (.lst (vs.map G2)))∨
   (h.get? b=some {cls:= .type "tuple",data:= .seq vs.toArray}∧u= .frz {cls:= .type "tuple",data:= .seq vs.toArray} (.tup (vs.map G2)))):=by
 obtain⟨hb,hk⟩:=MV q
 obtain⟨vs,h1,h2,h3⟩:=ar b hb
 refine⟨hk,vs,h1,h2,?_⟩
 rcases h3 with e | e
 ·rw [AX hb hk e,FL] at q
  exact .inl ⟨e,(bE q).symm⟩
 ·rw [AX hb hk e,FM] at q
  exact .inr ⟨e,(bE q).symm⟩
theorem JF (ar:∀a∈A,sH h A a):Fw (ly K h A):=fun b=>by
 cases q:ly K h A b with
 | none=>exact .inl rfl
 | some u=>
  obtain⟨_,vs,_,_,⟨_,e⟩ | ⟨_,e⟩⟩:=wU ar q
  ·exact .inr ⟨_,_,by rw [e]⟩
  ·exact .inr ⟨_,_,by rw [e]⟩
theorem A8 {c c':Value} {vs us:List Value} (e:(some {cls:=c,data:= .seq vs.toArray}:Option Obj)=some {cls:=c',data:= .seq us.toArray}):c=c'∧vs=us:=by
 have e1:=bE e
 have e2:c=c':=cx Obj.cls e1
 have e3:Data.seq vs.toArray=Data.seq us.toArray:=cx Obj.data e1
 injection e3 with e4
 refine⟨e2,?_⟩
 have e5:=cx Array.toList e4
 simpa using e5
theorem PM (KX:K.In h) (ar:∀a∈A,sH h A a) {a:Addr} {vs:List Value} (ha:a∈A) (e:h.get? a=some {cls:= .type "list",data:= .seq vs.toArray}):(∀u∈vs,JE A u)∧a4 K (ly K h A) a (vs.map G2):=by
 obtain⟨us,h1,h2,h3⟩:=ar a ha
 have hu:us=vs:=by
  rcases h3 with q | q
  ·rw [e] at q
   exact(A8 q).2.symm
  ·rw [e] at q
   exact absurd (Value.type.inj (A8 q).1) (by decide)
 subst hu
 refine⟨h2,?_⟩
 cases hk:K.lookup a with
 | none=>exact .inl (.inr ⟨_,by rw [AX ha hk e,FL]⟩)
 | some o=>
  have e2:=KX a o hk
  rw [e] at e2
  obtain rfl:=bE e2
  exact .inr ⟨_,us.toArray,_,hk,rfl,rfl,rfl,by rw [fP];exact h1,by simpa using pD h2⟩
theorem PN (KX:K.In h) (ar:∀a∈A,sH h A a) {a:Addr} {vs:List Value} (ha:a∈A) (e:h.get? a=some {cls:= .type "tuple",data:= .seq vs.toArray}):(∀u∈vs,JE A u)∧Hr K (ly K h A) a (vs.map G2):=by
 obtain⟨us,h1,h2,h3⟩:=ar a ha
 have hu:us=vs:=by
  rcases h3 with q | q
  ·rw [e] at q
   exact absurd (Value.type.inj (A8 q).1) (by decide)
  ·rw [e] at q
   exact(A8 q).2.symm
 subst hu
 refine⟨h2,?_⟩
 cases hk:K.lookup a with
 | none=>exact .inl (.inr ⟨_,by rw [AX ha hk e,FM]⟩)
 | some o=>
  have e2:=KX a o hk
  rw [e] at e2
  obtain rfl:=bE e2
  exact .inr ⟨_,us.toArray,_,hk,rfl,rfl,by rw [fP];exact h1,by simpa using pD h2⟩
mutual
theorem NW {Pm:Params} (KX:K.In h) (ar:∀a∈A,sH h A a):∀(d:WData) (v:Value),Well Pm h v d→Jj d=true→JE A v→Dw K (ly K h A) (G2 v) d
 | .none,_,x,_,_=>by
  cases x
  exact .non
 | .bool b,_,x,_,_=>by
  cases x
  exact .bl b
 | .int i,_,x,_,_=>by
  cases x
  exact .int i
 | .str s,_,x,_,_=>by
  cases x
  exact .str s
 | .bytes b,_,x,_,_=>by
  cases x
  have z:=Dw.byt (K:=K) (H:=ly K h A) b.toArray
  exact z
 | .list ds,_,x,p,hu=>by
  obtain⟨a,vs,rfl,ho,hall⟩:=Eh x
  obtain⟨h2,hs⟩:=PM KX ar hu ho
  exact .lst hs (Et KX ar ds _ hall p h2)
 | .tuple ds,_,x,p,hu=>by
  obtain⟨a,vs,rfl,ho,hall⟩:=CB x
  obtain⟨h2,hs⟩:=PN KX ar hu ho
  exact .tup hs (Et KX ar ds _ hall p h2)
 | .float _,_,_,p,_=>Bool.noConfusion (show false=true from p)
 | .dict _,_,_,p,_=>Bool.noConfusion (show false=true from p)
 | .bytearray _,_,_,p,_=>Bool.noConfusion (show false=true from p)
 | .set _,_,_,p,_=>Bool.noConfusion (show false=true from p)
 | .frozenset _,_,_,p,_=>Bool.noConfusion (show false=true from p)
 | .obj _ _,_,_,p,_=>Bool.noConfusion (show false=true from p)
theorem Et {Pm:Params} (KX:K.In h) (ar:∀a∈A,sH h A a):∀(ds:List WData) (vs:List Value),WellAll Pm h vs ds→Az ds=true→(∀u∈vs,JE A u)→sI K (ly K h A) (vs.map G2) ds
 | [],_,x,_,_=>by
  cases x
  exact .nil
 | d::ds,_,x,p,hu=>by
  obtain⟨v,vs,rfl,x1,x2⟩:=Eg x
  have q:Jj d=true∧Az ds=true:=IB.mp p
  exact .cons (NW KX ar d v x1 q.1 (hu _ (fB ..))) (Et KX ar ds vs x2 q.2 fun u m=>hu u (dU _ m))
end
end
theorem Bt {ds:List WData} (h:WData.layableAll ds=true):∀d∈ds,d.weight≤1048576:=fun d hd=>
 (PySem.W.layableW_iff.mp (Ai.mp h d hd)).2.2
theorem Bn:∀(cs:List Codec) (a:Codec.denoteAll cs),(Codec.encAll cs a).length=cs.length
 | [],_=>rfl
 | c::cs,a=>by
  show(Codec.encAll cs a.2).length+1=cs.length+1
  rw [Bn cs a.2]
end L2
end
section
section
namespace L2
open PySem PySem.Spec PyProof.Rows
section
variable {X:Cx}
theorem aJ:Bf X (binaryOp .Mult) (rI IntMulOk fun i j=> .int (i*j)):=P3 fun _ _ _ _ _ _ _ hc q=>mul_int q hc
def No (_ j:Int):Prop:=0<j∧j.natAbs.log2<9000
theorem cA:Bf X (binaryOp .FloorDiv) (rI No fun i j=> .int (i /j)):=P3 fun i j _ _ _ _ _ hc q=>by
 have e:i /j=i.fdiv j:=(Int.fdiv_eq_ediv_of_nonneg i (fF hc.1)).symm
 rw [e] at q
 exact floordiv_int (Int.ne_of_gt hc.1) q (.inl (PyProof.noPylong_of_log2 hc.2))
theorem lh {e:Expr} {t:TT} (h:PW X e t):PT X e t:=fun pins s σ H Q I q=>h _ pins s σ H Q I q
def Pn (ta:TA):TE:=fun σ H Q=>ta σ H fun vs H1=>∃j:Int,vs= [.int j]∧-(2 ^ 62)≤j∧j<2 ^ 62∧∀p,H1 p=none→Q (.ref p) (bR H1 p (.rng 0 j))
theorem yH {a:Expr} {ta:TA} {p pos:Pos} (hg:Gl X "range") (hm:X.mg "range"=none) (ha:PA X [a] ta) (hs:starEach [a] X.env= [(false,eval a X.env)]:=by rfl):PE X (.Call (.Name "range" p) [a] [] pos) (Pn ta):=by
 intro pins s σ H Q I h
 refine Call_ (vM I hg hm boot_range (CF (eO (ha pos pins s σ H _ I h) fun us s1 ⟨vs,H1,I1,r1,q1⟩=> ?_) hs rfl))
 obtain⟨j,e,q1,q2,q⟩:=q1
 subst e
 cases r1 with
 | cons r rr=>
  cases rr
  obtain⟨t,rfl⟩:=r
  refine call_range_1 ?_
  exact bT (.ref s1.heap.objs.size) _ (I1.laid (fun b o e=>i5 _ e) (bp _) (show iB X.prog X.w _ _ _ (.rng 0 j) from⟨_,(ot _ _ (vb _ rfl))⟩)) rfl (q _ (I1.hok.fresh (bp _)))
theorem uh:∀{xs:List V} {us:List Value},xs.length=us.length→(∀(i:Nat) (x:V) (u:Value),xs[i]?=some x→us[i]?=some u→cX x u)→bM xs us
 | [],[],_,_=> .nil
 | [],_::_,h,_=>by simp at h
 | _::_,[],h,_=>by simp at h
 | x::xs,u::us,h,r=> .cons (r 0 x u rfl rfl) (uh (by simpa using h) fun i y z a b=>r (i+1) y z (by simpa using a) (by simpa using b))
def xx (n:Nat):List V:=(List.range n).map fun i=>V.int (i:Nat)
theorem vf (hc:X.calm=true):rD X (.type "list") (fun xs H Q=>∃(p:Addr) (j:Int),xs= [.ref p]∧H p=some (.rng 0 j)∧j≤1000000∧-1000000≤j∧∀l,H l=none→Q (.ref l) (bR H l (.lst (xx j.toNat)))):=by
 intro pins s σ H xs us Q I r h
 obtain⟨p,j,rfl,hp,h1,h2,q⟩:=h
 obtain⟨u,rfl,rx⟩:=Jv r
 cases rx
 obtain⟨t,u,v,e⟩:∃t u v,s.heap.get? p=some {cls:= .type "range",data:= .fields #[.int 0 t,.int j u,.int 1 v]}:=I.hok p _ hp
 refine call_list_range (n:=j.toNat) (I.ok.hd hc) e (small_one (by omega) (by omega) (by omega) (by omega)) (by rw [rangeSize_one];split<;>omega) (by omega) fun h' tk acc' c' kp e' hi=> ?_
 refine bT (.ref s.heap.objs.size) _ (I.laid (t':=tk) kp (bp _) (show iB X.prog X.w _ h' _ (.lst (xx j.toNat)) from⟨?_,(cI acc'.toList c' ?_ (by simpa using e'))⟩)) rfl (q _ (I.hok.fresh (bp _)))
 ·unfold xx
  rw [aD,fm]
  show j.toNat≤2 ^ 24
  omega
 ·obtain⟨hsz,hit⟩:=hi
  refine uh (by unfold xx;rw [aD,fm,G6,hsz]) fun i x u hx hu=> ?_
  unfold xx at hx
  rw [dn] at hx
  rw [Array.getElem?_toList] at hu
  obtain⟨tk,rfl⟩:=hit i u hu
  have hi:i<j.toNat:=by
   have:=(Array.getElem?_eq_some_iff.mp hu).1
   omega
  rw [Hf hi] at hx
  cases hx
  refine⟨tk,?_⟩
  rw [Int.mul_one,kj]
def Ou (i:Nat) (Fs:Addr→Sp→Prop) (t:TA):TE:=fun σ H Q=>∃f sp,σ[i]?=some (some (.ref f))∧Fs f sp∧t σ H fun vs H1=>sp vs H1 Q E0
theorem oT {i:Nat} {x:Str} {p pos:Pos} {e:Expr} {es:List Expr} {t:TA} (Fs:Addr→Sp→Prop) (hN:X.N[i]?=some x) (hv:NO X.env.scope x) (hF:∀f sp,Fs f sp→∃k fd ps,jV X.prog X.w X.K X.mg X.base AV k f fd ps sp∧eR k X.A∧PySem.W.keepIn X.K (.ref f)=true∧i8 X.K fd ps [])
  (ha:PA X (e::es) t) (hd:(x==("__debug__":Str))=false:=by decide) (hcd:(x==("__classdict__":Str))=false:=by decide) (he:starEach (e::es) X.env=(false,eval e X.env)::starEach es X.env:=by rfl) (hpl:(backTo pos (starEach es X.env)).any (·.1)=false:=by rfl):
  PE X (.Call (.Name x p) (e::es) [] pos) (Ou i Fs t):=by
 intro pins s σ H Q I h
 obtain⟨f,sp,es1,hf,h⟩:=h
 obtain⟨k,fd,ps,F,hr,hk,hb⟩:=hF f sp hf
 refine wF (eO (LS (i:=i) hN hv hd hcd pins s σ H (fun v H1=>v= .ref f∧H1=H) I (cZ _ es1 rfl rfl)) fun u s0 ⟨v,H0,I0,rv,ev,eH⟩=> ?_)
 subst ev eH
 obtain rfl:u=Value.ref f:=rv
 refine PySem.W.callWith_K (h₀:=X.base) I.ok.mod.kin hk (eO (ha pos pins s0 σ _ _ I0 h) fun us s1 ⟨vs,H1,I1,r,q⟩=>⟨I1.kIn,?_⟩) he hpl
 exact ET (dvs:= []) (ds:= []) F hr hb .nil zQ I1 r (by rw [vE];exact q)
def Qg (t u:TE):TE:=fun σ H Q=>t σ H Q∨u σ H Q
theorem vY {e:Expr} {t u:TE} (h1:PE X e t) (h2:PE X e u):PE X e (Qg t u):=fun pins s σ H Q I h=>h.elim (h1 pins s σ H Q I) (h2 pins s σ H Q I)
theorem xr {K':PySem.W.Frag} {e:Expr} {ta:TE} {f:Str} {pos:Pos} (he:PE X e ta) (hb:attributeBase e f X.env (eval e X.env)=eval e X.env) (hK:X.K=K'):PE X (.Attribute e f pos) (Pe K' ta f):=by
 subst hK
 exact ao he hb
theorem w9 {K':PySem.W.Frag} (hK:X.K=K'):PD X (On K'):=by
 subst hK
 exact IV
theorem L5 {K':PySem.W.Frag} (hK:X.K=K'):PJ X (O7 K'):=by
 subst hK
 exact Ba
theorem A7 {K':PySem.W.Frag} {es:List Expr} {k:Nat} {t:Nt} {n:Nat} {pos:Pos} (hc:X.calm=true) (h:OI X es t) (hn:(assignEach es X.env).length=n) (hst:(assignEach es X.env).findIdx? (·.1)=none) (hK:X.K=K'):PG X (.Tuple es k pos) (OM K' n t):=by
 subst hK
 exact EQ hc h hn hst
def O5 (K:PySem.W.Frag):V→V→Hp→VK→Prop:=fun o i H Q=>∃p xs k j v,o= .ref p∧i= .int k∧a4 K H p xs∧k=((j:Nat):Int)∧xs[j]?=some v∧Q v H
theorem Li:OH X (O5 X.K):=by
 intro pins s σ H o i ov iv Q I ro ri h
 obtain⟨p,xs,k,j,v,rfl,rfl,hq,ek,hv,q⟩:=h
 cases ro
 obtain⟨t,rfl⟩:=ri
 subst ek
 obtain⟨its,r,pl,hz⟩:=I.list hq
 obtain⟨w,ew,rw'⟩:=r.get hv
 have hj:=(cb.mp hv).1
 have hn:=Bu
 exact PyProof.Rows.getItem_listL pl.isList (by omega) (by omega) (by rw [cT];exact ew) (bT v H I rw' q)
structure GD (P:Program) (w:World) (K:PySem.W.Frag) (a:Addr) (kvs:List (Int×V)):Prop where
 ne:(a==sysModules)=false
 at_:∀h:Heap,K.In h→∃vs,KV (kvs.map fun p=>((Sum.inl p.1:yk),p.2)) vs∧h.DictOf (lR P w) a vs
def Ds (kvs:List (Int×V)) (k:Int):Option V:=(kvs.find? fun kv=>decide (kv.1=k)).map (·.2)
theorem Fj (k:Int):∀kvs:List (Int×V),G4 (kvs.map fun p=>((Sum.inl p.1:yk),p.2)) (Sum.inl k)=Ds kvs k
 | []=>rfl
 | p::r=>by
  have ih:=Fj k r
  unfold G4 Ds at ih⊢
  rw [eY,CL,CL]
  by_cases e:p.1=k
  ·have e':(Sum.inl p.1:yk)=Sum.inl k:=by rw [e]
   simp only [e,decide_true]
   rfl
  ·have e':¬(Sum.inl p.1:yk)=Sum.inl k:=fun q=>e (Sum.inl.inj q)
   simp only [bq e,bq e']
   exact ih
def Pg (P:Program) (w:World) (K:PySem.W.Frag) (td ty:TE):TE:=fun σ H Q=>td σ H fun x H1=>ty σ H1 fun y H2=>∃a kvs k v,x= .ref a∧GD P w K a kvs∧y= .int k∧Ds kvs k=some v∧Q v H2
theorem lT {o i:Expr} {pos:Pos} {td ty:TE} (ho:PE X o td) (hi:PE X i ty) (hs:OG i:=by exact fun _ _=>rfl):PE X (.Subscript o i pos) (Pg X.prog X.w X.K td ty):=by
 intro pins s σ H Q I h
 refine Ni PySem.F.slot_dict_getitem.lookup hs (eO (ho pins s σ H _ I h) fun u s1 ⟨x,H1,I1,rx,q1⟩=>eO (hi pins s1 σ H1 _ I1 q1) fun iv s2 ⟨y,H2,I2,ry,a,kvs,k,v,ex,g,ey,l,q2⟩=> ?_)
 subst ex ey
 obtain rfl:u=Value.ref a:=rx
 obtain⟨vs,rel,dd⟩:=g.at_ _ I2.kIn
 have ry':cX (kV (Sum.inl k)) iv:=ry
 obtain⟨w',hw,rw'⟩:=vH.some_of (v:=v) (o:=valueAt vs (Sum.inl k)) (by have z:=rel.val (Sum.inl k);rw [Fj,l] at z;exact z)
 refine⟨?_,wpAny_getItem_of (Nw ry') dd.mapOf hw (bT v H2 (I2.tok _) rw' q2)⟩
 obtain⟨ob,es,ep,e,c,_⟩:=dd
 exact⟨ob,e,c.1⟩
def Ow (P:Program) (w:World) (K:PySem.W.Frag) (ty td:TE):TE:=fun σ H Q=>ty σ H fun y H1=>td σ H1 fun x H2=>∃a kvs k,x= .ref a∧GD P w K a kvs∧y= .int k∧Q (.bl (Ds kvs k).isSome) H2
theorem LM {o i:Expr} {td ty:TE} (hi:PE X i ty) (ho:PE X o td):PC X .In i o (Ow X.prog X.w X.K ty td):=by
 intro pins s σ H Q I h
 refine eO (hi pins s σ H _ I h) fun iv s1 ⟨y,H1,I1,ry,q1⟩=>eO (ho pins s1 σ H1 _ I1 q1) fun u s2 ⟨x,H2,I2,rx,a,kvs,k,ex,g,ey,q2⟩=> ?_
 subst ex ey
 obtain rfl:u=Value.ref a:=rx
 obtain⟨vs,rel,dd⟩:=g.at_ _ I2.kIn
 have ry':cX (kV (Sum.inl k)) iv:=ry
 refine wpAny_in_of (Nw ry') g.ne dd.mapOf ?_
 have z:=(rel.val (Sum.inl k)).isSome_eq
 rw [Fj] at z
 rw [←z]
 exact bT (.bl (Ds kvs k).isSome) H2 (I2.tok _) rfl q2
theorem HV {o i:Expr} {pos:Pos} {td ty:TE} (hi:PE X i ty) (ho:PE X o td) (hm:behindInMarks .In o=false:=by rfl):PE X (.Compare i [.In] [o] pos) (Ow X.prog X.w X.K ty td):=Oe (LM hi ho) hm
theorem LU {o i:Expr} {pos:Pos} {td ty:TE} (hi:PE X i ty) (ho:PE X o td) (hm:behindInMarks .In o=false:=by rfl):PT X (.Compare i [.In] [o] pos) (tB (Ow X.prog X.w X.K ty td)):=Oj (LM hi ho) hm
end
theorem N9 {K:PySem.W.Frag} {a b:Addr} {xs ys:List V} {g:TG} {tt:TT} {te:TE} {vs:List Nat} {σ:St} {H1:Hp} {D:Addr} {Qd:Hp→Prop} (Pv:Nat→Hp→Prop) (h0:Pv 0 (bR H1 D (.lst []))) (he:xs.length=ys.length) (hl:∀i H,i≤xs.length→Pv i H→a4 K H a xs∧a4 K H b ys)
  (hs:∀i x y H T,xs[i]?=some x→ys[i]?=some y→Pv i H→H T=none→g (.ref T) (iV σ vs) (bR H T (.tup [x,y])) fun σ2 H2=>iV σ2 vs=iV σ vs∧tt σ2 H2 fun b H3=>
   if b=true then te σ2 H3 fun y H4=>∃acc,H4 D=some (.lst acc)∧acc.length<sizeLine∧Pv (i+1) (bR H4 D (.lst (acc++ [y]))) else Pv (i+1) H3) (hd:∀H,Pv xs.length H→Qd H):
  ∃W:Nat→Nat→Hp→Prop,(∃m,W 0 m (bR H1 D (.lst [])))∧∀i m H,W i m H→
   ((OF K a b).stop i H∧Qd H)∨((OF K a b).go i H∧∃Nx:Hp→Prop,(∀H',Nx H'→∃m',m'<m∧W (i+1) m' H')∧∀x H',(OF K a b).yld i H x H'→g x (iV σ vs) H' fun σ2 H2=>iV σ2 vs=iV σ vs∧tt σ2 H2 fun b H3=>
     if b=true then te σ2 H3 fun y H4=>∃acc,H4 D=some (.lst acc)∧acc.length<sizeLine∧Nx (bR H4 D (.lst (acc++ [y]))) else Nx H3):=by
 refine⟨fun i m H=>m=xs.length - i∧i≤xs.length∧Pv i H,(cZ xs.length (by simp) (bn _) h0),?_⟩
 rintro i m H ⟨rfl,hi,p⟩
 obtain⟨qa,qb⟩:=hl i H hi p
 by_cases hlt:i<xs.length
 ·have hlt2:i<ys.length:=by omega
  refine .inr (dm ⟨xs,(bW ys (xs[i]) (ys[i]) qa qb (by simp [hlt]) (by simp [hlt2]))⟩ (Pv (i+1)) (fun H' p'=>⟨xs.length - (i+1),(bZ (by omega) rfl hlt p')⟩) fun v H' hy=> ?_)
  obtain⟨T,x,y,rfl,hT,rfl,h1,h2⟩:=hy
  exact hs i x y H T (h1 xs qa) (h2 ys qb) p hT
 ·have e:i=xs.length:=by omega
  subst e
  exact .inl ⟨(bT xs ys qa qb (.inl (bp _))),hd H p⟩
end L2
end
end
section
namespace L2
open PySem PySem.Spec PySem.Calls PyProof.Rows
section
variable {P:Program} {w:World} {A:Around} {E:Value→Shared→Prop} {s:Shared} {H:Hp} {K:PySem.W.Frag}
theorem Lp {Q:Value→Shared→Prop} {f c' cc a r C dx:Addr} {name qual x y g:Str} {pm ctv:Value} {cl:List (Str×Addr)} {p1 p2 p3 p4 p5:Pos} {xs:List V} {i:Nat} {t0:Tok} {k:Int} {fs:List (Str×V)} {scope:Scope}
  (KX:K.In s.heap) (hok:vG P w H s.heap) (lim:s.heap.NoLimit) (hroom:A.depth<recursionLimit)
  (ho:s.heap.get? f=some (PySem.W.kla_obj name qual {posonlyargs:= [],args:= [{arg:=y,annotation:=none,pos:=p1}],vararg:=none,kwonlyargs:= [],kw_defaults:= [],kwarg:=none,defaults:= []} (.Attribute (.Subscript (.Name x p2) (.Name y p3) p4) g p5) scope cl pm c' ctv))
  (hb:bindArgs (PySem.W.kla_fn name qual {posonlyargs:= [],args:= [{arg:=y,annotation:=none,pos:=p1}],vararg:=none,kwonlyargs:= [],kw_defaults:= [],kwarg:=none,defaults:= []} (.Attribute (.Subscript (.Name x p2) (.Name y p3) p4) g p5) scope cl pm (.ref c') ctv) ⟨[.int i t0],[]⟩=pure [(y,.int i t0)])
  (hs1:scope.isCoroutine=false) (hs2:scope.isGenerator=false) (hs3:scope.kind= .function) (hs4:∀q∈scope.names,q.2≠ .cell) (hs5:scope.names.lookup y=some .local) (hs6:scope.names.lookup x=some .free)
  (hx1:(x==("__debug__":Str))=false) (hx2:(x==("__classdict__":Str))=false) (hy1:(y==("__debug__":Str))=false)
  (hcd:s.heap.CodeRec (.ref c') qual) (hcl:cl.lookup x=some cc) (hcell:s.heap.IsCell cc (some (.ref a)))
  (ha:H a=some (.lst xs)) (hi:xs[i]?=some (.ref r)) (hr:H r=some (.ins C dx fs)) (c:Ho K C) (n:kl K C g) (l:fs.lookup g=some (.int k))
  (h:∀h' tk t,(∀b o,s.heap.get? b=some o→h'.get? b=some o)→Q (.int k t) {s with heap:=h',toks:=tk}):
  wpAny (model P w) A (call (.ref f) [.int i t0]) Q E s:=by
 refine wpAny_call (PySem.W.kla_callFunE hroom ho rfl hs1 hs2 rfl hcd ?_)
 rw [hb]
 refine dP (wpAny_newFunctionEnv hs4 (fun q hq=> ?_) (fun h₁ hns hsb=>⟨lim.fresh _ hsb,?_⟩) hs3)
 ·rw [gN.mp hq];exact hs5
 have hk₁:∀b o,s.heap.get? b=some o→h₁.get? b=some o:=fun b o e=>hsb.extBut b o (fi (fj e)) (i5 _ e)
 show codeAny _ _ (.expr _ (PySem.W.envX qual scope s.heap.objs.size f (.ref c') cl)) _ _
 refine PySem.W.kla_codeExpr ?_
 have hok1:vG P w H h₁:=hok.kept hk₁
 have KX1:K.In h₁:=KX.keeps hk₁
 obtain⟨hlen,its,nn,rv,hit⟩:=hok1 a _ ha
 obtain⟨u,hu,ru⟩:=rv.get hi
 obtain rfl:u=Value.ref r:=ru
 refine II rfl (Subscript_ ?_)
 refine wpAny_Name (wpAny_loadName_free hs3 hs6 hcl (hcell.keeps hk₁) ?_ hx2) hx1
 refine wpAny_Name (wpAny_loadName_local hs3 hs5 hns (show List.lookup y [(y,Value.int (i:Int) t0)]=_ from by rw [List.lookup_cons_self]) ?_) hy1
 have pl:h₁.IsList a its.toArray:=(bH _ hit (kK rfl nn rfl))
 refine item_listR (x:= .ref r) pl (by omega) (by have q1:=(cb.mp hi).1;have q2:=Bu;omega) (by simpa using hu) ?_ rfl
 obtain⟨mA,O,rr,_,_,_⟩:=A0 hok1 hr
 obtain⟨u2,hu2,ru2⟩:=vH.some_of (v:= .int k) (o:=mA g) (by rw [←l];exact rr g)
 obtain⟨t2,rfl⟩:=ru2
 exact IQ KX1 O (c.get g) c.hd n hu2 (DN (v:= .int k) ⟨t2,rfl⟩) (h _ _ _ hk₁)
theorem C6 {r:Addr} {a b c:Int} {t u v:Tok} {n:Nat} {Q:List Value→Shared→Prop} (hh:A.handled=none) (hr:IsRange s.heap r a b c t u v) (hsmall:Builtin.Range.small a b c=true)
  (hn:Builtin.Range.rangeSize a b c=n) (hlen:n≤2 ^ 24)
  (h:∀h' tk acc',(∀b o,s.heap.get? b=some o→h'.get? b=some o)→s.heap.objs.size≤h'.objs.size→ItemsOf (fun i v=>∃t,v= .int (a+i*c) t) acc' n→Q acc'.toList {s with heap:=h',toks:=tk}):
  wpAny (model P w) A (collect (.ref r)) Q E s:=by
 have key:∀R:Result→Shared→Prop,(∀h' tk acc' c',(∀b o,s.heap.get? b=some o→h'.get? b=some o)→h'.get? s.heap.objs.size=some {cls:= .type "list",dict:=none,data:= .seq acc' c',slots:=#[]}→ItemsOf (fun i v=>∃t,v= .int (a+i*c) t) acc' n→R (.ok (.ret (.ref s.heap.objs.size))) {s with heap:=h',toks:=tk})→
   codeAny (model P w) A (.builtin "proto.collect" ⟨[.ref r],[]⟩) R s:=fun R hR=>by
  refine codeAny_builtin PySem.F.entry_proto_collect ?_
  rw [Around.under_plainId PySem.F.plain_proto_collect _]
  show wpAny _ A.in1 (newList []>>=fun l=>again (.builtin "list.__iadd__" ⟨[l,.ref r],[]⟩)) _ _ s
  refine bI (wpAny_newObj_type ?_)
  refine dP ⟨plainId_quiet PySem.F.plain_list_iadd _,codeAny_builtin PySem.F.entry_list_iadd ?_⟩
  rw [Around.under_plainId PySem.F.plain_list_iadd _]
  show wpAny _ A.in1 (Builtin.List.listExtendWith (.ref s.heap.objs.size) (.ref r) (.ref s.heap.objs.size)) _ _ _
  have e1:(s.heap.push {cls:= .type "list",data:= .seq ([]:List Value).toArray}).get? s.heap.objs.size=some {cls:= .type "list",data:= .seq #[] 0}:=vb _ rfl
  have e2:IsRange (s.heap.push {cls:= .type "list",data:= .seq ([]:List Value).toArray}) r a b c t u v:=i5 _ hr
  refine wpAny_extend_range (R:=R) (A:=A) (s:={s with heap:=s.heap.push {cls:= .type "list",data:= .seq ([]:List Value).toArray}}) hh e2 hsmall hn hlen s.heap.objs.size _ 0 e1 fun h' tk acc' c' hk hS' hacc=> ?_
  exact hR h' tk acc' c' (fun b o e=>hk b o (fi (fj e)) (i5 _ e)) hS' hacc
 unfold collect
 refine bI (wpAny_runValue (key _ fun h' tk acc' c' hk hS' hacc=> ?_))
 show wpAny _ A (load s.heap.objs.size>>=_) _ _ _
 refine bI (wpAny_load hS' ?_)
 exact dP (h h' tk acc' hk (Nat.le_of_lt (fj hS')) hacc)
theorem AG {h₀:Heap} {L:Addr} {m:Str→Option Value} {news:List (Addr×Obj)} {r:Addr} {hi:Int} {t u v:Tok} {n:Nat} {kz:List Int} {f:Value} {kw:List (Str×Value)} {Q:Value→Shared→Prop} (F:Fr h₀ L s.heap m) (N:News h₀ L s.heap news)
  (hh:A.handled=none) (hr:IsRange s.heap r 0 hi 1 t u v) (hsmall:Builtin.Range.small 0 hi 1=true) (hn:Builtin.Range.rangeSize 0 hi 1=n) (hlen:n≤2 ^ 24) (hkz:kz.length=n)
  (ha1:argsOk "sorted" ⟨[.ref r],kw⟩) (ha2:∀x,argsOk "list.sort" ⟨[.ref x],kw⟩) (ht:∀x,Builtin.«list.sort» ⟨[.ref x],kw⟩=ksk_tree x f false)
  (turn:∀(i:Nat) (t:Tok) (k:Int),kz[i]?=some k→∀(h:Heap) (tk:Nat) (own:List (Addr×Obj)),Fr h₀ L h m→News h₀ L h (news++own)→
   wpAny (model P w) A.in1.in1 (call f [.int i t]) (KskEnd h₀ L m (news++own) k {s with heap:=h,toks:=tk}) (fun _ _=>False) {s with heap:=h,toks:=tk})
  (h:∀D h' tk out c,Fr h₀ L h' m→News h₀ L h' ((D,seqObj "list" out c)::news)→s.heap.objs.size≤D→(∃vs:List Value,vs.length=n∧(∀(i:Nat) v,vs[i]?=some v→∃t,v= .int (i:Int) t)∧KskOut false kz vs out.toList)→Q (.ref D) {s with heap:=h',toks:=tk}):
  wpAny (model P w) A (call (.builtin "sorted") [.ref r] kw) Q E s:=by
 refine call_function_entry_kw kind_sorted plain_sorted entry_sorted ha1 ?_
 unfold Builtin.«sorted»
 refine bI (m:=checkCount "sorted" 1 1 _) (dP ?_)
 refine bI (C6 (A:=A.in1) hh hr hsmall hn hlen fun h1 tk1 acc hk hsz hacc=> ?_)
 have hl:acc.toList.length=n:=by rw [G6];exact hacc.1
 have hZ:acc.toList.length≤sizeLine:=by rw [hl,sizeLine_eq];omega
 have hZ2:=hZ
 rw [sizeLine_eq] at hZ2
 refine bI (wpAny_newList ?_ (by rw [sizeLine_eq];omega))
 have hoL:(h1.push (seqObj "list" acc.toList.toArray 0)).get? h1.objs.size=some (seqObj "list" acc.toList.toArray 0):=vb _ rfl
 have keep:∀b o,s.heap.get? b=some o→(h1.push (seqObj "list" acc.toList.toArray 0)).get? b=some o:=fun b o q=>i5 _ (hk b o q)
 have F1:=F.kept hk
 have hL:L<h1.objs.size:=F1.ns.lt
 refine bI (wpAny_holding (wpAny_call_entry_kw slot_list_sort ⟨_,hoL,rfl⟩ entry_list_sort ?body (ha2 _)))
 case body=>
  show wpAny (model P w) A.in1.in1 (Builtin.«list.sort» ⟨[.ref h1.objs.size],kw⟩) _ _ _
  rw [ht h1.objs.size]
  refine ksk_sortAny (kz:=kz) (vs:=acc.toList) (s:={s with heap:=h1.push (seqObj "list" acc.toList.toArray 0),toks:=tk1})
   (F.kept keep) (N.grown keep) hoL (Nat.ne_of_gt hL) (Heap.get?_none_of_le (fQ F.above (Nat.le_of_lt hL)))
   (fun p hp=>fi (gO (fj (N p hp).1) hsz)) (by rw [hl];exact hkz) hZ (fun i v k hv hkk h' tk own F' N'=> ?_) fun h' tk out c F' N' k'=>⟨_,rfl,?_⟩
  ·obtain⟨t,e⟩:=hacc.2 i v (by simpa using hv)
   have e':v= .int (i:Int) t:=by rw [e];congr 1;omega
   rw [e']
   exact turn i t k hkk h' tk own F' N'
  ·refine dP ⟨_,rfl,h _ h' tk out c F' N' hsz (cZ acc.toList hl (fun i v hv=> ?_) k')⟩
   obtain⟨t,e⟩:=hacc.2 i v (by simpa using hv)
   exact⟨t,by rw [e];congr 1;omega⟩
end
end L2
end
section
namespace L2
open PySem PySem.Spec PySem.Calls PyProof.Rows
section
variable {X:Cx} {pins:List (Addr×Obj)} {σ:St} {H:Hp} {s:Shared}
def Pw (q:Str) (ln cl:Int) (Pl:Addr) (H:Hp):Prop:=H Pl=some (.tbl #[])∨∃c':Addr,H Pl=some (.tbl #[rawInt ln,rawInt cl,.ref c'])∧H c'=some (.ext fun h=>h.CodeRec (.ref c') q)
def C3 (K:PySem.W.Frag) (mg:Str→Option Value) (Pl:Addr) (H:Hp):Prop:=(∀h:Heap,K.In h→h.BuiltinsAt mg Pl)∨∃bm:Addr,mg "__builtins__"=some (.ref bm)∧bm≠builtinsNs∧bm≠mainGlobals∧bm≠Pl∧∃o:Obj,o.cls= .type "module"∧o.dict=some builtinsNs∧o.data= .plain∧H bm=some (.frz o (.ext fun _=>True))
theorem C3.get {K:PySem.W.Frag} {mg:Str→Option Value} {Pl:Addr} {H:Hp} {P:Program} {w:World} {h:Heap} (x:C3 K mg Pl H) (k:K.In h) (ok:vG P w H h):h.BuiltinsAt mg Pl:=by
 rcases x with x | ⟨bm,e1,e2,e3,e4,o,f2,f3,f4,e5⟩
 ·exact x h k
 ·obtain⟨f1,_⟩:=ok bm _ e5
  exact cI bm o e1 (bZ e2 e3 e4 (bZ f1 f2 f3 f4))
theorem C3.keep {K:PySem.W.Frag} {mg:Str→Option Value} {Pl:Addr} {H H':Hp} (x:C3 K mg Pl H) (k:∀b o u,H b=some (.frz o u)→H' b=some (.frz o u)):C3 K mg Pl H':=by
 rcases x with x | ⟨bm,e1,e2,e3,e4,o,f2,f3,f4,e5⟩
 ·exact .inl x
 ·exact .inr ⟨bm,(bZ e1 e2 e3 (kK e4 o (bZ f2 f3 f4 (k _ _ _ e5))))⟩
theorem mj {q:Str} {c':Addr} {h1 h2:Heap} (x:h1.CodeRec (.ref c') q) (k:∀o,h1.get? c'=some o→h2.get? c'=some o):h2.CodeRec (.ref c') q:=by
 obtain⟨c,o,vs,t,e,ho,hd,hv⟩:=x
 cases e
 exact⟨c',(bW o vs t rfl (k o ho) hd hv)⟩
theorem N8 {E:Value→Shared→Prop} {c Pl:Addr} {q:Str} {params:Arguments} {body:Expr} {scope:Scope} {pos:Pos} {clos:List (Str×Addr)} {Q:Value→Shared→Prop} (I:bd X pins σ H s)
  (hcode:X.env.code= .ref c) (hC:∀h,X.K.In h→PySem.W.CodeHd h c Pl) (hbm:s.heap.BuiltinsAt X.mg Pl) (hq:X.env.qual++"<lambda>"=q) (hdef:defaultsOf params X.env=([],[])) (hcl:closureFor scope X.env=pure clos)
  (tb:Pw q pos.line pos.col Pl H)
  (h:∀(f c':Addr) (ctv:Value) (H':Hp) (s':Shared),bd X pins σ H' s'→s'.heap.get? f=some (PySem.W.kla_obj "<lambda>" q params body scope clos ((X.mg "__name__").getD .none) c' ctv)→s'.heap.CodeRec (.ref c') q→
   (∀b o,H b=some o→b≠Pl→H' b=some o)→Pw q pos.line pos.col Pl H'→(∀b o,s.heap.get? b=some o→b≠Pl→s'.heap.get? b=some o)→Q (.ref f) s'):
  wpAny (model X.prog X.w) X.A (eval (.Lambda params body scope pos) X.env) Q E s:=by
 subst hq
 refine PySem.W.kla_eval hdef ?_
 have hg:s.heap.Ns mainGlobals X.mg:=I.mod.glob.keeps I.bk
 rcases tb with tb | ⟨c',tb,tc⟩
 ·have hP:s.heap.get? Pl=some (PySem.W.tabObj #[]):=I.hok Pl _ tb
  have hgP:mainGlobals≠Pl:=fun z=>by
   obtain⟨o,es,ep,ho,_⟩:=I.mod.glob
   have:=(I.bs _ _ ho).2
   rw [z,tb] at this
   cases this
  refine PySem.W.kla_makeFunction (mg:=X.mg) hcl I.ok.glob hg hcode (hC _ I.kIn) hP fA rfl hgP hbm fun c' ctv h' tk hx hge hlt hrec htb=> ?_
  have nc:H c'=none:=I.hok.fresh hge
  have hPc:Pl≠c':=fun z=>by rw [z,nc] at tb;cases tb
  have hx2:∀b o,b≠Pl→s.heap.get? b=some o→(h'.push (PySem.W.kla_obj "<lambda>" (X.env.qual++"<lambda>") params body scope clos ((X.mg "__name__").getD .none) c' ctv)).get? b=some o:=fun b o hb e=>i5 _ (hx b o hb e)
  have e1:(#[]:Array Value)++#[rawInt pos.line,rawInt pos.col,.ref c']=#[rawInt pos.line,rawInt pos.col,.ref c']:=rfl
  rw [e1] at htb
  have eP:bR (bR H Pl (.tbl #[rawInt pos.line,rawInt pos.col,.ref c'])) c' (.ext fun h=>h.CodeRec (.ref c') (X.env.qual++"<lambda>")) Pl=some (.tbl #[rawInt pos.line,rawInt pos.col,.ref c']):=by rw [ak hPc,af]
  have old:∀b o,H b=some o→b≠Pl→bR (bR H Pl (.tbl #[rawInt pos.line,rawInt pos.col,.ref c'])) c' (.ext fun h=>h.CodeRec (.ref c') (X.env.qual++"<lambda>")) b=some o:=fun b o e hb=>by
   rw [ak (aw e nc),ak hb];exact e
  have nP:∀b o,H b=some o→o≠ .tbl #[]→b≠Pl:=fun b o e hn z=>by rw [z,tb] at e;exact hn (bE e).symm
  have nN:∀b,H b=none→b≠Pl:=fun b n z=>by rw [z,tb] at n;cases n
  refine h h'.objs.size c' ctv _ _ (I.un (h':=h'.push (PySem.W.kla_obj "<lambda>" (X.env.qual++"<lambda>") params body scope clos ((X.mg "__name__").getD .none) c' ctv)) (t':=tk) ⟨fun b o e n _ _=>hx2 b o (nN b n) e,fun b o e n _ _=>⟨o.slots,hx2 b o (nN b n) e⟩,fun b o e n _=> ?_,fun b o e _=> ?_,fun b xs e=>old _ _ e (nP _ _ e (by intro z;cases z)),fun b o u e=>old _ _ e (nP _ _ e (by intro z;cases z)),fun b ps e=> ?_⟩ (fun b u e=> ?_))
   (vb _ rfl) (mj hrec fun o e=>i5 _ e) old (.inr ⟨c',eP,af⟩) fun b o e hb=>hx2 b o hb e
  ·rw [ak (fi (gO (fj e) hge)),ak (nN b n)];exact n
  ·by_cases hb:b=Pl
   ·subst hb;exact⟨_,i5 _ htb⟩
   ·exact⟨o,hx2 b o hb e⟩
  ·by_cases hb:b=Pl
   ·subst hb
    rw [tb] at e
    cases e
    exact⟨#[rawInt pos.line,rawInt pos.col,.ref c'],eP⟩
   ·exact⟨#[],by rw [old _ _ e hb];simp⟩
  ·by_cases hb:b=c'
   ·subst hb
    rw [af] at e
    cases e
    exact⟨mj hrec fun o e=>i5 _ e,let ⟨_,o,_,_,e0,ho,_⟩:=hrec;⟨o,by cases e0;exact i5 _ ho⟩,fun h1 h2 a k=>mj a k⟩
   ·rw [ak hb] at e
    by_cases hb2:b=Pl
    ·subst hb2
     rw [af] at e
     cases e
     exact i5 _ htb
    ·rw [ak hb2] at e
     refine(I.hok b u e).stay (fun d v hd r=>hx2 d v ?_ r) (fun d r=>old _ _ r (nP _ _ r (by intro z;cases z))) fun d xs r=>old _ _ r (nP _ _ r (by intro z;cases z))
     rcases hd with rfl | hd
     ·exact hb2
     ·exact nP _ _ hd (by intro z;cases z)
 ·have hP:s.heap.get? Pl=some (PySem.W.tabObj #[rawInt pos.line,rawInt pos.col,.ref c']):=I.hok Pl _ tb
  have hrec:s.heap.CodeRec (.ref c') (X.env.qual++"<lambda>"):=(I.hok c' _ tc).1
  have hf:codeAmong pos (#[rawInt pos.line,rawInt pos.col,.ref c']:Array Value).toList=some (.ref c'):=by
   show(if ((pos.line:Int)==pos.line && (pos.col:Int)==pos.col)=true then some (Value.ref c') else _)=_
   rw [if_pos (by simp)]
  refine PySem.W.kla_makeFunctionHit (mg:=X.mg) hcl I.ok.glob hg hcode (hC _ I.kIn) hP fA hf hbm fun ctv h' tk hk hsz=> ?_
  exact h h'.objs.size c' ctv H _ (I.kept (h':=h'.push _) (t':=tk) fun b u e=>i5 _ (hk b u e)) (vb _ rfl) (mj hrec fun o e=>i5 _ (hk _ _ e)) (fun b o e _=>e) (.inr ⟨c',tb,tc⟩) fun b o e _=>i5 _ (hk b o e)
end
end L2
end
section
namespace L2
open PySem PySem.Spec PySem.Calls PyProof.Rows
section
variable {X:Cx} {pins:List (Addr×Obj)} {σ:St} {H:Hp} {s:Shared}
def Eo (h:Heap) (L:Addr):List (Addr×Obj):=(List.range h.objs.size).filterMap fun a=>if a=L then none else(h.get? a).map fun o=>(a,o)
theorem qd {h:Heap} {L a:Addr} {o:Obj}:(a,o)∈Eo h L↔h.get? a=some o∧a≠L:=by
 unfold Eo
 rw [List.mem_filterMap]
 constructor
 ·rintro⟨b,hb,e⟩
  by_cases q:b=L
  ·rw [if_pos q] at e;cases e
  ·rw [if_neg q] at e
   obtain⟨o',e1,e2⟩:=mP.mp e
   cases e2
   exact⟨e1,q⟩
 ·rintro⟨e,q⟩
  exact⟨a,List.mem_range.mpr (fj e),by rw [if_neg q,e];rfl⟩
theorem DO (a:Addr):({}:Heap).get? a=none:=Heap.get?_none_of_le (bn _)
theorem QJ {h:Heap} {L:Addr} {m:Str→Option Value} (hn:h.Ns L m):Fr {} L h m:=⟨hn,fun b o e=>(nomatch (DO b).symm.trans e),bn _⟩
theorem O4 (h:Heap) (L:Addr):News {} L h (Eo h L):=fun⟨a,o⟩ hp=>⟨(qd.mp hp).1,(qd.mp hp).2,DO _⟩
theorem Je {h:Heap} {a:Addr} {m m':Str→Option Value} (x:h.Ns a m) (y:h.Ns a m'):m=m':=by
 obtain⟨o,es,ep,e1,e2,_,e3⟩:=x
 obtain⟨o',es',ep',f1,f2,_,f3⟩:=y
 rw [e1] at f1
 cases f1
 rw [e2] at f2
 cases f2
 funext n
 rw [←e3,f3]
theorem bd.moved {h':Heap} {tk:Nat} {m:Str→Option Value} (I:bd X pins σ H s) (hn:s.heap.Ns X.env.locals m) (hn':h'.Ns X.env.locals m) (k:∀b o,b≠X.env.locals→s.heap.get? b=some o→h'.get? b=some o):
  bd X pins σ H {s with heap:=h',toks:=tk}:=by
 have nL:∀b u,H b=some u→b≠X.env.locals:=fun b u e z=>by rw [z,I.free] at e;cases e
 refine I.step (g':=s.gens) (d':=s.drawn) (ch:= []) (fun _ z=>nomatch z) (fun b o hb _ _ e _=>k b o hb e) (fun b o hb _ _ e _=>⟨o.slots,k b o hb e⟩) (fun _ _ _ _ n=>n) (fun b o _ e=> ?_) (fun _ _ e=>e) (fun _ _ _ e=>e) (fun b ps e=>⟨#[],by rw [e];simp⟩) (fun m' hm=>by rw [Je hm hn];exact hn') (fun b u e=> ?_) I.bare
 ·by_cases hb:b=X.env.locals
  ·subst hb
   obtain⟨o',_,_,ho',_⟩:=hn'
   exact⟨o',ho'⟩
  ·exact⟨o,k b o hb e⟩
 ·refine(I.hok b u e).stay (fun c v hc q=>k c v ?_ q) (fun _ q=>q) fun _ _ q=>q
  rcases hc with z | z
  ·rw [z];exact nL b u e
  ·exact nL c _ z
theorem bd.movedLaid {h':Heap} {tk:Nat} {m:Str→Option Value} {D:Addr} {o:HO} (I:bd X pins σ H s) (hn:s.heap.Ns X.env.locals m) (hn':h'.Ns X.env.locals m) (k:∀b o,b≠X.env.locals→s.heap.get? b=some o→h'.get? b=some o)
  (hD:s.heap.objs.size≤D) (new:iB X.prog X.w (bR H D o) h' D o):bd X pins σ (bR H D o) {s with heap:=h',toks:=tk}:=by
 have nD:H D=none:=I.hok.fresh hD
 have nL:∀b u,H b=some u→b≠X.env.locals:=fun b u e z=>by rw [z,I.free] at e;cases e
 have old:∀b u,H b=some u→bR H D o b=some u:=fun b u e=>by rw [ak (aw e nD)];exact e
 refine I.step (g':=s.gens) (d':=s.drawn) (ch:= []) (fun _ z=>nomatch z) (fun b o hb _ _ e _=>k b o hb e) (fun b o hb _ _ e _=>⟨o.slots,k b o hb e⟩) (fun b o _ e n=> ?_) (fun b o _ e=> ?_) (fun _ _ e=>old _ _ e) (fun _ _ _ e=>old _ _ e) (fun b ps e=>⟨#[],by rw [old _ _ e];simp⟩) (fun m' hm=>by rw [Je hm hn];exact hn') (fun b u e=> ?_) I.bare
 ·rw [ak (fi (gO (fj e) hD))];exact n
 ·by_cases hb:b=X.env.locals
  ·subst hb
   obtain⟨o',_,_,ho',_⟩:=hn'
   exact⟨o',ho'⟩
  ·exact⟨o,k b o hb e⟩
 ·by_cases hb:b=D
  ·subst hb
   rw [af] at e
   cases e
   exact new
  ·rw [ak hb] at e
   refine(I.hok b u e).stay (fun c v hc q=>k c v ?_ q) (fun _ q=>old _ _ q) fun _ _ q=>old _ _ q
   rcases hc with z | z
   ·rw [z];exact nL b u e
   ·exact nL c _ z
theorem LK {n:Nat} {kz:List Int} {vs out:List Value} (hk:kz.length=n) (hv:vs.length=n) (hi:∀(i:Nat) v,vs[i]?=some v→∃t,v= .int (i:Int) t) (ko:KskOut false kz vs out):
  ∃js:List Nat,bM (js.map fun j:Nat=>V.int (j:Int)) out∧js.Perm (List.range n)∧js.Pairwise fun i j=>kz.getD i 0≤kz.getD j 0:=by
 obtain⟨ps,hp,ho,hs⟩:=ko
 have key:∀p∈kz.zip vs,∃(i:Nat) (t:Tok),p.2= .int (i:Int) t∧kz.getD i 0=p.1:=fun p hp=>by
  obtain⟨i,hi1⟩:=List.getElem?_of_mem hp
  rw [List.getElem?_zip_eq_some] at hi1
  obtain⟨t,e⟩:=hi i _ hi1.2
  exact cI i t e (by rw [eX,hi1.1];rfl)
 refine cZ (ps.map fun p=>(numOf p.2).toNat) ?_ ?_ ?_
 ·rw [ho]
  refine uh (by simp) fun i x u h1 h2=> ?_
  rw [dn,dn] at h1
  rw [dn] at h2
  obtain⟨p,e1,e2⟩:=mP.mp h2
  rw [e1] at h1
  obtain⟨j,t,e3,_⟩:=key p (hp.mem_iff.mp (eM e1))
  have h1':x=V.int (((numOf p.2).toNat:Nat):Int):=(bE h1).symm
  rw [h1',←e2,e3]
  exact⟨t,rfl⟩
 ·refine(hp.map _).trans (List.Perm.of_eq ?_)
  refine List.ext_getElem? fun i=> ?_
  rw [dn]
  rcases so i n with q | q
  ·have e1:vs[i]?=some vs[i]:=bF (by omega)
   have e2:kz[i]?=some kz[i]:=bF (by omega)
   obtain⟨t,e3⟩:=hi i _ e1
   have e4:(kz.zip vs)[i]?=some (kz[i],vs[i]):=List.getElem?_zip_eq_some.mpr ⟨e2,e1⟩
   rw [e4,Hf q]
   show some (numOf vs[i]).toNat=some i
   rw [e3]
   rfl
  ·rw [ut (by rw [List.length_zip];omega),ut (by rw [fm];exact q)]
   rfl
 ·rw [List.pairwise_map]
  refine hs.imp_of_mem fun {p q} hp' hq' hr=> ?_
  have hr':p.1≤q.1:=hr
  obtain⟨i,t,e1,e2⟩:=key p (hp.mem_iff.mp hp')
  obtain⟨j,u,f1,f2⟩:=key q (hp.mem_iff.mp hq')
  rw [e1,f1]
  show kz.getD i 0≤kz.getD j 0
  rw [e2,f2]
  exact hr'
def Mb (X:Cx) (ta:TA) (i:Nat) (g q:Str) (ln cl:Int):TE:=fun σ H Q=>ta σ H fun vs H1=>∃(rg a Pl c:Addr) (n:Nat) (xs:List V) (kz:List Int),vs= [.ref rg]∧H1 rg=some (.rng 0 n)∧n≤1000000∧σ[i]?=some (some (.ref a))∧H1 a=some (.lst xs)∧kz.length=n∧
 (∀(j:Nat) k,kz[j]?=some k→∃r C dx fs,xs[j]?=some (.ref r)∧H1 r=some (.ins C dx fs)∧Ho X.K C∧kl X.K C g∧fs.lookup g=some (.int k))∧
 X.env.code= .ref c∧(∀h,X.K.In h→PySem.W.CodeHd h c Pl)∧C3 X.K X.mg Pl H1∧Pw q ln cl Pl H1∧
 ∀(H':Hp) (D:Addr) (js:List Nat),(∀b o,H1 b=some o→b≠Pl→H' b=some o)→Pw q ln cl Pl H'→H' D=none→js.Perm (List.range n)→js.Pairwise (fun u v=>kz.getD u 0≤kz.getD v 0)→Q (.ref D) (bR H' D (.lst (js.map fun j:Nat=>V.int (j:Int))))
theorem HW {e:Expr} {ta:TA} {i:Nat} {x y g q:Str} {p pos lp p1 p2 p3 p4 p5 kp:Pos} {scope:Scope} {clos:List (Str×Addr)} {k:Nat} (hr:eR k X.A) (hg:Gl X "sorted") (hm:X.mg "sorted"=none) (ha:PA X [e] ta) (hN:X.N[i]?=some x)
  (hcx:X.env.scope.names.lookup x=some .cell) (hq:X.env.qual++"<lambda>"=q) (hcl:closureFor scope X.env=pure clos) (hlx:clos.lookup x=X.env.cells.lookup x)
  (hb:∀(pm ctv v:Value) (c':Addr),bindArgs (PySem.W.kla_fn "<lambda>" q {posonlyargs:= [],args:= [{arg:=y,annotation:=none,pos:=p1}],vararg:=none,kwonlyargs:= [],kw_defaults:= [],kwarg:=none,defaults:= []} (.Attribute (.Subscript (.Name x p2) (.Name y p3) p4) g p5) scope clos pm (.ref c') ctv) ⟨[v],[]⟩=pure [(y,v)])
  (hs1:scope.isCoroutine=false) (hs2:scope.isGenerator=false) (hs3:scope.kind= .function) (hs4:∀z∈scope.names,z.2≠ .cell) (hs5:scope.names.lookup y=some .local) (hs6:scope.names.lookup x=some .free)
  (hx1:(x==("__debug__":Str))=false) (hx2:(x==("__classdict__":Str))=false) (hy1:(y==("__debug__":Str))=false)
  (he:starEach [e] X.env= [(false,eval e X.env)]:=by rfl):
  PE X (.Call (.Name "sorted" p) [e] [⟨some "key",.Lambda {posonlyargs:= [],args:= [{arg:=y,annotation:=none,pos:=p1}],vararg:=none,kwonlyargs:= [],kw_defaults:= [],kwarg:=none,defaults:= []} (.Attribute (.Subscript (.Name x p2) (.Name y p3) p4) g p5) scope lp,kp⟩] pos) (Mb X ta i g q lp.line lp.col):=by
 intro pins s σ H Q I h
 refine wF (vM I hg hm rfl ?_)
 refine PyProof.Rows.callWith_kw (eO (ha pos pins s σ H _ I h) fun us s1 ⟨vs,H1,I1,rv,q1⟩=> ?_) (by rw [he];rfl) (by rw [he];rfl)
 obtain⟨rg,a,Pl,c,n,xs,kz,rfl,hrg,hn,hσ,hxs,hkz,hks,hcode,hC,hbm,tb,q1⟩:=q1
 cases rv with
 | cons r1 rr=>
 cases rr
 cases r1
 show wpAny _ _ (evalAll ((do let v ←eval _ X.env;standAt pos;pure v):: [])) _ _ s1
 refine wpAny_evalAll_cons (bI (N8 I1 hcode hC (hbm.get I1.kIn I1.hok) hq rfl hcl tb fun f c' ctv H2 s2 I2 hf hrec k2 tb2 hk2=>bI (wpAny_standAt (dP ?_))))
 refine wpAny_evalAll_nil ?_
 show wpAny _ _ (call (.builtin "sorted") [.ref rg] [(Str.ofString "key",.ref f)]) _ _ s2
 obtain⟨m,hns,_⟩:=id I2.loc
 have nP:∀b o,H1 b=some o→(∀ps,o≠ .tbl ps)→b≠Pl:=fun b o e hn z=>by
  rcases tb with tb | ⟨_,tb,_⟩
  ·rw [z,tb] at e;exact hn _ (bE e).symm
  ·rw [z,tb] at e;exact hn _ (bE e).symm
 have kP:∀b o,H1 b=some o→(∀ps,o≠ .tbl ps)→H2 b=some o:=fun b o e hn=>k2 _ _ e (nP b o e hn)
 have oL:∀b o,s2.heap.get? b=some o→(∀es ep,o.data≠ .dict es ep)→b≠X.env.locals:=fun b o e hd z=>by
  obtain⟨o',es,ep,e1,e2,_⟩:=hns
  rw [z,e1] at e
  cases e
  exact hd _ _ e2
 have fL:f≠X.env.locals:=oL _ _ hf (by intro es ep z;cases z)
 have cL:c'≠X.env.locals:=by
  obtain⟨_,o,vs,t,e0,e1,e2,_⟩:=hrec
  cases e0
  exact oL _ _ e1 (by intro es ep z;rw [e2] at z;cases z)
 obtain⟨t1,t2,t3,hrange⟩:=I2.hok rg _ (kP _ _ hrg (by intro ps z;cases z))
 refine AG (P:=X.prog) (w:=X.w) (h₀:={}) (L:=X.env.locals) (m:=m) (news:=Eo s2.heap X.env.locals) (kz:=kz) (n:=n) (hi:=(n:Int)) (f:= .ref f) (QJ hns) (O4 _ _) hr.hd hrange (small_one (by omega) (by omega) (by omega) (by omega)) (by rw [rangeSize_one];split<;>omega) (by omega) hkz (ksk_s1 _ _) (fun z=>ksk_l1 _ _) (fun z=>ksk_t1 f z)
  (fun j t kk hkk h' tk own F' N'=> ?_) fun D h' tk out cc F' N' hD ⟨vs,hv1,hv2,ko⟩=> ?_
 ·have kp:∀b o,b≠X.env.locals→s2.heap.get? b=some o→h'.get? b=some o:=fun b o hb e=>(N' (b,o) (CO _ (qd.mpr ⟨e,hb⟩))).1
  have I':=I2.moved (tk:=tk) hns F'.ns kp
  obtain⟨r,C,dx,fs,hj,hri,hc,hna,hl⟩:=hks j kk hkk
  obtain⟨m',hn',hl'⟩:=id I'.loc
  obtain⟨u,ru,l⟩:=hl' i x (.ref a) hN hσ (Or.inr (Or.inl hcx))
  cases ru
  rcases l with⟨hk,_⟩ | ⟨_,c0,hc0,hcell⟩
  ·rw [show X.env.kindOf x=some .cell from hcx] at hk
   cases hk
  ·exact Lp (P:=X.prog) (w:=X.w) (s:={s2 with heap:=h',toks:=tk}) (H:=H2) I'.kIn I'.hok I'.nolimit (by have:=hr.dp;show X.A.depth<_;omega) (kp _ _ fL hf) (hb _ _ _ _) hs1 hs2 hs3 hs4 hs5 hs6 hx1 hx2 hy1 (mj hrec fun o e=>kp _ _ cL e) (hlx.trans hc0) hcell (kP _ _ hxs (by intro ps z;cases z)) hj (kP _ _ hri (by intro ps z;cases z)) hc hna hl
    fun h2 tk2 t2 k3=>(bW h2 tk2 t2 rfl rfl (F'.kept k3) (N'.grown k3))
 ·have kp:∀b o,b≠X.env.locals→s2.heap.get? b=some o→h'.get? b=some o:=fun b o hb e=>(N' (b,o) (dU _ (qd.mpr ⟨e,hb⟩))).1
  obtain⟨js,v1,v2,v3⟩:=LK hkz hv1 hv2 ko
  have hlen:(js.map fun j:Nat=>V.int (j:Int)).length≤sizeLine:=by rw [aD,v2.length_eq,fm,sizeLine_eq];omega
  exact bT (.ref D) _ (I2.movedLaid (tk:=tk) (o:= .lst (js.map fun j:Nat=>V.int (j:Int))) hns F'.ns kp hD ⟨hlen,(cI out.toList cc v1 (by rw [Array.toArray_toList];exact(N' _ fB).1))⟩) rfl (q1 H2 D js k2 tb2 (I2.hok.fresh hD) v2 v3)
end
section
variable {P:Program} {w:World} {K:PySem.W.Frag} {mg:Str→Option Value} {base:Heap}
theorem NI.okC {x qual:Str} {st:Stmt} {f:Addr} {fd:FuncData} {N ps:List Str} {k:Nat} {sp:Sp} (F:NI K x qual st f fd) (S:ap N ps (ag st)) (len:∀vs H Q E,sp vs H Q E→vs.length=ps.length)
  (hbody:∀(cdv:Value) (A:Around) (outer:List Env) (s:Shared) (H:Hp) (vs:List V) (Q:VK) (E:XK),fd.code=cdv→eR k (A.deeper (envOfC qual (ag st) s.heap.objs.size f cdv))→sp vs H Q E→
   ∃t,Hq (Es AV P w K mg base N qual (ag st) f cdv A outer s H E).nox (jw st) t∧t {nx:=fun _ H'=>Q .non H',rt:=Q} (start N vs) H):jV P w K mg base AV (k+1) f fd ps sp:=by
 obtain⟨oc,od,kV,doc,pm,an,cdv,ct,osl,rfl,lk,hcd⟩:=F.ex
 refine Nu lk hcd S len fun A outer s H vs Q E hr hsp=> ?_
 obtain⟨t,h,q⟩:=hbody cdv A outer s H vs Q E rfl hr hsp
 exact⟨t,h.nox,q⟩
end
end L2
end
section
namespace L2
open PySem PySem.Spec PySem.Calls PyProof.Rows
open PySem.W (WData Codec OpenSpec Well WellAll ReadsW ReadsAllW)
section
variable {A:Hp} {Pl bm b:Addr} {ob:Obj} {u:HO}
def oI (A:Hp) (Pl bm:Addr) (ob:Obj):Hp:=fun b=>if b=bm then some (.frz ob (.ext fun _=>True)) else if b=Pl then some (.tbl #[]) else A b
theorem FK:oI A Pl bm ob bm=some (.frz ob (.ext fun _=>True)):=if_pos rfl
theorem FJ (h:Pl≠bm):oI A Pl bm ob Pl=some (.tbl #[]):=(if_neg h).trans (if_pos rfl)
theorem IR (h1:b≠bm) (h2:b≠Pl):oI A Pl bm ob b=A b:=(if_neg h1).trans (if_neg h2)
theorem ni (h:oI A Pl bm ob b=some u):(b=bm∧u= .frz ob (.ext fun _=>True))∨(b=Pl∧u= .tbl #[])∨(b≠Pl∧A b=some u):=by
 by_cases h1:b=bm
 ·rw [h1,FK] at h
  exact .inl ⟨h1,(bE h).symm⟩
 ·by_cases h2:b=Pl
  ·rw [h2,FJ (h2▸h1)] at h
   exact .inr (.inl ⟨h2,(bE h).symm⟩)
  ·rw [IR h1 h2] at h
   exact .inr (.inr ⟨h2,h⟩)
end
theorem Ij {P:Program} {w:World} {K:PySem.W.Frag} {mg mb:Str→Option Value} {CX:KN} {k:Nat} {fa:Addr} {fd:FuncData} {ps:List Str} {sp:Sp} {s₁:Shared} {vals:List Value} {ds:List WData} {R:PySem.W.WRecords} {cl:Str→Option Addr} {d0:WData} {Pl bm c0:Addr} {ob:Obj}
  (KX:K.In s₁.heap) (hns:s₁.heap.Ns mainGlobals mg) (hb:s₁.heap.Ns builtinsNs mb) (hbb:∀x:Str,x≠"__name__"→mb x=bootBuiltins x) (hlim:s₁.heap.NoLimit) (hg:s₁.gens=#[])
  (hwl:WellAll w.params s₁.heap vals ds) (hpl:Az ds=true) (hwt:∀d∈ds,d.weight≤1048576) (hr:eR k callerA)
  (hcd:PySem.W.CodeHd s₁.heap c0 Pl) (tb:s₁.heap.get? Pl=some (PySem.W.tabObj #[])) (kP:K.lookup Pl=none) (eb:s₁.heap.get? bm=some ob) (db:ob.data= .plain) (kb:K.lookup bm=none)
  (F:∀base:Heap,K.In base→base.Ns mainGlobals mg→jV P w K mg base CX k fa fd ps sp) (hbind:∀(s:Shared) (us:List Value),us.length=ps.length→BindsTo s fd ⟨us,[]⟩ (ps.zip us)) (hlen:ds.length=ps.length)
  (hsp:∀(H0 H:Hp) (xs:List V),(∀b u,H0 b=some u→H b=some u)→Fw H0→H Pl=some (.tbl #[])→H bm=some (.frz ob (.ext fun _=>True))→sI K H0 xs ds→sp xs H (fun v H'=>Dw K H' v d0) fun _ _ _=>False)
  (hCX:∀H e s',CX [] H s₁ (fun _ _ _=>False) e s'→False):
  codeAny (model P w) callerA (.call (.ref fa) ⟨vals,[]⟩) (fun r s'=>∃u as,r= .ok (.ret u)∧ReadsW R cl s'.heap u d0 as∧OldK s₁.heap s'.heap∧s'.os=s₁.os∧AllBare s'.gens) s₁:=by
 obtain⟨A,ho,ar⟩:=wT ds vals hwl hpl hwt
 have hO:Fw (ly K s₁.heap A):=JF ar
 have hS:=Et KX ar ds vals hwl hpl ho
 have hV:=pD ho
 have nPb:Pl≠bm:=fun z=>by
  rw [z,eb] at tb
  rw [bE tb] at db
  cases db
 have sub:∀b u,ly K s₁.heap A b=some u→b≠bm∧b≠Pl:=fun b u q=>by
  obtain⟨_,vs,_,_,⟨e,_⟩ | ⟨e,_⟩⟩:=wU ar q
  ·refine⟨fun z=> ?_,fun z=> ?_⟩
   ·rw [z,eb] at e
    rw [bE e] at db
    cases db
   ·rw [z,tb] at e
    cases e
  ·refine⟨fun z=> ?_,fun z=> ?_⟩
   ·rw [z,eb] at e
    rw [bE e] at db
    cases db
   ·rw [z,tb] at e
    cases e
 have ext:∀b u,ly K s₁.heap A b=some u→oI (ly K s₁.heap A) Pl bm ob b=some u:=fun b u q=>(IR (sub b u q).1 (sub b u q).2).trans q
 have hok:vG P w (oI (ly K s₁.heap A) Pl bm ob) s₁.heap:=fun b u q=>by
  rcases ni q with⟨rfl,rfl⟩ | ⟨rfl,rfl⟩ | ⟨_,q⟩
  ·exact bZ eb fA ⟨ob,eb⟩ fun _ _ _ _=>fA
  ·exact tb
  ·obtain⟨_,vs,h1,h2,⟨e,rfl⟩ | ⟨e,rfl⟩⟩:=wU ar q
   ·exact fe e (by rw [aD];exact h1) (cI vs _ (pD h2) e)
   ·exact fe e (by rw [aD];exact h1) (bB vs (pD h2) _ e (kK rfl _ rfl))
 have hK:∀b u,oI (ly K s₁.heap A) Pl bm ob b=some u→K.lookup b=none:=fun b u q=>by
  rcases ni q with⟨rfl,_⟩ | ⟨rfl,_⟩ | ⟨_,q⟩
  ·exact kb
  ·exact kP
  ·exact(wU ar q).1
 have noA:∀{b:Addr} {o:Obj} {es:Array DictEntry} {ep:Nat},s₁.heap.get? b=some o→o.data= .dict es ep→oI (ly K s₁.heap A) Pl bm ob b=none:=fun {b o es ep} e d=>by
  cases q:oI (ly K s₁.heap A) Pl bm ob b with
  | none=>rfl
  | some u=>
   rcases ni q with⟨rfl,_⟩ | ⟨rfl,_⟩ | ⟨_,q⟩
   ·rw [eb] at e
    cases e
    rw [db] at d
    cases d
   ·rw [tb] at e
    cases e
    cases d
   ·obtain⟨_,vs,_,_,⟨e2,_⟩ | ⟨e2,_⟩⟩:=wU ar q
    ·rw [e2] at e
     cases e
     have d':Data.seq vs.toArray _=Data.dict es ep:=d
     cases d'
    ·rw [e2] at e
     cases e
     have d':Data.seq vs.toArray _=Data.dict es ep:=d
     cases d'
 have hPl:oI (ly K s₁.heap A) Pl bm ob Pl=some (.tbl #[]):=FJ nPb
 have frz:∀b u,oI (ly K s₁.heap A) Pl bm ob b=some u→b≠Pl→∃o u',u= .frz o u':=fun b u q n=>by
  rcases ni q with⟨_,e⟩ | ⟨z,_⟩ | ⟨_,q⟩
  ·exact⟨_,_,e⟩
  ·exact absurd z n
  ·rcases hO b with z | ⟨o,v,z⟩
   ·rw [q] at z
    cases z
   ·rw [q] at z
    exact⟨_,_,bE z⟩
 have hsp':=hsp (ly K s₁.heap A) (oI (ly K s₁.heap A) Pl bm ob) _ ext hO hPl FK hS
 generalize oI (ly K s₁.heap A) Pl bm ob=H at hok hK noA hPl frz hsp'
 have base_of:∀{b:Addr} {o:Obj},s₁.heap.get? b=some o→H b=none→(Ew s₁.heap H).get? b=some o:=fun e n=>Lk e n
 have nsK:∀{b:Addr} {m:Str→Option Value},s₁.heap.Ns b m→(Ew s₁.heap H).Ns b m:=fun {b m} ⟨o,es,ep,e,d,r⟩=>(hJ o es ep (base_of e (noA e d)) d r)
 have nK:∀b o,K.lookup b=some o→H b=none:=fun b o e=>by
  cases q:H b with
  | none=>rfl
  | some u=>
   rw [hK b u q] at e
   cases e
 have hKb:K.In (Ew s₁.heap H):=fun b o e=>base_of (KX b o e) (nK b o e)
 have hM:Mod K mg (Ew s₁.heap H):=⟨hKb,nsK hns,⟨mb,nsK hb,hbb⟩,let ⟨mc,h1,h2⟩:=hlim;⟨mc,nsK h1,h2⟩⟩
 have e0:Hs P w K mg (Ew s₁.heap H) callerA [] s₁ H:=⟨rfl,hM,fun b o e=>MW e,Nat.le_of_eq (JT _ _),fA,fun b hb=>absurd (show b∈([]:List Addr) from hb) (by simp),hok,.of_eq hg⟩
 have hl:vals.length=ps.length:=by rw [nS hwl];exact hlen
 refine codeAny_mono ((F _ hKb (nsK hns)).run callerA [] s₁ H ⟨vals,[]⟩ vals (vals.map G2) _ _ hr e0 (hbind s₁ vals hl) hV hsp') fun r s' x=> ?_
 cases r with
 | error e=>exact(hCX H e s' x).elim
 | ok fl=>
  cases fl with
  | next=>exact False.elim x
  | brk=>exact False.elim x
  | cont=>exact False.elim x
  | ret u=>
   obtain⟨v,H',os,bare,un,hok',r',q⟩:=x
   have kept:∀b o,b≠Pl→s₁.heap.get? b=some o→s'.heap.get? b=some o:=fun b o nb e=>by
    cases q2:H b with
    | none=>exact un.keep b o e q2 (by intro z;exact absurd (show b∈([]:List Addr) from z) (by simp)) (by simp)
    | some u2=>
     obtain⟨ob',u3,rfl⟩:=frz b u2 q2 nb
     have z2:=un.frzs b ob' _ q2
     obtain⟨e1,_⟩:=hok b _ q2
     obtain⟨e2,_⟩:=hok' b _ z2
     rw [e] at e1
     cases e1
     exact e2
   have KX':K.In s'.heap:=fun b o e=>kept b o (fun z=>by rw [z,kP] at e;cases e) (KX b o e)
   obtain⟨as,hrd⟩:=Dw.reads (R:=R) (cl:=cl) hok' KX' d0 v u q r'
   obtain⟨more,hm⟩:=un.tbls Pl _ hPl
   have gm:s'.heap.get? Pl=some {cls:= .none,data:= .fields (#[]++more)}:=hok' Pl _ hm
   refine cI u as rfl (bZ hrd ⟨fun b o e=> ?_,fun b o e=> ?_⟩ os bare)
   ·by_cases z:b=Pl
    ·subst z
     rw [tb] at e
     cases e
     obtain⟨oc,vs,_,_,_,_,_,_,_,c1,c2,c3,c4,_⟩:=hcd
     exact .inr (.inl (fe (bW c0 oc vs c1 c2 c3 c4) rfl (cI (#[]) more rfl gm)))
    ·exact .inl (kept b o z e)
   ·by_cases z:b=Pl
    ·subst z
     exact⟨_,gm⟩
    ·exact⟨o,kept b o z e⟩
theorem OB {r:OpenSpec} {k:Nat} {q:Program} {loose:List Str} {XP:(Str→Option Value)→Heap→Prop} {YP:World→Heap→Prop} {d:DefRec} {K:PySem.Params→PySem.W.Frag} {CX:KN} {ps:List Str}
  (hwell:r.wellSaid=true) (hdf:d.params.defaults= []) (hlen:r.args.length=ps.length) (hr:eR k callerA)
  (hY:∀(w:World) (h:Heap),YP w h→(K w.params).In h)
  (F:∀(w:World) (mean:ExcName→Option Value) (mg mb:Str→Option Value) (fa:Addr) (h:Heap),Top q (PySem.W.looseW q loose) mean mg mb h→YP w h→(K w.params).In h→mg d.name=some (.ref fa)→
   ∃(fd:FuncData) (sp:Sp) (Pl bm c0:Addr) (ob:Obj),(∀(s:Shared) (us:List Value),us.length=ps.length→BindsTo s fd ⟨us,[]⟩ (ps.zip us))∧
    (∀base:Heap,(K w.params).In base→base.Ns mainGlobals mg→jV r.prog w (K w.params) mg base CX k fa fd ps sp)∧
    PySem.W.CodeHd h c0 Pl∧h.get? Pl=some (PySem.W.tabObj #[])∧(K w.params).lookup Pl=none∧h.get? bm=some ob∧ob.data= .plain∧(K w.params).lookup bm=none∧
    ∀(H0 H:Hp) (xs:List V) (a:Codec.denoteAll r.args),(∀b u,H0 b=some u→H b=some u)→Fw H0→H Pl=some (.tbl #[])→H bm=some (.frz ob (.ext fun _=>True))→Codec.withinAll r.args a=true→Codec.app r.args r.asked a=true→sI (K w.params) H0 xs (Codec.encAll r.args a)→
     sp xs H (fun v H'=>Dw (K w.params) H' v (r.ret.enc (Codec.app r.args r.f a))) fun _ _ _=>False)
  (hCX:∀(H:Hp) (s:Shared) (e:Value) (s':Shared),CX [] H s (fun _ _ _=>False) e s'→False):
  PySem.W.WalkOS q loose XP YP r d [] (fun f vs=>PySem.call f vs):=by
 intro w s_0 s₁ mg mb G Y fa o pm cd doc dV kV ho hd hcd hD hmg hg args vals as hpre hlay hrd hwl hlo
 obtain⟨a,e1,e2⟩:=PySem.W.os_pre_some hpre
 obtain⟨e3,hwi⟩:=Codec.encAll_of_decAll r.args args a e1
 subst e3
 have KX:=hY w _ Y
 obtain⟨fd,sp,Pl,bm,c0,ob,hb,hF,t1,t2,t3,t4,t5,t6,hsp⟩:=F w _ mg mb fa _ G.T Y KX hmg
 refine PySem.W.enter_call (codeAny_mono (Ij (R:= []) (cl:=classAt s_0.heap) (d0:=r.ret.enc (Codec.app r.args r.f a)) KX G.T.g G.T.b G.T.builtins G.T.nolimit hg hwl (DU _ _) (Bt hlay) hr t1 t2 t3 t4 t5 t6 hF hb (by rw [Bn];exact hlen)
  (fun H0 H xs h1 h2 h3 h4 h5=>hsp H0 H xs a h1 h2 h3 h4 hwi e2 h5) fun H e s'=>hCX H s₁ e s') fun r' s' hq=> ?_)
 obtain⟨u,as',rfl,h1,h2,h3,h4⟩:=hq
 exact bZ (.inl (iY u _ as' rfl (fun _=>rfl) h1 ((OpenSpec.post_iff hwell hwi _ _).mpr rfl) fun z=>Bool.noConfusion (show false=true from z))) h2 h3 h4
end L2
end
section
namespace Pf
open PySem PySem.Spec PyProof.Rows L2
def bN (i:Nat):Stmt:=PySem.Challenge.pw_toldchance_s01_answers.main.body.getD i (.Pass ⟨0,0,0,0⟩)
abbrev vn:Stmt:=bu (bN 4) 0
abbrev oX:Stmt:=bu (bN 4) 1
abbrev vo:Stmt:=bu (bN 4) 2
abbrev zY:Stmt:=bN 5
abbrev xB:Stmt:=bN 6
abbrev B1:Stmt:=bN 27
abbrev vw:Stmt:=bN 28
abbrev xE:Stmt:=bN 29
abbrev vv:Stmt:=bN 30
abbrev xC:Stmt:=bN 31
abbrev rT:Stmt:=bN 32
abbrev xD:Stmt:=bN 33
abbrev nG:Stmt:=bN 34
abbrev rP:Stmt:=bu (bN 37) 0
abbrev rR:Stmt:=bu (bN 37) 1
abbrev rQ:Stmt:=bu (bN 37) 2
abbrev ka:Stmt:=bu (bN 37) 3
abbrev z5:Stmt:=bN 39
abbrev o0:Stmt:=bN 40
abbrev xI:Stmt:=bN 41
abbrev tN:Stmt:=bN 42
abbrev D9:Stmt:=bN 44
abbrev BR:Stmt:=bN 45
abbrev z7:Stmt:=bN 46
abbrev BY:Stmt:=bN 47
abbrev EU:Stmt:=bN 48
abbrev BV:Stmt:=bN 49
abbrev pc:Stmt:=bN 51
abbrev lj:Stmt:=bN 52
abbrev j7:Stmt:=bu (bN 54) 0
abbrev fN:Stmt:=bu (bN 54) 1
abbrev ib:Stmt:=bu (bN 54) 2
abbrev ia:Stmt:=bu (bN 54) 3
abbrev rX:Stmt:=bN 55
abbrev xH:Stmt:=bN 56
abbrev tP:Stmt:=bN 57
abbrev ii:Stmt:=bN 58
abbrev nv:Stmt:=bN 59
abbrev BQ:Stmt:=bN 60
abbrev tI:Stmt:=bu (bN 63) 0
abbrev oZ:Stmt:=bu (bN 63) 1
abbrev rM:Stmt:=bu (bN 63) 2
abbrev tJ:Stmt:=bu (bN 63) 3
abbrev mx:Stmt:=bu (bN 63) 4
abbrev mB:Stmt:=bN 64
abbrev rW:Stmt:=bN 65
abbrev z6:Stmt:=bN 66
abbrev pb:Stmt:=bN 67
abbrev rV:Stmt:=bN 68
abbrev my:Stmt:=bN 69
abbrev fb:Stmt:=bN 70
abbrev mD:Stmt:=bN 71
abbrev nF:Stmt:=bN 72
abbrev vq:Stmt:=bu (bN 74) 0
abbrev zT:Stmt:=bu (bN 74) 1
abbrev j9:Stmt:=bu (bN 74) 2
abbrev oY:Stmt:=bu (bN 74) 3
abbrev j8:Stmt:=bu (bN 74) 4
abbrev je:Stmt:=bu (bN 74) 5
abbrev lM:Stmt:=bu (bN 74) 6
abbrev vp:Stmt:=bu (bN 74) 7
abbrev vm:Stmt:=bu (bN 75) 0
abbrev zS:Stmt:=bu (bN 75) 1
abbrev j6:Stmt:=bu (bN 75) 2
abbrev oW:Stmt:=bu (bN 75) 3
abbrev j5:Stmt:=bu (bN 75) 4
abbrev jd:Stmt:=bu (bN 75) 5
abbrev lL:Stmt:=bu (bN 75) 6
abbrev vk:Stmt:=bu (bN 75) 7
abbrev nA:Stmt:=bN 76
abbrev tS:Stmt:=bN 77
abbrev tO:Stmt:=bN 78
abbrev zV:Stmt:=bN 79
abbrev B0:Stmt:=bN 80
abbrev zZ:Stmt:=bN 81
abbrev zW:Stmt:=bN 82
abbrev D4:Stmt:=bN 89
abbrev tR:Stmt:=bN 90
abbrev lB:Stmt:=bN 91
abbrev D5:Stmt:=bN 92
abbrev Gz:Stmt:=bN 93
abbrev vx:Stmt:=bN 94
abbrev xF:Stmt:=bN 95
abbrev vt:Stmt:=bN 96
abbrev oj:Stmt:=bN 97
abbrev qB:Stmt:=bN 98
abbrev jD:Stmt:=bN 99
abbrev Gq:Stmt:=bN 100
abbrev kf:Stmt:=bN 101
abbrev v6:Stmt:=bN 102
abbrev kD:Stmt:=bN 103
abbrev lD:Stmt:=bN 104
abbrev lC:Stmt:=bN 105
abbrev tQ:Stmt:=bN 106
abbrev xG:Stmt:=bN 107
abbrev zX:Stmt:=bN 113
abbrev tK:Stmt:=bN 114
abbrev tL:Stmt:=bN 115
abbrev BS:Stmt:=bN 117
abbrev Gv:Stmt:=bN 118
abbrev BT:Stmt:=bN 119
abbrev Gy:Stmt:=bN 120
abbrev D1:Stmt:=bN 121
abbrev Go:Stmt:=bN 122
abbrev nE:Stmt:=bN 124
abbrev kd:Stmt:=bN 125
abbrev rN:Stmt:=bu (bN 127) 0
abbrev nt:Stmt:=bu (bN 127) 1
abbrev rO:Stmt:=bu (bN 127) 2
abbrev lN:Stmt:=bu (bN 127) 3
abbrev Gw:Stmt:=bN 129
abbrev Jo:Stmt:=bN 130
abbrev BX:Stmt:=bN 131
abbrev Gx:Stmt:=bN 132
abbrev Gn:Stmt:=bN 133
abbrev D3:Stmt:=bN 134
abbrev BW:Stmt:=bN 135
abbrev D8:Stmt:=bN 136
abbrev Jn:Stmt:=bN 137
abbrev Gs:Stmt:=bN 138
abbrev Gp:Stmt:=bN 139
abbrev D6:Stmt:=bN 140
abbrev mC:Stmt:=bN 142
abbrev jB:Stmt:=bN 143
abbrev vy:Stmt:=bN 145
abbrev jE:Stmt:=bN 146
abbrev gc:Stmt:=bN 147
abbrev jC:Stmt:=bN 148
abbrev gZ:Stmt:=bN 149
abbrev tM:Stmt:=bN 150
abbrev nB:Stmt:=bN 151
abbrev BU:Stmt:=bN 152
abbrev D7:Stmt:=bN 154
abbrev rY:Stmt:=bN 155
abbrev Gr:Stmt:=bN 156
abbrev D2:Stmt:=bN 157
abbrev yK:Stmt:=bN 158
abbrev BZ:Stmt:=bN 159
abbrev z4:Stmt:=bN 160
abbrev D0:Stmt:=bN 161
abbrev Gu:Stmt:=bN 162
abbrev nu:Stmt:=bN 163
abbrev ke:Stmt:=bN 165
abbrev oi:Stmt:=bu (bN 167) 0
abbrev zU:Stmt:=bN 168
abbrev rS:Stmt:=bN 169
structure GC (mg:Str→Option Value) (x:Str) (v:V) where
 u:Value
 eq:mg x=some u
 rel:cX v u
structure KR (K:PySem.W.Frag) (mg:Str→Option Value) (x:Str) (kvs:List (Int×V)) where
 a:Addr
 eq:mg x=some (.ref a)
 gd:∀(P:Program) (w:World),GD P w K a kvs
 rel:cX (.ref a) (.ref a):=rfl
structure Df (K:PySem.W.Frag) (mg:Str→Option Value) (x:Str) (st:Stmt) (ps:List Str) where
 f:Addr
 fd:FuncData
 F:NI K x x st f fd
 ba:∀us:List Value,us.length=ps.length→bindArgs fd ⟨us,[]⟩=pure (ps.zip us)
 mgx:mg x=some (.ref f)
structure Me (K:PySem.W.Frag) (C:Addr) (m qual:Str) (st:Stmt) (ps:List Str) where
 f:Addr
 fd:FuncData
 F:NI K m qual st f fd
 ba:∀us:List Value,us.length=ps.length→bindArgs fd ⟨us,[]⟩=pure (ps.zip us)
 meth:KT K C m f
 cl:Ho K C
structure Kl (K:PySem.W.Frag) (mg:Str→Option Value) (x:Str) (attrs:List Str) where
 C:Addr
 cl:Ho K C
 mgC:mg x=some (.ref C)
 no:∀a∈attrs,kl K C a
 makes:PySem.W.makesIn K C=true
 kp:PySem.W.keepIn K (.ref C)=true
theorem Df.b {K:PySem.W.Frag} {mg:Str→Option Value} {x:Str} {st:Stmt} {ps:List Str} (d:Df K mg x st ps):i8 K d.fd ps []:=i8.all d.ba
theorem Df.bt {K:PySem.W.Frag} {mg:Str→Option Value} {x:Str} {st:Stmt} {ps:List Str} (d:Df K mg x st ps) (s:Shared) (us:List Value) (h:us.length=ps.length):BindsTo s d.fd ⟨us,[]⟩ (ps.zip us):= .of_eq (d.ba us h)
theorem Me.b {K:PySem.W.Frag} {C:Addr} {m qual:Str} {st:Stmt} {ps:List Str} (d:Me K C m qual st ps):i8 K d.fd ps []:=i8.all d.ba
theorem Kl.mk' {K:PySem.W.Frag} {mg:Str→Option Value} {x:Str} {attrs:List Str} (c:Kl K mg x attrs) {q:Str} {st:Stmt} {ps:List Str} (i:Me K c.C "__init__" q st ps):Mk K c.C i.f:=⟨c.makes,i.meth.at_,i.meth.fn,c.kp⟩
set_option genInjectivity false in
structure Tx (K:PySem.W.Frag) (mg:Str→Option Value) where
 uE:GC mg "STATES" (.int 18446744073709551616)
 CY:GC mg "FACTOR" (.int 6364136223846793005)
 zG:GC mg "SUMMAND" (.int 1442695040888963407)
 bb:GC mg "WRONG_STREAM" (.int (-1))
 iJ:GC mg "WRONG_STEPS" (.int (-2))
 fE:GC mg "WRONG_LENGTH" (.int (-3))
 C1:GC mg "WRONG_MIRROR" (.int (-4))
 kX:GC mg "WRONG_BOUND" (.int (-5))
 lK:GC mg "WRONG_WEIGHTS" (.int (-6))
 yj:GC mg "WRONG_PART" (.int (-7))
 kY:GC mg "WRONG_PLACE" (.int (-8))
 yi:GC mg "NO_DISTRIBUTION" (.int (-10))
 Hn:GC mg "WRONG_RAW" (.int (-11))
 oC:GC mg "EMPTY_PLACE" (.int (-12))
 zF:GC mg "STREAMS" (.int 64)
 Hm:GC mg "PLACES" (.int 64)
 Hl:GC mg "MOST_RAWS" (.int 1000)
 C0:GC mg "MOST_WEIGHTS" (.int 64)
 Fo:GC mg "MOST_TEETH" (.int 1000000000000000000)
 kS:GC mg "GREATEST_BOUND" (.int 1000000000000000000)
 CZ:GC mg "GREATEST_SUM" (.int 10000000000000000000000000000000000000000)
 n4:GC mg "GREATEST_FACTOR" (.int 1000000000)
 dL:GC mg "RAW_NUMBERS" (.int 4294967296)
 Nn:GC mg "GROUP" (.int 16)
 Fp:GC mg "MOST_TRIES" (.int 20)
 yh:GC mg "GREATEST_BOTTOM" (.int 100)
 Du:GC mg "MOST_THINGS" (.int 60)
 Hk:GC mg "MOST_DICE" (.int 6)
 Fn:GC mg "MOST_SIDES" (.int 10)
 C2:mg "list"=none
 di:mg "range"=none
 JD:mg "sum"=none
 Pr:mg "any"=none
 Ms:mg "sorted"=none
 Ps:mg "max"=none
 Mr:mg "min"=none
 Pq:mg "all"=none
 gu:mg "len"=none
 NG:mg "abs"=none
 Pt:mg "zip"=none
 fJ:Kl K mg "Leap" ["factor","summand"]
 aK:Kl K mg "Stream" ["state","seed","count","mirror"]
 ai:Kl K mg "Distribution" ["weights","shapes","total","before","ends"]
 aA:Kl K mg "Ratio" ["top","bottom"]
 aP:Kl K mg "Line" ["x","y","bottom","origin","rise"]
 aH:Kl K mg "Comb" ["x","gap","teeth","bottom","origin","rise"]
 br:Kl K mg "Reader" ["numbers","position"]
 aQ:Kl K mg "Bank" ["streams","distributions"]
 jh:Me K fJ.C "__init__" "Leap.__init__" vn ["self","factor","summand"]
 fC:Me K fJ.C "landing" "Leap.landing" oX ["self","state"]
 lx:Me K fJ.C "then" "Leap.then" vo ["self","other"]
 uS:Df K mg "leap_of" zY ["steps"]
 rj:Df K mg "distance" xB ["start","end"]
 bU:Df K mg "within" B1 ["number","least","greatest"]
 bA:Df K mg "is_stream" vw ["number"]
 gS:Df K mg "is_steps" xE ["number"]
 gR:Df K mg "is_length" vv ["number"]
 gQ:Df K mg "is_bound" xC ["number"]
 iH:Df K mg "are_weights" rT ["row"]
 fK:Df K mg "is_place" xD ["number"]
 cn:Df K mg "place_refusal" nG ["bank","d"]
 fk:Me K aK.C "__init__" "Stream.__init__" rP ["self","seed"]
 oy:Me K aK.C "twin" "Stream.twin" rR ["self"]
 kW:Me K aK.C "move" "Stream.move" rQ ["self","steps"]
 bJ:Me K aK.C "raw_number" "Stream.raw_number" ka ["self"]
 uT:Df K mg "portion" z5 ["u","many"]
 jS:Df K mg "chosen_place" o0 ["u","weights"]
 mZ:Df K mg "shuffled" xI ["stream","row","many"]
 rl:Df K mg "lots_drawn" tN ["stream","weights","many"]
 rC:Df K mg "whole" D9 ["bank","reader"]
 mT:Df K mg "choose" BR ["bank","reader"]
 kR:Df K mg "shuffle" z7 ["bank","reader"]
 mY:Df K mg "sample" BY ["bank","reader"]
 CU:Df K mg "mix" EU ["bank","reader"]
 wM:Df K mg "lots" BV ["bank","reader"]
 mW:Df K mg "is_draw_call" pc ["place"]
 i6:Df K mg "answer_draw_call" lj ["bank","place","reader"]
 io:Me K ai.C "__init__" "Distribution.__init__" j7 ["self","weights","shapes"]
 eG:Me K ai.C "place_taken" "Distribution.place_taken" fN ["self","u"]
 dX:Me K ai.C "value_in" "Distribution.value_in" ib ["self","place","u"]
 dW:Me K ai.C "value_at" "Distribution.value_at" ia ["self","u"]
 oB:Df K mg "sums_before" rX ["weights"]
 wN:Df K mg "raw_ends" xH ["weights"]
 rp:Df K mg "rounded_up" tP ["top","bottom"]
 cG:Df K mg "distribution_of" ii ["weights","shapes"]
 zA:Df K mg "blended" nv ["one","v","other","w"]
 ID:Df K mg "bent" BQ ["distribution","factor","summand"]
 bo:Me K aA.C "__init__" "Ratio.__init__" tI ["self","top","bottom"]
 eI:Me K aA.C "lowest" "Ratio.lowest" oZ ["self"]
 kU:Me K aA.C "times" "Ratio.times" rM ["self","other"]
 rb:Me K aA.C "plus" "Ratio.plus" tJ ["self","other"]
 eA:Me K aA.C "is_below" "Ratio.is_below" mx ["self","other"]
 cU:Df K mg "common_measure" mB ["a","b"]
 cK:Df K mg "right_ratio" rW ["top","bottom"]
 uU:Df K mg "product" z6 ["factors"]
 jT:Df K mg "common_parts" pb ["bottoms"]
 iI:Df K mg "lowest_over" rV ["top","factors"]
 dJ:Df K mg "all_lowest" my ["ratios"]
 fM:Df K mg "places_of_one_bottom" fb ["ratios","places","start"]
 kO:Df K mg "measure_of_all" mD ["ratios"]
 lJ:Df K mg "lowest_within" nF ["ratio","shared"]
 uA:Me K aP.C "__init__" "Line.__init__" vq ["self","x","y"]
 zz:Me K aP.C "at" "Line.at" zT ["self","t","span"]
 iq:Me K aP.C "told_numbers" "Line.told_numbers" j9 ["self"]
 mR:Me K aP.C "far_end" "Line.far_end" oY ["self"]
 ip:Me K aP.C "doubled_mean" "Line.doubled_mean" j8 ["self"]
 gg:Me K aP.C "sixfold_square" "Line.sixfold_square" je ["self"]
 jR:Me K aP.C "part_below" "Line.part_below" lM ["self","v","strict"]
 uy:Me K aP.C "bent" "Line.bent" vp ["self","factor","summand"]
 ux:Me K aH.C "__init__" "Comb.__init__" vm ["self","x","gap","teeth"]
 zy:Me K aH.C "at" "Comb.at" zS ["self","t","span"]
 im:Me K aH.C "told_numbers" "Comb.told_numbers" j6 ["self"]
 mQ:Me K aH.C "far_end" "Comb.far_end" oW ["self"]
 il:Me K aH.C "doubled_mean" "Comb.doubled_mean" j5 ["self"]
 gf:Me K aH.C "sixfold_square" "Comb.sixfold_square" jd ["self"]
 jQ:Me K aH.C "part_below" "Comb.part_below" lL ["self","v","strict"]
 uw:Me K aH.C "bent" "Comb.bent" vk ["self","factor","summand"]
 iM:Df K mg "common_bottom" nA ["one","other"]
 hU:Df K mg "whole_over" tS ["ratio","bottom"]
 jU:Df K mg "room_below" tO ["top","bottom","v"]
 uQ:Df K mg "clamped" zV ["number","most"]
 uD:Df K mg "turned" B0 ["ratio","factor","summand"]
 pJ:Df K mg "line_of" zZ ["x","y"]
 l9:Df K mg "comb_of" zW ["x","gap","teeth"]
 yg:Df K mg "point" D4 ["x"]
 lV:Df K mg "whole_comb" tR ["a","b"]
 fY:Df K mg "points_from" lB ["first","weights"]
 rm:Df K mg "power" D5 ["base","exponent"]
 CW:Df K mg "ways" Gz ["many","some"]
 ji:Df K mg "one_point" vx ["numbers"]
 kQ:Df K mg "one_comb" xF ["numbers"]
 n0:Df K mg "are_tries" vt ["tries","p","q"]
 jj:Df K mg "successes" oj ["numbers"]
 kM:Df K mg "failures" qB ["numbers"]
 eQ:Df K mg "marked_things" jD ["numbers"]
 zC:Df K mg "dice" Gq ["numbers"]
 iy:Df K mg "with_one_die_more" kf ["counts","sides"]
 pK:Df K mg "points" v6 ["many","numbers"]
 fD:Df K mg "joined_lines" kD ["many","numbers"]
 f8:Df K mg "whole_combs" lD ["many","numbers"]
 fZ:Df K mg "told_shapes" lC ["many","numbers"]
 rA:Df K mg "told_shape" tQ ["numbers"]
 i7:Df K mg "ratio_in" xG ["numbers","place"]
 zB:Df K mg "defined" zX ["kind","a","b"]
 re:Df K mg "by_numbers" tK ["kind","a","b"]
 rh:Df K mg "by_weights" tL ["kind","a","b"]
 mU:Df K mg "define" BS ["bank","reader"]
 CT:Df K mg "kept" Gv ["bank","d","distribution"]
 mV:Df K mg "forget" BT ["bank","reader"]
 wR:Df K mg "told" Gy ["bank","reader"]
 rc:Df K mg "blend" D1 ["bank","reader"]
 wJ:Df K mg "bend" Go ["bank","reader"]
 lI:Df K mg "is_place_call" nE ["place"]
 ir:Df K mg "answer_place_call" kd ["bank","place","reader"]
 ox:Me K br.C "__init__" "Reader.__init__" rN ["self","numbers"]
 lG:Me K br.C "at_end" "Reader.at_end" nt ["self"]
 au:Me K br.C "take" "Reader.take" rO ["self"]
 dh:Me K br.C "take_row" "Reader.take_row" lN ["self"]
 wP:Df K mg "seed" Gw ["bank","reader"]
 CV:Df K mg "raw" Jo ["bank","reader"]
 wO:Df K mg "raws" BX ["bank","reader"]
 wQ:Df K mg "skip" Gx ["bank","reader"]
 wI:Df K mg "back" Gn ["bank","reader"]
 Bd:Df K mg "moved" D3 ["bank","k","n","steps"]
 mX:Df K mg "mirror" BW ["bank","reader"]
 rB:Df K mg "where" D8 ["bank","reader"]
 CS:Df K mg "far" Jn ["bank","reader"]
 wL:Df K mg "goto" Gs ["bank","reader"]
 wK:Df K mg "copy" Gp ["bank","reader"]
 rq:Df K mg "space" D6 ["bank","reader"]
 kN:Df K mg "is_stream_call" mC ["place"]
 gP:Df K mg "answer_stream_call" jB ["bank","place","reader"]
 uC:Df K mg "shares_of" vy ["distribution"]
 fR:Df K mg "taken_classes" jE ["distribution"]
 iw:Df K mg "mean_and_variance" gc ["distribution"]
 gT:Df K mg "least_and_greatest" jC ["distribution"]
 mS:Df K mg "chance_below" gZ ["distribution","v","strict"]
 rk:Df K mg "hits_below" tM ["distribution","v","strict"]
 lH:Df K mg "hits_in_class" nB ["distribution","place","start","v","strict"]
 uB:Df K mg "is_hit" BU ["distribution","place","u","v","strict"]
 uV:Df K mg "value" D7 ["bank","reader"]
 f7:Df K mg "two_numbers" rY ["ratio"]
 zD:Df K mg "draw" Gr ["bank","reader"]
 uR:Df K mg "draws" D2 ["bank","reader"]
 Bc:Df K mg "drawn" yK ["bank","d","k","many"]
 pL:Df K mg "shares" BZ ["bank","reader"]
 ma:Df K mg "moments" z4 ["bank","reader"]
 uP:Df K mg "below" D0 ["bank","reader"]
 zE:Df K mg "hits" Gu ["bank","reader"]
 iL:Df K mg "below_refusal" nu ["bank","d","p","q","strict"]
 iu:Df K mg "answer_value_call" ke ["bank","place","reader"]
 nZ:Me K aQ.C "__init__" "Bank.__init__" oi ["self"]
 l8:Df K mg "answers" zU ["calls"]
 oA:Df K mg "answer_call" rS ["bank","reader"]
 bL:KR K mg "DRAW_CALLS" [(11,.ref rC.f),(12,.ref mT.f),(13,.ref kR.f),(14,.ref mY.f),(15,.ref CU.f),(16,.ref wM.f)]
 bK:KR K mg "BY_NUMBERS" [(0,.ref ji.f),(1,.ref kQ.f),(6,.ref jj.f),(7,.ref kM.f),(8,.ref eQ.f),(9,.ref zC.f)]
 bD:KR K mg "NUMBERS_TAKEN" [(0,.int 2),(1,.int 2),(6,.int 3),(7,.int 3),(8,.int 3),(9,.int 2)]
 cN:KR K mg "BY_WEIGHTS" [(2,.ref pK.f),(3,.ref fD.f),(4,.ref f8.f),(5,.ref fZ.f)]
 b8:KR K mg "NUMBERS_A_CLASS" [(2,.int 2),(3,.int 2),(4,.int 2),(5,.int 6)]
 cy:KR K mg "NUMBERS_BEYOND" [(2,.int 0),(3,.int 2),(4,.int 0),(5,.int 0)]
 bQ:KR K mg "PLACE_CALLS" [(17,.ref mU.f),(18,.ref mV.f),(19,.ref wR.f),(27,.ref rc.f),(28,.ref wJ.f)]
 aO:KR K mg "STREAM_CALLS" [(0,.ref wP.f),(1,.ref CV.f),(2,.ref wO.f),(3,.ref wQ.f),(4,.ref wI.f),(5,.ref mX.f),(6,.ref rB.f),(7,.ref CS.f),(8,.ref wL.f),(9,.ref wK.f),(10,.ref rq.f)]
 bG:KR K mg "VALUE_CALLS" [(20,.ref uV.f),(21,.ref zD.f),(22,.ref uR.f),(23,.ref pL.f),(24,.ref ma.f),(25,.ref uP.f),(26,.ref zE.f)]
section
variable {P:Program} {w:World} {K:PySem.W.Frag} {mg:Str→Option Value} {base:Heap} {x m q:Str} {st:Stmt} {ps N:List Str} {C:Addr} {k:Nat} {sp:Sp}
abbrev dM (P:Program) (w:World) (base:Heap) (d:Df K mg x st ps) (k:Nat) (sp:Sp):Prop:=jV P w K mg base AV k d.f d.fd ps sp
abbrev sr (mg:Str→Option Value) (P:Program) (w:World) (base:Heap) (d:Me K C m q st ps) (k:Nat) (sp:Sp):Prop:=jV P w K mg base AV k d.f d.fd ps sp
theorem Df.okA (d:Df K mg x st ps) (S:ap N ps (ag st))
  (hb:∀(cdv:Value) (A:Around) (outer:List Env) (s:Shared) (H:Hp) (vs:List V) (Q:VK) (E:XK),eR k (A.deeper (envOfC x (ag st) s.heap.objs.size d.f cdv))→sp vs H Q E→
   ∃t,Hq (Es AV P w K mg base N x (ag st) d.f cdv A outer s H E).nox (jw st) t∧t {nx:=fun _ H'=>Q .non H',rt:=Q} (start N vs) H)
  (len:∀vs H Q E,sp vs H Q E→vs.length=ps.length:=by intro _ _ _ _ h;(repeat obtain⟨_,h⟩:=h);all_goals (subst_vars;rfl)):jV P w K mg base AV (k+1) d.f d.fd ps sp:=d.F.ok S len hb
theorem Me.okA (d:Me K C m q st ps) (S:ap N ps (ag st))
  (hb:∀(cdv:Value) (A:Around) (outer:List Env) (s:Shared) (H:Hp) (vs:List V) (Q:VK) (E:XK),eR k (A.deeper (envOfC q (ag st) s.heap.objs.size d.f cdv))→sp vs H Q E→
   ∃t,Hq (Es AV P w K mg base N q (ag st) d.f cdv A outer s H E).nox (jw st) t∧t {nx:=fun _ H'=>Q .non H',rt:=Q} (start N vs) H)
  (len:∀vs H Q E,sp vs H Q E→vs.length=ps.length:=by intro _ _ _ _ h;(repeat obtain⟨_,h⟩:=h);all_goals (subst_vars;rfl)):jV P w K mg base AV (k+1) d.f d.fd ps sp:=d.F.ok S len hb
end
theorem ca {N ps:List Str} {sc:Scope} (a:sc.kind= .function:=by rfl) (b:sc.isCoroutine=false:=by rfl) (c:sc.isGenerator=false:=by rfl) (d:N.Nodup:=by decide+kernel) (e:N.take ps.length=ps:=by rfl)
  (f:∀x∈ps,sc.names.lookup x=some .local∨sc.names.lookup x=some .cell:=by decide+kernel) (g:∀y∈sc.names,y.2≠ .free:=by decide+kernel):ap N ps sc:=⟨a,b,c,d,e,f,g⟩
theorem B3:ap ["self","factor","summand"] ["self","factor","summand"] (ag vn):=ca
theorem xK:ap ["self","state"] ["self","state"] (ag oX):=ca
theorem B4:ap ["self","other"] ["self","other"] (ag vo):=ca
theorem fH:ap ["steps","left","leap","power"] ["steps"] (ag zY):=ca
theorem dI:ap ["start","end","state","power","bit","steps"] ["start","end"] (ag xB):=ca
theorem GB:ap ["number","least","greatest"] ["number","least","greatest"] (ag B1):=ca
theorem Ca:ap ["number"] ["number"] (ag vw):=ca
theorem Dg:ap ["number"] ["number"] (ag xE):=ca
theorem B9:ap ["number"] ["number"] (ag vv):=ca
theorem Dd:ap ["number"] ["number"] (ag xC):=ca
theorem yP:ap ["row"] ["row"] (ag rT):=ca
theorem De:ap ["number"] ["number"] (ag xD):=ca
theorem wc:ap ["bank","d"] ["bank","d"] (ag nG):=ca
theorem yN:ap ["self","seed"] ["self","seed"] (ag rP):=ca
theorem pf:ap ["self","other"] ["self"] (ag rR):=ca
theorem yO:ap ["self","steps"] ["self","steps"] (ag rQ):=ca
theorem jF:ap ["self","number"] ["self"] (ag ka):=ca
theorem E2:ap ["u","many"] ["u","many"] (ag z5):=ca
theorem dR:ap ["u","weights","mark","place","reached"] ["u","weights"] (ag o0):=ca
theorem iE:ap ["stream","row","many","mixed","i","j","held"] ["stream","row","many"] (ag xI):=ca
theorem fO:ap ["stream","weights","many","left","places","i","place"] ["stream","weights","many"] (ag tN):=ca
theorem mJ:ap ["bank","reader","k","a","b","u"] ["bank","reader"] (ag D9):=ca
theorem nI:ap ["bank","reader","k","weights","u"] ["bank","reader"] (ag BR):=ca
theorem qI:ap ["bank","reader","k","n"] ["bank","reader"] (ag z7):=ca
theorem nM:ap ["bank","reader","k","n","m"] ["bank","reader"] (ag BY):=ca
theorem tV:ap ["bank","reader","k","row","number"] ["bank","reader"] (ag EU):=ca
theorem l5:ap ["bank","reader","k","m","weights","weight"] ["bank","reader"] (ag BV):=ca
theorem xM:ap ["place"] ["place"] (ag pc):=ca
theorem kg:ap ["bank","place","reader","call"] ["bank","place","reader"] (ag lj):=ca
theorem qE:ap ["self","weights","shapes"] ["self","weights","shapes"] (ag j7):=ca
theorem bv:ap ["self","u","low","high","middle"] ["self","u"] (ag fN):=ca
theorem gF:ap ["self","place","u","t"] ["self","place","u"] (ag ib):=ca
theorem mF:ap ["self","u"] ["self","u"] (ag ia):=ca
theorem fx:ap ["weights","sums","reached","weight"] ["weights"] (ag rX):=ca
theorem fX:ap ["weights","ends","total","reached","weight"] ["weights"] (ag xH):=ca
theorem AD:ap ["top","bottom"] ["top","bottom"] (ag tP):=ca
theorem gJ:ap ["weights","shapes","shape"] ["weights","shapes"] (ag ii):=ca
theorem g7:ap ["one","v","other","w","weight","weights"] ["one","v","other","w"] (ag nv):=ca
theorem yR:ap ["distribution","factor","summand","shape","shapes"] ["distribution","factor","summand"] (ag BQ):=ca
theorem AA:ap ["self","top","bottom"] ["self","top","bottom"] (ag tI):=ca
theorem nH:ap ["self","shared"] ["self"] (ag oZ):=ca
theorem yL:ap ["self","other"] ["self","other"] (ag rM):=ca
theorem AB:ap ["self","other"] ["self","other"] (ag tJ):=ca
theorem uZ:ap ["self","other"] ["self","other"] (ag mx):=ca
theorem dk:ap ["a","b","larger","smaller","rest"] ["a","b"] (ag mB):=ca
theorem pk:ap ["top","bottom","ratio"] ["top","bottom"] (ag rW):=ca
theorem lU:ap ["factors","result","factor"] ["factors"] (ag z6):=ca
theorem dS:ap ["bottoms","parts","reached","bottom","part"] ["bottoms"] (ag pb):=ca
theorem dB:ap ["top","factors","left","bottom","factor","shared"] ["top","factors"] (ag rV):=ca
theorem ck:ap ["ratios","results","places","start","group","place","shared"] ["ratios"] (ag my):=ca
theorem dt:ap ["ratios","places","start","bottom","place"] ["ratios","places","start"] (ag fb):=ca
theorem dZ:ap ["ratios","bottom","tops","ratio"] ["ratios"] (ag mD):=ca
theorem mI:ap ["ratio","shared","measure"] ["ratio","shared"] (ag nF):=ca
theorem B6:ap ["self","x","y"] ["self","x","y"] (ag vq):=ca
theorem EW:ap ["self","t","span"] ["self","t","span"] (ag zT):=ca
theorem qG:ap ["self"] ["self"] (ag j9):=ca
theorem xL:ap ["self"] ["self"] (ag oY):=ca
theorem qF:ap ["self"] ["self"] (ag j8):=ca
theorem ol:ap ["self"] ["self"] (ag je):=ca
theorem gG:ap ["self","v","strict","width","room"] ["self","v","strict"] (ag lM):=ca
theorem B5:ap ["self","factor","summand"] ["self","factor","summand"] (ag vp):=ca
theorem B2:ap ["self","x","gap","teeth"] ["self","x","gap","teeth"] (ag vm):=ca
theorem EV:ap ["self","t","span"] ["self","t","span"] (ag zS):=ca
theorem qD:ap ["self"] ["self"] (ag j6):=ca
theorem xJ:ap ["self"] ["self"] (ag oW):=ca
theorem qC:ap ["self"] ["self"] (ag j5):=ca
theorem iD:ap ["self","way"] ["self"] (ag jd):=ca
theorem cS:ap ["self","v","strict","room","step","reached"] ["self","v","strict"] (ag lL):=ca
theorem tT:ap ["self","factor","summand","gap"] ["self","factor","summand"] (ag vk):=ca
theorem v8:ap ["one","other"] ["one","other"] (ag nA):=ca
theorem AF:ap ["ratio","bottom"] ["ratio","bottom"] (ag tS):=ca
theorem AC:ap ["top","bottom","v"] ["top","bottom","v"] (ag tO):=ca
theorem EX:ap ["number","most"] ["number","most"] (ag zV):=ca
theorem z9:ap ["ratio","factor","summand","result"] ["ratio","factor","summand"] (ag B0):=ca
theorem E1:ap ["x","y"] ["x","y"] (ag zZ):=ca
theorem EY:ap ["x","gap","teeth"] ["x","gap","teeth"] (ag zW):=ca
theorem Ia:ap ["x"] ["x"] (ag D4):=ca
theorem AE:ap ["a","b"] ["a","b"] (ag tR):=ca
theorem kF:ap ["first","weights","i","shapes"] ["first","weights"] (ag lB):=ca
theorem qH:ap ["base","exponent","result","i"] ["base","exponent"] (ag D5):=ca
theorem uM:ap ["many","some","result","i"] ["many","some"] (ag Gz):=ca
theorem Cc:ap ["numbers"] ["numbers"] (ag vx):=ca
theorem Dh:ap ["numbers"] ["numbers"] (ag xF):=ca
theorem B7:ap ["tries","p","q"] ["tries","p","q"] (ag vt):=ca
theorem fw:ap ["numbers","n","p","q","i"] ["numbers"] (ag oj):=ca
theorem fW:ap ["numbers","m","p","q","i","weights"] ["numbers"] (ag qB):=ca
theorem dC:ap ["numbers","a","b","n","i"] ["numbers"] (ag jD):=ca
theorem lZ:ap ["numbers","n","s","counts","i"] ["numbers"] (ag Gq):=ca
theorem d8:ap ["counts","sides","result","i","side"] ["counts","sides"] (ag kf):=ca
theorem tW:ap ["many","numbers","i"] ["many","numbers"] (ag v6):=ca
theorem jJ:ap ["many","numbers","i"] ["many","numbers"] (ag kD):=ca
theorem kH:ap ["many","numbers","i"] ["many","numbers"] (ag lD):=ca
theorem kG:ap ["many","numbers","i"] ["many","numbers"] (ag lC):=ca
theorem lE:ap ["numbers","x","other"] ["numbers"] (ag tQ):=ca
theorem Di:ap ["numbers","place"] ["numbers","place"] (ag xG):=ca
theorem EZ:ap ["kind","a","b"] ["kind","a","b"] (ag zX):=ca
theorem rZ:ap ["kind","a","b","make"] ["kind","a","b"] (ag tK):=ca
theorem r6:ap ["kind","a","b","make"] ["kind","a","b"] (ag tL):=ca
theorem ll:ap ["bank","reader","d","kind","a","b"] ["bank","reader"] (ag BS):=ca
theorem Kr:ap ["bank","d","distribution"] ["bank","d","distribution"] (ag Gv):=ca
theorem tU:ap ["bank","reader","d","refusal"] ["bank","reader"] (ag BT):=ca
theorem l7:ap ["bank","reader","d","refusal","distribution","numbers","shape"] ["bank","reader"] (ag Gy):=ca
theorem gI:ap ["bank","reader","d","e","f","v","w","one","other"] ["bank","reader"] (ag D1):=ca
theorem fV:ap ["bank","reader","d","e","p","q","r","s","distribution","factor","summand"] ["bank","reader"] (ag Go):=ca
theorem v9:ap ["place"] ["place"] (ag nE):=ca
theorem jG:ap ["bank","place","reader","call"] ["bank","place","reader"] (ag kd):=ca
theorem yM:ap ["self","numbers"] ["self","numbers"] (ag rN):=ca
theorem v7:ap ["self"] ["self"] (ag nt):=ca
theorem pd:ap ["self","number"] ["self"] (ag rO):=ca
theorem gH:ap ["self","length","start"] ["self"] (ag lN):=ca
theorem yT:ap ["bank","reader","k","s"] ["bank","reader"] (ag Gw):=ca
theorem GA:ap ["bank","reader","k"] ["bank","reader"] (ag Jo):=ca
theorem l6:ap ["bank","reader","k","n","stream","i"] ["bank","reader"] (ag BX):=ca
theorem yU:ap ["bank","reader","k","n"] ["bank","reader"] (ag Gx):=ca
theorem yQ:ap ["bank","reader","k","n"] ["bank","reader"] (ag Gn):=ca
theorem HZ:ap ["bank","k","n","steps"] ["bank","k","n","steps"] (ag D3):=ca
theorem nJ:ap ["bank","reader","k","b","stream"] ["bank","reader"] (ag BW):=ca
theorem wd:ap ["bank","reader","k","stream"] ["bank","reader"] (ag D8):=ca
theorem B8:ap ["bank","reader","x","y"] ["bank","reader"] (ag Jn):=ca
theorem pj:ap ["bank","reader","k","y","stream","n"] ["bank","reader"] (ag Gs):=ca
theorem yS:ap ["bank","reader","k","j"] ["bank","reader"] (ag Gp):=ca
theorem gL:ap ["bank","reader","k","n","g","leap","state","i"] ["bank","reader"] (ag D6):=ca
theorem u0:ap ["place"] ["place"] (ag mC):=ca
theorem jf:ap ["bank","place","reader","call"] ["bank","place","reader"] (ag jB):=ca
theorem gK:ap ["distribution","found","start","end"] ["distribution"] (ag vy):=ca
theorem fI:ap ["distribution","weight","shape"] ["distribution"] (ag jE):=ca
theorem aL:ap ["distribution","classes","weight","shape","parts","bottom","squared","means","squares","total","mean","variance"] ["distribution"] (ag gc):=ca
theorem bh:ap ["distribution","ends","weight","shape","least","greatest","end"] ["distribution"] (ag jC):=ca
theorem bg:ap ["distribution","v","strict","weight","shape","chances","chance","parts","bottom","reached"] ["distribution","v","strict"] (ag gZ):=ca
theorem dY:ap ["distribution","v","strict","found","start","place","end"] ["distribution","v","strict"] (ag tM):=ca
theorem cj:ap ["distribution","place","start","v","strict","end","low","high","at_first","middle"] ["distribution","place","start","v","strict"] (ag nB):=ca
theorem z8:ap ["distribution","place","u","v","strict","value"] ["distribution","place","u","v","strict"] (ag BU):=ca
theorem qJ:ap ["bank","reader","d","u","refusal"] ["bank","reader"] (ag D7):=ca
theorem yV:ap ["ratio"] ["ratio"] (ag rY):=ca
theorem uL:ap ["bank","reader","d","k","refusal"] ["bank","reader"] (ag Gr):=ca
theorem mH:ap ["bank","reader","d","k","n","refusal"] ["bank","reader"] (ag D2):=ca
theorem iU:ap ["bank","d","k","many","distribution","stream","numbers","ratio","i"] ["bank","d","k","many"] (ag yK):=ca
theorem nO:ap ["bank","reader","d","refusal","found"] ["bank","reader"] (ag BZ):=ca
theorem g8:ap ["bank","reader","d","refusal","distribution","answer","ratio"] ["bank","reader"] (ag z4):=ca
theorem kE:ap ["bank","reader","d","p","q","strict","refusal"] ["bank","reader"] (ag D0):=ca
theorem l4:ap ["bank","reader","d","p","q","strict","refusal"] ["bank","reader"] (ag Gu):=ca
theorem mG:ap ["bank","d","p","q","strict","refusal"] ["bank","d","p","q","strict"] (ag nu):=ca
theorem jH:ap ["bank","place","reader","call"] ["bank","place","reader"] (ag ke):=ca
theorem mE:ap ["self","k"] ["self"] (ag oi):=ca
theorem jI:ap ["calls","bank","reader","answered","answer"] ["calls"] (ag zU):=ca
theorem ph:ap ["bank","reader","place"] ["bank","reader"] (ag rS):=ca
def GK (C:Addr) (R:List V→List (Str×V)→Prop):Sp:=fun vs H Q _=>∃p dx args fs,vs= .ref p::args∧R args fs∧H p=some (.ins C dx [])∧∀H':Hp,H' p=some (.ins C dx fs)→(∀b o,H b=some o→b≠p→H' b=some o)→Q .non H'
theorem de {C x dx:Addr} {R:List V→List (Str×V)→Prop} {args:List V} {fs:List (Str×V)} {H1:Hp} {G:Hp→Prop} {E:XK} (nx:H1 x=none) (nd:H1 dx=none) (k:∀H2,H2 x=some (.ins C dx fs)→aC H1 H2→G H2) (r:R args fs):
  GK C R (.ref x::(args++ [])) (bR (bR H1 dx (.own x)) x (.ins C dx [])) (fun v H2=>v= .non∧G H2) E:=
 ⟨x,dx,args,fs,by rw [vE],r,af,fun H' h1 h2=>⟨rfl,k H' h1 (aC.made nx nd h2)⟩⟩
theorem oK {a b:Int} (h1: -(2 ^ 64)<a) (h2:a<2 ^ 64):IntMulOk a b:= .of_left (intBits_le_64 h1 h2)
theorem FX {a b:Int} (h1: -(2 ^ 64)<b) (h2:b<2 ^ 64):IntMulOk a b:= .of_right (intBits_le_64 h1 h2)
theorem aC.laid {H:Hp} {p:Addr} {o:HO} (h:H p=none):aC H (bR H p o):=fun b u e=>by
 rw [ak (aw e h)]
 exact e
section
variable {X:Cx} {x m q:Str} {st:Stmt} {ps at_:List Str} {k n:Nat} {sp:Sp} {e a b o:Expr} {es:List Expr} {t:TA} {te ta tb:TE} {p pos apos pos':Pos} {C:Addr}
theorem bi (d:Df X.K X.mg x st ps) (F:jV X.prog X.w X.K X.mg X.base AV k d.f d.fd ps sp) (hr:eR n X.A) (ha:PA X (e::es) t) (hk:k≤n:=by decide) (hg:Gl X x:=by rfl) (hdb:(x==("__debug__":Str))=false:=by decide)
  (he:starEach (e::es) X.env=(false,eval e X.env)::starEach es X.env:=by rfl) (hpl:(backTo pos (starEach es X.env)).any (·.1)=false:=by rfl):PE X (.Call (.Name x p) (e::es) [] pos) (ND sp [] E0 t):=M3 F (hr.mono hk) hg d.mgx d.F.kp d.b .nil zQ ha hdb he hpl
theorem Ag {c:Kl X.K X.mg x at_} (d:Me X.K c.C "__init__" q st ps) (F:jV X.prog X.w X.K X.mg X.base AV k d.f d.fd ps sp) (hr:eR n X.A) (ha:PA X (e::es) t) (hk:k+1≤n:=by decide) (hg:Gl X x:=by rfl) (hdb:(x==("__debug__":Str))=false:=by decide)
  (he:starEach (e::es) X.env=(false,eval e X.env)::starEach es X.env:=by rfl) (hpl:(backTo pos (starEach es X.env)).any (·.1)=false:=by rfl):PE X (.Call (.Name x p) (e::es) [] pos) (L9 c.C sp [] E0 t):=EO (c.mk' d) F (hr.mono hk) hg c.mgC d.b .nil zQ ha hdb he hpl
theorem zw {pl:Sem Bool} (ho:PE X o ta) (d:Me X.K C m q st ps) (F:jV X.prog X.w X.K X.mg X.base AV k d.f d.fd ps sp) (hr:eR n X.A) (ha:PA X (e::es) t) (hk:k≤n:=by decide)
  (hst:starEach (e::es) X.env=(false,eval e X.env)::starEach es X.env:=by rfl) (hpl:(backTo pos (starEach es X.env)).any (·.1)=false:=by rfl)
  (ht:eval (.Call (.Attribute o m apos) (e::es) [] pos) X.env=(do
   let ov ←eval o X.env
   standAt apos.atName
   let (f,first) ←holding [ov] (getMethod ov m pl)
   callWith pos f first (backTo pos (starEach (e::es) X.env)) (backToKw pos (keywordEach [] X.env))):=by rfl):PE X (.Call (.Attribute o m apos) (e::es) [] pos) (GY C m sp [] E0 ta t):=M4 ho d.cl d.meth F (hr.mono hk) d.b .nil zQ ha hst hpl ht
theorem eJ {pl:Sem Bool} (ho:PE X o ta) (d:Me X.K C m q st ps) (F:jV X.prog X.w X.K X.mg X.base AV k d.f d.fd ps sp) (hr:eR n X.A) (hk:k≤n:=by decide)
  (ht:eval (.Call (.Attribute o m apos) [] [] pos) X.env=(do
   let ov ←eval o X.env
   standAt apos.atName
   let (f,first) ←holding [ov] (getMethod ov m pl)
   callWith pos f first (backTo pos (starEach [] X.env)) (backToKw pos (keywordEach [] X.env))):=by rfl):PE X (.Call (.Attribute o m apos) [] [] pos) (GY C m sp [] E0 ta Ma):=LQ ho d.cl d.meth F (hr.mono hk) d.b .nil zQ ht
theorem fh {v:V} (g:GC X.mg x v) (hg:Gl X x:=by rfl) (hd:(x==("__debug__":Str))=false:=by decide):PE X (.Name x pos) (tC v):=Jh hg g.eq g.rel hd
theorem Jy {kvs:List (Int×V)} (g:KR X.K X.mg x kvs) (hg:Gl X x:=by rfl) (hd:(x==("__debug__":Str))=false:=by decide):PE X (.Name x pos) (tC (.ref g.a)):=Jh hg g.eq g.rel hd
theorem aZ (i:Nat) (hN:X.N.Nodup) (he:PE X e te) (hi:X.N[i]?=some x:=by rfl) (hx:NL X.env.scope x:=by first | exact Or.inl rfl | exact Or.inr rfl) (hs:swapsWith e (some (.Name x pos')) pos.line X.env=pure false:=by rfl) (hf:X.fn x=true∨X.env.scope.names.lookup x=some .local:=by first | exact .inl rfl | exact .inr rfl | assumption):
  PS X (.Assign [.Name x pos'] e pos) (Nk te (DM i)):=Oi hN hi hx he hs hf
theorem kT (i:Nat) (hN:X.N.Nodup) (hi:X.N[i]?=some x:=by rfl) (hx:NL X.env.scope x:=by first | exact Or.inl rfl | exact Or.inr rfl) (hf:X.fn x=true∨X.env.scope.names.lookup x=some .local:=by first | exact .inl rfl | exact .inr rfl | assumption):PG X (.Name x pos) (DM i):=M5 hN hi hx hf
theorem ik (ha:PE X a ta) (hb:PE X b tb) (hs:IE b:=by exact fun _ _=>rfl):PE X (.Subscript a b pos) (Pj (On X.K) ta tb):=Gf IV ha hb hs
end
end Pf
end
namespace Pf
open PySem PySem.Spec PyProof.Rows L2
section
variable {P:Program} {w:World} {K:PySem.W.Frag} {mg:Str→Option Value} {base:Heap}
def lf (f:Nat×Nat):List (Str×V):= [("factor",.int (f.1:Nat)),("summand",.int (f.2:Nat))]
def pO (T:Tx K mg) (H:Hp) (a:Addr) (f:Nat×Nat):Prop:=∃dx,H a=some (.ins T.fJ.C dx (lf f))
theorem Lq (f:Nat×Nat) (x:Nat):((f.1:Int)*(x:Int)+(f.2:Int))%18446744073709551616=((Lc.lz f x:Nat):Int):=by
 unfold Lc.lz
 rw [Int.natCast_emod,pI,b7]
 rfl
theorem FW (a b:Nat):((a:Int)*(b:Int))%18446744073709551616=((a*b%Vbdeab.P:Nat):Int):=by
 rw [Int.natCast_emod,b7]
 rfl
def Cj (T:Tx K mg):Sp:=GK T.fJ.C (fun args fs=>∃a c:Nat,args= [.int a,.int c]∧fs=lf (a,c))
theorem jz (T:Tx K mg):sr mg P w base T.jh 1 (Cj T):=by
 refine T.jh.okA B3 ?_ (by rintro _ _ _ _ ⟨p,dx,_,_,rfl,⟨a,c,rfl,rfl⟩,hp,k⟩;rfl)
 rintro _ A _ s H _ Q E hr ⟨p,dx,_,_,rfl,⟨a,c,rfl,rfl⟩,hp,k⟩
 refine⟨_,(ac (cr (pv 0) (pv 1) rfl)
   (ae (cr (pv 0) (pv 2) rfl))),?_⟩
 refine pF _ rfl _ rfl p _ dx ([]) rfl hp T.fJ.cl (T.fJ.no _ (by decide)) (by show 0<1000;decide) ?_
 refine pF _ rfl _ rfl p _ dx _ rfl af T.fJ.cl (T.fJ.no _ (by decide)) (by show 1<1000;decide) ?_
 exact k _ af fun b o e hb=>by rw [ak hb,ak hb];exact e
def xQ (T:Tx K mg):Sp:=fun vs H Q _=>∃(a:Addr) (f:Nat×Nat) (x:Nat),vs= [.ref a,.int x]∧pO T H a f∧Lc.Nr f∧Q (.int (Lc.lz f x:Nat)) H
theorem gq (T:Tx K mg):sr mg P w base T.fC 1 (xQ T):=by
 refine T.fC.okA xK ?_
 rintro _ A _ s H _ Q E hr ⟨a,f,x,rfl,⟨dx,h1⟩,nf,k⟩
 refine⟨_,(ae (aj (aB vW (aB bY (aB aJ (ao (pv 0) rfl) (pv 1)) (ao (pv 0) rfl)) (fh T.uE)))),?_⟩
 refine aM _ rfl a _ dx _ _ rfl h1 T.fJ.cl (T.fJ.no _ (by decide)) rfl (d9 _ rfl _ _ rfl rfl (oK (by have:=nf.1;omega) (by have h:=nf.1;unfold Vbdeab.P at h;omega)) ?_)
 refine aM _ rfl a _ dx _ _ rfl h1 T.fJ.cl (T.fJ.no _ (by decide)) rfl (bT _ _ rfl rfl (bP _ _ rfl rfl (by show(0:Int)<18446744073709551616;decide) ?_))
 have e:=Lq f x
 show Q (.int _) H
 rw [e]
 exact k
def Ck (T:Tx K mg):Sp:=fun vs H Q _=>∃(a b:Addr) (f g:Nat×Nat),vs= [.ref a,.ref b]∧pO T H a f∧pO T H b g∧Lc.Nr f∧Lc.Nr g∧∀(x:Addr) (H':Hp),pO T H' x (Lc.C5 f g)→aC H H'→Q (.ref x) H'
theorem mn (T:Tx K mg):sr mg P w base T.lx 3 (Ck T):=by
 refine T.lx.okA B4 ?_
 rintro _ A _ s H _ Q E hr ⟨a,b,f,g,rfl,⟨dx,h1⟩,⟨dy,h2⟩,nf,ng,k⟩
 refine⟨_,(ae (aj (Ag T.jh (jz T) hr (ab (aB vW (aB aJ (ao (pv 0) rfl) (ao (pv 1) rfl)) (fh T.uE)) (ab (zw (pv 1) T.fC (gq T) hr (ab (ao (pv 0) rfl) ad)) ad))))),?_⟩
 refine aM _ rfl a _ dx _ _ rfl h1 T.fJ.cl (T.fJ.no _ (by decide)) rfl (aM _ rfl b _ dy _ _ rfl h2 T.fJ.cl (T.fJ.no _ (by decide)) rfl (bP _ _ rfl rfl (oK (by have:=nf.1;omega) (by have h:=nf.1;unfold Vbdeab.P at h;omega)) ?_))
 refine bP _ _ rfl rfl (by show(0:Int)<18446744073709551616;decide) ?_
 refine cM _ rfl b dy _ rfl h2 rfl (aM _ rfl a _ dx _ _ rfl h1 T.fJ.cl (T.fJ.no _ (by decide)) rfl (bW b g f.2 rfl ⟨dy,h2⟩ ng ?_))
 intro x dx' nx nd _
 refine de nx nd (fun H2 e2 s2=>k x H2 ⟨dx',e2⟩ s2) (cI (f.1*g.1%Vbdeab.P) (Lc.lz g f.2) ?_ rfl)
 exact cx (fun z=> [V.int z,V.int ((Lc.lz g f.2:Nat):Int)]) (FW f.1 g.1)
def Fc (T:Tx K mg):Sp:=fun vs H Q _=>∃steps:Int,vs= [.int steps]∧∀(x:Addr) (H':Hp),pO T H' x (Lc.pw (steps%18446744073709551616).toNat)→aC H H'→Q (.ref x) H'
theorem xl (T:Tx K mg):dM P w base T.uS 4 (Fc T):=by
 refine T.uS.okA fH ?_
 rintro _ A _ s H _ Q E hr ⟨steps,rfl,k⟩
 refine⟨_,(ac (aZ 1 fH.nd (aB vW (pv 0) (fh T.uE)))
   (ac (aZ 2 fH.nd (Ag T.jh (jz T) hr (ab am (ab am ad))))
   (ac (aZ 3 fH.nd (Ag T.jh (jz T) hr (ab (fh T.CY) (ab (fh T.zG) ad))))
   (ac (lg cJ (aR vi (pv 1) am (aY _)) (ac (aT (aR rK (aB vW (pv 1) am) am (aY _)) (ae (aZ 2 fH.nd (zw (pv 2) T.lx (mn T) hr (ab (pv 3) ad)))) aG)
   (ac (aZ 3 fH.nd (zw (pv 3) T.lx (mn T) hr (ab (pv 3) ad)))
   (ae (aZ 1 fH.nd (aB cA (pv 1) am))))))
   (ae (aj (pv 2))))))),?_⟩
 refine d9 _ rfl _ _ rfl rfl (by show(0:Int)<18446744073709551616;decide) ?_
 intro a dxa na nda _
 refine de na nda (fun H1 ha s1=> ?_) (cI 1 0 rfl rfl)
 intro b dxb nb ndb _
 refine de nb ndb (fun H2 hb s2=> ?_) (cI Vbdeab.A Vbdeab.C rfl rfl)
 refine⟨fun m σ H'=>∃(l p q:Nat) (x y:Addr),m=l∧σ= [some (.int steps),some (.int l),some (.ref x),some (.ref y)]∧pO T H' x (Lc.pw p)∧pO T H' y (Lc.pw q)∧p+l*q=(steps%18446744073709551616).toNat∧aC H H',⟨(steps%18446744073709551616).toNat,?_⟩,?_⟩
 ·refine iG (steps%18446744073709551616).toNat 0 1 a b rfl ?_ ⟨dxa,s2 _ _ ha⟩ ⟨dxb,?_⟩ (by omega) (s1.trans s2)
  ·rw [cC (Int.emod_nonneg _ (by decide))]
   rfl
  ·rw [Lc.LX]
   exact hb
 ·rintro l σ H' ⟨_,p,q,x,y,rfl,rfl,⟨dx,hx⟩,⟨dy,hy⟩,e,sm⟩
  refine lu _ rfl _ _ rfl rfl _ rfl (aX (fun hl=>⟨_,fun _ _ z=>z,?_⟩) (fun hl=> ?_))
  ·have hl':0<l:=by have:=bj hl;omega
   refine d9 _ rfl _ _ rfl rfl (by show(0:Int)<2;decide) (dm rfl _ rfl (aX (fun ho=> ?_) (fun ho=> ?_)))
   ·have ho':l%2=1:=by have:=V.int.inj (bj ho);omega
    refine cM _ rfl x dx _ rfl hx rfl (gM _ rfl x y _ _ rfl ⟨dx,hx⟩ ⟨dy,hy⟩ (Lc.mv _) (Lc.mv _) fun x2 H2 hx2 sm2=> ?_)
    refine cM _ rfl y dy _ rfl (sm2 _ _ hy) rfl (gM _ rfl y y _ _ rfl ⟨dy,sm2 _ _ hy⟩ ⟨dy,sm2 _ _ hy⟩ (Lc.mv _) (Lc.mv _) fun y2 H3 hy2 sm3=> ?_)
    refine d9 _ rfl _ _ rfl rfl ⟨by decide,by decide+kernel⟩ ?_
    obtain⟨e1,e2⟩:=Lc.Lu (a:=p) (b:=q) ho'
    rw [e1] at hx2
    rw [←Lc.oh] at hy2
    obtain⟨dx2,hx2⟩:=hx2
    exact aM (l /2) (by omega) (l /2) (p+q) (q+q) x2 y2 rfl rfl ⟨dx2,sm3 _ _ hx2⟩ hy2 (by rw [e2];exact e) ((sm.trans sm2).trans sm3)
   ·have ho':l%2=0:=by
     have:¬((l:Int)%2=1):=fun z=>ho (aE (cx V.int z))
     omega
    refine cM _ rfl y dy _ rfl hy rfl (gM _ rfl y y _ _ rfl ⟨dy,hy⟩ ⟨dy,hy⟩ (Lc.mv _) (Lc.mv _) fun y2 H3 hy2 sm3=> ?_)
    refine d9 _ rfl _ _ rfl rfl ⟨by decide,by decide+kernel⟩ ?_
    rw [←Lc.oh] at hy2
    exact aM (l /2) (by omega) (l /2) p (q+q) x y2 rfl rfl ⟨dx,sm3 _ _ hx⟩ hy2 (by rw [Lc.J5 ho'];exact e) (sm.trans sm3)
  ·have hl':l=0:=by
    have:¬((0:Int)<(l:Int)):=fun z=>hl (aE z)
    omega
   subst hl'
   refine⟨_,rfl,?_⟩
   rw [Nat.zero_mul,lP] at e
   rw [←e] at k
   exact k x H' ⟨dx,hx⟩ sm
theorem pP (a b:Nat):Builtin.bitAnd (a:Int) (b:Int)=((a &&& b:Nat):Int):=by
 rfl
def Dk (T:Tx K mg):Sp:=fun vs H Q _=>∃x y:Nat,vs= [.int x,.int y]∧x<Vbdeab.P∧y<Vbdeab.P∧∀H':Hp,aC H H'→Q (.int (Vbdeab.far x y:Nat)) H'
theorem vh (T:Tx K mg):dM P w base T.rj 4 (Dk T):=by
 refine T.rj.okA dI ?_
 rintro _ A _ s H _ Q E hr ⟨x,y,rfl,hx,hy,k⟩
 refine⟨_,(ac (aZ 2 dI.nd (pv 0))
   (ac (aZ 3 dI.nd (Ag T.jh (jz T) hr (ab (fh T.CY) (ab (fh T.zG) ad))))
   (ac (aZ 4 dI.nd am)
   (ac (aZ 5 dI.nd am)
   (ac (lg cJ (aR Jg (pv 2) (pv 1) (aY _)) (ac (aT (aR Jg (aB LI (pv 2) (pv 4)) (aB LI (pv 1) (pv 4)) (aY _)) (ac (aZ 2 dI.nd (zw (pv 3) T.fC (gq T) hr (ab (pv 2) ad)))
   (ae (og (i:=5) dI.nd rfl (Or.inl rfl) (pv 4) ml))) aG)
   (ac (aZ 3 dI.nd (zw (pv 3) T.lx (mn T) hr (ab (pv 3) ad)))
   (ae (aZ 4 dI.nd (aB aJ (pv 4) am))))))
   (ae (aj (pv 5)))))))),?_⟩
 refine⟨_,rfl,?_⟩
 intro a dxa na nda _
 refine de na nda (fun H1 ha s1=> ?_) (cI Vbdeab.A Vbdeab.C rfl rfl)
 refine⟨fun m σ H'=>∃(j st n:Nat) (b:Addr),m+j=64∧σ= [some (.int x),some (.int y),some (.int st),some (.ref b),some (.int (2 ^ j:Nat)),some (.int n)]∧pO T H' b (Lc.sq j)∧st<Vbdeab.P∧st%2 ^ j=y%2 ^ j∧Vbdeab.far x y=n+farFrom m j st y∧aC H H',⟨64,?_⟩,?_⟩
 ·exact jY 0 x 0 a rfl rfl ⟨dxa,ha⟩ hx (fe (by rw [Nat.pow_zero,Nat.mod_one,Nat.mod_one]) (by rw [i3];rfl) s1)
 ·rintro m σ H' ⟨j,st,n,b,hm,rfl,⟨db,hb⟩,hst,hlow,hfar,sm⟩
  refine bH _ rfl (eK _ rfl rfl _ rfl (aX (fun hl=>⟨_,fun _ _ z=>z,?_⟩) (fun hl=> ?_)))
  ·have hne:st≠y:=fun z=>by rw [z] at hl;simp at hl
   have hj:j<64:=by
    rcases so j 64 with q | q
    ·exact q
    ·have:j=64:=by omega
     subst this
     exact absurd (Lc.KZ hst hy hlow) hne
   obtain⟨m',rfl⟩:∃m',m=m'+1:=⟨m - 1,by omega⟩
   have hnr:Lc.Nr (Lc.sq j):=by rw [Lc.Jp];exact Lc.mv _
   have e2:(((2 ^ j:Nat):Int))*2=((2 ^ (j+1):Nat):Int):=by rw [mO,b7];rfl
   refine eV _ rfl _ rfl _ _ rfl rfl (eV _ rfl _ rfl _ _ rfl rfl (dm rfl _ rfl (aX (fun ho=> ?_) (fun ho=> ?_))))
   ·have hbit:¬(st%2 ^ (j+1)=y%2 ^ (j+1)):=fun z=>by
     have q:=(Lc.IJ hlow).mpr z
     have q2:V.int (Builtin.bitAnd (st:Int) ((2 ^ j:Nat):Int))=V.int (Builtin.bitAnd (y:Int) ((2 ^ j:Nat):Int)):=by rw [pP,pP,q]
     rw [aE q2] at ho
     cases ho
    refine cM _ rfl b db _ rfl hb rfl (cM _ rfl b _ st rfl ⟨db,hb⟩ hnr ?_)
    refine eV _ rfl _ rfl _ _ rfl rfl ?_
    refine cM _ rfl b db _ rfl hb rfl (gM _ rfl b b _ _ rfl ⟨db,hb⟩ ⟨db,hb⟩ hnr hnr fun b2 H3 hb2 sm3=> ?_)
    refine d9 _ rfl _ _ rfl rfl (FX (by decide) (by decide)) ?_
    refine bO m' (by omega) (j+1) (Lc.lz (Lc.sq j) st) (n+2 ^ j) b2 (by omega) ?_ hb2 (Lc.EA _ _) (fe (Lc.Nh hj hlow hbit) ?_ (sm.trans sm3))
    ·rw [←e2,pI]
     rfl
    ·rw [hfar,Lc.NZ hj hbit,ye]
   ·have hbit:st%2 ^ (j+1)=y%2 ^ (j+1):=by
     apply (Lc.IJ hlow).mp
     by_cases q2:V.int (Builtin.bitAnd (st:Int) ((2 ^ j:Nat):Int))=V.int (Builtin.bitAnd (y:Int) ((2 ^ j:Nat):Int))
     ·have q3:=V.int.inj q2
      rw [pP,pP] at q3
      exact Int.ofNat.inj q3
     ·exact absurd (by show(!decide _)=true;rw [bq q2];rfl) ho
    refine cM _ rfl b db _ rfl hb rfl (gM _ rfl b b _ _ rfl ⟨db,hb⟩ ⟨db,hb⟩ hnr hnr fun b2 H3 hb2 sm3=> ?_)
    refine d9 _ rfl _ _ rfl rfl (FX (by decide) (by decide)) ?_
    refine bO m' (by omega) (j+1) st n b2 (by omega) ?_ hb2 hst (fe hbit ?_ (sm.trans sm3))
    ·rw [←e2]
     rfl
    ·rw [hfar,Lc.NX hbit]
  ·have heq:st=y:=by
    by_cases q:st=y
    ·exact q
    ·have q':¬V.int (st:Int)=V.int (y:Int):=fun z=>q (Int.ofNat.inj (V.int.inj z))
     exact absurd (by rw [bq q'];rfl) hl
   subst heq
   refine⟨_,rfl,?_⟩
   rw [Lc.FH,lP] at hfar
   rw [hfar] at k
   exact k H' sm
def GO (T:Tx K mg):Sp:=fun vs H Q _=>∃n a b:Int,vs= [.int n,.int a,.int b]∧Q (.bl (decide (a≤n∧n≤b))) H
theorem a7 (T:Tx K mg):dM P w base T.bU 1 (GO T):=by
 refine T.bU.okA GB ?_
 rintro _ A _ s H _ Q E hr ⟨n,a,b,rfl,k⟩
 refine⟨_,(ae (aj (LO NA NA (pv 1) (pv 0) (pv 2)))),?_⟩
 refine bH _ rfl (lu _ rfl _ _ rfl rfl _ rfl (aX (fun h1=>(cv _ rfl _ _ rfl rfl ?_)) (fun h1=> ?_)))
 ·have h1':a≤n:=bj h1
  have e:decide (a≤n∧n≤b)=decide (n≤b):=by by_cases q:n≤b<;>simp [q,h1']
  rw [e] at k
  exact k
 ·have h1':¬a≤n:=fun z=>h1 (aE z)
  have e:decide (a≤n∧n≤b)=false:=bq fun z=>h1' z.1
  rw [e] at k
  exact k
def Cq (T:Tx K mg):Sp:=fun vs H Q _=>∃n:Int,vs= [.int n]∧Q (.bl (decide (0≤n∧n≤63))) H
theorem a5 (T:Tx K mg):dM P w base T.bA 2 (Cq T):=by
 refine T.bA.okA Ca ?_
 rintro _ A _ s H _ Q E hr ⟨n,rfl,k⟩
 refine⟨_,(ae (aj (bi T.bU (a7 T) hr (ab (pv 0) (ab am (ab (aB b9 (fh T.zF) am) ad)))))),?_⟩
 exact cv _ rfl _ _ rfl rfl ⟨n,(cI 0 63 rfl k)⟩
def Dn (T:Tx K mg):Sp:=fun vs H Q _=>∃n:Int,vs= [.int n]∧Q (.bl (decide (0≤n∧n≤18446744073709551615))) H
theorem fT (T:Tx K mg):dM P w base T.gS 2 (Dn T):=by
 refine T.gS.okA Dg ?_
 rintro _ A _ s H _ Q E hr ⟨n,rfl,k⟩
 refine⟨_,(ae (aj (bi T.bU (a7 T) hr (ab (pv 0) (ab am (ab (aB b9 (fh T.uE) am) ad)))))),?_⟩
 exact cv _ rfl _ _ rfl rfl ⟨n,(cI 0 _ rfl k)⟩
def Cp (T:Tx K mg):Sp:=fun vs H Q _=>∃n:Int,vs= [.int n]∧Q (.bl (decide (0≤n∧n≤1000))) H
theorem gA (T:Tx K mg):dM P w base T.gR 2 (Cp T):=by
 refine T.gR.okA B9 ?_
 rintro _ A _ s H _ Q E hr ⟨n,rfl,k⟩
 refine⟨_,(ae (aj (bi T.bU (a7 T) hr (ab (pv 0) (ab am (ab (fh T.Hl) ad)))))),?_⟩
 exact fy _ rfl n 0 (bH _ rfl k)
def Dl (T:Tx K mg):Sp:=fun vs H Q _=>∃n:Int,vs= [.int n]∧Q (.bl (decide (-1000000000000000000≤n∧n≤1000000000000000000))) H
theorem fS (T:Tx K mg):dM P w base T.gQ 2 (Dl T):=by
 refine T.gQ.okA Dd ?_
 rintro _ A _ s H _ Q E hr ⟨n,rfl,k⟩
 refine⟨_,(ae (aj (bi T.bU (a7 T) hr (ab (pv 0) (ab (Ji Fi (fh T.kS)) (ab (fh T.kS) ad)))))),?_⟩
 exact bH _ rfl (fy _ rfl n (-1000000000000000000) (bH _ rfl k))
theorem pC:∀{l:List Int},(∀x∈l,0≤x)→l.sum=((Vbdeab.sum (l.map Int.toNat):Nat):Int)
 | [],_=>rfl
 | a::r,h=>by
  rw [Al,pC fun x hx=>h x (dU _ hx),eY,Ch.sum_cons,pI,cC (h a fB)]
theorem jM {l:List Int} (h:(weights l).isSome=true):(∀x∈l,0≤x)∧weights l=some (l.map Int.toNat)∧1≤l.length∧l.length≤64∧1≤Vbdeab.sum (l.map Int.toNat)∧Vbdeab.sum (l.map Int.toNat)≤10 ^ 40:=by
 unfold weights at h⊢
 split at h
 ·rename_i hc
  obtain⟨h1,h2⟩:=hc
  rw [if_pos ⟨h1,h2⟩]
  unfold weightsOk LIMIT at h2
  simp only [yb,fz,aD] at h2
  exact fe (fun x hx=>bj (Ai.mp h1 x hx)) rfl (bZ h2.1.1.1 h2.1.1.2 h2.1.2 h2.2)
 ·cases h
theorem qZ {l:List Int} (h:¬((∀x∈l,0≤x)∧1≤l.length∧l.length≤64∧1≤l.sum∧l.sum≤10000000000000000000000000000000000000000)):(weights l).isSome=false:=by
 cases e:(weights l).isSome with
 | false=>rfl
 | true=>
  obtain⟨h1,_,h2,h3,h4,h5⟩:=jM e
  refine absurd ⟨h1,(bZ h2 h3 ?_ ?_)⟩ h
  ·rw [pC h1];omega
  ·rw [pC h1]
   have:((Vbdeab.sum (l.map Int.toNat):Nat):Int)≤((10 ^ 40:Nat):Int):=Int.ofNat_le.mpr h5
   exact this
theorem Iw {l:List Int} (h:(∀x∈l,0≤x)∧1≤l.length∧l.length≤64∧1≤l.sum∧l.sum≤10000000000000000000000000000000000000000):(weights l).isSome=true:=by
 obtain⟨h1,h2,h3,h4,h5⟩:=h
 unfold weights
 rw [pC h1] at h4 h5
 rw [if_pos]
 ·rfl
 ·refine⟨Ai.mpr fun x hx=>aE (h1 x hx),?_⟩
  unfold weightsOk LIMIT
  simp only [yb,fz,aD]
  exact⟨⟨⟨h2,h3⟩,by omega⟩,Int.ofNat_le.mp (show((Vbdeab.sum (l.map Int.toNat):Nat):Int)≤((10 ^ 40:Nat):Int) from h5)⟩
def zc (T:Tx K mg):Sp:=fun vs H Q _=>∃(a:Addr) (ns:List Int),vs= [.ref a]∧a4 K H a (ns.map V.int)∧Q (.bl (weights ns).isSome) H
theorem kt (T:Tx K mg):dM P w base T.iH 2 (zc T):=by
 refine T.iH.okA yP ?_
 rintro _ A _ s H _ Q E hr ⟨a,ns,rfl,hs,k⟩
 refine⟨_,(ac (aT (aV (aS (bi T.bU (a7 T) hr (ab (a8 aW (by rfl) T.gu eh (ab (pv 0) ad)) (ab am (ab (fh T.C0) ad)))))) (ae (aj NB)) aG)
   (ac (aT (aR ld (a8 (NV rfl) (by rfl) T.Mr (by rfl) (ab (pv 0) ad)) am (aY _)) (ae (aj NB)) aG)
   (ae (aj (bi T.bU (a7 T) hr (ab (a8 (Er rfl) (by rfl) T.JD (by rfl) (ab (pv 0) ad)) (ab am (ab (fh T.CZ) ad)))))))),?_⟩
 refine cv _ rfl a _ rfl (.inl hs) (ot _ _ (bB _ rfl _ rfl (aX (fun h1=> ?_) (fun h1=> ?_))))
 ·rw [qZ fun z=>by rw [aD] at h1;simp at h1;omega] at k
  exact k
 ·have hl:1≤ns.length∧ns.length≤64:=by
   rw [aD] at h1
   simp at h1
   omega
  refine d9 _ rfl a ns rfl hs hl.1 fun m hm hle=>⟨_,(eK _ rfl rfl _ rfl (aX (fun h2=> ?_) (fun h2=> ?_)))⟩
  ·have h2':m<0:=bj h2
   rw [qZ fun z=>by have:=z.1 m hm;omega] at k
   exact k
  ·have h2':0≤m:=Int.not_lt.mp fun z=>h2 (aE z)
   have hnn:∀x∈ns,0≤x:=fun x hx=>Int.le_trans h2' (hle x hx)
   refine cv _ rfl a ns rfl hs ⟨_,(cI _ _ rfl ?_)⟩
   by_cases q:1≤ns.sum∧ns.sum≤10000000000000000000000000000000000000000
   ·rw [Iw ⟨hnn,(bZ hl.1 hl.2 q.1 q.2)⟩] at k
    rw [aE q]
    exact k
   ·rw [qZ fun z=>q ⟨z.2.2.2.1,z.2.2.2.2⟩] at k
    rw [bq q]
    exact k
def Sz (m:Nat) (x:Int):Prop:=x.natAbs<2 ^ m
theorem Sz.mono {m n:Nat} {x:Int} (h:Sz m x) (k:m≤n):Sz n x:=gO h (Nat.pow_le_pow_right (by decide) k)
theorem Sz.mul {m n k:Nat} {x y:Int} (h:Sz m x) (g:Sz n y) (e:m+n≤k:=by decide):Sz k (x*y):=by
 refine Sz.mono (m:=m+n) ?_ e
 show(x*y).natAbs<2 ^ (m+n)
 rw [Int.natAbs_mul,Nat.pow_add]
 exact Nat.mul_lt_mul'' h g
theorem Sz.add {m n k:Nat} {x y:Int} (h:Sz m x) (g:Sz n y) (e1:m+1≤k:=by decide) (e2:n+1≤k:=by decide):Sz k (x+y):=by
 have h1:x.natAbs<2 ^ (k - 1):=h.mono (by omega)
 have h2:y.natAbs<2 ^ (k - 1):=g.mono (by omega)
 show(x+y).natAbs<2 ^ k
 have e:2 ^ k=2 ^ (k - 1)*2:=by rw [←mO];congr 1;omega
 rw [e]
 omega
theorem Sz.neg {m:Nat} {x:Int} (h:Sz m x):Sz m (-x):=by show(-x).natAbs<_;rw [Int.natAbs_neg];exact h
theorem Sz.sub {m n k:Nat} {x y:Int} (h:Sz m x) (g:Sz n y) (e1:m+1≤k:=by decide) (e2:n+1≤k:=by decide):Sz k (x - y):=by
 rw [Int.sub_eq_add_neg]
 exact h.add g.neg e1 e2
theorem Sz.le {m:Nat} {x y:Int} (h:Sz m y) (e:x.natAbs≤y.natAbs):Sz m x:=nY e h
theorem Sz.ediv {m:Nat} {x y:Int} (h:Sz m x) (hy:0<y):Sz m (x /y):=by
 refine h.le ?_
 have k1:=Int.ediv_mul_le x (show y≠0 by omega)
 have k2:=JA x hy
 generalize x /y=d at*
 by_cases hd:0≤d
 ·have:d*1≤d*y:=CH (by omega) hd
  omega
 ·have:(d+1)*y≤(d+1)*1:=Mp (by omega) (by omega)
  omega
theorem Sz.emod {m:Nat} {x y:Int} (h:Sz m y) (hy:0<y):Sz m (x%y):=by
 refine h.le ?_
 have:=Int.emod_nonneg x (show y≠0 by omega)
 have:=Int.emod_lt_of_pos x hy
 omega
theorem bC {m n:Nat} {x y:Int} (h:Sz m x) (g:Sz n y) (e:m+n≤134217728:=by decide):IntMulOk x y:= .of_le (PySem.intBits_le_iff.mpr h) (PySem.intBits_le_iff.mpr g) e
theorem pS {x y:Int} (h:0<y) (g:Sz 9000 y):No x y:=⟨h,(Nat.log2_lt (by omega)).mpr g⟩
def QD (n d:Int):List (Str×V):= [("top",.int n),("bottom",.int d)]
def fG (T:Tx K mg) (H:Hp) (a:Addr) (n d:Int):Prop:=∃dx,H a=some (.ins T.aA.C dx (QD n d))
def jW (T:Tx K mg) (H:Hp) (a:Addr) (q:Vbdeab.Q):Prop:=fG T H a q.num (q.den:Int)
def hX (H H':Hp):Prop:=∀b C dx fs,H b=some (.ins C dx fs)→H' b=some (.ins C dx fs)
theorem aC.i {H H':Hp} (s:aC H H'):hX H H':=fun b C dx fs e=>s _ _ e
theorem hX.lst {H:Hp} {D:Addr} {xs:List V} {o:HO} (h:H D=some (.lst xs)):hX H (bR H D o):=fun b C dx fs e=>by
 rw [ak (bf e h (by intro z;cases z))]
 exact e
theorem fG.si {T:Tx K mg} {H H':Hp} {a:Addr} {n d:Int} (h:fG T H a n d) (s:hX H H'):fG T H' a n d:=let ⟨dx,e⟩:=h;⟨dx,s _ _ _ _ e⟩
theorem jW.si {T:Tx K mg} {H H':Hp} {a:Addr} {q:Vbdeab.Q} (h:jW T H a q) (s:hX H H'):jW T H' a q:=fG.si h s
theorem fG.same {T:Tx K mg} {H H':Hp} {a:Addr} {n d:Int} (h:fG T H a n d) (s:aC H H'):fG T H' a n d:=let ⟨dx,e⟩:=h;⟨dx,s _ _ e⟩
theorem jW.same {T:Tx K mg} {H H':Hp} {a:Addr} {q:Vbdeab.Q} (h:jW T H a q) (s:aC H H'):jW T H' a q:=fG.same h s
def OQ (T:Tx K mg) (H:Hp) (v:V) (o:Option Vbdeab.Q):Prop:=match o with
 | none=>v= .non
 | some q=>∃x,v= .ref x∧jW T H x q
theorem OQ.same {T:Tx K mg} {H H':Hp} {v:V} {o:Option Vbdeab.Q} (h:OQ T H v o) (s:aC H H'):OQ T H' v o:=by
 cases o with
 | none=>exact h
 | some q=>obtain⟨x,e,h⟩:=h;exact⟨x,e,h.same s⟩
theorem oM {p:Prop} [Decidable p] (h:(!decide p)=true):¬p:=fun q=>by rw [aE q] at h;cases h
theorem oN {p:Prop} [Decidable p] (h:¬(!decide p)=true):p:=by
 by_cases q:p
 ·exact q
 ·exact absurd (by rw [bq q];rfl) h
theorem aC.refl' (H:Hp):aC H H:=fun _ _ e=>e
def AH (T:Tx K mg):Sp:=GK T.aA.C (fun args fs=>∃n d:Int,args= [.int n,.int d]∧fs=QD n d)
theorem a9 (T:Tx K mg):sr mg P w base T.bo 1 (AH T):=by
 refine T.bo.okA AA ?_ (by rintro _ _ _ _ ⟨p,dx,_,_,rfl,⟨n,d,rfl,rfl⟩,hp,k⟩;rfl)
 rintro _ A _ s H _ Q E hr ⟨p,dx,_,_,rfl,⟨n,d,rfl,rfl⟩,hp,k⟩
 refine⟨_,(ac (cr (pv 0) (pv 1) rfl)
   (ae (cr (pv 0) (pv 2) rfl))),?_⟩
 refine pF _ rfl _ rfl p _ dx _ rfl hp T.aA.cl (T.aA.no _ (by decide)) (by show 0<1000;decide) ?_
 refine pF _ rfl _ rfl p _ dx _ rfl af T.aA.cl (T.aA.no _ (by decide)) (by show 1<1000;decide) ?_
 exact k _ af fun b o e hb=>by rw [ak hb,ak hb];exact e
def u7 (T:Tx K mg):Sp:=fun vs H Q _=>∃a b:Int,vs= [.int a,.int b]∧0<b∧Q (.int (Nat.gcd a.natAbs b.toNat:Nat)) H
theorem dj (T:Tx K mg):dM P w base T.cU 1 (u7 T):=by
 refine T.cU.okA dk ?_
 rintro _ A _ s H _ Q E hr ⟨a,b,rfl,hb,k⟩
 refine⟨_,(ac (aZ 2 dk.nd (pv 0))
   (ac (aZ 3 dk.nd (pv 1))
   (ac (lg cJ (aR vi (pv 3) am (aY _)) (ac (aZ 4 dk.nd (aB vW (pv 2) (pv 3)))
   (ac (aZ 2 dk.nd (pv 3))
   (ae (aZ 3 dk.nd (pv 4))))))
   (ae (aj (pv 2)))))),?_⟩
 refine bc _ rfl _ rfl (fun m σ H'=>∃(l s:Int) (v:Option V),m=s.toNat∧0≤s∧σ= [some (.int a),some (.int b),some (.int l),some (.int s),v]∧Nat.gcd l.natAbs s.natAbs=Nat.gcd a.natAbs b.toNat∧(s=0→0≤l)∧H'=H) (jZ b.toNat a b none rfl (by omega) rfl (by rw [show b.natAbs=b.toNat by omega]) (fun z=>by omega) rfl) ?_
 rintro m σ H' ⟨l,s,v,rfl,hs,rfl,hg,hl,rfl⟩
 refine lu _ rfl _ _ rfl rfl _ rfl (aX (fun ht=>⟨_,fun _ _ z=>z,?_⟩) (fun ht=> ?_))
 ·have hs':0<s:=bj ht
  refine bH _ rfl (d9 _ rfl _ _ rfl rfl hs' ?_)
  refine bB _ rfl _ rfl ?_
  have h1:=Int.emod_nonneg l (show s≠0 by omega)
  have h2:=Int.emod_lt_of_pos l hs'
  exact cM (l%s).toNat (by omega) s (l%s) _ rfl h1 rfl (fe (by rw [←hg];exact Kd.Lh hs') (fun _=>hs) rfl)
 ·have hs':¬0<s:=fun z=>ht (aE z)
  have e:s=0:=by omega
  subst e
  refine⟨_,rfl,?_⟩
  have h0:=hl rfl
  rw [←hg] at k
  have e2:((Nat.gcd l.natAbs (0:Int).natAbs:Nat):Int)=l:=by rw [show(0:Int).natAbs=0 from rfl,Nat.gcd_zero_right];omega
  rw [e2] at k
  exact k
theorem dG {n d:Int} (h:0<d):(0:Int)<((Nat.gcd n.natAbs d.toNat:Nat):Int):=by
 have:=Hj n.natAbs (n:=d.toNat) (by omega)
 omega
theorem k7 {n d:Int} {m:Nat} (h:0<d) (z:Sz m d):Sz m ((Nat.gcd n.natAbs d.toNat:Nat):Int):=by
 refine z.le ?_
 have:=Nat.gcd_le_right n.natAbs (n:=d.toNat) (by omega)
 omega
def xS (T:Tx K mg):Sp:=fun vs H Q _=>∃(a:Addr) (n d:Int),vs= [.ref a]∧fG T H a n d∧0<d∧Sz 9000 d∧∀(x:Addr) (H':Hp),jW T H' x (Vbdeab.mkQ n d.toNat)→aC H H'→Q (.ref x) H'
theorem eT (T:Tx K mg):sr mg P w base T.eI 3 (xS T):=by
 refine T.eI.okA nH ?_
 rintro _ A _ s H _ Q E hr ⟨a,n,d,rfl,⟨dx,h1⟩,hd,hz,k⟩
 refine⟨_,(ac (aZ 1 nH.nd (bi T.cU (dj T) hr (ab (ao (pv 0) rfl) (ab (ao (pv 0) rfl) ad))))
   (ae (aj (Ag T.bo (a9 T) hr (ab (aB cA (ao (pv 0) rfl) (pv 1)) (ab (aB cA (ao (pv 0) rfl) (pv 1)) ad)))))),?_⟩
 refine aM _ rfl a _ dx _ _ rfl h1 T.aA.cl (T.aA.no _ (by decide)) rfl (aM _ rfl a _ dx _ _ rfl h1 T.aA.cl (T.aA.no _ (by decide)) rfl (bT n d rfl hd ?_))
 have hg:=dG (n:=n) hd
 have hgz:=k7 (n:=n) hd hz
 refine aM _ rfl a _ dx _ _ rfl h1 T.aA.cl (T.aA.no _ (by decide)) rfl (d9 _ rfl _ _ rfl rfl (pS hg hgz) (aM _ rfl a _ dx _ _ rfl h1 T.aA.cl (T.aA.no _ (by decide)) rfl (d9 _ rfl _ _ rfl rfl (pS hg hgz) ?_)))
 intro x dx' nx nd _
 refine de nx nd (fun H2 e2 s2=>k x H2 ⟨dx',?_⟩ s2) (cI _ _ rfl rfl)
 rw [e2,Kd.EE hd,Kd.ED hd]
def yX (T:Tx K mg):Sp:=fun vs H Q _=>∃(a b:Addr) (n d m e:Int),vs= [.ref a,.ref b]∧fG T H a n d∧fG T H b m e∧IntMulOk n m∧IntMulOk d e∧∀(x:Addr) (H':Hp),fG T H' x (n*m) (d*e)→aC H H'→Q (.ref x) H'
theorem oO (T:Tx K mg):sr mg P w base T.kU 3 (yX T):=by
 refine T.kU.okA yL ?_
 rintro _ A _ s H _ Q E hr ⟨a,b,n,d,m,e,rfl,⟨dx,h1⟩,⟨dy,h2⟩,m1,m2,k⟩
 refine⟨_,(ae (aj (Ag T.bo (a9 T) hr (ab (aB aJ (ao (pv 0) rfl) (ao (pv 1) rfl)) (ab (aB aJ (ao (pv 0) rfl) (ao (pv 1) rfl)) ad))))),?_⟩
 refine aM _ rfl a _ dx _ _ rfl h1 T.aA.cl (T.aA.no _ (by decide)) rfl (aM _ rfl b _ dy _ _ rfl h2 T.aA.cl (T.aA.no _ (by decide)) rfl (bP _ _ rfl rfl m1 (aM _ rfl a _ dx _ _ rfl h1 T.aA.cl (T.aA.no _ (by decide)) rfl (aM _ rfl b _ dy _ _ rfl h2 T.aA.cl (T.aA.no _ (by decide)) rfl (bP _ _ rfl rfl m2 ?_)))))
 intro x dx' nx nd _
 exact de nx nd (fun H2 e2 s2=>k x H2 ⟨dx',e2⟩ s2) (cI _ _ rfl rfl)
def AI (T:Tx K mg):Sp:=fun vs H Q _=>∃(a b:Addr) (n d m e:Int),vs= [.ref a,.ref b]∧fG T H a n d∧fG T H b m e∧IntMulOk n e∧IntMulOk m d∧IntMulOk d e∧∀(x:Addr) (H':Hp),fG T H' x (n*e+m*d) (d*e)→aC H H'→Q (.ref x) H'
theorem Ar (T:Tx K mg):sr mg P w base T.rb 3 (AI T):=by
 refine T.rb.okA AB ?_
 rintro _ A _ s H _ Q E hr ⟨a,b,n,d,m,e,rfl,⟨dx,h1⟩,⟨dy,h2⟩,m1,m2,m3,k⟩
 refine⟨_,(ae (aj (Ag T.bo (a9 T) hr (ab (aB bY (aB aJ (ao (pv 0) rfl) (ao (pv 1) rfl)) (aB aJ (ao (pv 1) rfl) (ao (pv 0) rfl))) (ab (aB aJ (ao (pv 0) rfl) (ao (pv 1) rfl)) ad))))),?_⟩
 refine aM _ rfl a _ dx _ _ rfl h1 T.aA.cl (T.aA.no _ (by decide)) rfl (aM _ rfl b _ dy _ _ rfl h2 T.aA.cl (T.aA.no _ (by decide)) rfl (bP _ _ rfl rfl m1 (aM _ rfl b _ dy _ _ rfl h2 T.aA.cl (T.aA.no _ (by decide)) rfl (aM _ rfl a _ dx _ _ rfl h1 T.aA.cl (T.aA.no _ (by decide)) rfl (jo _ _ rfl rfl m2 _ _ rfl rfl (aM _ rfl a _ dx _ _ rfl h1 T.aA.cl (T.aA.no _ (by decide)) rfl (aM _ rfl b _ dy _ _ rfl h2 T.aA.cl (T.aA.no _ (by decide)) rfl (bP _ _ rfl rfl m3 ?_))))))))
 intro x dx' nx nd _
 exact de nx nd (fun H2 e2 s2=>k x H2 ⟨dx',e2⟩ s2) (cI _ _ rfl rfl)
def u6 (T:Tx K mg):Sp:=fun vs H Q _=>∃(a b:Addr) (n d m e:Int),vs= [.ref a,.ref b]∧fG T H a n d∧fG T H b m e∧IntMulOk n e∧IntMulOk m d∧Q (.bl (decide (n*e<m*d))) H
theorem fq (T:Tx K mg):sr mg P w base T.eA 1 (u6 T):=by
 refine T.eA.okA uZ ?_
 rintro _ A _ s H _ Q E hr ⟨a,b,n,d,m,e,rfl,⟨dx,h1⟩,⟨dy,h2⟩,m1,m2,k⟩
 refine⟨_,(ae (aj (EN ld (aB aJ (ao (pv 0) rfl) (ao (pv 1) rfl)) (aB aJ (ao (pv 1) rfl) (ao (pv 0) rfl)) (aY _)))),?_⟩
 exact aM _ rfl a _ dx _ _ rfl h1 T.aA.cl (T.aA.no _ (by decide)) rfl (aM _ rfl b _ dy _ _ rfl h2 T.aA.cl (T.aA.no _ (by decide)) rfl (bP _ _ rfl rfl m1 (aM _ rfl b _ dy _ _ rfl h2 T.aA.cl (T.aA.no _ (by decide)) rfl (aM _ rfl a _ dx _ _ rfl h1 T.aA.cl (T.aA.no _ (by decide)) rfl (jo _ _ rfl rfl m2 _ _ rfl rfl k)))))
theorem Ev {n d:Int} (h:1≤d):Vbdeab.fraction n d=if (-1000000000000000000≤(Vbdeab.mkQ n d.toNat).num∧(Vbdeab.mkQ n d.toNat).num≤1000000000000000000)∧¬1000000000000000000<(((Vbdeab.mkQ n d.toNat).den:Nat):Int) then some (Vbdeab.mkQ n d.toNat) else none:=by
 unfold Vbdeab.fraction
 have hp:=(Fr.Iz.mk' (n:=n) (d:=d) (by omega)).pos
 have hB:Vbdeab.BIG=1000000000000000000:=rfl
 have e:(1≤d∧(Vbdeab.mkQ n d.toNat).small=true)↔((-1000000000000000000≤(Vbdeab.mkQ n d.toNat).num∧(Vbdeab.mkQ n d.toNat).num≤1000000000000000000)∧¬1000000000000000000<(((Vbdeab.mkQ n d.toNat).den:Nat):Int)):=by
  unfold Vbdeab.Q.small
  rw [yb,yb,fz,fz,fz,hB]
  omega
 by_cases c:1≤d∧(Vbdeab.mkQ n d.toNat).small=true
 ·rw [if_pos c,if_pos (e.mp c)]
 ·rw [if_neg c,if_neg fun z=>c (e.mpr z)]
def zn (T:Tx K mg):Sp:=fun vs H Q _=>∃n d:Int,vs= [.int n,.int d]∧Sz 9000 d∧∀(v:V) (H':Hp),OQ T H' v (Vbdeab.fraction n d)→aC H H'→Q v H'
theorem cp (T:Tx K mg):dM P w base T.cK 4 (zn T):=by
 refine T.cK.okA pk ?_
 rintro _ A _ s H _ Q E hr ⟨n,d,rfl,hz,k⟩
 refine⟨_,(ac (aT (aR ld (pv 1) am (aY _)) (ae (aj cY)) aG)
   (ac (aZ 2 pk.nd (eJ (Ag T.bo (a9 T) hr (ab (pv 0) (ab (pv 1) ad))) T.eI (eT T) hr))
   (ac (aT (lh (h9 (aV (aS (bi T.gQ (fS T) hr (ab (ao (pv 2) rfl) ad)))) (ig (aR vi (ao (pv 2) rfl) (fh T.kS) (aY _))))) (ae (aj cY)) aG)
   (ae (aj (pv 2)))))),?_⟩
 refine lu _ rfl _ _ rfl rfl _ rfl (aX (fun h1=> ?_) (fun h1=> ?_))
 ·have h1':d<1:=bj h1
  refine k .non H ?_ (aC.refl' H)
  have e:Vbdeab.fraction n d=none:=by unfold Vbdeab.fraction;rw [if_neg fun z=>by omega]
  rw [e]
  exact rfl
 ·have h1':1≤d:=Int.not_lt.mp fun z=>h1 (aE z)
  rw [Ev h1'] at k
  refine bB _ rfl _ rfl ?_
  intro x dx nx nd _
  refine de nx nd (fun H2 e2 s2=> ?_) (cI n d rfl rfl)
  refine bW x dx _ rfl e2 rfl (iY x n d rfl ⟨dx,e2⟩ (by omega) hz fun y H3 ⟨dy,e3⟩ s3=> ?_)
  have s:=s2.trans s3
  refine aM _ rfl y _ dy _ _ rfl e3 T.aA.cl (T.aA.no _ (by decide)) rfl (bB _ rfl _ rfl (aX (fun h2=> ?_) (fun h2=> ?_)))
  ·rw [if_neg fun z=>oM h2 z.1] at k
   exact jx (k .non H3 rfl s)
  ·refine aM _ rfl y _ dy _ _ rfl e3 T.aA.cl (T.aA.no _ (by decide)) rfl ⟨_,(eK _ rfl rfl _ rfl (aX (fun h3=> ?_) (fun h3=> ?_)))⟩
   ·have h3':(1000000000000000000:Int)<(((Vbdeab.mkQ n d.toNat).den:Nat):Int):=bj h3
    rw [if_neg fun z=>z.2 h3'] at k
    exact k .non H3 rfl s
   ·have h3':¬(1000000000000000000:Int)<(((Vbdeab.mkQ n d.toNat).den:Nat):Int):=fun z=>h3 (aE z)
    rw [if_pos ⟨oN h2,h3'⟩] at k
    exact⟨_,rfl,k (.ref y) H3 ⟨y,rfl,⟨dy,e3⟩⟩ s⟩
def fv (l:List Int):Int:=l.foldl (fun a b=>a*b) 1
theorem iS (l:List Int) (x:Int):fv (l++ [x])=fv l*x:=by unfold fv;rw [List.foldl_append];rfl
theorem tG {m:Nat} {l:List Int} (h:∀x∈l,Sz m x):∀i,Sz (m*i+1) (fv (l.take i))
 | 0=>by show(1:Int).natAbs<_;rw [Nat.mul_zero];decide
 | i+1=>by
  have ih:=tG h i
  cases e:l[i]? with
  | none=>
   have hl:=List.getElem?_eq_none_iff.mp e
   rw [lv hl] at ih
   rw [lv (by omega)]
   exact ih.mono (by rw [Nat.mul_succ];omega)
  | some x=>
   rw [Ch.bw e,iS]
   exact ih.mul (h x (eM e)) (by rw [Nat.mul_succ];omega)
theorem DX {l:List Int} (h:∀x∈l,0<x):∀i,0<fv (l.take i)
 | 0=>by show(0:Int)<1;decide
 | i+1=>by
  have ih:=DX h i
  cases e:l[i]? with
  | none=>
   have hl:=List.getElem?_eq_none_iff.mp e
   rw [lv hl] at ih
   rw [lv (by omega)]
   exact ih
  | some x=>
   rw [Ch.bw e,iS]
   exact eW ih (h x (eM e))
theorem lY (l:List Int):fv (l.take l.length)=fv l:=by rw [jP]
theorem yJ (a b:List Int):fv (a++b)=fv a*fv b:=by
 unfold fv
 rw [List.foldl_append]
 generalize List.foldl (fun a b=>a*b) 1 a=x
 have:∀(l:List Int) (x y:Int),List.foldl (fun a b=>a*b) (x*y) l=x*List.foldl (fun a b=>a*b) y l:=fun l=>by
  induction l with
  | nil=>intro x y;rfl
  | cons c r ih=>
   intro x y
   rw [List.foldl_cons,List.foldl_cons,nU,ih]
 have z:=this b x 1
 rw [Int.mul_one] at z
 exact z
theorem FN {l:List Int} {i:Nat} {v:V} (h:(l.map V.int)[i]?=some v):∃x,l[i]?=some x∧v= .int x:=by
 rw [dn] at h
 cases e:l[i]? with
 | none=>rw [e] at h;cases h
 | some x=>rw [e] at h;cases h;exact⟨x,rfl,rfl⟩
def Ff (T:Tx K mg):Sp:=fun vs H Q _=>∃(a:Addr) (l:List Int),vs= [.ref a]∧a4 K H a (l.map V.int)∧l.length≤1000∧(∀x∈l,Sz 400 x)∧Q (.int (fv l)) H
theorem xo (T:Tx K mg):dM P w base T.uU 1 (Ff T):=by
 refine T.uU.okA lU ?_
 rintro _ A _ s H _ Q E hr ⟨a,l,rfl,hs,hl,hz,k⟩
 refine⟨_,(ac (aZ 1 lU.nd am)
   (ac (d7 cJ rfl (cD (pv 0)) (kT 2 lU.nd) (ae (aZ 1 lU.nd (aB aJ (pv 1) (pv 2)))))
   (ae (aj (pv 1))))),?_⟩
 refine pE _ rfl a rfl ⟨_,hs⟩ (eB (xs:=l.map V.int) (fun i σ H'=>∃v:Option V,σ= [some (.ref a),some (.int (fv (l.take i))),v]∧H'=H) ⟨none,rfl,rfl⟩ (fun i σ H' _ ⟨_,_,e⟩=>by rw [e];exact hs) ?_ ?_)
 ·rintro i v σ H' hv ⟨w',rfl,rfl⟩
  obtain⟨x,hx,rfl⟩:=FN hv
  have hi:=(cb.mp hx).1
  refine bH _ rfl (d9 _ rfl _ _ rfl rfl (bC ((tG hz i).mono (n:=1000000) (by omega)) (hz x (eM hx))) ?_)
  exact⟨_,(by rw [Ch.bw hx,iS];rfl),rfl⟩
 ·rintro σ H' ⟨w',rfl,rfl⟩
  rw [aD,lY]
  exact⟨_,rfl,k⟩
theorem Lb {r b:Int} (hr:0<r) (hb:0<b):b∣r*(b /((Nat.gcd r.natAbs b.toNat:Nat):Int)):=by
 have hg:=dG (n:=r) hb
 have d1:((Nat.gcd r.natAbs b.toNat:Nat):Int)∣r:=Fr.er _ _
 have d2:((Nat.gcd r.natAbs b.toNat:Nat):Int)∣b:=by
  have:=CJ.mpr (jg r.natAbs b.toNat)
  rwa [cC (fF hb)] at this
 generalize ((Nat.gcd r.natAbs b.toNat:Nat):Int)=g at*
 obtain⟨x,rfl⟩:=d1
 obtain⟨y,rfl⟩:=d2
 rw [CG _ (by omega)]
 exact⟨x,by grind⟩
theorem LL {r b:Int} (hb:0<b):0<b /((Nat.gcd r.natAbs b.toNat:Nat):Int):=by
 have hg:=dG (n:=r) hb
 have d2:((Nat.gcd r.natAbs b.toNat:Nat):Int)∣b:=by
  have:=CJ.mpr (jg r.natAbs b.toNat)
  rwa [cC (fF hb)] at this
 generalize ((Nat.gcd r.natAbs b.toNat:Nat):Int)=g at*
 obtain⟨y,rfl⟩:=d2
 rw [CG _ (by omega)]
 exact Int.pos_of_mul_pos_right hb hg
structure vd (bs ps:List Int):Prop where
 len:ps.length=bs.length
 pos:∀p∈ps,0<p
 sz:∀p∈ps,Sz 250 p
 dvd:∀b∈bs,b∣fv ps
theorem vd.nil:vd [] []:=⟨rfl,fun _ h=>(nomatch h),fun _ h=>(nomatch h),fun _ h=>(nomatch h)⟩
theorem vd.pp {bs ps:List Int} (h:vd bs ps):0<fv ps:=by rw [←lY];exact DX h.pos _
theorem vd.snoc {bs ps:List Int} {b:Int} (h:vd bs ps) (hb:0<b) (hz:Sz 250 b):vd (bs++ [b]) (ps++ [b /((Nat.gcd (fv ps).natAbs b.toNat:Nat):Int)]):=by
 have hp:=LL (r:=fv ps) hb
 refine⟨by rw [bX,bX,h.len];rfl,fun p hm=> ?_,fun p hm=> ?_,fun x hm=> ?_⟩
 ·rcases jO.mp hm with q | q
  ·exact h.pos p q
  ·rw [gN] at q
   rw [q];exact hp
 ·rcases jO.mp hm with q | q
  ·exact h.sz p q
  ·rw [gN] at q
   rw [q];exact hz.ediv (dG hb)
 ·rw [iS]
  rcases jO.mp hm with q | q
  ·exact IC (h.dvd x q)
  ·rw [gN] at q
   rw [q];exact Lb h.pp hb
theorem xb (l:List Int) (x:Int):l.map V.int++ [V.int x]=(l++ [x]).map V.int:=by rw [du];rfl
def xW (T:Tx K mg):Sp:=fun vs H Q _=>∃(a:Addr) (bs:List Int),vs= [.ref a]∧a4 K H a (bs.map V.int)∧bs.length≤1000∧(∀x∈bs,0<x∧Sz 250 x)∧∀(H':Hp) (p:Addr) (ps:List Int),H' p=some (.lst (ps.map V.int))→vd bs ps→aC H H'→H p=none→Q (.ref p) H'
theorem nk (T:Tx K mg):dM P w base T.jT 2 (xW T):=by
 refine T.jT.okA dS ?_
 rintro _ A _ s H _ Q E hr ⟨a,bs,rfl,hs,hl,hb,k⟩
 refine⟨_,(ac (aZ 1 dS.nd (aI ad))
   (ac (aZ 2 dS.nd am)
   (ac (d7 cJ rfl (cD (pv 0)) (kT 3 dS.nd) (ac (aZ 4 dS.nd (aB cA (pv 3) (bi T.cU (dj T) hr (ab (pv 2) (ab (pv 3) ad)))))
   (ac (gt (rL lF um uo jc (pv 1) (ab (pv 4) ad)))
   (ae (aZ 2 dS.nd (aB aJ (pv 2) (pv 4)))))))
   (ae (aj (pv 1)))))),?_⟩
 refine⟨bn _,fun D hD=> ?_⟩
 have sD:=aC.laid (o:= .lst []) hD
 refine pE _ rfl a rfl ⟨_,sD.seq hs⟩ (eB (xs:=bs.map V.int) (fun i σ H'=>∃(v v2:Option V) (ps:List Int),σ= [some (.ref a),some (.ref D),some (.int (fv ps)),v,v2]∧vd (bs.take i) ps∧H' D=some (.lst (ps.map V.int))∧aC H H') (bW none none ([]) rfl vd.nil af sD) (fun i σ H' _ ⟨_,_,_,_,_,_,s⟩=>s.seq hs) ?_ ?_)
 ·rintro i v σ H1 hv ⟨w1,w2,ps,rfl,hp,h1,s1⟩
  obtain⟨x,hx,rfl⟩:=FN hv
  have hi:=(cb.mp hx).1
  obtain⟨x0,xz⟩:=hb x (eM hx)
  have hlen:ps.length≤1000:=by rw [hp.len,ic];omega
  refine bH _ rfl (eV _ rfl _ rfl _ _ rfl x0 (bP _ _ rfl rfl (pS (dG x0) (k7 x0 (xz.mono (by decide)))) ?_))
  refine eK _ rfl (.inl ⟨rfl,_,a4.of h1⟩) _ rfl (iY D _ _ rfl rfl h1 (by rw [aD];show ps.length<2 ^ 24;omega) ?_)
  have z:=tG hp.sz ps.length
  rw [lY] at z
  refine bH _ rfl (d9 _ rfl _ _ rfl rfl (bC (z.mono (n:=1000000) (by omega)) (xz.ediv (dG x0))) ?_)
  have hsn:=hp.snoc x0 xz
  rw [←Ch.bw hx] at hsn
  refine bW _ _ _ (by rw [iS];rfl) hsn ?_ fun b o e=> ?_
  ·rw [af,xb]
  ·rw [ak (aw e hD)]
   exact s1 b o e
 ·rintro σ H1 ⟨w1,w2,ps,rfl,hp,h1,s1⟩
  rw [aD,jP] at hp
  exact⟨_,rfl,k H1 D ps h1 hp s1 hD⟩
def zk (T:Tx K mg):Sp:=fun vs H Q _=>∃(a:Addr) (bN:Int) (fs:List Int),vs= [.int bN,.ref a]∧a4 K H a (fs.map V.int)∧fs.length≤1000∧(∀x∈fs,0<x∧Sz 250 x)∧∀(x:Addr) (H':Hp),jW T H' x (Vbdeab.mkQ bN (fv fs).toNat)→aC H H'→Q (.ref x) H'
theorem ku (T:Tx K mg):dM P w base T.iI 3 (zk T):=by
 refine T.iI.okA dB ?_
 rintro _ A _ s H _ Q E hr ⟨a,bN,fs,rfl,hs,hl,hb,k⟩
 refine⟨_,(ac (aZ 2 dB.nd (pv 0))
   (ac (aZ 3 dB.nd am)
   (ac (d7 cJ rfl (cD (pv 1)) (kT 4 dB.nd) (ac (aZ 5 dB.nd (bi T.cU (dj T) hr (ab (pv 2) (ab (pv 4) ad))))
   (ac (aZ 2 dB.nd (aB cA (pv 2) (pv 5)))
   (ae (aZ 3 dB.nd (aB aJ (pv 3) (aB cA (pv 4) (pv 5))))))))
   (ae (aj (Ag T.bo (a9 T) hr (ab (pv 2) (ab (pv 3) ad)))))))),?_⟩
 refine bH _ rfl (pE _ rfl a rfl ⟨_,hs⟩ (eB (xs:=fs.map V.int) (fun i σ H'=>∃(v v2:Option V) (left bottom:Int),σ= [some (.int bN),some (.ref a),some (.int left),some (.int bottom),v,v2]∧Fr.Mw bN (fv (fs.take i)) left bottom∧Sz (250*i+1) bottom∧H'=H) ⟨none,(bW none bN 1 rfl (Fr.Mw.start bN) (by show(1:Int).natAbs<_;decide) rfl)⟩ (fun i σ H' _ ⟨_,_,_,_,_,_,_,e⟩=>by rw [e];exact hs) ?_ ?_))
 ·rintro i v σ H1 hv ⟨w1,w2,left,bottom,rfl,lw,hz,rfl⟩
  obtain⟨x,hx,rfl⟩:=FN hv
  have hi:=(cb.mp hx).1
  obtain⟨x0,xz⟩:=hb x (eM hx)
  have hg:=dG (n:=left) x0
  have hgz:=k7 (n:=left) x0 (xz.mono (n:=9000) (by decide))
  refine eV _ rfl _ rfl _ _ rfl x0 ?_
  refine bH _ rfl (d9 _ rfl _ _ rfl rfl (pS hg hgz) ?_)
  refine bB _ rfl _ rfl (d9 _ rfl _ _ rfl rfl (pS hg hgz) (bP _ _ rfl rfl (bC (hz.mono (n:=1000000) (by omega)) (xz.ediv hg)) ?_))
  have st:=lw.step x0
  rw [←iS,←Ch.bw hx] at st
  exact⟨_,(bW _ _ _ rfl st (hz.mul (xz.ediv hg) (by omega)) rfl)⟩
 ·rintro σ H1 ⟨w1,w2,left,bottom,rfl,lw,hz,rfl⟩
  rw [aD,lY] at lw
  refine bB _ rfl _ rfl ?_
  intro x dx' nx nd _
  refine de nx nd (fun H2 e2 s2=>k x H2 ?_ s2) (cI left bottom rfl rfl)
  rw [←lw.iz.eq]
  refine⟨dx',?_⟩
  rw [e2]
  have:=lw.bpos
  rw [cC (by omega)]
def wp (T:Tx K mg):Sp:=fun vs H Q _=>∃(a:Addr) (n d:Int) (S:Nat),vs= [.ref a,.int S]∧fG T H a n d∧0<d∧Sz 9000 d∧0<S∧Nat.gcd n.natAbs S=Nat.gcd n.natAbs d.toNat∧∀(x:Addr) (H':Hp),jW T H' x (Vbdeab.mkQ n d.toNat)→aC H H'→Q (.ref x) H'
theorem vT (T:Tx K mg):dM P w base T.lJ 3 (wp T):=by
 refine T.lJ.okA mI ?_
 rintro _ A _ s H _ Q E hr ⟨a,n,d,S,rfl,⟨dx,h1⟩,hd,hz,hS,hg,k⟩
 refine⟨_,(ac (aZ 2 mI.nd (bi T.cU (dj T) hr (ab (ao (pv 0) rfl) (ab (pv 1) ad))))
   (ae (aj (Ag T.bo (a9 T) hr (ab (aB cA (ao (pv 0) rfl) (pv 2)) (ab (aB cA (ao (pv 0) rfl) (pv 2)) ad)))))),?_⟩
 refine aM _ rfl a _ dx _ _ rfl h1 T.aA.cl (T.aA.no _ (by decide)) rfl (cv _ rfl _ _ rfl (by omega) ?_)
 have e:((Nat.gcd n.natAbs (S:Int).toNat:Nat):Int)=((Nat.gcd n.natAbs d.toNat:Nat):Int):=by rw [cT,hg]
 have hgp:=dG (n:=n) hd
 have hgz:=k7 (n:=n) hd hz
 rw [←e] at hgp hgz
 refine aM _ rfl a _ dx _ _ rfl h1 T.aA.cl (T.aA.no _ (by decide)) rfl (d9 _ rfl _ _ rfl rfl (pS hgp hgz) (aM _ rfl a _ dx _ _ rfl h1 T.aA.cl (T.aA.no _ (by decide)) rfl (d9 _ rfl _ _ rfl rfl (pS hgp hgz) ?_)))
 intro x dx' nx nd _
 refine de nx nd (fun H2 e2 s2=>k x H2 ⟨dx',?_⟩ s2) (cI _ _ rfl rfl)
 rw [e2,Kd.EE hd,Kd.ED hd,e]
open Vbdeab (Q Class)
def Id (C:Addr) (R:Hp→List V→List (Str×V)→Prop):Sp:=fun vs H Q _=>∃p dx args fs,vs= .ref p::args∧R H args fs∧H p=some (.ins C dx [])∧∀H':Hp,H' p=some (.ins C dx fs)→(∀b o,H b=some o→b≠p→H' b=some o)→Q .non H'
theorem Ea {H:Hp} {x dx C:Addr} (nx:H x=none) (nd:H dx=none):aC H (bR (bR H dx (.own x)) x (.ins C dx [])):=fun b o e=>by
 rw [ak (aw e nx),ak (aw e nd)]
 exact e
theorem Jd {C x dx:Addr} {R:Hp→List V→List (Str×V)→Prop} {args:List V} {fs:List (Str×V)} {H1:Hp} {G:Hp→Prop} {E:XK} (nx:H1 x=none) (nd:H1 dx=none) (k:∀H2,H2 x=some (.ins C dx fs)→aC H1 H2→G H2) (r:∀H',aC H1 H'→R H' args fs):
  Id C R (.ref x::(args++ [])) (bR (bR H1 dx (.own x)) x (.ins C dx [])) (fun v H2=>v= .non∧G H2) E:=
 ⟨x,(bW dx args fs (by rw [vE]) (r _ (Ea nx nd)) af fun H' h1 h2=>⟨rfl,k H' h1 (aC.made nx nd h2)⟩)⟩
theorem IS {C D x y:Addr} {fs gs:List (Str×V)} (h:¬fs.length=gs.length):HO.ins C x fs≠HO.ins D y gs:=fun z=>h (cx List.length (HO.ins.inj z).2.2)
theorem fG.put {T:Tx K mg} {H:Hp} {a p:Addr} {n d:Int} {o:HO} (h:fG T H a n d) (hne:a≠p):fG T (bR H p o) a n d:=let ⟨dx,e⟩:=h;⟨dx,by rw [ak hne];exact e⟩
def Qx (ax ay:Addr) (c:Class):List (Str×V):= [("x",.ref ax),("y",.ref ay),("bottom",.int (Fr.cB c)),("origin",.int (Fr.cO c)),("rise",.int (Fr.cR c))]
def Qu (ax ay:Addr) (n:Nat) (c:Class):List (Str×V):= [("x",.ref ax),("gap",.ref ay),("teeth",.int (n:Nat)),("bottom",.int (Fr.cB c)),("origin",.int (Fr.cO c)),("rise",.int (Fr.cR c))]
def jn (T:Tx K mg) (H:Hp) (a:Addr) (c:Class):Prop:=match c with
 | .line x y=>∃dx ax ay,H a=some (.ins T.aP.C dx (Qx ax ay (.line x y)))∧jW T H ax x∧jW T H ay y
 | .comb x s n=>∃dx ax ay,H a=some (.ins T.aH.C dx (Qu ax ay n (.comb x s n)))∧jW T H ax x∧jW T H ay s
theorem jn.si {T:Tx K mg} {H H':Hp} {a:Addr} {c:Class} (h:jn T H a c) (s:hX H H'):jn T H' a c:=by
 cases c with
 | line x y=>obtain⟨dx,ax,ay,e,h1,h2⟩:=h;exact hJ dx ax ay (s _ _ _ _ e) (h1.si s) (h2.si s)
 | comb x y n=>obtain⟨dx,ax,ay,e,h1,h2⟩:=h;exact hJ dx ax ay (s _ _ _ _ e) (h1.si s) (h2.si s)
theorem jn.same {T:Tx K mg} {H H':Hp} {a:Addr} {c:Class} (h:jn T H a c) (s:aC H H'):jn T H' a c:=by
 cases c with
 | line x y=>obtain⟨dx,ax,ay,e,h1,h2⟩:=h;exact hJ dx ax ay (s _ _ e) (h1.same s) (h2.same s)
 | comb x y n=>obtain⟨dx,ax,ay,e,h1,h2⟩:=h;exact hJ dx ax ay (s _ _ e) (h1.same s) (h2.same s)
def jb (q:Q):Prop:=q.small=true∧Fr.lowQ q
def vc (c:Class):Prop:=c.small=true∧Fr.jX c
def Ek (T:Tx K mg) (H:Hp) (v:V) (o:Option Class):Prop:=match o with
 | none=>v= .non
 | some c=>∃x,v= .ref x∧jn T H x c∧vc c
theorem Ek.si {T:Tx K mg} {H H':Hp} {v:V} {o:Option Class} (h:Ek T H v o) (s:hX H H'):Ek T H' v o:=by
 cases o with
 | none=>exact h
 | some q=>obtain⟨x,e,h,k⟩:=h;exact cZ x e (h.si s) k
theorem Ek.same {T:Tx K mg} {H H':Hp} {v:V} {o:Option Class} (h:Ek T H v o) (s:aC H H'):Ek T H' v o:=by
 cases o with
 | none=>exact h
 | some q=>obtain⟨x,e,h,k⟩:=h;exact cZ x e (h.same s) k
theorem Ob {n:Nat} (h:n≤1000000000000000000):n<2 ^ 60:=nY h (by decide)
theorem cH {q:Q} (h:q.small=true):Sz 60 q.num∧Sz 60 (q.den:Int):=by
 unfold Vbdeab.Q.small at h
 rw [yb,yb,fz,fz,fz] at h
 exact⟨Ob h.1.1,by show((q.den:Int)).natAbs<_;rw [kh];exact Ob h.2⟩
theorem gn {q:Q} (h:Fr.lowQ q):(0:Int)<(q.den:Int):=by have:=h.1;omega
theorem AZ {x y:Q} (hx:x.small=true) (hy:y.small=true):Sz 120 (Fr.su x y):=by
 unfold Fr.su
 refine(cH hx).2.mul ?_ (n:=60)
 refine(cH hy).2.le ?_
 rw [kh,kh]
 exact Nat.div_le_self y.den (Nat.gcd x.den y.den)
theorem xp {x:Q} {b:Int} (hx:x.small=true) (hl:Fr.lowQ x) (hb:Sz 120 b):Sz 180 (Fr.Db x b):=(cH hx).1.mul (hb.ediv (gn hl))
theorem EC {x y:Q} (h:vc (.line x y)):jb x∧jb y:=by
 obtain⟨h1,h2⟩:=h
 have h1':(x.small && y.small)=true:=h1
 rw [yb] at h1'
 exact⟨⟨h1'.1,h2.1⟩,⟨h1'.2,h2.2⟩⟩
theorem ga {x s:Q} {n:Nat} (h:vc (.comb x s n)):jb x∧jb s∧1≤n∧n≤1000000000000000000:=by
 obtain⟨h1,h2⟩:=h
 have h1':(x.small && s.small && decide (1≤n) && decide (n≤Vbdeab.BIG))=true:=h1
 rw [yb,yb,yb,fz,fz] at h1'
 exact bZ ⟨h1'.1.1.1,h2.1⟩ ⟨h1'.1.1.2,h2.2.1⟩ h1'.1.2 h1'.2
theorem vc.line {x y:Q} (hx:jb x) (hy:jb y):vc (.line x y):=⟨Kd.vN hx.1 hy.1,hx.2,hy.2⟩
theorem vc.comb {x y:Q} {n:Nat} (hx:jb x) (hy:jb y) (h1:1≤n) (h2:n≤1000000000000000000):vc (.comb x y n):=by
 refine bZ ?_ hx.2 hy.2 h1
 rw [Kd.Bl hx.1 hy.1,aE h1,aE (show n≤Vbdeab.BIG from h2)]
 rfl
theorem iP {c:Class} (h:vc c):0<Fr.cB c∧Sz 120 (Fr.cB c)∧Sz 180 (Fr.cO c)∧Sz 181 (Fr.cR c):=by
 refine⟨Fr.mi h.2,?_⟩
 cases c with
 | line x y=>
  obtain⟨hx,hy⟩:=EC h
  have hb:=AZ hx.1 hy.1
  exact⟨hb,xp hx.1 hx.2 hb,(xp hy.1 hy.2 hb).sub (xp hx.1 hx.2 hb)⟩
 | comb x s n=>
  obtain⟨hx,hy,_⟩:=ga h
  have hb:=AZ hx.1 hy.1
  exact⟨hb,xp hx.1 hx.2 hb,(xp hy.1 hy.2 hb).mono (by decide)⟩
theorem nh {n d:Int} {q:Q} (h:Vbdeab.fraction n d=some q):jb q:=⟨(Kd.gv h).1,(Kd.gv h).2.1⟩
def wk (T:Tx K mg):Sp:=fun vs H Q _=>∃(a b:Addr) (x y:Vbdeab.Q),vs= [.ref a,.ref b]∧jW T H a x∧jW T H b y∧jb x∧jb y∧Q (.int (Fr.su x y)) H
theorem mq (T:Tx K mg):dM P w base T.iM 2 (wk T):=by
 refine T.iM.okA v8 ?_
 rintro _ A _ s H _ Q E hr ⟨a,b,x,y,rfl,⟨dx,h1⟩,⟨dy,h2⟩,hx,hy,k⟩
 refine⟨_,(ae (aj (aB aJ (ao (pv 0) rfl) (aB cA (ao (pv 1) rfl) (bi T.cU (dj T) hr (ab (ao (pv 0) rfl) (ab (ao (pv 1) rfl) ad))))))),?_⟩
 have y0:=gn hy.2
 have yz:=(cH hy.1).2
 have hg:=dG (n:=(x.den:Int)) y0
 refine aM _ rfl a _ dx _ _ rfl h1 T.aA.cl (T.aA.no _ (by decide)) rfl (aM _ rfl b _ dy _ _ rfl h2 T.aA.cl (T.aA.no _ (by decide)) rfl (aM _ rfl a _ dx _ _ rfl h1 T.aA.cl (T.aA.no _ (by decide)) rfl (aM _ rfl b _ dy _ _ rfl h2 T.aA.cl (T.aA.no _ (by decide)) rfl (bT _ _ rfl y0 (bP _ _ rfl rfl (pS hg (k7 y0 (yz.mono (by decide)))) (bP _ _ rfl rfl (bC (cH hx.1).2 (yz.ediv hg)) ?_))))))
 have e:(x.den:Int)*((y.den:Int) /((Nat.gcd (x.den:Int).natAbs (y.den:Int).toNat:Nat):Int))=Fr.su x y:=by
  unfold Fr.su
  rw [kh,cT,CI]
 show Q (.int _) H
 rw [e]
 exact k
def AT (T:Tx K mg):Sp:=fun vs H Q _=>∃(a:Addr) (x:Vbdeab.Q) (b:Int),vs= [.ref a,.int b]∧jW T H a x∧jb x∧Sz 120 b∧Q (.int (Fr.Db x b)) H
theorem iK (T:Tx K mg):dM P w base T.hU 1 (AT T):=by
 refine T.hU.okA AF ?_
 rintro _ A _ s H _ Q E hr ⟨a,x,b,rfl,⟨dx,h1⟩,hx,hb,k⟩
 refine⟨_,(ae (aj (aB aJ (ao (pv 0) rfl) (aB cA (pv 1) (ao (pv 0) rfl))))),?_⟩
 exact aM _ rfl a _ dx _ _ rfl h1 T.aA.cl (T.aA.no _ (by decide)) rfl (iX _ rfl _ rfl a _ dx _ _ rfl h1 T.aA.cl (T.aA.no _ (by decide)) rfl (bP _ _ rfl rfl (pS (gn hx.2) ((cH hx.1).2.mono (by decide))) (bP _ _ rfl rfl (bC (cH hx.1).1 (hb.ediv (gn hx.2))) k)))
def AO (T:Tx K mg):Sp:=fun vs H Q _=>∃(a:Addr) (v:Vbdeab.Q) (t b:Int),vs= [.int t,.int b,.ref a]∧jW T H a v∧jb v∧Sz 400 t∧Sz 400 b∧Q (.int (v.num*b - t*(v.den:Int))) H
theorem lA (T:Tx K mg):dM P w base T.jU 1 (AO T):=by
 refine T.jU.okA AC ?_
 rintro _ A _ s H _ Q E hr ⟨a,v,t,b,rfl,⟨dx,h1⟩,hv,ht,hb,k⟩
 refine⟨_,(ae (aj (aB b9 (aB aJ (ao (pv 2) rfl) (pv 1)) (aB aJ (pv 0) (ao (pv 2) rfl))))),?_⟩
 exact aM _ rfl a _ dx _ _ rfl h1 T.aA.cl (T.aA.no _ (by decide)) rfl (d9 _ rfl _ _ rfl rfl (bC (cH hv.1).1 hb) (iX _ rfl _ rfl a _ dx _ _ rfl h1 T.aA.cl (T.aA.no _ (by decide)) rfl (jo _ _ rfl rfl (bC ht (cH hv.1).2) _ _ rfl rfl k)))
def E9 (T:Tx K mg):Sp:=fun vs H Q _=>∃(n m:Int),vs= [.int n,.int m]∧0≤m∧Q (.int (Fr.f9 n m)) H
theorem xi (T:Tx K mg):dM P w base T.uQ 1 (E9 T):=by
 refine T.uQ.okA EX ?_
 rintro _ A _ s H _ Q E hr ⟨n,m,rfl,hm,k⟩
 refine⟨_,(ae (aj (a8 (JK rfl) (by rfl) T.Ps (by rfl) (ab am (ab (a8 (DG rfl) (by rfl) T.Mr (by rfl) (ab (pv 0) (ab (pv 1) ad))) ad))))),?_⟩
 refine bB _ rfl _ rfl (cI _ _ rfl (cI _ _ rfl ?_))
 have e:(if (if m<n then m else n)>0 then(if m<n then m else n) else 0)=Fr.f9 n m:=by
  unfold Fr.f9
  repeat' split
  all_goals omega
 show Q (.int _) H
 rw [e]
 exact k
def Cm (T:Tx K mg):Sp:=Id T.aP.C (fun H args fs=>∃(ax ay:Addr) (x y:Vbdeab.Q),args= [.ref ax,.ref ay]∧fs=Qx ax ay (.line x y)∧jW T H ax x∧jW T H ay y∧jb x∧jb y)
theorem BE (T:Tx K mg):sr mg P w base T.uA 3 (Cm T):=by
 refine T.uA.okA B6 ?_ (by rintro _ _ _ _ ⟨p,dx,_,_,rfl,⟨ax,ay,x,y,rfl,rfl,hax,hay,hx,hy⟩,hp,k⟩;rfl)
 rintro _ A _ s H _ Q E hr ⟨p,dx,_,_,rfl,⟨ax,ay,x,y,rfl,rfl,hax,hay,hx,hy⟩,hp,k⟩
 refine⟨_,(ac (cr (pv 0) (pv 1) rfl)
   (ac (cr (pv 0) (pv 2) rfl)
   (ac (cr (pv 0) (bi T.iM (mq T) hr (ab (pv 1) (ab (pv 2) ad))) rfl)
   (ac (cr (pv 0) (bi T.hU (iK T) hr (ab (pv 1) (ab (ao (pv 0) rfl) ad))) rfl)
   (ae (cr (pv 0) (aB b9 (bi T.hU (iK T) hr (ab (pv 2) (ab (ao (pv 0) rfl) ad))) (ao (pv 0) rfl)) rfl)))))),?_⟩
 have nx:ax≠p:=let ⟨_,e⟩:=hax;bf e hp (IS (by show ¬2=0;decide))
 have ny:ay≠p:=let ⟨_,e⟩:=hay;bf e hp (IS (by show ¬2=0;decide))
 have hb:=AZ hx.1 hy.1
 refine pF _ rfl _ rfl p _ dx _ rfl hp T.aP.cl (T.aP.no _ (by decide)) (by show 0<1000;decide) ?_
 refine pF _ rfl _ rfl p _ dx _ rfl af T.aP.cl (T.aP.no _ (by decide)) (by show 1<1000;decide) ?_
 refine pF _ rfl _ rfl ax ay x y rfl ((hax.put nx).put nx) ((hay.put ny).put ny) hx hy (gM _ rfl p _ dx _ rfl af T.aP.cl (T.aP.no _ (by decide)) (by show 2<1000;decide) ?_)
 refine iX _ rfl _ rfl p _ dx _ _ rfl af T.aP.cl (T.aP.no _ (by decide)) rfl (iY ax x _ rfl (((hax.put nx).put nx).put nx) hx hb (gM _ rfl p _ dx _ rfl af T.aP.cl (T.aP.no _ (by decide)) (by show 3<1000;decide) ?_))
 refine iX _ rfl _ rfl p _ dx _ _ rfl af T.aP.cl (T.aP.no _ (by decide)) rfl (iY ay y _ rfl ((((hay.put ny).put ny).put ny).put ny) hy hb (aM _ rfl p _ dx _ _ rfl af T.aP.cl (T.aP.no _ (by decide)) rfl (bT _ _ rfl rfl (gM _ rfl p _ dx _ rfl af T.aP.cl (T.aP.no _ (by decide)) (by show 4<1000;decide) ?_))))
 exact k _ af fun b o e hb=>by rw [ak hb,ak hb,ak hb,ak hb,ak hb];exact e
def Ci (T:Tx K mg):Sp:=Id T.aH.C (fun H args fs=>∃(ax ay:Addr) (x y:Vbdeab.Q) (n:Nat),args= [.ref ax,.ref ay,.int n]∧fs=Qu ax ay n (.comb x y n)∧jW T H ax x∧jW T H ay y∧jb x∧jb y)
theorem BC (T:Tx K mg):sr mg P w base T.ux 3 (Ci T):=by
 refine T.ux.okA B2 ?_ (by rintro _ _ _ _ ⟨p,dx,_,_,rfl,⟨ax,ay,x,y,n,rfl,rfl,hax,hay,hx,hy⟩,hp,k⟩;rfl)
 rintro _ A _ s H _ Q E hr ⟨p,dx,_,_,rfl,⟨ax,ay,x,y,n,rfl,rfl,hax,hay,hx,hy⟩,hp,k⟩
 refine⟨_,(ac (cr (pv 0) (pv 1) rfl)
   (ac (cr (pv 0) (pv 2) rfl)
   (ac (cr (pv 0) (pv 3) rfl)
   (ac (cr (pv 0) (bi T.iM (mq T) hr (ab (pv 1) (ab (pv 2) ad))) rfl)
   (ac (cr (pv 0) (bi T.hU (iK T) hr (ab (pv 1) (ab (ao (pv 0) rfl) ad))) rfl)
   (ae (cr (pv 0) (bi T.hU (iK T) hr (ab (pv 2) (ab (ao (pv 0) rfl) ad))) rfl))))))),?_⟩
 have nx:ax≠p:=let ⟨_,e⟩:=hax;bf e hp (IS (by show ¬2=0;decide))
 have ny:ay≠p:=let ⟨_,e⟩:=hay;bf e hp (IS (by show ¬2=0;decide))
 have hb:=AZ hx.1 hy.1
 refine pF _ rfl _ rfl p _ dx _ rfl hp T.aH.cl (T.aH.no _ (by decide)) (by show 0<1000;decide) ?_
 refine pF _ rfl _ rfl p _ dx _ rfl af T.aH.cl (T.aH.no _ (by decide)) (by show 1<1000;decide) ?_
 refine pF _ rfl _ rfl p _ dx _ rfl af T.aH.cl (T.aH.no _ (by decide)) (by show 2<1000;decide) ?_
 refine pF _ rfl _ rfl ax ay x y rfl (((hax.put nx).put nx).put nx) (((hay.put ny).put ny).put ny) hx hy (gM _ rfl p _ dx _ rfl af T.aH.cl (T.aH.no _ (by decide)) (by show 3<1000;decide) ?_)
 refine iX _ rfl _ rfl p _ dx _ _ rfl af T.aH.cl (T.aH.no _ (by decide)) rfl (iY ax x _ rfl ((((hax.put nx).put nx).put nx).put nx) hx hb (gM _ rfl p _ dx _ rfl af T.aH.cl (T.aH.no _ (by decide)) (by show 4<1000;decide) ?_))
 refine iX _ rfl _ rfl p _ dx _ _ rfl af T.aH.cl (T.aH.no _ (by decide)) rfl (iY ay y _ rfl (((((hay.put ny).put ny).put ny).put ny).put ny) hy hb (gM _ rfl p _ dx _ rfl af T.aH.cl (T.aH.no _ (by decide)) (by show 5<1000;decide) ?_))
 exact k _ af fun b o e hb=>by rw [ak hb,ak hb,ak hb,ak hb,ak hb,ak hb];exact e
def Fd (T:Tx K mg):Sp:=fun vs H Q _=>∃(u v:V) (x y:Option Vbdeab.Q),vs= [u,v]∧OQ T H u x∧OQ T H v y∧(∀q,x=some q→jb q)∧(∀q,y=some q→jb q)∧∀(r:V) (H':Hp),Ek T H' r (Kd.j3 x y)→aC H H'→Q r H'
theorem qp (T:Tx K mg):dM P w base T.pJ 5 (Fd T):=by
 refine T.pJ.okA E1 ?_
 rintro _ A _ s H _ Q E hr ⟨u,v,x,y,rfl,hu,hv,hx,hy,k⟩
 refine⟨_,(ac (aT (lh (h9 (aR kC (pv 0) cY (aY _)) (ig (aR kC (pv 1) cY (aY _))))) (ae (aj cY)) aG)
   (ae (aj (Ag T.uA (BE T) hr (ab (pv 0) (ab (pv 1) ad)))))),?_⟩
 cases x with
 | none=>
  obtain rfl:u= .non:=hu
  exact eK _ rfl rfl _ rfl (jx (k .non H rfl (aC.refl' H)))
 | some x=>
  obtain⟨ax,rfl,hax⟩:=hu
  cases y with
  | none=>
   obtain rfl:v= .non:=hv
   exact eK _ rfl rfl _ rfl (eK _ rfl rfl _ rfl (k .non H rfl (aC.refl' H)))
  | some y=>
   obtain⟨ay,rfl,hay⟩:=hv
   refine⟨_,rfl,rfl,_,rfl,_,rfl,rfl,_,rfl,_,rfl,_,rfl,?_⟩
   intro z dz nz nd _
   refine Jd nz nd (fun H2 e2 s2=>k (.ref z) H2 (cZ z rfl (hJ dz ax ay e2 (hax.same s2) (hay.same s2)) (vc.line (hx _ rfl) (hy _ rfl))) s2) fun H' s'=>(jZ ax ay x y rfl rfl (hax.same s') (hay.same s') (hx _ rfl) (hy _ rfl))
def Fa (T:Tx K mg):Sp:=fun vs H Q _=>∃(u v:V) (x y:Option Vbdeab.Q) (n:Int),vs= [u,v,.int n]∧OQ T H u x∧OQ T H v y∧(∀q,x=some q→jb q)∧(∀q,y=some q→jb q)∧∀(r:V) (H':Hp),Ek T H' r (Kd.m9 x y n)→aC H H'→Q r H'
theorem lS (T:Tx K mg):dM P w base T.l9 5 (Fa T):=by
 refine T.l9.okA EY ?_
 rintro _ A _ s H _ Q E hr ⟨u,v,x,y,n,rfl,hu,hv,hx,hy,k⟩
 refine⟨_,(ac (aT (lh (h9 (aR kC (pv 0) cY (aY _)) (h9 (aR kC (pv 1) cY (aY _)) (ig (aV (aS (bi T.bU (a7 T) hr (ab (pv 2) (ab am (ab (fh T.Fo) ad)))))))))) (ae (aj cY)) aG)
   (ae (aj (Ag T.ux (BC T) hr (ab (pv 0) (ab (pv 1) (ab (pv 2) ad))))))),?_⟩
 cases x with
 | none=>
  obtain rfl:u= .non:=hu
  exact eK _ rfl rfl _ rfl (jx (k .non H rfl (aC.refl' H)))
 | some x=>
  obtain⟨ax,rfl,hax⟩:=hu
  cases y with
  | none=>
   obtain rfl:v= .non:=hv
   exact eK _ rfl rfl _ rfl (eK _ rfl rfl _ rfl (jx (k .non H rfl (aC.refl' H))))
  | some y=>
   obtain⟨ay,rfl,hay⟩:=hv
   have ek:Kd.m9 (some x) (some y) n=if 1≤n∧n≤1000000000000000000 then some (.comb x y n.toNat) else none:=rfl
   rw [ek] at k
   refine eK _ rfl rfl _ rfl (eK _ rfl rfl _ rfl (fy _ rfl n 1 (bB 1000000000000000000 rfl _ rfl (aX (fun h1=> ?_) (fun h1=> ?_)))))
   ·rw [if_neg (oM h1)] at k
    exact k .non H rfl (aC.refl' H)
   ·have hn:=oN h1
    rw [if_pos hn] at k
    refine bc _ rfl _ rfl _ rfl ?_
    intro z dz nz nd _
    have en:n=((n.toNat:Nat):Int):=by omega
    refine Jd nz nd (fun H2 e2 s2=>k (.ref z) H2 (cZ z rfl (hJ dz ax ay e2 (hax.same s2) (hay.same s2)) (vc.comb (hx _ rfl) (hy _ rfl) (by omega) (by omega))) s2) fun H' s'=>(iG ax ay x y n.toNat (by rw [←en]) rfl (hax.same s') (hay.same s') (hx _ rfl) (hy _ rfl))
def x9 (f x s:Vbdeab.Q):Option Vbdeab.Q:=if ((f.mul x).add s).small=true then some ((f.mul x).add s) else none
theorem G3 {f x s:Vbdeab.Q} (hx:jb x) (hf:jb f) (hs:jb s):Vbdeab.fraction (x.num*f.num*(s.den:Int)+s.num*((x.den:Int)*(f.den:Int))) ((x.den:Int)*(f.den:Int)*(s.den:Int))=x9 f x s:=by
 have z:=(hf.2.iz.mul hx.2.iz).add hs.2.iz
 have p:(0:Int)<(x.den:Int)*(f.den:Int)*(s.den:Int):=eW (eW (gn hx.2) (gn hf.2)) (gn hs.2)
 have z2:=z.conv (m:=x.num*f.num*(s.den:Int)+s.num*((x.den:Int)*(f.den:Int))) p (by grind)
 unfold Vbdeab.fraction x9
 rw [←z2.eq]
 by_cases q:((f.mul x).add s).small=true
 ·rw [if_pos q,if_pos ⟨by omega,q⟩]
 ·rw [if_neg q,if_neg fun y=>q y.2]
theorem Cz {f x s q:Vbdeab.Q} (hx:jb x) (hf:jb f) (hs:jb s) (h:x9 f x s=some q):jb q:=by
 rw [←G3 hx hf hs] at h
 exact nh h
def GN (T:Tx K mg):Sp:=fun vs H Q _=>∃(a b c:Addr) (x f s:Vbdeab.Q),vs= [.ref a,.ref b,.ref c]∧jW T H a x∧jW T H b f∧jW T H c s∧jb x∧jb f∧jb s∧∀(v:V) (H':Hp),OQ T H' v (x9 f x s)→aC H H'→Q v H'
theorem tw (T:Tx K mg):dM P w base T.uD 5 (GN T):=by
 refine T.uD.okA z9 ?_
 rintro _ A _ s H _ Q E hr ⟨a,b,c,x,f,s,rfl,⟨da,ha⟩,⟨db,hb⟩,⟨dc,hc⟩,hx,hf,hs,k⟩
 refine⟨_,(ac (aZ 3 z9.nd (zw (zw (pv 0) T.kU (oO T) hr (ab (pv 1) ad)) T.rb (Ar T) hr (ab (pv 2) ad)))
   (ae (aj (bi T.cK (cp T) hr (ab (ao (pv 3) rfl) (ab (ao (pv 3) rfl) ad)))))),?_⟩
 obtain⟨x1,x2⟩:=cH hx.1
 obtain⟨f1,f2⟩:=cH hf.1
 obtain⟨s1,s2⟩:=cH hs.1
 refine cM _ rfl a da _ rfl ha rfl (fy _ rfl a b (jZ _ _ _ _ rfl ⟨da,ha⟩ ⟨db,hb⟩ (bC x1 f1) (bC x2 f2) fun y H1 ⟨dy,hy⟩ sa=> ?_))
 refine hJ y dy _ rfl hy (dm rfl _ rfl (jp y c _ _ _ _ rfl ⟨dy,hy⟩ ⟨dc,sa _ _ hc⟩ (bC (x1.mul f1 (k:=120)) s2) (bC s1 (x2.mul f2 (k:=120))) (bC (x2.mul f2 (k:=120)) s2) fun z H2 ⟨dz,hz⟩ sb=> ?_))
 refine aM _ rfl z _ dz _ _ rfl hz T.aA.cl (T.aA.no _ (by decide)) rfl (aM _ rfl z _ dz _ _ rfl hz T.aA.cl (T.aA.no _ (by decide)) rfl (bT _ _ rfl (((x2.mul f2 (k:=120)).mul s2 (k:=180)).mono (by decide)) fun v H3 ho sc=> ?_))
 rw [G3 hx hf hs] at ho
 exact k v H3 ho ((sa.trans sb).trans sc)
open Vbdeab (Class)
instance QE (m:Nat) (x:Int):Decidable (Sz m x):=inferInstanceAs (Decidable (x.natAbs<2 ^ m))
theorem jK {n:Nat} (h:n≤1000000000000000000):Sz 60 (n:Int):=by show((n:Int)).natAbs<_;rw [kh];exact Ob h
theorem eE {k m:Nat} (h:k<2 ^ m):Sz m (k:Int):=by show((k:Int)).natAbs<_;rw [kh];exact h
def E7 (T:Tx K mg):Sp:=fun vs H Q _=>∃(a:Addr) (x y:Vbdeab.Q) (t span:Int),vs= [.ref a,.int t,.int span]∧jn T H a (.line x y)∧vc (.line x y)∧Sz 400 t∧Sz 400 span∧∀(z:Addr) (H':Hp),fG T H' z (Fr.KL (.line x y) t span) (Fr.NP (.line x y) span)→aC H H'→Q (.ref z) H'
theorem EG (T:Tx K mg):sr mg P w base T.zz 3 (E7 T):=by
 refine T.zz.okA EW ?_
 rintro _ A _ s H _ Q E hr ⟨a,x,y,t,span,rfl,⟨dx,ax,ay,h1,hax,hay⟩,ok,ht,hsp,k⟩
 refine⟨_,(ae (aj (Ag T.bo (a9 T) hr (ab (aB bY (aB aJ (ao (pv 0) rfl) (pv 2)) (aB aJ (ao (pv 0) rfl) (pv 1))) (ab (aB aJ (ao (pv 0) rfl) (pv 2)) ad))))),?_⟩
 obtain⟨b0,bz,oz,rz⟩:=iP ok
 refine aM _ rfl a _ dx _ _ rfl h1 T.aP.cl (T.aP.no _ (by decide)) rfl (d9 _ rfl _ _ rfl rfl (bC oz hsp) (aM _ rfl a _ dx _ _ rfl h1 T.aP.cl (T.aP.no _ (by decide)) rfl (bH _ rfl (jo _ _ rfl rfl (bC rz ht) _ _ rfl rfl (aM _ rfl a _ dx _ _ rfl h1 T.aP.cl (T.aP.no _ (by decide)) rfl (d9 _ rfl _ _ rfl rfl (bC bz hsp) ?_))))))
 intro z dz nz nd _
 exact de nz nd (fun H2 e2 s2=>k z H2 ⟨dz,e2⟩ s2) (cI _ _ rfl rfl)
def E6 (T:Tx K mg):Sp:=fun vs H Q _=>∃(a:Addr) (x y:Vbdeab.Q) (n:Nat) (t span:Int),vs= [.ref a,.int t,.int span]∧jn T H a (.comb x y n)∧vc (.comb x y n)∧Sz 400 t∧Sz 400 span∧0<span∧∀(z:Addr) (H':Hp),fG T H' z (Fr.KL (.comb x y n) t span) (Fr.NP (.comb x y n) span)→aC H H'→Q (.ref z) H'
theorem EF (T:Tx K mg):sr mg P w base T.zy 3 (E6 T):=by
 refine T.zy.okA EV ?_
 rintro _ A _ s H _ Q E hr ⟨a,x,y,n,t,span,rfl,⟨dx,ax,ay,h1,hax,hay⟩,ok,ht,hsp,sp0,k⟩
 refine⟨_,(ae (aj (Ag T.bo (a9 T) hr (ab (aB bY (ao (pv 0) rfl) (aB aJ (ao (pv 0) rfl) (aB cA (aB aJ (pv 1) (ao (pv 0) rfl)) (pv 2)))) (ab (ao (pv 0) rfl) ad))))),?_⟩
 obtain⟨b0,bz,oz,rz⟩:=iP ok
 have nz':=jK (ga ok).2.2.2
 refine aM _ rfl a _ dx _ _ rfl h1 T.aH.cl (T.aH.no _ (by decide)) rfl (aM _ rfl a _ dx _ _ rfl h1 T.aH.cl (T.aH.no _ (by decide)) rfl (iX _ rfl _ rfl a _ dx _ _ rfl h1 T.aH.cl (T.aH.no _ (by decide)) rfl (bP _ _ rfl rfl (bC ht nz') (d9 _ rfl _ _ rfl rfl (pS sp0 (hsp.mono (by decide))) (jo _ _ rfl rfl (bC rz ((ht.mul nz' (k:=460)).ediv sp0)) _ _ rfl rfl (aM _ rfl a _ dx _ _ rfl h1 T.aH.cl (T.aH.no _ (by decide)) rfl ?_))))))
 intro z dz nz nd _
 exact de nz nd (fun H2 e2 s2=>k z H2 ⟨dz,e2⟩ s2) (cI _ _ rfl rfl)
def qQ (T:Tx K mg):Sp:=fun vs H Q _=>∃(a:Addr) (x y:Vbdeab.Q),vs= [.ref a]∧jn T H a (.line x y)∧∀(p:Addr),H p=none→Q (.ref p) (bR H p (.lst ((shownClass (.line x y)).map V.int)))
theorem qk (T:Tx K mg):sr mg P w base T.iq 1 (qQ T):=by
 refine T.iq.okA qG ?_
 rintro _ A _ s H _ Q E hr ⟨a,x,y,rfl,⟨dx,ax,ay,h1,⟨d1,hax⟩,⟨d2,hay⟩⟩,k⟩
 refine⟨_,(ae (aj (aI (ab am (ab (ao (ao (pv 0) rfl) rfl) (ab (ao (ao (pv 0) rfl) rfl) (ab (ao (ao (pv 0) rfl) rfl) (ab (ao (ao (pv 0) rfl) rfl) (ab am ad))))))))),?_⟩
 exact aM _ rfl a _ dx _ _ rfl h1 T.aP.cl (T.aP.no _ (by decide)) rfl (iG ax _ d1 _ _ rfl hax T.aA.cl (T.aA.no _ (by decide)) rfl (aM _ rfl a _ dx _ _ rfl h1 T.aP.cl (T.aP.no _ (by decide)) rfl (iG ax _ d1 _ _ rfl hax T.aA.cl (T.aA.no _ (by decide)) rfl (aM _ rfl a _ dx _ _ rfl h1 T.aP.cl (T.aP.no _ (by decide)) rfl (iG ay _ d2 _ _ rfl hay T.aA.cl (T.aA.no _ (by decide)) rfl (aM _ rfl a _ dx _ _ rfl h1 T.aP.cl (T.aP.no _ (by decide)) rfl (iG ay _ d2 _ _ rfl hay T.aA.cl (T.aA.no _ (by decide)) rfl ⟨(by show 6≤sizeLine;decide),k⟩)))))))
def qN (T:Tx K mg):Sp:=fun vs H Q _=>∃(a:Addr) (x y:Vbdeab.Q) (n:Nat),vs= [.ref a]∧jn T H a (.comb x y n)∧∀(p:Addr),H p=none→Q (.ref p) (bR H p (.lst ((shownClass (.comb x y n)).map V.int)))
theorem qh (T:Tx K mg):sr mg P w base T.im 1 (qN T):=by
 refine T.im.okA qD ?_
 rintro _ A _ s H _ Q E hr ⟨a,x,y,n,rfl,⟨dx,ax,ay,h1,⟨d1,hax⟩,⟨d2,hay⟩⟩,k⟩
 refine⟨_,(ae (aj (aI (ab am (ab (ao (ao (pv 0) rfl) rfl) (ab (ao (ao (pv 0) rfl) rfl) (ab (ao (ao (pv 0) rfl) rfl) (ab (ao (ao (pv 0) rfl) rfl) (ab (ao (pv 0) rfl) ad))))))))),?_⟩
 exact aM _ rfl a _ dx _ _ rfl h1 T.aH.cl (T.aH.no _ (by decide)) rfl (iG ax _ d1 _ _ rfl hax T.aA.cl (T.aA.no _ (by decide)) rfl (aM _ rfl a _ dx _ _ rfl h1 T.aH.cl (T.aH.no _ (by decide)) rfl (iG ax _ d1 _ _ rfl hax T.aA.cl (T.aA.no _ (by decide)) rfl (aM _ rfl a _ dx _ _ rfl h1 T.aH.cl (T.aH.no _ (by decide)) rfl (iG ay _ d2 _ _ rfl hay T.aA.cl (T.aA.no _ (by decide)) rfl (aM _ rfl a _ dx _ _ rfl h1 T.aH.cl (T.aH.no _ (by decide)) rfl (iG ay _ d2 _ _ rfl hay T.aA.cl (T.aA.no _ (by decide)) rfl (aM _ rfl a _ dx _ _ rfl h1 T.aH.cl (T.aH.no _ (by decide)) rfl ⟨(by show 6≤sizeLine;decide),k⟩))))))))
def xR (T:Tx K mg):Sp:=fun vs H Q _=>∃(a:Addr) (x y:Vbdeab.Q),vs= [.ref a]∧jn T H a (.line x y)∧vc (.line x y)∧∀(z:Addr) (H':Hp) (n d:Int),fG T H' z n d→Fr.Iz (Fr.Ao (.line x y)) n d→Sz 400 n→Sz 400 d→aC H H'→Q (.ref z) H'
theorem xg (T:Tx K mg):sr mg P w base T.mR 1 (xR T):=by
 refine T.mR.okA xL ?_
 rintro _ A _ s H _ Q E hr ⟨a,x,y,rfl,⟨dx,ax,ay,h1,hax,hay⟩,ok,k⟩
 refine⟨_,(ae (aj (ao (pv 0) rfl))),?_⟩
 obtain⟨hx,hy⟩:=EC ok
 obtain⟨y1,y2⟩:=cH hy.1
 exact aM _ rfl a _ dx _ _ rfl h1 T.aP.cl (T.aP.no _ (by decide)) rfl (k ay H _ _ hay hy.2.iz (y1.mono (by decide)) (y2.mono (by decide)) (aC.refl' H))
def xP (T:Tx K mg):Sp:=fun vs H Q _=>∃(a:Addr) (x y:Vbdeab.Q) (n:Nat),vs= [.ref a]∧jn T H a (.comb x y n)∧vc (.comb x y n)∧∀(z:Addr) (H':Hp) (m d:Int),fG T H' z m d→Fr.Iz (Fr.Ao (.comb x y n)) m d→Sz 400 m→Sz 400 d→aC H H'→Q (.ref z) H'
theorem xf (T:Tx K mg):sr mg P w base T.mQ 3 (xP T):=by
 refine T.mQ.okA xJ ?_
 rintro _ A _ s H _ Q E hr ⟨a,x,y,n,rfl,⟨dx,ax,ay,h1,hax,hay⟩,ok,k⟩
 refine⟨_,(ae (aj (Ag T.bo (a9 T) hr (ab (aB bY (ao (pv 0) rfl) (aB aJ (ao (pv 0) rfl) (aB b9 (ao (pv 0) rfl) am))) (ab (ao (pv 0) rfl) ad))))),?_⟩
 obtain⟨b0,bz,oz,rz⟩:=iP ok
 have nz':=jK (ga ok).2.2.2
 have n1:=(ga ok).2.2.1
 have nz1:Sz 60 ((n:Int) - 1):=nz'.le (by omega)
 refine aM _ rfl a _ dx _ _ rfl h1 T.aH.cl (T.aH.no _ (by decide)) rfl (aM _ rfl a _ dx _ _ rfl h1 T.aH.cl (T.aH.no _ (by decide)) rfl (aM _ rfl a _ dx _ _ rfl h1 T.aH.cl (T.aH.no _ (by decide)) rfl (bT _ _ rfl rfl (jo _ _ rfl rfl (bC rz nz1) _ _ rfl rfl (aM _ rfl a _ dx _ _ rfl h1 T.aH.cl (T.aH.no _ (by decide)) rfl ?_)))))
 intro z dz nz nd _
 have iz:=Fr.x8 ok.2 (n - 1)
 rw [show((n - 1:Nat):Int)=(n:Int) - 1 by omega] at iz
 exact de nz nd (fun H2 e2 s2=>k z H2 _ _ ⟨dz,e2⟩ iz ((oz.add (rz.mul nz1 (k:=241)) (k:=400))) (bz.mono (by decide)) s2) (cI _ _ rfl rfl)
def qP (T:Tx K mg):Sp:=fun vs H Q _=>∃(a:Addr) (x y:Vbdeab.Q),vs= [.ref a]∧jn T H a (.line x y)∧vc (.line x y)∧Q (.int (Fr.Fq (.line x y))) H
theorem qj (T:Tx K mg):sr mg P w base T.ip 1 (qP T):=by
 refine T.ip.okA qF ?_
 rintro _ A _ s H _ Q E hr ⟨a,x,y,rfl,⟨dx,ax,ay,h1,hax,hay⟩,ok,k⟩
 refine⟨_,(ae (aj (aB bY (aB aJ am (ao (pv 0) rfl)) (ao (pv 0) rfl)))),?_⟩
 obtain⟨b0,bz,oz,rz⟩:=iP ok
 exact aM _ rfl a _ dx _ _ rfl h1 T.aP.cl (T.aP.no _ (by decide)) rfl (bP _ _ rfl rfl (bC (show Sz 2 2 by decide) oz) (aM _ rfl a _ dx _ _ rfl h1 T.aP.cl (T.aP.no _ (by decide)) rfl (bT _ _ rfl rfl k)))
def qM (T:Tx K mg):Sp:=fun vs H Q _=>∃(a:Addr) (x y:Vbdeab.Q) (n:Nat),vs= [.ref a]∧jn T H a (.comb x y n)∧vc (.comb x y n)∧Q (.int (Fr.Fq (.comb x y n))) H
theorem qg (T:Tx K mg):sr mg P w base T.il 1 (qM T):=by
 refine T.il.okA qC ?_
 rintro _ A _ s H _ Q E hr ⟨a,x,y,n,rfl,⟨dx,ax,ay,h1,hax,hay⟩,ok,k⟩
 refine⟨_,(ae (aj (aB bY (aB aJ am (ao (pv 0) rfl)) (aB aJ (ao (pv 0) rfl) (aB b9 (ao (pv 0) rfl) am))))),?_⟩
 obtain⟨b0,bz,oz,rz⟩:=iP ok
 have nz':=jK (ga ok).2.2.2
 have n1:=(ga ok).2.2.1
 have nz1:Sz 60 ((n:Int) - 1):=nz'.le (by omega)
 exact aM _ rfl a _ dx _ _ rfl h1 T.aH.cl (T.aH.no _ (by decide)) rfl (bP _ _ rfl rfl (bC (show Sz 2 2 by decide) oz) (aM _ rfl a _ dx _ _ rfl h1 T.aH.cl (T.aH.no _ (by decide)) rfl (aM _ rfl a _ dx _ _ rfl h1 T.aH.cl (T.aH.no _ (by decide)) rfl (bT _ _ rfl rfl (jo _ _ rfl rfl (bC rz nz1) _ _ rfl rfl k)))))
def oq (T:Tx K mg):Sp:=fun vs H Q _=>∃(a:Addr) (x y:Vbdeab.Q),vs= [.ref a]∧jn T H a (.line x y)∧vc (.line x y)∧Q (.int (Fr.tX (.line x y))) H
theorem oa (T:Tx K mg):sr mg P w base T.gg 1 (oq T):=by
 refine T.gg.okA ol ?_
 rintro _ A _ s H _ Q E hr ⟨a,x,y,rfl,⟨dx,ax,ay,h1,hax,hay⟩,ok,k⟩
 refine⟨_,(ae (aj (aB bY (aB aJ (aB aJ am (ao (pv 0) rfl)) (aB bY (ao (pv 0) rfl) (ao (pv 0) rfl))) (aB aJ (aB aJ am (ao (pv 0) rfl)) (ao (pv 0) rfl))))),?_⟩
 obtain⟨b0,bz,oz,rz⟩:=iP ok
 have o6:=(show Sz 3 6 by decide).mul oz (k:=183)
 have r2:=(show Sz 2 2 by decide).mul rz (k:=183)
 exact aM _ rfl a _ dx _ _ rfl h1 T.aP.cl (T.aP.no _ (by decide)) rfl (bP _ _ rfl rfl (bC (show Sz 3 6 by decide) oz) (aM _ rfl a _ dx _ _ rfl h1 T.aP.cl (T.aP.no _ (by decide)) rfl (aM _ rfl a _ dx _ _ rfl h1 T.aP.cl (T.aP.no _ (by decide)) rfl (bT _ _ rfl rfl (bP _ _ rfl rfl (bC o6 (oz.add rz (k:=182))) (aM _ rfl a _ dx _ _ rfl h1 T.aP.cl (T.aP.no _ (by decide)) rfl (bP _ _ rfl rfl (bC (show Sz 2 2 by decide) rz) (aM _ rfl a _ dx _ _ rfl h1 T.aP.cl (T.aP.no _ (by decide)) rfl (jo _ _ rfl rfl (bC r2 rz) _ _ rfl rfl k)))))))))
def om (T:Tx K mg):Sp:=fun vs H Q _=>∃(a:Addr) (x y:Vbdeab.Q) (n:Nat),vs= [.ref a]∧jn T H a (.comb x y n)∧vc (.comb x y n)∧Q (.int (Fr.tX (.comb x y n))) H
theorem n9 (T:Tx K mg):sr mg P w base T.gf 1 (om T):=by
 refine T.gf.okA iD ?_
 rintro _ A _ s H _ Q E hr ⟨a,x,y,n,rfl,⟨dx,ax,ay,h1,hax,hay⟩,ok,k⟩
 refine⟨_,(ac (aZ 1 iD.nd (aB aJ (ao (pv 0) rfl) (aB b9 (ao (pv 0) rfl) am)))
   (ae (aj (aB bY (aB aJ (aB aJ am (ao (pv 0) rfl)) (aB bY (ao (pv 0) rfl) (pv 1))) (aB aJ (aB aJ (ao (pv 0) rfl) (pv 1)) (aB b9 (aB aJ am (ao (pv 0) rfl)) am)))))),?_⟩
 obtain⟨b0,bz,oz,rz⟩:=iP ok
 have nz':=jK (ga ok).2.2.2
 have n1:=(ga ok).2.2.1
 have nz1:Sz 60 ((n:Int) - 1):=nz'.le (by omega)
 have n2:Sz 62 (2*(n:Int)):=(show Sz 2 2 by decide).mul nz' (k:=62)
 have o6:=(show Sz 3 6 by decide).mul oz (k:=183)
 have wz:=rz.mul nz1 (k:=241)
 refine aM _ rfl a _ dx _ _ rfl h1 T.aH.cl (T.aH.no _ (by decide)) rfl (aM _ rfl a _ dx _ _ rfl h1 T.aH.cl (T.aH.no _ (by decide)) rfl (bT _ _ rfl rfl (bP _ _ rfl rfl (bC rz nz1) ?_)))
 exact aM _ rfl a _ dx _ _ rfl h1 T.aH.cl (T.aH.no _ (by decide)) rfl (bP _ _ rfl rfl (bC (show Sz 3 6 by decide) oz) (aM _ rfl a _ dx _ _ rfl h1 T.aH.cl (T.aH.no _ (by decide)) rfl (cv _ rfl _ _ rfl rfl (bP _ _ rfl rfl (bC o6 (oz.add wz (k:=242))) (aM _ rfl a _ dx _ _ rfl h1 T.aH.cl (T.aH.no _ (by decide)) rfl (d9 _ rfl _ _ rfl rfl (bC rz wz) (aM _ rfl a _ dx _ _ rfl h1 T.aH.cl (T.aH.no _ (by decide)) rfl (jo _ _ rfl rfl (bC (show Sz 2 2 by decide) nz') _ _ rfl rfl (jo _ _ rfl rfl (bC (rz.mul wz (k:=422)) (n2.sub (show Sz 1 1 by decide) (k:=63))) _ _ rfl rfl k)))))))))
theorem AW {m:Nat} {r:Int} (h:Sz m r):Sz m (Fr.vI r):=by
 refine h.le ?_
 unfold Fr.vI
 split<;>omega
theorem IG (r:Int):0≤Fr.vI r:=by unfold Fr.vI;split<;>omega
def tZ (T:Tx K mg):Sp:=fun vs H Q _=>∃(a b:Addr) (x y v:Vbdeab.Q) (st:Int),vs= [.ref a,.ref b,.int st]∧jn T H a (.line x y)∧vc (.line x y)∧jW T H b v∧jb v∧∀(z:Addr) (H':Hp),fG T H' z (Fr.xq (.line x y) v.num (v.den:Int) st) (Fr.vj (.line x y) (v.den:Int))→aC H H'→Q (.ref z) H'
theorem tp (T:Tx K mg):sr mg P w base T.jR 3 (tZ T):=by
 refine T.jR.okA gG ?_
 rintro _ A _ s H _ Q E hr ⟨a,b,x,y,v,st,rfl,⟨dx,ax,ay,h1,hax,hay⟩,ok,⟨dv,hv⟩,okv,k⟩
 refine⟨_,(ac (aT (aR rK (ao (pv 0) rfl) am (aY _)) (ae (aj (Ag T.bo (a9 T) hr (ab (xt (aR Jf (bi T.jU (lA T) hr (ab (ao (pv 0) rfl) (ab (ao (pv 0) rfl) (ab (pv 1) ad)))) (pv 2) (aY _)) am am) (ab am ad))))) aG)
   (ac (aZ 3 gG.nd (aB aJ (a8 FA (by rfl) T.NG (by rfl) (ab (ao (pv 0) rfl) ad)) (ao (pv 1) rfl)))
   (ac (aZ 4 gG.nd (bi T.jU (lA T) hr (ab (a8 (DG rfl) (by rfl) T.Mr (by rfl) (ab (ao (pv 0) rfl) (ab (aB bY (ao (pv 0) rfl) (ao (pv 0) rfl)) ad))) (ab (ao (pv 0) rfl) (ab (pv 1) ad)))))
   (ae (aj (Ag T.bo (a9 T) hr (ab (bi T.uQ (xi T) hr (ab (pv 4) (ab (pv 3) ad))) (ab (pv 3) ad)))))))),?_⟩
 obtain⟨b0,bz,oz,rz⟩:=iP ok
 obtain⟨v1,v2⟩:=cH okv.1
 have v0:=gn okv.2
 unfold Fr.xq Fr.vj at k
 simp only at k
 refine aM _ rfl a _ dx _ _ rfl h1 T.aP.cl (T.aP.no _ (by decide)) rfl (dm rfl _ rfl (aX (fun hr=> ?_) (fun hr=> ?_)))
 ·have hr':Fr.cR (.line x y)=0:=V.int.inj (bj hr)
  rw [if_pos hr',if_pos hr'] at k
  refine aM _ rfl a _ dx _ _ rfl h1 T.aP.cl (T.aP.no _ (by decide)) rfl (aM _ rfl a _ dx _ _ rfl h1 T.aP.cl (T.aP.no _ (by decide)) rfl (gM _ rfl b v _ _ rfl ⟨dv,hv⟩ okv (oz.mono (by decide)) (bz.mono (by decide)) (lu _ rfl _ _ rfl rfl _ rfl (aX (fun h2=> ?_) (fun h2=> ?_)))))
  ·have h2':=bj h2
   rw [if_pos h2'] at k
   intro z dz nz nd _
   exact de nz nd (fun H2 e2 s2=>k z H2 ⟨dz,e2⟩ s2) (cI _ _ rfl rfl)
  ·rw [if_neg fun q=>h2 (aE q)] at k
   intro z dz nz nd _
   exact de nz nd (fun H2 e2 s2=>k z H2 ⟨dz,e2⟩ s2) (cI _ _ rfl rfl)
 ·have hr':¬Fr.cR (.line x y)=0:=fun q=>hr (aE (cx V.int q))
  rw [if_neg hr',if_neg hr'] at k
  have az:=AW rz
  refine aM _ rfl a _ dx _ _ rfl h1 T.aP.cl (T.aP.no _ (by decide)) rfl (iX _ rfl _ rfl b _ dv _ _ rfl hv T.aA.cl (T.aA.no _ (by decide)) rfl (bP _ _ rfl rfl (bC az v2) ?_))
  refine aM _ rfl a _ dx _ _ rfl h1 T.aP.cl (T.aP.no _ (by decide)) rfl (aM _ rfl a _ dx _ _ rfl h1 T.aP.cl (T.aP.no _ (by decide)) rfl (aM _ rfl a _ dx _ _ rfl h1 T.aP.cl (T.aP.no _ (by decide)) rfl (cI _ _ rfl (kK rfl _ (iX _ rfl _ rfl a _ dx _ _ rfl h1 T.aP.cl (T.aP.no _ (by decide)) rfl (gM _ rfl b v _ _ rfl ⟨dv,hv⟩ okv ?_ (bz.mono (by decide)) ?_))))))
  ·show Sz 400 (Fr.Ly (Fr.cO (.line x y)) (Fr.cO (.line x y)+Fr.cR (.line x y)))
   unfold Fr.Ly
   split
   ·exact oz.add rz (k:=400)
   ·exact oz.mono (by decide)
  ·refine bH _ rfl (lu _ rfl _ _ rfl (Int.mul_nonneg (IG _) (fF v0)) _ rfl ?_)
   intro z dz nz nd _
   exact de nz nd (fun H2 e2 s2=>k z H2 ⟨dz,e2⟩ s2) (cI _ _ rfl rfl)
def tY (T:Tx K mg):Sp:=fun vs H Q _=>∃(a b:Addr) (x y v:Vbdeab.Q) (n:Nat) (st:Int),vs= [.ref a,.ref b,.int st]∧jn T H a (.comb x y n)∧vc (.comb x y n)∧jW T H b v∧jb v∧∀(z:Addr) (H':Hp),fG T H' z (Fr.xq (.comb x y n) v.num (v.den:Int) st) (Fr.vj (.comb x y n) (v.den:Int))→aC H H'→Q (.ref z) H'
theorem tm (T:Tx K mg):sr mg P w base T.jQ 3 (tY T):=by
 refine T.jQ.okA cS ?_
 rintro _ A _ s H _ Q E hr ⟨a,b,x,y,v,n,st,rfl,⟨dx,ax,ay,h1,hax,hay⟩,ok,⟨dv,hv⟩,okv,k⟩
 refine⟨_,(ac (aZ 3 cS.nd (aB b9 (bi T.jU (lA T) hr (ab (ao (pv 0) rfl) (ab (ao (pv 0) rfl) (ab (pv 1) ad)))) (pv 2)))
   (ac (aZ 4 cS.nd (aB aJ (a8 FA (by rfl) T.NG (by rfl) (ab (ao (pv 0) rfl) ad)) (ao (pv 1) rfl)))
   (ac (aT (aR rK (ao (pv 0) rfl) am (aY _)) (ae (aZ 5 cS.nd (xt (aR Jf (pv 3) am (aY _)) (ao (pv 0) rfl) am))) (ae (aT (aR vi (ao (pv 0) rfl) am (aY _)) (ae (aZ 5 cS.nd (aB bY (aB cA (pv 3) (pv 4)) am))) (ae (aZ 5 cS.nd (aB bY (ao (pv 0) rfl) (aB cA (pv 3) (pv 4))))))))
   (ae (aj (Ag T.bo (a9 T) hr (ab (bi T.uQ (xi T) hr (ab (pv 5) (ab (ao (pv 0) rfl) ad))) (ab (ao (pv 0) rfl) ad)))))))),?_⟩
 obtain⟨b0,bz,oz,rz⟩:=iP ok
 obtain⟨v1,v2⟩:=cH okv.1
 have v0:=gn okv.2
 have az:=AW rz
 have aq:=az.mul v2 (k:=241)
 refine aM _ rfl a _ dx _ _ rfl h1 T.aH.cl (T.aH.no _ (by decide)) rfl (aM _ rfl a _ dx _ _ rfl h1 T.aH.cl (T.aH.no _ (by decide)) rfl (gM _ rfl b v _ _ rfl ⟨dv,hv⟩ okv (oz.mono (by decide)) (bz.mono (by decide)) (cv _ rfl _ _ rfl rfl ?_)))
 refine aM _ rfl a _ dx _ _ rfl h1 T.aH.cl (T.aH.no _ (by decide)) rfl (iX _ rfl _ rfl b _ dv _ _ rfl hv T.aA.cl (T.aA.no _ (by decide)) rfl (bP _ _ rfl rfl (bC az v2) ?_))
 have fin:∀r:Int,r=Fr.oV (Fr.cR (.comb x y n)) (v.num*Fr.cB (.comb x y n) - Fr.cO (.comb x y n)*(v.den:Int) - st) (Fr.vI (Fr.cR (.comb x y n))*(v.den:Int)) n→∀z:Addr,∀H':Hp,fG T H' z (Fr.f9 r n) (n:Int)→aC H H'→Q (.ref z) H':=fun r e z H' h s=>k z H' (by rw [e] at h;exact h) s
 refine aM _ rfl a _ dx _ _ rfl h1 T.aH.cl (T.aH.no _ (by decide)) rfl (dm rfl _ rfl (aX (fun hr=> ?_) (fun hr=> ?_)))
 ·have hr':Fr.cR (.comb x y n)=0:=V.int.inj (bj hr)
  refine lu _ rfl _ _ rfl rfl _ rfl (aX (fun h2=> ?_) (fun h2=> ?_))
  ·have h2':=bj h2
   refine aM _ rfl a _ dx _ _ rfl h1 T.aH.cl (T.aH.no _ (by decide)) rfl ?_
   refine iX _ rfl _ rfl a _ dx _ _ rfl h1 T.aH.cl (T.aH.no _ (by decide)) rfl (bT _ _ rfl (by omega) (aM _ rfl a _ dx _ _ rfl h1 T.aH.cl (T.aH.no _ (by decide)) rfl ?_))
   intro z dz nz nd _
   exact de nz nd (fun H2 e2 s2=>fin n (by unfold Fr.oV;rw [if_pos hr',if_pos h2']) z H2 ⟨dz,e2⟩ s2) (cI _ _ rfl rfl)
  ·have h2':=fun q=>h2 (aE q)
   refine iX _ rfl _ rfl a _ dx _ _ rfl h1 T.aH.cl (T.aH.no _ (by decide)) rfl (bT _ _ rfl (by omega) (aM _ rfl a _ dx _ _ rfl h1 T.aH.cl (T.aH.no _ (by decide)) rfl ?_))
   intro z dz nz nd _
   exact de nz nd (fun H2 e2 s2=>fin 0 (by unfold Fr.oV;rw [if_pos hr',if_neg h2']) z H2 ⟨dz,e2⟩ s2) (cI _ _ rfl rfl)
 ·have hr':¬Fr.cR (.comb x y n)=0:=fun q=>hr (aE (cx V.int q))
  have st0:0<Fr.vI (Fr.cR (.comb x y n))*(v.den:Int):=eW (Fr.Fx hr') v0
  refine aM _ rfl a _ dx _ _ rfl h1 T.aH.cl (T.aH.no _ (by decide)) rfl ⟨_,(eK _ rfl rfl _ rfl (aX (fun h2=> ?_) (fun h2=> ?_)))⟩
  ·have h2':0<Fr.cR (.comb x y n):=bj h2
   refine bB _ rfl _ rfl (jo _ _ rfl rfl (pS st0 (aq.mono (by decide))) _ _ rfl rfl ?_)
   refine iX _ rfl _ rfl a _ dx _ _ rfl h1 T.aH.cl (T.aH.no _ (by decide)) rfl (bT _ _ rfl (by omega) (aM _ rfl a _ dx _ _ rfl h1 T.aH.cl (T.aH.no _ (by decide)) rfl ?_))
   intro z dz nz nd _
   exact de nz nd (fun H2 e2 s2=>fin _ (by unfold Fr.oV;rw [if_neg hr',if_pos h2'];rfl) z H2 ⟨dz,e2⟩ s2) (cI _ _ rfl rfl)
  ·have h2':¬0<Fr.cR (.comb x y n):=fun q=>h2 (aE q)
   refine aM _ rfl a _ dx _ _ rfl h1 T.aH.cl (T.aH.no _ (by decide)) rfl (bB _ rfl _ rfl (jo _ _ rfl rfl (pS st0 (aq.mono (by decide))) _ _ rfl rfl ?_))
   refine iX _ rfl _ rfl a _ dx _ _ rfl h1 T.aH.cl (T.aH.no _ (by decide)) rfl (bT _ _ rfl (by omega) (aM _ rfl a _ dx _ _ rfl h1 T.aH.cl (T.aH.no _ (by decide)) rfl ?_))
   intro z dz nz nd _
   exact de nz nd (fun H2 e2 s2=>fin _ (by unfold Fr.oV;rw [if_neg hr',if_neg h2'];rfl) z H2 ⟨dz,e2⟩ s2) (cI _ _ rfl rfl)
def sO (f s:Vbdeab.Q) (c:Class):Option Class:=Kd.sm (some (c.bent f s))
theorem JH (f s x y:Vbdeab.Q):Kd.j3 (x9 f x s) (x9 f y s)=sO f s (.line x y):=by
 show _=(if ((Class.line ((f.mul x).add s) ((f.mul y).add s)).small)=true then some (Class.line ((f.mul x).add s) ((f.mul y).add s)) else none)
 have e:(Class.line ((f.mul x).add s) ((f.mul y).add s)).small=(((f.mul x).add s).small && ((f.mul y).add s).small):=rfl
 rw [e]
 unfold x9
 cases ((f.mul x).add s).small<;>cases ((f.mul y).add s).small<;>rfl
def LA (f x:Vbdeab.Q):Option Vbdeab.Q:=if (f.mul x).small=true then some (f.mul x) else none
theorem Jc {f x:Vbdeab.Q} (hx:jb x) (hf:jb f):Vbdeab.fraction (x.num*f.num) ((x.den:Int)*(f.den:Int))=LA f x:=by
 have z:=hf.2.iz.mul hx.2.iz
 have p:(0:Int)<(x.den:Int)*(f.den:Int):=eW (gn hx.2) (gn hf.2)
 have z2:=z.conv (m:=x.num*f.num) p (by grind)
 unfold Vbdeab.fraction LA
 rw [←z2.eq]
 by_cases q:(f.mul x).small=true
 ·rw [if_pos q,if_pos ⟨by omega,q⟩]
 ·rw [if_neg q,if_neg fun y=>q y.2]
theorem MT {f x q:Vbdeab.Q} (hx:jb x) (hf:jb f) (h:LA f x=some q):jb q:=by
 rw [←Jc hx hf] at h
 exact nh h
theorem JG (f s x y:Vbdeab.Q) {n:Nat} (h1:1≤n) (h2:n≤1000000000000000000):Kd.m9 (x9 f x s) (LA f y) n=sO f s (.comb x y n):=by
 show _=(if ((Class.comb ((f.mul x).add s) (f.mul y) n).small)=true then some (Class.comb ((f.mul x).add s) (f.mul y) n) else none)
 have e:(Class.comb ((f.mul x).add s) (f.mul y) n).small=(((f.mul x).add s).small && (f.mul y).small && decide (1≤n) && decide (n≤Vbdeab.BIG)):=rfl
 rw [e,aE h1,aE (show n≤Vbdeab.BIG from h2)]
 have c:(1≤(n:Int)∧(n:Int)≤1000000000000000000):=by omega
 unfold x9 LA
 cases ((f.mul x).add s).small<;>cases (f.mul y).small<;>first | rfl | skip
 show(if 1≤(n:Int)∧(n:Int)≤1000000000000000000 then some (Class.comb ((f.mul x).add s) (f.mul y) (n:Int).toNat) else none)=_
 rw [if_pos c]
 rfl
def Cl (T:Tx K mg):Sp:=fun vs H Q _=>∃(a b c:Addr) (x y f s:Vbdeab.Q),vs= [.ref a,.ref b,.ref c]∧jn T H a (.line x y)∧vc (.line x y)∧jW T H b f∧jW T H c s∧jb f∧jb s∧∀(v:V) (H':Hp),Ek T H' v (sO f s (.line x y))→aC H H'→Q v H'
theorem BD (T:Tx K mg):sr mg P w base T.uy 6 (Cl T):=by
 refine T.uy.okA B5 ?_
 rintro _ A _ s H _ Q E hr ⟨a,b,c,x,y,f,s,rfl,⟨dx,ax,ay,h1,hax,hay⟩,ok,hb,hc,okf,oks,k⟩
 refine⟨_,(ae (aj (bi T.pJ (qp T) hr (ab (bi T.uD (tw T) hr (ab (ao (pv 0) rfl) (ab (pv 1) (ab (pv 2) ad)))) (ab (bi T.uD (tw T) hr (ab (ao (pv 0) rfl) (ab (pv 1) (ab (pv 2) ad)))) ad))))),?_⟩
 obtain⟨hx,hy⟩:=EC ok
 refine aM _ rfl a _ dx _ _ rfl h1 T.aP.cl (T.aP.no _ (by decide)) rfl (bB _ rfl _ rfl (jp ax b c x f s rfl hax hb hc hx okf ⟨oks,(fun v1 H1 o1 s1=> ?_)⟩))
 refine aM _ rfl a _ dx _ _ rfl (s1 _ _ h1) T.aP.cl (T.aP.no _ (by decide)) rfl (bB _ rfl _ rfl (jp ay b c y f s rfl (hay.same s1) (hb.same s1) (hc.same s1) hy okf ⟨oks,(fun v2 H2 o2 s2=> ?_)⟩))
 refine jZ v1 v2 _ _ rfl (o1.same s2) o2 (fun q hq=>Cz hx okf oks hq) (fun q hq=>Cz hy okf oks hq) fun r H3 o3 s3=> ?_
 rw [JH] at o3
 exact k r H3 o3 ((s1.trans s2).trans s3)
def Cg (T:Tx K mg):Sp:=fun vs H Q _=>∃(a b c:Addr) (x y f s:Vbdeab.Q) (n:Nat),vs= [.ref a,.ref b,.ref c]∧jn T H a (.comb x y n)∧vc (.comb x y n)∧jW T H b f∧jW T H c s∧jb f∧jb s∧∀(v:V) (H':Hp),Ek T H' v (sO f s (.comb x y n))→aC H H'→Q v H'
theorem BB (T:Tx K mg):sr mg P w base T.uw 6 (Cg T):=by
 refine T.uw.okA tT ?_
 rintro _ A _ s H _ Q E hr ⟨a,b,c,x,y,f,s,n,rfl,⟨dx,ax,ay,h1,hax,hay⟩,ok,hb,hc,okf,oks,k⟩
 refine⟨_,(ac (aZ 3 tT.nd (zw (ao (pv 0) rfl) T.kU (oO T) hr (ab (pv 1) ad)))
   (ae (aj (bi T.l9 (lS T) hr (ab (bi T.uD (tw T) hr (ab (ao (pv 0) rfl) (ab (pv 1) (ab (pv 2) ad)))) (ab (bi T.cK (cp T) hr (ab (ao (pv 3) rfl) (ab (ao (pv 3) rfl) ad))) (ab (ao (pv 0) rfl) ad))))))),?_⟩
 obtain⟨hx,hy,n1,n2⟩:=ga ok
 obtain⟨y1,y2⟩:=cH hy.1
 obtain⟨f1,f2⟩:=cH okf.1
 obtain⟨dy,hay'⟩:=id hay
 refine aM _ rfl a _ dx _ _ rfl h1 T.aH.cl (T.aH.no _ (by decide)) rfl (bW ay dy _ rfl hay' rfl (fy _ rfl ay b (jZ _ _ _ _ rfl hay hb (bC y1 f1) (bC y2 f2) fun g H1 ⟨dg,hg⟩ s1=> ?_)))
 refine aM _ rfl a _ dx _ _ rfl (s1 _ _ h1) T.aH.cl (T.aH.no _ (by decide)) rfl (bB _ rfl _ rfl (jp ax b c x f s rfl (hax.same s1) (hb.same s1) (hc.same s1) hx okf ⟨oks,(fun v1 H2 o1 s2=> ?_)⟩))
 refine aM _ rfl g _ dg _ _ rfl (s2 _ _ hg) T.aA.cl (T.aA.no _ (by decide)) rfl (aM _ rfl g _ dg _ _ rfl (s2 _ _ hg) T.aA.cl (T.aA.no _ (by decide)) rfl (bT _ _ rfl ((y2.mul f2 (k:=120)).mono (by decide)) fun v2 H3 o2 s3=> ?_))
 rw [Jc hy okf] at o2
 refine aM _ rfl a _ dx _ _ rfl (s3 _ _ (s2 _ _ (s1 _ _ h1))) T.aH.cl (T.aH.no _ (by decide)) rfl (iG v1 v2 _ _ n rfl (o1.same s3) o2 (fun q hq=>Cz hx okf oks hq) (fun q hq=>MT hy okf hq) fun r H4 o4 s4=> ?_)
 rw [JG f s x y n1 n2] at o4
 exact k r H4 o4 (((s1.trans s2).trans s3).trans s4)
open Vbdeab (Class Dist)
def dH (l:List Nat):List V:=(nats l).map V.int
theorem be (l:List Nat):(dH l).length=l.length:=by unfold dH nats;rw [aD,aD]
theorem Ez {l:List Nat} {i n:Nat} (h:l[i]?=some n):(dH l)[i]?=some (.int (n:Nat)):=by unfold dH nats;rw [dn,dn,h];rfl
theorem pY {l:List Nat} {i:Nat} {v:V} (h:(dH l)[i]?=some v):∃n,l[i]?=some n∧v= .int (n:Nat):=by
 unfold dH nats at h
 rw [dn,dn] at h
 cases e:l[i]? with
 | none=>rw [e] at h;cases h
 | some n=>rw [e] at h;cases h;exact⟨n,rfl,rfl⟩
theorem gw (l:List Nat) (n:Nat):dH l++ [V.int (n:Nat)]=dH (l++ [n]):=by unfold dH nats;rw [du,du];rfl
theorem iT {α:Type} (f:Nat→α) (n:Nat):(List.range (n+1)).map f=(List.range n).map f++ [f n]:=by rw [List.range_succ,du];rfl
theorem FY (l:List Nat):(nats l).sum=((Vbdeab.sum l:Nat):Int):=by
 induction l with
 | nil=>rfl
 | cons a r ih=>show((a:Int)+(nats r).sum)=_;rw [ih,Ch.sum_cons,pI]
theorem Ae (l:List Nat) (i:Nat):Vbdeab.sum (l.take i)≤Vbdeab.sum l:=by
 have:=Ch.sum_append (l.take i) (l.drop i)
 rw [List.take_append_drop] at this
 omega
theorem rG {n:Nat} (h:n≤10 ^ 40):n<2 ^ 133:=nY h (by decide)
def K2 (ws:List Nat):List Nat:=(List.range ws.length).map fun i=>Vbdeab.sum (ws.take i)
def wY (ws:List Nat):List Nat:=(List.range ws.length).map fun i=>ceilDiv (Vbdeab.M*Vbdeab.sum (ws.take (i+1))) (Vbdeab.sum ws)
def Qw (wl sl:Addr) (W:Nat) (bl el:Addr):List (Str×V):= [("weights",.ref wl),("shapes",.ref sl),("total",.int (W:Nat)),("before",.ref bl),("ends",.ref el)]
structure NH (d:Dist):Prop where
 len1:1≤d.length
 len2:d.length≤64
 tot1:1≤total d
 tot2:total d≤10 ^ 40
 cls:∀c∈d,vc c.2
theorem NH.low {d:Dist} (h:NH d):∀c∈d,Fr.jX c.2:=fun c hc=>(h.cls c hc).2
structure DV (T:Tx K mg) (av:List Addr) (H:Hp) (a:Addr) (d:Dist) (dx wl sl bl el:Addr) (as:List Addr):Prop where
 inst:H a=some (.ins T.ai.C dx (Qw wl sl (total d) bl el))
 w:H wl=some (.lst (dH (d.map fun c=>c.1)))
 s:H sl=some (.lst (as.map V.ref))
 b:H bl=some (.lst (dH (K2 (d.map fun c=>c.1))))
 e:H el=some (.lst (dH (wY (d.map fun c=>c.1))))
 len:as.length=d.length
 sh:∀(i:Nat) x c,as[i]?=some x→d[i]?=some c→jn T H x c.2
 nw:wl ∉ av
 ns:sl ∉ av
 nb:bl ∉ av
 ne:el ∉ av
 ok:NH d
def eZ (T:Tx K mg) (av:List Addr) (H:Hp) (a:Addr) (d:Dist):Prop:=∃dx wl sl bl el as,DV T av H a d dx wl sl bl el as
def PV (fs:List (Str×V)):Bool:=match fs with
 | (n,_)::_=>n=="top" || n=="x" || n=="weights"
 | []=>false
structure KP (av:List Addr) (H H':Hp):Prop where
 i:∀b C dx fs,H b=some (.ins C dx fs)→PV fs=true→H' b=some (.ins C dx fs)
 l:∀b xs,H b=some (.lst xs)→b ∉ av→H' b=some (.lst xs)
theorem KP.same {av:List Addr} {H H':Hp} (s:aC H H'):KP av H H':=⟨fun b C dx fs e _=>s _ _ e,fun b xs e _=>s _ _ e⟩
theorem KP.rt {av:List Addr} {T:Tx K mg} {H H':Hp} {a:Addr} {n d:Int} (s:KP av H H') (h:fG T H a n d):fG T H' a n d:=let ⟨dx,e⟩:=h;⟨dx,s.i _ _ _ _ e rfl⟩
theorem KP.sh {av:List Addr} {T:Tx K mg} {H H':Hp} {a:Addr} {c:Class} (s:KP av H H') (h:jn T H a c):jn T H' a c:=by
 cases c with
 | line x y=>obtain⟨dx,ax,ay,e,h1,h2⟩:=h;exact hJ dx ax ay (s.i _ _ _ _ e rfl) (s.rt h1) (s.rt h2)
 | comb x y n=>obtain⟨dx,ax,ay,e,h1,h2⟩:=h;exact hJ dx ax ay (s.i _ _ _ _ e rfl) (s.rt h1) (s.rt h2)
theorem DV.kp {T:Tx K mg} {av:List Addr} {H H':Hp} {a:Addr} {d:Dist} {dx wl sl bl el:Addr} {as:List Addr} (h:DV T av H a d dx wl sl bl el as) (s:KP av H H'):DV T av H' a d dx wl sl bl el as:=
 ⟨s.i _ _ _ _ h.inst rfl,s.l _ _ h.w h.nw,s.l _ _ h.s h.ns,s.l _ _ h.b h.nb,s.l _ _ h.e h.ne,h.len,fun i x c h1 h2=>s.sh (h.sh i x c h1 h2),h.nw,h.ns,h.nb,h.ne,h.ok⟩
theorem eZ.kp {T:Tx K mg} {av:List Addr} {H H':Hp} {a:Addr} {d:Dist} (h:eZ T av H a d) (s:KP av H H'):eZ T av H' a d:=let ⟨dx,wl,sl,bl,el,as,v⟩:=h;(ot dx wl (ot sl bl (ot el as (v.kp s))))
theorem eZ.same {T:Tx K mg} {av:List Addr} {H H':Hp} {a:Addr} {d:Dist} (h:eZ T av H a d) (s:aC H H'):eZ T av H' a d:=h.kp (.same s)
def ja (T:Tx K mg) (av:List Addr) (H:Hp) (v:V) (o:Option Dist):Prop:=match o with
 | none=>v= .non
 | some d=>∃x,v= .ref x∧eZ T av H x d
theorem ja.kp {T:Tx K mg} {av:List Addr} {H H':Hp} {v:V} {o:Option Dist} (h:ja T av H v o) (s:KP av H H'):ja T av H' v o:=by
 cases o with
 | none=>exact h
 | some d=>obtain⟨x,e,h⟩:=h;exact⟨x,e,h.kp s⟩
theorem eC {av:List Addr} {H:Hp} (h:∀b∈av,H b≠none) {p:Addr} (hp:H p=none):p ∉ av:=fun m=>h p m hp
def AQ (T:Tx K mg):Sp:=fun vs H Q _=>∃(a W:Nat),vs= [.int a,.int W]∧0<W∧W<2 ^ 9000∧Q (.int (ceilDiv a W:Nat)) H
theorem Ax (T:Tx K mg):dM P w base T.rp 1 (AQ T):=by
 refine T.rp.okA AD ?_
 rintro _ A _ s H _ Q E hr ⟨a,W,rfl,hW,hz,k⟩
 refine⟨_,(ae (aj (Ji Fi (aB cA (Ji Fi (pv 0)) (pv 1))))),?_⟩
 refine bH _ rfl (eV _ rfl _ rfl _ _ rfl rfl (dm (pS (by omega) (eE hz)) _ rfl ?_))
 rw [←Fr.K6 hW] at k
 exact k
def zq (T:Tx K mg):Sp:=fun vs H Q _=>∃(a:Addr) (ws:List Nat),vs= [.ref a]∧a4 K H a (dH ws)∧ws.length≤2000∧∀(H':Hp) (p:Addr),H' p=some (.lst (dH (K2 ws)))→aC H H'→H p=none→Q (.ref p) H'
theorem yC (T:Tx K mg):dM P w base T.oB 1 (zq T):=by
 refine T.oB.okA fx ?_
 rintro _ A _ s H _ Q E hr ⟨a,ws,rfl,hs,hl,k⟩
 refine⟨_,(ac (aZ 1 fx.nd (aI ad))
   (ac (aZ 2 fx.nd am)
   (ac (d7 cJ rfl (cD (pv 0)) (kT 3 fx.nd) (ac (gt (rL lF um uo jc (pv 1) (ab (pv 2) ad)))
   (ae (og (i:=2) fx.nd rfl (Or.inl rfl) (pv 3) ml))))
   (ae (aj (pv 1)))))),?_⟩
 refine⟨bn _,fun D hD=> ?_⟩
 have sD:=aC.laid (o:= .lst []) hD
 refine pE _ rfl a rfl ⟨_,sD.seq hs⟩ (eB (xs:=dH ws) (fun i σ H'=>i≤ws.length∧∃(v:Option V),σ= [some (.ref a),some (.ref D),some (.int (Vbdeab.sum (ws.take i):Nat)),v]∧H' D=some (.lst (dH ((List.range i).map fun j=>Vbdeab.sum (ws.take j))))∧aC H H') (mN (bn _) none rfl af sD) (fun i σ H' _ ⟨_,_,_,_,s⟩=>s.seq hs) ?_ ?_)
 ·rintro i v σ H1 hv ⟨hi,w1,rfl,h1,s1⟩
  obtain⟨x,hx,rfl⟩:=pY hv
  have hi':=(cb.mp hx).1
  refine eK _ rfl (.inl ⟨rfl,_,a4.of h1⟩) _ rfl (iY D _ _ rfl rfl h1 (by rw [be,aD,fm];show i<2 ^ 24;omega) ?_)
  refine eV _ rfl _ rfl _ _ rfl rfl (mN hi' _ (by rw [Ch.eu hx,pI];rfl) ?_ fun b o e=> ?_)
  ·rw [af,gw,iT]
  ·rw [ak (aw e hD)]
   exact s1 b o e
 ·rintro σ H1 ⟨hi,w1,rfl,h1,s1⟩
  rw [be] at h1
  exact⟨_,rfl,k H1 D h1 s1 hD⟩
def Dp (T:Tx K mg):Sp:=fun vs H Q _=>∃(a:Addr) (ws:List Nat),vs= [.ref a]∧a4 K H a (dH ws)∧ws.length≤2000∧0<Vbdeab.sum ws∧Vbdeab.sum ws≤10 ^ 40∧∀(H':Hp) (p:Addr),H' p=some (.lst (dH (wY ws)))→aC H H'→H p=none→Q (.ref p) H'
theorem Da (T:Tx K mg):dM P w base T.wN 2 (Dp T):=by
 refine T.wN.okA fX ?_
 rintro _ A _ s H _ Q E hr ⟨a,ws,rfl,hs,hl,hs1,hs2,k⟩
 refine⟨_,(ac (aZ 1 fX.nd (aI ad))
   (ac (aZ 2 fX.nd (a8 (Er rfl) (by rfl) T.JD (by rfl) (ab (pv 0) ad)))
   (ac (aZ 3 fX.nd am)
   (ac (d7 cJ rfl (cD (pv 0)) (kT 4 fX.nd) (ac (og (i:=3) fX.nd rfl (Or.inl rfl) (pv 4) ml)
   (ae (gt (rL lF um uo jc (pv 1) (ab (bi T.rp (Ax T) hr (ab (aB aJ (fh T.dL) (pv 3)) (ab (pv 2) ad))) ad))))))
   (ae (aj (pv 1))))))),?_⟩
 refine⟨bn _,fun D hD=> ?_⟩
 have sD:=aC.laid (o:= .lst []) hD
 refine cv _ rfl a (nats ws) rfl (sD.seq hs) ?_
 rw [FY]
 refine pE _ rfl a rfl ⟨_,sD.seq hs⟩ (eB (xs:=dH ws) (fun i σ H'=>i≤ws.length∧∃(v:Option V),σ= [some (.ref a),some (.ref D),some (.int (Vbdeab.sum ws:Nat)),some (.int (Vbdeab.sum (ws.take i):Nat)),v]∧H' D=some (.lst (dH ((List.range i).map fun j=>ceilDiv (Vbdeab.M*Vbdeab.sum (ws.take (j+1))) (Vbdeab.sum ws))))∧aC H H') (mN (bn _) none rfl af sD) (fun i σ H' _ ⟨_,_,_,_,s⟩=>s.seq hs) ?_ ?_)
 ·rintro i v σ H1 hv ⟨hi,w1,rfl,h1,s1⟩
  obtain⟨x,hx,rfl⟩:=pY hv
  have hi':=(cb.mp hx).1
  refine eV _ rfl _ rfl _ _ rfl rfl ?_
  have esum:((Vbdeab.sum (ws.take i):Nat):Int)+(x:Int)=((Vbdeab.sum (ws.take (i+1)):Nat):Int):=by rw [Ch.eu hx,pI]
  have hle:=Ae ws (i+1)
  refine cZ _ rfl (.inl ⟨rfl,_,a4.of h1⟩) (d9 _ rfl _ _ rfl rfl (bC (show Sz 34 4294967296 by decide) (?_:Sz 133 _)) (d9 _ rfl (Vbdeab.M*Vbdeab.sum (ws.take (i+1))) (Vbdeab.sum ws) ?_ hs1 (Nat.lt_trans (rG hs2) (by decide+kernel)) (iY D _ _ rfl rfl h1 (by rw [be,aD,fm];show i<2 ^ 24;omega) ?_)))
  ·show Sz 133 (((Vbdeab.sum (ws.take i):Nat):Int)+(x:Int))
   rw [esum]
   exact eE (rG (by omega))
  ·show [V.int (4294967296*(((Vbdeab.sum (ws.take i):Nat):Int)+(x:Int))),V.int (Vbdeab.sum ws:Nat)]++ []=_
   rw [esum,b7]
   rfl
  ·refine mN hi' _ (by rw [←esum];rfl) ?_ fun b o e=> ?_
   ·rw [af,gw,iT]
   ·rw [ak (aw e hD)]
    exact s1 b o e
 ·rintro σ H1 ⟨hi,w1,rfl,h1,s1⟩
  rw [be] at h1
  exact⟨_,rfl,k H1 D h1 s1 hD⟩
def qO (T:Tx K mg):Sp:=fun vs H Q _=>∃(p dx wl sl:Addr) (ws:List Nat),vs= [.ref p,.ref wl,.ref sl]∧H p=some (.ins T.ai.C dx [])∧H wl=some (.lst (dH ws))∧ws.length≤64∧0<Vbdeab.sum ws∧Vbdeab.sum ws≤10 ^ 40∧
 ∀(H':Hp) (bl el:Addr),H' p=some (.ins T.ai.C dx (Qw wl sl (Vbdeab.sum ws) bl el))→H' bl=some (.lst (dH (K2 ws)))→H' el=some (.lst (dH (wY ws)))→H bl=none→H el=none→(∀b o,H b=some o→b≠p→H' b=some o)→Q .non H'
theorem qi (T:Tx K mg):sr mg P w base T.io 3 (qO T):=by
 refine T.io.okA qE ?_
 rintro _ A _ s H _ Q E hr ⟨p,dx,wl,sl,ws,rfl,hp,hw,hl,hs1,hs2,k⟩
 refine⟨_,(ac (cr (pv 0) (pv 1) rfl)
   (ac (cr (pv 0) (pv 2) rfl)
   (ac (cr (pv 0) (a8 (Er rfl) (by rfl) T.JD (by rfl) (ab (pv 1) ad)) rfl)
   (ac (cr (pv 0) (bi T.oB (yC T) hr (ab (pv 1) ad)) rfl)
   (ae (cr (pv 0) (bi T.wN (Da T) hr (ab (pv 1) ad)) rfl)))))),?_⟩
 have nwp:wl≠p:=bf hw hp (by intro z;cases z)
 refine pF _ rfl _ rfl p _ dx _ rfl hp T.ai.cl (T.ai.no _ (by decide)) (by show 0<1000;decide) ?_
 refine pF _ rfl _ rfl p _ dx _ rfl af T.ai.cl (T.ai.no _ (by decide)) (by show 1<1000;decide) ?_
 refine cv _ rfl wl (nats ws) rfl (a4.of (by rw [ak nwp,ak nwp];exact hw)) ?_
 rw [FY]
 refine gM _ rfl p _ dx _ rfl af T.ai.cl (T.ai.no _ (by decide)) (by show 2<1000;decide) ?_
 refine d9 _ rfl wl ws rfl (a4.of (by rw [ak nwp,ak nwp,ak nwp];exact hw)) (by omega) fun H1 bl hb s1 nb=> ?_
 have hp1:=s1 _ _ (af (a:=p))
 have npb:bl≠p:=bf hb hp1 (by intro z;cases z)
 refine gM _ rfl p _ dx _ rfl hp1 T.ai.cl (T.ai.no _ (by decide)) (by show 3<1000;decide) ?_
 have hw2:∀o,bR H1 p o wl=some (.lst (dH ws)):=fun o=>by rw [ak nwp];exact s1 _ _ (by rw [ak nwp,ak nwp,ak nwp];exact hw)
 refine cv _ rfl wl ws rfl (a4.of (hw2 _)) (bZ (by omega) hs1 hs2 fun H2 el he s2 ne=> ?_)
 have hp2:=s2 _ _ (af (a:=p))
 have npe:el≠p:=bf he hp2 (by intro z;cases z)
 refine gM _ rfl p _ dx _ rfl hp2 T.ai.cl (T.ai.no _ (by decide)) (by show 4<1000;decide) ?_
 have nb':H bl=none:=by rw [ak npb,ak npb,ak npb] at nb;exact nb
 have ne':H el=none:=by
  cases q:H el with
  | none=>rfl
  | some o=>
   rw [ak npe] at ne
   rw [s1 _ _ (by rw [ak npe,ak npe,ak npe];exact q)] at ne
   cases ne
 refine k _ bl el af ?_ ?_ nb' ne' fun b o e hne=> ?_
 ·rw [ak npb]
  exact s2 _ _ (by rw [ak npb];exact hb)
 ·rw [ak npe]
  exact he
 ·rw [ak hne]
  exact s2 _ _ (by rw [ak hne];exact s1 _ _ (by rw [ak hne,ak hne,ak hne];exact e))
theorem K9 {a:List Int} {os:List (Option Class)} {d:Dist} (h:Kd.wS a os=some d) (hl:os.length=a.length):∃ws l,weights a=some ws∧os=l.map some∧d=ws.zip l∧d.map (fun c=>c.1)=ws∧a=nats ws∧ws.length=l.length:=by
 unfold Kd.wS at h
 cases hw:weights a with
 | none=>rw [hw] at h;cases h
 | some ws=>
  cases ho:Kd.a6 os with
  | none=>rw [hw,ho] at h;cases h
  | some l=>
   rw [hw,ho] at h
   cases h
   obtain⟨e1,_,nn⟩:=Kd.wy hw
   have l1:=Kd.qu ho
   have e2:ws.length=l.length:=by rw [e1,aD];omega
   refine bT ws l rfl (Kd.vX ho) (bZ rfl (Kd.Bb e2) ?_ e2)
   rw [e1]
   unfold nats
   rw [fo]
   conv=>lhs;rw [←List.map_id a]
   refine nX fun x hx=> ?_
   show x=((x.toNat:Nat):Int)
   have:=nn x hx
   omega
def jk (T:Tx K mg) (H:Hp) (vs:List V) (os:List (Option Class)):Prop:=vs.length=os.length∧∀(i:Nat) v o,vs[i]?=some v→os[i]?=some o→Ek T H v o
theorem jk.si {T:Tx K mg} {H H':Hp} {vs:List V} {os:List (Option Class)} (h:jk T H vs os) (s:hX H H'):jk T H' vs os:=⟨h.1,fun i v o a b=>(h.2 i v o a b).si s⟩
theorem jk.snoc {T:Tx K mg} {H:Hp} {vs:List V} {os:List (Option Class)} {v:V} {o:Option Class} (h:jk T H vs os) (k:Ek T H v o):jk T H (vs++ [v]) (os++ [o]):=by
 refine⟨by rw [bX,bX,h.1];rfl,fun i v' o' a b=> ?_⟩
 rcases CC i vs.length with q | q | q
 ·rw [nV q] at a
  rw [nV (by rw [←h.1];exact q)] at b
  exact h.2 i v' o' a b
 ·rw [q,nW (bp _),ul] at a
  rw [q,h.1,nW (bp _),ul] at b
  cases a
  cases b
  exact k
 ·rw [ut (by rw [bX];exact q)] at a
  cases a
theorem zK:∀{os:List (Option Class)},(∀o∈os,∃c,o=some c)→∃l:List Class,os=l.map some
 | [],_=>⟨[],rfl⟩
 | o::r,h=>by
  obtain⟨c,rfl⟩:=h o fB
  obtain⟨l,rfl⟩:=zK (os:=r) fun o ho=>h o (dU _ ho)
  exact⟨c::l,rfl⟩
theorem Kp {T:Tx K mg} {H:Hp} {v:V} {o:Option Class} (h:Ek T H v o):decide (v= .non)=o.isNone:=by
 cases o with
 | none=>rw [show v= .non from h];rfl
 | some c=>obtain⟨x,rfl,_⟩:=h;rfl
theorem Jm {T:Tx K mg} {H:Hp}:∀{vs:List V} {l:List Class},jk T H vs (l.map some)→∃as:List Addr,vs=as.map V.ref∧as.length=l.length∧(∀(i:Nat) x c,as[i]?=some x→l[i]?=some c→jn T H x c)∧∀c∈l,vc c
 | [],[],_=>⟨[],(bZ rfl rfl (fun i x c a _=>(by cases i<;>cases a)) fun c hc=>(nomatch hc))⟩
 | v::vs,c::l,h=>by
  obtain⟨as,e,hl,hs,hk⟩:=Jm (vs:=vs) (l:=l) ⟨by have:=h.1;simpa using this,fun i v o a b=>h.2 (i+1) v o (by simpa using a) (by simpa using b)⟩
  obtain⟨x,rfl,sh,ok⟩:=h.2 0 v (some c) rfl rfl
  refine⟨x::as,(bZ (by rw [e];rfl) (by rw [d5,hl];rfl) (fun i y c' a b=> ?_) fun c' hc=> ?_)⟩
  ·cases i with
   | zero=>cases a;cases b;exact sh
   | succ i=>exact hs i y c' (by simpa using a) (by simpa using b)
  ·rcases cF.mp hc with q | q
   ·rw [q];exact ok
   ·exact hk c' q
 | [],_::_,h=>by have:=h.1;simp at this
 | _::_,[],h=>by have:=h.1;simp at this
def lr (T:Tx K mg):Sp:=fun vs H Q _=>∃(av:List Addr) (wl sl:Addr) (a:List Int) (ss:List V) (os:List (Option Class)),vs= [.ref wl,.ref sl]∧H wl=some (.lst (a.map V.int))∧H sl=some (.lst ss)∧jk T H ss os∧os.length=a.length∧a.length≤8000∧wl ∉ av∧sl ∉ av∧(∀b∈av,H b≠none)∧∀(v:V) (H':Hp),ja T av H' v (Kd.wS a os)→aC H H'→Q v H'
theorem cQ (T:Tx K mg):dM P w base T.cG 5 (lr T):=by
 refine T.cG.okA gJ ?_
 rintro _ A _ s H _ Q E hr ⟨av,wl,sl,a,ss,os,rfl,hw,hs,hsh,hlen,ha,nw,nsl,hav,k⟩
 refine⟨_,(ac (aT (aV (aS (bi T.iH (kt T) hr (ab (pv 0) ad)))) (ae (aj cY)) aG)
   (ac (aT (aS (a8 (NU rfl) (by rfl) T.Pr (by rfl) (ab (j4 (own:= [("shape",2)]) rfl gJ.nd (cD (pv 1)) (cf (N:= ["weights","shapes","shape"]) (sc:=ag ii) (by decide+kernel)) (fun _ _ _ _ _=>(kT 2 gJ.nd)) (fun _ _ _ _ _=>dQ) (fun _ _ _ _ _=>(EN kC (pv 2) cY (aY _)))) ad))) (ae (aj cY)) aG)
   (ae (aj (Ag T.io (qi T) hr (ab (pv 0) (ab (pv 1) ad))))))),?_⟩
 refine lu _ rfl wl a rfl (a4.of hw) _ rfl (aX (fun h1=> ?_) (fun h1=> ?_))
 ·have e:Kd.wS a os=none:=by
   unfold Kd.wS
   cases e:weights a with
   | none=>rfl
   | some z=>rw [e] at h1;cases h1
  rw [e] at k
  exact k .non H rfl (aC.refl' H)
 ·have hws:(weights a).isSome=true:=by
   cases e:(weights a).isSome with
   | true=>rfl
   | false=>rw [e] at h1;exact absurd rfl h1
  obtain⟨nn,ew,l1,l2,s1,s2⟩:=jM hws
  refine pE _ rfl sl rfl ⟨_,a4.of hs⟩ fun D hD=>jy (xs:=ss) (fun i H'=>i≤ss.length∧H' D=some (.lst (((os.take i).map Option.isNone).map V.bl))∧aC H H') ⟨bn _,af,aC.laid hD⟩ (fun i H' _ h=>a4.of (h.2.2 _ _ hs)) ?_ ?_
  ·rintro i v H1 hv ⟨hi,hD1,sm1⟩
   have hi':=(cb.mp hv).1
   obtain⟨o,ho⟩:∃o,os[i]?=some o:=⟨_,bF (by rw [←hsh.1];exact hi')⟩
   have e:=Kp (hsh.2 i v o hv ho)
   refine⟨rfl,(eK _ rfl rfl _ hD1 (bZ (by rw [aD,aD,ic];show _<2 ^ 24;omega) hi' ?_ fun b u q=> ?_))⟩
   ·rw [af,Ch.bw ho,du,du,e]
    rfl
   ·rw [ak (aw q hD)]
    exact sm1 b u q
  ·rintro H1 ⟨hi,hD1,sm1⟩
   rw [hsh.1,jP] at hD1
   refine⟨D,(eK _ rfl (a4.of hD1) _ rfl (aX (fun h2=> ?_) (fun h2=> ?_)))⟩
   ·have e:Kd.wS a os=none:=by
     unfold Kd.wS
     obtain⟨b,hb,eb⟩:=List.any_eq_true.mp h2
     obtain⟨o,ho,rfl⟩:=lO.mp hb
     have:o=none:=by cases o with
      | none=>rfl
      | some z=>cases eb
     subst this
     rw [Kd.Ge ho]
     cases weights a<;>rfl
    rw [e] at k
    exact k .non H1 rfl sm1
   ·obtain⟨l,hl⟩:=zK (os:=os) fun o ho=>by
     cases o with
     | some c=>exact⟨c,rfl⟩
     | none=>exact absurd (List.any_eq_true.mpr ⟨true,lO.mpr ⟨none,ho,rfl⟩,rfl⟩) h2
    have hl2:l.length=a.length:=by rw [←hlen,hl,aD]
    have ed:Kd.wS a os=some ((a.map Int.toNat).zip l):=by
     unfold Kd.wS
     rw [ew,hl,Kd.nl]
    obtain⟨ws,l',ew',el',ed',em,ea,ewl⟩:=K9 ed hlen
    rw [ed] at k
    rw [hl] at hsh
    obtain⟨as,ess,hasl,hassh,hok⟩:=Jm hsh
    have hwm:(a.map Int.toNat)=ws:=by rw [ew] at ew';exact bE ew'
    rw [hwm] at k s1 s2
    have hfst:(ws.zip l).map (fun c=>c.1)=ws:=Kd.Bb (by rw [←hwm,aD];omega)
    have htot:total (ws.zip l)=Vbdeab.sum ws:=by unfold total;rw [hfst]
    have hwl:ws.length=a.length:=by rw [←hwm,aD]
    refine bB _ rfl _ rfl ?_
    intro x dx nx nd _
    have hs2:=Ea (C:=T.ai.C) nx nd
    refine iG x dx wl sl ws rfl af (hs2 _ _ (sm1 _ _ (by rw [hw,ea];rfl))) (by omega) (by omega) ⟨s2,(fun H3 bl el hp3 hb3 he3 nb ne kp3=>⟨rfl,?_⟩)⟩
    have s13:aC H1 H3:=aC.made nx nd kp3
    have s3:aC H H3:=sm1.trans s13
    refine k (.ref x) H3 (fy x rfl dx wl (ot sl bl (ot el as ?_))) s3
    have fr:∀p,(bR (bR H1 dx (.own x)) x (.ins T.ai.C dx [])) p=none→H p=none:=fun p hp=>by
     cases q:H p with
     | none=>rfl
     | some o=>rw [hs2 _ _ (sm1 _ _ q)] at hp;cases hp
    refine⟨by rw [htot];exact hp3,?_,s3 _ _ (by rw [hs,ess]),?_,?_,?_,fun i y c h1 h2=> ?_,nw,nsl,eC hav (fr _ nb),eC hav (fr _ ne),?_⟩
    ·rw [hfst]
     exact s3 _ _ (by rw [hw,ea];rfl)
    ·rw [hfst];exact hb3
    ·rw [hfst];exact he3
    ·rw [hasl,List.length_zip];omega
    ·rw [List.getElem?_zip_eq_some] at h2
     exact(hassh i y c.2 h1 h2.2).same s3
    ·refine⟨by rw [List.length_zip];omega,by rw [List.length_zip];omega,by rw [htot];omega,by rw [htot];exact s2,fun c hc=> ?_⟩
     exact hok c.2 (List.of_mem_zip hc).2
open Vbdeab (Class Dist)
structure KW (d:Dist) (u i:Nat) (c:Nat×Class):Prop where
 at_:d[i]?=some c
 lt:u*total d<Vbdeab.M*Fr.dD d (i+1)
 ge:∀j,j<i→Vbdeab.M*Fr.dD d (j+1)≤u*total d
theorem wZ {d:Dist} {i:Nat} (h:i<d.length):(wY (d.map fun c=>c.1))[i]?=some (ceilDiv (Vbdeab.M*Fr.dD d (i+1)) (total d)):=by
 unfold wY
 rw [dn,Hf (by rw [aD];exact h)]
 rfl
theorem K3 {d:Dist} {i:Nat} (h:i<d.length):(K2 (d.map fun c=>c.1))[i]?=some (Fr.dD d i):=by
 unfold K2
 rw [dn,Hf (by rw [aD];exact h)]
 rfl
theorem w6 (ws:List Nat):(wY ws).length=ws.length:=by unfold wY;rw [aD,fm]
theorem Jx {d:Dist} {i:Nat} {c:Nat×Class} (h:d[i]?=some c):(d.map fun c=>c.1)[i]?=some c.1:=by rw [dn,h];rfl
theorem pZ {l:List Nat} {i n:Nat} {k:Int} (e:k=(i:Int)) (h:l[i]?=some n):KM (dH l) k=some (.int (n:Nat)):=ve e (Ez h)
theorem km (d:Dist) (i:Nat):Fr.dD d i≤total d:=by
 have:=Ae (d.map fun c=>c.1) i
 exact this
theorem ML (a b:List Nat):dH a++dH b=dH (a++b):=by unfold dH nats;rw [du,du]
def lq (T:Tx K mg):Sp:=fun vs H Q _=>∃(av:List Addr) (a:Addr) (d:Dist) (u:Nat),vs= [.ref a,.int u]∧eZ T av H a d∧u<4294967296∧∀i c,KW d u i c→Q (.int (i:Nat)) H
theorem k8 (T:Tx K mg):sr mg P w base T.eG 1 (lq T):=by
 refine T.eG.okA bv ?_
 rintro _ A _ s H _ Q E hr ⟨av,a,d,u,rfl,⟨dx,wl,sl,bl,el,as,D⟩,hu,k⟩
 refine⟨_,(ac (aZ 2 bv.nd am)
   (ac (aZ 3 bv.nd (aB b9 (a8 aW (by rfl) T.gu eh (ab (ao (pv 0) rfl) ad)) am))
   (ac (lg cJ (aR ld (pv 2) (pv 3) (aY _)) (ac (aZ 4 bv.nd (aB cA (aB bY (pv 2) (pv 3)) am))
   (ae (aT (aR ld (pv 1) (ik (ao (pv 0) rfl) (pv 4)) (aY _)) (ae (aZ 3 bv.nd (pv 4))) (ae (aZ 2 bv.nd (aB bY (pv 4) am)))))))
   (ae (aj (pv 2)))))),?_⟩
 have hI:=D.inst
 have hlen:(dH (wY (d.map fun c=>c.1))).length=d.length:=by rw [be,w6,aD]
 have hW:0<total d:=D.ok.tot1
 refine aM _ rfl a _ dx _ _ rfl hI T.ai.cl (T.ai.no _ (by decide)) rfl (bT el _ rfl (.inl (a4.of D.e)) (bT _ _ rfl rfl ?_))
 refine⟨fun m σ H'=>∃(lo hi:Nat) (v:Option V),m=hi - lo∧σ= [some (.ref a),some (.int u),some (.int lo),some (.int hi),v]∧lo≤hi∧hi<d.length∧(∀j,j<lo→Vbdeab.M*Fr.dD d (j+1)≤u*total d)∧u*total d<Vbdeab.M*Fr.dD d (hi+1)∧H'=H,(jY (d.length - 1) 0 (d.length - 1) none rfl ?_ (bn _) (by have:=D.ok.len1;omega) (fe (fun j hj=>by omega) ?_ rfl)),?_⟩
 ·have e:((dH (wY (d.map fun c=>c.1))).length:Int) - 1=((d.length - 1:Nat):Int):=by rw [hlen];have:=D.ok.len1;omega
  show [some (V.ref a),some (V.int u),some (V.int 0),some (V.int (((dH (wY (d.map fun c=>c.1))).length:Int) - 1)),none]=_
  rw [e]
  rfl
 ·have e:d.length - 1+1=d.length:=by have:=D.ok.len1;omega
  rw [e,Fr.MC]
  exact Nat.mul_lt_mul_of_pos_right hu hW
 ·rintro m σ H' ⟨lo,hi,v,rfl,rfl,h1,h2,h3,h4,rfl⟩
  refine bH _ rfl (lu _ rfl _ _ rfl rfl _ rfl (aX (fun hl=>⟨_,fun _ _ z=>z,?_⟩) (fun hl=> ?_)))
  ·have hl':lo<hi:=by have:=bj hl;omega
   have em:((lo:Int)+(hi:Int)) /2=(((lo+hi) /2:Nat):Int):=by omega
   refine eV _ rfl _ rfl _ _ rfl rfl (bP _ _ rfl rfl ⟨by decide,by decide+kernel⟩ ?_)
   refine iX _ rfl _ rfl a _ dx _ _ rfl hI T.ai.cl (T.ai.no _ (by decide)) rfl (fg _ rfl el _ _ _ rfl rfl (a4.of D.e) (pZ em (wZ (show(lo+hi) /2<d.length by omega))) _ _ rfl rfl (bH _ rfl (aX (fun ht=> ?_) (fun ht=> ?_))))
   ·have ht':=bj ht
    have ht2:=(Fr.IZ (u:=u) (a:=Vbdeab.M*Fr.dD d ((lo+hi) /2+1)) hW).mp (by omega)
    exact bH _ rfl (cM ((lo+hi) /2 - lo) (by omega) lo ((lo+hi) /2) _ rfl (by rw [←em];rfl) (by omega) (bZ (by omega) h3 ht2 rfl))
   ·have ht':¬((u:Int)<((ceilDiv (Vbdeab.M*Fr.dD d ((lo+hi) /2+1)) (total d):Nat):Int)):=fun q=>ht (aE q)
    have ht2:=(Fr.lQ (u:=u) hW).mp (show ceilDiv (Vbdeab.M*Fr.dD d ((lo+hi) /2+1)) (total d)≤u by omega)
    refine cv _ rfl _ _ rfl rfl (cM (hi - ((lo+hi) /2+1)) (by omega) ((lo+hi) /2+1) hi _ rfl (by rw [em];rfl) (by omega) (bZ h2 (fun j hj=> ?_) h4 rfl))
    ·exact fQ (Nat.mul_le_mul_left _ (Fr.Hw (by omega))) ht2
  ·have hl':¬((lo:Int)<(hi:Int)):=fun q=>hl (aE q)
   have e:lo=hi:=by omega
   subst e
   exact⟨_,rfl,k lo _ ⟨bF h2,h4,h3⟩⟩
theorem NQ {c:Class} (ok:vc c) {t sp:Int} (ht:Sz 170 t) (hsp:Sz 170 sp) (h0:0<sp):Sz 500 (Fr.KL c t sp)∧Sz 500 (Fr.NP c sp):=by
 obtain⟨b0,bz,oz,rz⟩:=iP ok
 cases c with
 | line x y=>exact⟨(oz.mul hsp (k:=350)).add (rz.mul ht (k:=351)) (k:=500),bz.mul hsp (k:=500)⟩
 | comb x s n=>
  have nz:=jK (ga ok).2.2.2
  exact⟨oz.add (rz.mul ((ht.mul nz (k:=230)).ediv h0) (k:=411)) (k:=500),bz.mono (by decide)⟩
theorem ON {T:Tx K mg} {av:List Addr} {H:Hp} {a:Addr} {d:Dist} {dx wl sl bl el:Addr} {as:List Addr} (D:DV T av H a d dx wl sl bl el as) {i:Nat} {c:Nat×Class} (h:d[i]?=some c):∃x,as[i]?=some x∧jn T H x c.2:=by
 have hi:=(cb.mp h).1
 have e:=bF (show i<as.length by rw [D.len];exact hi)
 exact⟨_,e,D.sh i _ c e h⟩
theorem nq {as:List Addr} {i:Nat} {x:Addr} {k:Int} (e:k=(i:Int)) (h:as[i]?=some x):KM (as.map V.ref) k=some (.ref x):=ve e (by rw [dn,h];rfl)
def mf (T:Tx K mg) (H:Hp) (z:Addr) (q:Vbdeab.Q):Prop:=∃n m,fG T H z n m∧Fr.Iz q n m∧Sz 500 n∧Sz 500 m
theorem mf.si {T:Tx K mg} {H H':Hp} {z:Addr} {q:Vbdeab.Q} (h:mf T H z q) (s:hX H H'):mf T H' z q:=let ⟨n,m,a,b,c,d⟩:=h;(bP n m (a.si s) b c d)
def mL (T:Tx K mg):Sp:=fun vs H Q _=>∃(av:List Addr) (a:Addr) (d:Dist) (i u:Nat) (c:Nat×Class),vs= [.ref a,.int i,.int u]∧eZ T av H a d∧u<4294967296∧d[i]?=some c∧0<c.1∧Vbdeab.M*Fr.dD d i≤u*total d∧∀(z:Addr) (H':Hp),mf T H' z (along c.1 c.2 (u*total d - Vbdeab.M*Fr.dD d i))→aC H H'→Q (.ref z) H'
theorem gz (T:Tx K mg):sr mg P w base T.dX 4 (mL T):=by
 refine T.dX.okA gF ?_
 rintro _ A _ s H _ Q E hr ⟨av,a,d,i,u,c,rfl,⟨dx,wl,sl,bl,el,as,D⟩,hu,hc,hw0,hge,k⟩
 refine⟨_,(ac (aZ 3 gF.nd (aB b9 (aB aJ (pv 2) (ao (pv 0) rfl)) (aB aJ (fh T.dL) (ik (ao (pv 0) rfl) (pv 1)))))
   (ae (aj (vY (zw (ik (ao (pv 0) rfl) (pv 1)) T.zz (EG T) hr (ab (pv 3) (ab (aB aJ (fh T.dL) (ik (ao (pv 0) rfl) (pv 1))) ad))) (zw (ik (ao (pv 0) rfl) (pv 1)) T.zy (EF T) hr (ab (pv 3) (ab (aB aJ (fh T.dL) (ik (ao (pv 0) rfl) (pv 1))) ad))))))),?_⟩
 have hI:=D.inst
 have hi:=(cb.mp hc).1
 obtain⟨x,hx,hsh⟩:=ON D hc
 have okc:=D.ok.cls c (eM hc)
 have tz:Sz 133 ((total d:Nat):Int):=eE (rG D.ok.tot2)
 have uz:Sz 33 (u:Int):=eE (Nat.lt_trans hu (by decide))
 have bz:Sz 133 ((Fr.dD d i:Nat):Int):=eE (rG (fQ (km d i) D.ok.tot2))
 have wle:c.1≤total d:=by have h1:=Fr.ju hc;have h2:=km d (i+1);omega
 have wz:Sz 133 ((c.1:Nat):Int):=eE (rG (fQ wle D.ok.tot2))
 have Mz:Sz 34 (4294967296:Int):=by decide
 have M0:(4294967296:Int)=((Vbdeab.M:Nat):Int):=rfl
 have et:(u:Int)*((total d:Nat):Int) - 4294967296*((Fr.dD d i:Nat):Int)=((u*total d - Vbdeab.M*Fr.dD d i:Nat):Int):=by
  rw [r8 hge,b7,b7,←M0]
 have tz2:Sz 170 ((u*total d - Vbdeab.M*Fr.dD d i:Nat):Int):=by
  rw [←et]
  exact(uz.mul tz (k:=166)).sub (Mz.mul bz (k:=167)) (k:=170)
 have tz3:Sz 400 ((u:Int)*((total d:Nat):Int) - 4294967296*((Fr.dD d i:Nat):Int)):=by rw [et];exact tz2.mono (by decide)
 have spz:Sz 170 (4294967296*((c.1:Nat):Int)):=Mz.mul wz (k:=170)
 have sp0:0<4294967296*((c.1:Nat):Int):=by omega
 refine iX _ rfl _ rfl a _ dx _ _ rfl hI T.ai.cl (T.ai.no _ (by decide)) rfl (bP _ _ rfl rfl (bC uz tz) (aM _ rfl a _ dx _ _ rfl hI T.ai.cl (T.ai.no _ (by decide)) rfl (bO _ rfl bl _ _ _ rfl rfl (a4.of D.b) (pZ rfl (K3 hi)) (jo _ _ rfl rfl (bC Mz bz) _ _ rfl rfl ?_))))
 have fin:∀(z:Addr) (H':Hp),fG T H' z (Fr.KL c.2 ((u:Int)*((total d:Nat):Int) - 4294967296*((Fr.dD d i:Nat):Int)) (4294967296*((c.1:Nat):Int))) (Fr.NP c.2 (4294967296*((c.1:Nat):Int)))→aC H H'→Q (.ref z) H':=fun z H' h s=>by
  rw [et] at h
  obtain⟨z1,z2⟩:=NQ okc tz2 spz sp0
  refine k z H' (bP _ _ h ?_ z1 z2) s
  exact Fr.sK okc.2 hw0 _
 obtain⟨cw,cc⟩:=c
 cases cc with
 | line p q=>
  obtain⟨dz,ax,ay,h1,h2,h3⟩:=id hsh
  exact .inl (aM _ rfl a _ dx _ _ rfl hI T.ai.cl (T.ai.no _ (by decide)) rfl (bO _ rfl sl _ _ _ rfl rfl (a4.of D.s) (nq rfl hx) (bW x dz _ rfl h1 rfl (iX _ rfl _ rfl a _ dx _ _ rfl hI T.ai.cl (T.ai.no _ (by decide)) rfl (bO _ rfl wl _ _ _ rfl rfl (a4.of D.w) (pZ rfl (Jx hc)) (bP _ _ rfl rfl (bC Mz wz) (iG x p q _ _ rfl hsh okc tz3 (spz.mono (by decide)) fin)))))))
 | comb p q n=>
  obtain⟨dz,ax,ay,h1,h2,h3⟩:=id hsh
  exact .inr (aM _ rfl a _ dx _ _ rfl hI T.ai.cl (T.ai.no _ (by decide)) rfl (bO _ rfl sl _ _ _ rfl rfl (a4.of D.s) (nq rfl hx) (bW x dz _ rfl h1 rfl (iX _ rfl _ rfl a _ dx _ _ rfl hI T.ai.cl (T.ai.no _ (by decide)) rfl (bO _ rfl wl _ _ _ rfl rfl (a4.of D.w) (pZ rfl (Jx hc)) (bP _ _ rfl rfl (bC Mz wz) (jp x p q n _ _ rfl hsh okc tz3 (spz.mono (by decide)) sp0 fin)))))))
theorem KW.pos {d:Dist} {u i:Nat} {c:Nat×Class} (t:KW d u i c):Vbdeab.M*Fr.dD d i≤u*total d∧0<c.1:=by
 have h1:Vbdeab.M*Fr.dD d i≤u*total d:=by
  cases i with
  | zero=>rw [Fr.sM,Nat.mul_zero];exact bn _
  | succ i=>exact t.ge i (Nat.lt_succ_self _)
 refine⟨h1,?_⟩
 have h2:=t.lt
 rw [Fr.ju t.at_,wC] at h2
 rcases Ei c.1 with q | q
 ·rw [q,Nat.mul_zero,lP] at h2
  omega
 ·exact q
def mK (T:Tx K mg):Sp:=fun vs H Q _=>∃(av:List Addr) (a:Addr) (d:Dist) (u:Nat),vs= [.ref a,.int u]∧eZ T av H a d∧u<4294967296∧∀(z:Addr) (H':Hp),mf T H' z (Vbdeab.value d u)→aC H H'→Q (.ref z) H'
theorem gy (T:Tx K mg):sr mg P w base T.dW 5 (mK T):=by
 refine T.dW.okA mF ?_
 rintro _ A _ s H _ Q E hr ⟨av,a,d,u,rfl,hD,hu,k⟩
 refine⟨_,(ae (aj (zw (pv 0) T.dX (gz T) hr (ab (zw (pv 0) T.eG (k8 T) hr (ab (pv 1) ad)) (ab (pv 1) ad))))),?_⟩
 obtain⟨dx,wl,sl,bl,el,as,D⟩:=id hD
 have hI:=D.inst
 refine cM _ rfl a dx _ rfl hI rfl (cM _ rfl a dx _ rfl hI rfl (fy _ rfl av a (bP d u rfl hD hu fun i c t=> ?_)))
 obtain⟨p1,p2⟩:=t.pos
 refine bH _ rfl (jp av a d i u c rfl hD hu t.at_ p2 p1 ?_)
 rw [←Fr.Mi (w:=c.1) (c:=c.2) t.at_ t.lt t.ge]
 exact k
theorem Qt (d:Dist):checked (some d)=Kd.wS (nats (d.map fun c=>c.1)) (d.map fun c=>Kd.sm (some c.2)):=by
 have e1:(d.map fun c=>Kd.sm (some c.2))=((d.map fun c=>c.2).map some).map Kd.sm:=by rw [fo,fo];rfl
 have e2:(d.map fun c=>c.1).zip (d.map fun c=>c.2)=d:=by
  induction d with
  | nil=>rfl
  | cons a r ih=>rw [eY,eY,List.zip_cons_cons,ih (by rw [fo,fo];rfl)]
 unfold Kd.wS
 rw [e1,Kd.yG,Kd.nl,Kd.jL]
 by_cases hw:weightsOk (d.map fun c=>c.1)=true
 ·have z:=Kd.m7 (a:=nats (d.map fun c=>c.1)) (ws:=d.map fun c=>c.1) (l:=d.map fun c=>c.2) (by rw [Kd.jL,if_pos hw]) (by simp)
  rw [e2] at z
  rw [z,if_pos hw]
  show(Kd.Ft _).map _=match some (d.map fun c=>c.1),Kd.Ft (d.map fun c=>c.2) with | some ws,some l=>some (ws.zip l) | _,_=>none
  cases Kd.Ft (d.map fun c=>c.2)<;>rfl
 ·rw [if_neg hw]
  unfold checked Vbdeab.ok
  simp only
  rw [if_neg (by simp [hw])]
theorem NC {c:Class} (h:vc c):Kd.sm (some c)=some c:=by
 show(if c.small=true then some c else none)=_
 rw [if_pos h.1]
theorem IO {T:Tx K mg} {av:List Addr} {H:Hp} {a:Addr} {d:Dist} {dx wl sl bl el:Addr} {as:List Addr} (D:DV T av H a d dx wl sl bl el as):jk T H (as.map V.ref) (d.map fun c=>some c.2):=by
 refine⟨by rw [aD,aD,D.len],fun i v o h1 h2=> ?_⟩
 rw [dn] at h1 h2
 cases e1:as[i]? with
 | none=>rw [e1] at h1;cases h1
 | some x=>
  cases e2:d[i]? with
  | none=>rw [e2] at h2;cases h2
  | some c=>
   rw [e1] at h1
   rw [e2] at h2
   cases h1
   cases h2
   exact cZ x rfl (D.sh i x c e1 e2) (D.ok.cls c (eM e2))
theorem jk.app {T:Tx K mg} {H:Hp} {vs us:List V} {os ps:List (Option Class)} (h:jk T H vs os) (k:jk T H us ps):jk T H (vs++us) (os++ps):=by
 refine⟨by rw [bX,bX,h.1,k.1],fun i v o a b=> ?_⟩
 rcases so i vs.length with q | q
 ·rw [nV q] at a
  rw [nV (by rw [←h.1];exact q)] at b
  exact h.2 i v o a b
 ·rw [nW q] at a
  rw [nW (by rw [←h.1];exact q),←h.1] at b
  exact k.2 _ v o a b
theorem JI {d e:Dist} (hd:NH d) (he:NH e) (v w:Nat):checked (some (Vbdeab.blend d e v w))=Kd.wS (nats ((d.map fun c=>c.1*v*total e)++(e.map fun c=>c.1*w*total d))) ((d.map fun c=>some c.2)++(e.map fun c=>some c.2)):=by
 rw [Qt]
 unfold Vbdeab.blend
 rw [du,du,fo,fo,fo,fo]
 congr 1
 ·congr 2
  ·exact nX fun c _=>(wD _ _ _).symm
  ·exact nX fun c _=>(wD _ _ _).symm
 ·congr 1
  ·exact nX fun c hc=>NC (hd.cls c hc)
  ·exact nX fun c hc=>NC (he.cls c hc)
def E8 (T:Tx K mg):Sp:=fun vs H Q _=>∃(av:List Addr) (a b:Addr) (d e:Dist) (v w:Nat),vs= [.ref a,.int v,.ref b,.int w]∧eZ T av H a d∧eZ T av H b e∧v≤1000000000∧w≤1000000000∧(∀b∈av,H b≠none)∧∀(r:V) (H':Hp),ja T av H' r (checked (some (Vbdeab.blend d e v w)))→aC H H'→Q r H'
theorem EI (T:Tx K mg):dM P w base T.zA 6 (E8 T):=by
 refine T.zA.okA g7 ?_
 rintro _ A _ s H _ Q E hr ⟨av,a,b,d,e,v,w',rfl,⟨dx,wl,sl,bl,el,as,D⟩,⟨dy,wl2,sl2,bl2,el2,as2,E⟩,hv,hw,hav,k⟩
 refine⟨_,(ac (tH (i:=5) (own:= [("weight",4)]) rfl g7.nd rfl rfl (xY rfl rfl rfl rfl) (cD (ao (pv 0) rfl)) (cf (N:= ["one","v","other","w","weight","weights"]) (sc:=ag nv) (by decide+kernel)) (fun _ _ _ _ _=>(kT 4 g7.nd)) (fun _ _ _ _ _=>dQ) (fun _ _ _ _ _=>(aB aJ (aB aJ (pv 4) (pv 1)) (xr (K':=K) (pv 2) (by rfl) rfl))))
   (ac (aZ 5 g7.nd (aB e9 (pv 5) (j4 (own:= [("weight",4)]) rfl g7.nd (cD (ao (pv 2) rfl)) (cf (N:= ["one","v","other","w","weight","weights"]) (sc:=ag nv) (by decide+kernel)) (fun _ _ _ _ _=>(kT 4 g7.nd)) (fun _ _ _ _ _=>dQ) (fun _ _ _ _ _=>(aB aJ (aB aJ (pv 4) (pv 3)) (xr (K':=K) (pv 0) (by rfl) rfl))))))
   (ae (aj (bi T.cG (cQ T) hr (ab (pv 5) (ab (aB e9 (ao (pv 0) rfl) (ao (pv 2) rfl)) ad))))))),?_⟩
 rw [JI D.ok E.ok] at k
 have vz:Sz 31 (v:Int):=eE (nY hv (by decide))
 have wz:Sz 31 (w':Int):=eE (nY hw (by decide))
 have tz:Sz 133 ((total d:Nat):Int):=eE (rG D.ok.tot2)
 have tz2:Sz 133 ((total e:Nat):Int):=eE (rG E.ok.tot2)
 have dl:=D.ok.len2
 have el':=E.ok.len2
 refine aM _ rfl a _ dx _ _ rfl D.inst T.ai.cl (T.ai.no _ (by decide)) rfl (cZ wl rfl ⟨_,a4.of D.w⟩ fun L1 hL1=>jy (xs:=dH (d.map fun c=>c.1)) (fun i H'=>i≤d.length∧H' L1=some (.lst (dH (((d.map fun c=>c.1).take i).map fun n=>n*v*total e)))∧aC H H') ⟨bn _,af,aC.laid hL1⟩ (fun i H' _ h=>a4.of (h.2.2 _ _ D.w)) ?_ ?_)
 ·rintro i x H1 hx ⟨hi,hL,sm⟩
  obtain⟨n,hn,rfl⟩:=pY hx
  have hi':=(cb.mp hn).1
  rw [aD] at hi'
  have nz:Sz 133 (n:Int):=by
   rw [dn] at hn
   obtain⟨c,hc,rfl⟩:=mP.mp hn
   have h1:=Fr.ju hc
   have h2:=km d (i+1)
   exact eE (rG (by have:=D.ok.tot2;omega))
  refine dm rfl _ rfl (d9 _ rfl _ _ rfl rfl (bC nz vz) (aM _ rfl b _ dy _ _ rfl (sm _ _ E.inst) T.ai.cl (T.ai.no _ (by decide)) rfl (bT _ _ rfl rfl (dm (bC (nz.mul vz (k:=170)) tz2) _ hL (bZ (by rw [be,aD,ic];show _<2 ^ 24;omega) hi' ?_ fun q o z=> ?_)))))
  ·rw [af,Ch.bw hn,du]
   show some (HO.lst (dH _++ [V.int ((n:Int)*(v:Int)*((total e:Nat):Int))]))=some (HO.lst (dH (_++ [n*v*total e])))
   rw [←gw,b7,b7]
  ·rw [ak (aw z hL1)]
   exact sm q o z
 rintro H1 ⟨hi,hL,sm⟩
 rw [be,aD] at hL
 rw [show(d.map fun c=>c.1).take d.length=d.map fun c=>c.1 by rw [lv (by rw [aD];exact bp _)]] at hL
 refine iX _ rfl _ rfl b _ dy _ _ rfl (sm _ _ E.inst) T.ai.cl (T.ai.no _ (by decide)) rfl (cZ wl2 rfl ⟨_,a4.of (sm _ _ E.w)⟩ fun L2 hL2=>jy (xs:=dH (e.map fun c=>c.1)) (fun i H'=>i≤e.length∧H' L2=some (.lst (dH (((e.map fun c=>c.1).take i).map fun n=>n*w'*total d)))∧aC H1 H') ⟨bn _,af,aC.laid hL2⟩ (fun i H' _ h=>a4.of (h.2.2 _ _ (sm _ _ E.w))) ?_ ?_)
 ·rintro i x H2 hx ⟨hi2,hLL,sm2⟩
  obtain⟨n,hn,rfl⟩:=pY hx
  have hi':=(cb.mp hn).1
  rw [aD] at hi'
  have nz:Sz 133 (n:Int):=by
   rw [dn] at hn
   obtain⟨c,hc,rfl⟩:=mP.mp hn
   have h1:=Fr.ju hc
   have h2:=km e (i+1)
   exact eE (rG (by have:=E.ok.tot2;omega))
  refine dm rfl _ rfl (d9 _ rfl _ _ rfl rfl (bC nz wz) (aM _ rfl a _ dx _ _ rfl (sm2 _ _ (sm _ _ D.inst)) T.ai.cl (T.ai.no _ (by decide)) rfl (bT _ _ rfl rfl (dm (bC (nz.mul wz (k:=170)) tz) _ hLL (bZ (by rw [be,aD,ic];show _<2 ^ 24;omega) hi' ?_ fun q o z=> ?_)))))
  ·rw [af,Ch.bw hn,du]
   show some (HO.lst (dH _++ [V.int ((n:Int)*(w':Int)*((total d:Nat):Int))]))=some (HO.lst (dH (_++ [n*w'*total d])))
   rw [←gw,b7,b7]
  ·rw [ak (aw z hL2)]
   exact sm2 q o z
 rintro H2 ⟨hi2,hLL,sm2⟩
 rw [be,aD] at hLL
 rw [show(e.map fun c=>c.1).take e.length=e.map fun c=>c.1 by rw [lv (by rw [aD];exact bp _)]] at hLL
 refine jZ L1 L2 _ _ rfl rfl (sm2 _ _ hL) hLL (by rw [be,be,aD,aD,aD,aD];show _≤2 ^ 24;omega) fun L3 hL3=> ?_
 have s3:=aC.laid (o:= .lst (dH ((d.map fun c=>c.1).map fun n=>n*v*total e)++dH ((e.map fun c=>c.1).map fun n=>n*w'*total d))) hL3
 have S3:=(sm.trans sm2).trans s3
 refine iX _ rfl _ rfl a _ dx _ _ rfl (S3 _ _ D.inst) T.ai.cl (T.ai.no _ (by decide)) rfl (aM _ rfl b _ dy _ _ rfl (S3 _ _ E.inst) T.ai.cl (T.ai.no _ (by decide)) rfl (jZ sl sl2 _ _ rfl rfl (S3 _ _ D.s) (S3 _ _ E.s) (by rw [aD,aD,D.len,E.len];show _≤2 ^ 24;omega) fun L4 hL4=> ?_))
 have s4:=aC.laid (o:= .lst (as.map V.ref++as2.map V.ref)) hL4
 have S4:=S3.trans s4
 have fr3:H L3=none:=(sm.trans sm2).free hL3
 have fr4:H L4=none:=S3.free hL4
 refine jp av L3 L4 _ _ _ rfl ?_ af (((IO D).app (IO E)).si (aC.i S4)) ?_ ?_ (bZ (eC hav fr3) (eC hav fr4) (fun q hq z=> ?_) fun r H5 o5 s5=>k r H5 o5 (S4.trans s5))
 ·rw [s4 _ _ (af (a:=L3))]
  rw [ML,fo,fo]
  rfl
 ·unfold nats
  rw [bX,aD,aD,aD,bX,aD,aD]
 ·unfold nats
  rw [aD,bX,aD,aD]
  omega
 ·cases z2:H q with
  | none=>exact hav q hq z2
  | some o=>rw [S4 _ _ z2] at z;cases z
theorem K4 (d:Dist) (f s:Vbdeab.Q):checked (some (Vbdeab.bend d f s))=Kd.wS (nats (d.map fun c=>c.1)) (d.map fun c=>sO f s c.2):=by
 rw [Qt]
 unfold Vbdeab.bend
 rw [fo,fo]
 rfl
theorem El {d:Dist} {f s:Vbdeab.Q} {i:Nat} {c:Nat×Class} (h:d[i]?=some c):(d.map fun c=>sO f s c.2).take (i+1)=(d.map fun c=>sO f s c.2).take i++ [sO f s c.2]:=Ch.bw (by rw [dn,h];rfl)
def Ks (T:Tx K mg):Sp:=fun vs H Q _=>∃(av:List Addr) (a b c:Addr) (d:Dist) (f s:Vbdeab.Q),vs= [.ref a,.ref b,.ref c]∧eZ T av H a d∧jW T H b f∧jW T H c s∧jb f∧jb s∧(∀b∈av,H b≠none)∧∀(r:V) (H':Hp),ja T av H' r (checked (some (Vbdeab.bend d f s)))→aC H H'→Q r H'
theorem Kb (T:Tx K mg):dM P w base T.ID 7 (Ks T):=by
 refine T.ID.okA yR ?_
 rintro _ A _ s H _ Q E hr ⟨av,a,b,c,d,f,s,rfl,⟨dx,wl,sl,bl,el,as,D⟩,hf,hs,okf,oks,hav,k⟩
 refine⟨_,(ac (tH (i:=4) (own:= [("shape",3)]) rfl yR.nd rfl rfl (xY rfl rfl rfl rfl) (cD (ao (pv 0) rfl)) (cf (N:= ["distribution","factor","summand","shape","shapes"]) (sc:=ag BQ) (by decide+kernel)) (fun _ _ _ _ _=>(kT 3 yR.nd)) (fun _ _ _ _ _=>dQ) (fun _ _ _ _ _=>(vY (zw (pv 3) T.uy (BD T) hr (ab (pv 1) (ab (pv 2) ad))) (zw (pv 3) T.uw (BB T) hr (ab (pv 1) (ab (pv 2) ad))))))
   (ae (aj (bi T.cG (cQ T) hr (ab (ao (pv 0) rfl) (ab (pv 4) ad)))))),?_⟩
 rw [K4] at k
 have dl:=D.ok.len2
 refine aM _ rfl a _ dx _ _ rfl D.inst T.ai.cl (T.ai.no _ (by decide)) rfl (cZ sl rfl ⟨_,a4.of D.s⟩ fun L hL=>jy (xs:=as.map V.ref) (fun i H'=>i≤d.length∧∃acc,H' L=some (.lst acc)∧jk T H' acc ((d.map fun c=>sO f s c.2).take i)∧aC H H') (mN (bn _) ([]) af ⟨rfl,fun i v o h _=>by cases i<;>cases h⟩ (aC.laid hL)) (fun i H' _ ⟨_,_,_,_,sm⟩=>a4.of (sm _ _ D.s)) ?_ ?_)
 ·rintro i v H1 hv ⟨hi,acc,hA,hO,sm⟩
  rw [dn] at hv
  obtain⟨x,hx,rfl⟩:=mP.mp hv
  have hi':i<d.length:=by rw [←D.len];exact(cb.mp hx).1
  have hc:=bF hi'
  generalize d[i]=cc at hc
  have hsh:=(D.sh i x cc hx hc).same sm
  have okc:=D.ok.cls cc (eM hc)
  have fin:∀(r:V) (H4:Hp),Ek T H4 r (sO f s cc.2)→aC H1 H4→∃acc,H4 L=some (.lst acc)∧acc.length<sizeLine∧(i+1≤d.length∧∃acc',(bR H4 L (.lst (acc++ [r]))) L=some (.lst acc')∧jk T (bR H4 L (.lst (acc++ [r]))) acc' ((d.map fun c=>sO f s c.2).take (i+1))∧aC H (bR H4 L (.lst (acc++ [r])))):=fun r H4 ho s4=>by
   have hA4:=s4 _ _ hA
   refine cZ acc hA4 ?_ (mN hi' _ af ?_ fun q o z=> ?_)
   ·rw [hO.1,ic,aD]
    show _<2 ^ 24
    omega
   ·rw [El hc]
    exact((hO.si (aC.i s4)).snoc ho).si (hX.lst hA4)
   ·rw [ak (aw z hL)]
    exact s4 _ _ (sm _ _ z)
  obtain⟨cw,cc⟩:=cc
  cases cc with
  | line p q=>
   obtain⟨dz,ax,ay,h1,h2,h3⟩:=id hsh
   exact⟨rfl,.inl (cM _ rfl x dz _ rfl h1 rfl (bH _ rfl (fy _ rfl x b (iG c p q f s rfl hsh okc (hf.same sm) (hs.same sm) (fe okf oks fin)))))⟩
  | comb p q n=>
   obtain⟨dz,ax,ay,h1,h2,h3⟩:=id hsh
   exact⟨rfl,.inr (cM _ rfl x dz _ rfl h1 rfl (bH _ rfl (fy _ rfl x b (jp c p q f s n rfl hsh okc (hf.same sm) (hs.same sm) okf ⟨oks,fin⟩))))⟩
 ·rintro H1 ⟨hi,acc,hA,hO,sm⟩
  rw [aD,D.len,lv (by rw [aD];exact bp _)] at hO
  refine aM _ rfl a _ dx _ _ rfl (sm _ _ D.inst) T.ai.cl (T.ai.no _ (by decide)) rfl (bH _ rfl (jp av wl L _ _ _ rfl (sm _ _ D.w) hA hO ?_ ?_ (bZ D.nw (eC hav hL) (fun q hq z=> ?_) fun r H5 o5 s5=>k r H5 o5 (sm.trans s5))))
  ·unfold nats
   rw [aD,aD,aD]
  ·unfold nats
   rw [aD,aD]
   omega
  ·cases z2:H q with
   | none=>exact hav q hq z2
   | some o=>rw [sm _ _ z2] at z;cases z
open Vbdeab (Class Dist)
theorem yW {T:Tx K mg} {H:Hp} {x:Addr} {c:Class} (h:jn T H x c):∃C dx fs,H x=some (.ins C dx fs)∧Ho K C∧kl K C "bottom"∧kl K C "x"∧fs.lookup ("bottom":Str)=some (V.int (Fr.cB c))∧∃ax,fs.lookup ("x":Str)=some (V.ref ax)∧jW T H ax (Fr.rH c):=by
 cases c with
 | line p q=>obtain⟨dx,ax,ay,h1,h2,h3⟩:=h;exact iY _ dx _ h1 T.aP.cl (T.aP.no _ (by decide)) (T.aP.no _ (by decide)) (dm rfl ax rfl h2)
 | comb p q n=>obtain⟨dx,ax,ay,h1,h2,h3⟩:=h;exact iY _ dx _ h1 T.aH.cl (T.aH.no _ (by decide)) (T.aH.no _ (by decide)) (dm rfl ax rfl h2)
def d6 (R:Hp→Addr→Class→Prop) (H:Hp) (ts:List Addr) (l:Dist):Prop:=ts.length=l.length∧∀(j:Nat) t c,ts[j]?=some t→l[j]?=some c→∃x,H t=some (.tup [.int (c.1:Nat),.ref x])∧R H x c.2
def Si (R:Hp→Addr→Class→Prop):Prop:=∀H H' x c,hX H H'→R H x c→R H' x c
theorem GG (T:Tx K mg):Si (fun H x c=>jn T H x c):=fun H H' x c s h=>h.si s
theorem d6.same {R:Hp→Addr→Class→Prop} (hR:Si R) {H H':Hp} {ts:List Addr} {l:Dist} (h:d6 R H ts l) (s:aC H H'):d6 R H' ts l:=⟨h.1,fun j t c a b=>let ⟨x,e,r⟩:=h.2 j t c a b;⟨x,s _ _ e,hR _ _ _ _ (aC.i s) r⟩⟩
theorem d6.lst {R:Hp→Addr→Class→Prop} (hR:Si R) {H:Hp} {D:Addr} {xs:List V} {o:HO} {ts:List Addr} {l:Dist} (h:d6 R H ts l) (hD:H D=some (.lst xs)):d6 R (bR H D o) ts l:=⟨h.1,fun j t c a b=>let ⟨x,e,r⟩:=h.2 j t c a b;⟨x,by rw [ak (bf e hD (by intro z;cases z))];exact e,hR _ _ _ _ (hX.lst hD) r⟩⟩
theorem d6.nil (R:Hp→Addr→Class→Prop) (H:Hp):d6 R H [] []:=⟨rfl,fun j t c a _=>by cases j<;>cases a⟩
theorem d6.snoc {R:Hp→Addr→Class→Prop} {H:Hp} {ts:List Addr} {l:Dist} {t:Addr} {c:Nat×Class} {x:Addr} (h:d6 R H ts l) (e:H t=some (.tup [.int (c.1:Nat),.ref x])) (r:R H x c.2):d6 R H (ts++ [t]) (l++ [c]):=by
 refine⟨by rw [bX,bX,h.1];rfl,fun j t' c' a b=> ?_⟩
 rcases CC j ts.length with q | q | q
 ·rw [nV q] at a
  rw [nV (by rw [←h.1];exact q)] at b
  exact h.2 j t' c' a b
 ·rw [q,nW (bp _),ul] at a
  rw [q,h.1,nW (bp _),ul] at b
  cases a
  cases b
  exact⟨x,e,r⟩
 ·rw [ut (by rw [bX];exact q)] at a
  cases a
theorem gE {ts:List Addr} {i:Nat} {v:V} (h:(ts.map V.ref)[i]?=some v):∃t,ts[i]?=some t∧v= .ref t:=by
 rw [dn] at h
 obtain⟨t,a,b⟩:=mP.mp h
 exact⟨t,a,b.symm⟩
theorem Cy {d:Dist} {i:Nat} {c:Nat×Class} (h:d[i]?=some c):taken (d.take (i+1))=taken (d.take i)++if 0<c.1 then [c] else []:=by
 unfold taken
 rw [Ch.bw h,Ha]
 congr 1
 by_cases q:0<c.1
 ·rw [if_pos q,ur,if_pos (aE q)]
  rfl
 ·rw [if_neg q,ur,if_neg (by simp;omega)]
  rfl
theorem kI {d:Dist} {c:Nat×Class} (h:c∈taken d):c∈d∧0<c.1:=by
 unfold taken at h
 obtain⟨a,b⟩:=CP.mp h
 exact⟨a,bj b⟩
theorem uN (d:Dist):(taken d).length≤d.length:=Hg _ _
theorem xN (ts:List Addr) (t:Addr):ts.map V.ref++ [V.ref t]=(ts++ [t]).map V.ref:=by rw [du];rfl
def Cu (T:Tx K mg):Sp:=fun vs H Q _=>∃(av:List Addr) (a:Addr) (d:Dist),vs= [.ref a]∧eZ T av H a d∧∀(H':Hp) (p:Addr),H' p=some (.lst (dH (Vbdeab.shares d)))→aC H H'→H p=none→Q (.ref p) H'
theorem BI (T:Tx K mg):dM P w base T.uC 1 (Cu T):=by
 refine T.uC.okA gK ?_
 rintro _ A _ s H _ Q E hr ⟨av,a,d,rfl,⟨dx,wl,sl,bl,el,as,D⟩,k⟩
 refine⟨_,(ac (aZ 1 gK.nd (aI ad))
   (ac (aZ 2 gK.nd am)
   (ac (d7 cJ rfl (cD (ao (pv 0) rfl)) (kT 3 gK.nd) (ac (gt (rL lF um uo jc (pv 1) (ab (aB b9 (pv 3) (pv 2)) ad)))
   (ae (aZ 2 gK.nd (pv 3)))))
   (ae (aj (pv 1)))))),?_⟩
 have hW:0<total d:=D.ok.tot1
 have hlen:(dH (wY (d.map fun c=>c.1))).length=d.length:=by rw [be,w6,aD]
 have dl:=D.ok.len2
 refine⟨bn _,fun L hL=> ?_⟩
 have sL:=aC.laid (o:= .lst []) hL
 refine aM _ rfl a _ dx _ _ rfl (sL _ _ D.inst) T.ai.cl (T.ai.no _ (by decide)) rfl (cZ el rfl ⟨_,a4.of (sL _ _ D.e)⟩ (eB (xs:=dH (wY (d.map fun c=>c.1))) (fun i σ H'=>i≤d.length∧∃(v:Option V) (acc:List Nat),σ= [some (.ref a),some (.ref L),some (.int ((ceilDiv (Vbdeab.M*Fr.dD d i) (total d):Nat):Int)),v]∧acc.length=i∧Vbdeab.shares d=acc++Fr.qL d i∧H' L=some (.lst (dH acc))∧aC H H') ⟨bn _,(cI none ([]) ?_ (bZ rfl (Fr.E3 d) af sL))⟩ (fun i σ H' _ ⟨_,_,_,_,_,_,_,s⟩=>a4.of (s _ _ D.e)) ?_ ?_))
 ·rw [Fr.sM,Nat.mul_zero,Fr.DH _ hW]
  rfl
 ·rintro i v σ H1 hv ⟨hi,w1,acc,rfl,hacc,hsh,hL1,sm⟩
  obtain⟨n,hn,rfl⟩:=pY hv
  have hi':i<d.length:=by have:=(cb.mp hn).1;rw [w6,aD] at this;exact this
  rw [wZ hi'] at hn
  cases hn
  have hc:=bF hi'
  have hm:=Fr.yl (W:=total d) hW (Nat.mul_le_mul_left Vbdeab.M (Fr.Hw (d:=d) (Nat.le_succ i)))
  refine cZ _ rfl (.inl ⟨rfl,_,a4.of hL1⟩) (eV _ rfl _ rfl _ _ rfl rfl (iY L _ _ rfl rfl hL1 (by rw [be,hacc];show i<2 ^ 24;omega) ?_))
  refine cZ _ rfl hi' (cI _ (acc++ [ceilDiv (Vbdeab.M*Fr.dD d (i+1)) (total d) - ceilDiv (Vbdeab.M*Fr.dD d i) (total d)]) rfl (bZ (by rw [bX,hacc];rfl) ?_ ?_ fun b o e=> ?_))
  ·rw [hsh,Fr.GF hc,List.append_assoc]
   rfl
  ·rw [af,←gw,r8 hm]
  ·rw [ak (aw e hL)]
   exact sm b o e
 ·rintro σ H1 ⟨hi,w1,acc,rfl,hacc,hsh,hL1,sm⟩
  rw [hlen,Fr.Ic,vE] at hsh
  rw [←hsh] at hL1
  exact⟨_,rfl,k H1 L hL1 sm hL⟩
def wt (T:Tx K mg):Sp:=fun vs H Q _=>∃(av:List Addr) (a:Addr) (d:Dist),vs= [.ref a]∧eZ T av H a d∧∀(H':Hp) (p:Addr) (ts:List Addr),H' p=some (.lst (ts.map V.ref))→d6 (fun H x c=>jn T H x c) H' ts (taken d)→aC H H'→Q (.ref p) H'
theorem iO (T:Tx K mg):dM P w base T.fR 1 (wt T):=by
 refine T.fR.okA fI ?_
 rintro _ A _ s H _ Q E hr ⟨av,a,d,rfl,⟨dx,wl,sl,bl,el,as,D⟩,k⟩
 refine⟨_,(ae (aj (j4 (own:= [("weight",1),("shape",2)]) rfl fI.nd (Oh rfl T.Pt (ab (ao (pv 0) rfl) (ab (ao (pv 0) rfl) ad))) (cf (N:= ["distribution","weight","shape"]) (sc:=ag jE) (by decide+kernel)) (fun _ _ _ _ _=>(A7 (K':=K) (n:=2) rfl (eU (kT 1 fI.nd) (eU (kT 2 fI.nd) qx)) rfl rfl rfl)) (fun _ _ _ _ _=>(ES (aR vi (pv 1) am (aY _)))) (fun _ _ _ _ _=>(LR (ab (pv 1) (ab (pv 2) ad))))))),?_⟩
 have dl:=D.ok.len2
 refine aM _ rfl a _ dx _ _ rfl D.inst T.ai.cl (T.ai.no _ (by decide)) rfl (aM _ rfl a _ dx _ _ rfl D.inst T.ai.cl (T.ai.no _ (by decide)) rfl ⟨wl,(bW sl _ _ rfl (a4.of D.w) (a4.of D.s) fun L hL=>N9 (xs:=dH (d.map fun c=>c.1)) (ys:=as.map V.ref) (fun i H'=>i≤d.length∧∃ts,H' L=some (.lst (ts.map V.ref))∧d6 (fun H x c=>jn T H x c) H' ts (taken (d.take i))∧aC H H') (mN (bn _) ([]) af (d6.nil _ _) (aC.laid hL)) (by rw [be,aD,aD,D.len]) (fun i H' _ ⟨_,_,_,_,s⟩=>⟨a4.of (s _ _ D.w),a4.of (s _ _ D.s)⟩) ?_ ?_)⟩)
 ·rintro i x y H1 t hx hy ⟨hi,ts,hL1,pa,sm⟩ ht
  obtain⟨n,hn,rfl⟩:=pY hx
  obtain⟨z,hz,rfl⟩:=gE hy
  rw [dn] at hn
  obtain⟨c,hc,rfl⟩:=mP.mp hn
  have hi':=(cb.mp hc).1
  have st:=aC.laid (o:= .tup [.int (c.1:Nat),.ref z]) ht
  have ntl:L≠t:=aw hL1 ht
  refine bT t _ rfl (Hr.of af) (kK rfl _ (d9 _ rfl _ _ rfl rfl rfl (lu _ rfl _ _ rfl rfl _ rfl (aX (fun h1=> ?_) (fun h1=> ?_)))))
  ·have h1':0<c.1:=by have:=bj h1;omega
   refine pE _ rfl _ rfl (by show 2≤sizeLine;decide) fun q hq=> ?_
   have sq:=aC.laid (o:= .tup [.int (c.1:Nat),.ref z]) hq
   have hL2:=sq _ _ (st _ _ hL1)
   have S2:=(sm.trans st).trans sq
   refine cZ _ hL2 ?_ (mN hi' (ts++ [q]) ?_ ?_ fun b o e=> ?_)
   ·rw [aD,pa.1]
    have:=uN (d.take i)
    rw [ic] at this
    show _<2 ^ 24
    omega
   ·rw [af,xN]
   ·rw [Cy hc,if_pos h1']
    refine d6.lst (GG T) (((pa.same (GG T) st).same (GG T) sq).snoc (x:=z) af ((D.sh i z c hz hc).same S2)) hL2
   ·rw [ak (aw e hL)]
    exact S2 b o e
  ·have h1':¬0<c.1:=fun q=>h1 (aE (by omega))
   refine mN hi' ts (st _ _ hL1) ?_ (sm.trans st)
   rw [Cy hc,if_neg h1',vE]
   exact pa.same (GG T) st
 ·rintro H1 ⟨hi,ts,hL1,pa,sm⟩
  rw [be,aD,jP] at pa
  exact k H1 L ts hL1 pa sm
open Vbdeab (Class Dist)
theorem F6 (num den:Class→Int) (b:Int):∀(l r:Dist),Fr.ie num den b (l++r)=Fr.ie num den b l+Fr.ie num den b r
 | [],r=>by rw [Hh];show _=0+_;rw [kj]
 | c::l,r=>by rw [G8,Fr.lX,Fr.lX,F6 num den b l r,Int.add_assoc]
theorem kr (num den:Class→Int) (b:Int):∀d:Dist,Fr.ie num den b (taken d)=Fr.ie num den b d
 | []=>rfl
 | c::r=>by
  have ih:=kr num den b r
  unfold taken at ih⊢
  rw [ur]
  by_cases q:0<c.1
  ·rw [if_pos (aE q),Fr.lX,Fr.lX,ih]
  ·rw [if_neg (by simp;omega),Fr.lX,ih,if_neg q,kj]
theorem yw {num den:Class→Int} {b:Int} {l:Dist} {i:Nat} {c:Nat×Class} (h:l[i]?=some c) (hc:0<c.1):Fr.ie num den b (l.take (i+1))=Fr.ie num den b (l.take i)+(c.1:Int)*num c.2*(b /den c.2):=by
 rw [Ch.bw h,F6]
 show _+((if 0<c.1 then _ else 0)+0)=_
 rw [if_pos hc,Int.add_zero]
theorem HA {c:Class} (ok:vc c):Sz 300 (Fr.Fq c):=by
 obtain⟨b0,bz,oz,rz⟩:=iP ok
 cases c with
 | line x y=>exact((show Sz 2 2 by decide).mul oz (k:=182)).add rz (k:=300)
 | comb x s n=>
  have nz:=jK (ga ok).2.2.2
  have n1:=(ga ok).2.2.1
  exact((show Sz 2 2 by decide).mul oz (k:=182)).add (rz.mul (nz.le (by omega)) (k:=241)) (k:=300)
theorem E4 {c:Class} (ok:vc c):Sz 600 (Fr.tX c):=by
 obtain⟨b0,bz,oz,rz⟩:=iP ok
 have o6:=(show Sz 3 6 by decide).mul oz (k:=183)
 cases c with
 | line x y=>exact(o6.mul (oz.add rz (k:=182)) (k:=365)).add (((show Sz 2 2 by decide).mul rz (k:=183)).mul rz (k:=364)) (k:=600)
 | comb x s n=>
  have nz:=jK (ga ok).2.2.2
  have n1:=(ga ok).2.2.1
  have nz1:Sz 60 ((n:Int) - 1):=nz.le (by omega)
  have wz:=rz.mul nz1 (k:=241)
  exact(o6.mul (oz.add wz (k:=242)) (k:=425)).add ((rz.mul wz (k:=422)).mul (((show Sz 2 2 by decide).mul nz (k:=62)).sub (show Sz 1 1 by decide) (k:=63)) (k:=485)) (k:=600)
theorem G0 {d:Dist} (ok:NH d) {c:Nat×Class} (h:c∈d):Sz 133 ((c.1:Nat):Int):=by
 obtain⟨i,hi,e⟩:=List.getElem_of_mem h
 have hc:d[i]?=some c:=by rw [bF hi,e]
 have h1:=Fr.ju hc
 have h2:=km d (i+1)
 exact eE (rG (by have:=ok.tot2;omega))
def qU (T:Tx K mg):Sp:=fun vs H Q _=>∃(av:List Addr) (a:Addr) (d:Dist),vs= [.ref a]∧eZ T av H a d∧∀(H':Hp) (p x y:Addr),H' p=some (.lst [.ref x,.ref y])→jW T H' x (Vbdeab.mean d)→jW T H' y (variance d)→aC H H'→Q (.ref p) H'
theorem qr (T:Tx K mg):dM P w base T.iw 4 (qU T):=by
 refine T.iw.okA aL ?_
 rintro _ A _ s H _ Q E hr ⟨av,a,d,rfl,hD,k⟩
 refine⟨_,(ac (aZ 1 aL.nd (bi T.fR (iO T) hr (ab (pv 0) ad)))
   (ac (aZ 4 aL.nd (bi T.jT (nk T) hr (ab (j4 (own:= [("weight",2),("shape",3)]) rfl aL.nd (cD (pv 1)) (cf (N:= ["distribution","classes","weight","shape","parts","bottom","squared","means","squares","total","mean","variance"]) (sc:=ag gc) (by decide+kernel)) (fun _ _ _ _ _=>(A7 (K':=K) (n:=2) rfl (eU (kT 2 aL.nd) (eU (kT 3 aL.nd) qx)) rfl rfl rfl)) (fun _ _ _ _ _=>dQ) (fun _ _ _ _ _=>(xr (K':=K) (pv 3) (by rfl) rfl))) ad)))
   (ac (aZ 5 aL.nd (bi T.uU (xo T) hr (ab (pv 4) ad)))
   (ac (aZ 6 aL.nd (aB aJ (pv 5) (pv 5)))
   (ac (aZ 7 aL.nd am)
   (ac (aZ 8 aL.nd am)
   (ac (d7 cJ rfl (cD (pv 1)) (EQ rfl (eU (kT 2 aL.nd) (eU (kT 3 aL.nd) qx))) (ac (og (i:=7) aL.nd rfl (Or.inl rfl) (aB aJ (aB aJ (pv 2) (vY (eJ (pv 3) T.ip (qj T) hr) (eJ (pv 3) T.il (qg T) hr))) (aB cA (pv 5) (ao (pv 3) rfl))) ml)
   (ae (og (i:=8) aL.nd rfl (Or.inl rfl) (aB aJ (aB aJ (pv 2) (vY (eJ (pv 3) T.gg (oa T) hr) (eJ (pv 3) T.gf (n9 T) hr))) (aB cA (pv 6) (aB aJ (ao (pv 3) rfl) (ao (pv 3) rfl)))) ml))))
   (ac (aZ 9 aL.nd (ao (pv 0) rfl))
   (ac (aZ 10 aL.nd (bi T.iI (ku T) hr (ab (pv 7) (ab (aB e9 (aI (ab am (ab (pv 9) ad))) (pv 4)) ad))))
   (ac (aZ 11 aL.nd (bi T.iI (ku T) hr (ab (aB b9 (aB aJ (aB aJ am (pv 9)) (pv 8)) (aB aJ (aB aJ am (pv 7)) (pv 7))) (ab (aB e9 (aB e9 (aI (ab am (ab (pv 9) (ab (pv 9) ad)))) (pv 4)) (pv 4)) ad))))
   (ae (aj (aI (ab (pv 10) (ab (pv 11) ad))))))))))))))),?_⟩
 obtain⟨dx,wl,sl,bl,el,as,D⟩:=id hD
 have dl:=D.ok.len2
 have hW:0<total d:=D.ok.tot1
 have tz:Sz 133 ((total d:Nat):Int):=eE (rG D.ok.tot2)
 refine bH _ rfl (hJ av a d rfl hD fun H1 L ts hL pa s1=> ?_)
 have tl:=uN d
 have okt:∀c∈taken d,vc c.2:=fun c hc=>D.ok.cls c (kI hc).1
 refine pE _ rfl L rfl ⟨_,a4.of hL⟩ fun B hB=>jy (xs:=ts.map V.ref) (fun i H'=>i≤ts.length∧H' B=some (.lst ((((taken d).take i).map fun c=>Fr.cB c.2).map V.int))∧aC H1 H') ⟨bn _,af,aC.laid hB⟩ (fun i H' _ h=>a4.of (h.2.2 _ _ hL)) ?_ ?_
 ·rintro i v H2 hv ⟨hi,hB2,s2⟩
  obtain⟨t,ht,rfl⟩:=gE hv
  have hi':=(cb.mp ht).1
  obtain⟨c,hc⟩:∃c,(taken d)[i]?=some c:=⟨_,bF (by rw [←pa.1];exact hi')⟩
  obtain⟨x,et,hsh⟩:=pa.2 i t _ ht hc
  obtain⟨C,dc,fs,f1,f2,f3,f4,f5,_⟩:=yW (hsh.same s2)
  refine bT t _ rfl (Hr.of (s2 _ _ et)) (kK rfl _ (d9 _ rfl _ _ rfl rfl rfl (aM _ rfl x C dc fs _ rfl f1 f2 f3 f5 (bH _ hB2 (bZ (by rw [aD,aD,ic];show _<2 ^ 24;omega) hi' ?_ fun b o e=> ?_)))))
  ·rw [af,Ch.bw hc,du,xb]
   rfl
  ·rw [ak (aw e hB)]
   exact s2 b o e
 rintro H2 ⟨hi,hB2,s2⟩
 rw [aD,pa.1,jP] at hB2
 refine cI B _ rfl (bZ (a4.of hB2) (by rw [aD];omega) (fun z hz=> ?_) fun H3 pl ps hp3 PP s3 _=> ?_)
 ·obtain⟨c,hc,rfl⟩:=lO.mp hz
  obtain⟨b0,bz,_⟩:=iP (okt c hc)
  exact⟨b0,bz.mono (by decide)⟩
 have S3:=s2.trans s3
 have pl1:ps.length≤64:=by rw [PP.len,aD];omega
 have bz0:=tG PP.sz ps.length
 rw [lY] at bz0
 have bz:Sz 16100 (fv ps):=bz0.mono (by omega)
 have b0:=PP.pp
 refine cv _ rfl pl ps rfl (a4.of hp3) (fe (by omega) (fun z hz=>(PP.sz z hz).mono (by decide)) ?_)
 generalize hbt:fv ps=bt at*
 refine bH _ rfl (d9 _ rfl _ _ rfl rfl (bC bz bz) ?_)
 have b2z:Sz 32200 (bt*bt):=bz.mul bz (k:=32200)
 have pa3:=pa.same (GG T) S3
 have hL3:=S3 _ _ hL
 have dvd:∀c∈taken d,Fr.cB c.2∣bt:=fun c hc=>by rw [←hbt];exact PP.dvd _ (lO.mpr ⟨c,hc,rfl⟩)
 refine pE _ rfl L rfl ⟨_,a4.of hL3⟩ (eB (xs:=ts.map V.ref) (fun i σ H'=>H'=H3∧i≤ts.length∧∃v1 v2 v3 v4 v5:Option V,σ= [some (.ref a),some (.ref L),v1,v2,some (.ref pl),some (.int bt),some (.int (bt*bt)),some (.int (Fr.ie Fr.Fq Fr.cB bt ((taken d).take i))),some (.int (Fr.ie Fr.tX Fr.K5 (bt*bt) ((taken d).take i))),v3,v4,v5]∧Sz (40000+i) (Fr.ie Fr.Fq Fr.cB bt ((taken d).take i))∧Sz (40000+i) (Fr.ie Fr.tX Fr.K5 (bt*bt) ((taken d).take i))) (fe rfl (bn _) (ot none none (hJ none none none rfl (wE _) (wE _)))) (fun i σ H' _ h=>by rw [h.1];exact a4.of hL3) ?_ ?_)
 ·rintro i v σ H4 hv ⟨rfl,hi,v1,v2,v3,v4,v5,rfl,mz,sz⟩
  obtain⟨t,ht,rfl⟩:=gE hv
  have hi':=(cb.mp ht).1
  obtain⟨c,hc⟩:∃c,(taken d)[i]?=some c:=⟨_,bF (by rw [←pa.1];exact hi')⟩
  obtain⟨x,et,hsh⟩:=pa3.2 i t _ ht hc
  have hcm:=eM hc
  have okc:=okt c hcm
  have cpos:=(kI hcm).2
  have wz:=G0 D.ok (kI hcm).1
  obtain⟨cb0,cbz,_⟩:=iP okc
  obtain⟨C,dc,fs,f1,f2,f3,f4,f5,_⟩:=yW hsh
  have q1:=bz.ediv (y:=Fr.cB c.2) cb0
  have cb20:=eW cb0 cb0
  have cb2z:=cbz.mul cbz (k:=240)
  have q2:=b2z.ediv (y:=Fr.cB c.2*Fr.cB c.2) cb20
  have m1:=wz.mul (HA okc) (k:=433)
  have m2:=wz.mul (E4 okc) (k:=733)
  have n1:=yw (num:=Fr.Fq) (den:=Fr.cB) (b:=bt) hc cpos
  have n2:=yw (num:=Fr.tX) (den:=Fr.K5) (b:=bt*bt) hc cpos
  have end1:Sz (40000+(i+1)) (Fr.ie Fr.Fq Fr.cB bt ((taken d).take (i+1))):=by
   rw [n1]
   exact mz.add (m1.mul q1 (k:=39000)) (by omega) (by omega)
  have end2:Sz (40000+(i+1)) (Fr.ie Fr.tX Fr.K5 (bt*bt) ((taken d).take (i+1))):=by
   rw [n2]
   exact sz.add (m2.mul q2 (k:=39000)) (by omega) (by omega)
  have fin:∀v1 v2 v3 v4 v5:Option V,∃u1 u2 u3 u4 u5:Option V,[some (.ref a),some (.ref L),v1,v2,some (.ref pl),some (.int bt),some (.int (bt*bt)),some (.int (Fr.ie Fr.Fq Fr.cB bt ((taken d).take i)+(c.1:Int)*Fr.Fq c.2*(bt /Fr.cB c.2))),some (.int (Fr.ie Fr.tX Fr.K5 (bt*bt) ((taken d).take i)+(c.1:Int)*Fr.tX c.2*(bt*bt /(Fr.cB c.2*Fr.cB c.2)))),v3,v4,v5]= [some (.ref a),some (.ref L),u1,u2,some (.ref pl),some (.int bt),some (.int (bt*bt)),some (.int (Fr.ie Fr.Fq Fr.cB bt ((taken d).take (i+1)))),some (.int (Fr.ie Fr.tX Fr.K5 (bt*bt) ((taken d).take (i+1)))),u3,u4,u5]:=fun v1 v2 v3 v4 v5=>⟨v1,(ot v2 v3 (ot v4 v5 (by rw [n1,n2];rfl)))⟩
  refine bT t _ rfl (Hr.of et) (kK rfl _ (cv _ rfl _ _ rfl rfl ?_))
  obtain⟨cw,cc⟩:=c
  cases cc with
  | line p q=>
   obtain⟨dz,ax,ay,h1,h2,h3⟩:=id hsh
   refine bB _ rfl _ rfl (.inl (cM _ rfl x dz _ rfl h1 rfl (bW x p q rfl hsh okc (bP _ _ rfl rfl (bC wz (HA okc)) (iX _ rfl _ rfl x C dc fs _ rfl f1 f2 f3 f5 (bP _ _ rfl rfl (pS cb0 (cbz.mono (by decide))) (jo _ _ rfl rfl (bC m1 q1) _ _ rfl rfl ?_)))))))
   refine bB _ rfl _ rfl (.inl (cM _ rfl x dz _ rfl h1 rfl (bW x p q rfl hsh okc (bP _ _ rfl rfl (bC wz (E4 okc)) (iX _ rfl _ rfl x C dc fs _ rfl f1 f2 f3 f5 (aM _ rfl x C dc fs _ rfl f1 f2 f3 f5 (bP _ _ rfl rfl (bC cbz cbz) (bP _ _ rfl rfl (pS cb20 (cb2z.mono (by decide))) (jo _ _ rfl rfl (bC m2 q2) _ _ rfl rfl ?_)))))))))
   obtain⟨u1,u2,u3,u4,u5,ee⟩:=fin _ _ _ _ _
   exact fe rfl hi' (ot u1 u2 (hJ u3 u4 u5 ee end1 end2))
  | comb p q n=>
   obtain⟨dz,ax,ay,h1,h2,h3⟩:=id hsh
   refine bB _ rfl _ rfl (.inr (cM _ rfl x dz _ rfl h1 rfl ⟨x,(bW p q n rfl hsh okc (bP _ _ rfl rfl (bC wz (HA okc)) (iX _ rfl _ rfl x C dc fs _ rfl f1 f2 f3 f5 (bP _ _ rfl rfl (pS cb0 (cbz.mono (by decide))) (jo _ _ rfl rfl (bC m1 q1) _ _ rfl rfl ?_)))))⟩))
   refine bB _ rfl _ rfl (.inr (cM _ rfl x dz _ rfl h1 rfl ⟨x,(bW p q n rfl hsh okc (bP _ _ rfl rfl (bC wz (E4 okc)) (iX _ rfl _ rfl x C dc fs _ rfl f1 f2 f3 f5 (aM _ rfl x C dc fs _ rfl f1 f2 f3 f5 (bP _ _ rfl rfl (bC cbz cbz) (bP _ _ rfl rfl (pS cb20 (cb2z.mono (by decide))) (jo _ _ rfl rfl (bC m2 q2) _ _ rfl rfl ?_)))))))⟩))
   obtain⟨u1,u2,u3,u4,u5,ee⟩:=fin _ _ _ _ _
   exact fe rfl hi' (ot u1 u2 (hJ u3 u4 u5 ee end1 end2))
 rintro σ H4 ⟨rfl,hi,v1,v2,v3,v4,v5,rfl,mz,sz⟩
 rw [aD,pa.1,jP,kr] at mz
 rw [aD,pa.1,jP,kr] at sz
 rw [aD,pa.1,jP,kr,kr]
 have lowd:=D.ok.low
 have dvd':∀c∈d,0<c.1→Fr.cB c.2∣bt:=fun c hc q=>dvd c (by unfold taken;exact CP.mpr ⟨hc,aE q⟩)
 have mean:=(Fr.Jb b0 lowd dvd' hW).eq
 have var:=(Fr.OA b0 lowd dvd' hW).eq
 generalize hM:Fr.ie Fr.Fq Fr.cB bt d=MM at*
 generalize hS:Fr.ie Fr.tX Fr.K5 (bt*bt) d=SS at*
 have mz':Sz 41000 MM:=mz.mono (by omega)
 have sz':Sz 41000 SS:=sz.mono (by omega)
 have t2:=(show Sz 2 2 by decide).mul tz (k:=135)
 refine aM _ rfl a _ dx _ _ rfl (S3 _ _ (s1 _ _ D.inst)) T.ai.cl (T.ai.no _ (by decide)) rfl ?_
 refine pE _ rfl _ rfl (by show 2≤sizeLine;decide) fun F1 hF1=> ?_
 have sf1:=aC.laid (o:= .lst [.int 2,.int ((total d:Nat):Int)]) hF1
 refine gM _ rfl F1 pl _ _ rfl rfl af (sf1 _ _ hp3) (by rw [aD];show 2+ps.length≤2 ^ 24;omega) fun F2 hF2=> ?_
 have sf2:=aC.laid (o:= .lst ([V.int 2,V.int ((total d:Nat):Int)]++ps.map V.int)) hF2
 have tpos:(0:Int)<((total d:Nat):Int):=by omega
 have ppos:∀z∈ps,0<z∧Sz 250 z:=fun z hz=>⟨PP.pos z hz,PP.sz z hz⟩
 refine iY F2 MM ([2,((total d:Nat):Int)]++ps) rfl (a4.of (by rw [af,du];rfl)) (by rw [bX];show 2+ps.length≤1000;omega) (fun z hz=> ?_) fun x1 H5 hx1 s5=> ?_
 ·rcases jO.mp hz with q | q
  ·rcases cF.mp q with q | q
   ·rw [q];exact⟨by decide,by decide⟩
   ·rw [gN] at q;rw [q];exact⟨tpos,tz.mono (by decide)⟩
  ·exact ppos z q
 have e1:fv ([2,((total d:Nat):Int)]++ps)=2*bt*((total d:Nat):Int):=by
  rw [yJ,hbt]
  show(1*2*((total d:Nat):Int))*bt=_
  grind
 rw [e1,←mean] at hx1
 have S5:=(sf1.trans sf2).trans s5
 have hp5:=S5 _ _ hp3
 refine d9 _ rfl _ _ rfl rfl (bC (show Sz 2 2 by decide) tz) (d9 _ rfl _ _ rfl rfl (bC t2 sz') (cv _ rfl _ _ rfl rfl (dm (bC (show Sz 2 3 by decide) mz') _ rfl (jo _ _ rfl rfl (bC ((show Sz 2 3 by decide).mul mz' (k:=41002)) mz') _ _ rfl rfl ?_))))
 refine pE _ rfl _ rfl (by show 3≤sizeLine;decide) fun F3 hF3=> ?_
 have sf3:=aC.laid (o:= .lst [.int 12,.int ((total d:Nat):Int),.int ((total d:Nat):Int)]) hF3
 refine gM _ rfl F3 pl _ _ rfl rfl af (sf3 _ _ hp5) (by rw [aD];show 3+ps.length≤2 ^ 24;omega) fun F4 hF4=> ?_
 have sf4:=aC.laid (o:= .lst ([V.int 12,V.int ((total d:Nat):Int),V.int ((total d:Nat):Int)]++ps.map V.int)) hF4
 refine gM _ rfl F4 pl _ _ rfl rfl af (sf4 _ _ (sf3 _ _ hp5)) (by rw [bX,aD];show 3+ps.length+ps.length≤2 ^ 24;omega) fun F5 hF5=> ?_
 have sf5:=aC.laid (o:= .lst ([V.int 12,V.int ((total d:Nat):Int),V.int ((total d:Nat):Int)]++ps.map V.int++ps.map V.int)) hF5
 refine iY F5 _ ([12,((total d:Nat):Int),((total d:Nat):Int)]++ps++ps) rfl (a4.of (by rw [af,du,du];rfl)) (by rw [bX,bX];show 3+ps.length+ps.length≤1000;omega) (fun z hz=> ?_) fun x2 H6 hx2 s6=> ?_
 ·rcases jO.mp hz with q | q
  ·rcases jO.mp q with q | q
   ·rcases cF.mp q with q | q
    ·rw [q];exact⟨by decide,by decide⟩
    ·rcases cF.mp q with q | q
     ·rw [q];exact⟨tpos,tz.mono (by decide)⟩
     ·rw [gN] at q;rw [q];exact⟨tpos,tz.mono (by decide)⟩
   ·exact ppos z q
  ·exact ppos z q
 have e2:fv ([12,((total d:Nat):Int),((total d:Nat):Int)]++ps++ps)=12*((total d:Nat):Int)*((total d:Nat):Int)*bt*bt:=by
  rw [yJ,yJ,hbt]
  show(1*12*((total d:Nat):Int)*((total d:Nat):Int))*bt*bt=_
  grind
 rw [e2,←var] at hx2
 have S6:=((sf3.trans sf4).trans sf5).trans s6
 refine pE _ rfl _ rfl (by show 2≤sizeLine;decide) fun p hp=> ?_
 have sp:=aC.laid (o:= .lst [V.ref x1,V.ref x2]) hp
 exact k _ p x1 x2 af ((hx1.same S6).same sp) (hx2.same sp) ((((s1.trans S3).trans S5).trans S6).trans sp)
open Vbdeab (Class Dist)
def mh (T:Tx K mg) (H:Hp) (rs:List Addr) (l:List Vbdeab.Q):Prop:=rs.length=l.length∧∀(j:Nat) r q,rs[j]?=some r→l[j]?=some q→mf T H r q
theorem mh.si {T:Tx K mg} {H H':Hp} {rs:List Addr} {l:List Vbdeab.Q} (h:mh T H rs l) (s:hX H H'):mh T H' rs l:=⟨h.1,fun j r q a b=>(h.2 j r q a b).si s⟩
theorem mh.nil (T:Tx K mg) (H:Hp):mh T H [] []:=⟨rfl,fun j t c a _=>by cases j<;>cases a⟩
theorem mh.snoc {T:Tx K mg} {H:Hp} {rs:List Addr} {l:List Vbdeab.Q} {r:Addr} {q:Vbdeab.Q} (h:mh T H rs l) (v:mf T H r q):mh T H (rs++ [r]) (l++ [q]):=by
 refine⟨by rw [bX,bX,h.1];rfl,fun j t' c' a b=> ?_⟩
 rcases CC j rs.length with z | z | z
 ·rw [nV z] at a
  rw [nV (by rw [←h.1];exact z)] at b
  exact h.2 j t' c' a b
 ·rw [z,nW (bp _),ul] at a
  rw [z,h.1,nW (bp _),ul] at b
  cases a
  cases b
  exact v
 ·rw [ut (by rw [bX];exact z)] at a
  cases a
theorem JP {l:Dist} {i:Nat} {c:Nat×Class} (h:l[i]?=some c):Fr.iN (l.take (i+1))=Fr.iN (l.take i)++ [Fr.rH c.2]++ [Fr.Ao c.2]:=by
 unfold Fr.iN
 rw [Ch.bw h,List.flatMap_append]
 simp
theorem FF (l:Dist):(Fr.iN l).length=2*l.length:=by
 unfold Fr.iN
 induction l with
 | nil=>rfl
 | cons c r ih=>simp only [Hb,bX,ih,d5,List.length_nil];omega
theorem GZ {d:Dist} (ok:NH d):taken d≠ []:=fun h=>by
 have:∀l:Dist,taken l= []→total l=0:=fun l hl=>by
  induction l with
  | nil=>rfl
  | cons c r ih=>
   unfold taken at hl ih
   rw [ur] at hl
   split at hl
   ·cases hl
   ·rename_i q
    have:c.1=0:=by simp at q;exact q
    unfold total at ih⊢
    rw [eY,Ch.sum_cons,ih hl,this]
 have:=this d h
 have:=ok.tot1
 omega
def px (T:Tx K mg):Sp:=fun vs H Q _=>∃(av:List Addr) (a:Addr) (d:Dist),vs= [.ref a]∧eZ T av H a d∧∀(H':Hp) (p x y:Addr),H' p=some (.lst [.ref x,.ref y])→jW T H' x (Vbdeab.least d)→jW T H' y (Vbdeab.most d)→aC H H'→Q (.ref p) H'
theorem oR (T:Tx K mg):dM P w base T.gT 4 (px T):=by
 refine T.gT.okA bh ?_
 rintro _ A _ s H _ Q E hr ⟨av,a,d,rfl,hD,k⟩
 refine⟨_,(ac (aZ 1 bh.nd (aI ad))
   (ac (d7 cJ rfl (cD (bi T.fR (iO T) hr (ab (pv 0) ad))) (EQ rfl (eU (kT 2 bh.nd) (eU (kT 3 bh.nd) qx))) (ac (gt (rL lF um uo jc (pv 1) (ab (ao (pv 3) rfl) ad)))
   (ae (gt (rL lF um uo jc (pv 1) (ab (vY (eJ (pv 3) T.mR (xg T) hr) (eJ (pv 3) T.mQ (xf T) hr)) ad))))))
   (ac (aZ 4 bh.nd (ik (pv 1) am))
   (ac (aZ 5 bh.nd (ik (pv 1) am))
   (ac (d7 cJ rfl (cD (pv 1)) (kT 6 bh.nd) (ac (aT (aS (zw (pv 6) T.eA (fq T) hr (ab (pv 4) ad))) (ae (aZ 4 bh.nd (pv 6))) aG)
   (ae (aT (aS (zw (pv 5) T.eA (fq T) hr (ab (pv 6) ad))) (ae (aZ 5 bh.nd (pv 6))) aG))))
   (ae (aj (aI (ab (eJ (pv 4) T.eI (eT T) hr) (ab (eJ (pv 5) T.eI (eT T) hr) ad)))))))))),?_⟩
 obtain⟨dx,wl,sl,bl,el,as,D⟩:=id hD
 have dl:=D.ok.len2
 have okt:∀c∈taken d,vc c.2:=fun c hc=>D.ok.cls c (kI hc).1
 have tl:=uN d
 refine⟨bn _,fun E hE=> ?_⟩
 have sE:=aC.laid (o:= .lst []) hE
 refine bH _ rfl (hJ av a d rfl (hD.same sE) fun H1 L ts hL pa s1=> ?_)
 have hE1:=s1 _ _ (af (H:=H) (a:=E) (o:= .lst []))
 refine cZ L rfl ⟨_,a4.of hL⟩ (eB (xs:=ts.map V.ref) (fun i σ H'=>i≤ts.length∧∃(v1 v2 v3 v4 v5:Option V) (rs:List Addr),σ= [some (.ref a),some (.ref E),v1,v2,v3,v4,v5]∧H' E=some (.lst (rs.map V.ref))∧mh T H' rs (Fr.iN ((taken d).take i))∧(∀b o,H1 b=some o→b≠E→H' b=some o)) (kK (bn _) none (ot none none (bW none none ([]) rfl hE1 (mh.nil T H1) fun b o e _=>e))) (fun i σ H' _ h=> ?_) ?_ ?_)
 ·obtain⟨_,_,_,_,_,_,_,_,_,_,kp⟩:=h
  exact a4.of (kp _ _ hL (fun z=>by rw [z,hE1] at hL;cases ts with
   | nil=>have:=pa.1;exact absurd (G9 this.symm) (GZ D.ok)
   | cons t r=>cases hL))
 ·rintro i v σ H2 hv ⟨hi,v1,v2,v3,v4,v5,rs,rfl,hE2,hV,kp⟩
  obtain⟨t,ht,rfl⟩:=gE hv
  have hi':=(cb.mp ht).1
  obtain⟨c,hc⟩:∃c,(taken d)[i]?=some c:=⟨_,bF (by rw [←pa.1];exact hi')⟩
  obtain⟨x,et,hsh1⟩:=pa.2 i t _ ht hc
  have okc:=okt c (eM hc)
  have k12:hX H1 H2:=fun b C dx fs e=>kp _ _ e (bf e hE1 (by intro z;cases z))
  have hsh:=hsh1.si k12
  have et2:=kp _ _ et (bf et hE1 (by intro z;cases z))
  obtain⟨C,dc,fs,f1,f2,f3,f4,f5,ax,f6,hq⟩:=yW hsh
  have hlen:(rs.map V.ref).length≤200:=by rw [aD,hV.1,FF,ic];omega
  have near:mf T H2 ax (Fr.rH c.2):=by
   have hn:jb (Fr.rH c.2):=by
    obtain⟨cw,cc⟩:=c
    cases cc with
    | line p q=>exact(EC okc).1
    | comb p q n=>exact(ga okc).1
   exact bP _ _ hq hn.2.iz ((cH hn.1).1.mono (by decide)) ((cH hn.1).2.mono (by decide))
  refine bT t _ rfl (Hr.of et2) (kK rfl _ (cv _ rfl _ _ rfl rfl ?_))
  refine cZ _ rfl (.inl ⟨rfl,_,a4.of hE2⟩) (aM _ rfl x C dc fs _ rfl f1 f2 f4 f6 (iY E _ _ rfl rfl hE2 (by show _<2 ^ 24;omega) ?_))
  have k3:hX H2 (bR H2 E (.lst (rs.map V.ref++ [V.ref ax]))):=hX.lst hE2
  have hsh3:=hsh.si k3
  have fin:∀(z:Addr) (H4:Hp) (n m:Int),fG T H4 z n m→Fr.Iz (Fr.Ao c.2) n m→Sz 400 n→Sz 400 m→aC (bR H2 E (.lst (rs.map V.ref++ [V.ref ax]))) H4→∃l xs y,V.ref E= .ref l∧ [V.ref z]= [y]∧H4 l=some (.lst xs)∧xs.length<sizeLine∧(i+1≤ts.length∧∃(u1 u2 u3 u4 u5:Option V) (rs':List Addr),[some (.ref a),some (.ref E),some (V.int (c.1:Nat)),some (V.ref x),v3,v4,v5]= [some (.ref a),some (.ref E),u1,u2,u3,u4,u5]∧(bR H4 l (.lst (xs++ [y]))) E=some (.lst (rs'.map V.ref))∧mh T (bR H4 l (.lst (xs++ [y]))) rs' (Fr.iN ((taken d).take (i+1)))∧(∀b o,H1 b=some o→b≠E→(bR H4 l (.lst (xs++ [y]))) b=some o)):=fun z H4 n m hz iz nz mz s4=>by
   have hE4:=s4 _ _ (af (H:=H2) (a:=E))
   refine iY E _ _ rfl rfl hE4 ?_ (kK hi' _ (ot _ _ (bW _ _ (rs++ [ax]++ [z]) rfl ?_ ?_ fun b o e hb=> ?_)))
   ·rw [bX]
    show _+1<2 ^ 24
    omega
   ·rw [af,xN,xN]
   ·rw [JP hc]
    exact(((((hV.snoc near).si k3).si (aC.i s4)).snoc (bP n m hz iz (nz.mono (by decide)) (mz.mono (by decide))))).si (hX.lst hE4)
   ·rw [ak hb]
    exact s4 _ _ (by rw [ak hb];exact kp b o e hb)
  obtain⟨cw,cc⟩:=c
  cases cc with
  | line p q=>
   obtain⟨dz,bx,by',h1,h2,h3⟩:=id hsh3
   exact cZ _ rfl (.inl ⟨rfl,_,a4.of af⟩) (.inl (cM _ rfl x dz _ rfl h1 rfl (bW x p q rfl hsh3 okc fin)))
  | comb p q n=>
   obtain⟨dz,bx,by',h1,h2,h3⟩:=id hsh3
   exact cZ _ rfl (.inl ⟨rfl,_,a4.of af⟩) (.inr (cM _ rfl x dz _ rfl h1 rfl ⟨x,(bW p q n rfl hsh3 okc fin)⟩))
 ·rintro σ H2 ⟨hi,v1,v2,v3,v4,v5,rs,rfl,hE2,hV,kp⟩
  rw [aD,pa.1,jP] at hV
  have hne:=GZ D.ok
  have lowE:∀z∈Fr.iN (taken d),Fr.lowQ z:=Fr.Bo fun c hc=>(okt c hc).2
  have l0:0<(Fr.iN (taken d)).length:=by
   rw [FF]
   cases h:taken d with
   | nil=>exact absurd h hne
   | cons c r=>rw [d5];omega
  have sH2:aC H H2:=fun b o e=>kp b o (s1 _ _ (sE _ _ e)) (aw e hE)
  generalize hl:Fr.iN (taken d)=l at*
  obtain⟨r0,g0⟩:∃r0,rs[0]?=some r0:=⟨_,bF (show 0<rs.length by rw [hV.1];exact l0)⟩
  obtain⟨e0,q0⟩:∃e0,l[0]?=some e0:=⟨_,bF l0⟩
  have V0:=hV.2 0 _ _ g0 q0
  refine bO _ rfl E _ _ _ rfl rfl (a4.of hE2) (ve (j:=0) rfl (by rw [dn,g0];rfl)) ?_
  refine bO _ rfl E _ _ _ rfl rfl (a4.of hE2) (ve (j:=0) rfl (by rw [dn,g0];rfl)) ?_
  refine pE _ rfl E rfl ⟨_,a4.of hE2⟩ (eB (xs:=rs.map V.ref) (fun i σ H'=>H'=H2∧∃(v1 v2 v5:Option V) (x y:Addr) (p q:Vbdeab.Q),σ= [some (.ref a),some (.ref E),v1,v2,some (.ref x),some (.ref y),v5]∧mf T H2 x p∧mf T H2 y q∧p∈l∧q∈l∧(∀z∈l.take i,p.le z=true)∧(∀z∈l.take i,z.le q=true)) (kK rfl _ (jp _ _ r0 r0 e0 e0 rfl V0 V0 (eM q0) (eM q0) (fun z hz=>by simp at hz) fun z hz=>by simp at hz)) (fun i σ H' _ h=>by rw [h.1];exact a4.of hE2) ?_ ?_)
  ·rintro i v σ H3 hv ⟨rfl,u1,u2,u5,x,y,p,q,rfl,Vx,Vy,pm,qm,ple,qle⟩
   obtain⟨r,hr,rfl⟩:=gE hv
   have hi':=(cb.mp hr).1
   obtain⟨e,hz⟩:∃e,l[i]?=some e:=⟨_,bF (show i<l.length by rw [←hV.1];exact hi')⟩
   have Vr:=hV.2 i r e hr hz
   have em:=eM hz
   obtain⟨rn,rd,hrt,riz,rnz,rdz⟩:=Vr
   obtain⟨xn,xd,hxt,xiz,xnz,xdz⟩:=Vx
   obtain⟨yn,yd,hyt,yiz,ynz,ydz⟩:=Vy
   obtain⟨dr,hrt'⟩:=id hrt
   obtain⟨dy,hyt'⟩:=id hyt
   have tk:=Ch.bw hz
   have lowz:∀z∈l.take i,Fr.lowQ z:=fun z hz=>lowE z (List.mem_of_mem_take hz)
   have second:∀(x':Addr) (p':Vbdeab.Q),mf T H3 x' p'→p'∈l→(∀z∈l.take (i+1),p'.le z=true)→True:=fun _ _ _ _ _=>fA
   have step2:∀(x':Addr) (p':Vbdeab.Q),mf T H3 x' p'→p'∈l→(∀z∈l.take (i+1),p'.le z=true)→
     ∃(y':Addr) (q':Vbdeab.Q),(if yn*rd<rn*yd then y'=r else y'=y)∧mf T H3 y' q'∧q'∈l∧∀z∈l.take (i+1),z.le q'=true:=fun x' p' _ _ _=>by
    by_cases c:yn*rd<rn*yd
    ·refine bP r e (by rw [if_pos c]) (bP rn rd hrt riz rnz rdz) em fun z hz=> ?_
     have qe:q.le e=true:=(yiz.le_iff riz).mpr (by omega)
     rw [tk] at hz
     rcases jO.mp hz with h | h
     ·exact Fr.le_trans (lowz z h) yiz.lowQ riz.lowQ (qle z h) qe
     ·rw [gN] at h
      rw [h];exact Fr.le_refl _
    ·refine bP y q (by rw [if_neg c]) (bP yn yd hyt yiz ynz ydz) qm fun z hz=> ?_
     have qe:e.le q=true:=(riz.le_iff yiz).mpr (by omega)
     rw [tk] at hz
     rcases jO.mp hz with h | h
     ·exact qle z h
     ·rw [gN] at h
      rw [h];exact qe
   refine cM _ rfl r dr _ rfl hrt' rfl (fy _ rfl r x (jY _ _ _ _ rfl hrt hxt (bC rnz xdz) (dm (bC xnz rdz) _ rfl (aX (fun h1=> ?_) (fun h1=> ?_)))))
   ·have h1':rn*xd<xn*rd:=bj h1
    have pe:e.le p=true:=(riz.le_iff xiz).mpr (by omega)
    have ple':∀z∈l.take (i+1),e.le z=true:=fun z hz=>by
     rw [tk] at hz
     rcases jO.mp hz with h | h
     ·exact Fr.le_trans riz.lowQ xiz.lowQ (lowz z h) pe (ple z h)
     ·rw [gN] at h
      rw [h];exact Fr.le_refl _
    have Ve:mf T H3 r e:=(bP rn rd hrt riz rnz rdz)
    obtain⟨y',q',hy',Vq',qm',qle'⟩:=step2 r e Ve em ple'
    refine bH _ rfl (cM _ rfl y dy _ rfl hyt' rfl (fy _ rfl y r (jY _ _ _ _ rfl hyt hrt (bC ynz rdz) (dm (bC rnz ydz) _ rfl (aX (fun h2=> ?_) (fun h2=> ?_))))))
    ·rw [if_pos (bj h2)] at hy'
     subst hy'
     exact bH _ rfl (kK rfl _ (jp _ _ _ _ e q' rfl Ve Vq' em qm' ple' qle'))
    ·rw [if_neg fun q=>h2 (aE q)] at hy'
     subst hy'
     exact kK rfl _ (jp _ _ _ _ e q' rfl Ve Vq' em qm' ple' qle')
   ·have h1':¬rn*xd<xn*rd:=fun q=>h1 (aE q)
    have pe:p.le e=true:=(xiz.le_iff riz).mpr (by omega)
    have ple':∀z∈l.take (i+1),p.le z=true:=fun z hz=>by
     rw [tk] at hz
     rcases jO.mp hz with h | h
     ·exact ple z h
     ·rw [gN] at h
      rw [h];exact pe
    have Vp:mf T H3 x p:=(bP xn xd hxt xiz xnz xdz)
    obtain⟨y',q',hy',Vq',qm',qle'⟩:=step2 x p Vp pm ple'
    refine cM _ rfl y dy _ rfl hyt' rfl (fy _ rfl y r (jY _ _ _ _ rfl hyt hrt (bC ynz rdz) (dm (bC rnz ydz) _ rfl (aX (fun h2=> ?_) (fun h2=> ?_)))))
    ·rw [if_pos (bj h2)] at hy'
     subst hy'
     exact bH _ rfl (kK rfl _ (jp _ _ _ _ p q' rfl Vp Vq' pm qm' ple' qle'))
    ·rw [if_neg fun q=>h2 (aE q)] at hy'
     subst hy'
     exact kK rfl _ (jp _ _ _ _ p q' rfl Vp Vq' pm qm' ple' qle')
  ·rintro σ H3 ⟨rfl,u1,u2,u5,x,y,p,q,rfl,Vx,Vy,pm,qm,ple,qle⟩
   rw [aD,hV.1,jP] at ple qle
   have ep:Vbdeab.least d=p:=by
    refine Fr.jt.unique lowE ?_ ⟨pm,ple⟩
    rw [←hl]
    exact Fr.Bh hne fun c hc=>(okt c hc).2
   have eq:Vbdeab.most d=q:=by
    refine Fr.md.unique lowE ?_ ⟨qm,qle⟩
    rw [←hl]
    exact Fr.Dz hne fun c hc=>(okt c hc).2
   obtain⟨xn,xd,hxt,xiz,xnz,xdz⟩:=Vx
   obtain⟨yn,yd,hyt,yiz,ynz,ydz⟩:=Vy
   obtain⟨d1,hxt'⟩:=id hxt
   obtain⟨d2,hyt'⟩:=id hyt
   refine cM _ rfl x d1 _ rfl hxt' rfl (iY x xn xd rfl hxt xiz.dpos (xdz.mono (by decide)) fun z1 H4 hz1 s4=> ?_)
   refine cM _ rfl y d2 _ rfl (s4 _ _ hyt') rfl (iY y yn yd rfl (hyt.same s4) yiz.dpos (ydz.mono (by decide)) fun z2 H5 hz2 s5=> ?_)
   refine⟨(by show 2≤sizeLine;decide),fun pp hp=> ?_⟩
   have sp:=aC.laid (o:= .lst [V.ref z1,V.ref z2]) hp
   rw [←xiz.eq] at hz1
   rw [←yiz.eq] at hz2
   rw [ep,eq] at k
   exact k _ pp z1 z2 af ((hz1.same s5).same sp) (hz2.same sp) (((sH2.trans s4).trans s5).trans sp)
open Vbdeab (Class Dist)
theorem qv {c:Class} (ok:vc c) {v:Vbdeab.Q} (okv:jb v) (s:Bool):0<Fr.vj c (v.den:Int)∧Sz 241 (Fr.vj c (v.den:Int))∧c.part s v=Vbdeab.mkQ (Fr.xq c v.num (v.den:Int) (Fr.m6 s)) (Fr.vj c (v.den:Int)).toNat∧Fr.lowQ (c.part s v)∧Sz 250 (c.part s v).num∧Sz 250 (((c.part s v).den:Nat):Int):=by
 obtain⟨b0,bz,oz,rz⟩:=iP ok
 have v0:=gn okv.2
 have vz:=(cH okv.1).2
 have iz:=Fr.MZ ok.2 (fun x s n e=>by subst e;exact nY (ga ok).2.2.2 (by decide)) okv.2.iz s
 have dz:Sz 241 (Fr.vj c (v.den:Int)):=by
  cases c with
  | line x y=>
   show Sz 241 (if Fr.cR (.line x y)=0 then 1 else Fr.vI (Fr.cR (.line x y))*(v.den:Int))
   split
   ·decide
   ·exact(AW rz).mul vz
  | comb x y n=>exact(jK (ga ok).2.2.2).mono (by decide)
 have nz:Sz 241 (Fr.xq c v.num (v.den:Int) (Fr.m6 s)):=by
  have cl:∀a m:Int,0≤m→Sz 241 m→Sz 241 (Fr.f9 a m):=fun a m h z=>z.le (by unfold Fr.f9;repeat' split;all_goals omega)
  cases c with
  | line x y=>
   show Sz 241 (if Fr.cR (.line x y)=0 then _ else _)
   split
   ·split<;>decide
   ·exact cl _ _ (Int.mul_nonneg (IG _) (fF v0)) ((AW rz).mul vz)
  | comb x y n=>exact cl _ _ (by omega) ((jK (ga ok).2.2.2).mono (by decide))
 have e:=iz.eq
 have gp:=dG (n:=Fr.xq c v.num (v.den:Int) (Fr.m6 s)) iz.dpos
 refine fe iz.dpos dz (bZ e iz.lowQ ?_ ?_)
 ·rw [e,Kd.EE iz.dpos]
  exact(nz.ediv gp).mono (by decide)
 ·rw [e,Kd.ED iz.dpos]
  exact(dz.ediv gp).mono (by decide)
theorem Op (T:Tx K mg) (f:Class→Vbdeab.Q):Si (fun H x c=>jW T H x (f c)):=fun H H' x c s h=>h.si s
def xU (T:Tx K mg):Sp:=fun vs H Q _=>∃(av:List Addr) (a b:Addr) (d:Dist) (v:Vbdeab.Q) (s:Bool),vs= [.ref a,.ref b,.int (Fr.m6 s)]∧eZ T av H a d∧jW T H b v∧jb v∧∀(x:Addr) (H':Hp),jW T H' x (Vbdeab.below s v d)→aC H H'→Q (.ref x) H'
theorem xh (T:Tx K mg):dM P w base T.mS 4 (xU T):=by
 refine T.mS.okA bg ?_
 rintro _ A _ s H _ Q E hr ⟨av,a,b,d,v,s,rfl,hD,hb,okv,k⟩
 refine⟨_,(ac (tH (i:=5) (own:= [("weight",3),("shape",4)]) rfl bg.nd rfl rfl (xY rfl rfl rfl rfl) (cD (bi T.fR (iO T) hr (ab (pv 0) ad))) (cf (N:= ["distribution","v","strict","weight","shape","chances","chance","parts","bottom","reached"]) (sc:=ag gZ) (by decide+kernel)) (fun _ _ _ _ _=>(A7 (K':=K) (n:=2) rfl (eU (kT 3 bg.nd) (eU (kT 4 bg.nd) qx)) rfl rfl rfl)) (fun _ _ _ _ _=>dQ) (fun _ _ _ _ _=>(LR (ab (pv 3) (ab (eJ (vY (zw (pv 4) T.jR (tp T) hr (ab (pv 1) (ab (pv 2) ad))) (zw (pv 4) T.jQ (tm T) hr (ab (pv 1) (ab (pv 2) ad)))) T.eI (eT T) hr) ad)))))
   (ac (aZ 7 bg.nd (bi T.jT (nk T) hr (ab (j4 (own:= [("weight",3),("chance",6)]) rfl bg.nd (cD (pv 5)) (cf (N:= ["distribution","v","strict","weight","shape","chances","chance","parts","bottom","reached"]) (sc:=ag gZ) (by decide+kernel)) (fun _ _ _ _ _=>(A7 (K':=K) (n:=2) rfl (eU (kT 3 bg.nd) (eU (kT 6 bg.nd) qx)) rfl rfl rfl)) (fun _ _ _ _ _=>dQ) (fun _ _ _ _ _=>(xr (K':=K) (pv 6) (by rfl) rfl))) ad)))
   (ac (aZ 8 bg.nd (bi T.uU (xo T) hr (ab (pv 7) ad)))
   (ac (aZ 9 bg.nd am)
   (ac (d7 cJ rfl (cD (pv 5)) (EQ rfl (eU (kT 3 bg.nd) (eU (kT 6 bg.nd) qx))) (ae (og (i:=9) bg.nd rfl (Or.inl rfl) (aB aJ (aB aJ (pv 3) (ao (pv 6) rfl)) (aB cA (pv 8) (ao (pv 6) rfl))) ml)))
   (ae (aj (bi T.iI (ku T) hr (ab (pv 9) (ab (aB e9 (pv 7) (aI (ab (ao (pv 0) rfl) ad))) ad)))))))))),?_⟩
 obtain⟨dx,wl,sl,bl,el,as,D⟩:=id hD
 have dl:=D.ok.len2
 have hW:0<total d:=D.ok.tot1
 have tz:Sz 133 ((total d:Nat):Int):=eE (rG D.ok.tot2)
 have okt:∀c∈taken d,vc c.2:=fun c hc=>D.ok.cls c (kI hc).1
 have tl:=uN d
 refine bH _ rfl (hJ av a d rfl hD fun H1 L ts hL pa s1=>(cZ L rfl ⟨_,a4.of hL⟩ fun C hC=>jy (xs:=ts.map V.ref) (fun i H'=>i≤ts.length∧∃us:List Addr,H' C=some (.lst (us.map V.ref))∧d6 (fun H x c=>jW T H x (c.part s v)) H' us ((taken d).take i)∧aC H1 H') (mN (bn _) ([]) af (d6.nil _ _) (aC.laid hC)) (fun i H' _ ⟨_,_,_,_,sm⟩=>a4.of (sm _ _ hL)) ?_ ?_))
 ·rintro i x H2 hx ⟨hi,us,hC2,pu,s2⟩
  obtain⟨t,ht,rfl⟩:=gE hx
  have hi':=(cb.mp ht).1
  obtain⟨c,hc⟩:∃c,(taken d)[i]?=some c:=⟨_,bF (by rw [←pa.1];exact hi')⟩
  obtain⟨z,et,hsh1⟩:=pa.2 i t _ ht hc
  have okc:=okt c (eM hc)
  have hsh:=hsh1.same s2
  have hb2:=(hb.same s1).same s2
  obtain⟨pd0,pdz,pe,plow,pnz,pdz2⟩:=qv okc okv s
  have fin:∀(y:Addr) (H3:Hp),fG T H3 y (Fr.xq c.2 v.num (v.den:Int) (Fr.m6 s)) (Fr.vj c.2 (v.den:Int))→aC H2 H3→∃dy fs,H3 y=some (.ins T.aA.C dy fs)∧fs.lookup ("lowest":Str)=none∧∃(a':Addr) (n' d':Int),[V.ref y]= [.ref a']∧fG T H3 a' n' d'∧0<d'∧Sz 9000 d'∧∀(x':Addr) (H':Hp),jW T H' x' (Vbdeab.mkQ n' d'.toNat)→aC H3 H'→(2≤sizeLine∧∀p,H' p=none→∃acc,(bR H' p (.tup [.int (c.1:Nat),.ref x'])) C=some (.lst acc)∧acc.length<sizeLine∧(i+1≤ts.length∧∃us:List Addr,(bR (bR H' p (.tup [.int (c.1:Nat),.ref x'])) C (.lst (acc++ [.ref p]))) C=some (.lst (us.map V.ref))∧d6 (fun H x c=>jW T H x (c.part s v)) (bR (bR H' p (.tup [.int (c.1:Nat),.ref x'])) C (.lst (acc++ [.ref p]))) us ((taken d).take (i+1))∧aC H1 (bR (bR H' p (.tup [.int (c.1:Nat),.ref x'])) C (.lst (acc++ [.ref p]))))):=fun y H3 hy s3=>by
   obtain⟨dy,hy'⟩:=id hy
   refine bT dy _ hy' rfl (iY y _ _ rfl hy pd0 (pdz.mono (by decide)) fun x' H4 hx' s4=>⟨by decide,fun p hp=> ?_⟩)
   rw [←pe] at hx'
   have sp:=aC.laid (o:= .tup [.int (c.1:Nat),.ref x']) hp
   have S:=(s3.trans s4).trans sp
   have hC5:=S _ _ hC2
   refine cZ _ hC5 ?_ (mN hi' (us++ [p]) ?_ ?_ fun q o e=> ?_)
   ·rw [aD,pu.1,ic]
    show _<2 ^ 24
    omega
   ·rw [af,xN]
   ·rw [Ch.bw hc]
    exact d6.lst (Op T _) ((pu.same (Op T _) S).snoc (x:=x') af (hx'.same sp)) hC5
   ·rw [ak (aw e hC)]
    exact S _ _ (s2 _ _ e)
  refine bT t _ rfl (Hr.of (s2 _ _ et)) (kK rfl _ (d9 _ rfl _ _ rfl rfl rfl ?_))
  obtain⟨cw,cc⟩:=c
  cases cc with
  | line p q=>
   obtain⟨dz,ax,ay,h1,h2,h3⟩:=id hsh
   refine⟨_,rfl,.inl (cM _ rfl z dz _ rfl h1 rfl (bH _ rfl (fy _ rfl z b (jZ p q v _ rfl hsh okc hb2 okv fun y H3 hy s3=> ?_))))⟩
   obtain⟨dy,fs,e1,e2,rest⟩:=fin y H3 hy s3
   exact bW y dy fs rfl e1 e2 rest
  | comb p q n=>
   obtain⟨dz,ax,ay,h1,h2,h3⟩:=id hsh
   refine⟨_,rfl,.inr (cM _ rfl z dz _ rfl h1 rfl (bH _ rfl (fy _ rfl z b (iG p q v n _ rfl hsh okc hb2 okv fun y H3 hy s3=> ?_))))⟩
   obtain⟨dy,fs,e1,e2,rest⟩:=fin y H3 hy s3
   exact bW y dy fs rfl e1 e2 rest
 rintro H2 ⟨hi,us,hC2,pu,s2⟩
 rw [aD,pa.1,jP] at pu
 have pz:∀c∈taken d,(0:Int)<(((c.2.part s v).den:Nat):Int)∧Sz 250 (((c.2.part s v).den:Nat):Int):=fun c hc=>by
  obtain⟨_,_,_,plow,_,pdz2⟩:=qv (okt c hc) okv s
  exact⟨gn plow,pdz2⟩
 refine pE _ rfl C rfl ⟨_,a4.of hC2⟩ fun B hB=>jy (xs:=us.map V.ref) (fun i H'=>i≤us.length∧H' B=some (.lst ((((taken d).take i).map fun c=>(((c.2.part s v).den:Nat):Int)).map V.int))∧aC H2 H') ⟨bn _,af,aC.laid hB⟩ (fun i H' _ h=>a4.of (h.2.2 _ _ hC2)) ?_ ?_
 ·rintro i x H3 hx ⟨hi,hB3,s3⟩
  obtain⟨t,ht,rfl⟩:=gE hx
  have hi':=(cb.mp ht).1
  obtain⟨c,hc⟩:∃c,(taken d)[i]?=some c:=⟨_,bF (by rw [←pu.1];exact hi')⟩
  obtain⟨z,et,⟨dz,hq⟩⟩:=pu.2 i t _ ht hc
  refine bT t _ rfl (Hr.of (s3 _ _ et)) (kK rfl _ (d9 _ rfl _ _ rfl rfl rfl (aM _ rfl z _ dz _ _ rfl (s3 _ _ hq) T.aA.cl (T.aA.no _ (by decide)) rfl (bH _ hB3 (bZ (by rw [aD,aD,ic];show _<2 ^ 24;omega) hi' ?_ fun b o e=> ?_)))))
  ·rw [af,Ch.bw hc,du,xb]
   rfl
  ·rw [ak (aw e hB)]
   exact s3 b o e
 rintro H3 ⟨hi3,hB3,s3⟩
 rw [aD,pu.1,jP] at hB3
 refine cI B _ rfl (bZ (a4.of hB3) (by rw [aD];omega) (fun z hz=> ?_) fun H4 pl ps hp4 PP s4 _=> ?_)
 ·obtain⟨c,hc,rfl⟩:=lO.mp hz
  exact pz c hc
 have S4:=s3.trans s4
 have pl1:ps.length≤64:=by rw [PP.len,aD];omega
 have bz0:=tG PP.sz ps.length
 rw [lY] at bz0
 have bz:Sz 16100 (fv ps):=bz0.mono (by omega)
 have b0:=PP.pp
 refine cv _ rfl pl ps rfl (a4.of hp4) (fe (by omega) (fun z hz=>(PP.sz z hz).mono (by decide)) ?_)
 generalize hbt:fv ps=bt at*
 have pu4:=pu.same (Op T _) S4
 have hC4:=S4 _ _ hC2
 refine pE _ rfl C rfl ⟨_,a4.of hC4⟩ (eB (xs:=us.map V.ref) (fun i σ H'=>H'=H4∧i≤us.length∧∃v1 v2 v3:Option V,σ= [some (.ref a),some (.ref b),some (.int (Fr.m6 s)),v1,v2,some (.ref C),v3,some (.ref pl),some (.int bt),some (.int (Fr.ie (fun c=>(c.part s v).num) (fun c=>(((c.part s v).den:Nat):Int)) bt ((taken d).take i)))]) ⟨rfl,(kK (bn _) none (ot none none rfl))⟩ (fun i σ H' _ h=>by rw [h.1];exact a4.of hC4) ?_ ?_)
 ·rintro i x σ H5 hx ⟨rfl,hi,v1,v2,v3,rfl⟩
  obtain⟨t,ht,rfl⟩:=gE hx
  have hi':=(cb.mp ht).1
  obtain⟨c,hc⟩:∃c,(taken d)[i]?=some c:=⟨_,bF (by rw [←pu.1];exact hi')⟩
  obtain⟨z,et,⟨dz,hq⟩⟩:=pu4.2 i t _ ht hc
  have hcm:=eM hc
  have cpos:=(kI hcm).2
  have wz:=G0 D.ok (kI hcm).1
  obtain⟨p0,pz1⟩:=pz c hcm
  obtain⟨_,_,_,_,pnz,_⟩:=qv (okt c hcm) okv s
  have n1:=yw (num:=fun c=>(c.part s v).num) (den:=fun c=>(((c.part s v).den:Nat):Int)) (b:=bt) hc cpos
  refine bT t _ rfl (Hr.of et) (kK rfl _ (cv _ rfl _ _ rfl rfl ?_))
  refine bH _ rfl (iX _ rfl _ rfl z _ dz _ _ rfl hq T.aA.cl (T.aA.no _ (by decide)) rfl (bP _ _ rfl rfl (bC wz pnz) (iX _ rfl _ rfl z _ dz _ _ rfl hq T.aA.cl (T.aA.no _ (by decide)) rfl (bP _ _ rfl rfl (pS p0 (pz1.mono (by decide))) (bP _ _ rfl rfl (bC (wz.mul pnz (k:=400)) (bz.ediv p0)) (bP _ _ rfl rfl rfl (kK hi' _ (ot _ _ (by rw [n1];rfl)))))))))
 rintro σ H5 ⟨rfl,hi,v1,v2,v3,rfl⟩
 rw [aD,pu.1,jP,kr]
 have S5:=(s1.trans s2).trans S4
 refine bH _ rfl (iX _ rfl _ rfl a _ dx _ _ rfl (S5 _ _ D.inst) T.ai.cl (T.ai.no _ (by decide)) rfl ⟨(by show 1≤sizeLine;decide),(fun F1 hF1=> ?_)⟩)
 have sf1:=aC.laid (o:= .lst [.int ((total d:Nat):Int)]) hF1
 refine jZ pl F1 _ _ rfl rfl (sf1 _ _ hp4) af (by rw [aD];show ps.length+1≤2 ^ 24;omega) fun F2 hF2=> ?_
 have sf2:=aC.laid (o:= .lst (ps.map V.int++ [V.int ((total d:Nat):Int)])) hF2
 refine iY F2 _ (ps++ [((total d:Nat):Int)]) rfl (a4.of (by rw [af,xb])) (by rw [bX];show ps.length+1≤1000;omega) (fun z hz=> ?_) fun x H6 hx s6=> ?_
 ·rcases jO.mp hz with q | q
  ·exact⟨PP.pos z q,PP.sz z q⟩
  ·rw [gN] at q
   rw [q]
   exact⟨by omega,tz.mono (by decide)⟩
 have iz:=Fr.ui (f:=Class.part s v) (num:=fun c=>(c.part s v).num) (den:=fun c=>(((c.part s v).den:Nat):Int)) (k:=1) (b:=bt) (by decide) b0 D.ok.low (fun c hc=>by
  obtain⟨_,_,_,plow,_,_⟩:=qv (D.ok.cls c hc) okv s
  refine⟨?_,gn plow⟩
  rw [Int.one_mul]
  exact plow.iz) (fun c hc q=>by rw [←hbt];exact PP.dvd _ (lO.mpr ⟨c,by unfold taken;exact CP.mpr ⟨hc,aE q⟩,rfl⟩)) hW
 have e1:fv (ps++ [((total d:Nat):Int)])=1*bt*((total d:Nat):Int):=by rw [iS,hbt,Int.one_mul]
 rw [e1,←iz.eq] at hx
 exact k x H6 hx (((S5.trans sf1).trans sf2).trans s6)
open Vbdeab (Class Dist)
def GM (T:Tx K mg):Sp:=fun vs H Q _=>∃(av:List Addr) (a b:Addr) (d:Dist) (i u:Nat) (c:Nat×Class) (v:Vbdeab.Q) (s:Bool),vs= [.ref a,.int i,.int u,.ref b,.int (Fr.m6 s)]∧eZ T av H a d∧u<4294967296∧d[i]?=some c∧0<c.1∧Vbdeab.M*Fr.dD d i≤u*total d∧jW T H b v∧jb v∧∀(H':Hp),aC H H'→Q (.bl (Fr.fu s v (total d) c.1 c.2 (Fr.dD d i) u)) H'
theorem tu (T:Tx K mg):dM P w base T.uB 5 (GM T):=by
 refine T.uB.okA z8 ?_
 rintro _ A _ s H _ Q E hr ⟨av,a,b,d,i,u,c,v,s,rfl,hD,hu,hc,hw0,hge,hb,okv,k⟩
 refine⟨_,(ac (aZ 5 z8.nd (zw (pv 0) T.dX (gz T) hr (ab (pv 1) (ab (pv 2) ad))))
   (ac (aT (aR rK (pv 4) am (aY _)) (ae (aj (zw (pv 5) T.eA (fq T) hr (ab (pv 3) ad)))) aG)
   (ae (aj (Of (zw (pv 3) T.eA (fq T) hr (ab (pv 5) ad))))))),?_⟩
 obtain⟨dx,wl,sl,bl,el,as,D⟩:=id hD
 obtain⟨v1,v2⟩:=cH okv.1
 refine cM _ rfl a dx _ rfl D.inst rfl (bB _ rfl _ rfl (jp av a d i u c rfl hD hu hc hw0 hge fun z H1 hz s1=> ?_))
 obtain⟨n,m,hrt,iz,nz,mz⟩:=hz
 obtain⟨dz,hrt'⟩:=id hrt
 have hb1:=hb.same s1
 obtain⟨db,hb'⟩:=id hb1
 have k1:=k H1 s1
 unfold Fr.fu Vbdeab.under at k1
 have c1:=iz.lt_iff okv.2.iz
 have c2:=iz.le_iff okv.2.iz
 cases s with
 | true=>
  rw [if_pos rfl] at k1
  refine eK _ rfl rfl _ rfl (jx (cM _ rfl z dz _ rfl hrt' rfl (fy _ rfl z b (jZ n m _ _ rfl hrt hb1 (bC nz v2) (bC v1 mz) ?_))))
  have e:decide (n*(v.den:Int)<v.num*m)=(along c.1 c.2 (u*total d - Vbdeab.M*Fr.dD d i)).lt v:=by
   by_cases q:n*(v.den:Int)<v.num*m
   ·rw [aE q,c1.mpr q]
   ·rw [bq q]
    cases e:(along c.1 c.2 (u*total d - Vbdeab.M*Fr.dD d i)).lt v with
    | false=>rfl
    | true=>exact absurd (c1.mp e) q
  rw [e]
  exact k1
 | false=>
  rw [if_neg (by decide)] at k1
  refine eK _ rfl rfl _ rfl ?_
  refine cM _ rfl b db _ rfl hb' rfl (fy _ rfl b z (jY _ _ n m rfl hb1 hrt (bC v1 mz) (dm (bC nz v2) _ rfl ?_)))
  have e:(!decide (v.num*m<n*(v.den:Int)))=(along c.1 c.2 (u*total d - Vbdeab.M*Fr.dD d i)).le v:=by
   by_cases q:v.num*m<n*(v.den:Int)
   ·rw [aE q]
    cases e:(along c.1 c.2 (u*total d - Vbdeab.M*Fr.dD d i)).le v with
    | false=>rfl
    | true=>exact absurd (c2.mp e) (by omega)
   ·rw [bq q,c2.mpr (by omega)]
    rfl
  rw [e]
  exact k1
open Vbdeab (Class Dist)
def wn (T:Tx K mg):Sp:=fun vs H Q _=>∃(av:List Addr) (a b:Addr) (d:Dist) (i:Nat) (c:Nat×Class) (v:Vbdeab.Q) (s:Bool),vs= [.ref a,.int i,.int (ceilDiv (Vbdeab.M*Fr.dD d i) (total d):Nat),.ref b,.int (Fr.m6 s)]∧eZ T av H a d∧d[i]?=some c∧ceilDiv (Vbdeab.M*Fr.dD d i) (total d)<ceilDiv (Vbdeab.M*Fr.dD d (i+1)) (total d)∧jW T H b v∧jb v∧∀(H':Hp),aC H H'→Q (.int (Vbdeab.countGood (Fr.fu s v (total d) c.1 c.2 (Fr.dD d i)) c.2.rises (ceilDiv (Vbdeab.M*Fr.dD d i) (total d)) (ceilDiv (Vbdeab.M*Fr.dD d (i+1)) (total d)):Nat)) H'
theorem vR (T:Tx K mg):dM P w base T.lH 6 (wn T):=by
 refine T.lH.okA cj ?_
 rintro _ A _ s H _ Q E hr ⟨av,a,b,d,i,c,v,s,rfl,hD,hc,hlt,hb,okv,k⟩
 refine⟨_,(ac (aZ 5 cj.nd (ik (ao (pv 0) rfl) (pv 1)))
   (ac (aZ 6 cj.nd (pv 2))
   (ac (aZ 7 cj.nd (aB b9 (pv 5) am))
   (ac (aZ 8 cj.nd (bi T.uB (tu T) hr (ab (pv 0) (ab (pv 1) (ab (pv 6) (ab (pv 3) (ab (pv 4) ad)))))))
   (ac (aT (aR rK (pv 8) (bi T.uB (tu T) hr (ab (pv 0) (ab (pv 1) (ab (pv 7) (ab (pv 3) (ab (pv 4) ad)))))) (aY _)) (ae (aj (xt (aS (pv 8)) (aB b9 (pv 5) (pv 2)) am))) aG)
   (ac (lg cJ (aR vi (aB b9 (pv 7) (pv 6)) am (aY _)) (ac (aZ 9 cj.nd (aB cA (aB bY (pv 6) (pv 7)) am))
   (ae (aT (aR rK (bi T.uB (tu T) hr (ab (pv 0) (ab (pv 1) (ab (pv 9) (ab (pv 3) (ab (pv 4) ad)))))) (pv 8) (aY _)) (ae (aZ 6 cj.nd (pv 9))) (ae (aZ 7 cj.nd (pv 9)))))))
   (ae (aj (xt (aS (pv 8)) (aB b9 (pv 7) (pv 2)) (aB b9 (pv 5) (pv 7))))))))))),?_⟩
 obtain⟨dx,wl,sl,bl,el,as,D⟩:=id hD
 have hi:=(cb.mp hc).1
 have hW:0<total d:=D.ok.tot1
 have okc:=D.ok.cls c (eM hc)
 have hend:ceilDiv (Vbdeab.M*Fr.dD d (i+1)) (total d)≤4294967296:=by
  have h1:=Fr.yl (W:=total d) hW (Nat.mul_le_mul_left Vbdeab.M (km d (i+1)))
  rw [Fr.JL hW] at h1
  exact h1
 have hw0:0<c.1:=by
  rcases Ei c.1 with q | q
  ·rw [Fr.ju hc,q,lP] at hlt
   omega
  ·exact q
 have hge:∀u,ceilDiv (Vbdeab.M*Fr.dD d i) (total d)≤u→Vbdeab.M*Fr.dD d i≤u*total d:=fun u h=>(Fr.lQ hW).mp h
 have en:=wZ (d:=d) hi
 have mono:=Fr.Ll okc.2 hw0 okv.2 s (total d) (Fr.dD d i) (ceilDiv (Vbdeab.M*Fr.dD d i) (total d)) (ceilDiv (Vbdeab.M*Fr.dD d (i+1)) (total d))
 have same:= @Hv.count_same _ _ _ _ mono hlt
 have turn:=fun m=> @Hv.count_turn _ _ _ _ m mono
 generalize ceilDiv (Vbdeab.M*Fr.dD d i) (total d)=lo at*
 generalize ceilDiv (Vbdeab.M*Fr.dD d (i+1)) (total d)=hi' at*
 have f64:hi' - lo<2 ^ 64:=by
  have:(4294967296:Nat)<2 ^ 64:=by decide
  omega
 have e1:((hi':Nat):Int) - 1=((hi' - 1:Nat):Int):=by omega
 refine aM _ rfl a _ dx _ _ rfl D.inst T.ai.cl (T.ai.no _ (by decide)) rfl (bO _ rfl el _ _ _ rfl rfl (a4.of D.e) (pZ rfl en) ?_)
 refine eV _ rfl _ rfl _ _ rfl rfl ?_
 refine Dt _ rfl _ rfl _ rfl _ rfl _ rfl av a ⟨b,(jp d i lo c v s rfl hD (by omega) hc hw0 (hge lo (bp _)) (fe hb okv fun H1 s1=> ?_))⟩
 refine bH _ rfl (Dt _ rfl _ rfl _ rfl _ rfl _ rfl av a ⟨b,(jp d i (hi' - 1) c v s ?_ (hD.same s1) (by omega) hc hw0 (hge (hi' - 1) (by omega)) (fe (hb.same s1) okv fun H2 s2=> ?_))⟩)
 ·show [V.ref a,V.int i,V.int (((hi':Nat):Int) - 1),V.ref b,V.int (Fr.m6 s)]++ []=_
  rw [e1]
  rfl
 have S2:=s1.trans s2
 refine dm rfl _ rfl (aX (fun he=> ?_) (fun he=> ?_))
 ·have he':Fr.fu s v (total d) c.1 c.2 (Fr.dD d i) lo=Fr.fu s v (total d) c.1 c.2 (Fr.dD d i) (hi' - 1):=V.bl.inj (bj he)
  have cs:=same f64 he'
  rw [cs] at k
  refine bB _ rfl _ rfl (aX (fun h1=> ?_) (fun h1=> ?_))
  ·rw [if_pos h1] at k
   refine eV _ rfl _ rfl _ _ rfl rfl ?_
   have k2:=k H2 S2
   rw [r8 (by omega)] at k2
   exact k2
  ·rw [if_neg h1] at k
   exact k H2 S2
 ·have he':¬Fr.fu s v (total d) c.1 c.2 (Fr.dD d i) lo=Fr.fu s v (total d) c.1 c.2 (Fr.dD d i) (hi' - 1):=fun q=>he (aE (cx V.bl q))
  have hlast:Fr.fu s v (total d) c.1 c.2 (Fr.dD d i) (hi' - 1)= !Fr.fu s v (total d) c.1 c.2 (Fr.dD d i) lo:=by cases e1:Fr.fu s v (total d) c.1 c.2 (Fr.dD d i) lo<;>cases e2:Fr.fu s v (total d) c.1 c.2 (Fr.dD d i) (hi' - 1)<;>first | rfl | (rw [e1,e2] at he';exact absurd rfl he')
  have hne:lo≠hi' - 1:=fun q=>he' (by rw [←q])
  refine⟨fun m σ H'=>∃(l h:Nat) (x:Option V),m=h - l∧σ= [some (.ref a),some (.int i),some (.int (lo:Nat)),some (.ref b),some (.int (Fr.m6 s)),some (.int (hi':Nat)),some (.int (l:Nat)),some (.int (h:Nat)),some (.bl (Fr.fu s v (total d) c.1 c.2 (Fr.dD d i) lo)),x]∧lo≤l∧l<h∧h<hi'∧Fr.fu s v (total d) c.1 c.2 (Fr.dD d i) l=Fr.fu s v (total d) c.1 c.2 (Fr.dD d i) lo∧Fr.fu s v (total d) c.1 c.2 (Fr.dD d i) h=(!Fr.fu s v (total d) c.1 c.2 (Fr.dD d i) lo)∧aC H H',(jY (hi' - 1 - lo) lo (hi' - 1) none rfl (by rw [←e1];rfl) (bp _) (by omega) (bZ (by omega) rfl hlast S2)),?_⟩
  rintro m σ H3 ⟨l,h,x,rfl,rfl,l1,l2,l3,gl,gh,s3⟩
  refine eV _ rfl _ rfl _ _ rfl rfl ⟨_,(eK _ rfl rfl _ rfl (aX (fun ht=>⟨_,fun _ _ z=>z,?_⟩) (fun ht=> ?_)))⟩
  ·have ht':1<h - l:=by have:=bj ht;omega
   have em:((l:Int)+(h:Int)) /2=(((l+h) /2:Nat):Int):=by omega
   refine eV _ rfl _ rfl _ _ rfl rfl (bP _ _ rfl rfl ⟨by decide,by decide+kernel⟩ ?_)
   refine Dt _ rfl _ rfl _ rfl _ rfl _ rfl av a ⟨b,(jp d i ((l+h) /2) c v s ?_ (hD.same s3) (by omega) hc hw0 (hge ((l+h) /2) (by omega)) (fe (hb.same s3) okv fun H4 s4=> ?_))⟩
   ·show [V.ref a,V.int i,V.int (((l:Int)+(h:Int)) /2),V.ref b,V.int (Fr.m6 s)]++ []=_
    rw [em]
    rfl
   refine eK _ rfl rfl _ rfl (aX (fun h2=> ?_) (fun h2=> ?_))
   ·have h2':Fr.fu s v (total d) c.1 c.2 (Fr.dD d i) ((l+h) /2)=Fr.fu s v (total d) c.1 c.2 (Fr.dD d i) lo:=V.bl.inj (bj h2)
    exact bB _ rfl (h - (l+h) /2) (by omega) (iY ((l+h) /2) h _ rfl (by rw [←em];rfl) (by omega) (by omega) (bZ l3 h2' gh (s3.trans s4)))
   ·have h2':¬Fr.fu s v (total d) c.1 c.2 (Fr.dD d i) ((l+h) /2)=Fr.fu s v (total d) c.1 c.2 (Fr.dD d i) lo:=fun q=>h2 (aE (cx V.bl q))
    have h2'':Fr.fu s v (total d) c.1 c.2 (Fr.dD d i) ((l+h) /2)= !Fr.fu s v (total d) c.1 c.2 (Fr.dD d i) lo:=by cases e1:Fr.fu s v (total d) c.1 c.2 (Fr.dD d i) lo<;>cases e2:Fr.fu s v (total d) c.1 c.2 (Fr.dD d i) ((l+h) /2)<;>first | rfl | (rw [e1,e2] at h2';exact absurd rfl h2')
    exact bB _ rfl ((l+h) /2 - l) (by omega) (iY l ((l+h) /2) _ rfl (by rw [←em];rfl) l1 (by omega) (bZ (by omega) gl h2'' (s3.trans s4)))
  ·have ht':¬(1:Int)<(h:Int) - (l:Int):=fun q=>ht (aE q)
   have e:h=l+1:=by omega
   subst e
   have ct:=turn l l1 l3 f64 gl gh
   rw [ct] at k
   refine bB _ rfl _ rfl (aX (fun h1=> ?_) (fun h1=> ?_))
   ·rw [if_pos h1] at k
    refine eV _ rfl _ rfl _ _ rfl rfl ?_
    have k2:=k H3 s3
    rw [r8 (by omega)] at k2
    exact k2
   ·rw [if_neg h1] at k
    refine eV _ rfl _ rfl _ _ rfl rfl ?_
    have k2:=k H3 s3
    rw [r8 (by omega)] at k2
    exact k2
open Vbdeab (Class Dist)
def AM (T:Tx K mg):Sp:=fun vs H Q _=>∃(av:List Addr) (a b:Addr) (d:Dist) (v:Vbdeab.Q) (s:Bool),vs= [.ref a,.ref b,.int (Fr.m6 s)]∧eZ T av H a d∧jW T H b v∧jb v∧∀(H':Hp),aC H H'→Q (.int (Vbdeab.hits s v d:Nat)) H'
theorem Av (T:Tx K mg):dM P w base T.rk 7 (AM T):=by
 refine T.rk.okA dY ?_
 rintro _ A _ s H _ Q E hr ⟨av,a,b,d,v,s,rfl,hD,hb,okv,k⟩
 refine⟨_,(ac (aZ 3 dY.nd am)
   (ac (aZ 4 dY.nd am)
   (ac (d7 cJ rfl (cq rfl T.di (ab (a8 aW (by rfl) T.gu eh (ab (ao (pv 0) rfl) ad)) ad)) (kT 5 dY.nd) (ac (aZ 6 dY.nd (ik (ao (pv 0) rfl) (pv 5)))
   (ac (aT (aR ld (pv 4) (pv 6) (aY _)) (ae (og (i:=3) dY.nd rfl (Or.inl rfl) (bi T.lH (vR T) hr (ab (pv 0) (ab (pv 5) (ab (pv 4) (ab (pv 1) (ab (pv 2) ad)))))) ml)) aG)
   (ae (aZ 4 dY.nd (pv 6))))))
   (ae (aj (pv 3)))))),?_⟩
 obtain⟨dx,wl,sl,bl,el,as,D⟩:=id hD
 have hW:0<total d:=D.ok.tot1
 have hlen:(dH (wY (d.map fun c=>c.1))).length=d.length:=by rw [be,w6,aD]
 have dl:=D.ok.len2
 have hE:=D.e
 generalize hL:dH (wY (d.map fun c=>c.1))=EL at*
 have b1: -(2 ^ 62)≤(EL.length:Int):=by rw [hlen];omega
 have b2:(EL.length:Int)<2 ^ 62:=by rw [hlen];omega
 refine aM _ rfl a _ dx _ _ rfl D.inst T.ai.cl (T.ai.no _ (by decide)) rfl ⟨el,(eK EL rfl (.inl (a4.of hE)) (EL.length:Int) rfl (fe b1 b2 (gU (n:=(EL.length:Int).toNat) (fun i σ H'=>i≤d.length∧∃(v1 v2:Option V) (f:Nat),σ= [some (.ref a),some (.ref b),some (.int (Fr.m6 s)),some (.int (f:Nat)),some (.int (ceilDiv (Vbdeab.M*Fr.dD d i) (total d):Nat)),v1,v2]∧Vbdeab.hits s v d=f+Fr.Bs s v d i∧aC H H') ⟨bn _,(hJ none none 0 ?_ (by rw [i3];exact Fr.HB s v d) (aC.refl' H))⟩ ?_ ?_)))⟩
 ·rw [Fr.sM,Nat.mul_zero,Fr.DH _ hW]
  rfl
 ·rintro i σ H1 hi ⟨_,v1,v2,f,rfl,hf,s1⟩
  rw [cT,hlen] at hi
  obtain⟨c,hc⟩:∃c,d[i]?=some c:=⟨_,bF hi⟩
  have ht:=Fr.JU (strict:=s) (v:=v) (w:=c.1) (c:=c.2) hc
  have hm:ceilDiv (Vbdeab.M*Fr.dD d i) (total d)≤ceilDiv (Vbdeab.M*Fr.dD d (i+1)) (total d):=Fr.yl hW (Nat.mul_le_mul_left Vbdeab.M (Fr.Hw (d:=d) (by omega)))
  refine aM _ rfl a _ dx _ _ rfl (s1 _ _ D.inst) T.ai.cl (T.ai.no _ (by decide)) rfl (bO _ rfl el _ _ _ rfl rfl (a4.of (s1 _ _ D.e)) (pZ (kj _) (wZ hi)) ?_)
  refine bH _ rfl (lu _ rfl _ _ rfl rfl _ rfl (aX (fun h1=> ?_) (fun h1=> ?_)))
  ·have h1':ceilDiv (Vbdeab.M*Fr.dD d i) (total d)<ceilDiv (Vbdeab.M*Fr.dD d (i+1)) (total d):=by have:=bj h1;omega
   refine bH _ rfl (Dt _ rfl _ rfl _ rfl _ rfl _ rfl av a (jp b d i c v s ?_ (hD.same s1) hc h1' (hb.same s1) okv fun H2 s2=> ?_))
   ·show [V.ref a,V.int (0+(i:Int)),V.int (ceilDiv (Vbdeab.M*Fr.dD d i) (total d):Nat),V.ref b,V.int (Fr.m6 s)]++ []=_
    rw [kj]
    rfl
   refine bT _ _ rfl rfl ?_
   refine cZ _ rfl hi (hJ (some (.int (0+(i:Int)))) (some (.int (ceilDiv (Vbdeab.M*Fr.dD d (i+1)) (total d):Nat))) (f+Vbdeab.countGood (Fr.fu s v (total d) c.1 c.2 (Fr.dD d i)) c.2.rises (ceilDiv (Vbdeab.M*Fr.dD d i) (total d)) (ceilDiv (Vbdeab.M*Fr.dD d (i+1)) (total d))) ?_ ?_ (s1.trans s2))
   ·rw [pI]
    rfl
   ·rw [hf,ht,ye]
  ·have h1':¬((ceilDiv (Vbdeab.M*Fr.dD d i) (total d):Nat):Int)<((ceilDiv (Vbdeab.M*Fr.dD d (i+1)) (total d):Nat):Int):=fun q=>h1 (aE q)
   have e:ceilDiv (Vbdeab.M*Fr.dD d (i+1)) (total d)=ceilDiv (Vbdeab.M*Fr.dD d i) (total d):=by omega
   rw [e,Fr.FD,i3] at ht
   exact cZ _ rfl hi (hJ _ _ f rfl (by rw [hf,ht]) s1)
 ·rintro σ H1 ⟨_,v1,v2,f,rfl,hf,s1⟩
  rw [cT,hlen,Fr.Lm,lP] at hf
  rw [hf] at k
  exact⟨_,rfl,k H1 s1⟩
open Vbdeab (Class Dist)
def j2 (l:List Int):Prop:=∀x∈l,Sz 140 x
theorem pV {l:List Int} {i:Nat} (h:i<l.length):l[i]?=some (l.getD i 0):=by
 rw [eX,bF h]
 rfl
theorem j2.at {l:List Int} (h:j2 l) (i:Nat):Sz 140 (l.getD i 0):=by
 rw [eX]
 cases e:l[i]? with
 | none=>show(0:Int).natAbs<_;exact wE _
 | some x=>exact h x (eM e)
theorem cV {l:List Int} {i:Nat} {z:Int} {k:Int} (e:k=(i:Int)) (h:l[i]?=some z):KM (l.map V.int) k=some (V.int z):=ve e (by rw [dn,h];rfl)
theorem jb.int {z:Int} (h:z.natAbs≤Vbdeab.BIG):jb (Vbdeab.ofInt z):=⟨Kd.sY h,(Fr.Iz.ofInt z).lowQ⟩
theorem jb.zero:jb ⟨0,1⟩:=⟨by decide,by decide,by decide⟩
theorem jb.one:jb ⟨1,1⟩:=⟨by decide,by decide,by decide⟩
def Do (T:Tx K mg):Sp:=fun vs H Q _=>∃(a:Addr) (b:List Int) (j:Nat),vs= [.ref a,.int j]∧a4 K H a (b.map V.int)∧j2 b∧j+1<b.length∧∀(v:V) (H':Hp),OQ T H' v (Kd.aU b j)→aC H H'→Q v H'
theorem iC (T:Tx K mg):dM P w base T.i7 5 (Do T):=by
 refine T.i7.okA Di ?_
 rintro _ A _ s H _ Q E hr ⟨a,b,j,rfl,hs,hz,hj,k⟩
 refine⟨_,(ae (aj (bi T.cK (cp T) hr (ab (ik (pv 0) (pv 1)) (ab (ik (pv 0) (aB bY (pv 1) am)) ad))))),?_⟩
 exact bH _ rfl (bO _ rfl a _ _ _ rfl rfl hs (cV rfl (pV (show j<b.length by omega))) (eV _ rfl _ rfl _ _ rfl rfl (jY a _ _ _ rfl rfl hs (cV (i:=j+1) rfl (pV hj)) (bT _ _ rfl ((hz.at _).mono (by decide)) k))))
def Ih (T:Tx K mg):Sp:=fun vs H Q _=>∃(u:V) (x:Option Vbdeab.Q),vs= [u]∧OQ T H u x∧(∀q,x=some q→jb q)∧∀(r:V) (H':Hp),Ek T H' r (Kd.tE x)→aC H H'→Q r H'
theorem vV (T:Tx K mg):dM P w base T.yg 6 (Ih T):=by
 refine T.yg.okA Ia ?_
 rintro _ A _ s H _ Q E hr ⟨u,x,rfl,hu,hx,k⟩
 refine⟨_,(ae (aj (bi T.l9 (lS T) hr (ab (pv 0) (ab (Ag T.bo (a9 T) hr (ab am (ab am ad))) (ab am ad)))))),?_⟩
 refine⟨_,rfl,?_⟩
 intro z dz nz nd _
 refine de nz nd (fun H2 e2 s2=> ?_) (cI 0 1 rfl rfl)
 refine iG u (.ref z) x (some ⟨0,1⟩) 1 rfl (hu.same s2) ⟨z,(kK rfl dz e2)⟩ hx (fun q hq=>by cases hq;exact jb.zero) fun r H3 o3 s3=> ?_
 have e:Kd.m9 x (some ⟨0,1⟩) 1=Kd.tE x:=by cases x<;>rfl
 rw [e] at o3
 exact k r H3 o3 (s2.trans s3)
def AS (T:Tx K mg):Sp:=fun vs H Q _=>∃(x y:Int),vs= [.int x,.int y]∧∀(r:V) (H':Hp),Ek T H' r (Kd.kJ x y)→aC H H'→Q r H'
theorem rJ (T:Tx K mg):dM P w base T.lV 6 (AS T):=by
 refine T.lV.okA AE ?_
 rintro _ A _ s H _ Q E hr ⟨x,y,rfl,k⟩
 refine⟨_,(ac (aT (lh (h9 (aV (aS (bi T.gQ (fS T) hr (ab (pv 0) ad)))) (h9 (aV (aS (bi T.gQ (fS T) hr (ab (pv 1) ad)))) (ig (aR vi (pv 0) (pv 1) (aY _)))))) (ae (aj cY)) aG)
   (ae (aj (bi T.l9 (lS T) hr (ab (Ag T.bo (a9 T) hr (ab (pv 0) (ab am ad))) (ab (Ag T.bo (a9 T) hr (ab am (ab am ad))) (ab (aB bY (aB b9 (pv 1) (pv 0)) am) ad))))))),?_⟩
 have nb:∀z:Int,z.natAbs≤Vbdeab.BIG↔(-1000000000000000000≤z∧z≤1000000000000000000):=fun z=>by rw [Kd.n6];omega
 have bad:¬(x≤y∧x.natAbs≤Vbdeab.BIG∧y.natAbs≤Vbdeab.BIG)→Q .non H:=fun q=>by
  have e:Kd.kJ x y=none:=by unfold Kd.kJ;rw [if_neg fun z=>q ⟨z.1,z.2.1,z.2.2.1⟩]
  rw [e] at k
  exact k .non H rfl (aC.refl' H)
 refine bc _ rfl x rfl _ rfl (aX (fun h1=> ?_) (fun h1=> ?_))
 ·exact jx (bad fun q=>oM h1 ((nb _).mp q.2.1))
 ·refine bc _ rfl y rfl _ rfl (aX (fun h2=> ?_) (fun h2=> ?_))
  ·exact jx (bad fun q=>oM h2 ((nb _).mp q.2.2))
  ·refine bH _ rfl (lu _ rfl _ _ rfl rfl _ rfl (aX (fun h3=> ?_) (fun h3=> ?_)))
   ·have h3':y<x:=bj h3
    exact bad fun q=>by have:=q.1;omega
   ·have h3':¬y<x:=fun q=>h3 (aE q)
    have hx:=(nb x).mpr (oN h1)
    refine⟨_,rfl,?_⟩
    intro z dz nz nd _
    refine de nz nd (fun H2 e2 s2=> ?_) (cI x 1 rfl rfl)
    intro z3 dz3 nz3 nd3 _
    refine de nz3 nd3 (fun H3 e3 s3=> ?_) (cI 1 1 rfl rfl)
    refine eV _ rfl _ rfl _ _ rfl rfl (bT _ _ rfl rfl (iG (.ref z) (.ref z3) (some (Vbdeab.ofInt x)) (some ⟨1,1⟩) (y - x+1) rfl ⟨z,(kK rfl dz (s3 _ _ e2))⟩ ⟨z3,(kK rfl dz3 e3)⟩ (fun q hq=>by cases hq;exact jb.int hx) (fun q hq=>by cases hq;exact jb.one) fun r H4 o4 s4=> ?_))
    have e:Kd.m9 (some (Vbdeab.ofInt x)) (some ⟨1,1⟩) (y - x+1)=Kd.kJ x y:=by
     unfold Kd.m9 Kd.kJ
     simp only
     by_cases c:y - x+1≤1000000000000000000
     ·rw [if_pos ⟨by omega,c⟩,if_pos (bZ (by omega) hx ((nb y).mpr (oN h2)) c)]
     ·rw [if_neg fun q=>c q.2,if_neg fun q=>c q.2.2.2]
    rw [e] at o4
    exact k r H4 o4 ((s2.trans s3).trans s4)
def zl (T:Tx K mg):Sp:=fun vs H Q _=>∃(av:List Addr) (wl:Addr) (first:Nat) (ws:List Nat),vs= [.int first,.ref wl]∧H wl=some (.lst (dH ws))∧first≤100∧ws.length≤100∧wl ∉ av∧(∀b∈av,H b≠none)∧∀(v:V) (H':Hp),ja T av H' v (Kd.wS (nats ws) (Kd.gr first ws.length))→aC H H'→Q v H'
theorem gX (T:Tx K mg):dM P w base T.fY 7 (zl T):=by
 refine T.fY.okA kF ?_
 rintro _ A _ s H _ Q E hr ⟨av,wl,first,ws,rfl,hw,h1,h2,nw,hav,k⟩
 refine⟨_,(ac (tH (i:=3) (own:= [("i",2)]) rfl kF.nd rfl rfl (xY rfl rfl rfl rfl) (cq rfl T.di (ab (a8 aW (by rfl) T.gu eh (ab (pv 1) ad)) ad)) (cf (N:= ["first","weights","i","shapes"]) (sc:=ag lB) (by decide+kernel)) (fun _ _ _ _ _=>(kT 2 kF.nd)) (fun _ _ _ _ _=>dQ) (fun _ _ _ _ _=>(bi T.yg (vV T) hr (ab (EO (T.aA.mk' T.bo) (a9 T) (hr.mono (by decide)) rfl T.aA.mgC T.bo.b .nil zQ (ab (aB bY (pv 0) (pv 2)) (ab am ad))) ad))))
   (ae (aj (bi T.cG (cQ T) hr (ab (pv 1) (ab (pv 3) ad)))))),?_⟩
 refine lu _ rfl wl _ rfl (.inl (a4.of hw)) _ rfl (fe (by omega) (by rw [be];omega) fun L hL=>gx (n:=((dH ws).length:Int).toNat) (fun i H'=>i≤ws.length∧∃acc,H' L=some (.lst acc)∧jk T H' acc (Kd.gr first i)∧aC H H') (mN (bn _) ([]) af ⟨rfl,fun i v o h _=>by cases i<;>cases h⟩ (aC.laid hL)) ?_ ?_)
 ·rintro i H1 hi ⟨_,acc,hA,hO,sm⟩
  rw [cT,be] at hi
  refine⟨rfl,(eV _ rfl _ rfl _ _ rfl rfl ?_)⟩
  intro z dz nz nd _
  refine de nz nd (fun H2 e2 s2=> ?_) (cI _ 1 rfl rfl)
  have ez:(first:Int)+(0+(i:Int))=((first+i:Nat):Int):=by omega
  rw [ez] at e2
  refine bP (.ref z) (some (Vbdeab.ofNat (first+i))) rfl ⟨z,(kK rfl dz e2)⟩ (fun q hq=>by cases hq;exact jb.int (z:=((first+i:Nat):Int)) (by rw [Kd.n6];omega)) fun r H3 o3 s3=> ?_
  have S:=s2.trans s3
  have hA3:=S _ _ hA
  refine cZ acc hA3 ?_ (mN hi _ af ?_ fun q o e=> ?_)
  ·rw [hO.1]
   unfold Kd.gr
   rw [aD,fm]
   show i<2 ^ 24
   omega
  ·have e:Kd.gr first (i+1)=Kd.gr first i++ [some (point (Vbdeab.ofNat (first+i)))]:=by unfold Kd.gr;rw [iT]
   rw [e]
   exact((hO.si (aC.i S)).snoc o3).si (hX.lst hA3)
  ·rw [ak (aw e hL)]
   exact S _ _ (sm _ _ e)
 ·rintro H1 ⟨_,acc,hA,hO,sm⟩
  rw [cT,be] at hO
  refine bB _ rfl _ rfl (jp av wl L (nats ws) acc _ rfl (sm _ _ hw) hA hO ?_ ?_ (bZ nw (eC hav hL) (fun q hq z=> ?_) fun r H5 o5 s5=>k r H5 o5 (sm.trans s5)))
  ·unfold Kd.gr nats
   rw [aD,fm,aD]
  ·unfold nats
   rw [aD]
   omega
  ·cases z2:H q with
   | none=>exact hav q hq z2
   | some o=>rw [sm _ _ z2] at z;cases z
theorem yI {p:Nat} (h:p≤100):∀i,Sz (7*i+1) ((p ^ i:Nat):Int)
 | 0=>by rw [Nat.pow_zero];decide
 | i+1=>by
  rw [mO,b7]
  exact(yI h i).mul (eE (nY h (by decide)):Sz 7 _) (by omega)
def Ii (T:Tx K mg):Sp:=fun vs H Q _=>∃(p e:Nat),vs= [.int p,.int e]∧p≤100∧e≤100∧Q (.int ((p ^ e:Nat):Int)) H
theorem mr (T:Tx K mg):dM P w base T.rm 1 (Ii T):=by
 refine T.rm.okA qH ?_
 rintro _ A _ s H _ Q E hr ⟨p,e,rfl,hp,he,k⟩
 refine⟨_,(ac (aZ 2 qH.nd am)
   (ac (d7 cJ rfl (cq rfl T.di (ab (pv 1) ad)) (kT 3 qH.nd) (ae (aZ 2 qH.nd (aB aJ (pv 2) (pv 0)))))
   (ae (aj (pv 2))))),?_⟩
 refine sC _ rfl e rfl (by omega) (by omega) (gU (n:=(e:Int).toNat) (fun i σ H'=>H'=H∧∃v:Option V,σ= [some (.int p),some (.int e),some (.int ((p ^ i:Nat):Int)),v]) ⟨rfl,none,rfl⟩ ?_ ?_)
 ·rintro i σ H1 hi ⟨rfl,v,rfl⟩
  exact bH _ rfl (d9 _ rfl _ _ rfl rfl (bC ((yI hp i).mono (n:=1000) (by omega)) (eE (nY hp (by decide)):Sz 7 _)) (kK rfl _ (by rw [mO,b7];rfl)))
 ·rintro σ H1 ⟨rfl,v,rfl⟩
  rw [cT]
  exact⟨_,rfl,k⟩
theorem lW:∀n i,Vbdeab.choose n i≤2 ^ n
 | 0,0=>by decide
 | 0,i+1=>by rw [Cb.choose_zero_succ];exact bn _
 | n+1,0=>by rw [Cb.choose_zero];exact Nat.one_le_two_pow
 | n+1,i+1=>by
  rw [Cb.choose_succ,mO]
  have h1:=lW n i
  have h2:=lW n (i+1)
  omega
def Ku (T:Tx K mg):Sp:=fun vs H Q _=>∃(n m:Nat),vs= [.int n,.int m]∧n≤100∧m≤100∧Q (.int ((Vbdeab.choose n m:Nat):Int)) H
theorem yE (T:Tx K mg):dM P w base T.CW 1 (Ku T):=by
 refine T.CW.okA uM ?_
 rintro _ A _ s H _ Q E hr ⟨n,m,rfl,hn,hm,k⟩
 refine⟨_,(ac (aZ 2 uM.nd am)
   (ac (d7 cJ rfl (cq rfl T.di (ab (pv 1) ad)) (kT 3 uM.nd) (ae (aZ 2 uM.nd (aB cA (aB aJ (pv 2) (aB b9 (pv 0) (pv 3))) (aB bY (pv 3) am)))))
   (ae (aj (pv 2))))),?_⟩
 refine sC _ rfl m rfl (by omega) (by omega) (gU (n:=(m:Int).toNat) (fun i σ H'=>H'=H∧∃v:Option V,σ= [some (.int n),some (.int m),some (.int ((Vbdeab.choose n i:Nat):Int)),v]) ⟨rfl,none,by rw [Cb.choose_zero];rfl⟩ ?_ ?_)
 ·rintro i σ H1 hi ⟨rfl,v,rfl⟩
  have cz:Sz 101 ((Vbdeab.choose n i:Nat):Int):=eE (nY (lW n i) (CD (by decide) (by omega)))
  have nz:Sz 10 ((n:Int) - (0+(i:Int))):=by show(_:Int).natAbs<1024;omega
  exact bH _ rfl (eV _ rfl _ rfl _ _ rfl rfl (bP _ _ rfl rfl (bC cz nz) (cv _ rfl _ _ rfl rfl (bP _ _ rfl rfl (pS (by omega) (show Sz 9000 _ from(show Sz 10 (0+(i:Int)+1) by show(_:Int).natAbs<1024;omega).mono (by decide))) (kK rfl _ (by show [some (V.int n),some (V.int m),some (V.int (((Vbdeab.choose n i:Nat):Int)*((n:Int) - (0+(i:Int))) /(0+(i:Int)+1))),some (V.int (0+(i:Int)))]=_;rw [kj,Kd.Hy]))))))
 ·rintro σ H1 ⟨rfl,v,rfl⟩
  rw [cT]
  exact⟨_,rfl,k⟩
def uc (T:Tx K mg):Sp:=fun vs H Q _=>∃(av:List Addr) (a:Addr) (p q:Int),vs= [.ref a]∧a4 K H a ([p,q].map V.int)∧j2 [p,q]∧(∀b∈av,H b≠none)∧∀(v:V) (H':Hp),ja T av H' v (checked (build 0 [p,q] []))→aC H H'→Q v H'
theorem BH (T:Tx K mg):dM P w base T.ji 7 (uc T):=by
 refine T.ji.okA Cc ?_
 rintro _ A _ s H _ Q E hr ⟨av,a,p,q,rfl,hs,hz,hav,k⟩
 refine⟨_,(ae (aj (bi T.cG (cQ T) hr (ab (aI (ab am ad)) (ab (aI (ab (bi T.yg (vV T) hr (ab (bi T.cK (cp T) hr (ab (ik (pv 0) am) (ab (ik (pv 0) am) ad))) ad)) ad)) ad))))),?_⟩
 rw [Kd.OS] at k
 refine⟨(by show 1≤sizeLine;decide),fun W hW=> ?_⟩
 have sW:=aC.laid (o:= .lst [.int 1]) hW
 refine bO _ rfl a _ _ _ rfl rfl (sW.seq hs) (cV (i:=0) rfl rfl) (fg _ rfl a _ _ _ rfl rfl (sW.seq hs) (cV (i:=1) rfl rfl) p q rfl ((hz q (by simp)).mono (by decide)) fun u H1 o1 s1=> ?_)
 refine bP u _ rfl o1 (fun q hq=>nh hq) fun r H2 o2 s2=> ?_
 refine⟨(by show 1≤sizeLine;decide),fun L hL=> ?_⟩
 have sL:=aC.laid (o:= .lst [r]) hL
 have S:=(sW.trans s1).trans s2
 refine jp av W L ([1]) ([r]) ([Kd.tE (Vbdeab.fraction p q)]) rfl (sL _ _ (s2 _ _ (s1 _ _ af))) af ⟨rfl,fun i v o h1 h2=> ?_⟩ rfl (by decide) (bZ (eC hav hW) (eC hav (S.free hL)) (fun x hx z=> ?_) fun v H5 o5 s5=>k v H5 o5 ((S.trans sL).trans s5))
 ·cases i with
  | zero=>cases h1;cases h2;exact o2.same sL
  | succ i=>cases i<;>cases h1
 ·cases z2:H x with
  | none=>exact hav x hx z2
  | some o=>rw [sL _ _ (S _ _ z2)] at z;cases z
def vC (T:Tx K mg):Sp:=fun vs H Q _=>∃(av:List Addr) (a:Addr) (p q:Int),vs= [.ref a]∧a4 K H a ([p,q].map V.int)∧(∀b∈av,H b≠none)∧∀(v:V) (H':Hp),ja T av H' v (checked (build 1 [p,q] []))→aC H H'→Q v H'
theorem C9 (T:Tx K mg):dM P w base T.kQ 7 (vC T):=by
 refine T.kQ.okA Dh ?_
 rintro _ A _ s H _ Q E hr ⟨av,a,p,q,rfl,hs,hav,k⟩
 refine⟨_,(ae (aj (bi T.cG (cQ T) hr (ab (aI (ab am ad)) (ab (aI (ab (bi T.lV (rJ T) hr (ab (ik (pv 0) am) (ab (ik (pv 0) am) ad))) ad)) ad))))),?_⟩
 rw [Kd.OT] at k
 refine⟨(by show 1≤sizeLine;decide),fun W hW=> ?_⟩
 have sW:=aC.laid (o:= .lst [.int 1]) hW
 refine bO _ rfl a _ _ _ rfl rfl (sW.seq hs) (cV (i:=0) rfl rfl) (bO _ rfl a _ _ _ rfl rfl (sW.seq hs) (cV (i:=1) rfl rfl) (cI p q rfl fun r H2 o2 s2=> ?_))
 refine⟨(by show 1≤sizeLine;decide),fun L hL=> ?_⟩
 have sL:=aC.laid (o:= .lst [r]) hL
 have S:=sW.trans s2
 refine jp av W L ([1]) ([r]) ([Kd.kJ p q]) rfl (sL _ _ (s2 _ _ af)) af ⟨rfl,fun i v o h1 h2=> ?_⟩ rfl (by decide) (bZ (eC hav hW) (eC hav (S.free hL)) (fun x hx z=> ?_) fun v H5 o5 s5=>k v H5 o5 ((S.trans sL).trans s5))
 ·cases i with
  | zero=>cases h1;cases h2;exact o2.same sL
  | succ i=>cases i<;>cases h1
 ·cases z2:H x with
  | none=>exact hav x hx z2
  | some o=>rw [sL _ _ (S _ _ z2)] at z;cases z
def Cn (T:Tx K mg):Sp:=fun vs H Q _=>∃n p q:Int,vs= [.int n,.int p,.int q]∧Q (.bl (decide ((0≤n∧n≤20)∧(1≤q∧q≤100)∧(0≤p∧p≤q)))) H
theorem tq (T:Tx K mg):dM P w base T.n0 2 (Cn T):=by
 refine T.n0.okA B7 ?_
 rintro _ A _ s H _ Q E hr ⟨n,p,q,rfl,k⟩
 refine⟨_,(ae (aj (LN (bi T.bU (a7 T) hr (ab (pv 0) (ab am (ab (fh T.Fp) ad)))) (LN (bi T.bU (a7 T) hr (ab (pv 2) (ab am (ab (fh T.yh) ad)))) (Og (bi T.bU (a7 T) hr (ab (pv 1) (ab am (ab (pv 2) ad))))))))),?_⟩
 refine fy _ rfl n 0 (bB 20 rfl _ rfl (aX (fun h1=> ?_) (fun h1=> ?_)))
 ·have h1':=bj h1
  refine fy _ rfl q 1 (bB 100 rfl _ rfl (aX (fun h2=> ?_) (fun h2=> ?_)))
  ·have h2':=bj h2
   refine bH _ rfl (fy _ rfl p 0 (bH q rfl ?_))
   have e:decide ((0≤n∧n≤20)∧(1≤q∧q≤100)∧(0≤p∧p≤q))=decide (0≤p∧p≤q):=by
    by_cases c:0≤p∧p≤q
    ·rw [aE c,aE ⟨h1',h2',c⟩]
    ·rw [bq c,bq fun z=>c z.2.2]
   rw [e] at k
   exact k
  ·rw [bq fun z=>h2 (aE z.2.1)] at k
   exact k
 ·rw [bq fun z=>h1 (aE z.1)] at k
  exact k
open Vbdeab (Class Dist)
theorem wV {av:List Addr} {H H':Hp} (h:∀b∈av,H b≠none) (s:aC H H'):∀b∈av,H' b≠none:=fun b hb z=>by
 cases e:H b with
 | none=>exact h b hb e
 | some o=>rw [s _ _ e] at z;cases z
theorem Mm (n p q:Nat):(Kd.Iy n p q).length=n+1:=by unfold Kd.Iy;rw [aD,fm]
def uf (T:Tx K mg):Sp:=fun vs H Q _=>∃(av:List Addr) (a:Addr) (n p q:Int),vs= [.ref a]∧a4 K H a ([n,p,q].map V.int)∧(∀b∈av,H b≠none)∧∀(v:V) (H':Hp),ja T av H' v (checked (build 6 [n,p,q] []))→aC H H'→Q v H'
theorem BJ (T:Tx K mg):dM P w base T.jj 8 (uf T):=by
 refine T.jj.okA fw ?_
 rintro _ A _ s H _ Q E hr ⟨av,a,n,p,q,rfl,hs,hav,k⟩
 refine⟨_,(ac (aZ 1 fw.nd (ik (pv 0) am))
   (ac (aZ 2 fw.nd (ik (pv 0) am))
   (ac (aZ 3 fw.nd (ik (pv 0) am))
   (ac (aT (aV (aS (bi T.n0 (tq T) hr (ab (pv 1) (ab (pv 2) (ab (pv 3) ad)))))) (ae (aj cY)) aG)
   (ae (aj (bi T.fY (gX T) hr (ab am (ab (j4 (own:= [("i",4)]) rfl fw.nd (cq rfl T.di (ab (aB bY (pv 1) am) ad)) (cf (N:= ["numbers","n","p","q","i"]) (sc:=ag oj) (by decide+kernel)) (fun _ _ _ _ _=>(kT 4 fw.nd)) (fun _ _ _ _ _=>dQ) (fun _ _ _ _ _=>(aB aJ (aB aJ (bi T.CW (yE T) hr (ab (pv 1) (ab (pv 4) ad))) (bi T.rm (mr T) hr (ab (pv 2) (ab (pv 4) ad)))) (bi T.rm (mr T) hr (ab (aB b9 (pv 3) (pv 2)) (ab (aB b9 (pv 1) (pv 4)) ad)))))) ad))))))))),?_⟩
 rw [Kd.OY] at k
 refine bO _ rfl a _ _ _ rfl rfl hs (cV (i:=0) rfl rfl) ?_
 refine bO _ rfl a _ _ _ rfl rfl hs (cV (i:=1) rfl rfl) ?_
 refine bO _ rfl a _ _ _ rfl rfl hs (cV (i:=2) rfl rfl) ?_
 refine iW _ rfl _ rfl _ rfl n p q rfl (bH _ rfl (aX (fun h1=> ?_) (fun h1=> ?_)))
 ·rw [if_neg (oM h1)] at k
  exact k .non H rfl (aC.refl' H)
 ·have hc:=oN h1
  rw [if_pos hc] at k
  obtain⟨N,rfl⟩:∃N:Nat,n=(N:Int):=⟨n.toNat,by omega⟩
  obtain⟨p',rfl⟩:∃N:Nat,p=(N:Int):=⟨p.toNat,by omega⟩
  obtain⟨q',rfl⟩:∃N:Nat,q=(N:Int):=⟨q.toNat,by omega⟩
  simp only [cT] at k
  have eN:(N:Int)+1=((N+1:Nat):Int):=by omega
  refine lu _ rfl _ _ rfl rfl _ rfl (fe (by omega) (by omega) fun L hL=>gx (n:=((N:Int)+1).toNat) (fun i H'=>i≤N+1∧H' L=some (.lst (dH ((List.range i).map fun j=>Vbdeab.choose N j*p' ^ j*(q' - p') ^ (N - j))))∧aC H H') ⟨bn _,af,aC.laid hL⟩ ?_ ?_)
  ·rintro i H1 hi ⟨_,hL1,sm⟩
   have hi':i<N+1:=by omega
   have cz:Sz 101 ((Vbdeab.choose N i:Nat):Int):=eE (nY (lW N i) (CD (by decide) (by omega)))
   have pz:=(yI (show p'≤100 by omega) i).mono (n:=1000) (by omega)
   have qz:=(yI (show q' - p'≤100 by omega) (N - i)).mono (n:=1000) (by omega)
   refine⟨rfl,(eV _ rfl _ rfl N i (by rw [kj];rfl) (by omega) (dm (by omega) _ rfl (d9 _ rfl p' i (by rw [kj];rfl) (by omega) (by omega) (bP _ _ rfl rfl (bC cz pz) (eV _ rfl _ rfl _ _ rfl rfl (eV _ rfl _ rfl _ _ rfl rfl (jo (q' - p') (N - i) ?_ (by omega) (by omega) _ _ rfl rfl (dm (bC (cz.mul pz (k:=1101)) qz) _ hL1 (bZ (by rw [be,aD,fm];show i<2 ^ 24;omega) hi' ?_ fun b o e=> ?_)))))))))⟩
   ·show [V.int ((q':Int) - (p':Int)),V.int ((N:Int) - (0+(i:Int)))]++ []=_
    rw [kj,←r8 (by omega),←r8 (by omega)]
    rfl
   ·rw [af,iT,←gw,b7,b7]
   ·rw [ak (aw e hL)]
    exact sm b o e
  ·rintro H1 ⟨_,hL1,sm⟩
   rw [eN,cT] at hL1
   have hl:=Mm N p' q'
   refine jY av L 0 (Kd.Iy N p' q') rfl hL1 (by omega) (by omega) (fe (eC hav hL) (wV hav sm) fun v H5 o5 s5=> ?_)
   rw [hl] at o5
   exact k v H5 o5 (sm.trans s5)
theorem Mn (n p q:Nat):(Kd.Fk n p q).length=n+1:=by unfold Kd.Fk;rw [bX,aD,fm];rfl
def vB (T:Tx K mg):Sp:=fun vs H Q _=>∃(av:List Addr) (a:Addr) (n p q:Int),vs= [.ref a]∧a4 K H a ([n,p,q].map V.int)∧(∀b∈av,H b≠none)∧∀(v:V) (H':Hp),ja T av H' v (checked (build 7 [n,p,q] []))→aC H H'→Q v H'
theorem C8 (T:Tx K mg):dM P w base T.kM 8 (vB T):=by
 refine T.kM.okA fW ?_
 rintro _ A _ s H _ Q E hr ⟨av,a,n,p,q,rfl,hs,hav,k⟩
 refine⟨_,(ac (aZ 1 fW.nd (ik (pv 0) am))
   (ac (aZ 2 fW.nd (ik (pv 0) am))
   (ac (aZ 3 fW.nd (ik (pv 0) am))
   (ac (aT (aV (aS (bi T.n0 (tq T) hr (ab (pv 1) (ab (pv 2) (ab (pv 3) ad)))))) (ae (aj cY)) aG)
   (ac (tH (i:=5) (own:= [("i",4)]) rfl fW.nd rfl rfl (xY rfl rfl rfl rfl) (cq rfl T.di (ab (pv 1) ad)) (cf (N:= ["numbers","m","p","q","i","weights"]) (sc:=ag qB) (by decide+kernel)) (fun _ _ _ _ _=>(kT 4 fW.nd)) (fun _ _ _ _ _=>dQ) (fun _ _ _ _ _=>(aB aJ (aB aJ (pv 2) (bi T.rm (mr T) hr (ab (aB b9 (pv 3) (pv 2)) (ab (pv 4) ad)))) (bi T.rm (mr T) hr (ab (pv 3) (ab (aB b9 (aB b9 (pv 1) am) (pv 4)) ad))))))
   (ae (aj (bi T.fY (gX T) hr (ab am (ab (aB e9 (pv 5) (aI (ab (bi T.rm (mr T) hr (ab (aB b9 (pv 3) (pv 2)) (ab (pv 1) ad))) ad))) ad)))))))))),?_⟩
 rw [Kd.OZ] at k
 refine bO _ rfl a _ _ _ rfl rfl hs (cV (i:=0) rfl rfl) ?_
 refine bO _ rfl a _ _ _ rfl rfl hs (cV (i:=1) rfl rfl) ?_
 refine bO _ rfl a _ _ _ rfl rfl hs (cV (i:=2) rfl rfl) ?_
 refine iW _ rfl _ rfl _ rfl n p q rfl (bH _ rfl (aX (fun h1=> ?_) (fun h1=> ?_)))
 ·rw [if_neg (oM h1)] at k
  exact k .non H rfl (aC.refl' H)
 ·have hc:=oN h1
  rw [if_pos hc] at k
  obtain⟨N,rfl⟩:∃N:Nat,n=(N:Int):=⟨n.toNat,by omega⟩
  obtain⟨p',rfl⟩:∃N:Nat,p=(N:Int):=⟨p.toNat,by omega⟩
  obtain⟨q',rfl⟩:∃N:Nat,q=(N:Int):=⟨q.toNat,by omega⟩
  simp only [cT] at k
  have p7:Sz 7 (p':Int):=eE (nY (show p'≤100 by omega) (by decide))
  refine sC _ rfl _ rfl (by omega) (by omega) fun L hL=>gx (n:=(N:Int).toNat) (fun i H'=>i≤N∧H' L=some (.lst (dH ((List.range i).map fun j=>p'*(q' - p') ^ j*q' ^ (N - 1 - j))))∧aC H H') ⟨bn _,af,aC.laid hL⟩ ?_ ?_
  ·rintro i H1 hi ⟨_,hL1,sm⟩
   have hi':i<N:=by omega
   have pz:=(yI (show q' - p'≤100 by omega) i).mono (n:=1000) (by omega)
   have qz:=(yI (show q'≤100 by omega) (N - 1 - i)).mono (n:=1000) (by omega)
   refine dm rfl _ rfl (eV _ rfl _ rfl _ _ rfl rfl (d9 _ rfl (q' - p') i ?_ (by omega) (by omega) (bP _ _ rfl rfl (bC p7 pz) (eV _ rfl _ rfl _ _ rfl rfl (cv _ rfl _ _ rfl rfl (jo q' (N - 1 - i) ?_ (by omega) (by omega) _ _ rfl rfl (dm (bC (p7.mul pz (k:=1101)) qz) _ hL1 (bZ (by rw [be,aD,fm];show i<2 ^ 24;omega) hi' ?_ fun b o e=> ?_))))))))
   ·show [V.int ((q':Int) - (p':Int)),V.int (0+(i:Int))]++ []=_
    rw [kj,←r8 (by omega)]
    rfl
   ·show [V.int (q':Int),V.int ((N:Int) - 1 - (0+(i:Int)))]++ []=_
    rw [kj,show(N:Int) - 1 - (i:Int)=((N - 1 - i:Nat):Int) by omega]
    rfl
   ·rw [af,iT,←gw,b7,b7]
   ·rw [ak (aw e hL)]
    exact sm b o e
  ·rintro H1 ⟨_,hL1,sm⟩
   rw [cT] at hL1
   have hl:=Mn N p' q'
   refine bH _ rfl (eV _ rfl _ rfl _ _ rfl rfl (cv _ rfl (q' - p') N ?_ (by omega) (fe (by omega) (by show 1≤sizeLine;decide) fun M1 hM1=> ?_)))
   ·show [V.int ((q':Int) - (p':Int)),V.int (N:Int)]++ []=_
    rw [←r8 (by omega)]
    rfl
   have s1:=aC.laid (o:= .lst [V.int (((q' - p') ^ N:Nat):Int)]) hM1
   refine jZ L M1 _ _ rfl rfl (s1 _ _ hL1) af (by rw [be,aD,fm];show N+1≤2 ^ 24;omega) fun M2 hM2=> ?_
   rw [gw] at*
   have s2:=aC.laid (o:= .lst (dH (Kd.Fk N p' q'))) hM2
   refine jY av M2 0 (Kd.Fk N p' q') rfl af (by omega) (by omega) (fe (eC hav (sm.free (s1.free hM2))) (wV hav ((sm.trans s1).trans s2)) fun v H5 o5 s5=> ?_)
   rw [hl] at o5
   exact k v H5 o5 (((sm.trans s1).trans s2).trans s5)
theorem Mo (t k n:Nat):(Kd.IA t k n).length=n+1:=by unfold Kd.IA;rw [aD,fm]
def mM (T:Tx K mg):Sp:=fun vs H Q _=>∃(av:List Addr) (a:Addr) (n p q:Int),vs= [.ref a]∧a4 K H a ([n,p,q].map V.int)∧(∀b∈av,H b≠none)∧∀(v:V) (H':Hp),ja T av H' v (checked (build 8 [n,p,q] []))→aC H H'→Q v H'
theorem vU (T:Tx K mg):dM P w base T.eQ 8 (mM T):=by
 refine T.eQ.okA dC ?_
 rintro _ A _ s H _ Q E hr ⟨av,a,n,p,q,rfl,hs,hav,k⟩
 refine⟨_,(ac (aZ 1 dC.nd (ik (pv 0) am))
   (ac (aZ 2 dC.nd (ik (pv 0) am))
   (ac (aZ 3 dC.nd (ik (pv 0) am))
   (ac (aT (lh (h9 (aV (aS (bi T.bU (a7 T) hr (ab (pv 1) (ab am (ab (fh T.Du) ad)))))) (h9 (aV (aS (bi T.bU (a7 T) hr (ab (pv 2) (ab am (ab (pv 1) ad)))))) (ig (aV (aS (bi T.bU (a7 T) hr (ab (pv 3) (ab am (ab (pv 1) ad)))))))))) (ae (aj cY)) aG)
   (ae (aj (bi T.fY (gX T) hr (ab am (ab (j4 (own:= [("i",4)]) rfl dC.nd (cq rfl T.di (ab (aB bY (pv 3) am) ad)) (cf (N:= ["numbers","a","b","n","i"]) (sc:=ag jD) (by decide+kernel)) (fun _ _ _ _ _=>(kT 4 dC.nd)) (fun _ _ _ _ _=>dQ) (fun _ _ _ _ _=>(aB aJ (bi T.CW (yE T) hr (ab (pv 2) (ab (pv 4) ad))) (bi T.CW (yE T) hr (ab (aB b9 (pv 1) (pv 2)) (ab (aB b9 (pv 3) (pv 4)) ad)))))) ad))))))))),?_⟩
 rw [Kd.O0] at k
 have bad:¬((0≤n∧n≤60)∧(0≤p∧p≤n)∧(0≤q∧q≤n))→Q .non H:=fun z=>by
  rw [if_neg z] at k
  exact k .non H rfl (aC.refl' H)
 refine bO _ rfl a _ _ _ rfl rfl hs (cV (i:=0) rfl rfl) ?_
 refine bO _ rfl a _ _ _ rfl rfl hs (cV (i:=1) rfl rfl) ?_
 refine bO _ rfl a _ _ _ rfl rfl hs (cV (i:=2) rfl rfl) ?_
 refine fy _ rfl n 0 (bB 60 rfl _ rfl (aX (fun h1=>jx (bad fun z=>oM h1 z.1)) (fun h1=> ?_)))
 refine bH _ rfl (fy _ rfl p 0 (bB n rfl _ rfl (aX (fun h2=>jx (bad fun z=>oM h2 z.2.1)) (fun h2=> ?_))))
 refine bH _ rfl (fy _ rfl q 0 (bB n rfl _ rfl (aX (fun h3=>bad fun z=>oM h3 z.2.2) (fun h3=> ?_))))
 have hc:(0≤n∧n≤60)∧(0≤p∧p≤n)∧(0≤q∧q≤n):=⟨oN h1,oN h2,oN h3⟩
 rw [if_pos hc] at k
 obtain⟨N,rfl⟩:∃N:Nat,n=(N:Int):=⟨n.toNat,by omega⟩
 obtain⟨p',rfl⟩:∃N:Nat,p=(N:Int):=⟨p.toNat,by omega⟩
 obtain⟨q',rfl⟩:∃N:Nat,q=(N:Int):=⟨q.toNat,by omega⟩
 simp only [cT] at k
 have eN:(q':Int)+1=((q'+1:Nat):Int):=by omega
 refine lu _ rfl _ _ rfl rfl _ rfl (fe (by omega) (by omega) fun L hL=>gx (n:=((q':Int)+1).toNat) (fun i H'=>i≤q'+1∧H' L=some (.lst (dH ((List.range i).map fun j=>Vbdeab.choose p' j*Vbdeab.choose (N - p') (q' - j))))∧aC H H') ⟨bn _,af,aC.laid hL⟩ ?_ ?_)
 ·rintro i H1 hi ⟨_,hL1,sm⟩
  have hi':i<q'+1:=by omega
  have cz:Sz 101 ((Vbdeab.choose p' i:Nat):Int):=eE (nY (lW p' i) (CD (by decide) (by omega)))
  have cz2:Sz 101 ((Vbdeab.choose (N - p') (q' - i):Nat):Int):=eE (nY (lW (N - p') (q' - i)) (CD (by decide) (by omega)))
  refine dm rfl _ rfl (d9 _ rfl p' i (by rw [kj];rfl) (by omega) (by omega) (eV _ rfl _ rfl _ _ rfl rfl (eV _ rfl _ rfl _ _ rfl rfl (jo (N - p') (q' - i) ?_ (by omega) (by omega) _ _ rfl rfl (dm (bC cz cz2) _ hL1 (bZ (by rw [be,aD,fm];show i<2 ^ 24;omega) hi' ?_ fun b o e=> ?_))))))
  ·show [V.int ((N:Int) - (p':Int)),V.int ((q':Int) - (0+(i:Int)))]++ []=_
   rw [kj,←r8 (by omega),←r8 (by omega)]
   rfl
  ·rw [af,iT,←gw,b7]
  ·rw [ak (aw e hL)]
   exact sm b o e
 ·rintro H1 ⟨_,hL1,sm⟩
  rw [eN,cT] at hL1
  have hl:=Mo N p' q'
  refine jY av L 0 (Kd.IA N p' q') rfl hL1 (by omega) (by omega) (fe (eC hav hL) (wV hav sm) fun v H5 o5 s5=> ?_)
  rw [hl] at o5
  exact k v H5 o5 (sm.trans s5)
def GI (l:List Nat) (s i t k:Nat):Nat:=(Vbdeab.spread (l.take i) s).getD k 0+if i≤k∧k<i+t then l.getD i 0 else 0
def GL (l:List Nat) (s i t:Nat):List Nat:=(List.range (l.length+s - 1)).map (GI l s i t)
theorem pM (l:List Nat) (s i t:Nat):(GL l s i t).length=l.length+s - 1:=by unfold GL;rw [aD,fm]
theorem Be {l:List Nat} {s i t k:Nat} (h:k<l.length+s - 1):(GL l s i t)[k]?=some (GI l s i t k):=by unfold GL;rw [dn,Hf h];rfl
theorem KS (l:List Nat) (s:Nat):GL l s 0 0=List.replicate (l.length+s - 1) 0:=by
 refine List.ext_getElem (by rw [pM,JB]) fun k h1 h2=> ?_
 have z:=Be (l:=l) (s:=s) (i:=0) (t:=0) (k:=k) (by rw [pM] at h1;exact h1)
 rw [bF h1] at z
 rw [bE z,List.getElem_replicate]
 unfold GI
 rw [List.take_zero,Kd.Cv,if_neg (by omega)]
theorem NK {l:List Nat} {s i:Nat} (hi:i<l.length):GL l s i s=GL l s (i+1) 0:=by
 unfold GL
 refine nX fun k _=> ?_
 unfold GI
 rw [Kd.GP l s i k hi,if_neg (show ¬(i+1≤k∧k<i+1+0) by omega),lP]
theorem Mv {l:List Nat} {s i t:Nat} (hi:i<l.length) (ht:t<s):(GL l s i t).set (i+t) (GI l s i t (i+t)+l.getD i 0)=GL l s i (t+1):=by
 refine List.ext_getElem (by rw [r9,pM,pM]) fun k h1 h2=> ?_
 rw [r9,pM] at h1
 have z:=Be (l:=l) (s:=s) (i:=i) (t:=t) (k:=k) h1
 have z2:=Be (l:=l) (s:=s) (i:=i) (t:=t+1) (k:=k) h1
 rw [bF h2] at z2
 rw [bE z2,List.getElem_set]
 by_cases q:i+t=k
 ·subst q
  rw [if_pos rfl]
  unfold GI
  rw [if_neg (by omega),if_pos (by omega),lP]
 ·rw [if_neg q]
  rw [bF (by rw [pM];exact h1)] at z
  rw [bE z]
  unfold GI
  by_cases c:i≤k∧k<i+t
  ·rw [if_pos c,if_pos (by omega)]
  ·rw [if_neg c,if_neg (by omega)]
theorem NJ {l:List Nat} {s:Nat} (hl:0<l.length):GL l (s+1) l.length 0=Vbdeab.spread l (s+1):=by
 refine Kd.C7 (by rw [pM,Cb.spread_len hl];omega) fun k hk=> ?_
 rw [pM] at hk
 rw [eX,Be hk]
 show GI l (s+1) l.length 0 k=_
 unfold GI
 rw [jP,if_neg (by omega),lP]
def qX (T:Tx K mg):Sp:=fun vs H Q _=>∃(a:Addr) (l:List Nat) (s:Nat),vs= [.ref a,.int (s+1:Nat)]∧a4 K H a (dH l)∧0<l.length∧l.length≤1000∧s≤100∧∀(p:Addr) (H':Hp),H' p=some (.lst (dH (Vbdeab.spread l (s+1))))→aC H H'→H p=none→Q (.ref p) H'
theorem qt (T:Tx K mg):dM P w base T.iy 1 (qX T):=by
 refine T.iy.okA d8 ?_
 rintro _ A _ s H _ Q E hr ⟨a,l,s,rfl,hs,hl0,hl,hs1,k⟩
 refine⟨_,(ac (aZ 2 d8.nd (aB LJ (aI (ab am ad)) (aB b9 (aB bY (a8 aW (by rfl) T.gu eh (ab (pv 0) ad)) (pv 1)) am)))
   (ac (d7 cJ rfl (cq rfl T.di (ab (a8 aW (by rfl) T.gu eh (ab (pv 0) ad)) ad)) (kT 3 d8.nd) (ae (d7 cJ rfl (cq rfl T.di (ab (pv 1) ad)) (kT 4 d8.nd) (ae (M7 (pv 2) (aB bY (pv 3) (pv 4)) Li (ik (pv 0) (pv 3)) ml iF)))))
   (ae (aj (pv 2))))),?_⟩
 refine⟨(by show 1≤sizeLine;decide),fun Z hZ=> ?_⟩
 have sZ:=aC.laid (o:= .lst [V.int 0]) hZ
 have eL:(((dH l).length:Nat):Int)+((s+1:Nat):Int) - 1=((l.length+s:Nat):Int):=by rw [be];omega
 refine cv _ rfl a _ rfl (.inl (sZ.seq hs)) (cv _ rfl _ _ rfl rfl (bT _ _ rfl rfl (bW Z _ _ rfl rfl af (bZ ?_ ?_ ?_ fun R hR=> ?_))))
 ·rw [eL];omega
 ·rw [eL];omega
 ·rw [eL,cT]
  show 1*(l.length+s)≤2 ^ 24
  omega
 have erep:(List.replicate ((((dH l).length:Nat):Int)+((s+1:Nat):Int) - 1).toNat [V.int 0]).flatten=dH (GL l (s+1) 0 0):=by
  rw [eL,cT,KS,show l.length+(s+1) - 1=l.length+s by omega]
  generalize l.length+s=m
  induction m with
  | zero=>rfl
  | succ m ih=>rw [CQ,He,ih,CQ];rfl
 rw [erep] at*
 have sR:=sZ.trans (aC.laid (o:= .lst (dH (GL l (s+1) 0 0))) hR)
 have nR:H R=none:=sZ.free hR
 refine lu _ rfl a _ rfl (.inl (sR.seq hs)) _ rfl (fe (by omega) (by rw [be];omega) (gU (n:=(((dH l).length:Nat):Int).toNat) (fun i σ H'=>i≤l.length∧∃v1 v2:Option V,σ= [some (.ref a),some (.int (s+1:Nat)),some (.ref R),v1,v2]∧H' R=some (.lst (dH (GL l (s+1) i 0)))∧aC H H') ⟨bn _,(bT none none rfl af sR)⟩ ?_ ?_))
 ·rintro i σ H1 hi ⟨_,v1,v2,rfl,hR1,s1⟩
  rw [cT,be] at hi
  refine sC _ rfl _ rfl (by omega) (by omega) (gU (n:=((s+1:Nat):Int).toNat) (fun t σ H'=>t≤s+1∧∃v2:Option V,σ= [some (.ref a),some (.int (s+1:Nat)),some (.ref R),some (.int (0+(i:Int))),v2]∧H' R=some (.lst (dH (GL l (s+1) i t)))∧aC H H') (mN (bn _) _ rfl hR1 s1) ?_ ?_)
  ·rintro t σ H2 ht ⟨_,v2,rfl,hR2,s2⟩
   rw [cT] at ht
   have hk:i+t<l.length+(s+1) - 1:=by omega
   have gl:=bF hi
   have gd:l.getD i 0=l[i]:=by rw [eX,gl];rfl
   refine bH _ rfl (eV _ rfl _ rfl _ _ rfl rfl (iG R _ _ (i+t) _ rfl rfl (a4.of hR2) (by omega) (Ez (Be hk)) (bH _ rfl (fg _ rfl a _ _ _ rfl rfl (s2.seq hs) (ve (j:=i) (kj _) (Ez gl)) _ _ rfl rfl (jY R _ _ (i+t) rfl rfl hR2 ?_ (mN (by omega) _ rfl ?_ fun b o e=> ?_))))))
   ·unfold Mu
    rw [if_pos (by omega),if_pos (by rw [be,pM];omega)]
    congr 1
    omega
   ·rw [af,←Mv hi (by omega),gd]
    unfold dH nats
    rw [yc,yc]
    rfl
   ·rw [ak (aw e nR)]
    exact s2 b o e
  ·rintro σ H2 ⟨_,v2,rfl,hR2,s2⟩
   rw [cT,NK hi] at hR2
   exact⟨hi,(bT _ _ rfl hR2 s2)⟩
 ·rintro σ H1 ⟨_,v1,v2,rfl,hR1,s1⟩
  rw [cT,be,NJ hl0] at hR1
  exact⟨_,rfl,k R H1 hR1 s1 nR⟩
def Ec (T:Tx K mg):Sp:=fun vs H Q _=>∃(av:List Addr) (a:Addr) (n q:Int),vs= [.ref a]∧a4 K H a ([n,q].map V.int)∧(∀b∈av,H b≠none)∧∀(v:V) (H':Hp),ja T av H' v (checked (build 9 [n,q] []))→aC H H'→Q v H'
theorem Ke (T:Tx K mg):dM P w base T.zC 8 (Ec T):=by
 refine T.zC.okA lZ ?_
 rintro _ A _ s H _ Q E hr ⟨av,a,n,q,rfl,hs,hav,k⟩
 refine⟨_,(ac (aZ 1 lZ.nd (ik (pv 0) am))
   (ac (aZ 2 lZ.nd (ik (pv 0) am))
   (ac (aT (lh (h9 (aV (aS (bi T.bU (a7 T) hr (ab (pv 1) (ab am (ab (fh T.Hk) ad)))))) (ig (aV (aS (bi T.bU (a7 T) hr (ab (pv 2) (ab am (ab (fh T.Fn) ad))))))))) (ae (aj cY)) aG)
   (ac (aZ 3 lZ.nd (aI (ab am ad)))
   (ac (d7 cJ rfl (cq rfl T.di (ab (pv 1) ad)) (kT 4 lZ.nd) (ae (aZ 3 lZ.nd (bi T.iy (qt T) hr (ab (pv 3) (ab (pv 2) ad))))))
   (ae (aj (bi T.fY (gX T) hr (ab (pv 1) (ab (pv 3) ad)))))))))),?_⟩
 rw [Kd.O1] at k
 have bad:¬((0≤n∧n≤6)∧(1≤q∧q≤10))→Q .non H:=fun z=>by
  rw [if_neg z] at k
  exact k .non H rfl (aC.refl' H)
 refine bO _ rfl a _ _ _ rfl rfl hs (cV (i:=0) rfl rfl) ?_
 refine bO _ rfl a _ _ _ rfl rfl hs (cV (i:=1) rfl rfl) ?_
 refine fy _ rfl n 0 (bB 6 rfl _ rfl (aX (fun h1=>jx (bad fun z=>oM h1 z.1)) (fun h1=> ?_)))
 refine fy _ rfl q 1 (bB 10 rfl _ rfl (aX (fun h2=>bad fun z=>oM h2 z.2) (fun h2=> ?_)))
 have hc:(0≤n∧n≤6)∧(1≤q∧q≤10):=⟨oN h1,oN h2⟩
 rw [if_pos hc] at k
 obtain⟨N,rfl⟩:∃N:Nat,n=(N:Int):=⟨n.toNat,by omega⟩
 obtain⟨m,rfl⟩:∃m:Nat,q=((m+1:Nat):Int):=⟨q.toNat - 1,by omega⟩
 simp only [cT] at k
 refine⟨(by show 1≤sizeLine;decide),fun Z hZ=> ?_⟩
 have sZ:=aC.laid (o:= .lst [V.int 1]) hZ
 have tlen:∀i,(Vbdeab.throws (m+1) i).length=i*m+1:=fun i=>Cb.throws_len m i
 refine sC _ rfl _ rfl (by omega) (by omega) (gU (n:=(N:Int).toNat) (fun i σ H'=>i≤N∧∃(v1:Option V) (L:Addr),σ= [some (.ref a),some (.int N),some (.int (m+1:Nat)),some (.ref L),v1]∧H' L=some (.lst (dH (Vbdeab.throws (m+1) i)))∧H L=none∧aC H H') ⟨bn _,(bP none Z rfl (by rw [af,Cb.throws_zero];rfl) hZ sZ)⟩ ?_ ?_)
 ·rintro i σ H1 hi ⟨_,v1,L,rfl,hL1,nL,s1⟩
  rw [cT] at hi
  have hb:i*m≤6*9:=Nat.mul_le_mul (by omega) (by omega)
  refine bH _ rfl (cM _ rfl L _ m rfl (a4.of hL1) (by rw [tlen];omega) (fe (by rw [tlen];omega) (by omega) fun L2 H2 hL2 s2 n2=> ?_))
  exact⟨hi,(bP _ L2 rfl (by rw [hL2,Cb.throws_succ]) (s1.free n2) (s1.trans s2))⟩
 ·rintro σ H1 ⟨_,v1,L,rfl,hL1,nL,s1⟩
  rw [cT] at hL1
  have hb:N*m≤6*9:=Nat.mul_le_mul (by omega) (by omega)
  refine pF _ rfl _ rfl av L N _ rfl hL1 (by omega) (by rw [tlen];omega) (eC hav nL) ⟨wV hav s1,(fun v H5 o5 s5=>k v H5 o5 (s1.trans s5))⟩
open Vbdeab (Class Dist)
theorem kn {b:List Int} {j:Nat}:∀q,Kd.aU b j=some q→jb q:=fun q h=>nh h
theorem J7 (f:Nat→Option Class) (i:Nat):(List.range (i+1)).map f=(List.range i).map f++ [f i]:=iT f i
theorem qK {T:Tx K mg} {H1 H4:Hp} {L:Addr} {acc:List V} {f:Nat→Option Class} {i:Nat} {r:V} (hA:H1 L=some (.lst acc)) (hO:jk T H1 acc ((List.range i).map f)) (hi:i≤8000) (ho:Ek T H4 r (f i)) (s4:aC H1 H4):
  H4 L=some (.lst acc)∧acc.length<sizeLine∧jk T (bR H4 L (.lst (acc++ [r]))) (acc++ [r]) ((List.range (i+1)).map f):=by
 have hA4:=s4 _ _ hA
 refine⟨hA4,?_,?_⟩
 ·rw [hO.1,aD,fm]
  show i<2 ^ 24
  omega
 ·rw [J7]
  exact((hO.si (aC.i s4)).snoc ho).si (hX.lst hA4)
theorem jk.nil (T:Tx K mg) (H:Hp):jk T H [] []:=⟨rfl,fun i v o h _=>by cases i<;>cases h⟩
def xO (T:Tx K mg) (per beyond:Nat) (f:List Int→Nat→Option Class):Sp:=fun vs H Q _=>∃(a:Addr) (b:List Int) (n:Nat),vs= [.int n,.ref a]∧a4 K H a (b.map V.int)∧j2 b∧b.length=per*n+beyond∧n≤8000∧∀(p:Addr) (H':Hp) (ss:List V),H' p=some (.lst ss)→jk T H' ss ((List.range n).map (f b))→aC H H'→H p=none→Q (.ref p) H'
def Aa (T:Tx K mg):Sp:=xO T 2 0 (fun b i=>Kd.tE (Kd.aU b (2*i)))
theorem Gb (T:Tx K mg):dM P w base T.pK 7 (Aa T):=by
 refine T.pK.okA tW ?_
 rintro _ A _ s H _ Q E hr ⟨a,b,n,rfl,hs,hz,hl,hn,k⟩
 refine⟨_,(ae (aj (j4 (own:= [("i",2)]) rfl tW.nd (cq rfl T.di (ab (pv 0) ad)) (cf (N:= ["many","numbers","i"]) (sc:=ag v6) (by decide+kernel)) (fun _ _ _ _ _=>(kT 2 tW.nd)) (fun _ _ _ _ _=>dQ) (fun _ _ _ _ _=>(bi T.yg (vV T) hr (ab (bi T.i7 (iC T) hr (ab (pv 1) (ab (aB aJ am (pv 2)) ad))) ad)))))),?_⟩
 refine sC _ rfl _ rfl (by omega) (by omega) fun L hL=>gx (n:=(n:Int).toNat) (fun i H'=>∃acc,H' L=some (.lst acc)∧jk T H' acc ((List.range i).map fun i=>Kd.tE (Kd.aU b (2*i)))∧aC H H') (cZ ([]) af (jk.nil _ _) (aC.laid hL)) ?_ ?_
 ·rintro i H1 hi ⟨acc,hA,hO,sm⟩
  rw [cT] at hi
  have ei:(2:Int)*(0+(i:Int))=((2*i:Nat):Int):=by omega
  refine dm rfl _ rfl (d9 _ rfl _ _ rfl rfl (bC (show Sz 2 2 by decide) (show Sz 20 (0+(i:Int)) by show(_:Int).natAbs<_;omega)) (iY a b (2*i) ?_ (sm.seq hs) hz (by omega) fun v H2 o2 s2=> ?_))
  ·show [V.ref a,V.int (2*(0+(i:Int)))]++ []=_
   rw [ei]
   rfl
  refine bP v _ rfl o2 kn fun r H3 o3 s3=> ?_
  obtain⟨e1,e2,e3⟩:=qK hA hO (by omega) o3 (s2.trans s3)
  exact bH acc e1 (mN e2 _ af e3 fun q o e=>by rw [ak (aw e hL)];exact s3 _ _ (s2 _ _ (sm _ _ e)))
 ·rintro H1 ⟨acc,hA,hO,sm⟩
  rw [cT] at hO
  exact k L H1 acc hA hO sm hL
def nQ (T:Tx K mg):Sp:=xO T 2 2 (fun b i=>Kd.j3 (Kd.aU b (2*i)) (Kd.aU b (2*i+2)))
theorem xk (T:Tx K mg):dM P w base T.fD 6 (nQ T):=by
 refine T.fD.okA jJ ?_
 rintro _ A _ s H _ Q E hr ⟨a,b,n,rfl,hs,hz,hl,hn,k⟩
 refine⟨_,(ae (aj (j4 (own:= [("i",2)]) rfl jJ.nd (cq rfl T.di (ab (pv 0) ad)) (cf (N:= ["many","numbers","i"]) (sc:=ag kD) (by decide+kernel)) (fun _ _ _ _ _=>(kT 2 jJ.nd)) (fun _ _ _ _ _=>dQ) (fun _ _ _ _ _=>(bi T.pJ (qp T) hr (ab (bi T.i7 (iC T) hr (ab (pv 1) (ab (aB aJ am (pv 2)) ad))) (ab (bi T.i7 (iC T) hr (ab (pv 1) (ab (aB bY (aB aJ am (pv 2)) am) ad))) ad))))))),?_⟩
 refine sC _ rfl _ rfl (by omega) (by omega) fun L hL=>gx (n:=(n:Int).toNat) (fun i H'=>∃acc,H' L=some (.lst acc)∧jk T H' acc ((List.range i).map fun i=>Kd.j3 (Kd.aU b (2*i)) (Kd.aU b (2*i+2)))∧aC H H') (cZ ([]) af (jk.nil _ _) (aC.laid hL)) ?_ ?_
 ·rintro i H1 hi ⟨acc,hA,hO,sm⟩
  rw [cT] at hi
  have ei:(2:Int)*(0+(i:Int))=((2*i:Nat):Int):=by omega
  have iz:Sz 20 (0+(i:Int)):=by show(_:Int).natAbs<_;omega
  refine dm rfl _ rfl (d9 _ rfl _ _ rfl rfl (bC (show Sz 2 2 by decide) iz) (iY a b (2*i) ?_ (sm.seq hs) hz (by omega) fun v H2 o2 s2=> ?_))
  ·show [V.ref a,V.int (2*(0+(i:Int)))]++ []=_
   rw [ei]
   rfl
  refine bB _ rfl _ rfl (jo _ _ rfl rfl (bC (show Sz 2 2 by decide) iz) _ _ rfl rfl (iY a b (2*i+2) ?_ (s2.seq (sm.seq hs)) hz (by omega) fun v2 H3 o3 s3=> ?_))
  ·show [V.ref a,V.int (2*(0+(i:Int))+2)]++ []=_
   rw [ei]
   rfl
  refine jZ v v2 _ _ rfl (o2.same s3) o3 kn kn fun r H4 o4 s4=> ?_
  obtain⟨e1,e2,e3⟩:=qK (f:=fun i=>Kd.j3 (Kd.aU b (2*i)) (Kd.aU b (2*i+2))) hA hO (by omega) o4 ((s2.trans s3).trans s4)
  exact bH acc e1 (mN e2 _ af e3 fun q o e=>by rw [ak (aw e hL)];exact s4 _ _ (s3 _ _ (s2 _ _ (sm _ _ e))))
 ·rintro H1 ⟨acc,hA,hO,sm⟩
  rw [cT] at hO
  exact k L H1 acc hA hO sm hL
def pB (T:Tx K mg):Sp:=xO T 2 0 (fun b i=>Kd.kJ (b.getD (2*i) 0) (b.getD (2*i+1) 0))
theorem yF (T:Tx K mg):dM P w base T.f8 7 (pB T):=by
 refine T.f8.okA kH ?_
 rintro _ A _ s H _ Q E hr ⟨a,b,n,rfl,hs,hz,hl,hn,k⟩
 refine⟨_,(ae (aj (j4 (own:= [("i",2)]) rfl kH.nd (cq rfl T.di (ab (pv 0) ad)) (cf (N:= ["many","numbers","i"]) (sc:=ag lD) (by decide+kernel)) (fun _ _ _ _ _=>(kT 2 kH.nd)) (fun _ _ _ _ _=>dQ) (fun _ _ _ _ _=>(bi T.lV (rJ T) hr (ab (Gf (w9 (K':=K) rfl) (pv 1) (aB aJ am (pv 2)) (fun _ _=>rfl)) (ab (Gf (w9 (K':=K) rfl) (pv 1) (aB bY (aB aJ am (pv 2)) am) (fun _ _=>rfl)) ad))))))),?_⟩
 refine sC _ rfl _ rfl (by omega) (by omega) fun L hL=>gx (n:=(n:Int).toNat) (fun i H'=>∃acc,H' L=some (.lst acc)∧jk T H' acc ((List.range i).map fun i=>Kd.kJ (b.getD (2*i) 0) (b.getD (2*i+1) 0))∧aC H H') (cZ ([]) af (jk.nil _ _) (aC.laid hL)) ?_ ?_
 ·rintro i H1 hi ⟨acc,hA,hO,sm⟩
  rw [cT] at hi
  have iz:Sz 20 (0+(i:Int)):=by show(_:Int).natAbs<_;omega
  refine dm rfl _ rfl (d9 _ rfl _ _ rfl rfl (bC (show Sz 2 2 by decide) iz) (jY a _ _ _ rfl rfl (sm.seq hs) (cV (i:=2*i) (by omega) (pV (by omega))) (bB _ rfl _ rfl (jo _ _ rfl rfl (bC (show Sz 2 2 by decide) iz) _ _ rfl rfl (jY a _ _ _ rfl rfl (sm.seq hs) (cV (i:=2*i+1) (by omega) (pV (by omega))) (cI _ _ rfl fun r H4 o4 s4=> ?_))))))
  obtain⟨e1,e2,e3⟩:=qK (f:=fun i=>Kd.kJ (b.getD (2*i) 0) (b.getD (2*i+1) 0)) hA hO (by omega) o4 s4
  exact bH acc e1 (mN e2 _ af e3 fun q o e=>by rw [ak (aw e hL)];exact s4 _ _ (sm _ _ e))
 ·rintro H1 ⟨acc,hA,hO,sm⟩
  rw [cT] at hO
  exact k L H1 acc hA hO sm hL
def AR (T:Tx K mg):Sp:=fun vs H Q _=>∃(a:Addr) (b:List Int),vs= [.ref a]∧a4 K H a (b.map V.int)∧j2 b∧b.length=6∧∀(r:V) (H':Hp),Ek T H' r (Kd.qY b 0)→aC H H'→Q r H'
theorem Ay (T:Tx K mg):dM P w base T.rA 6 (AR T):=by
 refine T.rA.okA lE ?_
 rintro _ A _ s H _ Q E hr ⟨a,b,rfl,hs,hz,hl,k⟩
 refine⟨_,(ac (aZ 1 lE.nd (bi T.i7 (iC T) hr (ab (pv 0) (ab am ad))))
   (ac (aZ 2 lE.nd (bi T.i7 (iC T) hr (ab (pv 0) (ab am ad))))
   (ac (aT (lh (Ol (aR rK (ik (pv 0) am) am (aY _)) (M8 (aR rK (ik (pv 0) am) am (aY _))))) (ae (aj (bi T.pJ (qp T) hr (ab (pv 1) (ab (pv 2) ad))))) aG)
   (ac (aT (aR rK (ik (pv 0) am) am (aY _)) (ae (aj (bi T.l9 (lS T) hr (ab (pv 1) (ab (pv 2) (ab (ik (pv 0) am) ad)))))) aG)
   (ae (aj cY)))))),?_⟩
 refine bH _ rfl (iY a b 1 rfl hs hz (by omega) fun v1 H1 o1 s1=> ?_)
 refine bH _ rfl (iY a b 3 rfl (s1.seq hs) hz (by omega) fun v2 H2 o2 s2=> ?_)
 have S:=s1.trans s2
 have hs2:=S.seq hs
 have ek:Kd.qY b 0=if b.getD 0 0=0∧b.getD 5 0=0 then Kd.j3 (Kd.aU b 1) (Kd.aU b 3) else if b.getD 0 0=1 then Kd.m9 (Kd.aU b 1) (Kd.aU b 3) (b.getD 5 0) else none:=rfl
 rw [ek] at k
 have second:¬(b.getD 0 0=0∧b.getD 5 0=0)→∀D:Fv,D.rt=Q→D.nx=(fun _ H'=>Q .non H')→(if b.getD 0 0=1 then Kd.m9 (Kd.aU b 1) (Kd.aU b 3) (b.getD 5 0) else none)=(if b.getD 0 0=0∧b.getD 5 0=0 then Kd.j3 (Kd.aU b 1) (Kd.aU b 3) else if b.getD 0 0=1 then Kd.m9 (Kd.aU b 1) (Kd.aU b 3) (b.getD 5 0) else none):=fun q _ _ _=>by rw [if_neg q]
 have k2:¬(b.getD 0 0=0∧b.getD 5 0=0)→∀(r:V) (H':Hp),Ek T H' r (if b.getD 0 0=1 then Kd.m9 (Kd.aU b 1) (Kd.aU b 3) (b.getD 5 0) else none)→aC H H'→Q r H':=fun q=>by
  rw [if_neg q] at k
  exact k
 refine bO _ rfl a _ _ _ rfl rfl hs2 (cV (i:=0) rfl (pV (by omega))) (dm rfl _ rfl (aX (fun h1=> ?_) (fun h1=> ?_)))
 ·have h1':b.getD 0 0=0:=V.int.inj (bj h1)
  refine bO _ rfl a _ _ _ rfl rfl hs2 (cV (i:=5) rfl (pV (by omega))) (dm rfl _ rfl (aX (fun h2=> ?_) (fun h2=> ?_)))
  ·have h2':b.getD 5 0=0:=V.int.inj (bj h2)
   rw [if_pos ⟨h1',h2'⟩] at k
   exact pF _ rfl _ rfl v1 v2 _ _ rfl (o1.same s2) o2 kn kn fun r H3 o3 s3=>k r H3 o3 (S.trans s3)
  ·have h2':¬b.getD 5 0=0:=fun q=>h2 (aE (cx V.int q))
   have k3:=k2 fun q=>h2' q.2
   refine bO _ rfl a _ _ _ rfl rfl hs2 (cV (i:=0) rfl (pV (by omega))) (dm rfl _ rfl (aX (fun h3=> ?_) (fun h3=> ?_)))
   ·have h3':b.getD 0 0=1:=V.int.inj (bj h3)
    rw [h1'] at h3'
    cases h3'
   ·have h3':¬b.getD 0 0=1:=fun q=>h3 (aE (cx V.int q))
    rw [if_neg h3'] at k3
    exact k3 .non H2 rfl S
 ·have h1':¬b.getD 0 0=0:=fun q=>h1 (aE (cx V.int q))
  have k3:=k2 fun q=>h1' q.1
  refine bO _ rfl a _ _ _ rfl rfl hs2 (cV (i:=0) rfl (pV (by omega))) (dm rfl _ rfl (aX (fun h3=> ?_) (fun h3=> ?_)))
  ·have h3':b.getD 0 0=1:=V.int.inj (bj h3)
   rw [if_pos h3'] at k3
   exact bB _ rfl _ rfl (bO _ rfl a _ _ _ rfl rfl hs2 (cV (i:=5) rfl (pV (by omega))) (iG v1 v2 _ _ _ rfl (o1.same s2) o2 kn kn fun r H3 o3 s3=>k3 r H3 o3 (S.trans s3)))
  ·have h3':¬b.getD 0 0=1:=fun q=>h3 (aE (cx V.int q))
   rw [if_neg h3'] at k3
   exact k3 .non H2 rfl S
theorem K7 {xs:List V} {i n:Nat} {k j:Int} (ek:k=(i:Int)) (ej:j=((i+n:Nat):Int)) (h:i+n≤xs.length):uW xs (some k) (some j)=(xs.drop i).take n:=by
 subst ek ej
 unfold uW HT.sIx
 simp only [cT]
 rw [if_neg (by omega),if_neg (by omega),wB (show i≤xs.length by omega),wB h]
 congr 1
 omega
theorem oG (b:List Int) (i n j:Nat) (h:j<n):((b.drop i).take n).getD j 0=b.getD (i+j) 0:=by
 rw [eX,eX,List.getElem?_take,if_pos h,List.getElem?_drop]
theorem Iu (b:List Int) (i:Nat):Kd.qY ((b.drop i).take 6) 0=Kd.qY b i:=by
 unfold Kd.qY Kd.aU
 rw [oG b i 6 0 (by decide),oG b i 6 5 (by decide),oG b i 6 1 (by decide),oG b i 6 2 (by decide),oG b i 6 3 (by decide),oG b i 6 4 (by decide)]
 rfl
theorem j2.cut {b:List Int} (h:j2 b) (i n:Nat):j2 ((b.drop i).take n):=fun x hx=>h x (List.mem_of_mem_drop (List.mem_of_mem_take hx))
def pA (T:Tx K mg):Sp:=xO T 6 0 (fun b i=>Kd.qY b (6*i))
theorem yD (T:Tx K mg):dM P w base T.fZ 7 (pA T):=by
 refine T.fZ.okA kG ?_
 rintro _ A _ s H _ Q E hr ⟨a,b,n,rfl,hs,hz,hl,hn,k⟩
 refine⟨_,(ae (aj (j4 (own:= [("i",2)]) rfl kG.nd (cq rfl T.di (ab (pv 0) ad)) (cf (N:= ["many","numbers","i"]) (sc:=ag lC) (by decide+kernel)) (fun _ _ _ _ _=>(kT 2 kG.nd)) (fun _ _ _ _ _=>dQ) (fun _ _ _ _ _=>(bi T.rA (Ay T) hr (ab (xu (L5 (K':=K) rfl) (pv 1) (qy (aB aJ am (pv 2))) (qy (aB bY (aB aJ am (pv 2)) am))) ad)))))),?_⟩
 refine sC _ rfl _ rfl (by omega) (by omega) fun L hL=>gx (n:=(n:Int).toNat) (fun i H'=>∃acc,H' L=some (.lst acc)∧jk T H' acc ((List.range i).map fun i=>Kd.qY b (6*i))∧aC H H') (cZ ([]) af (jk.nil _ _) (aC.laid hL)) ?_ ?_
 ·rintro i H1 hi ⟨acc,hA,hO,sm⟩
  rw [cT] at hi
  have iz:Sz 20 (0+(i:Int)):=by show(_:Int).natAbs<_;omega
  refine dm rfl _ rfl (d9 _ rfl _ _ rfl rfl (bC (show Sz 3 6 by decide) iz) (bB _ rfl _ rfl (jo _ _ rfl rfl (bC (show Sz 3 6 by decide) iz) _ _ rfl rfl (cv _ rfl a _ rfl (sm.seq hs) fun c hc=> ?_))))
  rw [K7 (i:=6*i) (n:=6) (by omega) (by show(6*(0+(i:Int))+6)=_;omega) (by rw [aD];omega),←List.map_drop,←List.map_take] at*
  have sc:=aC.laid (o:= .lst (((b.drop (6*i)).take 6).map V.int)) hc
  refine cI c _ rfl (bZ (a4.of af) (hz.cut _ _) (by rw [ic,CM];omega) fun r H3 o3 s3=> ?_)
  rw [Iu] at o3
  obtain⟨e1,e2,e3⟩:=qK (f:=fun i=>Kd.qY b (6*i)) hA hO (by omega) o3 (sc.trans s3)
  exact bH acc e1 (mN e2 _ af e3 fun q o e=>by rw [ak (aw e hL)];exact s3 _ _ (sc _ _ (sm _ _ e)))
 ·rintro H1 ⟨acc,hA,hO,sm⟩
  rw [cT] at hO
  exact k L H1 acc hA hO sm hL
open Vbdeab (Class Dist)
theorem uO (k:Int):∀kvs:List (Int×V),(Ds kvs k).isSome=decide (k∈kvs.map (·.1))
 | []=>rfl
 | p::r=>by
  have ih:=uO k r
  unfold Ds at ih⊢
  rw [CL,eY]
  by_cases e:p.1=k
  ·rw [aE e,aE (by rw [e];exact fB)]
   rfl
  ·rw [bq e]
   simp only
   rw [ih]
   by_cases q:k∈r.map (·.1)
   ·rw [aE q,aE (dU _ q)]
   ·rw [bq q,bq fun z=>by rcases cF.mp z with z | z;exact e z.symm;exact q z]
def rE (T:Tx K mg):Addr→Sp→Prop:=fun f sp=>(f=T.ji.f∧sp=uc T)∨(f=T.kQ.f∧sp=vC T)∨(f=T.jj.f∧sp=uf T)∨(f=T.kM.f∧sp=vB T)∨(f=T.eQ.f∧sp=mM T)∨(f=T.zC.f∧sp=Ec T)
theorem Ap {A:Around} (T:Tx K mg) (hr:eR 8 A):∀f sp,rE T f sp→∃k fd ps,jV P w K mg base AV k f fd ps sp∧eR k A∧PySem.W.keepIn K (.ref f)=true∧i8 K fd ps []:=by
 rintro f sp (⟨rfl,rfl⟩ | ⟨rfl,rfl⟩ | ⟨rfl,rfl⟩ | ⟨rfl,rfl⟩ | ⟨rfl,rfl⟩ | ⟨rfl,rfl⟩)
 ·exact bW _ _ _ (BH T) (hr.mono (by decide)) T.ji.F.kp T.ji.b
 ·exact bW _ _ _ (C9 T) (hr.mono (by decide)) T.kQ.F.kp T.kQ.b
 ·exact bW _ _ _ (BJ T) (hr.mono (by decide)) T.jj.F.kp T.jj.b
 ·exact bW _ _ _ (C8 T) (hr.mono (by decide)) T.kM.F.kp T.kM.b
 ·exact bW _ _ _ (vU T) (hr.mono (by decide)) T.eQ.F.kp T.eQ.b
 ·exact bW _ _ _ (Ke T) (hr.mono (by decide)) T.zC.F.kp T.zC.b
theorem wW {o:Option Dist} (h:o=none):checked o=none:=by rw [h];rfl
def AK (T:Tx K mg):Sp:=fun vs H Q _=>∃(av:List Addr) (al bl:Addr) (kind:Int) (a b:List Int),vs= [.int kind,.ref al,.ref bl]∧(kind=0∨kind=1∨kind=6∨kind=7∨kind=8∨kind=9)∧a4 K H al (a.map V.int)∧a4 K H bl (b.map V.int)∧j2 a∧(∀b∈av,H b≠none)∧∀(v:V) (H':Hp),ja T av H' v (checked (build kind a b))→aC H H'→Q v H'
theorem At (T:Tx K mg):dM P w base T.re 9 (AK T):=by
 refine T.re.okA rZ ?_
 rintro _ A _ s H _ Q E hr ⟨av,al,bl,kind,a,b,rfl,hk,ha,hb,hz,hav,k⟩
 refine⟨_,(ac (aT (lh (h9 (aR Jg (a8 aW (by rfl) T.gu eh (ab (pv 1) ad)) (lT (Jy T.bD) (pv 0)) (aY _)) (ig (aR vi (a8 aW (by rfl) T.gu eh (ab (pv 2) ad)) am (aY _))))) (ae (aj cY)) aG)
   (ac (aZ 3 rZ.nd (lT (Jy T.bK) (pv 0)))
   (ae (aj (oT (i:=3) (rE T) rfl (Or.inl rfl) (Ap T hr) (ab (pv 1) ad)))))),?_⟩
 have bad1:¬a.length=Kd.Mc kind→Q .non H:=fun q=>by
  have e:checked (build kind a b)=none:=by
   by_cases c:b= []
   ·rw [c];exact wW (Kd.Lo hk q)
   ·exact wW (Kd.DF a (by omega) (by omega) (by omega) (by omega) c)
  rw [e] at k
  exact k .non H rfl (aC.refl' H)
 have bad2:¬b= []→Q .non H:=fun q=>by
  have e:=wW (Kd.DF (kind:=kind) a (by omega) (by omega) (by omega) (by omega) q)
  rw [e] at k
  exact k .non H rfl (aC.refl' H)
 have la:(a.map V.int).length=a.length:=aD ..
 have lb:(b.map V.int).length=b.length:=aD ..
 have two:∀t:Nat,¬(!decide (V.int ((a.map V.int).length:Int)=V.int (t:Int)))=true→a.length=t:=fun t h=>by
  have:=V.int.inj (oN h)
  omega
 have two':∀t:Nat,(!decide (V.int ((a.map V.int).length:Int)=V.int (t:Int)))=true→¬a.length=t:=fun t h q=>oM h (by rw [la,q])
 have none_b:¬decide ((0:Int)<((b.map V.int).length:Int))=true→b= []:=fun h=>G9 (by have:¬((0:Int)<((b.map V.int).length:Int)):=fun q=>h (aE q);omega)
 have some_b:decide ((0:Int)<((b.map V.int).length:Int))=true→¬b= []:=fun h q=>by have:=bj h;rw [lb,q] at this;simp at this
 rcases hk with rfl | rfl | rfl | rfl | rfl | rfl
 ·refine cv _ rfl al _ rfl (.inl ha) (bO _ rfl T.bD.a _ _ _ rfl (T.bD.gd _ _) rfl rfl (dm rfl _ rfl (aX (fun h1=>jx (bad1 (two' 2 h1))) (fun h1=>(cv _ rfl bl _ rfl (.inl hb) ⟨_,(eK _ rfl rfl _ rfl (aX (fun h2=>bad2 (some_b h2)) (fun h2=> ?_)))⟩)))))
  obtain rfl:=none_b h2
  match a,two 2 h1,k,hz,ha with
  | [p,q],_,k,hz,ha=>exact fg _ rfl T.bK.a _ _ _ rfl (T.bK.gd _ _) rfl rfl _ _ rfl (.inl ⟨rfl,rfl⟩) (bO _ rfl av al p q rfl ha hz hav k)
 ·refine cv _ rfl al _ rfl (.inl ha) (bO _ rfl T.bD.a _ _ _ rfl (T.bD.gd _ _) rfl rfl (dm rfl _ rfl (aX (fun h1=>jx (bad1 (two' 2 h1))) (fun h1=>(cv _ rfl bl _ rfl (.inl hb) ⟨_,(eK _ rfl rfl _ rfl (aX (fun h2=>bad2 (some_b h2)) (fun h2=> ?_)))⟩)))))
  obtain rfl:=none_b h2
  match a,two 2 h1,k,hz,ha with
  | [p,q],_,k,hz,ha=>exact fg _ rfl T.bK.a _ _ _ rfl (T.bK.gd _ _) rfl rfl _ _ rfl (.inr (.inl ⟨rfl,rfl⟩)) (fy _ rfl av al (bP p q rfl ha hav k))
 ·refine cv _ rfl al _ rfl (.inl ha) (bO _ rfl T.bD.a _ _ _ rfl (T.bD.gd _ _) rfl rfl (dm rfl _ rfl (aX (fun h1=>jx (bad1 (two' 3 h1))) (fun h1=>(cv _ rfl bl _ rfl (.inl hb) ⟨_,(eK _ rfl rfl _ rfl (aX (fun h2=>bad2 (some_b h2)) (fun h2=> ?_)))⟩)))))
  obtain rfl:=none_b h2
  match a,two 3 h1,k,hz,ha with
  | [n,p,q],_,k,hz,ha=>exact fg _ rfl T.bK.a _ _ _ rfl (T.bK.gd _ _) rfl rfl _ _ rfl (.inr (.inr (.inl ⟨rfl,rfl⟩))) (fy _ rfl av al (bW n p q rfl ha hav k))
 ·refine cv _ rfl al _ rfl (.inl ha) (bO _ rfl T.bD.a _ _ _ rfl (T.bD.gd _ _) rfl rfl (dm rfl _ rfl (aX (fun h1=>jx (bad1 (two' 3 h1))) (fun h1=>(cv _ rfl bl _ rfl (.inl hb) ⟨_,(eK _ rfl rfl _ rfl (aX (fun h2=>bad2 (some_b h2)) (fun h2=> ?_)))⟩)))))
  obtain rfl:=none_b h2
  match a,two 3 h1,k,hz,ha with
  | [n,p,q],_,k,hz,ha=>exact fg _ rfl T.bK.a _ _ _ rfl (T.bK.gd _ _) rfl rfl _ _ rfl (.inr (.inr (.inr (.inl ⟨rfl,rfl⟩)))) (fy _ rfl av al (bW n p q rfl ha hav k))
 ·refine cv _ rfl al _ rfl (.inl ha) (bO _ rfl T.bD.a _ _ _ rfl (T.bD.gd _ _) rfl rfl (dm rfl _ rfl (aX (fun h1=>jx (bad1 (two' 3 h1))) (fun h1=>(cv _ rfl bl _ rfl (.inl hb) ⟨_,(eK _ rfl rfl _ rfl (aX (fun h2=>bad2 (some_b h2)) (fun h2=> ?_)))⟩)))))
  obtain rfl:=none_b h2
  match a,two 3 h1,k,hz,ha with
  | [n,p,q],_,k,hz,ha=>exact fg _ rfl T.bK.a _ _ _ rfl (T.bK.gd _ _) rfl rfl _ _ rfl (.inr (.inr (.inr (.inr (.inl ⟨rfl,rfl⟩))))) (fy _ rfl av al (bW n p q rfl ha hav k))
 ·refine cv _ rfl al _ rfl (.inl ha) (bO _ rfl T.bD.a _ _ _ rfl (T.bD.gd _ _) rfl rfl (dm rfl _ rfl (aX (fun h1=>jx (bad1 (two' 2 h1))) (fun h1=>(cv _ rfl bl _ rfl (.inl hb) ⟨_,(eK _ rfl rfl _ rfl (aX (fun h2=>bad2 (some_b h2)) (fun h2=> ?_)))⟩)))))
  obtain rfl:=none_b h2
  match a,two 2 h1,k,hz,ha with
  | [p,q],_,k,hz,ha=>exact fg _ rfl T.bK.a _ _ _ rfl (T.bK.gd _ _) rfl rfl _ _ rfl (.inr (.inr (.inr (.inr (.inr ⟨rfl,rfl⟩))))) (fy _ rfl av al (bP p q rfl ha hav k))
def rF (T:Tx K mg):Addr→Sp→Prop:=fun f sp=>(f=T.pK.f∧sp=Aa T)∨(f=T.fD.f∧sp=nQ T)∨(f=T.f8.f∧sp=pB T)∨(f=T.fZ.f∧sp=pA T)
theorem Aq {A:Around} (T:Tx K mg) (hr:eR 7 A):∀f sp,rF T f sp→∃k fd ps,jV P w K mg base AV k f fd ps sp∧eR k A∧PySem.W.keepIn K (.ref f)=true∧i8 K fd ps []:=by
 rintro f sp (⟨rfl,rfl⟩ | ⟨rfl,rfl⟩ | ⟨rfl,rfl⟩ | ⟨rfl,rfl⟩)
 ·exact bW _ _ _ (Gb T) (hr.mono (by decide)) T.pK.F.kp T.pK.b
 ·exact bW _ _ _ (xk T) (hr.mono (by decide)) T.fD.F.kp T.fD.b
 ·exact bW _ _ _ (yF T) (hr.mono (by decide)) T.f8.F.kp T.f8.b
 ·exact bW _ _ _ (yD T) (hr.mono (by decide)) T.fZ.F.kp T.fZ.b
def AL (T:Tx K mg):Sp:=fun vs H Q _=>∃(av:List Addr) (al bl:Addr) (kind:Int) (a b:List Int),vs= [.int kind,.ref al,.ref bl]∧(kind=2∨kind=3∨kind=4∨kind=5)∧H al=some (.lst (a.map V.int))∧a4 K H bl (b.map V.int)∧j2 b∧a.length≤8000∧al ∉ av∧(∀b∈av,H b≠none)∧∀(v:V) (H':Hp),ja T av H' v (checked (build kind a b))→aC H H'→Q v H'
theorem Au (T:Tx K mg):dM P w base T.rh 8 (AL T):=by
 refine T.rh.okA r6 ?_
 rintro _ A _ s H _ Q E hr ⟨av,al,bl,kind,a,b,rfl,hk,ha,hb,hz,hl,nal,hav,k⟩
 refine⟨_,(ac (aT (aR Jg (a8 aW (by rfl) T.gu eh (ab (pv 2) ad)) (aB bY (aB aJ (lT (Jy T.b8) (pv 0)) (a8 aW (by rfl) T.gu eh (ab (pv 1) ad))) (lT (Jy T.cy) (pv 0))) (aY _)) (ae (aj cY)) aG)
   (ac (aZ 3 r6.nd (lT (Jy T.cN) (pv 0)))
   (ae (aj (bi T.cG (cQ T) hr (ab (pv 1) (ab (oT (i:=3) (rF T) rfl (Or.inl rfl) (Aq T hr) (ab (a8 aW (by rfl) T.gu eh (ab (pv 1) ad)) (ab (pv 2) ad))) ad))))))),?_⟩
 have la:(a.map V.int).length=a.length:=aD ..
 have lb:(b.map V.int).length=b.length:=aD ..
 have az:Sz 20 ((a.map V.int).length:Int):=by rw [la];exact eE (nY hl (by decide))
 have ne:∀m c:Nat,(!decide (V.int ((b.map V.int).length:Int)=V.int ((m:Int)*((a.map V.int).length:Int)+(c:Int))))=true→b.length≠m*a.length+c:=fun m c h q=>oM h (by rw [la,lb,q,pI,b7])
 have eq:∀m c:Nat,¬(!decide (V.int ((b.map V.int).length:Int)=V.int ((m:Int)*((a.map V.int).length:Int)+(c:Int))))=true→b.length=m*a.length+c:=fun m c h=>by
  have:=V.int.inj (oN h)
  rw [la,lb,←b7] at this
  omega
 have non:checked (build kind a b)=none→Q .non H:=fun e=>by
  rw [e] at k
  exact k .non H rfl (aC.refl' H)
 have fin:∀(f:Nat→Option Class),checked (build kind a b)=Kd.wS a ((List.range a.length).map f)→∀(p:Addr) (H':Hp) (ss:List V),H' p=some (.lst ss)→jk T H' ss ((List.range a.length).map f)→aC H H'→H p=none→lr T [.ref al,.ref p] H' Q E0:=fun f e p H' ss hp hO s np=>(jp av al p a ss _ rfl (s _ _ ha) hp hO (by rw [aD,fm]) (by omega) (bZ nal (eC hav np) (wV hav s) fun v H5 o5 s5=>k v H5 (by rw [e];exact o5) (s.trans s5)))
 rcases hk with rfl | rfl | rfl | rfl
 ·refine cv _ rfl bl _ rfl (.inl hb) (bO _ rfl T.b8.a _ _ _ rfl (T.b8.gd _ _) rfl rfl (cv _ rfl al _ rfl (.inl (a4.of ha)) (bP _ _ rfl rfl (bC (show Sz 3 2 by decide) az) (fg _ rfl T.cy.a _ _ _ rfl (T.cy.gd _ _) rfl rfl _ _ rfl rfl (dm rfl _ rfl (aX (fun h1=>non (Kd.JZ (by have:=ne 2 0 h1;omega))) (fun h1=> ?_)))))))
  have hlen:=eq 2 0 h1
  exact bO _ rfl T.cN.a _ _ _ rfl (T.cN.gd _ _) rfl rfl (cv _ rfl _ _ rfl (.inl ⟨rfl,rfl⟩) (cv _ rfl al _ rfl (.inl (a4.of ha)) (cM _ rfl bl b a.length (by rw [la]) hb hz (fe hlen hl (fin _ (Kd.OU (by omega)))))))
 ·refine cv _ rfl bl _ rfl (.inl hb) (bO _ rfl T.b8.a _ _ _ rfl (T.b8.gd _ _) rfl rfl (cv _ rfl al _ rfl (.inl (a4.of ha)) (bP _ _ rfl rfl (bC (show Sz 3 2 by decide) az) (fg _ rfl T.cy.a _ _ _ rfl (T.cy.gd _ _) rfl rfl _ _ rfl rfl (dm rfl _ rfl (aX (fun h1=>non (Kd.J0 (by have:=ne 2 2 h1;omega))) (fun h1=> ?_)))))))
  have hlen:=eq 2 2 h1
  exact bO _ rfl T.cN.a _ _ _ rfl (T.cN.gd _ _) rfl rfl (cv _ rfl _ _ rfl (.inr (.inl ⟨rfl,rfl⟩)) (cv _ rfl al _ rfl (.inl (a4.of ha)) (cM _ rfl bl b a.length (by rw [la]) hb hz (fe hlen hl (fin _ (Kd.OV (by omega)))))))
 ·refine cv _ rfl bl _ rfl (.inl hb) (bO _ rfl T.b8.a _ _ _ rfl (T.b8.gd _ _) rfl rfl (cv _ rfl al _ rfl (.inl (a4.of ha)) (bP _ _ rfl rfl (bC (show Sz 3 2 by decide) az) (fg _ rfl T.cy.a _ _ _ rfl (T.cy.gd _ _) rfl rfl _ _ rfl rfl (dm rfl _ rfl (aX (fun h1=>non (Kd.J1 (by have:=ne 2 0 h1;omega))) (fun h1=> ?_)))))))
  have hlen:=eq 2 0 h1
  exact bO _ rfl T.cN.a _ _ _ rfl (T.cN.gd _ _) rfl rfl (cv _ rfl _ _ rfl (.inr (.inr (.inl ⟨rfl,rfl⟩))) (cv _ rfl al _ rfl (.inl (a4.of ha)) (cM _ rfl bl b a.length (by rw [la]) hb hz (fe hlen hl (fin _ (Kd.OW (by omega)))))))
 ·refine cv _ rfl bl _ rfl (.inl hb) (bO _ rfl T.b8.a _ _ _ rfl (T.b8.gd _ _) rfl rfl (cv _ rfl al _ rfl (.inl (a4.of ha)) (bP _ _ rfl rfl (bC (show Sz 3 6 by decide) az) (fg _ rfl T.cy.a _ _ _ rfl (T.cy.gd _ _) rfl rfl _ _ rfl rfl (dm rfl _ rfl (aX (fun h1=>non (Kd.J2 (by have:=ne 6 0 h1;omega))) (fun h1=> ?_)))))))
  have hlen:=eq 6 0 h1
  exact bO _ rfl T.cN.a _ _ _ rfl (T.cN.gd _ _) rfl rfl (cv _ rfl _ _ rfl (.inr (.inr (.inr ⟨rfl,rfl⟩))) (cv _ rfl al _ rfl (.inl (a4.of ha)) (cM _ rfl bl b a.length (by rw [la]) hb hz (fe hlen hl (fin _ (Kd.OX (by omega)))))))
def Fb (T:Tx K mg):Sp:=fun vs H Q _=>∃(av:List Addr) (al bl:Addr) (kind:Int) (a b:List Int),vs= [.int kind,.ref al,.ref bl]∧H al=some (.lst (a.map V.int))∧a4 K H bl (b.map V.int)∧j2 a∧j2 b∧a.length≤8000∧al ∉ av∧(∀b∈av,H b≠none)∧∀(v:V) (H':Hp),ja T av H' v (checked (build kind a b))→aC H H'→Q v H'
theorem EJ (T:Tx K mg):dM P w base T.zB 10 (Fb T):=by
 refine T.zB.okA EZ ?_
 rintro _ A _ s H _ Q E hr ⟨av,al,bl,kind,a,b,rfl,ha,hb,hza,hzb,hl,nal,hav,k⟩
 refine⟨_,(ac (aT (LU (pv 0) (Jy T.bK)) (ae (aj (bi T.re (At T) hr (ab (pv 0) (ab (pv 1) (ab (pv 2) ad)))))) aG)
   (ac (aT (LU (pv 0) (Jy T.cN)) (ae (aj (bi T.rh (Au T) hr (ab (pv 0) (ab (pv 1) (ab (pv 2) ad)))))) aG)
   (ae (aj cY)))),?_⟩
 refine cM _ rfl T.bK.a _ kind rfl (T.bK.gd _ _) rfl (bH _ rfl (aX (fun h1=> ?_) (fun h1=> ?_)))
 ·rw [uO] at h1
  have h1':=bj h1
  simp only [eY,List.map_nil,cF,List.not_mem_nil,or_false] at h1'
  exact bc _ rfl _ rfl _ rfl (jp av al bl kind a b rfl h1' (a4.of ha) hb hza hav k)
 ·refine cM _ rfl T.cN.a _ kind rfl (T.cN.gd _ _) rfl (bH _ rfl (aX (fun h2=> ?_) (fun h2=> ?_)))
  ·rw [uO] at h2
   have h2':=bj h2
   simp only [eY,List.map_nil,cF,List.not_mem_nil,or_false] at h2'
   exact bc _ rfl _ rfl _ rfl (jp av al bl kind a b rfl h2' ha hb hzb hl (fe nal hav k))
  ·rw [uO] at h1 h2
   have h1':=fun q=>h1 (aE q)
   have h2':=fun q=>h2 (aE q)
   simp only [eY,List.map_nil,cF,List.not_mem_nil,or_false] at h1' h2'
   have e:build kind a b=none:=Kd.J3 a b fun z z1 z2 q=>by
    subst q
    rcases (show kind=0∨kind=1∨kind=2∨kind=3∨kind=4∨kind=5∨kind=6∨kind=7∨kind=8∨kind=9 by omega) with q | q | q | q | q | q | q | q | q | q<;>first | exact(h1' (by omega)).elim | exact(h2' (by omega)).elim
   rw [wW e] at k
   exact k .non H rfl (aC.refl' H)
def OD (b:Bool):Int:=if b=true then 1 else 0
def sf (t:Stream):List (Str×V):= [("state",.int (t.state:Nat)),("seed",.int (t.seed:Nat)),("count",.int t.count),("mirror",.int (OD t.mirror))]
def bS (T:Tx K mg) (H:Hp) (a:Addr) (t:Stream):Prop:=∃dx,H a=some (.ins T.aK.C dx (sf t))
def iA (H H':Hp) (a:Addr):Prop:=∀b o,H b=some o→b≠a→H' b=some o
def rf (a:Addr) (pos:Nat):List (Str×V):= [("numbers",.ref a),("position",.int (pos:Nat))]
def me (T:Tx K mg) (H:Hp) (r a:Addr) (pos:Nat):Prop:=∃dx,H r=some (.ins T.br.C dx (rf a pos))
theorem iA.seq {H H':Hp} {a b:Addr} {C dx:Addr} {fs:List (Str×V)} {xs:List V} (k:iA H H' a) (ha:H a=some (.ins C dx fs)) (h:a4 K H b xs):a4 K H' b xs:=by
 rcases h with(h | ⟨o,h⟩) | h
 ·exact .inl (.inl (k _ _ h (bf h ha (by intro z;cases z))))
 ·exact .inl (.inr ⟨o,k _ _ h (bf h ha (by intro z;cases z))⟩)
 ·exact .inr h
def yZ (T:Tx K mg):Sp:=GK T.aK.C (fun args fs=>∃s:Nat,args= [.int s]∧fs=sf ⟨s,s,0,false⟩)
theorem gW (T:Tx K mg):sr mg P w base T.fk 1 (yZ T):=by
 refine T.fk.okA yN ?_ (by rintro _ _ _ _ ⟨p,dx,_,_,rfl,⟨s,rfl,rfl⟩,hp,k⟩;rfl)
 rintro _ A _ s H _ Q E hr ⟨p,dx,_,_,rfl,⟨s,rfl,rfl⟩,hp,k⟩
 refine⟨_,(ac (cr (pv 0) (pv 1) rfl)
   (ac (cr (pv 0) (pv 1) rfl)
   (ac (cr (pv 0) am rfl)
   (ae (cr (pv 0) am rfl))))),?_⟩
 refine pF _ rfl _ rfl p _ dx ([]) rfl hp T.aK.cl (T.aK.no _ (by decide)) (by show 0<1000;decide) ?_
 refine pF _ rfl _ rfl p _ dx _ rfl af T.aK.cl (T.aK.no _ (by decide)) (by show 1<1000;decide) ?_
 refine gM _ rfl p _ dx _ rfl af T.aK.cl (T.aK.no _ (by decide)) (by show 2<1000;decide) ?_
 refine gM _ rfl p _ dx _ rfl af T.aK.cl (T.aK.no _ (by decide)) (by show 3<1000;decide) ?_
 exact k _ af fun b o e hb=>by rw [ak hb,ak hb,ak hb,ak hb];exact e
def za (T:Tx K mg):Sp:=fun vs H Q _=>∃(a:Addr) (t:Stream),vs= [.ref a]∧bS T H a t∧∀(y:Addr) (H':Hp),bS T H' y t→aC H H'→H y=none→Q (.ref y) H'
theorem yy (T:Tx K mg):sr mg P w base T.oy 3 (za T):=by
 refine T.oy.okA pf ?_
 rintro _ A _ s H _ Q E hr ⟨a,t,rfl,⟨dx,h1⟩,k⟩
 refine⟨_,(ac (aZ 1 pf.nd (Ag T.fk (gW T) hr (ab (ao (pv 0) rfl) ad)))
   (ac (cr (pv 1) (ao (pv 0) rfl) rfl)
   (ac (cr (pv 1) (ao (pv 0) rfl) rfl)
   (ac (cr (pv 1) (ao (pv 0) rfl) rfl)
   (ae (aj (pv 1))))))),?_⟩
 refine aM _ rfl a _ dx _ _ rfl h1 T.aK.cl (T.aK.no _ (by decide)) rfl ?_
 intro y dy ny nd _
 refine de ny nd (fun H1 hy s1=> ?_) ⟨t.seed,rfl,rfl⟩
 have nay:a≠y:=aw h1 ny
 have h2:=s1 _ _ h1
 refine aM _ rfl a _ dx _ _ rfl h2 T.aK.cl (T.aK.no _ (by decide)) rfl (gM _ rfl y _ dy _ rfl hy T.aK.cl (T.aK.no _ (by decide)) (by show 4<1000;decide) ?_)
 refine aM _ rfl a _ dx _ _ rfl (by rw [ak nay];exact h2) T.aK.cl (T.aK.no _ (by decide)) rfl (gM _ rfl y _ dy _ rfl af T.aK.cl (T.aK.no _ (by decide)) (by show 4<1000;decide) ?_)
 refine aM _ rfl a _ dx _ _ rfl (by rw [ak nay,ak nay];exact h2) T.aK.cl (T.aK.no _ (by decide)) rfl (gM _ rfl y _ dy _ rfl af T.aK.cl (T.aK.no _ (by decide)) (by show 4<1000;decide) ?_)
 refine⟨_,rfl,?_⟩
 exact k y _ ⟨dy,af⟩ (fun b o e=>by
  have nb:b≠y:=aw e ny
  rw [ak nb,ak nb,ak nb]
  exact s1 _ _ e) ny
def qf (t:Stream) (steps:Int):Stream:={t with state:=Lc.lz (Lc.pw (steps%18446744073709551616).toNat) t.state,count:=t.count+steps}
def y9 (T:Tx K mg):Sp:=fun vs H Q _=>∃(a:Addr) (t:Stream) (steps:Int),vs= [.ref a,.int steps]∧bS T H a t∧∀H':Hp,bS T H' a (qf t steps)→iA H H' a→Q .non H'
theorem oP (T:Tx K mg):sr mg P w base T.kW 5 (y9 T):=by
 refine T.kW.okA yO ?_
 rintro _ A _ s H _ Q E hr ⟨a,t,steps,rfl,⟨dx,h1⟩,k⟩
 refine⟨_,(ac (cr (pv 0) (zw (bi T.uS (xl T) hr (ab (pv 1) ad)) T.fC (gq T) hr (ab (ao (pv 0) rfl) ad)) rfl)
   (ae (uI (pv 0) (pv 1) Ex))),?_⟩
 refine bB _ rfl steps rfl fun x H1 ⟨dl,hl⟩ s1=> ?_
 have h2:=s1 _ _ h1
 refine bW x dl _ rfl hl rfl (aM _ rfl a _ dx _ _ rfl h2 T.aK.cl (T.aK.no _ (by decide)) rfl (bW x _ t.state rfl ⟨dl,hl⟩ (Lc.mv _) ?_))
 refine gM _ rfl a _ dx _ rfl h2 T.aK.cl (T.aK.no _ (by decide)) (by show 4<1000;decide) ?_
 refine aM _ rfl a _ dx _ _ rfl af T.aK.cl (T.aK.no _ (by decide)) rfl (cv _ rfl _ _ rfl rfl (bT dx _ af (by show 4<1000;decide) ?_))
 exact k _ ⟨dx,af⟩ fun b o e hb=>by rw [ak hb,ak hb];exact s1 _ _ e
theorem By (x:Nat):((6364136223846793005:Int)*(x:Int)+1442695040888963407)%18446744073709551616=((Vbdeab.next x:Nat):Int):=by
 unfold Vbdeab.next
 rw [Int.natCast_emod,pI,b7]
 rfl
theorem MY (x:Nat):((x:Int) /4294967296)=((Vbdeab.out x:Nat):Int):=by
 unfold Vbdeab.out
 rw [CI]
 rfl
theorem Od {x:Nat} (h:x<Vbdeab.P):Vbdeab.out x<4294967296:=Nat.div_lt_of_lt_mul h
theorem xy (t:Stream):(Vbdeab.raw t).1={t with state:=Vbdeab.next t.state,count:=t.count+1}:=by rw [Vbdeab.raw]
theorem Nc (t:Stream):(Vbdeab.raw t).2=if t.mirror=true then 4294967296 - 1 - Vbdeab.out (Vbdeab.next t.state) else Vbdeab.out (Vbdeab.next t.state):=by
 rw [Vbdeab.raw]
 rfl
def qR (T:Tx K mg):Sp:=fun vs H Q _=>∃(a:Addr) (t:Stream),vs= [.ref a]∧bS T H a t∧∀H':Hp,bS T H' a (Vbdeab.raw t).1→iA H H' a→Q (.int ((Vbdeab.raw t).2:Nat)) H'
theorem bV (T:Tx K mg):sr mg P w base T.bJ 1 (qR T):=by
 refine T.bJ.okA jF ?_
 rintro _ A _ s H _ Q E hr ⟨a,t,rfl,⟨dx,h1⟩,k⟩
 refine⟨_,(ac (cr (pv 0) (aB vW (aB bY (aB aJ (fh T.CY) (ao (pv 0) rfl)) (fh T.zG)) (fh T.uE)) rfl)
   (ac (uI (pv 0) am Ex)
   (ac (aZ 1 jF.nd (aB cA (ao (pv 0) rfl) (fh T.dL)))
   (ac (aT (aR rK (ao (pv 0) rfl) am (aY _)) (ae (aj (aB b9 (aB b9 (fh T.dL) am) (pv 1)))) aG)
   (ae (aj (pv 1))))))),?_⟩
 refine aM _ rfl a _ dx _ _ rfl h1 T.aK.cl (T.aK.no _ (by decide)) rfl (jo _ _ rfl rfl (oK (by decide) (by decide)) _ _ rfl rfl (bP _ _ rfl rfl (by show(0:Int)<18446744073709551616;decide) ?_))
 refine gM _ rfl a _ dx _ rfl h1 T.aK.cl (T.aK.no _ (by decide)) (by show 4<1000;decide) ?_
 refine aM _ rfl a _ dx _ _ rfl af T.aK.cl (T.aK.no _ (by decide)) rfl (bT _ _ rfl rfl (bT dx _ af (by show 4<1000;decide) ?_))
 refine aM _ rfl a _ dx _ _ rfl af T.aK.cl (T.aK.no _ (by decide)) rfl (bP _ _ rfl rfl ⟨by decide,by decide+kernel⟩ ?_)
 have kp:∀H2:Hp,H2 a=some (.ins T.aK.C dx (sf {t with state:=Vbdeab.next t.state,count:=t.count+1}))→iA H H2 a→Q (.int ((Vbdeab.raw t).2:Nat)) H2:=fun H2 e1 e2=>k H2 (by rw [xy];exact⟨dx,e1⟩) e2
 rw [Nc] at kp
 have e3:((((6364136223846793005:Int)*(t.state:Int)+1442695040888963407)%18446744073709551616) /4294967296)=((Vbdeab.out (Vbdeab.next t.state):Nat):Int):=by rw [By,MY]
 have hat:∀(z:Int),z=((Vbdeab.next t.state:Nat):Int)→(some (HO.ins T.aK.C dx (li "count" (.int (t.count+1)) (li "state" (.int z) (sf t)))):Option HO)=some (.ins T.aK.C dx (sf {t with state:=Vbdeab.next t.state,count:=t.count+1})):=fun z e=>by rw [e];rfl
 refine aM _ rfl a _ dx _ _ rfl af T.aK.cl (T.aK.no _ (by decide)) rfl (dm rfl _ rfl (aX (fun hm=> ?_) (fun hm=> ?_)))
 ·have hm':t.mirror=true:=by
   have:=V.int.inj (bj hm)
   unfold OD at this
   by_cases q:t.mirror=true
   ·exact q
   ·rw [if_neg q] at this;cases this
  refine bT _ _ rfl rfl (cv _ rfl _ _ rfl rfl ?_)
  rw [if_pos hm'] at kp
  show Q (.int ((4294967296:Int) - 1 - _)) _
  rw [e3]
  have hlt:Vbdeab.out (Vbdeab.next t.state)<4294967296:=Od (iZ _ Lc.C4)
  have e4:(4294967296:Int) - 1 - ((Vbdeab.out (Vbdeab.next t.state):Nat):Int)=((4294967296 - 1 - Vbdeab.out (Vbdeab.next t.state):Nat):Int):=by omega
  rw [e4]
  exact kp _ (af.trans (hat _ (By _))) fun b o e hb=>by rw [ak hb,ak hb];exact e
 ·have hm':¬t.mirror=true:=fun q=>hm (aE (by unfold OD;rw [if_pos q]))
  refine⟨_,rfl,?_⟩
  rw [if_neg hm'] at kp
  show Q (.int _) _
  rw [e3]
  exact kp _ (af.trans (hat _ (By _))) fun b o e hb=>by rw [ak hb,ak hb];exact e
def Fe (T:Tx K mg):Sp:=fun vs H Q _=>∃(u:Nat) (many:Int),vs= [.int u,.int many]∧u<4294967296∧Q (.int ((u:Int)*many /4294967296)) H
theorem xm (T:Tx K mg):dM P w base T.uT 1 (Fe T):=by
 refine T.uT.okA E2 ?_
 rintro _ A _ s H _ Q E hr ⟨u,many,rfl,hu,k⟩
 refine⟨_,(ae (aj (aB cA (aB aJ (pv 0) (pv 1)) (fh T.dL)))),?_⟩
 exact bH _ rfl (d9 _ rfl _ _ rfl rfl (oK (by omega) (by omega)) (bP _ _ rfl rfl ⟨by decide,by decide+kernel⟩ k))
theorem MP {l:List Int} {i:Nat} {z:Int} (h:l[i]?=some z):(l.map V.int)[i]?=some (V.int z):=by rw [dn,h];rfl
theorem Bg {l:List Int} {i:Nat} {z:Int} {k:Int} (e:k=(i:Int)) (h:l[i]?=some z):KM (l.map V.int) k=some (V.int z):=ve e (MP h)
theorem LD {l:List Int} (h:∀x∈l,0≤x) {i:Nat} (hi:i<l.length):l[i]?=some (((l.map Int.toNat)[i]'(by rw [aD];exact hi):Nat):Int):=by
 rw [bF hi]
 congr 1
 rw [List.getElem_map,cC (h _ (List.getElem_mem hi))]
def xV (T:Tx K mg):Sp:=fun vs H Q _=>∃(u:Nat) (a:Addr) (ns:List Int),vs= [.int u,.ref a]∧u<4294967296∧a4 K H a (ns.map V.int)∧(weights ns).isSome=true∧Q (.int (chosen (ns.map Int.toNat) u:Nat)) H
theorem nj (T:Tx K mg):dM P w base T.jS 1 (xV T):=by
 refine T.jS.okA dR ?_
 rintro _ A _ s H _ Q E hr ⟨u,a,ns,rfl,hu,hs,hw,k⟩
 refine⟨_,(ac (aZ 2 dR.nd (aB aJ (pv 0) (a8 (Er rfl) (by rfl) T.JD (by rfl) (ab (pv 1) ad))))
   (ac (aZ 3 dR.nd am)
   (ac (aZ 4 dR.nd (ik (pv 1) am))
   (ac (lg cJ (aR Jf (pv 2) (aB aJ (fh T.dL) (pv 4)) (aY _)) (ac (og (i:=3) dR.nd rfl (Or.inl rfl) am ml)
   (ae (og (i:=4) dR.nd rfl (Or.inl rfl) (ik (pv 1) (pv 3)) ml))))
   (ae (aj (pv 3))))))),?_⟩
 obtain⟨nn,_,l1,l2,s1,s2⟩:=jM hw
 have hsum:=pC nn
 refine eV _ rfl _ rfl a ns rfl hs (bP _ _ rfl rfl (oK (by omega) (by omega)) ?_)
 have h0:=LD nn (i:=0) (by omega)
 refine bO _ rfl a _ _ _ rfl rfl hs (Bg (i:=0) rfl h0) ?_
 have hwl:(ns.map Int.toNat).length=ns.length:=aD ..
 refine⟨fun m σ H'=>∃i:Nat,m+i=ns.length∧σ= [some (.int u),some (.ref a),some (.int ((u*Vbdeab.sum (ns.map Int.toNat):Nat):Int)),some (.int i),some (.int ((Vbdeab.sum ((ns.map Int.toNat).take (i+1)):Nat):Int))]∧Ch.Em (ns.map Int.toNat) (u*Vbdeab.sum (ns.map Int.toNat)) i∧H'=H,⟨ns.length,?_⟩,?_⟩
 ·refine⟨0,(bZ rfl ?_ (Ch.Em.start (by omega)) rfl)⟩
  rw [hsum,Ch.eu (bF (show 0<(ns.map Int.toNat).length by omega)),b7]
  simp only [List.take_zero,Ch.sum_nil,i3]
  rfl
 ·rintro m σ H' ⟨i,hm,rfl,sk,rfl⟩
  have hM:(4294967296:Nat)=Vbdeab.M:=rfl
  refine bB _ rfl _ rfl (jo _ _ rfl rfl (oK (by decide) (by decide)) _ _ rfl rfl (bH _ rfl (aX (fun hl=>⟨_,fun _ _ z=>z,?_⟩) (fun hl=> ?_))))
  ·have hl':(4294967296:Int)*((Vbdeab.sum ((ns.map Int.toNat).take (i+1)):Nat):Int)≤((u*Vbdeab.sum (ns.map Int.toNat):Nat):Int):=bj hl
   have hl2:Vbdeab.M*Vbdeab.sum ((ns.map Int.toNat).take (i+1))≤u*Vbdeab.sum (ns.map Int.toNat):=by
    rw [←hM]
    exact Int.ofNat_le.mp (by rw [b7 4294967296];exact hl')
   have sk':=sk.next (Ch.Ja (by rw [←hM];exact hu) (by omega)) hl2
   have hi1:i+1<ns.length:=by have:=sk'.lt;omega
   refine cv _ rfl _ _ rfl rfl ?_
   refine bB _ rfl _ rfl (fg _ rfl a _ _ _ rfl rfl hs (Bg (i:=i+1) rfl (LD nn hi1)) _ _ rfl rfl ?_)
   refine sC (m - 1) (by omega) (i+1) (by omega) ?_ sk' rfl
   rw [Ch.eu (l:=ns.map Int.toNat) (i:=i+1) (bF (by omega)),pI (Vbdeab.sum _)]
   rfl
  ·have hl':¬(4294967296:Int)*((Vbdeab.sum ((ns.map Int.toNat).take (i+1)):Nat):Int)≤((u*Vbdeab.sum (ns.map Int.toNat):Nat):Int):=fun z=>hl (aE z)
   have hl2:u*Vbdeab.sum (ns.map Int.toNat)<Vbdeab.M*Vbdeab.sum ((ns.map Int.toNat).take (i+1)):=by
    rw [←hM]
    refine Int.ofNat_lt.mp ?_
    rw [b7 4294967296]
    exact Int.not_le.mp hl'
   refine⟨_,rfl,?_⟩
   have e:=sk.stop hl2
   unfold chosen at k
   rw [e] at k
   exact k
theorem zP {l:List Int} {i:Nat} {z:Int}:(l.map V.int).set i (V.int z)=(l.set i z).map V.int:=yc.symm
theorem p9 {n i:Nat} {k:Int} (e:k=(i:Int)) (h:i<n):Mu n k=some i:=by
 subst e
 unfold Mu
 rw [if_pos (Int.natCast_nonneg i),if_pos (by omega)]
 rfl
theorem PU {l:List Int} {i j:Nat} {x y:Int} (hx:l[i]?=some x) (hy:l[j]?=some y):(l.set i y).set j x=exchange l i j:=by
 unfold exchange
 rw [eX,eX,hx,hy]
 rfl
theorem K8 {xs:List V} {m:Nat} {k:Int} (e:k=(m:Int)) (h:m≤xs.length):uW xs none (some k)=xs.take m:=by
 subst e
 unfold uW HT.sIx
 simp only [cT]
 rw [if_neg (by omega),wB h]
 rfl
def Dq (T:Tx K mg):Sp:=fun vs H Q _=>∃(a r:Addr) (t:Stream) (l:List Int) (m:Nat),vs= [.ref a,.ref r,.int m]∧bS T H a t∧a4 K H r (l.map V.int)∧l.length≤1000∧m≤l.length∧∀(H':Hp) (p:Addr),H' p=some (.lst (((shuffled l.length (Vbdeab.raws m t).2 0 l).take m).map V.int))→bS T H' a (Vbdeab.raws m t).1→iA H H' a→H p=none→Q (.ref p) H'
theorem oe (T:Tx K mg):dM P w base T.mZ 2 (Dq T):=by
 refine T.mZ.okA iE ?_
 rintro _ A _ s H _ Q E hr ⟨a,r,t,l,m,rfl,⟨da,h1⟩,hs,hl,hm,k⟩
 refine⟨_,(ac (aZ 3 iE.nd (oS pQ (by rfl) T.C2 (by rfl) (ab (pv 1) ad)))
   (ac (d7 cJ rfl (cq rfl T.di (ab (pv 2) ad)) (kT 4 iE.nd) (ac (aZ 5 iE.nd (aB bY (pv 4) (bi T.uT (xm T) hr (ab (eJ (pv 0) T.bJ (bV T) hr) (ab (aB b9 (a8 aW (by rfl) T.gu eh (ab (pv 3) ad)) (pv 4)) ad)))))
   (ac (aZ 6 iE.nd (ik (pv 3) (pv 4)))
   (ac (qA (ik (pv 3) (pv 5)) (qw (pv 3) (pv 4) iF))
   (ae (qA (pv 6) (qw (pv 3) (pv 5) iF)))))))
   (ae (aj (xu Ba (pv 3) M6 (qy (pv 2))))))),?_⟩
 refine cv _ rfl r _ rfl (.inl hs) fun q hq=> ?_
 have naq:a≠q:=aw h1 hq
 refine sC _ rfl m rfl (by omega) (by omega) (gU (n:=(m:Int).toNat) (fun i σ H'=>∃v1 v2 v3:Option V,σ= [some (.ref a),some (.ref r),some (.int m),some (.ref q),v1,v2,v3]∧H' q=some (.lst ((shuffled l.length (Vbdeab.raws i t).2 0 l).map V.int))∧bS T H' a (Vbdeab.raws i t).1∧∀b o,H b=some o→b≠a→H' b=some o) ?_ ?_ ?_)
 ·refine bW none none none rfl ?_ ⟨da,?_⟩ fun b o e _=> ?_
  ·rw [af,Ch.dA]
   rfl
  ·rw [ak naq,Ch.dA]
   exact h1
  ·rw [ak (aw e hq)]
   exact e
 ·rintro i σ H1 hi ⟨v1,v2,v3,rfl,hq1,⟨d1,ha1⟩,kp⟩
  have hi':i<m:=by omega
  have hlen:(shuffled l.length (Vbdeab.raws i t).2 0 l).length=l.length:=Ch.g9 _ _ _ _
  refine bH _ rfl (cM _ rfl a d1 _ rfl ha1 rfl (bT a _ rfl ⟨d1,ha1⟩ fun H2 ⟨d2,ha2⟩ kp2=> ?_))
  have hq2:H2 q=some (.lst ((shuffled l.length (Vbdeab.raws i t).2 0 l).map V.int)):=kp2 _ _ hq1 (Ne.symm naq)
  refine cv _ rfl q _ rfl (.inl (a4.of hq2)) (cv _ rfl _ _ rfl rfl (bT _ _ rfl Ch.vZ (bT _ _ rfl rfl ?_)))
  have ej:(0:Int)+(i:Int)+((((Vbdeab.raw (Vbdeab.raws i t).1).2:Nat):Int)*((((shuffled l.length (Vbdeab.raws i t).2 0 l).map V.int).length:Int) - (0+(i:Int))) /4294967296)=((i+(Vbdeab.raw (Vbdeab.raws i t).1).2*(l.length - i) /Vbdeab.M:Nat):Int):=by
   rw [aD,hlen,kj,pI,CI,b7,r8 (by omega)]
   rfl
  have hj:=Ch.LT (n:=l.length) (i:=i) (u:=(Vbdeab.raw (Vbdeab.raws i t).1).2) (by omega) Ch.vZ
  have gi:=bF (show i<(shuffled l.length (Vbdeab.raws i t).2 0 l).length by omega)
  have gj:=bF (show(i+(Vbdeab.raw (Vbdeab.raws i t).1).2*(l.length - i) /Vbdeab.M)<(shuffled l.length (Vbdeab.raws i t).2 0 l).length by omega)
  refine bH _ rfl (bO _ rfl q _ _ _ rfl rfl (a4.of hq2) (Bg (i:=i) (kj _) gi) ?_)
  refine bH _ rfl (bO _ rfl q _ _ _ rfl rfl (a4.of hq2) (Bg ej gj) (bH _ rfl (bO _ rfl q _ _ i rfl rfl hq2 (p9 (kj _) (by rw [aD];omega)) ?_)))
  refine bB _ rfl _ rfl (bO _ rfl q _ _ _ rfl rfl af (p9 ej (by rw [r9,aD];omega)) ?_)
  refine bW _ _ _ rfl ?_ ⟨d2,?_⟩ fun b o e nb=> ?_
  ·rw [af,zP,zP,PU gi gj,Ch.fU,Ch.vA,Ch.gC]
   simp only [i3]
  ·rw [ak naq,ak naq,ha2,Ch.fU]
  ·have nbq:b≠q:=aw e hq
   rw [ak nbq,ak nbq]
   exact kp2 _ _ (kp _ _ e nb) nb
 ·rintro σ H1 ⟨v1,v2,v3,rfl,hq1,ha1,kp⟩
  rw [cT] at hq1 ha1
  have hlen:(shuffled l.length (Vbdeab.raws m t).2 0 l).length=l.length:=Ch.g9 _ _ _ _
  refine bH _ rfl (eV _ rfl m rfl q _ rfl (a4.of hq1) fun p hp=> ?_)
  rw [K8 rfl (by rw [aD];omega),←List.map_take]
  obtain⟨d1,ha1⟩:=ha1
  refine k _ p af ⟨d1,?_⟩ (fun b o e nb=> ?_) ?_
  ·rw [ak (aw ha1 hp)]
   exact ha1
  ·have e1:=kp _ _ e nb
   rw [ak (aw e1 hp)]
   exact e1
  ·cases e:H p with
   | none=>rfl
   | some o=>
    by_cases z:p=a
    ·rw [z,ha1] at hp;cases hp
    ·rw [kp _ _ e z] at hp;cases hp
def yY (T:Tx K mg):Sp:=GK T.br.C (fun args fs=>∃a:Addr,args= [.ref a]∧fs=rf a 0)
theorem yx (T:Tx K mg):sr mg P w base T.ox 1 (yY T):=by
 refine T.ox.okA yM ?_ (by rintro _ _ _ _ ⟨p,dx,_,_,rfl,⟨a,rfl,rfl⟩,hp,k⟩;rfl)
 rintro _ A _ s H _ Q E hr ⟨p,dx,_,_,rfl,⟨a,rfl,rfl⟩,hp,k⟩
 refine⟨_,(ac (cr (pv 0) (pv 1) rfl)
   (ae (cr (pv 0) am rfl))),?_⟩
 refine pF _ rfl _ rfl p _ dx ([]) rfl hp T.br.cl (T.br.no _ (by decide)) (by show 0<1000;decide) ?_
 refine gM _ rfl p _ dx _ rfl af T.br.cl (T.br.no _ (by decide)) (by show 1<1000;decide) ?_
 exact k _ af fun b o e hb=>by rw [ak hb,ak hb];exact e
def we (T:Tx K mg):Sp:=fun vs H Q _=>∃(r a:Addr) (pos:Nat) (ns:List Int),vs= [.ref r]∧me T H r a pos∧a4 K H a (ns.map V.int)∧Q (.bl (decide (ns.length≤pos))) H
theorem vQ (T:Tx K mg):sr mg P w base T.lG 1 (we T):=by
 refine T.lG.okA v7 ?_
 rintro _ A _ s H _ Q E hr ⟨r,a,pos,ns,rfl,⟨dx,h1⟩,hs,k⟩
 refine⟨_,(ae (aj (EN Jf (ao (pv 0) rfl) (a8 aW (by rfl) T.gu eh (ab (ao (pv 0) rfl) ad)) (aY _)))),?_⟩
 refine aM _ rfl r _ dx _ _ rfl h1 T.br.cl (T.br.no _ (by decide)) rfl (aM _ rfl r _ dx _ _ rfl h1 T.br.cl (T.br.no _ (by decide)) rfl (bT a _ rfl (.inl hs) (bT _ _ rfl rfl ?_)))
 have e:decide (((ns.map V.int).length:Int)≤(pos:Int))=decide (ns.length≤pos):=by
  rw [aD]
  by_cases q:ns.length≤pos
  ·rw [aE q,aE (Int.ofNat_le.mpr q)]
  ·rw [bq q,bq fun z=>q (Int.ofNat_le.mp z)]
 show Q (.bl _) H
 rw [e]
 exact k
def pq (T:Tx K mg):Sp:=fun vs H Q _=>∃(r a:Addr) (pos:Nat) (ns:List Int) (z:Int),vs= [.ref r]∧me T H r a pos∧a4 K H a (ns.map V.int)∧ns[pos]?=some z∧∀H':Hp,me T H' r a (pos+1)→iA H H' r→Q (.int z) H'
theorem ah (T:Tx K mg):sr mg P w base T.au 1 (pq T):=by
 refine T.au.okA pd ?_
 rintro _ A _ s H _ Q E hr ⟨r,a,pos,ns,z,rfl,⟨dx,h1⟩,hs,hz,k⟩
 refine⟨_,(ac (aZ 1 pd.nd (ik (ao (pv 0) rfl) (ao (pv 0) rfl)))
   (ac (uI (pv 0) am Ex)
   (ae (aj (pv 1))))),?_⟩
 refine aM _ rfl r _ dx _ _ rfl h1 T.br.cl (T.br.no _ (by decide)) rfl (aM _ rfl r _ dx _ _ rfl h1 T.br.cl (T.br.no _ (by decide)) rfl (jY a _ _ _ rfl rfl hs (Bg rfl hz) ?_))
 refine aM _ rfl r _ dx _ _ rfl h1 T.br.cl (T.br.no _ (by decide)) rfl (bT _ _ rfl rfl (bT dx _ h1 (by show 2<1000;decide) ?_))
 refine⟨_,rfl,?_⟩
 exact k _ ⟨dx,af⟩ fun b o e hb=>by rw [ak hb];exact e
theorem ME {xs:List V} {i n:Nat} {k j:Int} (ek:k=(i:Int)) (ej:j=((i+n:Nat):Int)) (h:i+n≤xs.length):uW xs (some k) (some j)=(xs.drop i).take n:=by
 subst ek ej
 unfold uW HT.sIx
 simp only [cT]
 rw [if_neg (by omega),if_neg (by omega),wB (show i≤xs.length by omega),wB h]
 congr 1
 omega
def t7 (T:Tx K mg):Sp:=fun vs H Q _=>∃(r a:Addr) (pos n:Nat) (ns:List Int),vs= [.ref r]∧me T H r a pos∧a4 K H a (ns.map V.int)∧ns[pos]?=some (n:Int)∧pos+1+n≤ns.length∧∀(H':Hp) (p:Addr),me T H' r a (pos+1+n)→H' p=some (.lst (((ns.drop (pos+1)).take n).map V.int))→iA H H' r→H p=none→Q (.ref p) H'
theorem dO (T:Tx K mg):sr mg P w base T.dh 2 (t7 T):=by
 refine T.dh.okA gH ?_
 rintro _ A _ s H _ Q E hr ⟨r,a,pos,n,ns,rfl,⟨dx,h1⟩,hs,hz,hn,k⟩
 refine⟨_,(ac (aZ 1 gH.nd (eJ (pv 0) T.au (ah T) hr))
   (ac (aZ 2 gH.nd (ao (pv 0) rfl))
   (ac (uI (pv 0) (pv 1) Ex)
   (ae (aj (xu Ba (ao (pv 0) rfl) (qy (pv 2)) (qy (ao (pv 0) rfl)))))))),?_⟩
 refine cM _ rfl r dx _ rfl h1 rfl ⟨r,(jY a pos ns _ rfl ⟨dx,h1⟩ hs hz fun H1 ⟨d1,hr1⟩ kp1=> ?_)⟩
 have hs1:a4 K H1 a (ns.map V.int):=kp1.seq h1 hs
 refine aM _ rfl r _ d1 _ _ rfl hr1 T.br.cl (T.br.no _ (by decide)) rfl ?_
 refine aM _ rfl r _ d1 _ _ rfl hr1 T.br.cl (T.br.no _ (by decide)) rfl (cv _ rfl _ _ rfl rfl (bT d1 _ hr1 (by show 2<1000;decide) ?_))
 have hs2:a4 K (bR H1 r (.ins T.br.C d1 (li "position" (.int (((pos+1:Nat):Int)+(n:Int))) (rf a (pos+1))))) a (ns.map V.int):=iA.seq (fun b o e hb=>by rw [ak hb];exact e) hr1 hs1
 refine aM _ rfl r _ d1 _ _ rfl af T.br.cl (T.br.no _ (by decide)) rfl (bH _ rfl (iX _ rfl _ rfl r _ d1 _ _ rfl af T.br.cl (T.br.no _ (by decide)) rfl (cv _ rfl a _ rfl hs2 fun p hp=> ?_)))
 rw [ME rfl (show(((pos+1:Nat):Int)+(n:Int))=((pos+1+n:Nat):Int) by omega) (by rw [aD];exact hn),←List.map_drop,←List.map_take]
 have nrp:r≠p:=aw af hp
 refine k _ p ⟨d1,?_⟩ af (fun b o e hb=> ?_) ?_
 ·rw [ak nrp,af]
  have e:li "position" (.int (((pos+1:Nat):Int)+(n:Int))) (rf a (pos+1))=rf a (pos+1+n):=by
   rw [show(((pos+1:Nat):Int)+(n:Int))=((pos+1+n:Nat):Int) by omega]
   rfl
  rw [e]
 ·have e1:bR H1 r (.ins T.br.C d1 (li "position" (.int (((pos+1:Nat):Int)+(n:Int))) (rf a (pos+1)))) b=some o:=by rw [ak hb];exact kp1 _ _ e hb
  rw [ak (aw e1 hp)]
  exact e1
 ·cases e:H p with
  | none=>rfl
  | some o=>
   rw [ak (Ne.symm nrp),kp1 _ _ e (Ne.symm nrp)] at hp
   cases hp
def kZ (T:Tx K mg) (H:Hp) (rs:List Addr) (l:List (Int×Int)):Prop:=rs.length=l.length∧∀(j:Nat) r q,rs[j]?=some r→l[j]?=some q→fG T H r q.1 q.2
theorem kZ.si {T:Tx K mg} {H H':Hp} {rs:List Addr} {l:List (Int×Int)} (h:kZ T H rs l) (s:hX H H'):kZ T H' rs l:=⟨h.1,fun j r q a b=>(h.2 j r q a b).si s⟩
theorem PR {xs:List V} {i n:Nat} {k j:Int} (ek:k=(i:Int)) (ej:j=((i+n:Nat):Int)) (h:i≤xs.length):uW xs (some k) (some j)=(xs.drop i).take n:=by
 subst ek ej
 unfold uW HT.sIx
 simp only [cT]
 rw [if_neg (by omega),if_neg (by omega),wB h]
 rcases so (i+n) xs.length with q | q
 ·rw [wB (by omega)]
  congr 1
  omega
 ·rw [Nat.min_eq_right (by omega),lv (by rw [CM];omega),lv (by rw [CM];omega)]
def gk (l:List (Int×Int)) (j:Nat):Int:=(l.getD j (0,1)).2
def Ju (l:List (Int×Int)) (j:Nat):Int:=(l.getD j (0,1)).1
theorem BP {T:Tx K mg} {H:Hp} {rs:List Addr} {l:List (Int×Int)} (h:kZ T H rs l) {j:Nat} (hj:j<l.length):∃r,rs[j]?=some r∧fG T H r (Ju l j) (gk l j):=by
 obtain⟨r,hr⟩:∃r,rs[j]?=some r:=⟨_,bF (by rw [h.1];exact hj)⟩
 refine⟨r,hr,?_⟩
 have e:l[j]?=some (l.getD j (0,1)):=by rw [eX,bF hj];rfl
 exact h.2 j r _ hr e
def P1:Str:="all_lowest.<locals>.<lambda>"
def TB (P:Addr) (H:Hp):Prop:=H P=some (.tbl #[])∨∃c':Addr,H P=some (.tbl #[rawInt 318,rawInt 44,.ref c'])∧H c'=some (.ext fun h=>h.CodeRec (.ref c') P1)
theorem TB.keep {P:Addr} {H H':Hp} (h:TB P H) (k1:∀b ps,H b=some (.tbl ps)→H' b=some (.tbl ps)) (k2:∀b φ,H b=some (.ext φ)→H' b=some (.ext φ)):TB P H':=by
 rcases h with h | ⟨c',h1,h2⟩
 ·exact .inl (k1 _ _ h)
 ·exact .inr ⟨c',k1 _ _ h1,k2 _ _ h2⟩
def IF (T:Tx K mg) (P:Addr):Prop:=∃c,T.dJ.fd.code= .ref c∧∀h:Heap,K.In h→PySem.W.CodeHd h c P
structure KQ (av:List Addr) (H H':Hp):Prop extends KP av H H' where
 t:∀P,TB P H→TB P H'
 x:∀b o u,H b=some (.frz o u)→H' b=some (.frz o u)
theorem KQ.same {av:List Addr} {H H':Hp} (s:aC H H'):KQ av H H':=⟨.same s,fun _ h=>h.keep (fun _ _ e=>s _ _ e) fun _ _ e=>s _ _ e,fun _ _ _ e=>s _ _ e⟩
theorem KQ.tab {av:List Addr} {H H':Hp} {P:Addr} (k:iA H H' P) (h:TB P H) (h':TB P H'):KQ av H H':=by
 obtain⟨ps,hP⟩:∃ps,H P=some (.tbl ps):=by
  rcases h with h | ⟨c',h,_⟩
  ·exact⟨_,h⟩
  ·exact⟨_,h⟩
 refine⟨⟨fun b C dx fs e _=>k _ _ e (bf e hP (by intro z;cases z)),fun b xs e _=>k _ _ e (bf e hP (by intro z;cases z))⟩,fun P2 h2=> ?_,fun b o u e=>k _ _ e (bf e hP (by intro z;cases z))⟩
 by_cases q:P2=P
 ·rw [q];exact h'
 ·rcases h2 with h2 | ⟨c',h2,h3⟩
  ·exact .inl (k _ _ h2 q)
  ·exact .inr ⟨c',k _ _ h2 q,k _ _ h3 (bf h3 hP (by intro z;cases z))⟩
def m5 (T:Tx K mg):Sp:=fun vs H Q _=>∃(a c:Addr) (rs:List Addr) (l:List (Int×Int)) (ps:List Nat) (st:Nat),vs= [.ref a,.ref c,.int st]∧H a=some (.lst (rs.map V.ref))∧kZ T H rs l∧H c=some (.lst (dH ps))∧(∀p∈ps,p<l.length)∧st<ps.length∧∀(H':Hp) (p:Addr),H' p=some (.lst (dH (((ps.drop st).take 16).filter fun j=>decide (gk l j=gk l (ps.getD st 0)))))→aC H H'→H p=none→Q (.ref p) H'
theorem m4 (T:Tx K mg):dM P w base T.fM 1 (m5 T):=by
 refine T.fM.okA dt ?_
 rintro _ A _ s H _ Q E hr ⟨a,c,rs,l,ps,st,rfl,ha,hx,hc,hlt,hst,k⟩
 refine⟨_,(ac (aZ 3 dt.nd (ao (ik (pv 0) (ik (pv 1) (pv 2))) rfl))
   (ae (aj (j4 (own:= [("place",4)]) rfl dt.nd (cD (xu Ba (pv 1) (qy (pv 2)) (qy (aB bY (pv 2) (fh T.Nn))))) (cf (N:= ["ratios","places","start","bottom","place"]) (sc:=ag fb) (by decide+kernel)) (fun _ _ _ _ _=>(kT 4 dt.nd)) (fun _ _ _ _ _=>(ES (aR rK (xr (K':=K) (Gf (w9 (K':=K) rfl) (pv 0) (pv 4) (fun _ _=>rfl)) (by rfl) rfl) (pv 3) (aY _)))) (fun _ _ _ _ _=>(pv 4)))))),?_⟩
 have e0:ps[st]?=some (ps.getD st 0):=by rw [eX,bF hst];rfl
 obtain⟨r0,hr0,⟨d0,h0⟩⟩:=BP hx (hlt _ (eM e0))
 refine bB _ rfl _ rfl (bO _ rfl c _ _ _ rfl rfl (a4.of hc) (pZ rfl e0) (jY a _ _ _ rfl rfl (a4.of ha) (nq rfl hr0) (iG r0 _ d0 _ _ rfl h0 T.aA.cl (T.aA.no _ (by decide)) rfl ?_)))
 refine bB _ rfl _ rfl (eV st rfl _ rfl _ _ rfl rfl (cv _ rfl c _ rfl (a4.of hc) fun G hG=> ?_))
 have ec:uW (dH ps) (some (st:Int)) (some ((st:Int)+16))=dH ((ps.drop st).take 16):=by
  rw [PR (i:=st) (n:=16) rfl (by omega) (by rw [be];omega)]
  unfold dH nats
  rw [←List.map_drop,←List.map_drop,←List.map_take,←List.map_take]
 have sG:=aC.laid (o:= .lst (dH ((ps.drop st).take 16))) hG
 have hGv:bR H G (.lst (uW (dH ps) (some (st:Int)) (some ((st:Int)+16))))=bR H G (.lst (dH ((ps.drop st).take 16))):=by rw [ec]
 refine cZ G rfl ⟨dH ((ps.drop st).take 16),a4.of (by show bR H G (.lst (uW (dH ps) (some (st:Int)) (some ((st:Int)+16)))) G=_;rw [af,ec])⟩ fun L hL=> ?_
 have hL':bR H G (.lst (dH ((ps.drop st).take 16))) L=none:=by rw [←hGv];exact hL
 generalize hg:(ps.drop st).take 16=g at*
 have hglt:∀p∈g,p<l.length:=fun p hp=>hlt p (by rw [←hg] at hp;exact List.mem_of_mem_drop (List.mem_of_mem_take hp))
 have gl:g.length≤16:=by rw [←hg,ic];omega
 have nL:H L=none:=sG.free hL'
 refine jy (xs:=dH g) (fun i H'=>H' L=some (.lst (dH ((g.take i).filter fun j=>decide (gk l j=gk l (ps.getD st 0)))))∧H' G=some (.lst (dH g))∧aC H H') ?_ (fun i H' _ h=>a4.of h.2.1) ?_ ?_
 ·show bR (bR H G (.lst (uW (dH ps) (some (st:Int)) (some ((st:Int)+16))))) L _ L=_∧_∧_
  rw [hGv]
  refine⟨af,?_,sG.trans (aC.laid hL')⟩
  rw [ak (aw af hL'),af]
 ·rintro i v H1 hv ⟨hL1,hG1,s1⟩
  obtain⟨j,hj,rfl⟩:=pY hv
  have hi':=(cb.mp hj).1
  obtain⟨r,hrj,⟨dr,hrr⟩⟩:=BP hx (hglt j (eM hj))
  have fl:∀i,((g.take i).filter fun j=>decide (gk l j=gk l (ps.getD st 0))).length≤16:=fun i=>fQ (Hg _ _) (by rw [ic];omega)
  refine dm rfl _ rfl (bO _ rfl a _ _ _ rfl rfl (a4.of (s1 _ _ ha)) (nq rfl hrj) (iG r _ dr _ _ rfl (s1 _ _ hrr) T.aA.cl (T.aA.no _ (by decide)) rfl (eK _ rfl rfl _ rfl (aX (fun h1=> ?_) (fun h1=> ?_)))))
  ·have h1':gk l j=gk l (ps.getD st 0):=V.int.inj (bj h1)
   refine bB _ rfl _ hL1 (bZ ?_ ?_ ?_ fun q o e=> ?_)
   ·rw [be]
    have:=fl i
    show _<2 ^ 24
    omega
   ·rw [af,gw,Ch.bw hj,Ha,ur,if_pos (aE h1')]
    rfl
   ·rw [ak (fun q=>by rw [←q] at hL';rw [af] at hL';cases hL')]
    exact hG1
   ·rw [ak (aw e nL)]
    exact s1 q o e
  ·have h1':¬gk l j=gk l (ps.getD st 0):=fun q=>h1 (aE (cx V.int q))
   refine⟨?_,hG1,s1⟩
   rw [Ch.bw hj,Ha,ur,if_neg (fun q=>h1' (bj q))]
   rw [List.filter_nil,vE]
   exact hL1
 ·rintro H1 ⟨hL1,hG1,s1⟩
  rw [be,jP] at hL1
  exact k H1 L hL1 s1 nL
def cW (b:Int):List Int→Int→Int
 | [],x=>x
 | t::r,x=>cW b r (x*t%b)
theorem xw (b t:Int):∀(l:List Int) (x:Int),cW b (l++ [t]) x=cW b l x*t%b
 | [],x=>rfl
 | a::r,x=>xw b t r _
theorem zR {b:Int} (hb:0<b):∀(l:List Int) (x:Int),∃P,cW b l x%b=P%b∧x∣P∧∀t∈l,t∣P
 | [],x=>(cZ x rfl (Int.dvd_refl x) fun t h=>nomatch h)
 | a::r,x=>by
  obtain⟨P,e,h1,h2⟩:=zR hb r (x*a%b)
  have key:∀(r:List Int) (y z:Int),y%b=z%b→cW b r y%b=cW b r z%b:=fun r=>by
   induction r with
   | nil=>intro y z h;exact h
   | cons c r ih=>
    intro y z h
    exact ih _ _ (by rw [Int.emod_emod_of_dvd _ (Int.dvd_refl b),Int.emod_emod_of_dvd _ (Int.dvd_refl b),Int.mul_emod,h,←Int.mul_emod])
  have prod:∀(r:List Int) (y:Int),cW b r y%b=(r.foldl (fun u v=>u*v) y)%b:=fun r=>by
   induction r with
   | nil=>intro y;rfl
   | cons c r ih=>
    intro y
    show cW b r (y*c%b)%b=_
    rw [key r (y*c%b) (y*c) (by rw [Int.emod_emod_of_dvd _ (Int.dvd_refl b)]),ih]
    rfl
  have fd:∀(r:List Int) (y:Int),y∣r.foldl (fun u v=>u*v) y∧∀t∈r,t∣r.foldl (fun u v=>u*v) y:=fun r=>by
   induction r with
   | nil=>intro y;exact⟨Int.dvd_refl y,fun t h=>nomatch h⟩
   | cons c r ih=>
    intro y
    obtain⟨i1,i2⟩:=ih (y*c)
    refine⟨Int.dvd_trans (Int.dvd_mul_right y c) i1,fun t h=> ?_⟩
    rcases cF.mp h with q | q
    ·rw [q];exact Int.dvd_trans (Int.dvd_mul_left y c) i1
    ·exact i2 t q
  refine cZ ((a::r).foldl (fun u v=>u*v) x) (prod (a::r) x) (fd (a::r) x).1 (fd (a::r) x).2
def va (T:Tx K mg):Sp:=fun vs H Q _=>∃(a:Addr) (rs:List Addr) (l:List (Int×Int)) (b:Int),vs= [.ref a]∧H a=some (.lst (rs.map V.ref))∧kZ T H rs l∧0<l.length∧l.length≤16∧0<b∧(∀q∈l,q.2=b)∧Sz 600 b∧(∀q∈l,Sz 600 q.1)∧∀(S:Nat),0<S→(∀q∈l,Nat.gcd q.1.natAbs S=Nat.gcd q.1.natAbs b.toNat)→Q (.int (S:Nat)) H
theorem uY (T:Tx K mg):dM P w base T.kO 2 (va T):=by
 refine T.kO.okA dZ ?_
 rintro _ A _ s H _ Q E hr ⟨a,rs,l,b,rfl,ha,hx,hl0,hl,hb,hbs,bz,tz,k⟩
 refine⟨_,(ac (aZ 1 dZ.nd (ao (ik (pv 0) am) rfl))
   (ac (aZ 2 dZ.nd am)
   (ac (d7 cJ rfl (cD (pv 0)) (kT 3 dZ.nd) (ae (aZ 2 dZ.nd (aB vW (aB aJ (pv 2) (ao (pv 3) rfl)) (pv 1)))))
   (ae (aj (bi T.cU (dj T) hr (ab (pv 2) (ab (pv 1) ad)))))))),?_⟩
 obtain⟨r0,hr0,⟨d0,h0⟩⟩:=BP hx hl0
 have eb:gk l 0=b:=hbs _ (by
  have:l[0]?=some (l.getD 0 (0,1)):=by rw [eX,bF hl0];rfl
  exact eM this)
 rw [eb] at h0
 refine bO _ rfl a _ _ _ rfl rfl (a4.of ha) (nq (i:=0) rfl hr0) (iG r0 _ d0 _ _ rfl h0 T.aA.cl (T.aA.no _ (by decide)) rfl ?_)
 refine pE _ rfl a rfl ⟨_,a4.of ha⟩ (eB (xs:=rs.map V.ref) (fun i σ H'=>H'=H∧∃v:Option V,σ= [some (.ref a),some (.int b),some (.int (cW b ((l.take i).map fun q=>q.1) 1)),v]∧Sz 601 (cW b ((l.take i).map fun q=>q.1) 1)) (dm rfl none rfl (by show(1:Int).natAbs<_;exact Nat.one_lt_two_pow (by decide))) (fun i σ H' _ h=>by rw [h.1];exact a4.of ha) ?_ ?_)
 ·rintro i v σ H1 hv ⟨rfl,v1,rfl,pz⟩
  rw [dn] at hv
  obtain⟨r,hrr,rfl⟩:=mP.mp hv
  have hi':i<l.length:=by rw [←hx.1];exact(cb.mp hrr).1
  obtain⟨q,hq⟩:∃q,l[i]?=some q:=⟨_,bF hi'⟩
  obtain⟨dr,hra⟩:=hx.2 i r q hrr hq
  have e:cW b ((l.take (i+1)).map fun q=>q.1) 1=cW b ((l.take i).map fun q=>q.1) 1*q.1%b:=by rw [Ch.bw hq,du];exact xw _ _ _ _
  refine iX _ rfl _ rfl r _ dr _ _ rfl hra T.aA.cl (T.aA.no _ (by decide)) rfl (bP _ _ rfl rfl (bC pz (tz q (eM hq))) (d9 _ rfl _ _ rfl rfl hb (dm rfl _ (by rw [e];rfl) ?_)))
  rw [e]
  exact(bz.emod hb).mono (by decide)
 ·rintro σ H1 ⟨rfl,v1,rfl,pz⟩
  rw [aD,hx.1,jP]
  obtain⟨PP,e1,e2,e3⟩:=zR hb (l.map fun q=>q.1) 1
  refine eV _ rfl _ rfl _ _ rfl hb (k _ (Hj _ (by omega)) fun q hq=> ?_)
  refine Kd.JS hb (e3 _ (lO.mpr ⟨q,hq,rfl⟩)) ?_
  have ep:(cW b (l.map fun q=>q.1) 1)%b=PP%b:=e1
  rw [←ep]
  apply Hi
  ·refine yf ?_ (jg _ _)
   have h1:=Fr.er (cW b (l.map fun q=>q.1) 1) b.toNat
   have h2:((Nat.gcd (cW b (l.map fun q=>q.1) 1).natAbs b.toNat:Nat):Int)∣b:=by
    have:=CJ.mpr (jg (cW b (l.map fun q=>q.1) 1).natAbs b.toNat)
    rwa [cC (fF hb)] at this
   have h3:((Nat.gcd (cW b (l.map fun q=>q.1) 1).natAbs b.toNat:Nat):Int)∣cW b (l.map fun q=>q.1) 1%b:=by
    rw [Int.emod_def]
    exact Int.dvd_sub h1 (IC h2)
   have h4:=Ah.mpr h3
   rwa [kh] at h4
  ·refine yf ?_ (jg _ _)
   have h1:=Fr.er (cW b (l.map fun q=>q.1) 1%b) b.toNat
   have h2:((Nat.gcd (cW b (l.map fun q=>q.1) 1%b).natAbs b.toNat:Nat):Int)∣b:=by
    have:=CJ.mpr (jg (cW b (l.map fun q=>q.1) 1%b).natAbs b.toNat)
    rwa [cC (fF hb)] at this
   have h3:((Nat.gcd (cW b (l.map fun q=>q.1) 1%b).natAbs b.toNat:Nat):Int)∣cW b (l.map fun q=>q.1) 1:=by
    have e:=Int.emod_add_mul_ediv (cW b (l.map fun q=>q.1) 1) b
    conv=>rhs;rw [←e]
    exact Int.dvd_add h1 (IC h2)
   have h4:=Ah.mpr h3
   rwa [kh] at h4
theorem vg (f:Nat→Int) (k:Int):∀(L:List Nat),L.Pairwise (fun i j=>f i≤f j)→(∀j∈L,k≤f j)→L.filter (fun j=>decide (f j=k))=L.take (L.filter (fun j=>decide (f j=k))).length
 | [],_,_=>rfl
 | a::L,hp,hk=>by
  obtain⟨h1,h2⟩:=List.pairwise_cons.mp hp
  by_cases q:f a=k
  ·rw [ur,if_pos (aE q),d5,List.take_succ_cons,←vg f k L h2 fun j hj=>hk j (dU _ hj)]
  ·have e:(a::L).filter (fun j=>decide (f j=k))= []:=by
    rw [List.filter_eq_nil_iff]
    intro j hj
    have ha:=hk a fB
    rcases cF.mp hj with z | z
    ·rw [z];exact fun w=>q (bj w)
    ·have:=h1 j z
     exact fun w=>by have:=bj w;omega
   rw [e]
   rfl
theorem N1 (js:List Nat):(js.map fun j:Nat=>V.int (j:Int))=dH js:=by
 unfold dH nats
 rw [fo]
 rfl
structure zH (T:Tx K mg) (H:Hp) (a p D Pl:Addr) (l:List (Int×Int)) (js:List Nat) (st:Nat) (Hc:Hp):Prop where
 res:∃xs:List Addr,Hc p=some (.lst (xs.map V.ref))∧xs.length=l.length∧∀(m:Nat) (j:Nat) x q,m<st→js[m]?=some j→xs[j]?=some x→l[j]?=some q→jW T Hc x (Vbdeab.mkQ q.1 q.2.toNat)
 pl:Hc D=some (.lst (dH js))
 kp:iA H Hc Pl
 tb:TB Pl Hc
 le:st≤l.length
theorem zH.same {T:Tx K mg} {H Hc Hd:Hp} {a p D Pl:Addr} {l:List (Int×Int)} {js:List Nat} {st:Nat} (I:zH T H a p D Pl l js st Hc) (s:aC Hc Hd):zH T H a p D Pl l js st Hd:=
 let ⟨⟨xs,h1,h2,h3⟩,h4,h5,h6,h7⟩:=I
 ⟨(cZ xs (s _ _ h1) h2 fun m j x q a b c d=>(h3 m j x q a b c d).same s),s _ _ h4,fun b o e hb=>s _ _ (h5 b o e hb),h6.keep (fun _ _ e=>s _ _ e) fun _ _ e=>s _ _ e,h7⟩
theorem zH.put {T:Tx K mg} {H Hc:Hp} {a p D Pl x:Addr} {l:List (Int×Int)} {js:List Nat} {st j:Nat} {q:Int×Int} {xs:List Addr} (I:zH T H a p D Pl l js st Hc) (hp:H p=none) (hD:D≠p) (hP:Pl≠p) (nd:js.Nodup) (hj:js[st]?=some j) (hlt:st<l.length) (hjl:j<l.length) (hq:l[j]?=some q) (hx:jW T Hc x (Vbdeab.mkQ q.1 q.2.toNat))
  (hxs:Hc p=some (.lst (xs.map V.ref))):zH T H a p D Pl l js (st+1) (bR Hc p (.lst ((xs.set j x).map V.ref))):=by
 obtain⟨⟨ys,h1,h2,h3⟩,h4,h5,h6,h7⟩:=I
 have e:ys=xs:=by
  rw [hxs] at h1
  have:=HO.lst.inj (bE h1)
  exact((List.map_inj_right (fun a b z=>V.ref.inj z)).mp this).symm
 subst e
 have si:hX Hc (bR Hc p (.lst ((ys.set j x).map V.ref))):=fun b C dx fs z=>by rw [ak (bf z hxs (by intro w;cases w))];exact z
 refine⟨(cZ _ af (by rw [r9];exact h2) fun m j' x' q' hm e1 e2 e3=> ?_),by rw [ak hD];exact h4,fun b o z hb=>by rw [ak (aw z hp)];exact h5 b o z hb,h6.keep (fun b ps z=>by rw [ak (bf z hxs (by intro w;cases w))];exact z) (fun b φ z=>by rw [ak (bf z hxs (by intro w;cases w))];exact z),by omega⟩
 by_cases hm':m=st
 ·rw [hm',hj] at e1
  cases e1
  rw [Ak (by omega)] at e2
  cases e2
  rw [hq] at e3
  cases e3
  exact hx.si si
 ·have ne:j≠j':=fun z=>by
   rw [←z] at e1
   exact hm' ((List.getElem?_inj (cb.mp e1).1 nd).mp (e1.trans hj.symm))
  rw [Aj ne] at e2
  exact(h3 m j' x' q' (by omega) e1 e2 e3).si si
def AJ (T:Tx K mg):Sp:=fun vs H Q _=>∃(a Pl:Addr) (rs:List Addr) (l:List (Int×Int)),vs= [.ref a]∧H a=some (.lst (rs.map V.ref))∧kZ T H rs l∧l.length≤100000∧(∀q∈l,0<q.2∧Sz 600 q.2∧Sz 600 q.1)∧IF T Pl∧C3 K mg Pl H∧TB Pl H∧∀(H':Hp) (p:Addr) (xs:List Addr),H' p=some (.lst (xs.map V.ref))→xs.length=l.length→(∀(j:Nat) x q,xs[j]?=some x→l[j]?=some q→jW T H' x (Vbdeab.mkQ q.1 q.2.toNat))→iA H H' Pl→TB Pl H'→H p=none→Q (.ref p) H'
theorem As (T:Tx K mg):jV P w K mg base AV 4 T.dJ.f T.dJ.fd ["ratios"] (AJ T):=by
 refine T.dJ.F.okC ck (fun vs H Q E h=> ?_) (fun cdv A outer s H vs Q E hcv hr h=> ?_)
 ·obtain⟨a,Pl,rs,l,rfl,ha,hx,hl,hz,⟨c,hc,hC⟩,bm,tb,k⟩:=h
  rfl
 ·obtain⟨a,Pl,rs,l,rfl,ha,hx,hl,hz,⟨c,hc,hC⟩,bm,tb,k⟩:=h
  refine⟨_,(ac (aZ 1 ck.nd (oS pQ (by rfl) T.C2 (by rfl) (ab (pv 0) ad)))
   (ac (aZ 2 ck.nd (HW (i:=0) hr rfl T.Ms (ab (yH rfl T.di (ab (a8 aW (by rfl) T.gu eh (ab (pv 0) ad)) ad)) ad) rfl rfl rfl rfl rfl (fun _ _ _ _=>rfl) rfl rfl rfl (by decide) rfl rfl (by decide) (by decide) (by decide)))
   (ac (aZ 3 ck.nd am)
   (ac (lg cJ (aR ld (pv 3) (a8 aW (by rfl) T.gu eh (ab (pv 2) ad)) (aY _)) (ac (aZ 4 ck.nd (bi T.fM (m4 T) hr (ab (pv 0) (ab (pv 2) (ab (pv 3) ad)))))
   (ac (aZ 6 ck.nd (bi T.kO (uY T) hr (ab (j4 (own:= [("place",5)]) rfl ck.nd (cD (pv 4)) (cf (N:= ["ratios","results","places","start","group","place","shared"]) (sc:=ag my) (by decide+kernel)) (fun _ _ _ _ _=>(kT 5 ck.nd)) (fun _ _ _ _ _=>dQ) (fun _ _ _ _ _=>(Gf (w9 (K':=K) rfl) (pv 0) (pv 5) (fun _ _=>rfl)))) ad)))
   (ac (d7 cJ rfl (cD (pv 4)) (kT 5 ck.nd) (ae (qA (bi T.lJ (vT T) hr (ab (ik (pv 0) (pv 5)) (ab (pv 6) ad))) (qw (pv 1) (pv 5) iF))))
   (ae (og (i:=3) ck.nd rfl (Or.inl rfl) (a8 aW (by rfl) T.gu eh (ab (pv 4) ad)) ml))))))
   (ae (aj (pv 1))))))),?_⟩
  refine cv _ rfl a _ rfl (.inl (a4.of ha)) fun p hp=> ?_
  have h1a:bR H p (.lst (rs.map V.ref)) a=some (.lst (rs.map V.ref)):=by rw [ak (aw ha hp)];exact ha
  refine lu _ rfl a _ rfl (.inl (a4.of h1a)) ((rs.map V.ref).length:Int) rfl (fe (by omega) (by rw [aD,hx.1];omega) fun rg hrg=> ?_)
  have nPl:∀b o,H b=some o→(∀ps,o≠ .tbl ps)→b≠Pl:=fun b o e hn z=>by
   rcases tb with tb | ⟨_,tb,_⟩
   ·rw [z,tb] at e;exact hn _ (bE e).symm
   ·rw [z,tb] at e;exact hn _ (bE e).symm
  have s1:aC H (bR H p (.lst (rs.map V.ref))):=aC.laid hp
  have s2:aC H (bR (bR H p (.lst (rs.map V.ref))) rg (.rng 0 ((rs.map V.ref).length:Int))):=s1.trans (aC.laid hrg)
  have e2:(rs.map V.ref).length=l.length:=by rw [aD,hx.1]
  refine⟨rg,(jp a Pl c l.length (rs.map V.ref) (l.map (·.2)) rfl (by rw [af,e2]) (by omega) rfl (s2 _ _ ha) (aD _) (fe (fun j kk hj=> ?_) (hcv.symm.trans hc) (bZ hC (bm.keep fun _ _ _ e=>s2 _ _ e) (tb.keep (fun _ _ e=>s2 _ _ e) (fun _ _ e=>s2 _ _ e)) fun G D js k2 tb2 nD v2 v3=> ?_)))⟩
  ·rw [dn] at hj
   obtain⟨q,hq,rfl⟩:=mP.mp hj
   obtain⟨r,hr1,⟨dr,hr2⟩⟩:=BP hx (cb.mp hq).1
   have eb:gk l j=q.2:=by unfold gk;rw [eX,hq];rfl
   rw [eb] at hr2
   exact jY r _ dr _ (by rw [dn,hr1];rfl) (s2 _ _ hr2) T.aA.cl (T.aA.no _ (by decide)) rfl
  rw [N1]
  have pPl:p≠Pl:=fun z=>by
   rcases tb with tb | ⟨_,tb,_⟩
   ·rw [←z,hp] at tb;cases tb
   ·rw [←z,hp] at tb;cases tb
  have prg:p≠rg:=fun z=>by rw [←z,af] at hrg;cases hrg
  have eGp:G p=some (.lst (rs.map V.ref)):=k2 p _ (by rw [ak prg,af]) pPl
  have nDp:D≠p:=fun z=>by rw [z,eGp] at nD;cases nD
  have tb3:TB Pl G:=tb2
  have jl:js.length=l.length:=by rw [v2.length_eq,fm]
  have jlt:∀j∈js,j<l.length:=fun j hj=>List.mem_range.mp (v2.mem_iff.mp hj)
  have jnd:js.Nodup:=v2.nodup_iff.mpr List.nodup_range
  refine⟨fun m σ H'=>∃(st:Nat) (x4 x5 x6:Option V),m+st=l.length∧σ= [some (.ref a),some (.ref p),some (.ref D),some (.int (st:Int)),x4,x5,x6]∧zH T H a p D Pl l js st H',(ot l.length 0 (hJ none none none rfl rfl ?_)),?_⟩
  ·refine⟨(cZ rs (by rw [ak (Ne.symm nDp)];exact eGp) hx.1 fun m j x q hm=>absurd hm (Nat.not_lt_zero _)),af,fun b o e hb=> ?_,tb3.keep (fun b ps e=>by rw [ak (aw e nD)];exact e) (fun b ps e=>by rw [ak (aw e nD)];exact e),bn _⟩
   have gb:=k2 b o (s2 _ _ e) hb
   rw [ak (aw gb nD)]
   exact gb
  ·rintro m σ Hc ⟨st,x4,x5,x6,hm,rfl,I⟩
   refine eV _ rfl _ rfl D _ rfl (.inl (a4.of I.pl)) ⟨_,(eK _ rfl rfl _ rfl (aX (fun h1=>⟨_,fun _ _ z=>z,?_⟩) (fun h1=> ?_)))⟩
   ·have h1':(st:Int)<((dH js).length:Int):=bj h1
    rw [be] at h1'
    have hst:st<js.length:=by omega
    have aPl:a≠Pl:=nPl _ _ ha (by intro ps z;cases z)
    have haC:=I.kp _ _ ha aPl
    have hxC:kZ T Hc rs l:=⟨hx.1,fun j r q h1 h2=>let ⟨dx,e⟩:=hx.2 j r q h1 h2;⟨dx,I.kp _ _ e (nPl _ _ e (by intro ps z;cases z))⟩⟩
    refine bc _ rfl _ rfl _ rfl (jp a D rs l js st rfl haC hxC I.pl jlt hst fun H1 gp hg sg ng=> ?_)
    generalize hk0:gk l (js.getD st 0)=k0 at hg
    generalize hgg:(((js.drop st).take 16).filter fun j=>decide (gk l j=k0))=g at hg
    have bk:∀j,j<l.length→(l.map fun x=>x.2).getD j 0=gk l j:=fun j hj=>by
     unfold gk
     rw [eX,eX,dn,bF hj]
     rfl
    have hsub:List.Sublist ((js.drop st).take 16) js:=(List.take_sublist _ _).trans (List.drop_sublist _ _)
    have hpw:((js.drop st).take 16).Pairwise (fun i j=>gk l i≤gk l j):=(v3.sublist hsub).imp_of_mem fun {x y} hx' hy' h=>by
     rw [bk x (jlt x (hsub.subset hx')),bk y (jlt y (hsub.subset hy'))] at h
     exact h
    have hcons:(js.drop st).take 16=js.getD st 0::(js.drop (st+1)).take 15:=by
     rw [List.drop_eq_getElem_cons hst,List.take_succ_cons,eX,bF hst]
     rfl
    have gpre:g=((js.drop st).take 16).take g.length:=by
     have:=vg (gk l) k0 ((js.drop st).take 16) hpw (fun j hj=>by
      rw [hcons] at hpw hj
      rcases cF.mp hj with z | z
      ·rw [z,hk0];exact Int.le_refl _
      ·rw [←hk0];exact(List.pairwise_cons.mp hpw).1 j z)
     rw [hgg] at this
     exact this
    have g1:0<g.length:=by
     rw [←hgg]
     exact List.length_pos_of_mem (CP.mpr ⟨by rw [hcons];exact fB,aE hk0⟩)
    have g16:g.length≤16:=by rw [←hgg];exact fQ (Hg _ _) (by rw [ic];omega)
    have gb:∀j∈g,gk l j=k0:=fun j hj=>by rw [←hgg] at hj;exact bj (CP.mp hj).2
    have gat:∀(i j:Nat),g[i]?=some j→js[st+i]?=some j:=fun i j e=>by
     have hi:=(cb.mp e).1
     rw [gpre,List.getElem?_take_of_lt hi,List.getElem?_take_of_lt (by omega),List.getElem?_drop] at e
     exact e
    have glt:∀j∈g,j<l.length:=fun j hj=>by
     obtain⟨i,e⟩:=List.getElem?_of_mem hj
     exact jlt j (eM (gat i j e))
    refine pE _ rfl gp rfl ⟨_,a4.of hg⟩ fun L hL=> ?_
    refine jy (xs:=dH g) (fun i H'=>∃gs:List Addr,H' L=some (.lst (gs.map V.ref))∧gs.length=i∧(∀(u:Nat) x j,gs[u]?=some x→g[u]?=some j→rs[j]?=some x)∧H' gp=some (.lst (dH g))∧aC H1 H') ?_ (fun i H' _ h=>let ⟨_,_,_,_,q,_⟩:=h;a4.of q) ?_ ?_
    ·refine bH ([]) af (bZ rfl (fun u x j e=>by simp at e) ?_ (aC.laid hL))
     rw [ak (aw hg hL)]
     exact hg
    ·rintro i v H2 hv ⟨gs,q1,q2,q3,q4,q5⟩
     obtain⟨j,hj,rfl⟩:=pY hv
     obtain⟨r,hrj,_⟩:=BP hx (glt j (eM hj))
     refine dm rfl _ rfl (bO _ rfl a _ _ _ rfl rfl (a4.of (q5 _ _ (sg _ _ haC))) (nq rfl hrj) (eK _ q1 ?_ (gs++ [r]) ?_ (bZ ?_ (fun u x j' e1 e2=> ?_) ?_ fun b o e=> ?_)))
     ·rw [aD]
      have:=(cb.mp hj).1
      show _<2 ^ 24
      omega
     ·rw [af,du]
      rfl
     ·rw [bX,q2]
      rfl
     ·rcases so u gs.length with z | z
      ·rw [nV z] at e1
       exact q3 u x j' e1 e2
      ·rw [nW z] at e1
       have e0:u - gs.length=0:=by
        rcases Ei (u - gs.length) with w | w
        ·exact w
        ·rw [ut (by simp;omega)] at e1;cases e1
       have e3:u=i:=by omega
       rw [e0] at e1
       cases e1
       rw [e3,hj] at e2
       cases e2
       exact hrj
     ·rw [ak (aw hg hL)]
      exact q4
     ·rw [ak (aw e hL)]
      exact q5 _ _ e
    ·rintro H2 ⟨gs,q1,q2,q3,q4,q5⟩
     rw [be] at q2
     have sT:aC Hc H2:=fun b o e=>q5 _ _ (sg _ _ e)
     have hgl:(g.map fun j=>l.getD j (0,1)).length=g.length:=aD _
     have hgr:kZ T H2 gs (g.map fun j=>l.getD j (0,1)):=⟨by rw [hgl];exact q2,fun u x q e1 e2=>by
      rw [dn] at e2
      obtain⟨j,e3,rfl⟩:=mP.mp e2
      obtain⟨r,hrj,⟨dr,hrr⟩⟩:=BP hxC (glt j (eM e3))
      have:=q3 u x j e1 e3
      rw [hrj] at this
      cases this
      exact⟨dr,sT _ _ hrr⟩⟩
     have lmem:∀j∈g,l.getD j (0,1)∈l:=fun j hj=>by
      rw [eX,bF (glt j hj)]
      exact List.getElem_mem _
     obtain⟨j0,hj0⟩:∃j,j∈g:=⟨g[0],List.getElem_mem _⟩
     have hk0p:0<k0∧Sz 600 k0:=by
      have z:=hz _ (lmem j0 hj0)
      have e:(l.getD j0 (0,1)).2=k0:=gb j0 hj0
      rw [e] at z
      exact⟨z.1,z.2.1⟩
     refine jY L gs (g.map fun j=>l.getD j (0,1)) k0 rfl q1 hgr (by rw [hgl];exact g1) (fe (by rw [hgl];exact g16) hk0p.1 (bZ (fun q hq=> ?_) hk0p.2 (fun q hq=> ?_) fun S hS hgcd=> ?_))
     ·obtain⟨j,hj,rfl⟩:=lO.mp hq
      exact gb j hj
     ·obtain⟨j,hj,rfl⟩:=lO.mp hq
      exact(hz _ (lmem j hj)).2.2
     ·have hg2:=q4
      have gpp:gp≠p:=fun z=>by
       obtain⟨xs,x1,_⟩:=I.res
       rw [z,x1] at ng
       cases ng
      refine pE _ rfl gp rfl ⟨_,a4.of hg2⟩ (eB (xs:=dH g) (fun i σ H'=>∃x5:Option V,σ= [some (.ref a),some (.ref p),some (.ref D),some (.int (st:Int)),some (.ref gp),x5,some (.int (S:Nat))]∧zH T H a p D Pl l js (st+i) H'∧H' gp=some (.lst (dH g))) (cZ x5 rfl (I.same sT) hg2) (fun i σ H' _ h=>let ⟨_,_,_,q⟩:=h;a4.of q) ?_ ?_)
      ·rintro i v σ H3 hv ⟨y5,rfl,I3,hg3⟩
       obtain⟨j,hj,rfl⟩:=pY hv
       have jm:=eM hj
       obtain⟨r,hrj,⟨dr,hrr⟩⟩:=BP hx (glt j jm)
       have hq:l[j]?=some (l.getD j (0,1)):=by rw [eX,bF (glt j jm)];rfl
       have hzj:=hz _ (lmem j jm)
       obtain⟨xs,x1,x2,x3⟩:=I3.res
       have hgc:Nat.gcd (Ju l j).natAbs S=Nat.gcd (Ju l j).natAbs (gk l j).toNat:=by
        rw [gb j jm]
        exact hgcd _ (lO.mpr ⟨j,jm,rfl⟩)
       refine bH _ rfl (bO _ rfl a _ _ _ rfl rfl (a4.of (I3.kp _ _ ha aPl)) (nq rfl hrj) (bO _ rfl r (Ju l j) (gk l j) S rfl ⟨dr,I3.kp _ _ hrr (nPl _ _ hrr (by intro ps z;cases z))⟩ hzj.1 (Sz.mono hzj.2.1 (by decide)) (fe hS hgc fun x H4 hQ s4=> ?_)))
       refine bH _ rfl (bO _ rfl p _ _ j rfl rfl (s4 _ _ x1) (p9 rfl (by rw [aD,x2];exact glt j jm)) ?_)
       refine cZ _ rfl ?_ ?_
       ·rw [←yc]
        exact(I3.same s4).put hp nDp (Ne.symm pPl) jnd (gat i j hj) (by have:=(cb.mp (gat i j hj)).1;omega) (glt j jm) hq hQ (s4 _ _ x1)
       ·rw [ak gpp]
        exact s4 _ _ hg3
      ·rintro σ H3 ⟨y5,rfl,I3,hg3⟩
       rw [be] at I3
       refine eV _ rfl _ rfl gp _ rfl (.inl (a4.of hg3)) (bT _ _ rfl rfl (fy (l.length - (st+g.length)) ?_ (st+g.length) _ (bT _ _ ?_ (by rw [be];rfl) I3)))
       ·have:=I3.le
        omega
       ·have:=I3.le
        omega
   ·have h1':¬((st:Int)<((dH js).length:Int)):=fun q=>h1 (aE q)
    rw [be] at h1'
    obtain⟨xs,x1,x2,x3⟩:=I.res
    refine⟨_,rfl,k Hc p xs x1 x2 (fun j x q e1 e2=> ?_) I.kp I.tb hp⟩
    obtain⟨mm,hmm⟩:=List.getElem?_of_mem (v2.mem_iff.mpr (List.mem_range.mpr (cb.mp e2).1))
    exact x3 mm j x q (by have:=(cb.mp hmm).1;omega) hmm e1 e2
theorem Ey {C D x y:Addr} {fs gs:List (Str×V)} (h:¬fs.length=gs.length):HO.ins C x fs≠HO.ins D y gs:=fun z=>h (cx List.length (HO.ins.inj z).2.2)
theorem DT {α:Type}:∀{l:List α} {k:Nat} {y:α},l.Nodup→y ∉ l→(l.set k y).Nodup
 | [],_,_,_,_=>List.nodup_nil
 | x::l,0,y,h,hy=>uu.mpr ⟨fun m=>hy (dU _ m),(uu.mp h).2⟩
 | x::l,k+1,y,h,hy=>by
  obtain⟨h1,h2⟩:=uu.mp h
  refine uu.mpr ⟨fun m=> ?_,DT h2 fun m=>hy (dU _ m)⟩
  rcases List.mem_or_eq_of_mem_set m with q | q
  ·exact h1 q
  ·exact hy (by rw [←q];exact fB)
def PQ (l l2:Addr):List (Str×V):= [("streams",.ref l),("distributions",.ref l2)]
theorem Ln {C D x y:Addr} {n m:Str} {u v:V} {fs gs:List (Str×V)} (h:n≠m):HO.ins C x ((n,u)::fs)≠HO.ins D y ((m,v)::gs):=fun z=>by
 have e:=(HO.ins.inj z).2.2
 injection e with e1 _
 injection e1 with e2 _
 exact h e2
structure Gh where
 o:Addr
 l2:Addr
 P:Addr
def Gh.av (G:Gh) (l:Addr):List Addr:= [G.o,l,G.l2]
variable {G:Gh}
theorem KQ.keep1 {av:List Addr} {H H':Hp} {a C dx:Addr} {fs:List (Str×V)} (k:iA H H' a) (h:H a=some (.ins C dx fs)) (hf:PV fs=false):KQ av H H':=by
 refine⟨⟨fun b C' dx' fs' e h'=>k _ _ e fun q=> ?_,fun b xs e _=>k _ _ e (bf e h (by intro z;cases z))⟩,fun P h2=>h2.keep (fun b ps e=>k _ _ e (bf e h (by intro z;cases z))) fun b φ e=>k _ _ e (bf e h (by intro z;cases z)),fun b o u e=>k _ _ e (bf e h (by intro z;cases z))⟩
 subst q
 rw [h] at e
 cases e
 rw [hf] at h'
 cases h'
theorem KQ.set {av:List Addr} {H:Hp} {l:Addr} {xs:List V} {o:HO} (hl:l∈av) (h:H l=some (.lst xs)):KQ av H (bR H l o):=
 ⟨⟨fun b C dx fs e _=>by rw [ak (bf e h (by intro z;cases z))];exact e,fun b ys e hb=>by rw [ak fun q=>hb (by rw [q];exact hl)];exact e⟩,fun P h2=>h2.keep (fun b ps e=>by rw [ak (bf e h (by intro z;cases z))];exact e) fun b φ e=>by rw [ak (bf e h (by intro z;cases z))];exact e,fun b o u e=>by rw [ak (bf e h (by intro z;cases z))];exact e⟩
structure DW (T:Tx K mg) (G:Gh) (l:Addr) (H:Hp) (ds:List (Option Vbdeab.Dist)):Prop where
 vs:∃vs:List V,H G.l2=some (.lst vs)∧vs.length=64∧∀(j:Nat) v x,vs[j]?=some v→ds[j]?=some x→ja T (G.av l) H v x
 dlen:ds.length=64
 oo:∃xs,H G.o=some (.lst xs)
 n1:l≠G.o
 n2:G.l2≠G.o
 n3:l≠G.l2
 tb:TB G.P H
 to:IF T G.P
 bm:C3 K mg G.P H
theorem DW.keep {T:Tx K mg} {l:Addr} {H H':Hp} {ds:List (Option Vbdeab.Dist)} (h:DW T G l H ds) (kp:KQ (G.av l) H H') (lk:∀c xs,H c=some (.lst xs)→c≠l→H' c=some (.lst xs)):DW T G l H' ds:=by
 obtain⟨⟨vs,h1,h2,h3⟩,dlen,⟨xs,oo⟩,n1,n2,n3,tb,to,bm⟩:=h
 exact⟨(cZ vs (lk _ _ h1 (Ne.symm n3)) h2 fun j v x a b=>(h3 j v x a b).kp kp.toKP),dlen,⟨xs,lk _ _ oo (Ne.symm n1)⟩,n1,n2,n3,kp.t _ tb,to,bm.keep kp.x⟩
theorem DW.same {T:Tx K mg} {l:Addr} {H H':Hp} {ds:List (Option Vbdeab.Dist)} (h:DW T G l H ds) (s:aC H H'):DW T G l H' ds:=h.keep (.same s) fun _ _ e _=>s _ _ e
theorem DW.keep1 {T:Tx K mg} {l a C dx:Addr} {fs:List (Str×V)} {H H':Hp} {ds:List (Option Vbdeab.Dist)} (h:DW T G l H ds) (k:iA H H' a) (e:H a=some (.ins C dx fs)) (hf:PV fs=false):DW T G l H' ds:=h.keep (.keep1 k e hf) fun _ _ q _=>k _ _ q (bf q e (by intro z;cases z))
def zJ (K:PySem.W.Frag) (H:Hp) (a:Addr) (ns:List Int):Prop:=(∃q,H a=some (.frz q (.lst (ns.map V.int))))∨((∀H':Hp,a4 K H' a (ns.map V.int)))
theorem zJ.sq {H:Hp} {a:Addr} {ns:List Int} (h:zJ K H a ns):a4 K H a (ns.map V.int):=by
 rcases h with⟨q,h⟩ | h
 ·exact .inl (.inr ⟨q,h⟩)
 ·exact h H
theorem zJ.keep {H H':Hp} {a:Addr} {ns:List Int} (k:∀c q u,H c=some (.frz q u)→H' c=some (.frz q u)) (h:zJ K H a ns):zJ K H' a ns:=by
 rcases h with⟨q,h⟩ | h
 ·exact .inl ⟨q,k _ _ _ h⟩
 ·exact .inr h
structure Wd (G:Gh) (T:Tx K mg) (H:Hp) (b r l a:Addr) (as:List Addr) (S:State) (ns:List Int) (pos:Nat):Prop where
 bank:∃dx,H b=some (.ins T.aQ.C dx (PQ l G.l2))
 rd:me T H r a pos
 req:zJ K H a ns
 lst:H l=some (.lst (as.map V.ref))
 nd:as.Nodup
 len:as.length=64
 slen:S.streams.length=64
 at_:∀(j:Nat) (x:Addr) (t:Stream),as[j]?=some x→S.streams[j]?=some t→bS T H x t
 ok:∀t∈S.streams,t.state<Vbdeab.P
 dw:DW T G l H S.dists
def KI (H H':Hp):Prop:=∀(x:Addr) (xs:List Int),H x=some (.lst (xs.map V.int))→H' x=some (.lst (xs.map V.int))
theorem KI.refl (H:Hp):KI H H:=fun _ _ h=>h
theorem KI.trans {H H1 H2:Hp} (a:KI H H1) (b:KI H1 H2):KI H H2:=fun x xs h=>b x xs (a x xs h)
def NF (H:Hp) (p:Addr):Prop:=∀(x:Addr) (xs:List Int),H x=some (.lst (xs.map V.int))→x≠p
theorem KI.nf {H H1:Hp} {p:Addr} (ki:KI H H1) (hp:H1 p=none):NF H p:=fun x xs h q=>by
 have z:=ki x xs h
 rw [q,hp] at z
 cases z
theorem KI.same {H H':Hp} (s:aC H H'):KI H H':=fun _ _ h=>s _ _ h
theorem KI.keep1 {H H':Hp} {a C dx:Addr} {fs:List (Str×V)} (k:iA H H' a) (h:H a=some (.ins C dx fs)):KI H H':=fun _ _ e=>k _ _ e (bf e h (by intro z;cases z))
section
variable {T:Tx K mg} {H H':Hp} {b r l a:Addr} {as:List Addr} {S:State} {ns:List Int} {pos:Nat}
theorem Wd.sq (W:Wd G T H b r l a as S ns pos):a4 K H a (ns.map V.int):=W.req.sq
theorem Wd.same (W:Wd G T H b r l a as S ns pos) (s:aC H H'):Wd G T H' b r l a as S ns pos:=by
 obtain⟨⟨dx,hb⟩,⟨dr,hr⟩,hq,hl,nd,len,sl,at_,ok,dw⟩:=W
 exact⟨⟨dx,s _ _ hb⟩,⟨dr,s _ _ hr⟩,hq.keep (fun _ _ _ e=>s _ _ e),s _ _ hl,nd,len,sl,fun j x t h1 h2=>let ⟨d,h⟩:=at_ j x t h1 h2;⟨d,s _ _ h⟩,ok,dw.same s⟩
theorem Wd.sGet (W:Wd G T H b r l a as S ns pos) {k:Nat} (h:k<64):∃x t,as[k]?=some x∧S.streams[k]?=some t∧S.stream k=t∧bS T H x t∧t.state<Vbdeab.P:=by
 have h1:k<as.length:=by rw [W.len];exact h
 have h2:k<S.streams.length:=by rw [W.slen];exact h
 refine cI (as[k]) (S.streams[k]) (bF h1) (bZ (bF h2) ?_ (W.at_ k _ _ (bF h1) (bF h2)) (W.ok _ (List.getElem_mem h2)))
 unfold State.stream
 rw [eX,bF h2]
 rfl
theorem Wd.reader (W:Wd G T H b r l a as S ns pos) {pos':Nat} (h1:me T H' r a pos') (kp:iA H H' r):Wd G T H' b r l a as S ns pos':=by
 obtain⟨⟨dx,hb⟩,⟨dr,hr⟩,hq,hl,nd,len,sl,at_,ok,dw⟩:=W
 refine⟨⟨dx,kp _ _ hb (bf hb hr (Ln (by decide)))⟩,h1,hq.keep (fun _ _ _ e=>kp _ _ e (bf e hr (by intro z;cases z))),kp _ _ hl (bf hl hr (by intro z;cases z)),nd,len,sl,fun j x t h2 h3=> ?_,ok,dw.keep1 kp hr rfl⟩
 obtain⟨d,h⟩:=at_ j x t h2 h3
 exact⟨d,kp _ _ h (bf h hr (Ey (by show ¬4=2;decide)))⟩
theorem LW {k:Nat} {t:Stream} (ok:∀t∈S.streams,t.state<Vbdeab.P) (h:t.state<Vbdeab.P):∀u∈(S.put k t).streams,u.state<Vbdeab.P:=fun u hu=>by
 rcases List.mem_or_eq_of_mem_set (show u∈S.streams.set k t from hu) with q | q
 ·exact ok u q
 ·rw [q];exact h
theorem Wd.stream (W:Wd G T H b r l a as S ns pos) {k:Nat} {x:Addr} {t t':Stream} (hx:as[k]?=some x) (h0:bS T H x t) (h1:bS T H' x t') (kp:iA H H' x) (hlt:t'.state<Vbdeab.P):Wd G T H' b r l a as (S.put k t') ns pos:=by
 obtain⟨⟨dx,hb⟩,⟨dr,hr⟩,hq,hl,nd,len,sl,at_,ok,dw⟩:=W
 obtain⟨d0,h0⟩:=h0
 refine⟨⟨dx,kp _ _ hb (bf hb h0 (Ey (by show ¬2=4;decide)))⟩,⟨dr,kp _ _ hr (bf hr h0 (Ey (by show ¬2=4;decide)))⟩,hq.keep (fun _ _ _ e=>kp _ _ e (bf e h0 (by intro z;cases z))),kp _ _ hl (bf hl h0 (by intro z;cases z)),nd,len,?_,fun j y u h2 h3=> ?_,LW ok hlt,dw.keep1 kp h0 rfl⟩
 ·show(S.streams.set k t').length=64
  rw [r9]
  exact sl
 ·have h3':(S.streams.set k t')[j]?=some u:=h3
  by_cases hj:j=k
  ·subst hj
   have e1:y=x:=bE (h2.symm.trans hx)
   subst e1
   have hk:j<S.streams.length:=by rw [sl,←len];exact(cb.mp hx).1
   rw [Ak hk] at h3'
   cases h3'
   exact h1
  ·rw [Aj (fun q=>hj q.symm)] at h3'
   obtain⟨d,h⟩:=at_ j y u h2 h3'
   exact⟨d,kp _ _ h fun q=>hj (O3 nd h2 (by rw [q];exact hx))⟩
theorem Wd.replace (W:Wd G T H b r l a as S ns pos) {k:Nat} {y:Addr} {t':Stream} (hk:k<64) (hy:y ∉ as) (h1:bS T H y t') (hlt:t'.state<Vbdeab.P):
  Wd G T (bR H l (.lst ((as.set k y).map V.ref))) b r l a (as.set k y) (S.put k t') ns pos:=by
 obtain⟨⟨dx,hb⟩,⟨dr,hr⟩,hq,hl,nd,len,sl,at_,ok,dw⟩:=W
 obtain⟨d1,h1⟩:=h1
 have kp:∀c o,H c=some o→c≠l→bR H l (.lst ((as.set k y).map V.ref)) c=some o:=fun c o e n=>by rw [ak n];exact e
 refine⟨⟨dx,kp _ _ hb (bf hb hl (by intro z;cases z))⟩,⟨dr,kp _ _ hr (bf hr hl (by intro z;cases z))⟩,hq.keep (fun _ _ _ e=>kp _ _ e (bf e hl (by intro z;cases z))),af,?_,?_,?_,fun j z u h2 h3=> ?_,LW ok hlt,dw.keep (.set (by unfold Gh.av;simp) hl) (fun c xs e n=>kp _ _ e n)⟩
 ·exact DT nd hy
 ·rw [r9];exact len
 ·show(S.streams.set k t').length=64
  rw [r9]
  exact sl
 ·have h3':(S.streams.set k t')[j]?=some u:=h3
  by_cases hj:j=k
  ·subst hj
   rw [Ak (by omega)] at h2 h3'
   cases h2
   cases h3'
   exact⟨d1,kp _ _ h1 (bf h1 hl (by intro z;cases z))⟩
  ·rw [Aj (fun q=>hj q.symm)] at h2 h3'
   obtain⟨d,h⟩:=at_ j z u h2 h3'
   exact⟨d,kp _ _ h (bf h hl (by intro z;cases z))⟩
theorem Wd.kiSet (W:Wd G T H b r l a as S ns pos) (o:HO):KI H (bR H l o):=fun x xs h=>by
 refine(ak fun q=> ?_).trans h
 rw [q,W.lst] at h
 have e:=HO.lst.inj (bE h)
 have len:=W.len
 match as,len,xs,e with
 | x::_,_,[],e=>simp at e
 | x::_,_,z::_,e=>simp at e
end
def df (T:Tx K mg) (R:List Int→Vbdeab.Call→List Int→Prop):Sp:=fun vs H Q _=>∃(G:Gh) (b r l a:Addr) (as:List Addr) (S:State) (ns:List Int) (pos:Nat) (c:Vbdeab.Call) (rest:List Int),vs= [.ref b,.ref r]∧Wd G T H b r l a as S ns pos∧R (ns.drop pos) c rest∧
 ∀(H':Hp) (p:Addr) (as':List Addr) (pos':Nat),Wd G T H' b r l a as' (Vbdeab.step S c).1 ns pos'→ns.drop pos'=rest→H' p=some (.lst ((Vbdeab.step S c).2.map V.int))→KI H H'→NF H p→Q (.ref p) H'
theorem aF {T:Tx K mg} {H H1:Hp} {b r l a:Addr} {as1:List Addr} {S S1:State} {ns:List Int} {pos1:Nat} {c:Vbdeab.Call} {rest zs:List Int} {Q:VK}
  (k:∀(H':Hp) (p:Addr) (as':List Addr) (pos':Nat),Wd G T H' b r l a as' (Vbdeab.step S c).1 ns pos'→ns.drop pos'=rest→H' p=some (.lst ((Vbdeab.step S c).2.map V.int))→KI H H'→NF H p→Q (.ref p) H')
  (W:Wd G T H1 b r l a as1 S1 ns pos1) (hd:ns.drop pos1=rest) (ki:KI H H1) (es:Vbdeab.step S c=(S1,zs)):∀p,H1 p=none→Q (.ref p) (bR H1 p (.lst (zs.map V.int))):=fun p hp=>by
 rw [es] at k
 exact k _ p as1 pos1 (W.same (aC.laid hp)) hd af (ki.trans (KI.same (aC.laid hp))) (ki.nf hp)
theorem k6 {ns:List Int} {pos:Nat} {z:Int} {rest:List Int} (h:ns.drop pos=z::rest):ns[pos]?=some z∧ns.drop (pos+1)=rest:=by
 constructor
 ·have:=cx List.head? h
  rwa [List.head?_drop] at this
 ·rw [←List.drop_drop,h]
  rfl
theorem aN {T:Tx K mg} {H0 H:Hp} {b r l a:Addr} {as:List Addr} {S:State} {ns rest:List Int} {pos:Nat} {z:Int} {σ:L2.St} {Q:V→Hp→Prop} (W:Wd G T H b r l a as S ns pos) (hd:ns.drop pos=z::rest) (ki:KI H0 H) (hσ:σ[1]?=some (some (.ref r)))
  (k:∀H1,Wd G T H1 b r l a as S ns (pos+1)→ns.drop (pos+1)=rest→KI H0 H1→Q (.int z) H1):GY T.br.C "take" (pq T) [] E0 (Ox 1) Ma σ H Q:=by
 obtain⟨g1,hd1⟩:=k6 hd
 obtain⟨dr,hr⟩:=id W.rd
 exact cM _ hσ r dr _ rfl hr rfl ⟨r,(jY a _ ns _ rfl ⟨dr,hr⟩ W.sq g1 fun H1 hr1 kp1=>k H1 (W.reader hr1 kp1) hd1 (ki.trans (KI.keep1 kp1 hr)))⟩
theorem cE (k:Int):streamOk k=decide (0≤k∧k≤63):=by
 unfold streamOk within
 by_cases h1:0≤k<;>by_cases h2:k≤63<;>simp [h1,h2]
theorem fc (k:Int):stateOk k=decide (0≤k∧k≤18446744073709551615):=by
 have e:(Vbdeab.P:Int)=18446744073709551616:=rfl
 unfold stateOk
 rw [e]
 by_cases h1:0≤k<;>by_cases h2:k<18446744073709551616<;>simp [h1,h2]<;>omega
theorem cu (n a b:Int):within n a b=decide (a≤n∧n≤b):=by
 unfold within
 by_cases h1:a≤n<;>by_cases h2:n≤b<;>simp [h1,h2]
theorem eD {p:Prop} [Decidable p] (h:(!decide p)=true):¬p:=fun q=>by rw [aE q] at h;cases h
theorem cg {p:Prop} [Decidable p] (h:¬(!decide p)=true):p:=by
 by_cases q:p
 ·exact q
 ·exact absurd (by rw [bq q];rfl) h
theorem iQ {S:State} {k:Int} {f:Stream→Except Int (Stream×List Int)} (h:¬(0≤k∧k≤63)):onStream S k f=(S,[-1]):=by
 unfold onStream
 rw [cE,bq h,if_pos rfl]
theorem iR {S:State} {k e:Int} {f:Stream→Except Int (Stream×List Int)} (h:0≤k∧k≤63) (hf:f (S.stream k.toNat)= .error e):onStream S k f=(S,[e]):=by
 unfold onStream
 rw [cE,aE h,if_neg (by decide),hf]
theorem mt {S:State} {k:Int} {r:Stream×List Int} {f:Stream→Except Int (Stream×List Int)} (h:0≤k∧k≤63) (hf:f (S.stream k.toNat)= .ok r):onStream S k f=(S.put k.toNat r.1,0::r.2):=by
 unfold onStream
 rw [cE,aE h,if_neg (by decide),hf]
theorem GU (S:State) (k:Int):Vbdeab.step S (.raw k)=onStream S k fun t=> .ok ((Vbdeab.raw t).1,[((Vbdeab.raw t).2:Int)]):=by rw [Vbdeab.step]
def Ct (T:Tx K mg):Sp:=df T (fun d c rest=>∃k,d=k::rest∧c= .raw k)
theorem LH (T:Tx K mg):dM P w base T.CV 3 (Ct T):=by
 refine T.CV.okA GA ?_
 rintro _ A _ s H _ Q E hr ⟨G,b,r,l,a,as,S,ns,pos,c,rest,rfl,W,⟨k,hd,rfl⟩,kk⟩
 refine⟨_,(ac (aZ 2 GA.nd (eJ (pv 1) T.au (ah T) hr))
   (ac (aT (aV (aS (bi T.bA (a5 T) hr (ab (pv 2) ad)))) (ae (aj (aI (ab (fh T.bb) ad)))) aG)
   (ae (aj (aI (ab am (ab (eJ (ik (ao (pv 0) rfl) (pv 2)) T.bJ (bV T) hr) ad))))))),?_⟩
 obtain⟨g1,hd1⟩:=k6 hd
 obtain⟨dr,hr⟩:=id W.rd
 refine cM _ rfl r dr _ rfl hr rfl ⟨r,(jY a pos ns _ rfl ⟨dr,hr⟩ W.sq g1 fun H1 hr1 kp1=> ?_)⟩
 have W1:=W.reader hr1 kp1
 have ki1:=KI.keep1 kp1 hr
 refine bc _ rfl k rfl _ rfl (aX (fun h1=> ?_) (fun h1=> ?_))
 ·exact⟨(by show 1≤sizeLine;decide),aF kk W1 hd1 ki1 ((GU S k).trans (iQ (eD h1)))⟩
 ·have hk:=cg h1
  obtain⟨x,t,hx,ht,est,hst,hlt⟩:=W1.sGet (k:=k.toNat) (by omega)
  obtain⟨db,hb⟩:=id W1.bank
  obtain⟨dx,hxo⟩:=id hst
  refine aM _ rfl b _ db _ _ rfl hb T.aQ.cl (T.aQ.no _ (by decide)) rfl (bO _ rfl l _ _ _ rfl rfl (a4.of W1.lst) (ve (j:=k.toNat) (v:=V.ref x) (by omega) (by rw [dn,hx];rfl)) ⟨x,(jo dx _ rfl hxo rfl x t rfl hst fun H2 hs2 kp2=> ?_)⟩)
  have W2:=W1.stream (t':=(Vbdeab.raw t).1) hx hst hs2 kp2 (by rw [xy];exact iZ _ Lc.C4)
  exact⟨(by show 2≤sizeLine;decide),aF (zs:= [0,((Vbdeab.raw t).2:Nat)]) kk W2 hd1 (ki1.trans (KI.keep1 kp2 hxo)) ((GU S k).trans (mt (r:=((Vbdeab.raw t).1,[((Vbdeab.raw t).2:Int)])) hk (by rw [est])))⟩
end
end Pf
namespace Pf
open PySem PySem.Spec PyProof.Rows L2
section
variable {P:Program} {w:World} {K:PySem.W.Frag} {mg:Str→Option Value} {base:Heap} {G:Gh}
theorem JW {as:List Addr} {k:Int} {x:Addr} (h:0≤k) (hx:as[k.toNat]?=some x):KM (as.map V.ref) k=some (V.ref x):=ve (j:=k.toNat) (v:=V.ref x) (by omega) (by rw [dn,hx];rfl)
theorem HL {T:Tx K mg} {H:Hp} {b r l a:Addr} {as:List Addr} {S:State} {ns:List Int} {pos:Nat} (W:Wd G T H b r l a as S ns pos) {y:Addr} (hy:H y=none):y ∉ as:=fun m=>by
 obtain⟨j,hj,e⟩:=List.getElem_of_mem m
 have h2:j<S.streams.length:=by rw [W.slen,←W.len];exact hj
 obtain⟨d,h⟩:=W.at_ j y _ (by rw [bF hj,e]) (bF h2)
 rw [hy] at h
 cases h
theorem KE (S:State) (k x:Int):Vbdeab.step S (.seed k x)=if streamOk k=false then(S,[-1]) else if stateOk x=false then(S,[-2]) else(S.put k.toNat ⟨x.toNat,x.toNat,0,false⟩,[0]):=by rw [Vbdeab.step]
theorem KD (S:State) (k n:Int):Vbdeab.step S (.raws k n)=onStream S k fun t=>if within n 0 1000=false then .error (-3) else .ok ((Vbdeab.raws n.toNat t).1,shownRow (nats (Vbdeab.raws n.toNat t).2)):=by rw [Vbdeab.step]
theorem KF (S:State) (k n:Int):Vbdeab.step S (.skip k n)=onStream S k fun t=>if stateOk n=false then .error (-2) else .ok (t.moved n.toNat,[]):=by rw [Vbdeab.step]
theorem Kw (S:State) (k n:Int):Vbdeab.step S (.back k n)=onStream S k fun t=>if stateOk n=false then .error (-2) else .ok ({t with state:=Vbdeab.back n.toNat t.state,count:=t.count - n},[]):=by rw [Vbdeab.step]
theorem GT (S:State) (k n:Int):Vbdeab.step S (.mirror k n)=onStream S k fun t=>if within n 0 1=false then .error (-4) else .ok ({t with mirror:=decide (n=1)},[]):=by rw [Vbdeab.step]
theorem Iq (S:State) (k:Int):Vbdeab.step S (.where_ k)=onStream S k fun t=> .ok (t,[(t.state:Int),(t.seed:Int),t.count,if t.mirror=true then 1 else 0]):=by rw [Vbdeab.step]
theorem L7 (S:State) (x y:Int):Vbdeab.step S (.far x y)=if stateOk x=false∨stateOk y=false then(S,[-2]) else(S,[0,((Vbdeab.far x.toNat y.toNat:Nat):Int)]):=by rw [Vbdeab.step]
theorem KA (S:State) (k y:Int):Vbdeab.step S (.goto k y)=onStream S k fun t=>if stateOk y=false then .error (-2) else .ok (t.moved (Vbdeab.far t.state y.toNat),[(Vbdeab.far t.state y.toNat:Int)]):=by rw [Vbdeab.step]
theorem Ky (S:State) (k j:Int):Vbdeab.step S (.copy k j)=if streamOk k=false∨streamOk j=false then(S,[-1]) else(S.put k.toNat (S.stream j.toNat),[0]):=by rw [Vbdeab.step]
theorem dN {p:Prop} [Decidable p] (h:¬p):(decide p=false):=bq h
def zo (T:Tx K mg):Sp:=df T (fun d c rest=>∃k s,d=k::s::rest∧c= .seed k s)
theorem Kk (T:Tx K mg):dM P w base T.wP 3 (zo T):=by
 refine T.wP.okA yT ?_
 rintro _ A _ s H _ Q E hr ⟨G,b,r,l,a,as,S,ns,pos,c,rest,rfl,W,⟨k,s,hd,rfl⟩,kk⟩
 refine⟨_,(ac (aZ 2 yT.nd (eJ (pv 1) T.au (ah T) hr))
   (ac (aZ 3 yT.nd (eJ (pv 1) T.au (ah T) hr))
   (ac (aT (aV (aS (bi T.bA (a5 T) hr (ab (pv 2) ad)))) (ae (aj (aI (ab (fh T.bb) ad)))) aG)
   (ac (aT (aV (aS (bi T.gS (fT T) hr (ab (pv 3) ad)))) (ae (aj (aI (ab (fh T.iJ) ad)))) aG)
   (ac (qA (Ag T.fk (gW T) hr (ab (pv 3) ad)) (qw (ao (pv 0) rfl) (pv 2) iF))
   (ae (aj (aI (ab am ad))))))))),?_⟩
 have W0:=W;have ki0:=KI.refl H;have hd0:=hd
 refine aN W0 hd0 ki0 rfl fun H1 W1 hd1 ki1=> ?_
 refine aN W1 hd1 ki1 rfl fun H2 W2 hd2 ki2=> ?_
 have es:=KE S k s
 rw [cE,fc] at es
 refine bc _ rfl k rfl _ rfl (aX (fun h1=> ?_) (fun h1=> ?_))
 ·rw [if_pos (dN (eD h1))] at es
  exact⟨(by show 1≤sizeLine;decide),aF kk W2 hd2 ki2 es⟩
 ·have hk:=cg h1
  rw [aE hk,if_neg (by decide)] at es
  refine bc _ rfl s rfl _ rfl (aX (fun h2=> ?_) (fun h2=> ?_))
  ·rw [if_pos (dN (eD h2))] at es
   exact⟨(by show 1≤sizeLine;decide),aF kk W2 hd2 ki2 es⟩
  ·have hs:=cg h2
   rw [aE hs,if_neg (by decide)] at es
   refine⟨_,rfl,?_⟩
   intro y dy ny nd _
   refine de ny nd (fun H3 hy s3=> ?_) ⟨s.toNat,by rw [cC hs.1],rfl⟩
   have W3:=W2.same s3
   obtain⟨db,hb⟩:=id W3.bank
   have W4:=W3.replace (k:=k.toNat) (t':=⟨s.toNat,s.toNat,0,false⟩) (by omega) (HL W2 ny) ⟨dy,hy⟩ (by show s.toNat<18446744073709551616;omega)
   refine aM _ rfl b _ db _ _ rfl hb T.aQ.cl (T.aQ.no _ (by decide)) rfl (bO _ rfl l _ _ k.toNat rfl rfl W3.lst (p9 (by omega) (by rw [aD,W3.len];omega)) ?_)
   rw [←yc]
   exact⟨(by show 1≤sizeLine;decide),aF kk W4 hd2 ((ki2.trans (KI.same s3)).trans (W3.kiSet _)) es⟩
theorem sX (l:List Nat):(nats l).length=l.length:=by unfold nats;rw [aD]
theorem uJ {t:Stream} (h:t.state<Vbdeab.P):∀n,(Vbdeab.raws n t).1.state<Vbdeab.P
 | 0=>by rw [Ch.dA];exact h
 | n+1=>by rw [Ch.fU,xy];exact iZ _ Lc.C4
def zm (T:Tx K mg):Sp:=df T (fun d c rest=>∃k n,d=k::n::rest∧c= .raws k n)
theorem Kj (T:Tx K mg):dM P w base T.wO 3 (zm T):=by
 refine T.wO.okA l6 ?_
 rintro _ A _ s H _ Q E hr ⟨G,b,r,l,a,as,S,ns,pos,c,rest,rfl,W,⟨k,n,hd,rfl⟩,kk⟩
 refine⟨_,(ac (aZ 2 l6.nd (eJ (pv 1) T.au (ah T) hr))
   (ac (aZ 3 l6.nd (eJ (pv 1) T.au (ah T) hr))
   (ac (aT (aV (aS (bi T.bA (a5 T) hr (ab (pv 2) ad)))) (ae (aj (aI (ab (fh T.bb) ad)))) aG)
   (ac (aT (aV (aS (bi T.gR (gA T) hr (ab (pv 3) ad)))) (ae (aj (aI (ab (fh T.fE) ad)))) aG)
   (ac (aZ 4 l6.nd (ik (ao (pv 0) rfl) (pv 2)))
   (ae (aj (aB e9 (aI (ab am (ab (pv 3) ad))) (j4 (own:= [("i",5)]) rfl l6.nd (cq rfl T.di (ab (pv 3) ad)) (cf (N:= ["bank","reader","k","n","stream","i"]) (sc:=ag BX) (by decide+kernel)) (fun _ _ _ _ _=>(kT 5 l6.nd)) (fun _ _ _ _ _=>dQ) (fun _ _ _ _ _=>(eJ (pv 4) T.bJ (bV T) hr))))))))))),?_⟩
 have W0:=W;have ki0:=KI.refl H;have hd0:=hd
 refine aN W0 hd0 ki0 rfl fun H1 W1 hd1 ki1=> ?_
 refine aN W1 hd1 ki1 rfl fun H2 W2 hd2 ki2=> ?_
 have es:=KD S k n
 refine bc _ rfl k rfl _ rfl (aX (fun h1=> ?_) (fun h1=> ?_))
 ·rw [iQ (eD h1)] at es
  exact⟨(by show 1≤sizeLine;decide),aF kk W2 hd2 ki2 es⟩
 ·have hk:=cg h1
  refine bc _ rfl n rfl _ rfl (aX (fun h2=> ?_) (fun h2=> ?_))
  ·rw [iR (e:= -3) hk (by rw [cu,if_pos (dN (eD h2))])] at es
   exact⟨(by show 1≤sizeLine;decide),aF kk W2 hd2 ki2 es⟩
  ·have hn:=cg h2
   obtain⟨x,t,hx,ht,est,hst,hlt⟩:=W2.sGet (k:=k.toNat) (by omega)
   rw [mt (r:=((Vbdeab.raws n.toNat t).1,shownRow (nats (Vbdeab.raws n.toNat t).2))) hk (by rw [est,cu,aE hn,if_neg (by decide)])] at es
   obtain⟨db,hb⟩:=id W2.bank
   obtain⟨dx,hxo⟩:=id hst
   refine aM _ rfl b _ db _ _ rfl hb T.aQ.cl (T.aQ.no _ (by decide)) rfl (bO _ rfl l _ _ _ rfl rfl (a4.of W2.lst) (JW hk.1 hx) ?_)
   refine cZ _ rfl (by show 2≤sizeLine;decide) fun p hp=> ?_
   have nxp:x≠p:=aw hxo hp
   refine sC _ rfl n rfl (by omega) (by omega) fun D hD=> ?_
   have npD0:p≠D:=aw af hD
   refine gx (n:=n.toNat) (fun i H'=>H' D=some (.lst ((nats (Vbdeab.raws i t).2).map V.int))∧H' p=some (.lst [.int 0,.int n])∧bS T H' x (Vbdeab.raws i t).1∧∀c o,H2 c=some o→c≠x→H' c=some o) ?_ ?_ ?_
   ·have nxD:x≠D:=aw (by rw [ak nxp];exact hxo) hD
    have npD:p≠D:=aw af hD
    refine bZ ?_ ?_ ⟨dx,?_⟩ fun c o e _=> ?_
    ·rw [af,Ch.dA]
     rfl
    ·rw [ak npD,af]
    ·rw [ak nxD,ak nxp,Ch.dA]
     exact hxo
    ·have ncp:c≠p:=aw e hp
     rw [ak (aw (by rw [ak ncp];exact e) hD),ak ncp]
     exact e
   ·rintro i H3 hi ⟨hD3,hp3,⟨d3,hx3⟩,kp3⟩
    refine⟨rfl,(cM _ rfl x d3 _ rfl hx3 rfl (bT x _ rfl ⟨d3,hx3⟩ fun H4 ⟨d4,hx4⟩ kp4=> ?_))⟩
    have nDx:D≠x:=bf hD3 hx3 (by intro z;cases z)
    have npx:p≠x:=bf hp3 hx3 (by intro z;cases z)
    have nxD:x≠D:=Ne.symm nDx
    have hD4:=kp4 _ _ hD3 nDx
    refine cZ _ hD4 (by rw [aD,sX,Ch.gC];show i<2 ^ 24;omega) (bZ ?_ ?_ ⟨d4,?_⟩ fun c o e nc=> ?_)
    ·rw [af,Ch.fU]
     unfold nats
     rw [du,du]
     rfl
    ·rw [ak npD0]
     exact kp4 _ _ hp3 npx
    ·rw [ak nxD,Ch.fU]
     exact hx4
    ·have ncD:c≠D:=fun q=>by
      have ncp:c≠p:=aw e hp
      rw [q] at e
      have z:bR H2 p (.lst [.int 0,.int n]) D=some o:=by rw [ak (by rw [←q];exact ncp)];exact e
      rw [hD] at z
      cases z
     rw [ak ncD]
     exact kp4 _ _ (kp3 _ _ e nc) nc
   ·rintro H3 ⟨hD3,hp3,hx3,kp3⟩
    have hlen:(nats (Vbdeab.raws n.toNat t).2).length=n.toNat:=by rw [sX,Ch.gC]
    refine jZ p D _ _ rfl rfl hp3 hD3 (by rw [aD,hlen];show 2+n.toNat≤2 ^ 24;omega) ?_
    have W3:=W2.stream hx hst hx3 kp3 (uJ hlt _)
    have e2:(0:Int)::shownRow (nats (Vbdeab.raws n.toNat t).2)=0::n::nats (Vbdeab.raws n.toNat t).2:=by
     unfold shownRow
     rw [hlen,cC hn.1]
    rw [e2] at es
    exact aF kk W3 hd2 (ki2.trans (KI.keep1 kp3 hxo)) es
theorem FV (t:Stream) (steps:Int):(qf t steps).state<Vbdeab.P:=Lc.EA _ _
theorem Bw (t:Stream) {n:Nat} (h:n<Vbdeab.P):qf t (n:Int)=t.moved n:=by
 unfold qf Stream.moved
 rw [Lc.A9 h]
 have e:((n:Int)%18446744073709551616).toNat=n:=by
  have:n<18446744073709551616:=h
  omega
 rw [e]
theorem HH (t:Stream) {n:Int} (h:0≤n∧n≤18446744073709551615):qf t (-n)={t with state:=Vbdeab.back n.toNat t.state,count:=t.count - n}:=by
 unfold qf Vbdeab.back
 have e:((-n)%18446744073709551616).toNat=(Vbdeab.P - n.toNat%Vbdeab.P)%Vbdeab.P:=by
  have:Vbdeab.P=18446744073709551616:=rfl
  rw [this]
  omega
 rw [e,Lc.A9 (iZ _ Lc.C4),Int.sub_eq_add_neg]
def Ig (T:Tx K mg):Sp:=fun vs H Q _=>∃(G:Gh) (b r l a:Addr) (as:List Addr) (S:State) (ns:List Int) (pos:Nat) (k n steps:Int),vs= [.ref b,.int k,.int n,.int steps]∧Wd G T H b r l a as S ns pos∧∀(H':Hp) (p:Addr) (S':State) (zs:List Int),(S',zs)=(if decide (0≤k∧k≤63)=false then(S,[-1]) else if decide (0≤n∧n≤18446744073709551615)=false then(S,[-2]) else(S.put k.toNat (qf (S.stream k.toNat) steps),[0]))→Wd G T H' b r l a as S' ns pos→H' p=some (.lst (zs.map V.int))→KI H H'→NF H p→Q (.ref p) H'
theorem BG (T:Tx K mg):dM P w base T.Bd 6 (Ig T):=by
 refine T.Bd.okA HZ ?_
 rintro _ A _ s H _ Q E hr ⟨G,b,r,l,a,as,S,ns,pos,k,n,steps,rfl,W,kk⟩
 refine⟨_,(ac (aT (aV (aS (bi T.bA (a5 T) hr (ab (pv 1) ad)))) (ae (aj (aI (ab (fh T.bb) ad)))) aG)
   (ac (aT (aV (aS (bi T.gS (fT T) hr (ab (pv 2) ad)))) (ae (aj (aI (ab (fh T.iJ) ad)))) aG)
   (ac (gt (zw (ik (ao (pv 0) rfl) (pv 1)) T.kW (oP T) hr (ab (pv 3) ad)))
   (ae (aj (aI (ab am ad))))))),?_⟩
 refine bc _ rfl k rfl _ rfl (aX (fun h1=> ?_) (fun h1=> ?_))
 ·rw [if_pos (dN (eD h1))] at kk
  exact⟨(by show 1≤sizeLine;decide),fun p hp=>kk _ p S [-1] rfl (W.same (aC.laid hp)) af (KI.same (aC.laid hp)) ((KI.refl H).nf hp)⟩
 ·have hk:=cg h1
  rw [aE hk,if_neg (by decide)] at kk
  refine bc _ rfl n rfl _ rfl (aX (fun h2=> ?_) (fun h2=> ?_))
  ·rw [if_pos (dN (eD h2))] at kk
   exact⟨(by show 1≤sizeLine;decide),fun p hp=>kk _ p S [-2] rfl (W.same (aC.laid hp)) af (KI.same (aC.laid hp)) ((KI.refl H).nf hp)⟩
  ·have hn:=cg h2
   rw [aE hn,if_neg (by decide)] at kk
   obtain⟨x,t,hx,ht,est,hst,hlt⟩:=W.sGet (k:=k.toNat) (by omega)
   rw [est] at kk
   obtain⟨db,hb⟩:=id W.bank
   obtain⟨dx,hxo⟩:=id hst
   refine aM _ rfl b _ db _ _ rfl hb T.aQ.cl (T.aQ.no _ (by decide)) rfl (bO _ rfl l _ _ _ rfl rfl (a4.of W.lst) (JW hk.1 hx) (hJ x dx _ rfl hxo (dm rfl _ rfl (hJ x t steps rfl hst fun H1 hs1 kp1=> ?_))))
   have W1:=W.stream hx hst hs1 kp1 (FV t steps)
   exact⟨(by show 1≤sizeLine;decide),fun p hp=>kk _ p _ [0] rfl (W1.same (aC.laid hp)) af ((KI.keep1 kp1 hxo).trans (KI.same (aC.laid hp))) ((KI.keep1 kp1 hxo).nf hp)⟩
def zp (T:Tx K mg):Sp:=df T (fun d c rest=>∃k n,d=k::n::rest∧c= .skip k n)
theorem Km (T:Tx K mg):dM P w base T.wQ 7 (zp T):=by
 refine T.wQ.okA yU ?_
 rintro _ A _ s H _ Q E hr ⟨G,b,r,l,a,as,S,ns,pos,c,rest,rfl,W,⟨k,n,hd,rfl⟩,kk⟩
 refine⟨_,(ac (aZ 2 yU.nd (eJ (pv 1) T.au (ah T) hr))
   (ac (aZ 3 yU.nd (eJ (pv 1) T.au (ah T) hr))
   (ae (aj (bi T.Bd (BG T) hr (ab (pv 0) (ab (pv 2) (ab (pv 3) (ab (pv 3) ad))))))))),?_⟩
 have W0:=W;have ki0:=KI.refl H;have hd0:=hd
 refine aN W0 hd0 ki0 rfl fun H1 W1 hd1 ki1=> ?_
 refine aN W1 hd1 ki1 rfl fun H2 W2 hd2 ki2=> ?_
 have es:=KF S k n
 refine bc _ rfl _ rfl _ rfl (fy _ rfl G b (wA r l a as S ns _ k (bT n n rfl W2 fun H3 p S3 zs e3 W3 hp ki3 nf3=> ?_)))
 have e4:Vbdeab.step S (.skip k n)=(S3,zs):=by
  rw [e3,es]
  by_cases hk:0≤k∧k≤63
  ·rw [aE hk,if_neg (by decide)]
   by_cases hn:0≤n∧n≤18446744073709551615
   ·rw [aE hn,if_neg (by decide)]
    refine(mt (r:=((S.stream k.toNat).moved n.toNat,[])) hk (by rw [fc,aE hn,if_neg (by decide)])).trans ?_
    have h:=Bw (S.stream k.toNat) (n:=n.toNat) (by show n.toNat<18446744073709551616;omega)
    rw [cC hn.1] at h
    rw [h]
   ·rw [bq hn,if_pos rfl]
    exact iR hk (by rw [fc,bq hn,if_pos rfl])
  ·rw [bq hk,if_pos rfl]
   exact iQ hk
 rw [e4] at kk
 exact kk H3 p as _ W3 hd2 hp (ki2.trans ki3) fun x xs q=>nf3 x xs (ki2 x xs q)
def zd (T:Tx K mg):Sp:=df T (fun d c rest=>∃k n,d=k::n::rest∧c= .back k n)
theorem J9 (T:Tx K mg):dM P w base T.wI 7 (zd T):=by
 refine T.wI.okA yQ ?_
 rintro _ A _ s H _ Q E hr ⟨G,b,r,l,a,as,S,ns,pos,c,rest,rfl,W,⟨k,n,hd,rfl⟩,kk⟩
 refine⟨_,(ac (aZ 2 yQ.nd (eJ (pv 1) T.au (ah T) hr))
   (ac (aZ 3 yQ.nd (eJ (pv 1) T.au (ah T) hr))
   (ae (aj (bi T.Bd (BG T) hr (ab (pv 0) (ab (pv 2) (ab (pv 3) (ab (Ji Fi (pv 3)) ad))))))))),?_⟩
 have W0:=W;have ki0:=KI.refl H;have hd0:=hd
 refine aN W0 hd0 ki0 rfl fun H1 W1 hd1 ki1=> ?_
 refine aN W1 hd1 ki1 rfl fun H2 W2 hd2 ki2=> ?_
 have es:=Kw S k n
 refine Dt _ rfl _ rfl _ rfl _ rfl _ rfl G b (wA r l a as S ns _ k (bT n (-n) rfl W2 fun H3 p S3 zs e3 W3 hp ki3 nf3=> ?_))
 have e4:Vbdeab.step S (.back k n)=(S3,zs):=by
  rw [e3,es]
  by_cases hk:0≤k∧k≤63
  ·rw [aE hk,if_neg (by decide)]
   by_cases hn:0≤n∧n≤18446744073709551615
   ·rw [aE hn,if_neg (by decide),HH _ hn]
    exact mt (r:=({S.stream k.toNat with state:=Vbdeab.back n.toNat (S.stream k.toNat).state,count:=(S.stream k.toNat).count - n},[])) hk (by rw [fc,aE hn,if_neg (by decide)])
   ·rw [bq hn,if_pos rfl]
    exact iR hk (by rw [fc,bq hn,if_pos rfl])
  ·rw [bq hk,if_pos rfl]
   exact iQ hk
 rw [e4] at kk
 exact kk H3 p as _ W3 hd2 hp (ki2.trans ki3) fun x xs q=>nf3 x xs (ki2 x xs q)
def ub (T:Tx K mg):Sp:=df T (fun d c rest=>∃k n,d=k::n::rest∧c= .mirror k n)
theorem Ga (T:Tx K mg):dM P w base T.mX 3 (ub T):=by
 refine T.mX.okA nJ ?_
 rintro _ A _ s H _ Q E hr ⟨G,b,r,l,a,as,S,ns,pos,c,rest,rfl,W,⟨k,n,hd,rfl⟩,kk⟩
 refine⟨_,(ac (aZ 2 nJ.nd (eJ (pv 1) T.au (ah T) hr))
   (ac (aZ 3 nJ.nd (eJ (pv 1) T.au (ah T) hr))
   (ac (aT (aV (aS (bi T.bA (a5 T) hr (ab (pv 2) ad)))) (ae (aj (aI (ab (fh T.bb) ad)))) aG)
   (ac (aT (aV (aS (bi T.bU (a7 T) hr (ab (pv 3) (ab am (ab am ad)))))) (ae (aj (aI (ab (fh T.C1) ad)))) aG)
   (ac (aZ 4 nJ.nd (ik (ao (pv 0) rfl) (pv 2)))
   (ac (cr (pv 4) (pv 3) rfl)
   (ae (aj (aI (ab am ad)))))))))),?_⟩
 have W0:=W;have ki0:=KI.refl H;have hd0:=hd
 refine aN W0 hd0 ki0 rfl fun H1 W1 hd1 ki1=> ?_
 refine aN W1 hd1 ki1 rfl fun H2 W2 hd2 ki2=> ?_
 have es:=GT S k n
 refine bc _ rfl k rfl _ rfl (aX (fun h1=> ?_) (fun h1=> ?_))
 ·rw [iQ (eD h1)] at es
  exact⟨(by show 1≤sizeLine;decide),aF kk W2 hd2 ki2 es⟩
 ·have hk:=cg h1
  refine fy _ rfl n 0 (bB 1 rfl _ rfl (aX (fun h2=> ?_) (fun h2=> ?_)))
  ·rw [iR (e:= -4) hk (by rw [cu,if_pos (dN (eD h2))])] at es
   exact⟨(by show 1≤sizeLine;decide),aF kk W2 hd2 ki2 es⟩
  ·have hn:=cg h2
   obtain⟨x,t,hx,ht,est,hst,hlt⟩:=W2.sGet (k:=k.toNat) (by omega)
   rw [mt (r:=({t with mirror:=decide (n=1)},[])) hk (by rw [est,cu,aE hn,if_neg (by decide)])] at es
   obtain⟨db,hb⟩:=id W2.bank
   obtain⟨dx,hxo⟩:=id hst
   refine aM _ rfl b _ db _ _ rfl hb T.aQ.cl (T.aQ.no _ (by decide)) rfl (bO _ rfl l _ _ _ rfl rfl (a4.of W2.lst) (JW hk.1 hx) ?_)
   refine pF _ rfl _ rfl x _ dx _ rfl hxo T.aK.cl (T.aK.no _ (by decide)) (by show 4<1000;decide) ?_
   have kp3:iA H2 (bR H2 x (.ins T.aK.C dx (li "mirror" (.int n) (sf t)))) x:=fun c o e nc=>by rw [ak nc];exact e
   have em:li "mirror" (.int n) (sf t)=sf {t with mirror:=decide (n=1)}:=by
    have:OD (decide (n=1))=n:=by
     unfold OD
     by_cases q:n=1
     ·rw [if_pos (aE q),q]
     ·rw [if_neg (by rw [bq q];decide)]
      omega
    have e1:sf {t with mirror:=decide (n=1)}=li "mirror" (.int (OD (decide (n=1)))) (sf t):=rfl
    rw [e1,this]
   have W3:=W2.stream (t':={t with mirror:=decide (n=1)}) hx hst ⟨dx,by rw [af,em]⟩ kp3 hlt
   exact⟨(by show 1≤sizeLine;decide),aF kk W3 hd2 (ki2.trans (KI.keep1 kp3 hxo)) es⟩
def wv (T:Tx K mg):Sp:=df T (fun d c rest=>∃k,d=k::rest∧c= .where_ k)
theorem HS (T:Tx K mg):dM P w base T.rB 3 (wv T):=by
 refine T.rB.okA wd ?_
 rintro _ A _ s H _ Q E hr ⟨G,b,r,l,a,as,S,ns,pos,c,rest,rfl,W,⟨k,hd,rfl⟩,kk⟩
 refine⟨_,(ac (aZ 2 wd.nd (eJ (pv 1) T.au (ah T) hr))
   (ac (aT (aV (aS (bi T.bA (a5 T) hr (ab (pv 2) ad)))) (ae (aj (aI (ab (fh T.bb) ad)))) aG)
   (ac (aZ 3 wd.nd (ik (ao (pv 0) rfl) (pv 2)))
   (ae (aj (aI (ab am (ab (ao (pv 3) rfl) (ab (ao (pv 3) rfl) (ab (ao (pv 3) rfl) (ab (ao (pv 3) rfl) ad))))))))))),?_⟩
 have W0:=W;have ki0:=KI.refl H;have hd0:=hd
 refine aN W0 hd0 ki0 rfl fun H1 W1 hd1 ki1=> ?_
 have es:=Iq S k
 refine bc _ rfl k rfl _ rfl (aX (fun h1=> ?_) (fun h1=> ?_))
 ·rw [iQ (eD h1)] at es
  exact⟨(by show 1≤sizeLine;decide),aF kk W1 hd1 ki1 es⟩
 ·have hk:=cg h1
  obtain⟨x,t,hx,ht,est,hst,hlt⟩:=W1.sGet (k:=k.toNat) (by omega)
  rw [mt (r:=(t,[(t.state:Int),(t.seed:Int),t.count,if t.mirror=true then 1 else 0])) hk (by rw [est])] at es
  obtain⟨db,hb⟩:=id W1.bank
  obtain⟨dx,hxo⟩:=id hst
  refine aM _ rfl b _ db _ _ rfl hb T.aQ.cl (T.aQ.no _ (by decide)) rfl (bO _ rfl l _ _ _ rfl rfl (a4.of W1.lst) (JW hk.1 hx) ?_)
  refine aM _ rfl x _ dx _ _ rfl hxo T.aK.cl (T.aK.no _ (by decide)) rfl (aM _ rfl x _ dx _ _ rfl hxo T.aK.cl (T.aK.no _ (by decide)) rfl (aM _ rfl x _ dx _ _ rfl hxo T.aK.cl (T.aK.no _ (by decide)) rfl (aM _ rfl x _ dx _ _ rfl hxo T.aK.cl (T.aK.no _ (by decide)) rfl ⟨(by show 5≤sizeLine;decide),?_⟩)))
  have W2:=W1.stream (t':=t) hx hst hst (fun c o e _=>e) hlt
  exact aF kk W2 hd1 ki1 es
def Co (T:Tx K mg):Sp:=df T (fun d c rest=>∃x y,d=x::y::rest∧c= .far x y)
theorem LF (T:Tx K mg):dM P w base T.CS 5 (Co T):=by
 refine T.CS.okA B8 ?_
 rintro _ A _ s H _ Q E hr ⟨G,b,r,l,a,as,S,ns,pos,c,rest,rfl,W,⟨x,y,hd,rfl⟩,kk⟩
 refine⟨_,(ac (aZ 2 B8.nd (eJ (pv 1) T.au (ah T) hr))
   (ac (aZ 3 B8.nd (eJ (pv 1) T.au (ah T) hr))
   (ac (aT (lh (h9 (aV (aS (bi T.gS (fT T) hr (ab (pv 2) ad)))) (ig (aV (aS (bi T.gS (fT T) hr (ab (pv 3) ad))))))) (ae (aj (aI (ab (fh T.iJ) ad)))) aG)
   (ae (aj (aI (ab am (ab (bi T.rj (vh T) hr (ab (pv 2) (ab (pv 3) ad))) ad)))))))),?_⟩
 have W0:=W;have ki0:=KI.refl H;have hd0:=hd
 refine aN W0 hd0 ki0 rfl fun H1 W1 hd1 ki1=> ?_
 refine aN W1 hd1 ki1 rfl fun H2 W2 hd2 ki2=> ?_
 have es:=L7 S x y
 rw [fc,fc] at es
 refine bc _ rfl x rfl _ rfl (aX (fun h1=> ?_) (fun h1=> ?_))
 ·rw [if_pos (Or.inl (dN (eD h1)))] at es
  refine jx ?_
  exact⟨(by show 1≤sizeLine;decide),aF kk W2 hd2 ki2 es⟩
 ·have hx:=cg h1
  refine bc _ rfl y rfl _ rfl (aX (fun h2=> ?_) (fun h2=> ?_))
  ·rw [if_pos (Or.inr (dN (eD h2)))] at es
   exact⟨(by show 1≤sizeLine;decide),aF kk W2 hd2 ki2 es⟩
  ·have hy:=cg h2
   rw [aE hx,aE hy,if_neg (by decide)] at es
   have ex:=cC hx.1
   have ey:=cC hy.1
   refine bH _ rfl (d9 _ rfl x.toNat y.toNat (by rw [ex,ey];rfl) (by show x.toNat<18446744073709551616;omega) (by show y.toNat<18446744073709551616;omega) fun H3 s3=> ?_)
   exact⟨(by show 2≤sizeLine;decide),aF (zs:= [0,((Vbdeab.far x.toNat y.toNat:Nat):Int)]) kk (W2.same s3) hd2 (ki2.trans (KI.same s3)) es⟩
def zh (T:Tx K mg):Sp:=df T (fun d c rest=>∃k y,d=k::y::rest∧c= .goto k y)
theorem Kg (T:Tx K mg):dM P w base T.wL 6 (zh T):=by
 refine T.wL.okA pj ?_
 rintro _ A _ s H _ Q E hr ⟨G,b,r,l,a,as,S,ns,pos,c,rest,rfl,W,⟨k,y,hd,rfl⟩,kk⟩
 refine⟨_,(ac (aZ 2 pj.nd (eJ (pv 1) T.au (ah T) hr))
   (ac (aZ 3 pj.nd (eJ (pv 1) T.au (ah T) hr))
   (ac (aT (aV (aS (bi T.bA (a5 T) hr (ab (pv 2) ad)))) (ae (aj (aI (ab (fh T.bb) ad)))) aG)
   (ac (aT (aV (aS (bi T.gS (fT T) hr (ab (pv 3) ad)))) (ae (aj (aI (ab (fh T.iJ) ad)))) aG)
   (ac (aZ 4 pj.nd (ik (ao (pv 0) rfl) (pv 2)))
   (ac (aZ 5 pj.nd (bi T.rj (vh T) hr (ab (ao (pv 4) rfl) (ab (pv 3) ad))))
   (ac (gt (zw (pv 4) T.kW (oP T) hr (ab (pv 5) ad)))
   (ae (aj (aI (ab am (ab (pv 5) ad)))))))))))),?_⟩
 have W0:=W;have ki0:=KI.refl H;have hd0:=hd
 refine aN W0 hd0 ki0 rfl fun H1 W1 hd1 ki1=> ?_
 refine aN W1 hd1 ki1 rfl fun H2 W2 hd2 ki2=> ?_
 have es:=KA S k y
 refine bc _ rfl k rfl _ rfl (aX (fun h1=> ?_) (fun h1=> ?_))
 ·rw [iQ (eD h1)] at es
  exact⟨(by show 1≤sizeLine;decide),aF kk W2 hd2 ki2 es⟩
 ·have hk:=cg h1
  refine bc _ rfl y rfl _ rfl (aX (fun h2=> ?_) (fun h2=> ?_))
  ·rw [iR (e:= -2) hk (by rw [fc,if_pos (dN (eD h2))])] at es
   exact⟨(by show 1≤sizeLine;decide),aF kk W2 hd2 ki2 es⟩
  ·have hn:=cg h2
   obtain⟨x,t,hx,ht,est,hst,hlt⟩:=W2.sGet (k:=k.toNat) (by omega)
   rw [mt (r:=(t.moved (Vbdeab.far t.state y.toNat),[(Vbdeab.far t.state y.toNat:Int)])) hk (by rw [est,fc,aE hn,if_neg (by decide)])] at es
   obtain⟨db,hb⟩:=id W2.bank
   obtain⟨dx,hxo⟩:=id hst
   have ey:=cC hn.1
   refine aM _ rfl b _ db _ _ rfl hb T.aQ.cl (T.aQ.no _ (by decide)) rfl (bO _ rfl l _ _ _ rfl rfl (a4.of W2.lst) (JW hk.1 hx) ?_)
   refine aM _ rfl x _ dx _ _ rfl hxo T.aK.cl (T.aK.no _ (by decide)) rfl (d9 _ rfl t.state y.toNat (by rw [ey];rfl) hlt (by show y.toNat<18446744073709551616;omega) fun H3 s3=> ?_)
   have W3:=W2.same s3
   refine cM _ rfl x dx _ rfl (s3 _ _ hxo) rfl (bH _ rfl (hJ x t _ rfl ⟨dx,s3 _ _ hxo⟩ fun H4 hs4 kp4=> ?_))
   have W4:=W3.stream hx ⟨dx,s3 _ _ hxo⟩ hs4 kp4 (FV t _)
   rw [Bw t (Lc.NY t.state y.toNat)] at W4
   exact cZ _ rfl (by show 2≤sizeLine;decide) (aF (zs:= [0,(Vbdeab.far t.state y.toNat:Int)]) kk W4 hd2 ((ki2.trans (KI.same s3)).trans (KI.keep1 kp4 (s3 _ _ hxo))) es)
def zf (T:Tx K mg):Sp:=df T (fun d c rest=>∃k j,d=k::j::rest∧c= .copy k j)
theorem Kc (T:Tx K mg):dM P w base T.wK 4 (zf T):=by
 refine T.wK.okA yS ?_
 rintro _ A _ s H _ Q E hr ⟨G,b,r,l,a,as,S,ns,pos,c,rest,rfl,W,⟨k,j,hd,rfl⟩,kk⟩
 refine⟨_,(ac (aZ 2 yS.nd (eJ (pv 1) T.au (ah T) hr))
   (ac (aZ 3 yS.nd (eJ (pv 1) T.au (ah T) hr))
   (ac (aT (lh (h9 (aV (aS (bi T.bA (a5 T) hr (ab (pv 2) ad)))) (ig (aV (aS (bi T.bA (a5 T) hr (ab (pv 3) ad))))))) (ae (aj (aI (ab (fh T.bb) ad)))) aG)
   (ac (qA (eJ (ik (ao (pv 0) rfl) (pv 3)) T.oy (yy T) hr) (qw (ao (pv 0) rfl) (pv 2) iF))
   (ae (aj (aI (ab am ad)))))))),?_⟩
 have W0:=W;have ki0:=KI.refl H;have hd0:=hd
 refine aN W0 hd0 ki0 rfl fun H1 W1 hd1 ki1=> ?_
 refine aN W1 hd1 ki1 rfl fun H2 W2 hd2 ki2=> ?_
 have es:=Ky S k j
 rw [cE,cE] at es
 refine bc _ rfl k rfl _ rfl (aX (fun h1=> ?_) (fun h1=> ?_))
 ·rw [if_pos (Or.inl (dN (eD h1)))] at es
  refine jx ?_
  exact⟨(by show 1≤sizeLine;decide),aF kk W2 hd2 ki2 es⟩
 ·have hk:=cg h1
  refine bc _ rfl j rfl _ rfl (aX (fun h2=> ?_) (fun h2=> ?_))
  ·rw [if_pos (Or.inr (dN (eD h2)))] at es
   exact⟨(by show 1≤sizeLine;decide),aF kk W2 hd2 ki2 es⟩
  ·have hj:=cg h2
   rw [aE hk,aE hj,if_neg (by decide)] at es
   obtain⟨x,t,hx,ht,est,hst,hlt⟩:=W2.sGet (k:=j.toNat) (by omega)
   rw [est] at es
   obtain⟨db,hb⟩:=id W2.bank
   obtain⟨dx,hxo⟩:=id hst
   refine aM _ rfl b _ db _ _ rfl hb T.aQ.cl (T.aQ.no _ (by decide)) rfl (bO _ rfl l _ _ _ rfl rfl (a4.of W2.lst) (JW hj.1 hx) ⟨x,(jo dx _ rfl hxo rfl x t rfl hst fun z H3 hz s3 nz=> ?_)⟩)
   have W3:=W2.same s3
   obtain⟨db3,hb3⟩:=id W3.bank
   have W4:=W3.replace (k:=k.toNat) (t':=t) (by omega) (HL W2 nz) hz hlt
   refine aM _ rfl b _ db3 _ _ rfl hb3 T.aQ.cl (T.aQ.no _ (by decide)) rfl (bO _ rfl l _ _ k.toNat rfl rfl W3.lst (p9 (by omega) (by rw [aD,W3.len];omega)) ?_)
   rw [←yc]
   exact⟨(by show 1≤sizeLine;decide),aF kk W4 hd2 ((ki2.trans (KI.same s3)).trans (W3.kiSet _)) es⟩
theorem Dr {S:State} {k j:Nat} {t:Stream} (h:j≠k):(S.put j t).stream k=S.stream k:=by
 unfold State.put State.stream
 simp only [eX]
 rw [Aj h]
theorem Ac (k g j:Nat):∀(l:List Nat) (S:State),spaced k g (l++ [j]) S=(spaced k g l S).put (k+j) ⟨Vbdeab.skip (j*g%Vbdeab.P) ((spaced k g l S).stream k).state,Vbdeab.skip (j*g%Vbdeab.P) ((spaced k g l S).stream k).state,0,false⟩
 | [],S=>by rw [Hh,spaced,spaced,spaced]
 | i::l,S=>by rw [G8,spaced,Ac k g j l,spaced]
theorem Ab (k g:Nat):∀(l:List Nat) (S:State),(∀i∈l,1≤i)→(spaced k g l S).stream k=S.stream k
 | [],S,_=>by rw [spaced]
 | i::l,S,h=>by
  rw [spaced,Ab k g l _ fun j hj=>h j (dU _ hj)]
  exact Dr (by have:=h i fB;omega)
theorem HX (i:Nat):(List.range (i+2)).drop 1=(List.range (i+1)).drop 1++ [i+1]:=by
 rw [List.range_succ,List.drop_append_of_le_length (by rw [fm];omega)]
theorem LZ (i:Nat):∀j∈(List.range (i+1)).drop 1,1≤j:=fun j hj=>by
 rw [List.range_eq_range',List.drop_range'] at hj
 have:=List.mem_range'.mp hj
 omega
theorem J4 (g i x:Nat):Lc.lz (Lc.pw g) (Lc.lz (Lc.pw (i*g)) x)=Vbdeab.skip ((i+1)*g%Vbdeab.P) x:=by
 rw [Lc.A9 (iZ _ Lc.C4),Lc.Om,Am,ow,Lc.oh,Lc.FC]
theorem Io (S:State) (k n g:Int):Vbdeab.step S (.space k n g)=if streamOk k=false then(S,[-1]) else if within n 1 64=false∨64<k+n then(S,[-3]) else if stateOk g=false then(S,[-2]) else
   (spaced k.toNat g.toNat ((List.range n.toNat).drop 1) S,[0]):=by rw [Vbdeab.step]
def wr (T:Tx K mg):Sp:=df T (fun d c rest=>∃k n g,d=k::n::g::rest∧c= .space k n g)
theorem HQ (T:Tx K mg):dM P w base T.rq 5 (wr T):=by
 refine T.rq.okA gL ?_
 rintro _ A _ s H _ Q E hr ⟨G,b,r,l,a,as,S,ns,pos,c,rest,rfl,W,⟨k,n,g,hd,rfl⟩,kk⟩
 refine⟨_,(ac (aZ 2 gL.nd (eJ (pv 1) T.au (ah T) hr))
   (ac (aZ 3 gL.nd (eJ (pv 1) T.au (ah T) hr))
   (ac (aZ 4 gL.nd (eJ (pv 1) T.au (ah T) hr))
   (ac (aT (aV (aS (bi T.bA (a5 T) hr (ab (pv 2) ad)))) (ae (aj (aI (ab (fh T.bb) ad)))) aG)
   (ac (aT (aV (aS (bi T.bU (a7 T) hr (ab (pv 3) (ab am (ab (aB b9 (fh T.zF) (pv 2)) ad)))))) (ae (aj (aI (ab (fh T.fE) ad)))) aG)
   (ac (aT (aV (aS (bi T.gS (fT T) hr (ab (pv 4) ad)))) (ae (aj (aI (ab (fh T.iJ) ad)))) aG)
   (ac (aZ 5 gL.nd (bi T.uS (xl T) hr (ab (pv 4) ad)))
   (ac (aZ 6 gL.nd (ao (ik (ao (pv 0) rfl) (pv 2)) rfl))
   (ac (d7 cJ rfl (Kq rfl T.di (ab (aB bY (pv 2) am) (ab (aB bY (pv 2) (pv 3)) ad))) (kT 7 gL.nd) (ac (aZ 6 gL.nd (zw (pv 5) T.fC (gq T) hr (ab (pv 6) ad)))
   (ae (qA (Ag T.fk (gW T) hr (ab (pv 6) ad)) (qw (ao (pv 0) rfl) (pv 7) iF)))))
   (ae (aj (aI (ab am ad))))))))))))),?_⟩
 have W0:=W;have ki0:=KI.refl H;have hd0:=hd
 refine aN W0 hd0 ki0 rfl fun H1 W1 hd1 ki1=> ?_
 refine aN W1 hd1 ki1 rfl fun H2 W2 hd2 ki2=> ?_
 refine aN W2 hd2 ki2 rfl fun H3 W3 hd3 ki3=> ?_
 have es:=Io S k n g
 rw [cE,fc,cu] at es
 refine bc _ rfl k rfl _ rfl (aX (fun h1=> ?_) (fun h1=> ?_))
 ·rw [if_pos (dN (eD h1))] at es
  exact⟨(by show 1≤sizeLine;decide),aF kk W3 hd3 ki3 es⟩
 ·have hk:=cg h1
  rw [aE hk,if_neg (by decide)] at es
  refine eV _ rfl _ rfl _ _ rfl rfl (ot n 1 (bB (64 - k) rfl _ rfl (aX (fun h2=> ?_) (fun h2=> ?_))))
  ·have h2':=eD h2
   rw [if_pos (by by_cases q:1≤n∧n≤64;right;omega;left;exact bq q)] at es
   exact⟨(by show 1≤sizeLine;decide),aF kk W3 hd3 ki3 es⟩
  ·have hn:=cg h2
   rw [if_neg (by rw [aE (show 1≤n∧n≤64 by omega)];intro z;rcases z with z | z;cases z;omega)] at es
   refine bc _ rfl g rfl _ rfl (aX (fun h3=> ?_) (fun h3=> ?_))
   ·rw [if_pos (dN (eD h3))] at es
    exact⟨(by show 1≤sizeLine;decide),aF kk W3 hd3 ki3 es⟩
   ·have hg:=cg h3
    rw [aE hg,if_neg (by decide)] at es
    have eg:(g%18446744073709551616).toNat=g.toNat:=by omega
    refine bB _ rfl g rfl fun y H4 hy4 s4=> ?_
    rw [eg] at hy4
    have W4:=W3.same s4
    obtain⟨x,t,hx,ht,est,hst,hlt⟩:=W4.sGet (k:=k.toNat) (by omega)
    obtain⟨db,hb⟩:=id W4.bank
    obtain⟨dx,hxo⟩:=id hst
    refine aM _ rfl b _ db _ _ rfl hb T.aQ.cl (T.aQ.no _ (by decide)) rfl (bO _ rfl l _ _ _ rfl rfl (a4.of W4.lst) (JW hk.1 hx) (iG x _ dx _ _ rfl hxo T.aK.cl (T.aK.no _ (by decide)) rfl ?_))
    refine cv _ rfl _ _ rfl rfl (eV _ rfl _ rfl _ _ rfl rfl (bT _ _ rfl (by omega) (gU (lo:=k+1) (n:=(k+n - (k+1)).toNat) (fun i σ H'=>∃(v:Option V) (as':List Addr),σ= [some (.ref b),some (.ref r),some (.int k),some (.int n),some (.int g),some (.ref y),some (.int (Lc.lz (Lc.pw (i*g.toNat)) t.state:Nat)),v]∧pO T H' y (Lc.pw g.toNat)∧Wd G T H' b r l a as' (spaced k.toNat g.toNat ((List.range (i+1)).drop 1) S) ns (pos+1+1+1)∧KI H H') ?_ ?_ ?_)))
    ·refine bP none as ?_ hy4 ?_ (ki3.trans (KI.same s4))
     ·rw [Nat.zero_mul]
      have:Lc.lz (Lc.pw 0) t.state=t.state:=by
       unfold Lc.lz Lc.pw
       rw [ow,lP,ra hlt]
      rw [this]
      rfl
     ·have:(List.range (0+1)).drop 1= []:=rfl
      rw [this,spaced]
      exact W4
    ·rintro i σ H5 hi ⟨v,as',rfl,⟨dy,hy5⟩,W5,ki5⟩
     refine cM _ rfl y dy _ rfl hy5 rfl (cM _ rfl y _ _ rfl ⟨dy,hy5⟩ (Lc.mv _) ?_)
     refine⟨_,rfl,?_⟩
     intro z dz nz ndz _
     refine de nz ndz (fun H6 hz s6=> ?_) ⟨_,rfl,rfl⟩
     have W6:=W5.same s6
     obtain⟨db6,hb6⟩:=id W6.bank
     have W7:=W6.replace (k:=k.toNat+(i+1)) (by omega) (HL W5 nz) ⟨dz,hz⟩ (Lc.EA _ _)
     refine aM _ rfl b _ db6 _ _ rfl hb6 T.aQ.cl (T.aQ.no _ (by decide)) rfl (bO _ rfl l _ _ (k.toNat+(i+1)) rfl rfl W6.lst (p9 (by omega) (by rw [aD,W6.len];omega)) ?_)
     rw [←yc]
     have nyl:y≠l:=bf (s6 _ _ hy5) W6.lst (by intro q;cases q)
     have est5:((spaced k.toNat g.toNat ((List.range (i+1)).drop 1) S).stream k.toNat).state=t.state:=by rw [Ab _ _ _ _ (LZ i),est]
     have e7:Lc.lz (Lc.pw g.toNat) (Lc.lz (Lc.pw (i*g.toNat)) t.state)=Lc.lz (Lc.pw ((i+1)*g.toNat)) t.state:=by rw [←Lc.FC,←Lc.oh,Am,ow]
     refine bP (some (.int (k+1+(i:Int)))) (as'.set (k.toNat+(i+1)) z) ?_ ⟨dy,by rw [ak nyl];exact s6 _ _ hy5⟩ ?_ ((ki5.trans (KI.same s6)).trans (W6.kiSet _))
     ·rw [e7]
      rfl
     ·rw [HX,Ac,est5,←J4]
      exact W7
    ·rintro σ H5 ⟨v,as',rfl,_,W5,ki5⟩
     have en:(k+n - (k+1)).toNat+1=n.toNat:=by omega
     rw [en] at W5
     exact⟨(by show 1≤sizeLine;decide),aF kk W5 hd3 ki5 es⟩
theorem xA {ns ws rest:List Int} {pos n:Nat} (h:ns.drop (pos+1)=ws++rest) (hg:ns[pos]?=some (n:Int)) (hl:ws.length=n):(ns.drop (pos+1)).take n=ws∧ns.drop (pos+1+n)=rest∧pos+1+n≤ns.length:=by
 subst hl
 refine⟨by rw [h,List.take_left],by rw [←List.drop_drop,h,List.drop_left],?_⟩
 have h1:=(cb.mp hg).1
 have h2:=cx List.length h
 rw [bX,CM] at h2
 omega
theorem uH (z:Int):z.natAbs≤Vbdeab.BIG↔(-1000000000000000000≤z∧z≤1000000000000000000):=by
 have:Vbdeab.BIG=1000000000000000000:=rfl
 rw [this]
 omega
theorem Ir (S:State) (k a b:Int):Vbdeab.step S (.whole k a b)=onStream S k fun t=>if a.natAbs≤Vbdeab.BIG∧b.natAbs≤Vbdeab.BIG∧a≤b then
   .ok ((Vbdeab.raw t).1,[a+(((Vbdeab.raw t).2*(b - a+1).toNat /Vbdeab.M:Nat):Int)]) else .error (-5):=by rw [Vbdeab.step]
theorem GQ (S:State) (k:Int) (ws:List Int):Vbdeab.step S (.choose k ws)=onStream S k fun t=>match weights ws with
  | none=> .error (-6)
  | some l=> .ok ((Vbdeab.raw t).1,[(chosen l (Vbdeab.raw t).2:Int)]):=by
 rw [Vbdeab.step]
 rfl
theorem Fh (S:State) (k n:Int):Vbdeab.step S (.shuffle k n)=onStream S k fun t=>if within n 0 1000=false then .error (-3) else
   .ok ((Vbdeab.raws n.toNat t).1,shownRow (shuffled n.toNat (Vbdeab.raws n.toNat t).2 0 (ramp n.toNat))):=by rw [Vbdeab.step]
theorem GV (S:State) (k n m:Int):Vbdeab.step S (.sample k n m)=onStream S k fun t=>if within n 0 1000=false then .error (-3) else if within m 0 n=false then .error (-7) else
   .ok ((Vbdeab.raws m.toNat t).1,shownRow ((shuffled n.toNat (Vbdeab.raws m.toNat t).2 0 (ramp n.toNat)).take m.toNat)):=by rw [Vbdeab.step]
def ww (T:Tx K mg):Sp:=df T (fun d c rest=>∃k u v,d=k::u::v::rest∧c= .whole k u v)
theorem HU (T:Tx K mg):dM P w base T.rC 3 (ww T):=by
 refine T.rC.okA mJ ?_
 rintro _ A _ s H _ Q E hr ⟨G,b,r,l,a,as,S,ns,pos,c,rest,rfl,W,⟨k,u,v,hd,rfl⟩,kk⟩
 refine⟨_,(ac (aZ 2 mJ.nd (eJ (pv 1) T.au (ah T) hr))
   (ac (aZ 3 mJ.nd (eJ (pv 1) T.au (ah T) hr))
   (ac (aZ 4 mJ.nd (eJ (pv 1) T.au (ah T) hr))
   (ac (aT (aV (aS (bi T.bA (a5 T) hr (ab (pv 2) ad)))) (ae (aj (aI (ab (fh T.bb) ad)))) aG)
   (ac (aT (lh (h9 (aV (aS (bi T.gQ (fS T) hr (ab (pv 3) ad)))) (h9 (aV (aS (bi T.gQ (fS T) hr (ab (pv 4) ad)))) (ig (aR vi (pv 3) (pv 4) (aY _)))))) (ae (aj (aI (ab (fh T.kX) ad)))) aG)
   (ac (aZ 5 mJ.nd (eJ (ik (ao (pv 0) rfl) (pv 2)) T.bJ (bV T) hr))
   (ae (aj (aI (ab am (ab (aB bY (pv 3) (bi T.uT (xm T) hr (ab (pv 5) (ab (aB bY (aB b9 (pv 4) (pv 3)) am) ad)))) ad))))))))))),?_⟩
 have W0:=W;have ki0:=KI.refl H;have hd0:=hd
 refine aN W0 hd0 ki0 rfl fun H1 W1 hd1 ki1=> ?_
 refine aN W1 hd1 ki1 rfl fun H2 W2 hd2 ki2=> ?_
 refine aN W2 hd2 ki2 rfl fun H3 W3 hd3 ki3=> ?_
 have es:=Ir S k u v
 refine bc _ rfl k rfl _ rfl (aX (fun h1=> ?_) (fun h1=> ?_))
 ·rw [iQ (eD h1)] at es
  exact⟨(by show 1≤sizeLine;decide),aF kk W3 hd3 ki3 es⟩
 ·have hk:=cg h1
  have bad:¬(u.natAbs≤Vbdeab.BIG∧v.natAbs≤Vbdeab.BIG∧u≤v)→Vbdeab.step S (.whole k u v)=(S,[-5]):=fun q=>es.trans (iR hk (if_neg q))
  refine bc _ rfl u rfl _ rfl (aX (fun h2=> ?_) (fun h2=> ?_))
  ·have es:=bad fun q=>eD h2 ((uH _).mp q.1)
   refine jx ?_
   exact⟨(by show 1≤sizeLine;decide),aF kk W3 hd3 ki3 es⟩
  ·refine bc _ rfl v rfl _ rfl (aX (fun h3=> ?_) (fun h3=> ?_))
   ·have es:=bad fun q=>eD h3 ((uH _).mp q.2.1)
    refine jx ?_
    exact⟨(by show 1≤sizeLine;decide),aF kk W3 hd3 ki3 es⟩
   ·refine bH _ rfl (lu _ rfl _ _ rfl rfl _ rfl (aX (fun h4=> ?_) (fun h4=> ?_)))
    ·have h4':v<u:=bj h4
     have es:=bad fun q=>by have:=q.2.2;omega
     exact⟨(by show 1≤sizeLine;decide),aF kk W3 hd3 ki3 es⟩
    ·have h4':¬v<u:=fun z=>h4 (aE z)
     have good:u.natAbs≤Vbdeab.BIG∧v.natAbs≤Vbdeab.BIG∧u≤v:=⟨(uH _).mpr (cg h2),(uH _).mpr (cg h3),by omega⟩
     obtain⟨x,t,hx,ht,est,hst,hlt⟩:=W3.sGet (k:=k.toNat) (by omega)
     rw [mt (r:=((Vbdeab.raw t).1,[u+(((Vbdeab.raw t).2*(v - u+1).toNat /Vbdeab.M:Nat):Int)])) hk (by rw [est];exact if_pos good)] at es
     obtain⟨db,hb⟩:=id W3.bank
     obtain⟨dx,hxo⟩:=id hst
     refine aM _ rfl b _ db _ _ rfl hb T.aQ.cl (T.aQ.no _ (by decide)) rfl (bO _ rfl l _ _ _ rfl rfl (a4.of W3.lst) (JW hk.1 hx) ⟨x,(jo dx _ rfl hxo rfl x t rfl hst fun H4 hs4 kp4=> ?_)⟩)
     have W4:=W3.stream hx hst hs4 kp4 (by rw [xy];exact iZ _ Lc.C4)
     refine bB _ rfl _ rfl (eV _ rfl _ rfl _ _ rfl rfl (bT _ _ rfl rfl (bT _ _ rfl Ch.vZ (bP _ _ rfl rfl (by show 2≤sizeLine;decide) ?_))))
     have e5:(((Vbdeab.raw t).2:Nat):Int)*(v - u+1) /4294967296=(((Vbdeab.raw t).2*(v - u+1).toNat /Vbdeab.M:Nat):Int):=by
      rw [CI,b7,cC (by omega)]
      rfl
     have fin:=aF (zs:= [0,u+(((Vbdeab.raw t).2*(v - u+1).toNat /Vbdeab.M:Nat):Int)]) kk W4 hd3 (ki3.trans (KI.keep1 kp4 hxo)) es
     rw [←e5] at fin
     exact fin
def t8 (T:Tx K mg):Sp:=df T (fun d c rest=>∃(k:Int) (n_ws:Nat) (ws:List Int),d=k::(n_ws:Int)::(ws++rest)∧ws.length=n_ws∧c= .choose k ws)
theorem F7 (T:Tx K mg):dM P w base T.mT 3 (t8 T):=by
 refine T.mT.okA nI ?_
 rintro _ A _ s H _ Q E hr ⟨G,b,r,l,a,as,S,ns,pos,c,rest,rfl,W,⟨k,n_ws,ws,hd,hl_ws,rfl⟩,kk⟩
 refine⟨_,(ac (aZ 2 nI.nd (eJ (pv 1) T.au (ah T) hr))
   (ac (aZ 3 nI.nd (eJ (pv 1) T.dh (dO T) hr))
   (ac (aT (aV (aS (bi T.bA (a5 T) hr (ab (pv 2) ad)))) (ae (aj (aI (ab (fh T.bb) ad)))) aG)
   (ac (aT (aV (aS (bi T.iH (kt T) hr (ab (pv 3) ad)))) (ae (aj (aI (ab (fh T.lK) ad)))) aG)
   (ac (aZ 4 nI.nd (eJ (ik (ao (pv 0) rfl) (pv 2)) T.bJ (bV T) hr))
   (ae (aj (aI (ab am (ab (bi T.jS (nj T) hr (ab (pv 4) (ab (pv 3) ad))) ad)))))))))),?_⟩
 have W0:=W;have ki0:=KI.refl H;have hd0:=hd
 refine aN W0 hd0 ki0 rfl fun H1 W1 hd1 ki1=> ?_
 obtain⟨dr1,hr1⟩:=id W1.rd
 obtain⟨g2,hq2⟩:=k6 hd1
 obtain⟨e2,hd2,le2⟩:=xA hq2 g2 hl_ws
 refine cM _ rfl r dr1 _ rfl hr1 rfl (iG r a _ n_ws ns rfl ⟨dr1,hr1⟩ W1.sq g2 le2 fun H2 p_ws hr2 hp_ws kp2 np_ws=> ?_)
 rw [e2] at hp_ws
 have W2:=W1.reader hr2 kp2;have ki2:=ki1.trans (KI.keep1 kp2 hr1);obtain⟨dr2,hr2⟩:=hr2
 have es:=GQ S k ws
 refine bc _ rfl k rfl _ rfl (aX (fun h1=> ?_) (fun h1=> ?_))
 ·rw [iQ (eD h1)] at es
  exact⟨(by show 1≤sizeLine;decide),aF kk W2 hd2 ki2 es⟩
 ·have hk:=cg h1
  refine lu _ rfl p_ws ws rfl (a4.of hp_ws) _ rfl (aX (fun h2=> ?_) (fun h2=> ?_))
  ·have hw:weights ws=none:=by
    cases e:weights ws with
    | none=>rfl
    | some z=>rw [e] at h2;cases h2
   rw [iR (e:= -6) hk (by rw [hw])] at es
   exact⟨(by show 1≤sizeLine;decide),aF kk W2 hd2 ki2 es⟩
  ·have hw:(weights ws).isSome=true:=by
    cases e:(weights ws).isSome with
    | true=>rfl
    | false=>rw [e] at h2;exact absurd rfl h2
   obtain⟨nn,ew,_⟩:=jM hw
   obtain⟨x,t,hx,ht,est,hst,hlt⟩:=W2.sGet (k:=k.toNat) (by omega)
   rw [mt (r:=((Vbdeab.raw t).1,[(chosen (ws.map Int.toNat) (Vbdeab.raw t).2:Int)])) hk (by rw [est,ew])] at es
   obtain⟨db,hb⟩:=id W2.bank
   obtain⟨dx,hxo⟩:=id hst
   refine aM _ rfl b _ db _ _ rfl hb T.aQ.cl (T.aQ.no _ (by decide)) rfl (bO _ rfl l _ _ _ rfl rfl (a4.of W2.lst) (JW hk.1 hx) ⟨x,(jo dx _ rfl hxo rfl x t rfl hst fun H4 hs4 kp4=> ?_)⟩)
   have W4:=W2.stream hx hst hs4 kp4 (by rw [xy];exact iZ _ Lc.C4)
   have ki4:=KI.keep1 kp4 hxo
   refine bH _ rfl (cM _ rfl _ p_ws ws rfl Ch.vZ (a4.of (ki4 _ _ hp_ws)) (fe hw (by show 2≤sizeLine;decide) ?_))
   exact aF (zs:= [0,(chosen (ws.map Int.toNat) (Vbdeab.raw t).2:Int)]) kk W4 hd2 (ki2.trans ki4) es
theorem LY (n:Nat):xx n=(ramp n).map V.int:=by
 unfold xx ramp
 rw [fo]
 rfl
def qW (T:Tx K mg):Sp:=df T (fun d c rest=>∃k n,d=k::n::rest∧c= .shuffle k n)
theorem EM (T:Tx K mg):dM P w base T.kR 3 (qW T):=by
 refine T.kR.okA qI ?_
 rintro _ A _ s H _ Q E hr ⟨G,b,r,l,a,as,S,ns,pos,c,rest,rfl,W,⟨k,n,hd,rfl⟩,kk⟩
 refine⟨_,(ac (aZ 2 qI.nd (eJ (pv 1) T.au (ah T) hr))
   (ac (aZ 3 qI.nd (eJ (pv 1) T.au (ah T) hr))
   (ac (aT (aV (aS (bi T.bA (a5 T) hr (ab (pv 2) ad)))) (ae (aj (aI (ab (fh T.bb) ad)))) aG)
   (ac (aT (aV (aS (bi T.gR (gA T) hr (ab (pv 3) ad)))) (ae (aj (aI (ab (fh T.fE) ad)))) aG)
   (ae (aj (aB e9 (aI (ab am (ab (pv 3) ad))) (bi T.mZ (oe T) hr (ab (ik (ao (pv 0) rfl) (pv 2)) (ab (oS (vf rfl) (by rfl) T.C2 (by rfl) (ab (yH rfl T.di (ab (pv 3) ad)) ad)) (ab (pv 3) ad))))))))))),?_⟩
 have W0:=W;have ki0:=KI.refl H;have hd0:=hd
 refine aN W0 hd0 ki0 rfl fun H1 W1 hd1 ki1=> ?_
 refine aN W1 hd1 ki1 rfl fun H2 W2 hd2 ki2=> ?_
 have es:=Fh S k n
 refine bc _ rfl k rfl _ rfl (aX (fun h1=> ?_) (fun h1=> ?_))
 ·rw [iQ (eD h1)] at es
  exact⟨(by show 1≤sizeLine;decide),aF kk W2 hd2 ki2 es⟩
 ·have hk:=cg h1
  refine bc _ rfl n rfl _ rfl (aX (fun h2=> ?_) (fun h2=> ?_))
  ·rw [iR (e:= -3) hk (by rw [cu,if_pos (dN (eD h2))])] at es
   exact⟨(by show 1≤sizeLine;decide),aF kk W2 hd2 ki2 es⟩
  ·have hn:=cg h2
   obtain⟨x,t,hx,ht,est,hst,hlt⟩:=W2.sGet (k:=k.toNat) (by omega)
   rw [mt (r:=((Vbdeab.raws n.toNat t).1,shownRow (shuffled n.toNat (Vbdeab.raws n.toNat t).2 0 (ramp n.toNat)))) hk (by rw [est,cu,aE hn,if_neg (by decide)])] at es
   refine cZ _ rfl (by show 2≤sizeLine;decide) fun q hq=> ?_
   have sq:aC H2 (bR H2 q (.lst [.int 0,.int n])):=aC.laid hq
   have W3:=W2.same sq
   obtain⟨db,hb⟩:=id W3.bank
   obtain⟨dx,hxo⟩:bS T (bR H2 q (.lst [.int 0,.int n])) x t:=let ⟨d,h⟩:=hst;⟨d,sq _ _ h⟩
   refine aM _ rfl b _ db _ _ rfl hb T.aQ.cl (T.aQ.no _ (by decide)) rfl (bO _ rfl l _ _ _ rfl rfl (a4.of W3.lst) (JW hk.1 hx) ?_)
   refine sC _ rfl n rfl (by omega) (by omega) fun g hg=>(cI g n rfl (bZ af (by omega) (by omega) fun e he=> ?_))
   have sg:=aC.laid (o:= .rng 0 n) hg
   have se:=aC.laid (o:= .lst (xx n.toNat)) he
   have s4:=sg.trans se
   have W4:=W3.same s4
   have hxo4:=s4 _ _ hxo
   have hq4:=s4 _ _ (af (H:=H2) (a:=q) (o:= .lst [.int 0,.int n]))
   have hrl:(ramp n.toNat).length=n.toNat:=Ch.Gj _
   have en:=cC hn.1
   refine aM _ rfl x e t (ramp n.toNat) n.toNat (by rw [en];rfl) ⟨dx,hxo4⟩ (a4.of (by rw [af,LY])) (by omega) (by omega) fun H5 p5 hp5 hs5 kp5 np5=> ?_
   rw [hrl] at hp5
   have W5:=W4.stream hx ⟨dx,hxo4⟩ hs5 kp5 (uJ hlt _)
   have hq5:=kp5 _ _ hq4 (bf hq4 hxo4 (by intro z;cases z))
   have hlen:(shuffled n.toNat (Vbdeab.raws n.toNat t).2 0 (ramp n.toNat)).length=n.toNat:=by rw [Ch.g9,hrl]
   rw [lv (by omega)] at hp5
   refine jZ q p5 _ _ rfl rfl hq5 hp5 (by rw [aD,hlen];show 2+n.toNat≤2 ^ 24;omega) ?_
   have e2:(0:Int)::shownRow (shuffled n.toNat (Vbdeab.raws n.toNat t).2 0 (ramp n.toNat))=0::n::shuffled n.toNat (Vbdeab.raws n.toNat t).2 0 (ramp n.toNat):=by
    unfold shownRow
    rw [hlen,en]
   rw [e2] at es
   exact aF kk W5 hd2 (((ki2.trans (KI.same sq)).trans (KI.same s4)).trans (KI.keep1 kp5 hxo4)) es
def ud (T:Tx K mg):Sp:=df T (fun d c rest=>∃k n m,d=k::n::m::rest∧c= .sample k n m)
theorem Gc (T:Tx K mg):dM P w base T.mY 3 (ud T):=by
 refine T.mY.okA nM ?_
 rintro _ A _ s H _ Q E hr ⟨G,b,r,l,a,as,S,ns,pos,c,rest,rfl,W,⟨k,n,m,hd,rfl⟩,kk⟩
 refine⟨_,(ac (aZ 2 nM.nd (eJ (pv 1) T.au (ah T) hr))
   (ac (aZ 3 nM.nd (eJ (pv 1) T.au (ah T) hr))
   (ac (aZ 4 nM.nd (eJ (pv 1) T.au (ah T) hr))
   (ac (aT (aV (aS (bi T.bA (a5 T) hr (ab (pv 2) ad)))) (ae (aj (aI (ab (fh T.bb) ad)))) aG)
   (ac (aT (aV (aS (bi T.gR (gA T) hr (ab (pv 3) ad)))) (ae (aj (aI (ab (fh T.fE) ad)))) aG)
   (ac (aT (aV (aS (bi T.bU (a7 T) hr (ab (pv 4) (ab am (ab (pv 3) ad)))))) (ae (aj (aI (ab (fh T.yj) ad)))) aG)
   (ae (aj (aB e9 (aI (ab am (ab (pv 4) ad))) (bi T.mZ (oe T) hr (ab (ik (ao (pv 0) rfl) (pv 2)) (ab (oS (vf rfl) (by rfl) T.C2 (by rfl) (ab (yH rfl T.di (ab (pv 3) ad)) ad)) (ab (pv 4) ad))))))))))))),?_⟩
 have W0:=W;have ki0:=KI.refl H;have hd0:=hd
 refine aN W0 hd0 ki0 rfl fun H1 W1 hd1 ki1=> ?_
 refine aN W1 hd1 ki1 rfl fun H2 W2 hd2 ki2=> ?_
 refine aN W2 hd2 ki2 rfl fun H3 W3 hd3 ki3=> ?_
 have es:=GV S k n m
 refine bc _ rfl k rfl _ rfl (aX (fun h1=> ?_) (fun h1=> ?_))
 ·rw [iQ (eD h1)] at es
  exact⟨(by show 1≤sizeLine;decide),aF kk W3 hd3 ki3 es⟩
 ·have hk:=cg h1
  refine bc _ rfl n rfl _ rfl (aX (fun h2=> ?_) (fun h2=> ?_))
  ·rw [iR (e:= -3) hk (by rw [cu,if_pos (dN (eD h2))])] at es
   exact⟨(by show 1≤sizeLine;decide),aF kk W3 hd3 ki3 es⟩
  ·have hn:=cg h2
   refine bH _ rfl (fy _ rfl m 0 (bB n rfl _ rfl (aX (fun h3=> ?_) (fun h3=> ?_))))
   ·rw [iR (e:= -7) hk (by rw [cu,cu,aE hn,if_neg (by decide),if_pos (dN (eD h3))])] at es
    exact⟨(by show 1≤sizeLine;decide),aF kk W3 hd3 ki3 es⟩
   ·have hm:=cg h3
    obtain⟨x,t,hx,ht,est,hst,hlt⟩:=W3.sGet (k:=k.toNat) (by omega)
    rw [mt (r:=((Vbdeab.raws m.toNat t).1,shownRow ((shuffled n.toNat (Vbdeab.raws m.toNat t).2 0 (ramp n.toNat)).take m.toNat))) hk (by rw [est,cu,cu,aE hn,if_neg (by decide),aE hm,if_neg (by decide)])] at es
    refine cZ _ rfl (by show 2≤sizeLine;decide) fun q hq=> ?_
    have sq:aC H3 (bR H3 q (.lst [.int 0,.int m])):=aC.laid hq
    have W4:=W3.same sq
    obtain⟨db,hb⟩:=id W4.bank
    obtain⟨dx,hxo⟩:bS T (bR H3 q (.lst [.int 0,.int m])) x t:=let ⟨d,h⟩:=hst;⟨d,sq _ _ h⟩
    refine aM _ rfl b _ db _ _ rfl hb T.aQ.cl (T.aQ.no _ (by decide)) rfl (bO _ rfl l _ _ _ rfl rfl (a4.of W4.lst) (JW hk.1 hx) ?_)
    refine sC _ rfl n rfl (by omega) (by omega) fun g hg=>(cI g n rfl (bZ af (by omega) (by omega) fun e he=> ?_))
    have sg:=aC.laid (o:= .rng 0 n) hg
    have se:=aC.laid (o:= .lst (xx n.toNat)) he
    have s4:=sg.trans se
    have W5:=W4.same s4
    have hxo4:=s4 _ _ hxo
    have hq4:=s4 _ _ (af (H:=H3) (a:=q) (o:= .lst [.int 0,.int m]))
    have hrl:(ramp n.toNat).length=n.toNat:=Ch.Gj _
    have em:=cC hm.1
    refine aM _ rfl x e t (ramp n.toNat) m.toNat (by rw [em];rfl) ⟨dx,hxo4⟩ (a4.of (by rw [af,LY])) (by omega) (by omega) fun H5 p5 hp5 hs5 kp5 np5=> ?_
    rw [hrl] at hp5
    have W6:=W5.stream hx ⟨dx,hxo4⟩ hs5 kp5 (uJ hlt _)
    have hq5:=kp5 _ _ hq4 (bf hq4 hxo4 (by intro z;cases z))
    have hlen:((shuffled n.toNat (Vbdeab.raws m.toNat t).2 0 (ramp n.toNat)).take m.toNat).length=m.toNat:=by rw [ic,Ch.g9,hrl];omega
    refine jZ q p5 _ _ rfl rfl hq5 hp5 (by rw [aD,hlen];show 2+m.toNat≤2 ^ 24;omega) ?_
    have e2:(0:Int)::shownRow ((shuffled n.toNat (Vbdeab.raws m.toNat t).2 0 (ramp n.toNat)).take m.toNat)=0::m::(shuffled n.toNat (Vbdeab.raws m.toNat t).2 0 (ramp n.toNat)).take m.toNat:=by
     unfold shownRow
     rw [hlen,em]
    rw [e2] at es
    exact aF kk W6 hd3 (((ki3.trans (KI.same sq)).trans (KI.same s4)).trans (KI.keep1 kp5 hxo4)) es
open Vbdeab (Class Dist)
theorem L8 (S:State) (k:Int) (row:List Int):Vbdeab.step S (.mix k row)=onStream S k fun t=>if 1000<row.length then .error (-3) else if row.all (fun z=>decide (z.natAbs≤Vbdeab.BIG))=false then .error (-5) else
   .ok ((Vbdeab.raws row.length t).1,shownRow (shuffled row.length (Vbdeab.raws row.length t).2 0 row)):=by rw [Vbdeab.step]
theorem KC (S:State) (k m:Int) (ws:List Int):Vbdeab.step S (.lots k m ws)=onStream S k fun t=>match weights ws with
  | none=> .error (-6)
  | some l=>if within m 0 (l.filter fun w=>decide (0<w)).length=false then .error (-7) else
   .ok ((Vbdeab.raws m.toNat t).1,shownRow (nats (lotsOf (Vbdeab.raws m.toNat t).2 l))):=by
 rw [Vbdeab.step]
 rfl
def Cr (T:Tx K mg):Sp:=df T (fun d c rest=>∃(k:Int) (n_ws:Nat) (ws:List Int),d=k::(n_ws:Int)::(ws++rest)∧ws.length=n_ws∧c= .mix k ws)
theorem LG (T:Tx K mg):dM P w base T.CU 3 (Cr T):=by
 refine T.CU.okA tV ?_
 rintro _ A _ s H _ Q E hr ⟨G,b,r,l,a,as,S,ns,pos,c,rest,rfl,W,⟨k,n_ws,ws,hd,hl_ws,rfl⟩,kk⟩
 refine⟨_,(ac (aZ 2 tV.nd (eJ (pv 1) T.au (ah T) hr))
   (ac (aZ 3 tV.nd (eJ (pv 1) T.dh (dO T) hr))
   (ac (aT (aV (aS (bi T.bA (a5 T) hr (ab (pv 2) ad)))) (ae (aj (aI (ab (fh T.bb) ad)))) aG)
   (ac (aT (aV (aS (bi T.gR (gA T) hr (ab (a8 aW (by rfl) T.gu eh (ab (pv 3) ad)) ad)))) (ae (aj (aI (ab (fh T.fE) ad)))) aG)
   (ac (aT (aV (aS (a8 (NT rfl) (by rfl) T.Pq (by rfl) (ab (j4 (own:= [("number",4)]) rfl tV.nd (cD (pv 3)) (cf (N:= ["bank","reader","k","row","number"]) (sc:=ag EU) (by decide+kernel)) (fun _ _ _ _ _=>(kT 4 tV.nd)) (fun _ _ _ _ _=>dQ) (fun _ _ _ _ _=>(bi T.gQ (fS T) hr (ab (pv 4) ad)))) ad)))) (ae (aj (aI (ab (fh T.kX) ad)))) aG)
   (ae (aj (aB e9 (aI (ab am (ab (a8 aW (by rfl) T.gu eh (ab (pv 3) ad)) ad))) (bi T.mZ (oe T) hr (ab (ik (ao (pv 0) rfl) (pv 2)) (ab (pv 3) (ab (a8 aW (by rfl) T.gu eh (ab (pv 3) ad)) ad)))))))))))),?_⟩
 have W0:=W;have ki0:=KI.refl H;have hd0:=hd
 refine aN W0 hd0 ki0 rfl fun H1 W1 hd1 ki1=> ?_
 obtain⟨dr1,hr1⟩:=id W1.rd
 obtain⟨g2,hq2⟩:=k6 hd1
 obtain⟨e2,hd2,le2⟩:=xA hq2 g2 hl_ws
 refine cM _ rfl r dr1 _ rfl hr1 rfl (iG r a _ n_ws ns rfl ⟨dr1,hr1⟩ W1.sq g2 le2 fun H2 p_ws hr2 hp_ws kp2 np_ws=> ?_)
 rw [e2] at hp_ws
 have W2:=W1.reader hr2 kp2;have ki2:=ki1.trans (KI.keep1 kp2 hr1);obtain⟨dr2,hr2⟩:=hr2
 have es:=L8 S k ws
 have lw:(ws.map V.int).length=ws.length:=aD ..
 refine bc _ rfl k rfl _ rfl (aX (fun h1=> ?_) (fun h1=> ?_))
 ·rw [iQ (eD h1)] at es
  exact⟨(by show 1≤sizeLine;decide),aF kk W2 hd2 ki2 es⟩
 ·have hk:=cg h1
  refine cv _ rfl p_ws _ rfl (.inl (a4.of hp_ws)) (bB _ rfl _ rfl (aX (fun h2=> ?_) (fun h2=> ?_)))
  ·have h2':1000<ws.length:=by have:=eD h2;rw [lw] at this;omega
   rw [iR (e:= -3) hk (by rw [if_pos h2'])] at es
   exact⟨(by show 1≤sizeLine;decide),aF kk W2 hd2 ki2 es⟩
  ·have h2':¬1000<ws.length:=by have:=cg h2;rw [lw] at this;omega
   refine pE _ rfl p_ws rfl ⟨_,a4.of hp_ws⟩ fun L hL=>jy (xs:=ws.map V.int) (fun i H'=>H' L=some (.lst (((ws.take i).map fun z=>decide (-1000000000000000000≤z∧z≤1000000000000000000)).map V.bl))∧aC H2 H') ⟨af,aC.laid hL⟩ (fun i H' _ h=>a4.of (h.2 _ _ hp_ws)) ?_ ?_
   ·rintro i v H3 hv ⟨hL3,s3⟩
    obtain⟨z,hz,rfl⟩:=FN hv
    refine dm rfl _ rfl (sC z rfl _ hL3 (by rw [aD,aD,ic];show _<2 ^ 24;omega) ?_ fun q o e=> ?_)
    ·rw [af,Ch.bw hz,du,du]
     rfl
    ·rw [ak (aw e hL)]
     exact s3 q o e
   ·rintro H3 ⟨hL3,s3⟩
    rw [lw,jP] at hL3
    have eall:(ws.map fun z=>decide (-1000000000000000000≤z∧z≤1000000000000000000)).all id=ws.all (fun z=>decide (z.natAbs≤Vbdeab.BIG)):=by
     rw [List.all_map]
     congr 1
     funext z
     show decide _=decide _
     by_cases c:z.natAbs≤Vbdeab.BIG
     ·rw [aE c,aE ((uH z).mp c)]
     ·rw [bq c,bq fun q=>c ((uH z).mpr q)]
    have W3:=W2.same s3
    have ki3:=ki2.trans (KI.same s3)
    refine⟨L,(eK _ rfl (a4.of hL3) _ rfl ?_)⟩
    rw [eall]
    cases hall:ws.all (fun z=>decide (z.natAbs≤Vbdeab.BIG)) with
    | false=>
     refine jx ?_
     rw [iR (e:= -5) hk (by rw [if_neg h2',hall,if_pos rfl])] at es
     exact⟨(by show 1≤sizeLine;decide),aF kk W3 hd2 ki3 es⟩
    | true=>
     obtain⟨x,t,hx,ht,est,hst,hlt⟩:=W3.sGet (k:=k.toNat) (by omega)
     rw [mt (r:=((Vbdeab.raws ws.length t).1,shownRow (shuffled ws.length (Vbdeab.raws ws.length t).2 0 ws))) hk (by rw [est,if_neg h2',hall,if_neg (by decide)])] at es
     refine d9 _ rfl p_ws _ rfl (.inl (a4.of (s3 _ _ hp_ws))) (by show 2≤sizeLine;decide) fun q hq=> ?_
     have sq:=aC.laid (o:= .lst [V.int 0,V.int ((ws.map V.int).length:Int)]) hq
     have W4:=W3.same sq
     obtain⟨db,hb⟩:=id W4.bank
     obtain⟨dx,hxo⟩:=id hst
     have hxo4:=sq _ _ hxo
     have hpw:=sq _ _ (s3 _ _ hp_ws)
     refine aM _ rfl b _ db _ _ rfl hb T.aQ.cl (T.aQ.no _ (by decide)) rfl (bO _ rfl l _ _ _ rfl rfl (a4.of W4.lst) (JW hk.1 hx) (eV _ rfl _ rfl p_ws _ rfl (.inl (a4.of hpw)) (iG x p_ws t ws ws.length (by rw [lw];rfl) ⟨dx,hxo4⟩ (a4.of hpw) (by omega) (bp _) fun H5 p5 hp5 hs5 kp5 np5=> ?_)))
     have W5:=W4.stream hx ⟨dx,hxo4⟩ hs5 kp5 (uJ hlt _)
     have hq5:=kp5 _ _ (af (H:=H3) (a:=q) (o:= .lst [V.int 0,V.int ((ws.map V.int).length:Int)])) (bf af hxo4 (by intro z;cases z))
     have hlen:(shuffled ws.length (Vbdeab.raws ws.length t).2 0 ws).length=ws.length:=Ch.g9 _ _ _ _
     rw [lv (by omega)] at hp5
     have hlenV:((shuffled ws.length (Vbdeab.raws ws.length t).2 0 ws).map V.int).length=ws.length:=by rw [aD,hlen]
     refine jZ q p5 _ _ rfl rfl hq5 hp5 (by rw [hlenV];show 2+ws.length≤2 ^ 24;omega) ?_
     have e2:(0:Int)::shownRow (shuffled ws.length (Vbdeab.raws ws.length t).2 0 ws)=0::((ws.map V.int).length:Int)::shuffled ws.length (Vbdeab.raws ws.length t).2 0 ws:=by
      unfold shownRow
      rw [hlen,lw]
     rw [e2] at es
     exact aF kk W5 hd2 ((ki3.trans (KI.same sq)).trans (KI.keep1 kp5 hxo4)) es
theorem Ix {ws:List Nat} (h1:1≤ws.length) (h2:ws.length≤64) (h3:0<Vbdeab.sum ws) (h4:Vbdeab.sum ws≤10 ^ 40):(weights (nats ws)).isSome=true:=by
 rw [Kd.jL,if_pos]
 ·rfl
 ·unfold weightsOk LIMIT
  rw [aE h1,aE h2,aE (show 1≤Vbdeab.sum ws from h3),aE h4]
  rfl
theorem HJ (ws:List Nat):(nats ws).map Int.toNat=ws:=by
 unfold nats
 rw [fo]
 have:(Int.toNat∘Int.ofNat)=id:=by funext n;rfl
 rw [this,List.map_id]
def AN (T:Tx K mg):Sp:=fun vs H Q _=>∃(a r:Addr) (t:Stream) (ws:List Nat) (m:Nat),vs= [.ref a,.ref r,.int m]∧bS T H a t∧a4 K H r (dH ws)∧1≤ws.length∧ws.length≤64∧Vbdeab.sum ws≤10 ^ 40∧m≤Lt.pos ws∧m≤64∧∀(H':Hp) (p:Addr),H' p=some (.lst (dH (lotsOf (Vbdeab.raws m t).2 ws)))→bS T H' a (Vbdeab.raws m t).1→iA H H' a→H p=none→Q (.ref p) H'
theorem Aw (T:Tx K mg):dM P w base T.rl 2 (AN T):=by
 refine T.rl.okA fO ?_
 rintro _ A _ s H _ Q E hr ⟨a,r,t,ws,m,rfl,⟨da,h1⟩,hs,l1,l2,hsum,hm,hm2,k⟩
 refine⟨_,(ac (aZ 3 fO.nd (oS pQ (by rfl) T.C2 (by rfl) (ab (pv 1) ad)))
   (ac (aZ 4 fO.nd (aI ad))
   (ac (d7 cJ rfl (cq rfl T.di (ab (pv 2) ad)) (kT 5 fO.nd) (ac (aZ 6 fO.nd (bi T.jS (nj T) hr (ab (eJ (pv 0) T.bJ (bV T) hr) (ab (pv 3) ad))))
   (ac (gt (rL lF um uo jc (pv 4) (ab (pv 6) ad)))
   (ae (qA am (qw (pv 3) (pv 6) iF))))))
   (ae (aj (pv 4)))))),?_⟩
 refine cv _ rfl r _ rfl (.inl hs) fun q hq=> ?_
 have sq:=aC.laid (o:= .lst (dH ws)) hq
 have naq:a≠q:=aw h1 hq
 refine⟨bn _,fun p hp=> ?_⟩
 have sp:=aC.laid (o:= .lst []) hp
 have np:H p=none:=sq.free hp
 have nqp:q≠p:=aw af hp
 have nap:a≠p:=aw (sq _ _ h1) hp
 refine sC _ rfl m rfl (by omega) (by omega) (gU (n:=(m:Int).toNat) (fun i σ H'=>i≤m∧∃v1 v2:Option V,σ= [some (.ref a),some (.ref r),some (.int m),some (.ref q),some (.ref p),v1,v2]∧H' q=some (.lst (dH (Lt.left (Vbdeab.raws i t).2 ws)))∧H' p=some (.lst (dH (lotsOf (Vbdeab.raws i t).2 ws)))∧bS T H' a (Vbdeab.raws i t).1∧Lt.Ej ws i (Lt.left (Vbdeab.raws i t).2 ws)∧∀b o,H b=some o→b≠a→H' b=some o) ?_ ?_ ?_)
 ·refine⟨bn _,(bT none none rfl ?_ (bZ ?_ ⟨da,?_⟩ ?_ fun b o e _=>sp _ _ (sq _ _ e)))⟩
  ·rw [sp _ _ af,Ch.dA]
   rfl
  ·rw [af,Ch.dA]
   rfl
  ·rw [sp _ _ (sq _ _ h1),Ch.dA]
  ·rw [Ch.dA]
   exact Lt.Ej.start ws
 ·rintro i σ H1 hi ⟨_,v1,v2,rfl,hq1,hp1,⟨d1,ha1⟩,good,kp⟩
  rw [cT] at hi
  have ulen:(Vbdeab.raws i t).2.length=i:=Ch.gC _ _
  have snoc:=Ch.fU i t
  generalize hL:Lt.left (Vbdeab.raws i t).2 ws=L at*
  have hgs:=good.spos (show i<Lt.pos ws by omega)
  obtain⟨g2,clt⟩:=good.step (show i<Lt.pos ws by omega) (Ch.vZ (s:=(Vbdeab.raws i t).1))
  have gl:=good.len
  refine cM _ rfl a d1 _ rfl ha1 rfl (bT a _ rfl ⟨d1,ha1⟩ fun H2 ⟨d2,ha2⟩ kp2=> ?_)
  have hq2:H2 q=some (.lst (dH L)):=kp2 _ _ hq1 (Ne.symm naq)
  have hp2:=kp2 _ _ hp1 (Ne.symm nap)
  refine bH _ rfl (iY _ q (nats L) rfl Ch.vZ (a4.of hq2) (Ix (by omega) (by omega) hgs (by have:=good.sum;omega)) ?_)
  rw [HJ]
  refine eK _ rfl (.inl ⟨rfl,_,a4.of hp2⟩) _ rfl (iY p _ _ rfl rfl hp2 (by rw [be,Lt.xa,ulen];show i<2 ^ 24;omega) ?_)
  refine pF _ rfl _ rfl q _ _ (chosen L (Vbdeab.raw (Vbdeab.raws i t).1).2) rfl rfl ?_ (p9 rfl (by rw [be];exact clt)) (by omega) (bT _ _ rfl ?_ (bZ ?_ ⟨d2,?_⟩ ?_ fun b o e nb=> ?_))
  ·rw [ak nqp]
   exact hq2
  ·rw [af,snoc,Lt.yt,hL]
   unfold dH nats
   rw [yc,yc]
   rfl
  ·rw [ak (Ne.symm nqp),af,snoc,Lt.DR,hL,gw]
  ·rw [ak naq,ak nap,ha2,snoc]
  ·rw [snoc,Lt.yt,hL]
   exact g2
  ·rw [ak (aw e hq),ak (aw e np)]
   exact kp2 _ _ (kp _ _ e nb) nb
 ·rintro σ H1 ⟨_,v1,v2,rfl,hq1,hp1,ha1,good,kp⟩
  rw [cT] at hp1 ha1
  exact⟨_,rfl,k H1 p hp1 ha1 (fun b o e nb=>kp b o e nb) np⟩
theorem HI {l:List Int} (h:∀x∈l,0≤x):l.map V.int=dH (l.map Int.toNat):=by
 unfold dH nats
 rw [fo,fo]
 refine nX fun x hx=> ?_
 show V.int x=V.int ((x.toNat:Nat):Int)
 rw [cC (h x hx)]
theorem Le {l:List Int} (h:∀x∈l,0≤x):(l.filter fun z=>decide (0<z)).length=Lt.pos (l.map Int.toNat):=by
 induction l with
 | nil=>rfl
 | cons a r ih=>
  have ih:=ih fun x hx=>h x (dU _ hx)
  have ha:=h a fB
  rw [eY,Lt.oU,←ih,ur]
  by_cases q:0<a
  ·rw [if_pos (aE q),if_pos (by omega),d5];omega
  ·rw [if_neg (by simp;omega),if_neg (by omega),i3]
def zj (T:Tx K mg):Sp:=df T (fun d c rest=>∃(k m:Int) (n_ws:Nat) (ws:List Int),d=k::m::(n_ws:Int)::(ws++rest)∧ws.length=n_ws∧c= .lots k m ws)
theorem Ki (T:Tx K mg):dM P w base T.wM 3 (zj T):=by
 refine T.wM.okA l5 ?_
 rintro _ A _ s H _ Q E hr ⟨G,b,r,l,a,as,S,ns,pos,c,rest,rfl,W,⟨k,m,n_ws,ws,hd,hl_ws,rfl⟩,kk⟩
 refine⟨_,(ac (aZ 2 l5.nd (eJ (pv 1) T.au (ah T) hr))
   (ac (aZ 3 l5.nd (eJ (pv 1) T.au (ah T) hr))
   (ac (aZ 4 l5.nd (eJ (pv 1) T.dh (dO T) hr))
   (ac (aT (aV (aS (bi T.bA (a5 T) hr (ab (pv 2) ad)))) (ae (aj (aI (ab (fh T.bb) ad)))) aG)
   (ac (aT (aV (aS (bi T.iH (kt T) hr (ab (pv 4) ad)))) (ae (aj (aI (ab (fh T.lK) ad)))) aG)
   (ac (aT (aV (aS (bi T.bU (a7 T) hr (ab (pv 3) (ab am (ab (a8 aW (by rfl) T.gu eh (ab (j4 (own:= [("weight",5)]) rfl l5.nd (cD (pv 4)) (cf (N:= ["bank","reader","k","m","weights","weight"]) (sc:=ag BV) (by decide+kernel)) (fun _ _ _ _ _=>(kT 5 l5.nd)) (fun _ _ _ _ _=>(ES (aR vi (pv 5) am (aY _)))) (fun _ _ _ _ _=>(pv 5))) ad)) ad)))))) (ae (aj (aI (ab (fh T.yj) ad)))) aG)
   (ae (aj (aB e9 (aI (ab am (ab (pv 3) ad))) (bi T.rl (Aw T) hr (ab (ik (ao (pv 0) rfl) (pv 2)) (ab (pv 4) (ab (pv 3) ad))))))))))))),?_⟩
 have W0:=W;have ki0:=KI.refl H;have hd0:=hd
 refine aN W0 hd0 ki0 rfl fun H1 W1 hd1 ki1=> ?_
 refine aN W1 hd1 ki1 rfl fun H2 W2 hd2 ki2=> ?_
 obtain⟨dr2,hr2⟩:=id W2.rd
 obtain⟨g3,hq3⟩:=k6 hd2
 obtain⟨e3,hd3,le3⟩:=xA hq3 g3 hl_ws
 refine cM _ rfl r dr2 _ rfl hr2 rfl (iG r a _ n_ws ns rfl ⟨dr2,hr2⟩ W2.sq g3 le3 fun H3 p_ws hr3 hp_ws kp3 np_ws=> ?_)
 rw [e3] at hp_ws
 have W3:=W2.reader hr3 kp3;have ki3:=ki2.trans (KI.keep1 kp3 hr2);obtain⟨dr3,hr3⟩:=hr3
 have es:=KC S k m ws
 have lw:(ws.map V.int).length=ws.length:=aD ..
 refine bc _ rfl k rfl _ rfl (aX (fun h1=> ?_) (fun h1=> ?_))
 ·rw [iQ (eD h1)] at es
  exact⟨(by show 1≤sizeLine;decide),aF kk W3 hd3 ki3 es⟩
 ·have hk:=cg h1
  refine lu _ rfl p_ws ws rfl (a4.of hp_ws) _ rfl (aX (fun h2=> ?_) (fun h2=> ?_))
  ·have hw:weights ws=none:=by
    cases e:weights ws with
    | none=>rfl
    | some z=>rw [e] at h2;cases h2
   rw [iR (e:= -6) hk (by rw [hw])] at es
   exact⟨(by show 1≤sizeLine;decide),aF kk W3 hd3 ki3 es⟩
  ·have hw:(weights ws).isSome=true:=by
    cases e:(weights ws).isSome with
    | true=>rfl
    | false=>rw [e] at h2;exact absurd rfl h2
   obtain⟨nn,ew,l1,l2,s1,s2⟩:=jM hw
   refine bH _ rfl (pE _ rfl p_ws rfl ⟨_,a4.of hp_ws⟩ fun L hL=>jy (xs:=ws.map V.int) (fun i H'=>(∃zs:List V,H' L=some (.lst zs)∧zs.length=((ws.take i).filter fun z=>decide (0<z)).length)∧aC H3 H') ⟨⟨[],af,rfl⟩,aC.laid hL⟩ (fun i H' _ h=>a4.of (h.2 _ _ hp_ws)) ?_ ?_)
   ·rintro i v H4 hv ⟨⟨zs,hL4,hz4⟩,s4⟩
    obtain⟨z,hz,rfl⟩:=FN hv
    have fl:∀i,((ws.take i).filter fun z=>decide (0<z)).length≤ws.length:=fun i=>fQ (Hg _ _) (by rw [ic];omega)
    refine⟨rfl,(lu _ rfl _ _ rfl rfl _ rfl (aX (fun h3=> ?_) (fun h3=> ?_)))⟩
    ·have h3':0<z:=bj h3
     refine sC _ rfl _ hL4 ?_ ⟨_,af,?_⟩ fun q o e=> ?_
     ·rw [hz4]
      have:=fl i
      show _<2 ^ 24
      omega
     ·rw [Ch.bw hz,Ha,bX,bX,hz4,ur,if_pos (aE h3')]
      rfl
     ·rw [ak (aw e hL)]
      exact s4 q o e
    ·have h3':¬0<z:=fun q=>h3 (aE q)
     refine⟨⟨zs,hL4,?_⟩,s4⟩
     rw [Ch.bw hz,Ha,bX,ur,if_neg (by simp;omega),hz4]
     rfl
   ·rintro H4 ⟨⟨zs,hL4,hz4⟩,s4⟩
    rw [lw,jP,Le nn] at hz4
    have W4:=W3.same s4
    have ki4:=ki3.trans (KI.same s4)
    have epos:((ws.map Int.toNat).filter fun w=>decide (0<w)).length=Lt.pos (ws.map Int.toNat):=rfl
    refine bT L _ rfl (.inl (a4.of hL4)) (ot m 0 (bB _ rfl _ rfl ?_))
    rw [hz4]
    refine aX (fun h3=> ?_) (fun h3=> ?_)
    ·rw [iR (e:= -7) hk (by rw [ew];show(if within m 0 _=false then _ else _)=_;rw [epos,cu,if_pos (dN (eD h3))])] at es
     exact⟨(by show 1≤sizeLine;decide),aF kk W4 hd3 ki4 es⟩
    ·have hm:=cg h3
     obtain⟨x,t,hx,ht,est,hst,hlt⟩:=W4.sGet (k:=k.toNat) (by omega)
     rw [mt (r:=((Vbdeab.raws m.toNat t).1,shownRow (nats (lotsOf (Vbdeab.raws m.toNat t).2 (ws.map Int.toNat))))) hk (by rw [est,ew];show(if within m 0 _=false then _ else _)=_;rw [epos,cu,aE hm,if_neg (by decide)])] at es
     refine cZ _ rfl (by show 2≤sizeLine;decide) fun q hq=> ?_
     have sq:=aC.laid (o:= .lst [V.int 0,V.int m]) hq
     have W5:=W4.same sq
     obtain⟨db,hb⟩:=id W5.bank
     obtain⟨dx,hxo⟩:=id hst
     have hxo5:=sq _ _ hxo
     have hpw:=sq _ _ (s4 _ _ hp_ws)
     rw [HI nn] at hpw
     have em:=cC hm.1
     have hpl:Lt.pos (ws.map Int.toNat)≤(ws.map Int.toNat).length:=Hg _ _
     have hlm:(ws.map Int.toNat).length=ws.length:=aD ..
     refine aM _ rfl b _ db _ _ rfl hb T.aQ.cl (T.aQ.no _ (by decide)) rfl (bO _ rfl l _ _ _ rfl rfl (a4.of W5.lst) (JW hk.1 hx) (iX _ rfl _ rfl x p_ws t (ws.map Int.toNat) m.toNat (by rw [em];rfl) ⟨dx,hxo5⟩ (a4.of hpw) (by omega) (by omega) (bZ s2 (by omega) (by omega) fun H6 p6 hp6 hs6 kp6 np6=> ?_)))
     have W6:=W5.stream hx ⟨dx,hxo5⟩ hs6 kp6 (uJ hlt _)
     have hq6:=kp6 _ _ (af (H:=H4) (a:=q) (o:= .lst [V.int 0,V.int m])) (bf af hxo5 (by intro z;cases z))
     have hlen:(nats (lotsOf (Vbdeab.raws m.toNat t).2 (ws.map Int.toNat))).length=m.toNat:=by rw [sX,Lt.xa,Ch.gC]
     refine jZ q p6 _ _ rfl rfl hq6 hp6 (by rw [be,Lt.xa,Ch.gC];show 2+m.toNat≤2 ^ 24;omega) ?_
     have e2:(0:Int)::shownRow (nats (lotsOf (Vbdeab.raws m.toNat t).2 (ws.map Int.toNat)))=0::m::nats (lotsOf (Vbdeab.raws m.toNat t).2 (ws.map Int.toNat)):=by
      unfold shownRow
      rw [hlen,em]
     rw [e2] at es
     exact aF kk W6 hd3 ((ki4.trans (KI.same sq)).trans (KI.keep1 kp6 hxo5)) es
open Vbdeab (Class Dist)
theorem AY {T:Tx K mg} {H:Hp} {b r l a:Addr} {as:List Addr} {S:State} {ns:List Int} {pos:Nat} (W:Wd G T H b r l a as S ns pos):∀c∈G.av l,H c≠none:=fun c hc z=>by
 unfold Gh.av at hc
 obtain⟨xs,ho⟩:=W.dw.oo
 obtain⟨vs,hv,_⟩:=W.dw.vs
 rcases cF.mp hc with q | hc
 ·rw [q,ho] at z;cases z
 ·rcases cF.mp hc with q | hc
  ·rw [q,W.lst] at z;cases z
  ·rw [gN] at hc
   rw [hc,hv] at z;cases z
theorem Wd.dGet {T:Tx K mg} {H:Hp} {b r l a:Addr} {as:List Addr} {S:State} {ns:List Int} {pos:Nat} (W:Wd G T H b r l a as S ns pos) {d:Int} (h:0≤d∧d≤63):∃vs v,H G.l2=some (.lst vs)∧vs.length=64∧vs[d.toNat]?=some v∧KM vs d=some v∧ja T (G.av l) H v (S.dist d.toNat):=by
 obtain⟨vs,h1,h2,h3⟩:=W.dw.vs
 have e:=bF (show d.toNat<vs.length by omega)
 have e2:=bF (show d.toNat<S.dists.length by rw [W.dw.dlen];omega)
 refine cI vs _ h1 (bZ h2 e (ve (j:=d.toNat) (by omega) e) ?_)
 have z:=h3 _ _ _ e e2
 unfold State.dist
 rw [eX,e2]
 exact z
theorem Wd.hold {T:Tx K mg} {H:Hp} {b r l a:Addr} {as:List Addr} {S:State} {ns:List Int} {pos:Nat} (W:Wd G T H b r l a as S ns pos) {d:Nat} (hd:d<64) {vs:List V} (hv:H G.l2=some (.lst vs)) {v:V} {x:Option Dist} (o:ja T (G.av l) H v x):
  Wd G T (bR H G.l2 (.lst (vs.set d v))) b r l a as (S.hold d x) ns pos:=by
 obtain⟨⟨dx,hb⟩,⟨dr,hr⟩,hq,hl,nd,len,sl,at_,ok,dw⟩:=W
 have kp:∀c o,H c=some o→c≠G.l2→bR H G.l2 (.lst (vs.set d v)) c=some o:=fun c o e n=>by rw [ak n];exact e
 have kpp:KQ (G.av l) H (bR H G.l2 (.lst (vs.set d v))):= .set (by unfold Gh.av;simp) hv
 refine⟨⟨dx,kp _ _ hb (bf hb hv (by intro z;cases z))⟩,⟨dr,kp _ _ hr (bf hr hv (by intro z;cases z))⟩,hq.keep (fun _ _ _ e=>kp _ _ e (bf e hv (by intro z;cases z))),kp _ _ hl dw.n3,nd,len,sl,fun j z u h2 h3=> ?_,ok,?_⟩
 ·obtain⟨d,h⟩:=at_ j z u h2 h3
  exact⟨d,kp _ _ h (bf h hv (by intro z;cases z))⟩
 ·obtain⟨⟨vs',h1,h2,h3⟩,dlen,⟨xs,oo⟩,n1,n2,n3,tb,to,bm⟩:=dw
  have ev:vs'=vs:=by rw [hv] at h1;exact(HO.lst.inj (bE h1)).symm
  subst ev
  refine⟨(cZ _ af (by rw [r9];exact h2) fun j u y a1 a2=> ?_),?_,⟨xs,kp _ _ oo (Ne.symm n2)⟩,n1,n2,n3,kpp.t _ tb,to,bm.keep kpp.x⟩
  ·have a2':(S.dists.set d x)[j]?=some y:=a2
   by_cases hj:j=d
   ·subst hj
    rw [Ak (by omega)] at a1
    rw [Ak (by omega)] at a2'
    cases a1
    cases a2'
    exact o.kp kpp.toKP
   ·rw [Aj (fun q=>hj q.symm)] at a1 a2'
    exact(h3 j u y a1 a2').kp kpp.toKP
  ·show(S.dists.set d x).length=64
   rw [r9]
   exact dlen
theorem Wd.kiHold {T:Tx K mg} {H:Hp} {b r l a:Addr} {as:List Addr} {S:State} {ns:List Int} {pos:Nat} (W:Wd G T H b r l a as S ns pos) (o:HO):KI H (bR H G.l2 o):=fun x xs h=>by
 refine(ak fun q=> ?_).trans h
 obtain⟨vs,h1,h2,h3⟩:=W.dw.vs
 rw [q,h1] at h
 have e:=HO.lst.inj (bE h)
 have l0:=W.dw.dlen
 match vs,h2,e,h3 with
 | v::_,_,e,h3=>
  match S.dists,l0,h3 with
  | y::_,_,h3=>
   have z:=h3 0 v y rfl rfl
   match xs,e with
   | n::_,e=>
    have ev:v=V.int n:=by injection e
    subst ev
    cases y with
    | none=>exact absurd (show V.int n=V.non from z) (by intro q;cases q)
    | some dd=>obtain⟨_,q,_⟩:=z;cases q
theorem k9 {S:State} {d:Int} {f:Dist→State×List Int}:(¬(0≤d∧d≤63)→onDist S d f=(S,[-8]))∧((0≤d∧d≤63)→S.dist d.toNat=none→onDist S d f=(S,[-12]))∧((0≤d∧d≤63)→∀x,S.dist d.toNat=some x→onDist S d f=f x):=by
 unfold onDist
 rw [cE]
 refine⟨fun h=> ?_,fun h e=> ?_,fun h x e=> ?_⟩
 ·rw [bq h,if_pos rfl]
 ·rw [aE h,if_neg (by decide),e]
 ·rw [aE h,if_neg (by decide),e]
def Dm (T:Tx K mg):Sp:=fun vs H Q _=>∃n:Int,vs= [.int n]∧Q (.bl (decide (0≤n∧n≤63))) H
theorem e8 (T:Tx K mg):dM P w base T.fK 2 (Dm T):=by
 refine T.fK.okA De ?_
 rintro _ A _ s H _ Q E hr ⟨n,rfl,k⟩
 refine⟨_,(ae (aj (bi T.bU (a7 T) hr (ab (pv 0) (ab am (ab (aB b9 (fh T.Hm) am) ad)))))),?_⟩
 exact cv _ rfl _ _ rfl rfl ⟨n,(cI 0 63 rfl k)⟩
def Dc (S:State) (d:Int):Int:=if 0≤d∧d≤63 then(match S.dist d.toNat with | none=> -12 | some _=>0) else -8
def wq (T:Tx K mg):Sp:=fun vs H Q _=>∃(G:Gh) (b r l a:Addr) (as:List Addr) (S:State) (ns:List Int) (pos:Nat) (d:Int),vs= [.ref b,.int d]∧Wd G T H b r l a as S ns pos∧Q (.int (Dc S d)) H
theorem ci (T:Tx K mg):dM P w base T.cn 3 (wq T):=by
 refine T.cn.okA wc ?_
 rintro _ A _ s H _ Q E hr ⟨G,b,r,l,a,as,S,ns,pos,d,rfl,W,k⟩
 refine⟨_,(ac (aT (aV (aS (bi T.fK (e8 T) hr (ab (pv 1) ad)))) (ae (aj (fh T.kY))) aG)
   (ac (aT (aR kC (ik (ao (pv 0) rfl) (pv 1)) cY (aY _)) (ae (aj (fh T.oC))) aG)
   (ae (aj am)))),?_⟩
 refine bc _ rfl d rfl _ rfl (aX (fun h1=> ?_) (fun h1=> ?_))
 ·have e:Dc S d= -8:=if_neg (eD h1)
  rw [e] at k
  exact k
 ·have hd:=cg h1
  obtain⟨vs,v,h2,h3,h4,h5,h6⟩:=W.dGet hd
  obtain⟨db,hb⟩:=id W.bank
  have e:Dc S d=match S.dist d.toNat with | none=> -12 | some _=>0:=if_pos hd
  rw [e] at k
  refine aM _ rfl b _ db _ _ rfl hb T.aQ.cl (T.aQ.no _ (by decide)) rfl (bO _ rfl G.l2 _ _ _ rfl rfl (a4.of h2) h5 ?_)
  cases hx:S.dist d.toNat with
  | none=>
   rw [hx] at h6 k
   obtain rfl:v= .non:=h6
   exact dm rfl _ rfl k
  | some x=>
   rw [hx] at h6 k
   obtain⟨y,rfl,_⟩:=h6
   exact dm rfl _ rfl k
def Kt (T:Tx K mg):Sp:=fun vs H Q _=>∃(G:Gh) (b r l a:Addr) (as:List Addr) (S:State) (ns:List Int) (pos:Nat) (d:Int) (v:V) (x:Option Dist),vs= [.ref b,.int d,v]∧Wd G T H b r l a as S ns pos∧(0≤d∧d≤63)∧ja T (G.av l) H v (checked x)∧∀(H':Hp) (p:Addr) (S':State) (zs:List Int),holdNew S d x=(S',zs)→Wd G T H' b r l a as S' ns pos→H' p=some (.lst (zs.map V.int))→KI H H'→NF H p→Q (.ref p) H'
theorem yB (T:Tx K mg):dM P w base T.CT 1 (Kt T):=by
 refine T.CT.okA Kr ?_
 rintro _ A _ s H _ Q E hr ⟨G,b,r,l,a,as,S,ns,pos,d,v,x,rfl,W,hd,ho,kk⟩
 refine⟨_,(ac (aT (aR kC (pv 2) cY (aY _)) (ae (aj (aI (ab (fh T.yi) ad)))) aG)
   (ac (qA (pv 2) (qw (ao (pv 0) rfl) (pv 1) iF))
   (ae (aj (aI (ab am ad)))))),?_⟩
 cases hx:checked x with
 | none=>
  rw [hx] at ho
  obtain rfl:v= .non:=ho
  have e:holdNew S d x=(S,[-10]):=by unfold holdNew;rw [hx]
  refine⟨_,rfl,rfl,_,rfl,(by show 1≤sizeLine;decide),fun p hp=> ?_⟩
  exact kk _ p S [-10] e (W.same (aC.laid hp)) af (KI.same (aC.laid hp)) ((KI.refl H).nf hp)
 | some y=>
  rw [hx] at ho
  obtain⟨z,rfl,hz⟩:=id ho
  have e:holdNew S d x=(S.hold d.toNat (some y),[0]):=by unfold holdNew;rw [hx]
  obtain⟨vs,v0,h2,h3,h4,h5,h6⟩:=W.dGet hd
  obtain⟨db,hb⟩:=id W.bank
  have W2:=W.hold (d:=d.toNat) (by omega) h2 (x:=some y) ho
  have ki2:=W.kiHold (.lst (vs.set d.toNat (.ref z)))
  refine eK _ rfl rfl _ rfl (iX _ rfl _ rfl b _ db _ _ rfl hb T.aQ.cl (T.aQ.no _ (by decide)) rfl (gM _ rfl G.l2 _ _ d.toNat rfl rfl h2 (p9 (by omega) (by omega)) (by show 1≤sizeLine;decide) fun p hp=> ?_))
  exact kk _ p _ [0] e (W2.same (aC.laid hp)) af (ki2.trans (KI.same (aC.laid hp))) (ki2.nf hp)
open Vbdeab (Class Dist)
theorem GR (S:State) (d kind:Int) (a b:List Int):Vbdeab.step S (.define d kind a b)=if streamOk d=false then(S,[-8]) else holdNew S d (build kind a b):=by rw [Vbdeab.step]
theorem GS (S:State) (d:Int):Vbdeab.step S (.forget d)=onDist S d fun _=>(S.hold d.toNat none,[0]):=by rw [Vbdeab.step]
theorem KG (S:State) (d:Int):Vbdeab.step S (.told d)=onDist S d fun x=>(S,0::(shownRow (toldRows x).1++shownRow (toldRows x).2)):=by rw [Vbdeab.step]
theorem Il (S:State) (d e f v w:Int):Vbdeab.step S (.blend d e f v w)=if streamOk d=false∨streamOk e=false∨streamOk f=false then(S,[-8]) else match S.dist e.toNat,S.dist f.toNat with
  | some x,some y=>if within v 0 1000000000=false∨within w 0 1000000000=false∨(v=0∧w=0) then(S,[-6]) else holdNew S d (some (Vbdeab.blend x y v.toNat w.toNat))
  | _,_=>(S,[-12]):=by
 rw [Vbdeab.step]
 rfl
theorem Kx (S:State) (d e p q r t:Int):Vbdeab.step S (.bend d e p q r t)=if streamOk d=false∨streamOk e=false then(S,[-8]) else match S.dist e.toNat with
  | none=>(S,[-12])
  | some x=>match Vbdeab.fraction p q,Vbdeab.fraction r t with
   | some a,some b=>holdNew S d (some (Vbdeab.bend x a b))
   | _,_=>(S,[-5]):=by
 rw [Vbdeab.step]
 rfl
theorem gD (S:State) (d:Int):(¬(0≤d∧d≤63)∧Dc S d= -8)∨((0≤d∧d≤63)∧S.dist d.toNat=none∧Dc S d= -12)∨((0≤d∧d≤63)∧∃x,S.dist d.toNat=some x∧Dc S d=0):=by
 unfold Dc
 by_cases h:0≤d∧d≤63
 ·rw [if_pos h]
  cases e:S.dist d.toNat with
  | none=>exact .inr (.inl ⟨h,rfl,rfl⟩)
  | some x=>exact .inr (.inr (dm h x rfl rfl))
 ·rw [if_neg h]
  exact .inl ⟨h,rfl⟩
def t9 (T:Tx K mg):Sp:=df T (fun dd c rest=>∃(d kind:Int) (n_wa:Nat) (wa:List Int) (n_wb:Nat) (wb:List Int),dd=d::kind::(n_wa:Int)::(wa++((n_wb:Int)::(wb++rest)))∧wa.length=n_wa∧wb.length=n_wb∧c= .define d kind wa wb∧j2 wa∧j2 wb∧wa.length≤7500)
theorem F8 (T:Tx K mg):dM P w base T.mU 11 (t9 T):=by
 refine T.mU.okA ll ?_
 rintro _ A _ s H _ Q E hr ⟨G,b,r,l,a,as,S,ns,pos,c,rest,rfl,W,⟨d,kind,n_wa,wa,n_wb,wb,hd,hl_wa,hl_wb,rfl,hza,hzb,hla⟩,kk⟩
 refine⟨_,(ac (aZ 2 ll.nd (eJ (pv 1) T.au (ah T) hr))
   (ac (aZ 3 ll.nd (eJ (pv 1) T.au (ah T) hr))
   (ac (aZ 4 ll.nd (eJ (pv 1) T.dh (dO T) hr))
   (ac (aZ 5 ll.nd (eJ (pv 1) T.dh (dO T) hr))
   (ac (aT (aV (aS (bi T.fK (e8 T) hr (ab (pv 2) ad)))) (ae (aj (aI (ab (fh T.kY) ad)))) aG)
   (ae (aj (bi T.CT (yB T) hr (ab (pv 0) (ab (pv 2) (ab (bi T.zB (EJ T) hr (ab (pv 3) (ab (pv 4) (ab (pv 5) ad)))) ad))))))))))),?_⟩
 have W0:=W;have ki0:=KI.refl H;have hd0:=hd
 refine aN W0 hd0 ki0 rfl fun H1 W1 hd1 ki1=> ?_
 refine aN W1 hd1 ki1 rfl fun H2 W2 hd2 ki2=> ?_
 obtain⟨dr2,hr2⟩:=id W2.rd
 obtain⟨g3,hq3⟩:=k6 hd2
 obtain⟨e3,hd3,le3⟩:=xA hq3 g3 hl_wa
 refine cM _ rfl r dr2 _ rfl hr2 rfl (iG r a _ n_wa ns rfl ⟨dr2,hr2⟩ W2.sq g3 le3 fun H3 p_wa hr3 hp_wa kp3 np_wa=> ?_)
 rw [e3] at hp_wa
 have W3:=W2.reader hr3 kp3;have ki3:=ki2.trans (KI.keep1 kp3 hr2);obtain⟨dr3,hr3⟩:=hr3
 obtain⟨g4,hq4⟩:=k6 hd3
 obtain⟨e4,hd4,le4⟩:=xA hq4 g4 hl_wb
 refine cM _ rfl r dr3 _ rfl hr3 rfl (iG r a _ n_wb ns rfl ⟨dr3,hr3⟩ W3.sq g4 le4 fun H4 p_wb hr4 hp_wb kp4 np_wb=> ?_)
 rw [e4] at hp_wb
 have W4:=W3.reader hr4 kp4;have ki4:=ki3.trans (KI.keep1 kp4 hr3);obtain⟨dr4,hr4⟩:=hr4
 have es:=GR S d kind wa wb
 rw [cE] at es
 refine bc _ rfl d rfl _ rfl (aX (fun h1=> ?_) (fun h1=> ?_))
 ·rw [if_pos (dN (eD h1))] at es
  exact⟨(by show 1≤sizeLine;decide),aF kk W4 hd4 ki4 es⟩
 ·have hk:=cg h1
  rw [aE hk,if_neg (by decide)] at es
  have hpa:=kp4.seq (K:=K) hr3 (a4.of hp_wa)
  have hpa4:H4 p_wa=some (.lst (wa.map V.int)):=kp4 _ _ hp_wa (bf hp_wa hr3 (by intro z;cases z))
  have nal:p_wa ∉ G.av l:=fun m=>by
   have z:=AY W2 p_wa m
   exact z np_wa
  refine Dt _ rfl _ rfl _ rfl _ rfl _ rfl (G.av l) p_wa (jZ p_wb kind wa wb rfl hpa4 (a4.of hp_wb) hza hzb (bZ (by omega) nal (AY W4) fun v H5 o5 s5=> ?_))
  have W5:=W4.same s5
  refine wA G b r l a as S ns (jY _ d v _ rfl W5 hk o5 fun H6 p6 S6 zs e6 W6 hp6 ki6 nf6=> ?_)
  have es2:=es.trans e6
  have kifin:=ki4.trans ((KI.same s5).trans ki6)
  rw [es2] at kk
  exact kk H6 p6 as _ W6 hd4 hp6 kifin (fun x xs hx=>nf6 x xs ((ki4.trans (KI.same s5)) x xs hx))
def ua (T:Tx K mg):Sp:=df T (fun dd c rest=>∃d,dd=d::rest∧c= .forget d)
theorem F9 (T:Tx K mg):dM P w base T.mV 4 (ua T):=by
 refine T.mV.okA tU ?_
 rintro _ A _ s H _ Q E hr ⟨G,b,r,l,a,as,S,ns,pos,c,rest,rfl,W,⟨d,hd,rfl⟩,kk⟩
 refine⟨_,(ac (aZ 2 tU.nd (eJ (pv 1) T.au (ah T) hr))
   (ac (aZ 3 tU.nd (bi T.cn (ci T) hr (ab (pv 0) (ab (pv 2) ad))))
   (ac (aT (aR ld (pv 3) am (aY _)) (ae (aj (aI (ab (pv 3) ad)))) aG)
   (ac (qA cY (qw (ao (pv 0) rfl) (pv 2) iF))
   (ae (aj (aI (ab am ad)))))))),?_⟩
 have W0:=W;have ki0:=KI.refl H;have hd0:=hd
 refine aN W0 hd0 ki0 rfl fun H1 W1 hd1 ki1=> ?_
 have es:=GS S d
 refine bB _ rfl _ rfl (wA G b r l a as S ns (bT _ d rfl W1 ?_))
 rcases gD S d with⟨h,e⟩ | ⟨h,h2,e⟩ | ⟨h,x,h2,e⟩
 ·rw [e,k9.1 h] at*
  refine⟨_,rfl,_,_,rfl,rfl,_,rfl,_,rfl,?_⟩
  exact⟨(by show 1≤sizeLine;decide),aF kk W1 hd1 ki1 es⟩
 ·rw [e] at*
  rw [k9.2.1 h h2] at es
  refine⟨_,rfl,_,_,rfl,rfl,_,rfl,_,rfl,?_⟩
  exact⟨(by show 1≤sizeLine;decide),aF kk W1 hd1 ki1 es⟩
 ·rw [e] at*
  rw [k9.2.2 h x h2] at es
  obtain⟨vs,v,g2,g3,g4,g5,g6⟩:=W1.dGet h
  obtain⟨db,hb⟩:=id W1.bank
  have W2:=W1.hold (d:=d.toNat) (by omega) g2 (v:= .non) (x:=none) rfl
  refine⟨_,rfl,_,_,rfl,rfl,_,rfl,_,rfl,b,_,db,_,_,rfl,hb,T.aQ.cl,T.aQ.no _ (by decide),rfl,_,rfl,G.l2,_,_,d.toNat,rfl,rfl,g2,p9 (by omega) (by omega),?_⟩
  exact⟨(by show 1≤sizeLine;decide),aF kk W2 hd1 (ki1.trans (W1.kiHold _)) es⟩
open Vbdeab (Class Dist)
theorem Eb (c:Class):(shownClass c).length=6:=by cases c<;>rfl
theorem Bq (d:Dist):(d.flatMap fun c=>shownClass c.2).length=6*d.length:=by
 induction d with
 | nil=>rfl
 | cons c r ih=>rw [Hb,bX,ih,Eb,d5];omega
theorem JQ {d:Dist} {i:Nat} {c:Nat×Class} (h:d[i]?=some c):((d.take (i+1)).flatMap fun c=>shownClass c.2)=((d.take i).flatMap fun c=>shownClass c.2)++shownClass c.2:=by
 rw [Ch.bw h,List.flatMap_append]
 simp
def zr (T:Tx K mg):Sp:=df T (fun dd c rest=>∃d,dd=d::rest∧c= .told d)
theorem Kn (T:Tx K mg):dM P w base T.wR 4 (zr T):=by
 refine T.wR.okA l7 ?_
 rintro _ A _ s H _ Q E hr ⟨G,b,r,l,a,as,S,ns,pos,c,rest,rfl,W,⟨d,hd,rfl⟩,kk⟩
 refine⟨_,(ac (aZ 2 l7.nd (eJ (pv 1) T.au (ah T) hr))
   (ac (aZ 3 l7.nd (bi T.cn (ci T) hr (ab (pv 0) (ab (pv 2) ad))))
   (ac (aT (aR ld (pv 3) am (aY _)) (ae (aj (aI (ab (pv 3) ad)))) aG)
   (ac (aZ 4 l7.nd (ik (ao (pv 0) rfl) (pv 2)))
   (ac (aZ 5 l7.nd (aI ad))
   (ac (d7 cJ rfl (cD (ao (pv 4) rfl)) (kT 6 l7.nd) (ae (gt (rL lF Fl Fm uG (pv 5) (ab (vY (eJ (pv 6) T.iq (qk T) hr) (eJ (pv 6) T.im (qh T) hr)) ad)))))
   (ae (aj (aB e9 (aB e9 (aB e9 (aI (ab am (ab (a8 aW (by rfl) T.gu eh (ab (ao (pv 4) rfl) ad)) ad))) (ao (pv 4) rfl)) (aI (ab (a8 aW (by rfl) T.gu eh (ab (pv 5) ad)) ad))) (pv 5)))))))))),?_⟩
 have W0:=W;have ki0:=KI.refl H;have hd0:=hd
 refine aN W0 hd0 ki0 rfl fun H1 W1 hd1 ki1=> ?_
 have es:=KG S d
 refine bB _ rfl _ rfl (wA G b r l a as S ns (bT _ d rfl W1 ?_))
 rcases gD S d with⟨h,e⟩ | ⟨h,h2,e⟩ | ⟨h,x,h2,e⟩
 ·rw [e,k9.1 h] at*
  refine⟨_,rfl,_,_,rfl,rfl,_,rfl,_,rfl,?_⟩
  exact⟨(by show 1≤sizeLine;decide),aF kk W1 hd1 ki1 es⟩
 ·rw [e] at*
  rw [k9.2.1 h h2] at es
  refine⟨_,rfl,_,_,rfl,rfl,_,rfl,_,rfl,?_⟩
  exact⟨(by show 1≤sizeLine;decide),aF kk W1 hd1 ki1 es⟩
 ·rw [e] at*
  rw [k9.2.2 h x h2] at es
  obtain⟨vs,v,g2,g3,g4,g5,g6⟩:=W1.dGet h
  rw [h2] at g6
  obtain⟨z,rfl,dz,wl,sl,bl,el,aa,D⟩:=g6
  obtain⟨db,hb⟩:=id W1.bank
  have dl:=D.ok.len2
  refine⟨_,rfl,_,_,rfl,rfl,_,rfl,_,rfl,b,_,db,_,_,rfl,hb,T.aQ.cl,T.aQ.no _ (by decide),rfl,_,rfl,G.l2,_,_,_,rfl,rfl,a4.of g2,g5,bn _,fun N hN=> ?_⟩
  have sN:=aC.laid (o:= .lst []) hN
  refine aM _ rfl z _ dz _ _ rfl (sN _ _ D.inst) T.ai.cl (T.ai.no _ (by decide)) rfl (cZ sl rfl ⟨_,a4.of (sN _ _ D.s)⟩ (eB (xs:=aa.map V.ref) (fun i σ H'=>i≤x.length∧∃(v1:Option V),σ= [some (.ref b),some (.ref r),some (.int d),some (.int 0),some (.ref z),some (.ref N),v1]∧H' N=some (.lst (((x.take i).flatMap fun c=>shownClass c.2).map V.int))∧aC H1 H') (mN (bn _) none rfl af sN) (fun i σ H' _ ⟨_,_,_,_,s⟩=>a4.of (s _ _ D.s)) ?_ ?_))
  ·rintro i u σ H2 hu ⟨hi,v1,rfl,hN2,s2⟩
   obtain⟨y,hy,rfl⟩:=gE hu
   have hi':i<x.length:=by rw [←D.len];exact(cb.mp hy).1
   obtain⟨c,hc⟩:∃c,x[i]?=some c:=⟨_,bF hi'⟩
   have hsh:=(D.sh i y c hy hc).same s2
   have fin:∀p,H2 p=none→∃l' b' xs zs,V.ref N= .ref l'∧ [V.ref p]= [V.ref b']∧(bR H2 p (.lst ((shownClass c.2).map V.int))) l'=some (.lst xs)∧(bR H2 p (.lst ((shownClass c.2).map V.int))) b'=some (.lst zs)∧xs.length+zs.length≤sizeLine∧(i+1≤x.length∧∃(u1:Option V),[some (.ref b),some (.ref r),some (.int d),some (.int 0),some (.ref z),some (.ref N),some (V.ref y)]= [some (.ref b),some (.ref r),some (.int d),some (.int 0),some (.ref z),some (.ref N),u1]∧(bR (bR H2 p (.lst ((shownClass c.2).map V.int))) l' (.lst (xs++zs))) N=some (.lst (((x.take (i+1)).flatMap fun c=>shownClass c.2).map V.int))∧aC H1 (bR (bR H2 p (.lst ((shownClass c.2).map V.int))) l' (.lst (xs++zs)))):=fun p hp=>by
    have sp:=aC.laid (o:= .lst ((shownClass c.2).map V.int)) hp
    have hfl:=Bq (x.take i)
    rw [ic] at hfl
    refine jZ N p _ _ rfl rfl (sp _ _ hN2) af ?_ (mN hi' _ rfl ?_ fun q o e=> ?_)
    ·rw [aD,aD,hfl,Eb]
     show _≤2 ^ 24
     omega
    ·rw [af,JQ hc,du]
    ·rw [ak (aw e hN)]
     exact sp _ _ (s2 _ _ e)
   obtain⟨cw,cc⟩:=c
   cases cc with
   | line p q=>
    obtain⟨dy,ax,ay,e1,e2,e3⟩:=id hsh
    exact cZ _ rfl (.inl ⟨rfl,_,a4.of hN2⟩) (.inl (cM _ rfl y dy _ rfl e1 rfl (hJ y p q rfl hsh fin)))
   | comb p q n=>
    obtain⟨dy,ax,ay,e1,e2,e3⟩:=id hsh
    exact cZ _ rfl (.inl ⟨rfl,_,a4.of hN2⟩) (.inr (cM _ rfl y dy _ rfl e1 rfl ⟨y,(hJ p q n rfl hsh fin)⟩))
  ·rintro σ H2 ⟨hi,v1,rfl,hN2,s2⟩
   rw [aD,D.len,jP] at hN2
   have W2:=W1.same s2
   have lw:(dH (x.map fun c=>c.1)).length=x.length:=by rw [be,aD]
   have lf:(((x.flatMap fun c=>shownClass c.2)).map V.int).length=6*x.length:=by rw [aD,Bq]
   refine aM _ rfl z _ dz _ _ rfl (s2 _ _ D.inst) T.ai.cl (T.ai.no _ (by decide)) rfl (bP wl _ rfl (.inl (a4.of (s2 _ _ D.w))) (by show 2≤sizeLine;decide) fun A1 hA1=> ?_)
   have sa:=aC.laid (o:= .lst [V.int 0,V.int ((dH (x.map fun c=>c.1)).length:Int)]) hA1
   refine aM _ rfl z _ dz _ _ rfl (sa _ _ (s2 _ _ D.inst)) T.ai.cl (T.ai.no _ (by decide)) rfl (jZ A1 wl _ _ rfl rfl af (sa _ _ (s2 _ _ D.w)) (by rw [lw];show 2+x.length≤2 ^ 24;omega) fun A2 hA2=> ?_)
   have sb:=aC.laid (o:= .lst ([V.int 0,V.int ((dH (x.map fun c=>c.1)).length:Int)]++dH (x.map fun c=>c.1))) hA2
   have hN3:=sb _ _ (sa _ _ hN2)
   refine d9 _ rfl N _ rfl (.inl (a4.of hN3)) (by show 1≤sizeLine;decide) fun A3 hA3=> ?_
   have sc:=aC.laid (o:= .lst [V.int ((((x.flatMap fun c=>shownClass c.2)).map V.int).length:Int)]) hA3
   refine jZ A2 A3 _ _ rfl rfl (sc _ _ af) af (by rw [bX,lw];show 2+x.length+1≤2 ^ 24;omega) fun A4 hA4=> ?_
   have sd:=aC.laid (o:= .lst ([V.int 0,V.int ((dH (x.map fun c=>c.1)).length:Int)]++dH (x.map fun c=>c.1)++ [V.int ((((x.flatMap fun c=>shownClass c.2)).map V.int).length:Int)])) hA4
   refine gM _ rfl A4 N _ _ rfl rfl af (sd _ _ (sc _ _ hN3)) (by rw [bX,bX,lw,lf];show 2+x.length+1+6*x.length≤2 ^ 24;omega) ?_
   have SS:=((sa.trans sb).trans sc).trans sd
   have W3:=W2.same SS
   have ev:(0:Int)::(shownRow (toldRows x).1++shownRow (toldRows x).2)= [0,((dH (x.map fun c=>c.1)).length:Int)]++nats (x.map fun c=>c.1)++ [((((x.flatMap fun c=>shownClass c.2)).map V.int).length:Int)]++(x.flatMap fun c=>shownClass c.2):=by
    unfold toldRows shownRow
    rw [sX,lw,lf,Bq,aD]
    simp
   have fin:=aF kk W3 hd1 (ki1.trans (KI.same (s2.trans SS))) es
   rw [ev] at fin
   rw [du,du,du] at fin
   exact fin
def wj (T:Tx K mg):Sp:=df T (fun dd c rest=>∃d e f v w,dd=d::e::f::v::w::rest∧c= .blend d e f v w)
theorem HN (T:Tx K mg):dM P w base T.rc 7 (wj T):=by
 refine T.rc.okA gI ?_
 rintro _ A _ s H _ Q E hr ⟨G,b,r,l,a,as,S,ns,pos,c,rest,rfl,W,⟨d,e,f,v,w',hd,rfl⟩,kk⟩
 refine⟨_,(ac (aZ 2 gI.nd (eJ (pv 1) T.au (ah T) hr))
   (ac (aZ 3 gI.nd (eJ (pv 1) T.au (ah T) hr))
   (ac (aZ 4 gI.nd (eJ (pv 1) T.au (ah T) hr))
   (ac (aZ 5 gI.nd (eJ (pv 1) T.au (ah T) hr))
   (ac (aZ 6 gI.nd (eJ (pv 1) T.au (ah T) hr))
   (ac (aT (lh (h9 (aV (aS (bi T.fK (e8 T) hr (ab (pv 2) ad)))) (h9 (aV (aS (bi T.fK (e8 T) hr (ab (pv 3) ad)))) (ig (aV (aS (bi T.fK (e8 T) hr (ab (pv 4) ad)))))))) (ae (aj (aI (ab (fh T.kY) ad)))) aG)
   (ac (aZ 7 gI.nd (ik (ao (pv 0) rfl) (pv 3)))
   (ac (aZ 8 gI.nd (ik (ao (pv 0) rfl) (pv 4)))
   (ac (aT (lh (h9 (aR kC (pv 7) cY (aY _)) (ig (aR kC (pv 8) cY (aY _))))) (ae (aj (aI (ab (fh T.oC) ad)))) aG)
   (ac (aT (lh (h9 (aV (aS (bi T.bU (a7 T) hr (ab (pv 5) (ab am (ab (fh T.n4) ad)))))) (h9 (aV (aS (bi T.bU (a7 T) hr (ab (pv 6) (ab am (ab (fh T.n4) ad)))))) (ig (aR rK (aB bY (pv 5) (pv 6)) am (aY _)))))) (ae (aj (aI (ab (fh T.lK) ad)))) aG)
   (ae (aj (bi T.CT (yB T) hr (ab (pv 0) (ab (pv 2) (ab (bi T.zA (EI T) hr (ab (pv 7) (ab (pv 5) (ab (pv 8) (ab (pv 6) ad))))) ad)))))))))))))))),?_⟩
 have W0:=W;have ki0:=KI.refl H;have hd0:=hd
 refine aN W0 hd0 ki0 rfl fun H1 W1 hd1 ki1=> ?_
 refine aN W1 hd1 ki1 rfl fun H2 W2 hd2 ki2=> ?_
 refine aN W2 hd2 ki2 rfl fun H3 W3 hd3 ki3=> ?_
 refine aN W3 hd3 ki3 rfl fun H4 W4 hd4 ki4=> ?_
 refine aN W4 hd4 ki4 rfl fun H5 W5 hd5 ki5=> ?_
 have es:=Il S d e f v w'
 rw [cE,cE,cE] at es
 refine bc _ rfl d rfl _ rfl (aX (fun h1=> ?_) (fun h1=> ?_))
 ·rw [if_pos (.inl (dN (eD h1)))] at es
  refine jx ?_
  exact⟨(by show 1≤sizeLine;decide),aF kk W5 hd5 ki5 es⟩
 refine bc _ rfl e rfl _ rfl (aX (fun h2=> ?_) (fun h2=> ?_))
 ·rw [if_pos (.inr (.inl (dN (eD h2))))] at es
  refine jx ?_
  exact⟨(by show 1≤sizeLine;decide),aF kk W5 hd5 ki5 es⟩
 refine bc _ rfl f rfl _ rfl (aX (fun h3=> ?_) (fun h3=> ?_))
 ·rw [if_pos (.inr (.inr (dN (eD h3))))] at es
  exact⟨(by show 1≤sizeLine;decide),aF kk W5 hd5 ki5 es⟩
 have k1:=cg h1
 have k2:=cg h2
 have k3:=cg h3
 rw [aE k1,aE k2,aE k3,if_neg (by decide)] at es
 obtain⟨vs,v1,g2,g3,g4,g5,g6⟩:=W5.dGet k2
 obtain⟨vs',v2,g2',g3',g4',g5',g6'⟩:=W5.dGet k3
 obtain⟨db,hb⟩:=id W5.bank
 refine aM _ rfl b _ db _ _ rfl hb T.aQ.cl (T.aQ.no _ (by decide)) rfl (bO _ rfl G.l2 _ _ _ rfl rfl (a4.of g2) g5 ?_)
 refine aM _ rfl b _ db _ _ rfl hb T.aQ.cl (T.aQ.no _ (by decide)) rfl (bO _ rfl G.l2 _ _ _ rfl rfl (a4.of g2') g5' ?_)
 cases hx:S.dist e.toNat with
 | none=>
  rw [hx] at g6 es
  obtain rfl:v1= .non:=g6
  refine eK _ rfl rfl _ rfl (jx ?_)
  exact⟨(by show 1≤sizeLine;decide),aF kk W5 hd5 ki5 es⟩
 | some x=>
  rw [hx] at g6 es
  obtain⟨z1,rfl,hz1⟩:=g6
  cases hy:S.dist f.toNat with
  | none=>
   rw [hy] at g6' es
   obtain rfl:v2= .non:=g6'
   refine eK _ rfl rfl _ rfl (eK _ rfl rfl _ rfl ?_)
   exact⟨(by show 1≤sizeLine;decide),aF kk W5 hd5 ki5 es⟩
  | some y=>
   rw [hy] at g6' es
   obtain⟨z2,rfl,hz2⟩:=g6'
   simp only [cu] at es
   refine eK _ rfl rfl _ rfl (eK _ rfl rfl _ rfl (fy _ rfl v 0 (bB 1000000000 rfl _ rfl (aX (fun h4=> ?_) (fun h4=> ?_)))))
   ·rw [if_pos (.inl (dN (eD h4)))] at es
    refine jx ?_
    exact⟨(by show 1≤sizeLine;decide),aF kk W5 hd5 ki5 es⟩
   refine fy _ rfl w' 0 (bB 1000000000 rfl _ rfl (aX (fun h5=> ?_) (fun h5=> ?_)))
   ·rw [if_pos (.inr (.inl (dN (eD h5))))] at es
    refine jx ?_
    exact⟨(by show 1≤sizeLine;decide),aF kk W5 hd5 ki5 es⟩
   have k4:=cg h4
   have k5:=cg h5
   refine eV _ rfl _ rfl _ _ rfl rfl (dm rfl _ rfl (aX (fun h6=> ?_) (fun h6=> ?_)))
   ·have h6':v+w'=0:=V.int.inj (bj h6)
    rw [if_pos (.inr (.inr ⟨by omega,by omega⟩))] at es
    exact⟨(by show 1≤sizeLine;decide),aF kk W5 hd5 ki5 es⟩
   ·have h6':¬v+w'=0:=fun q=>h6 (aE (cx V.int q))
    rw [if_neg (by rw [aE k4,aE k5];simp;omega)] at es
    refine bH _ rfl (Dt _ rfl _ rfl _ rfl _ rfl _ rfl (G.av l) z1 (iG z2 x y v.toNat w'.toNat (by rw [cC k4.1,cC k5.1];rfl) hz1 hz2 (by omega) (by omega) ⟨AY W5,(fun u H6 o6 s6=> ?_)⟩))
    have W6:=W5.same s6
    refine wA G b r l a as S ns (jY _ d u _ rfl W6 k1 o6 fun H7 p7 S7 zs e7 W7 hp7 ki7 nf7=> ?_)
    rw [es.trans e7] at kk
    exact kk H7 p7 as _ W7 hd5 hp7 (ki5.trans ((KI.same s6).trans ki7)) (fun q xs hq=>nf7 q xs ((ki5.trans (KI.same s6)) q xs hq))
def ze (T:Tx K mg):Sp:=df T (fun dd c rest=>∃d e p q t s,dd=d::e::p::q::t::s::rest∧c= .bend d e p q t s∧Sz 140 q∧Sz 140 s)
theorem Ka (T:Tx K mg):dM P w base T.wJ 8 (ze T):=by
 refine T.wJ.okA fV ?_
 rintro _ A _ s H _ Q E hr ⟨G,b,r,l,a,as,S,ns,pos,c,rest,rfl,W,⟨d,e,p,q,t,s',hd,rfl,qz,sz⟩,kk⟩
 refine⟨_,(ac (aZ 2 fV.nd (eJ (pv 1) T.au (ah T) hr))
   (ac (aZ 3 fV.nd (eJ (pv 1) T.au (ah T) hr))
   (ac (aZ 4 fV.nd (eJ (pv 1) T.au (ah T) hr))
   (ac (aZ 5 fV.nd (eJ (pv 1) T.au (ah T) hr))
   (ac (aZ 6 fV.nd (eJ (pv 1) T.au (ah T) hr))
   (ac (aZ 7 fV.nd (eJ (pv 1) T.au (ah T) hr))
   (ac (aT (lh (h9 (aV (aS (bi T.fK (e8 T) hr (ab (pv 2) ad)))) (ig (aV (aS (bi T.fK (e8 T) hr (ab (pv 3) ad))))))) (ae (aj (aI (ab (fh T.kY) ad)))) aG)
   (ac (aZ 8 fV.nd (ik (ao (pv 0) rfl) (pv 3)))
   (ac (aT (aR kC (pv 8) cY (aY _)) (ae (aj (aI (ab (fh T.oC) ad)))) aG)
   (ac (aZ 9 fV.nd (bi T.cK (cp T) hr (ab (pv 4) (ab (pv 5) ad))))
   (ac (aZ 10 fV.nd (bi T.cK (cp T) hr (ab (pv 6) (ab (pv 7) ad))))
   (ac (aT (lh (h9 (aR kC (pv 9) cY (aY _)) (ig (aR kC (pv 10) cY (aY _))))) (ae (aj (aI (ab (fh T.kX) ad)))) aG)
   (ae (aj (bi T.CT (yB T) hr (ab (pv 0) (ab (pv 2) (ab (bi T.ID (Kb T) hr (ab (pv 8) (ab (pv 9) (ab (pv 10) ad)))) ad)))))))))))))))))),?_⟩
 have W0:=W;have ki0:=KI.refl H;have hd0:=hd
 refine aN W0 hd0 ki0 rfl fun H1 W1 hd1 ki1=> ?_
 refine aN W1 hd1 ki1 rfl fun H2 W2 hd2 ki2=> ?_
 refine aN W2 hd2 ki2 rfl fun H3 W3 hd3 ki3=> ?_
 refine aN W3 hd3 ki3 rfl fun H4 W4 hd4 ki4=> ?_
 refine aN W4 hd4 ki4 rfl fun H5 W5 hd5 ki5=> ?_
 refine aN W5 hd5 ki5 rfl fun H6 W6 hd6 ki6=> ?_
 have es:=Kx S d e p q t s'
 rw [cE,cE] at es
 refine bc _ rfl d rfl _ rfl (aX (fun h1=> ?_) (fun h1=> ?_))
 ·rw [if_pos (.inl (dN (eD h1)))] at es
  refine jx ?_
  exact⟨(by show 1≤sizeLine;decide),aF kk W6 hd6 ki6 es⟩
 refine bc _ rfl e rfl _ rfl (aX (fun h2=> ?_) (fun h2=> ?_))
 ·rw [if_pos (.inr (dN (eD h2)))] at es
  exact⟨(by show 1≤sizeLine;decide),aF kk W6 hd6 ki6 es⟩
 have k1:=cg h1
 have k2:=cg h2
 rw [aE k1,aE k2,if_neg (by decide)] at es
 obtain⟨vs,v1,g2,g3,g4,g5,g6⟩:=W6.dGet k2
 obtain⟨db,hb⟩:=id W6.bank
 refine aM _ rfl b _ db _ _ rfl hb T.aQ.cl (T.aQ.no _ (by decide)) rfl (bO _ rfl G.l2 _ _ _ rfl rfl (a4.of g2) g5 ?_)
 cases hx:S.dist e.toNat with
 | none=>
  rw [hx] at g6 es
  obtain rfl:v1= .non:=g6
  refine eK _ rfl rfl _ rfl ?_
  exact⟨(by show 1≤sizeLine;decide),aF kk W6 hd6 ki6 es⟩
 | some x=>
  rw [hx] at g6 es
  obtain⟨z1,rfl,hz1⟩:=g6
  refine eK _ rfl rfl _ rfl (eV _ rfl _ rfl p q rfl (qz.mono (by decide)) fun u1 H7 o7 s7=> ?_)
  refine eV _ rfl _ rfl t s' rfl (sz.mono (by decide)) fun u2 H8 o8 s8=> ?_
  have S8:=s7.trans s8
  have W8:=W6.same S8
  have ki8:=ki6.trans (KI.same S8)
  cases hf:Vbdeab.fraction p q with
  | none=>
   rw [hf] at o7 es
   obtain rfl:u1= .non:=o7
   refine eK _ rfl rfl _ rfl (jx ?_)
   exact⟨(by show 1≤sizeLine;decide),aF kk W8 hd6 ki8 es⟩
  | some f=>
   rw [hf] at o7 es
   obtain⟨y1,rfl,hy1⟩:=o7
   cases hg:Vbdeab.fraction t s' with
   | none=>
    rw [hg] at o8 es
    obtain rfl:u2= .non:=o8
    refine eK _ rfl rfl _ rfl (eK _ rfl rfl _ rfl ?_)
    exact⟨(by show 1≤sizeLine;decide),aF kk W8 hd6 ki8 es⟩
   | some g=>
    rw [hg] at o8 es
    obtain⟨y2,rfl,hy2⟩:=o8
    refine eK _ rfl rfl _ rfl (eK _ rfl rfl _ rfl (Dt _ rfl _ rfl _ rfl _ rfl _ rfl (G.av l) z1 (iG y1 y2 x f g rfl (hz1.same S8) (hy1.same s8) hy2 (nh hf) (fe (nh hg) (AY W8) fun u H9 o9 s9=> ?_))))
    have W9:=W8.same s9
    refine wA G b r l a as S ns (jY _ d u _ rfl W9 k1 o9 fun H10 p10 S10 zs e10 W10 hp10 ki10 nf10=> ?_)
    rw [es.trans e10] at kk
    exact kk H10 p10 as _ W10 hd6 hp10 (ki8.trans ((KI.same s9).trans ki10)) (fun q xs hq=>nf10 q xs ((ki8.trans (KI.same s9)) q xs hq))
open Vbdeab (Class Dist)
theorem Ip (S:State) (d u:Int):Vbdeab.step S (.value d u)=onDist S d fun x=>if u<0∨(Vbdeab.M:Int)≤u then(S,[-11]) else(S,0::shownQ (Vbdeab.value x u.toNat)):=by rw [Vbdeab.step]
theorem GW (S:State) (d:Int):Vbdeab.step S (.shares d)=onDist S d fun x=>(S,0::shownRow (nats (Vbdeab.shares x))):=by rw [Vbdeab.step]
theorem Fg (S:State) (d:Int):Vbdeab.step S (.moments d)=onDist S d fun x=>(S,0::(shownQ (Vbdeab.mean x)++(shownQ (variance x)++(shownQ (Vbdeab.least x)++shownQ (Vbdeab.most x))))):=by rw [Vbdeab.step]
theorem Ik (S:State) (d p q t:Int):Vbdeab.step S (.below d p q t)=onDist S d fun x=>match Vbdeab.fraction p q with
  | none=>(S,[-5])
  | some v=>if within t 0 1=false then(S,[-5]) else(S,0::shownQ (Vbdeab.below (decide (t=1)) v x)):=by
 rw [Vbdeab.step]
 rfl
theorem KB (S:State) (d p q t:Int):Vbdeab.step S (.hits d p q t)=onDist S d fun x=>match Vbdeab.fraction p q with
  | none=>(S,[-5])
  | some v=>if within t 0 1=false then(S,[-5]) else(S,[0,(Vbdeab.hits (decide (t=1)) v x:Nat)]):=by
 rw [Vbdeab.step]
 rfl
theorem Ce (d:Dist):(Vbdeab.shares d).length=d.length:=by
 have:∀(l:Dist) (W b:Nat),(sharesFrom W l b).length=l.length:=fun l=>by
  induction l with
  | nil=>intro W b;rfl
  | cons c r ih=>intro W b;obtain⟨w,k⟩:=c;show(sharesFrom W r _).length+1=_;rw [ih];rfl
 exact this _ _ _
theorem Jq {t:Int} (h:0≤t∧t≤1):t=Fr.m6 (decide (t=1)):=by
 unfold Fr.m6
 by_cases c:t=1
 ·rw [aE c,if_pos rfl];exact c
 ·rw [bq c,if_neg (by decide)];omega
def zt (T:Tx K mg):Sp:=fun vs H Q _=>∃(a:Addr) (q:Vbdeab.Q),vs= [.ref a]∧jW T H a q∧∀p,H p=none→Q (.ref p) (bR H p (.lst ((shownQ q).map V.int)))
theorem gY (T:Tx K mg):dM P w base T.f7 1 (zt T):=by
 refine T.f7.okA yV ?_
 rintro _ A _ s H _ Q E hr ⟨a,q,rfl,⟨dx,h1⟩,k⟩
 refine⟨_,(ae (aj (aI (ab (ao (pv 0) rfl) (ab (ao (pv 0) rfl) ad))))),?_⟩
 exact aM _ rfl a _ dx _ _ rfl h1 T.aA.cl (T.aA.no _ (by decide)) rfl (aM _ rfl a _ dx _ _ rfl h1 T.aA.cl (T.aA.no _ (by decide)) rfl ⟨(by show 2≤sizeLine;decide),k⟩)
def wu (T:Tx K mg):Sp:=df T (fun dd c rest=>∃d u,dd=d::u::rest∧c= .value d u)
theorem HR (T:Tx K mg):dM P w base T.uV 6 (wu T):=by
 refine T.uV.okA qJ ?_
 rintro _ A _ s H _ Q E hr ⟨G,b,r,l,a,as,S,ns,pos,c,rest,rfl,W,⟨d,u,hd,rfl⟩,kk⟩
 refine⟨_,(ac (aZ 2 qJ.nd (eJ (pv 1) T.au (ah T) hr))
   (ac (aZ 3 qJ.nd (eJ (pv 1) T.au (ah T) hr))
   (ac (aZ 4 qJ.nd (bi T.cn (ci T) hr (ab (pv 0) (ab (pv 2) ad))))
   (ac (aT (aR ld (pv 4) am (aY _)) (ae (aj (aI (ab (pv 4) ad)))) aG)
   (ac (aT (aV (aS (bi T.bU (a7 T) hr (ab (pv 3) (ab am (ab (aB b9 (fh T.dL) am) ad)))))) (ae (aj (aI (ab (fh T.Hn) ad)))) aG)
   (ae (aj (aB e9 (aI (ab am ad)) (bi T.f7 (gY T) hr (ab (eJ (zw (ik (ao (pv 0) rfl) (pv 2)) T.dW (gy T) hr (ab (pv 3) ad)) T.eI (eT T) hr) ad)))))))))),?_⟩
 have W0:=W;have ki0:=KI.refl H;have hd0:=hd
 refine aN W0 hd0 ki0 rfl fun H1 W1 hd1 ki1=> ?_
 refine aN W1 hd1 ki1 rfl fun H2 W2 hd2 ki2=> ?_
 have es:=Ip S d u
 refine bB _ rfl _ rfl (wA G b r l a as S ns (bT _ d rfl W2 ?_))
 rcases gD S d with⟨h,e⟩ | ⟨h,h2,e⟩ | ⟨h,x,h2,e⟩
 ·rw [e,k9.1 h] at*
  refine⟨_,rfl,_,_,rfl,rfl,_,rfl,_,rfl,?_⟩
  exact⟨(by show 1≤sizeLine;decide),aF kk W2 hd2 ki2 es⟩
 ·rw [e] at*
  rw [k9.2.1 h h2] at es
  refine⟨_,rfl,_,_,rfl,rfl,_,rfl,_,rfl,?_⟩
  exact⟨(by show 1≤sizeLine;decide),aF kk W2 hd2 ki2 es⟩
 ·rw [e] at*
  rw [k9.2.2 h x h2] at es
  obtain⟨vs,v,g2,g3,g4,g5,g6⟩:=W2.dGet h
  rw [h2] at g6
  obtain⟨z,rfl,hz⟩:=g6
  obtain⟨db,hb⟩:=id W2.bank
  have hM:(Vbdeab.M:Int)=4294967296:=rfl
  refine⟨_,rfl,_,_,rfl,rfl,_,rfl,_,rfl,_,_,rfl,rfl,u,0,4294967295,rfl,_,rfl,aX (fun h3=> ?_) (fun h3=> ?_)⟩
  ·rw [if_pos (by have:=eD h3;rw [hM];omega)] at es
   exact⟨(by show 1≤sizeLine;decide),aF kk W2 hd2 ki2 es⟩
  ·have h3':=cg h3
   rw [if_neg (by rw [hM];omega)] at es
   obtain⟨dz,_,_,_,_,_,DD⟩:=id hz
   refine⟨(by show 1≤sizeLine;decide),fun A1 hA1=> ?_⟩
   have sa:=aC.laid (o:= .lst [V.int 0]) hA1
   refine aM _ rfl b _ db _ _ rfl (sa _ _ hb) T.aQ.cl (T.aQ.no _ (by decide)) rfl (bO _ rfl G.l2 _ _ _ rfl rfl (a4.of (sa _ _ g2)) g5 (bW z dz _ rfl (sa _ _ DD.inst) rfl (fy _ rfl (G.av l) z (bP x u.toNat (by rw [cC h3'.1];rfl) (hz.same sa) (by omega) fun y H3 hy s3=> ?_))))
   obtain⟨n,m,hrt,iz,nz,mz⟩:=hy
   obtain⟨dy,hrt'⟩:=id hrt
   refine bW y dy _ rfl hrt' rfl (iY y n m rfl hrt iz.dpos (mz.mono (by decide)) fun y2 H4 hy2 s4=> ?_)
   rw [←iz.eq] at hy2
   refine bT y2 _ rfl hy2 fun A2 hA2=> ?_
   have sb:=aC.laid (o:= .lst ((shownQ (Vbdeab.value x u.toNat)).map V.int)) hA2
   have SS:=((sa.trans s3).trans s4).trans sb
   refine jZ A1 A2 _ _ rfl rfl (sb _ _ (s4 _ _ (s3 _ _ af))) af (by show 1+2≤2 ^ 24;decide) ?_
   have fin:=aF kk (W2.same SS) hd2 (ki2.trans (KI.same SS)) es
   exact fin
def ue (T:Tx K mg):Sp:=df T (fun dd c rest=>∃d,dd=d::rest∧c= .shares d)
theorem Gd (T:Tx K mg):dM P w base T.pL 4 (ue T):=by
 refine T.pL.okA nO ?_
 rintro _ A _ s H _ Q E hr ⟨G,b,r,l,a,as,S,ns,pos,c,rest,rfl,W,⟨d,hd,rfl⟩,kk⟩
 refine⟨_,(ac (aZ 2 nO.nd (eJ (pv 1) T.au (ah T) hr))
   (ac (aZ 3 nO.nd (bi T.cn (ci T) hr (ab (pv 0) (ab (pv 2) ad))))
   (ac (aT (aR ld (pv 3) am (aY _)) (ae (aj (aI (ab (pv 3) ad)))) aG)
   (ac (aZ 4 nO.nd (bi T.uC (BI T) hr (ab (ik (ao (pv 0) rfl) (pv 2)) ad)))
   (ae (aj (aB e9 (aI (ab am (ab (a8 aW (by rfl) T.gu eh (ab (pv 4) ad)) ad))) (pv 4)))))))),?_⟩
 have W0:=W;have ki0:=KI.refl H;have hd0:=hd
 refine aN W0 hd0 ki0 rfl fun H1 W1 hd1 ki1=> ?_
 have es:=GW S d
 refine bB _ rfl _ rfl (wA G b r l a as S ns (bT _ d rfl W1 ?_))
 rcases gD S d with⟨h,e⟩ | ⟨h,h2,e⟩ | ⟨h,x,h2,e⟩
 ·rw [e,k9.1 h] at*
  refine⟨_,rfl,_,_,rfl,rfl,_,rfl,_,rfl,?_⟩
  exact⟨(by show 1≤sizeLine;decide),aF kk W1 hd1 ki1 es⟩
 ·rw [e] at*
  rw [k9.2.1 h h2] at es
  refine⟨_,rfl,_,_,rfl,rfl,_,rfl,_,rfl,?_⟩
  exact⟨(by show 1≤sizeLine;decide),aF kk W1 hd1 ki1 es⟩
 ·rw [e] at*
  rw [k9.2.2 h x h2] at es
  obtain⟨vs,v,g2,g3,g4,g5,g6⟩:=W1.dGet h
  rw [h2] at g6
  obtain⟨z,rfl,hz⟩:=g6
  obtain⟨db,hb⟩:=id W1.bank
  refine⟨_,rfl,_,_,rfl,rfl,_,rfl,_,rfl,b,_,db,_,_,rfl,hb,T.aQ.cl,T.aQ.no _ (by decide),rfl,_,rfl,G.l2,_,_,_,rfl,rfl,a4.of g2,g5,G.av l,z,x,rfl,hz,fun H2 p2 hp2 s2 n2=> ?_⟩
  have ls:(dH (Vbdeab.shares x)).length=x.length:=by rw [be,Ce]
  obtain⟨_,_,_,_,_,_,DD⟩:=id hz
  have dl:=DD.ok.len2
  refine d9 _ rfl p2 _ rfl (.inl (a4.of hp2)) (by show 2≤sizeLine;decide) fun A1 hA1=> ?_
  have sa:=aC.laid (o:= .lst [V.int 0,V.int ((dH (Vbdeab.shares x)).length:Int)]) hA1
  refine gM _ rfl A1 p2 _ _ rfl rfl af (sa _ _ hp2) (by rw [ls];show 2+x.length≤2 ^ 24;omega) ?_
  have SS:=s2.trans sa
  have ev:(0:Int)::shownRow (nats (Vbdeab.shares x))= [0,((dH (Vbdeab.shares x)).length:Int)]++nats (Vbdeab.shares x):=by
   unfold shownRow
   rw [sX,ls,Ce]
   rfl
  rw [ev] at es
  exact aF kk (W1.same SS) hd1 (ki1.trans (KI.same SS)) es
def qV (T:Tx K mg):Sp:=df T (fun dd c rest=>∃d,dd=d::rest∧c= .moments d)
theorem EK (T:Tx K mg):dM P w base T.ma 5 (qV T):=by
 refine T.ma.okA g8 ?_
 rintro _ A _ s H _ Q E hr ⟨G,b,r,l,a,as,S,ns,pos,c,rest,rfl,W,⟨d,hd,rfl⟩,kk⟩
 refine⟨_,(ac (aZ 2 g8.nd (eJ (pv 1) T.au (ah T) hr))
   (ac (aZ 3 g8.nd (bi T.cn (ci T) hr (ab (pv 0) (ab (pv 2) ad))))
   (ac (aT (aR ld (pv 3) am (aY _)) (ae (aj (aI (ab (pv 3) ad)))) aG)
   (ac (aZ 4 g8.nd (ik (ao (pv 0) rfl) (pv 2)))
   (ac (aZ 5 g8.nd (aI (ab am ad)))
   (ac (d7 cJ rfl (cD (aB e9 (bi T.iw (qr T) hr (ab (pv 4) ad)) (bi T.gT (oR T) hr (ab (pv 4) ad)))) (kT 6 g8.nd) (ae (gt (rL lF Fl Fm uG (pv 5) (ab (bi T.f7 (gY T) hr (ab (pv 6) ad)) ad)))))
   (ae (aj (pv 5))))))))),?_⟩
 have W0:=W;have ki0:=KI.refl H;have hd0:=hd
 refine aN W0 hd0 ki0 rfl fun H1 W1 hd1 ki1=> ?_
 have es:=Fg S d
 refine bB _ rfl _ rfl (wA G b r l a as S ns (bT _ d rfl W1 ?_))
 rcases gD S d with⟨h,e⟩ | ⟨h,h2,e⟩ | ⟨h,x,h2,e⟩
 ·rw [e,k9.1 h] at*
  refine⟨_,rfl,_,_,rfl,rfl,_,rfl,_,rfl,?_⟩
  exact⟨(by show 1≤sizeLine;decide),aF kk W1 hd1 ki1 es⟩
 ·rw [e] at*
  rw [k9.2.1 h h2] at es
  refine⟨_,rfl,_,_,rfl,rfl,_,rfl,_,rfl,?_⟩
  exact⟨(by show 1≤sizeLine;decide),aF kk W1 hd1 ki1 es⟩
 ·rw [e] at*
  rw [k9.2.2 h x h2] at es
  obtain⟨vs,v,g2,g3,g4,g5,g6⟩:=W1.dGet h
  rw [h2] at g6
  obtain⟨z,rfl,hz⟩:=g6
  obtain⟨db,hb⟩:=id W1.bank
  refine⟨_,rfl,_,_,rfl,rfl,_,rfl,_,rfl,b,_,db,_,_,rfl,hb,T.aQ.cl,T.aQ.no _ (by decide),rfl,_,rfl,G.l2,_,_,_,rfl,rfl,a4.of g2,g5,(by show 1≤sizeLine;decide),fun N hN=> ?_⟩
  have sN:=aC.laid (o:= .lst [V.int 0]) hN
  refine bH _ rfl (hJ (G.av l) z x rfl (hz.same sN) fun H2 p2 x1 x2 hp2 hx1 hx2 s2=> ?_)
  refine bH _ rfl (hJ (G.av l) z x rfl ((hz.same sN).same s2) fun H3 p3 x3 x4 hp3 hx3 hx4 s3=> ?_)
  refine jZ p2 p3 _ _ rfl rfl (s3 _ _ hp2) hp3 (by show 2+2≤2 ^ 24;decide) fun p4 hp4=> ?_
  have s4:=aC.laid (o:= .lst ([V.ref x1,V.ref x2]++ [V.ref x3,V.ref x4])) hp4
  have S4:=(s2.trans s3).trans s4
  have hN4:=S4 _ _ (af (H:=H1) (a:=N) (o:= .lst [V.int 0]))
  have q1:jW T (bR H3 p4 (.lst ([V.ref x1,V.ref x2]++ [V.ref x3,V.ref x4]))) x1 (Vbdeab.mean x):=(hx1.same s3).same s4
  have q2:jW T (bR H3 p4 (.lst ([V.ref x1,V.ref x2]++ [V.ref x3,V.ref x4]))) x2 (variance x):=(hx2.same s3).same s4
  have q3:jW T (bR H3 p4 (.lst ([V.ref x1,V.ref x2]++ [V.ref x3,V.ref x4]))) x3 (Vbdeab.least x):=hx3.same s4
  have q4:jW T (bR H3 p4 (.lst ([V.ref x1,V.ref x2]++ [V.ref x3,V.ref x4]))) x4 (Vbdeab.most x):=hx4.same s4
  generalize hH4:bR H3 p4 (.lst ([V.ref x1,V.ref x2]++ [V.ref x3,V.ref x4]))=H4 at*
  have hp4':H4 p4=some (.lst ([x1,x2,x3,x4].map V.ref)):=by rw [←hH4,af];rfl
  have qs:∀(i:Nat) y,[x1,x2,x3,x4][i]?=some y→∃q,[Vbdeab.mean x,variance x,Vbdeab.least x,Vbdeab.most x][i]?=some q∧jW T H4 y q:=fun i y hy=>by
   match i,hy with
   | 0,hy=>cases hy;exact⟨_,rfl,q1⟩
   | 1,hy=>cases hy;exact⟨_,rfl,q2⟩
   | 2,hy=>cases hy;exact⟨_,rfl,q3⟩
   | 3,hy=>cases hy;exact⟨_,rfl,q4⟩
   | _+4,hy=>cases hy
  refine cZ p4 rfl ⟨_,a4.of hp4'⟩ (eB (xs:= [x1,x2,x3,x4].map V.ref) (fun i σ H'=>i≤4∧∃(v1:Option V),σ= [some (.ref b),some (.ref r),some (.int d),some (.int 0),some (.ref z),some (.ref N),v1]∧H' N=some (.lst ((0::(([Vbdeab.mean x,variance x,Vbdeab.least x,Vbdeab.most x].take i).flatMap shownQ)).map V.int))∧(∀b o,H4 b=some o→b≠N→H' b=some o)) (mN (bn _) none rfl hN4 fun b o e _=>e) (fun i σ H' _ ⟨_,_,_,_,kp⟩=>a4.of (kp _ _ hp4' (fun q=>by rw [q,hN4] at hp4';cases hp4'))) ?_ ?_)
  ·rintro i u σ H5 hu ⟨hi,v1,rfl,hN5,kp⟩
   obtain⟨y,hy,rfl⟩:=gE hu
   have hi':i<4:=(cb.mp hy).1
   obtain⟨q,hq,dq,hqa⟩:=qs i y hy
   have hqa5:=kp _ _ hqa (bf hqa hN4 (by intro z;cases z))
   refine cZ _ rfl (.inl ⟨rfl,_,a4.of hN5⟩) (cv _ rfl y q rfl ⟨dq,hqa5⟩ fun A hA=> ?_)
   have sA:=aC.laid (o:= .lst ((shownQ q).map V.int)) hA
   have fl:∀l:List Vbdeab.Q,(l.flatMap shownQ).length=2*l.length:=fun l=>by
    induction l with
    | nil=>rfl
    | cons a r ih=>rw [Hb,bX,ih,d5];show 2+_=_;omega
   refine jZ N A _ _ rfl rfl (sA _ _ hN5) af ?_ (mN hi' _ rfl ?_ fun c o e hc=> ?_)
   ·rw [aD,d5,fl,ic,aD]
    show 2*min i 4+1+2≤2 ^ 24
    omega
   ·rw [af,Ch.bw hq,List.flatMap_append,←du,G8]
    simp
   ·rw [ak hc]
    exact sA _ _ (kp c o e hc)
  ·rintro σ H5 ⟨hi,v1,rfl,hN5,kp⟩
   have nN:H1 N=none:=hN
   have s15:aC H1 H5:=fun c o e=>kp c o (S4 _ _ (sN _ _ e)) (aw e nN)
   refine⟨_,rfl,?_⟩
   rw [es] at kk
   exact kk H5 N as _ (W1.same s15) hd1 hN5 (ki1.trans (KI.same s15)) (ki1.nf nN)
def HY (S:State) (d p q t:Int):Int:=if Dc S d<0 then Dc S d else if Vbdeab.fraction p q=none∨¬(0≤t∧t≤1) then -5 else 0
def wg (T:Tx K mg):Sp:=fun vs H Q _=>∃(G:Gh) (b r l a:Addr) (as:List Addr) (S:State) (ns:List Int) (pos:Nat) (d p q t:Int),vs= [.ref b,.int d,.int p,.int q,.int t]∧Wd G T H b r l a as S ns pos∧Sz 140 q∧∀H',aC H H'→Q (.int (HY S d p q t)) H'
theorem mo (T:Tx K mg):dM P w base T.iL 5 (wg T):=by
 refine T.iL.okA mG ?_
 rintro _ A _ s H _ Q E hr ⟨G,b,r,l,a,as,S,ns,pos,d,p,q,t,rfl,W,qz,k⟩
 refine⟨_,(ac (aZ 5 mG.nd (bi T.cn (ci T) hr (ab (pv 0) (ab (pv 1) ad))))
   (ac (aT (aR ld (pv 5) am (aY _)) (ae (aj (pv 5))) aG)
   (ac (aT (lh (h9 (aR kC (bi T.cK (cp T) hr (ab (pv 2) (ab (pv 3) ad))) cY (aY _)) (ig (aV (aS (bi T.bU (a7 T) hr (ab (pv 4) (ab am (ab am ad))))))))) (ae (aj (fh T.kX))) aG)
   (ae (aj am))))),?_⟩
 refine bB _ rfl _ rfl (wA G b r l a as S ns (bT pos d rfl W ?_))
 refine lu _ rfl _ _ rfl rfl _ rfl (aX (fun h1=> ?_) (fun h1=> ?_))
 ·have e:HY S d p q t=Dc S d:=if_pos (bj h1)
  rw [e] at k
  exact⟨_,rfl,k H (aC.refl' H)⟩
 ·have e:HY S d p q t=if Vbdeab.fraction p q=none∨¬(0≤t∧t≤1) then -5 else 0:=if_neg fun z=>h1 (aE z)
  rw [e] at k
  refine eV _ rfl _ rfl p q rfl (qz.mono (by decide)) fun v H2 o2 s2=> ?_
  cases hf:Vbdeab.fraction p q with
  | none=>
   rw [hf] at o2 k
   obtain rfl:v= .non:=o2
   rw [if_pos (.inl rfl)] at k
   exact dm rfl _ rfl (jx (k H2 s2))
  | some f=>
   rw [hf] at o2 k
   obtain⟨y,rfl,_⟩:=o2
   refine dm rfl _ rfl (fy _ rfl t 0 (bB 1 rfl _ rfl (aX (fun h3=> ?_) (fun h3=> ?_))))
   ·rw [if_pos (.inr (eD h3))] at k
    exact k H2 s2
   ·rw [if_neg (fun z=>z.elim (fun q=>by cases q) fun q=>q (cg h3))] at k
    exact k H2 s2
open Vbdeab (Class Dist)
theorem BO (S:State) (d p q t:Int):(HY S d p q t<0∧(∀f:Dist→Vbdeab.Q→List Int,onDist S d (fun x=>match Vbdeab.fraction p q with
  | none=>(S,[-5])
  | some v=>if within t 0 1=false then(S,[-5]) else(S,f x v))=(S,[HY S d p q t])))∨
  (HY S d p q t=0∧(0≤d∧d≤63)∧(0≤t∧t≤1)∧∃x v,S.dist d.toNat=some x∧Vbdeab.fraction p q=some v∧∀f:Dist→Vbdeab.Q→List Int,onDist S d (fun x=>match Vbdeab.fraction p q with
  | none=>(S,[-5])
  | some v=>if within t 0 1=false then(S,[-5]) else(S,f x v))=(S,f x v)):=by
 unfold HY
 rcases gD S d with⟨h,e⟩ | ⟨h,h2,e⟩ | ⟨h,x,h2,e⟩
 ·rw [e,if_pos (by decide)]
  exact .inl ⟨by decide,fun f=>k9.1 h⟩
 ·rw [e,if_pos (by decide)]
  exact .inl ⟨by decide,fun f=>k9.2.1 h h2⟩
 ·rw [e,if_neg (by decide)]
  cases hf:Vbdeab.fraction p q with
  | none=>
   rw [if_pos (.inl rfl)]
   exact .inl ⟨by decide,fun f=>k9.2.2 h x h2⟩
  | some v=>
   by_cases c:0≤t∧t≤1
   ·rw [if_neg (fun z=>z.elim (fun q=>by cases q) fun q=>q c)]
    refine .inr (bZ rfl h c (bT x v h2 rfl fun f=>(k9.2.2 h x h2).trans ?_))
    show(if within t 0 1=false then _ else _)=_
    rw [cu,aE c,if_neg (by decide)]
   ·rw [if_pos (.inr c)]
    refine .inl ⟨by decide,fun f=>(k9.2.2 h x h2).trans ?_⟩
    show(if within t 0 1=false then _ else _)=_
    rw [cu,bq c,if_pos rfl]
def wf (T:Tx K mg):Sp:=df T (fun dd c rest=>∃d p q t,dd=d::p::q::t::rest∧c= .below d p q t∧Sz 140 q)
theorem HM (T:Tx K mg):dM P w base T.uP 6 (wf T):=by
 refine T.uP.okA kE ?_
 rintro _ A _ s H _ Q E hr ⟨G,b,r,l,a,as,S,ns,pos,c,rest,rfl,W,⟨d,p,q,t,hd,rfl,qz⟩,kk⟩
 refine⟨_,(ac (aZ 2 kE.nd (eJ (pv 1) T.au (ah T) hr))
   (ac (aZ 3 kE.nd (eJ (pv 1) T.au (ah T) hr))
   (ac (aZ 4 kE.nd (eJ (pv 1) T.au (ah T) hr))
   (ac (aZ 5 kE.nd (eJ (pv 1) T.au (ah T) hr))
   (ac (aZ 6 kE.nd (bi T.iL (mo T) hr (ab (pv 0) (ab (pv 2) (ab (pv 3) (ab (pv 4) (ab (pv 5) ad)))))))
   (ac (aT (aR ld (pv 6) am (aY _)) (ae (aj (aI (ab (pv 6) ad)))) aG)
   (ae (aj (aB e9 (aI (ab am ad)) (bi T.f7 (gY T) hr (ab (bi T.mS (xh T) hr (ab (ik (ao (pv 0) rfl) (pv 2)) (ab (bi T.cK (cp T) hr (ab (pv 3) (ab (pv 4) ad))) (ab (pv 5) ad)))) ad))))))))))),?_⟩
 have W0:=W;have ki0:=KI.refl H;have hd0:=hd
 refine aN W0 hd0 ki0 rfl fun H1 W1 hd1 ki1=> ?_
 refine aN W1 hd1 ki1 rfl fun H2 W2 hd2 ki2=> ?_
 refine aN W2 hd2 ki2 rfl fun H3 W3 hd3 ki3=> ?_
 refine aN W3 hd3 ki3 rfl fun H4 W4 hd4 ki4=> ?_
 have es:=Ik S d p q t
 refine Dt _ rfl _ rfl _ rfl _ rfl _ rfl G b (ij r l a as S ns _ d p q t rfl W4 qz fun H5 s5=> ?_)
 have W5:=W4.same s5
 have ki5:=ki4.trans (KI.same s5)
 rcases BO S d p q t with⟨hneg,hon⟩ | ⟨e0,hd63,ht,x,f,hx,hf,hon⟩
 ·replace es:=es.trans (hon fun x v=>0::shownQ (Vbdeab.below (decide (t=1)) v x))
  refine lu _ rfl _ _ rfl rfl _ rfl (aX (fun _=> ?_) (fun h1=>absurd (aE hneg) h1))
  refine⟨_,rfl,?_⟩
  exact⟨(by show 1≤sizeLine;decide),aF kk W5 hd4 ki5 es⟩
 ·replace es:=es.trans (hon fun x v=>0::shownQ (Vbdeab.below (decide (t=1)) v x))
  rw [e0] at*
  obtain⟨vs,v,g2,g3,g4,g5,g6⟩:=W5.dGet hd63
  rw [hx] at g6
  obtain⟨z,rfl,hz⟩:=g6
  obtain⟨db,hb⟩:=id W5.bank
  refine⟨_,rfl,_,_,rfl,rfl,_,rfl,(by show 1≤sizeLine;decide),fun A1 hA1=> ?_⟩
  have sa:=aC.laid (o:= .lst [V.int 0]) hA1
  refine aM _ rfl b _ db _ _ rfl (sa _ _ hb) T.aQ.cl (T.aQ.no _ (by decide)) rfl (bO _ rfl G.l2 _ _ _ rfl rfl (a4.of (sa _ _ g2)) g5 (eV _ rfl _ rfl p q rfl (qz.mono (by decide)) fun u H6 o6 s6=> ?_))
  rw [hf] at o6
  obtain⟨y,rfl,hy⟩:=o6
  refine fy _ rfl (G.av l) z (jY y x f (decide (t=1)) (by rw [←Jq ht];rfl) ((hz.same sa).same s6) hy (nh hf) fun y2 H7 hy2 s7=> ?_)
  refine bT y2 _ rfl hy2 fun A2 hA2=> ?_
  have sb:=aC.laid (o:= .lst ((shownQ (Vbdeab.below (decide (t=1)) f x)).map V.int)) hA2
  have SS:=((sa.trans s6).trans s7).trans sb
  refine jZ A1 A2 _ _ rfl rfl (sb _ _ (s7 _ _ (s6 _ _ af))) af (by show 1+2≤2 ^ 24;decide) ?_
  exact aF kk (W5.same SS) hd4 (ki5.trans (KI.same SS)) es
def zi (T:Tx K mg):Sp:=df T (fun dd c rest=>∃d p q t,dd=d::p::q::t::rest∧c= .hits d p q t∧Sz 140 q)
theorem Kh (T:Tx K mg):dM P w base T.zE 8 (zi T):=by
 refine T.zE.okA l4 ?_
 rintro _ A _ s H _ Q E hr ⟨G,b,r,l,a,as,S,ns,pos,c,rest,rfl,W,⟨d,p,q,t,hd,rfl,qz⟩,kk⟩
 refine⟨_,(ac (aZ 2 l4.nd (eJ (pv 1) T.au (ah T) hr))
   (ac (aZ 3 l4.nd (eJ (pv 1) T.au (ah T) hr))
   (ac (aZ 4 l4.nd (eJ (pv 1) T.au (ah T) hr))
   (ac (aZ 5 l4.nd (eJ (pv 1) T.au (ah T) hr))
   (ac (aZ 6 l4.nd (bi T.iL (mo T) hr (ab (pv 0) (ab (pv 2) (ab (pv 3) (ab (pv 4) (ab (pv 5) ad)))))))
   (ac (aT (aR ld (pv 6) am (aY _)) (ae (aj (aI (ab (pv 6) ad)))) aG)
   (ae (aj (aI (ab am (ab (bi T.rk (Av T) hr (ab (ik (ao (pv 0) rfl) (pv 2)) (ab (bi T.cK (cp T) hr (ab (pv 3) (ab (pv 4) ad))) (ab (pv 5) ad)))) ad))))))))))),?_⟩
 have W0:=W;have ki0:=KI.refl H;have hd0:=hd
 refine aN W0 hd0 ki0 rfl fun H1 W1 hd1 ki1=> ?_
 refine aN W1 hd1 ki1 rfl fun H2 W2 hd2 ki2=> ?_
 refine aN W2 hd2 ki2 rfl fun H3 W3 hd3 ki3=> ?_
 refine aN W3 hd3 ki3 rfl fun H4 W4 hd4 ki4=> ?_
 have es:=KB S d p q t
 refine Dt _ rfl _ rfl _ rfl _ rfl _ rfl G b (ij r l a as S ns _ d p q t rfl W4 qz fun H5 s5=> ?_)
 have W5:=W4.same s5
 have ki5:=ki4.trans (KI.same s5)
 rcases BO S d p q t with⟨hneg,hon⟩ | ⟨e0,hd63,ht,x,f,hx,hf,hon⟩
 ·replace es:=es.trans (hon fun x v=> [0,((Vbdeab.hits (decide (t=1)) v x:Nat):Int)])
  refine lu _ rfl _ _ rfl rfl _ rfl (aX (fun _=> ?_) (fun h1=>absurd (aE hneg) h1))
  refine⟨_,rfl,?_⟩
  exact⟨(by show 1≤sizeLine;decide),aF kk W5 hd4 ki5 es⟩
 ·replace es:=es.trans (hon fun x v=> [0,((Vbdeab.hits (decide (t=1)) v x:Nat):Int)])
  rw [e0] at*
  obtain⟨vs,v,g2,g3,g4,g5,g6⟩:=W5.dGet hd63
  rw [hx] at g6
  obtain⟨z,rfl,hz⟩:=g6
  obtain⟨db,hb⟩:=id W5.bank
  refine⟨_,rfl,_,_,rfl,rfl,_,rfl,_,rfl,b,_,db,_,_,rfl,hb,T.aQ.cl,T.aQ.no _ (by decide),rfl,_,rfl,G.l2,_,_,_,rfl,rfl,a4.of g2,g5,_,rfl,_,rfl,p,q,rfl,qz.mono (by decide),fun u H6 o6 s6=> ?_⟩
  rw [hf] at o6
  obtain⟨y,rfl,hy⟩:=o6
  refine fy _ rfl (G.av l) z (jY y x f (decide (t=1)) (by rw [←Jq ht];rfl) (hz.same s6) hy (nh hf) fun H7 s7=> ?_)
  exact⟨(by show 2≤sizeLine;decide),aF kk (W5.same (s6.trans s7)) hd4 (ki5.trans (KI.same (s6.trans s7))) es⟩
end
end Pf
namespace Pf
open PySem PySem.Spec PyProof.Rows L2
section
variable {P:Program} {w:World} {K:PySem.W.Frag} {mg:Str→Option Value} {base:Heap}
theorem Wd.tab {G:Gh} {T:Tx K mg} {H H':Hp} {b r l a:Addr} {as:List Addr} {S:State} {ns:List Int} {pos:Nat} (W:Wd G T H b r l a as S ns pos) (k:iA H H' G.P) (t':TB G.P H'):Wd G T H' b r l a as S ns pos:=by
 obtain⟨⟨dx,hb⟩,⟨dr,hr⟩,hq,hl,nd,len,sl,at_,ok,dw⟩:=W
 have kp:∀c o,H c=some o→(∀ps,o≠ .tbl ps)→H' c=some o:=fun c o e n=>k c o e fun z=>by
  rcases dw.tb with q | ⟨_,q,_⟩
  ·rw [z,q] at e;exact n _ (bE e).symm
  ·rw [z,q] at e;exact n _ (bE e).symm
 exact⟨⟨dx,kp _ _ hb (by intro ps z;cases z)⟩,⟨dr,kp _ _ hr (by intro ps z;cases z)⟩,hq.keep (fun _ _ _ e=>kp _ _ e (by intro ps z;cases z)),kp _ _ hl (by intro ps z;cases z),nd,len,sl,fun j z u h2 h3=>let ⟨d,h⟩:=at_ j z u h2 h3;⟨d,kp _ _ h (by intro ps z;cases z)⟩,ok,dw.keep (.tab k dw.tb t') fun c xs e _=>kp _ _ e (by intro ps z;cases z)⟩
theorem Wd.both {G:Gh} {T:Tx K mg} {H H':Hp} {b r l a:Addr} {as:List Addr} {S:State} {ns:List Int} {pos:Nat} (W:Wd G T H b r l a as S ns pos) {k:Nat} {x:Addr} {t t':Stream} (hx:as[k]?=some x) (h0:bS T H x t) (h1:bS T H' x t') (hlt:t'.state<Vbdeab.P)
  (kp:∀c o,H c=some o→c≠x→c≠G.P→H' c=some o) (tb:TB G.P H'):Wd G T H' b r l a as (S.put k t') ns pos:=by
 obtain⟨dx,e1⟩:=h1
 have W1:Wd G T (bR H x (.ins T.aK.C dx (sf t'))) b r l a as (S.put k t') ns pos:=W.stream hx h0 ⟨dx,af⟩ (fun c o e n=>by rw [ak n];exact e) hlt
 refine W1.tab (fun c o e n=> ?_) tb
 by_cases q:c=x
 ·subst q
  rw [af] at e
  cases e
  exact e1
 ·rw [ak q] at e
  exact kp c o e q n
theorem kZ.kp {T:Tx K mg} {av:List Addr} {H H':Hp} {rs:List Addr} {l:List (Int×Int)} (h:kZ T H rs l) (s:KP av H H'):kZ T H' rs l:=⟨h.1,fun j r q a b=>s.rt (h.2 j r q a b)⟩
theorem kZ.snoc {T:Tx K mg} {H:Hp} {rs:List Addr} {l:List (Int×Int)} {r:Addr} {q:Int×Int} (h:kZ T H rs l) (v:fG T H r q.1 q.2):kZ T H (rs++ [r]) (l++ [q]):=by
 refine⟨by rw [bX,bX,h.1];rfl,fun j r' q' a b=> ?_⟩
 rcases so j rs.length with z | z
 ·rw [nV z] at a
  rw [nV (by rw [←h.1];exact z)] at b
  exact h.2 j r' q' a b
 ·rw [nW z] at a
  rw [nW (by rw [←h.1];exact z),←h.1] at b
  cases e:j - rs.length with
  | zero=>rw [e] at a b;cases a;cases b;exact v
  | succ m=>rw [e] at a;cases a
theorem DK (l:List Vbdeab.Q):(l.flatMap shownQ).length=2*l.length:=by
 induction l with
 | nil=>rfl
 | cons a r ih=>rw [Hb,bX,ih,d5];show 2+_=_;omega
theorem Kz (S:State) (d k:Int):Vbdeab.step S (.draw d k)=onDist S d fun x=>onStream S k fun t=> .ok ((Vbdeab.raw t).1,shownQ (Vbdeab.value x (Vbdeab.raw t).2)):=by rw [Vbdeab.step]
theorem Im (S:State) (d k n:Int):Vbdeab.step S (.draws d k n)=onDist S d fun x=>onStream S k fun t=>if within n 0 1000=false then .error (-3) else .ok ((Vbdeab.raws n.toNat t).1,n::(Vbdeab.raws n.toNat t).2.flatMap fun u=>shownQ (Vbdeab.value x u)):=by rw [Vbdeab.step]
def Ie (T:Tx K mg):Sp:=fun vs H Q _=>∃(G:Gh) (b r l a:Addr) (as:List Addr) (S:State) (ns:List Int) (pos d k n:Nat) (x:Vbdeab.Dist),vs= [.ref b,.int d,.int k,.int n]∧Wd G T H b r l a as S ns pos∧d<64∧k<64∧n≤1000∧S.dist d=some x∧∀(H':Hp) (p:Addr),Wd G T H' b r l a as (S.put k (Vbdeab.raws n (S.stream k)).1) ns pos→H' p=some (.lst (((Vbdeab.raws n (S.stream k)).2.flatMap fun u=>shownQ (Vbdeab.value x u)).map V.int))→KI H H'→NF H p→Q (.ref p) H'
theorem BF (T:Tx K mg):dM P w base T.Bc 6 (Ie T):=by
 refine T.Bc.okA iU ?_
 rintro _ A _ s H _ Q E hr ⟨G,b,r,l,a,as,S,ns,pos,d,k,n,x,rfl,W,hd,hk,hn,hx,kk⟩
 refine⟨_,(ac (aZ 4 iU.nd (ik (ao (pv 0) rfl) (pv 1)))
   (ac (aZ 5 iU.nd (ik (ao (pv 0) rfl) (pv 2)))
   (ac (aZ 6 iU.nd (aI ad))
   (ac (d7 cJ rfl (cD (bi T.dJ (As T) hr (ab (j4 (own:= [("i",8)]) rfl iU.nd (cq rfl T.di (ab (pv 3) ad)) (cf (N:= ["bank","d","k","many","distribution","stream","numbers","ratio","i"]) (sc:=ag yK) (by decide+kernel)) (fun _ _ _ _ _=>(kT 8 iU.nd)) (fun _ _ _ _ _=>dQ) (fun _ _ _ _ _=>(zw (pv 4) T.dW (gy T) hr (ab (eJ (pv 5) T.bJ (bV T) hr) ad)))) ad))) (kT 7 iU.nd) (ae (gt (rL lF Fl Fm uG (pv 6) (ab (bi T.f7 (gY T) hr (ab (pv 7) ad)) ad)))))
   (ae (aj (pv 6))))))),?_⟩
 obtain⟨db,hb⟩:=id W.bank
 obtain⟨vs,v,g2,g3,g4,g5,g6⟩:=W.dGet (d:=(d:Int)) (by omega)
 obtain⟨sx,t,e1,e2,e3,e4,e5⟩:=W.sGet hk
 rw [show(d:Int).toNat=d from rfl,hx] at g6
 obtain⟨z,rfl,hz⟩:=g6
 rw [e3] at kk
 obtain⟨ds,hs⟩:=id e4
 obtain⟨dz,_,_,_,_,_,DD⟩:=id hz
 refine aM _ rfl b _ db _ _ rfl hb T.aQ.cl (T.aQ.no _ (by decide)) rfl (bO _ rfl G.l2 _ _ _ rfl rfl (a4.of g2) g5 ?_)
 refine aM _ rfl b _ db _ _ rfl hb T.aQ.cl (T.aQ.no _ (by decide)) rfl (gM _ rfl l _ _ _ rfl rfl (a4.of W.lst) (nq rfl e1) (bn _) fun N hN=> ?_)
 have sN:=aC.laid (o:= .lst []) hN
 refine sC _ rfl (n:Int) rfl (by omega) (by omega) fun D hD=> ?_
 have nND:N≠D:=aw af hD
 have hD0:H D=none:=sN.free hD
 refine gx (n:=n) (fun i H'=>∃(rs:List Addr) (ps:List (Int×Int)),H' D=some (.lst (rs.map V.ref))∧kZ T H' rs ps∧(∀q∈ps,0<q.2∧Sz 600 q.2∧Sz 600 q.1)∧(ps.map fun q=>Vbdeab.mkQ q.1 q.2.toNat)=(Vbdeab.raws i t).2.map (Vbdeab.value x)∧H' N=some (.lst [])∧bS T H' sx (Vbdeab.raws i t).1∧iA H H' sx) ?_ ?_ ?_
 ·refine bP ([]) ([]) af ⟨rfl,fun j r q a b=>by cases a⟩ (fun q hq=>(nomatch hq)) (bZ (by rw [Ch.dA];rfl) (by rw [ak nND,af]) ⟨ds,?_⟩ fun c o e _=> ?_)
  ·rw [Ch.dA,ak (aw hs hD0)]
   exact sN _ _ hs
  ·rw [ak (aw e hD0)]
   exact sN _ _ e
 ·rintro i H3 hi ⟨rs,ps,hD3,hrs,hps,heq,hN3,⟨d3,hs3⟩,kp3⟩
  have KQ3:KQ (G.av l) H H3:=KQ.keep1 kp3 hs rfl
  have hz3:=hz.kp KQ3.toKP
  refine⟨rfl,(cM _ rfl z dz _ rfl (kp3 _ _ DD.inst (bf DD.inst hs (Ln (by decide)))) rfl (cM _ rfl sx d3 _ rfl hs3 rfl (bT sx _ rfl ⟨d3,hs3⟩ fun H4 ⟨d4,hs4⟩ kp4=> ?_)))⟩
  have KQ4:KQ (G.av l) H3 H4:=KQ.keep1 kp4 hs3 rfl
  refine⟨G.av l,(bW z x _ rfl (hz3.kp KQ4.toKP) Ch.vZ fun y H5 hy s5=> ?_)⟩
  have hD5:=s5 _ _ (kp4 _ _ hD3 (bf hD3 hs3 (by intro z;cases z)))
  have hN5:=s5 _ _ (kp4 _ _ hN3 (bf hN3 hs3 (by intro z;cases z)))
  obtain⟨yn,ym,hyt,yiz,ynz,ymz⟩:=hy
  have hlen:ps.length=i:=by
   have:=cx List.length heq
   rw [aD,aD,Ch.gC] at this
   exact this
  have hrs5:kZ T H5 rs ps:=(hrs.kp KQ4.toKP).kp (av:=G.av l) (.same s5)
  refine cZ _ hD5 (by rw [aD,hrs.1,hlen];show i<2 ^ 24;omega) (bP (rs++ [y]) (ps++ [(yn,ym)]) (by rw [af,du];rfl) ((hrs5.snoc (q:=(yn,ym)) hyt).si (hX.lst hD5)) (fun q hq=> ?_) (bZ ?_ (by rw [ak nND];exact hN5) ⟨d4,?_⟩ fun c o e nc=> ?_))
  ·rcases jO.mp hq with w | w
   ·exact hps q w
   ·rw [gN.mp w]
    exact⟨yiz.dpos,ymz.mono (by decide),ynz.mono (by decide)⟩
  ·rw [du,heq,Ch.fU,du]
   congr 1
   show [Vbdeab.mkQ yn ym.toNat]= [Vbdeab.value x _]
   rw [←yiz.eq]
  ·rw [ak (aw hs hD0),Ch.fU]
   exact s5 _ _ hs4
  ·rw [ak (aw e hD0)]
   exact s5 _ _ (kp4 _ _ (kp3 _ _ e nc) nc)
 ·rintro H3 ⟨rs,ps,hD3,hrs,hps,heq,hN3,hs3,kp3⟩
  have KQ3:KQ (G.av l) H H3:=KQ.keep1 kp3 hs rfl
  have hlen:ps.length=n:=by
   have:=cx List.length heq
   rw [aD,aD,Ch.gC] at this
   exact this
  refine jZ D G.P rs ps rfl hD3 hrs (by omega) hps (bZ W.dw.to (W.dw.bm.keep KQ3.x) (KQ3.t _ W.dw.tb) fun H4 p xs hp4 xlen hxs k4 tb4 np4=> ?_)
  have tb3:=KQ3.t _ W.dw.tb
  have nT:∀(Hx:Hp) c o,TB G.P Hx→Hx c=some o→(∀ps,o≠ .tbl ps)→c≠G.P:=fun Hx c o tb e hn w=>by
   rcases tb with tb | ⟨_,tb,_⟩
   ·rw [w,tb] at e;exact hn _ (bE e).symm
   ·rw [w,tb] at e;exact hn _ (bE e).symm
  have hN4:H4 N=some (.lst []):=k4 _ _ hN3 (nT H3 _ _ tb3 hN3 (by intro ps z;cases z))
  have pN:p≠N:=fun w=>by rw [w,hN3] at np4;cases np4
  generalize hms:(Vbdeab.raws n t).2.map (Vbdeab.value x)=ms at heq
  have mlen:ms.length=n:=by rw [←hms,aD,Ch.gC]
  have qs:∀(i:Nat) y,xs[i]?=some y→∃q,ms[i]?=some q∧jW T H4 y q:=fun i y hy=>by
   have hi:i<ps.length:=by rw [←xlen];exact(cb.mp hy).1
   refine⟨_,by rw [←heq,dn,bF hi];rfl,hxs i y _ hy (bF hi)⟩
  refine cZ p rfl ⟨_,a4.of hp4⟩ (eB (xs:=xs.map V.ref) (fun i σ H'=>i≤n∧∃(v1 v2:Option V),σ= [some (.ref b),some (.int d),some (.int k),some (.int n),some (.ref z),some (.ref sx),some (.ref N),v1,v2]∧H' N=some (.lst (((ms.take i).flatMap shownQ).map V.int))∧(∀c o,H4 c=some o→c≠N→H' c=some o)) ⟨bn _,(bT none none rfl hN4 fun c o e _=>e)⟩ (fun i σ H' _ ⟨_,_,_,_,_,kp⟩=>a4.of (kp _ _ hp4 pN)) ?_ ?_)
  ·rintro i u σ H5 hu ⟨hi,v1,v2,rfl,hN5,kp⟩
   obtain⟨y,hy,rfl⟩:=gE hu
   have hi':i<n:=by rw [←hlen,←xlen];exact(cb.mp hy).1
   obtain⟨q,hq,dq,hqa⟩:=qs i y hy
   have hqa5:=kp _ _ hqa (bf hqa hN4 (by intro z;cases z))
   refine cZ _ rfl (.inl ⟨rfl,_,a4.of hN5⟩) (cv _ rfl y q rfl ⟨dq,hqa5⟩ fun A hA=> ?_)
   have sA:=aC.laid (o:= .lst ((shownQ q).map V.int)) hA
   refine jY N A _ _ rfl rfl (sA _ _ hN5) af (fe ?_ hi' (bT _ _ rfl ?_ fun c o e hc=> ?_))
   ·rw [aD,DK,ic,aD]
    show 2*min i _+2≤2 ^ 24
    omega
   ·rw [af,Ch.bw hq,List.flatMap_append,←du]
    simp
   ·rw [ak hc]
    exact sA _ _ (kp c o e hc)
  ·rintro σ H5 ⟨hi,v1,v2,rfl,hN5,kp⟩
   have tb5:TB G.P H5:=tb4.keep (fun c ps e=>kp _ _ e (bf e hN4 (by intro z;cases z))) fun c φ e=>kp _ _ e (bf e hN4 (by intro z;cases z))
   have kpF:∀c o,H c=some o→c≠sx→c≠G.P→H5 c=some o:=fun c o e n1 n2=>kp _ _ (k4 _ _ (kp3 _ _ e n1) n2) (aw e hN)
   have sF:bS T H5 sx (Vbdeab.raws n t).1:=by
    obtain⟨d3,hs3⟩:=hs3
    exact⟨d3,kp _ _ (k4 _ _ hs3 (nT H3 _ _ tb3 hs3 (by intro ps z;cases z))) (aw hs hN)⟩
   refine⟨_,rfl,?_⟩
   rw [aD,xlen,hlen,lv (by rw [mlen];exact bp _),←hms,List.flatMap_map] at hN5
   refine kk H5 N (W.both e1 e4 sF (uJ e5 _) kpF tb5) hN5 (fun c xs e=>kpF _ _ e (bf e hs (by intro z;cases z)) (nT H _ _ W.dw.tb e (by intro ps z;cases z))) (KI.nf (KI.refl H) hN)
def zg (T:Tx K mg):Sp:=df T (fun dd c rest=>∃d k,dd=d::k::rest∧c= .draw d k)
theorem Kf (T:Tx K mg):dM P w base T.zD 7 (zg T):=by
 refine T.zD.okA uL ?_
 rintro _ A _ s H _ Q E hr ⟨G,b,r,l,a,as,S,ns,pos,c,rest,rfl,W,⟨d,k,hd,rfl⟩,kk⟩
 refine⟨_,(ac (aZ 2 uL.nd (eJ (pv 1) T.au (ah T) hr))
   (ac (aZ 3 uL.nd (eJ (pv 1) T.au (ah T) hr))
   (ac (aZ 4 uL.nd (bi T.cn (ci T) hr (ab (pv 0) (ab (pv 2) ad))))
   (ac (aT (aR ld (pv 4) am (aY _)) (ae (aj (aI (ab (pv 4) ad)))) aG)
   (ac (aT (aV (aS (bi T.bA (a5 T) hr (ab (pv 3) ad)))) (ae (aj (aI (ab (fh T.bb) ad)))) aG)
   (ae (aj (aB e9 (aI (ab am ad)) (bi T.Bc (BF T) hr (ab (pv 0) (ab (pv 2) (ab (pv 3) (ab am ad))))))))))))),?_⟩
 have W0:=W;have ki0:=KI.refl H;have hd0:=hd
 refine aN W0 hd0 ki0 rfl fun H1 W1 hd1 ki1=> ?_
 refine aN W1 hd1 ki1 rfl fun H2 W2 hd2 ki2=> ?_
 have es:=Kz S d k
 refine bB _ rfl _ rfl (wA G b r l a as S ns (bT _ d rfl W2 ?_))
 rcases gD S d with⟨h,e⟩ | ⟨h,h2,e⟩ | ⟨h,x,h2,e⟩
 ·rw [e,k9.1 h] at*
  refine⟨_,rfl,_,_,rfl,rfl,_,rfl,_,rfl,?_⟩
  exact⟨(by show 1≤sizeLine;decide),aF kk W2 hd2 ki2 es⟩
 ·rw [e] at*
  rw [k9.2.1 h h2] at es
  refine⟨_,rfl,_,_,rfl,rfl,_,rfl,_,rfl,?_⟩
  exact⟨(by show 1≤sizeLine;decide),aF kk W2 hd2 ki2 es⟩
 ·rw [e] at*
  rw [k9.2.2 h x h2] at es
  refine lu _ rfl _ _ rfl rfl _ rfl (bc _ rfl k rfl _ rfl (aX (fun h3=> ?_) (fun h3=> ?_)))
  ·rw [iQ (eD h3)] at es
   exact⟨(by show 1≤sizeLine;decide),aF kk W2 hd2 ki2 es⟩
  ·have hk:=cg h3
   rw [mt (r:=((Vbdeab.raw (S.stream k.toNat)).1,shownQ (Vbdeab.value x (Vbdeab.raw (S.stream k.toNat)).2))) hk rfl] at es
   refine⟨(by show 1≤sizeLine;decide),fun A1 hA1=> ?_⟩
   have sa:=aC.laid (o:= .lst [V.int 0]) hA1
   refine bB _ rfl _ rfl (fy _ rfl G b (ij r l a as S ns _ d.toNat k.toNat 1 x (by rw [cC h.1,cC hk.1];rfl) (W2.same sa) (by omega) (bZ (by omega) (by decide) h2 fun H3 p W3 hp3 ki3 nf3=> ?_)))
   have r1:Vbdeab.raws 1 (S.stream k.toNat)=((Vbdeab.raw (S.stream k.toNat)).1,[(Vbdeab.raw (S.stream k.toNat)).2]):=by rw [Ch.fU,Ch.dA];rfl
   rw [r1] at W3 hp3
   have hA3:=ki3 A1 [0] af
   have hp3':H3 p=some (.lst ((shownQ (Vbdeab.value x (Vbdeab.raw (S.stream k.toNat)).2)).map V.int)):=by rw [hp3];simp
   refine jZ A1 p _ _ rfl rfl hA3 hp3' (by show 1+2≤2 ^ 24;decide) ?_
   have fin:=aF kk W3 hd2 ((ki2.trans (KI.same sa)).trans ki3) es
   exact fin
def wm (T:Tx K mg):Sp:=df T (fun dd c rest=>∃d k n,dd=d::k::n::rest∧c= .draws d k n)
theorem HP (T:Tx K mg):dM P w base T.uR 7 (wm T):=by
 refine T.uR.okA mH ?_
 rintro _ A _ s H _ Q E hr ⟨G,b,r,l,a,as,S,ns,pos,c,rest,rfl,W,⟨d,k,n,hd,rfl⟩,kk⟩
 refine⟨_,(ac (aZ 2 mH.nd (eJ (pv 1) T.au (ah T) hr))
   (ac (aZ 3 mH.nd (eJ (pv 1) T.au (ah T) hr))
   (ac (aZ 4 mH.nd (eJ (pv 1) T.au (ah T) hr))
   (ac (aZ 5 mH.nd (bi T.cn (ci T) hr (ab (pv 0) (ab (pv 2) ad))))
   (ac (aT (aR ld (pv 5) am (aY _)) (ae (aj (aI (ab (pv 5) ad)))) aG)
   (ac (aT (aV (aS (bi T.bA (a5 T) hr (ab (pv 3) ad)))) (ae (aj (aI (ab (fh T.bb) ad)))) aG)
   (ac (aT (aV (aS (bi T.gR (gA T) hr (ab (pv 4) ad)))) (ae (aj (aI (ab (fh T.fE) ad)))) aG)
   (ae (aj (aB e9 (aI (ab am (ab (pv 4) ad))) (bi T.Bc (BF T) hr (ab (pv 0) (ab (pv 2) (ab (pv 3) (ab (pv 4) ad))))))))))))))),?_⟩
 have W0:=W;have ki0:=KI.refl H;have hd0:=hd
 refine aN W0 hd0 ki0 rfl fun H1 W1 hd1 ki1=> ?_
 refine aN W1 hd1 ki1 rfl fun H2 W2 hd2 ki2=> ?_
 refine aN W2 hd2 ki2 rfl fun H3 W3 hd3 ki3=> ?_
 have es:=Im S d k n
 refine bB _ rfl _ rfl (wA G b r l a as S ns (bT _ d rfl W3 ?_))
 rcases gD S d with⟨h,e⟩ | ⟨h,h2,e⟩ | ⟨h,x,h2,e⟩
 ·rw [e,k9.1 h] at*
  refine⟨_,rfl,_,_,rfl,rfl,_,rfl,_,rfl,?_⟩
  exact⟨(by show 1≤sizeLine;decide),aF kk W3 hd3 ki3 es⟩
 ·rw [e] at*
  rw [k9.2.1 h h2] at es
  refine⟨_,rfl,_,_,rfl,rfl,_,rfl,_,rfl,?_⟩
  exact⟨(by show 1≤sizeLine;decide),aF kk W3 hd3 ki3 es⟩
 ·rw [e] at*
  rw [k9.2.2 h x h2] at es
  refine lu _ rfl _ _ rfl rfl _ rfl (bc _ rfl k rfl _ rfl (aX (fun h3=> ?_) (fun h3=> ?_)))
  ·rw [iQ (eD h3)] at es
   exact⟨(by show 1≤sizeLine;decide),aF kk W3 hd3 ki3 es⟩
  ·have hk:=cg h3
   refine bc _ rfl n rfl _ rfl (aX (fun h4=> ?_) (fun h4=> ?_))
   ·rw [iR (e:= -3) hk (by rw [cu,if_pos (dN (eD h4))])] at es
    exact⟨(by show 1≤sizeLine;decide),aF kk W3 hd3 ki3 es⟩
   ·have hn:=cg h4
    rw [mt (r:=((Vbdeab.raws n.toNat (S.stream k.toNat)).1,n::(Vbdeab.raws n.toNat (S.stream k.toNat)).2.flatMap fun u=>shownQ (Vbdeab.value x u))) hk (by rw [cu,aE hn,if_neg (by decide)])] at es
    refine cZ _ rfl (by show 2≤sizeLine;decide) fun A1 hA1=> ?_
    have sa:=aC.laid (o:= .lst [V.int 0,V.int n]) hA1
    refine bc _ rfl _ rfl _ rfl (fy _ rfl G b (ij r l a as S ns _ d.toNat k.toNat n.toNat x (by rw [cC h.1,cC hk.1,cC hn.1];rfl) (W3.same sa) (by omega) (bZ (by omega) (by omega) h2 fun H4 p W4 hp4 ki4 nf4=> ?_)))
    have hA4:=ki4 A1 [0,n] af
    have fl:((Vbdeab.raws n.toNat (S.stream k.toNat)).2.flatMap fun u=>shownQ (Vbdeab.value x u)).length=2*n.toNat:=by
     have:=DK ((Vbdeab.raws n.toNat (S.stream k.toNat)).2.map (Vbdeab.value x))
     rw [List.flatMap_map,aD,Ch.gC] at this
     exact this
    refine jZ A1 p _ _ rfl rfl hA4 hp4 (by rw [aD,aD,fl];show 2+2*n.toNat≤2 ^ 24;omega) ?_
    have fin:=aF kk W4 hd3 ((ki3.trans (KI.same sa)).trans ki4) es
    exact fin
end
end Pf
namespace Pf
open PySem PySem.Spec PyProof.Rows L2
section
variable {P:Program} {w:World} {K:PySem.W.Frag} {mg:Str→Option Value} {base:Heap} {G:Gh}
def j1 (T:Tx K mg):Addr→Sp→Prop:=fun f sp=>(f=T.rC.f∧sp=ww T)∨(f=T.mT.f∧sp=t8 T)∨(f=T.kR.f∧sp=qW T)∨(f=T.mY.f∧sp=ud T)∨(f=T.CU.f∧sp=Cr T)∨(f=T.wM.f∧sp=zj T)
theorem sv {A:Around} (T:Tx K mg) (hr:eR 3 A):∀f sp,j1 T f sp→∃k fd ps,jV P w K mg base AV k f fd ps sp∧eR k A∧PySem.W.keepIn K (.ref f)=true∧i8 K fd ps []:=by
 rintro f sp (⟨rfl,rfl⟩ | ⟨rfl,rfl⟩ | ⟨rfl,rfl⟩ | ⟨rfl,rfl⟩ | ⟨rfl,rfl⟩ | ⟨rfl,rfl⟩)
 ·exact bW _ _ _ (HU T) (hr.mono (by decide)) T.rC.F.kp T.rC.b
 ·exact bW _ _ _ (F7 T) (hr.mono (by decide)) T.mT.F.kp T.mT.b
 ·exact bW _ _ _ (EM T) (hr.mono (by decide)) T.kR.F.kp T.kR.b
 ·exact bW _ _ _ (Gc T) (hr.mono (by decide)) T.mY.F.kp T.mY.b
 ·exact bW _ _ _ (LG T) (hr.mono (by decide)) T.CU.F.kp T.CU.b
 ·exact bW _ _ _ (Ki T) (hr.mono (by decide)) T.wM.F.kp T.wM.b
def sB (T:Tx K mg):Sp:=fun vs H Q _=>∃(b r:Addr) (p:Int),vs= [.ref b,.int p,.ref r]∧((p=11∧ww T [.ref b,.ref r] H Q E0)∨(p=12∧t8 T [.ref b,.ref r] H Q E0)∨(p=13∧qW T [.ref b,.ref r] H Q E0)∨(p=14∧ud T [.ref b,.ref r] H Q E0)∨(p=15∧Cr T [.ref b,.ref r] H Q E0)∨(p=16∧zj T [.ref b,.ref r] H Q E0))
theorem sy (T:Tx K mg):dM P w base T.i6 4 (sB T):=by
 refine T.i6.okA kg ?_
 rintro _ A _ s H _ Q E hr ⟨b,r,p,rfl,k⟩
 refine⟨_,(ac (aZ 3 kg.nd (lT (Jy T.bL) (pv 1)))
   (ae (aj (oT (i:=3) (j1 T) rfl (Or.inl rfl) (sv T hr) (ab (pv 0) (ab (pv 2) ad)))))),?_⟩
 rcases k with⟨rfl,k⟩ | ⟨rfl,k⟩ | ⟨rfl,k⟩ | ⟨rfl,k⟩ | ⟨rfl,k⟩ | ⟨rfl,k⟩
 ·exact fg _ rfl T.bL.a _ _ _ rfl (T.bL.gd _ _) rfl rfl _ _ rfl (.inl ⟨rfl,rfl⟩) (bB _ rfl _ rfl k)
 ·exact fg _ rfl T.bL.a _ _ _ rfl (T.bL.gd _ _) rfl rfl _ _ rfl (.inr (.inl ⟨rfl,rfl⟩)) (bB _ rfl _ rfl k)
 ·exact fg _ rfl T.bL.a _ _ _ rfl (T.bL.gd _ _) rfl rfl _ _ rfl (.inr (.inr (.inl ⟨rfl,rfl⟩))) (bB _ rfl _ rfl k)
 ·exact fg _ rfl T.bL.a _ _ _ rfl (T.bL.gd _ _) rfl rfl _ _ rfl (.inr (.inr (.inr (.inl ⟨rfl,rfl⟩)))) (bB _ rfl _ rfl k)
 ·exact fg _ rfl T.bL.a _ _ _ rfl (T.bL.gd _ _) rfl rfl _ _ rfl (.inr (.inr (.inr (.inr (.inl ⟨rfl,rfl⟩))))) (bB _ rfl _ rfl k)
 ·exact fg _ rfl T.bL.a _ _ _ rfl (T.bL.gd _ _) rfl rfl _ _ rfl (.inr (.inr (.inr (.inr (.inr (⟨rfl,rfl⟩)))))) (bB _ rfl _ rfl k)
def i9 (T:Tx K mg):Addr→Sp→Prop:=fun f sp=>(f=T.wP.f∧sp=zo T)∨(f=T.CV.f∧sp=Ct T)∨(f=T.wO.f∧sp=zm T)∨(f=T.wQ.f∧sp=zp T)∨(f=T.wI.f∧sp=zd T)∨(f=T.mX.f∧sp=ub T)∨(f=T.rB.f∧sp=wv T)∨(f=T.CS.f∧sp=Co T)∨(f=T.wL.f∧sp=zh T)∨(f=T.wK.f∧sp=zf T)∨(f=T.rq.f∧sp=wr T)
theorem oH {A:Around} (T:Tx K mg) (hr:eR 7 A):∀f sp,i9 T f sp→∃k fd ps,jV P w K mg base AV k f fd ps sp∧eR k A∧PySem.W.keepIn K (.ref f)=true∧i8 K fd ps []:=by
 rintro f sp (⟨rfl,rfl⟩ | ⟨rfl,rfl⟩ | ⟨rfl,rfl⟩ | ⟨rfl,rfl⟩ | ⟨rfl,rfl⟩ | ⟨rfl,rfl⟩ | ⟨rfl,rfl⟩ | ⟨rfl,rfl⟩ | ⟨rfl,rfl⟩ | ⟨rfl,rfl⟩ | ⟨rfl,rfl⟩)
 ·exact bW _ _ _ (Kk T) (hr.mono (by decide)) T.wP.F.kp T.wP.b
 ·exact bW _ _ _ (LH T) (hr.mono (by decide)) T.CV.F.kp T.CV.b
 ·exact bW _ _ _ (Kj T) (hr.mono (by decide)) T.wO.F.kp T.wO.b
 ·exact bW _ _ _ (Km T) (hr.mono (by decide)) T.wQ.F.kp T.wQ.b
 ·exact bW _ _ _ (J9 T) (hr.mono (by decide)) T.wI.F.kp T.wI.b
 ·exact bW _ _ _ (Ga T) (hr.mono (by decide)) T.mX.F.kp T.mX.b
 ·exact bW _ _ _ (HS T) (hr.mono (by decide)) T.rB.F.kp T.rB.b
 ·exact bW _ _ _ (LF T) (hr.mono (by decide)) T.CS.F.kp T.CS.b
 ·exact bW _ _ _ (Kg T) (hr.mono (by decide)) T.wL.F.kp T.wL.b
 ·exact bW _ _ _ (Kc T) (hr.mono (by decide)) T.wK.F.kp T.wK.b
 ·exact bW _ _ _ (HQ T) (hr.mono (by decide)) T.rq.F.kp T.rq.b
def pr (T:Tx K mg):Sp:=fun vs H Q _=>∃(b r:Addr) (p:Int),vs= [.ref b,.int p,.ref r]∧((p=0∧zo T [.ref b,.ref r] H Q E0)∨(p=1∧Ct T [.ref b,.ref r] H Q E0)∨(p=2∧zm T [.ref b,.ref r] H Q E0)∨(p=3∧zp T [.ref b,.ref r] H Q E0)∨(p=4∧zd T [.ref b,.ref r] H Q E0)∨(p=5∧ub T [.ref b,.ref r] H Q E0)∨(p=6∧wv T [.ref b,.ref r] H Q E0)∨(p=7∧Co T [.ref b,.ref r] H Q E0)∨(p=8∧zh T [.ref b,.ref r] H Q E0)∨(p=9∧zf T [.ref b,.ref r] H Q E0)∨(p=10∧wr T [.ref b,.ref r] H Q E0))
theorem oQ (T:Tx K mg):dM P w base T.gP 8 (pr T):=by
 refine T.gP.okA jf ?_
 rintro _ A _ s H _ Q E hr ⟨b,r,p,rfl,k⟩
 refine⟨_,(ac (aZ 3 jf.nd (lT (Jy T.aO) (pv 1)))
   (ae (aj (oT (i:=3) (i9 T) rfl (Or.inl rfl) (oH T hr) (ab (pv 0) (ab (pv 2) ad)))))),?_⟩
 rcases k with⟨rfl,k⟩ | ⟨rfl,k⟩ | ⟨rfl,k⟩ | ⟨rfl,k⟩ | ⟨rfl,k⟩ | ⟨rfl,k⟩ | ⟨rfl,k⟩ | ⟨rfl,k⟩ | ⟨rfl,k⟩ | ⟨rfl,k⟩ | ⟨rfl,k⟩
 ·exact fg _ rfl T.aO.a _ _ _ rfl (T.aO.gd _ _) rfl rfl _ _ rfl (.inl ⟨rfl,rfl⟩) (bB _ rfl _ rfl k)
 ·exact fg _ rfl T.aO.a _ _ _ rfl (T.aO.gd _ _) rfl rfl _ _ rfl (.inr (.inl ⟨rfl,rfl⟩)) (bB _ rfl _ rfl k)
 ·exact fg _ rfl T.aO.a _ _ _ rfl (T.aO.gd _ _) rfl rfl _ _ rfl (.inr (.inr (.inl ⟨rfl,rfl⟩))) (bB _ rfl _ rfl k)
 ·exact fg _ rfl T.aO.a _ _ _ rfl (T.aO.gd _ _) rfl rfl _ _ rfl (.inr (.inr (.inr (.inl ⟨rfl,rfl⟩)))) (bB _ rfl _ rfl k)
 ·exact fg _ rfl T.aO.a _ _ _ rfl (T.aO.gd _ _) rfl rfl _ _ rfl (.inr (.inr (.inr (.inr (.inl ⟨rfl,rfl⟩))))) (bB _ rfl _ rfl k)
 ·exact fg _ rfl T.aO.a _ _ _ rfl (T.aO.gd _ _) rfl rfl _ _ rfl (.inr (.inr (.inr (.inr (.inr (.inl ⟨rfl,rfl⟩)))))) (bB _ rfl _ rfl k)
 ·exact fg _ rfl T.aO.a _ _ _ rfl (T.aO.gd _ _) rfl rfl _ _ rfl (.inr (.inr (.inr (.inr (.inr (.inr (.inl ⟨rfl,rfl⟩))))))) (bB _ rfl _ rfl k)
 ·exact fg _ rfl T.aO.a _ _ _ rfl (T.aO.gd _ _) rfl rfl _ _ rfl (.inr (.inr (.inr (.inr (.inr (.inr (.inr (.inl ⟨rfl,rfl⟩)))))))) (bB _ rfl _ rfl k)
 ·exact fg _ rfl T.aO.a _ _ _ rfl (T.aO.gd _ _) rfl rfl _ _ rfl (.inr (.inr (.inr (.inr (.inr (.inr (.inr (.inr (.inl ⟨rfl,rfl⟩))))))))) (bB _ rfl _ rfl k)
 ·exact fg _ rfl T.aO.a _ _ _ rfl (T.aO.gd _ _) rfl rfl _ _ rfl (.inr (.inr (.inr (.inr (.inr (.inr (.inr (.inr (.inr (.inl ⟨rfl,rfl⟩)))))))))) (bB _ rfl _ rfl k)
 ·exact fg _ rfl T.aO.a _ _ _ rfl (T.aO.gd _ _) rfl rfl _ _ rfl (.inr (.inr (.inr (.inr (.inr (.inr (.inr (.inr (.inr (.inr (⟨rfl,rfl⟩))))))))))) (bB _ rfl _ rfl k)
def jq (T:Tx K mg):Addr→Sp→Prop:=fun f sp=>(f=T.mU.f∧sp=t9 T)∨(f=T.mV.f∧sp=ua T)∨(f=T.wR.f∧sp=zr T)∨(f=T.rc.f∧sp=wj T)∨(f=T.wJ.f∧sp=ze T)
theorem pW {A:Around} (T:Tx K mg) (hr:eR 11 A):∀f sp,jq T f sp→∃k fd ps,jV P w K mg base AV k f fd ps sp∧eR k A∧PySem.W.keepIn K (.ref f)=true∧i8 K fd ps []:=by
 rintro f sp (⟨rfl,rfl⟩ | ⟨rfl,rfl⟩ | ⟨rfl,rfl⟩ | ⟨rfl,rfl⟩ | ⟨rfl,rfl⟩)
 ·exact bW _ _ _ (F8 T) (hr.mono (by decide)) T.mU.F.kp T.mU.b
 ·exact bW _ _ _ (F9 T) (hr.mono (by decide)) T.mV.F.kp T.mV.b
 ·exact bW _ _ _ (Kn T) (hr.mono (by decide)) T.wR.F.kp T.wR.b
 ·exact bW _ _ _ (HN T) (hr.mono (by decide)) T.rc.F.kp T.rc.b
 ·exact bW _ _ _ (Ka T) (hr.mono (by decide)) T.wJ.F.kp T.wJ.b
def qS (T:Tx K mg):Sp:=fun vs H Q _=>∃(b r:Addr) (p:Int),vs= [.ref b,.int p,.ref r]∧((p=17∧t9 T [.ref b,.ref r] H Q E0)∨(p=18∧ua T [.ref b,.ref r] H Q E0)∨(p=19∧zr T [.ref b,.ref r] H Q E0)∨(p=27∧wj T [.ref b,.ref r] H Q E0)∨(p=28∧ze T [.ref b,.ref r] H Q E0))
theorem ql (T:Tx K mg):dM P w base T.ir 12 (qS T):=by
 refine T.ir.okA jG ?_
 rintro _ A _ s H _ Q E hr ⟨b,r,p,rfl,k⟩
 refine⟨_,(ac (aZ 3 jG.nd (lT (Jy T.bQ) (pv 1)))
   (ae (aj (oT (i:=3) (jq T) rfl (Or.inl rfl) (pW T hr) (ab (pv 0) (ab (pv 2) ad)))))),?_⟩
 rcases k with⟨rfl,k⟩ | ⟨rfl,k⟩ | ⟨rfl,k⟩ | ⟨rfl,k⟩ | ⟨rfl,k⟩
 ·exact fg _ rfl T.bQ.a _ _ _ rfl (T.bQ.gd _ _) rfl rfl _ _ rfl (.inl ⟨rfl,rfl⟩) (bB _ rfl _ rfl k)
 ·exact fg _ rfl T.bQ.a _ _ _ rfl (T.bQ.gd _ _) rfl rfl _ _ rfl (.inr (.inl ⟨rfl,rfl⟩)) (bB _ rfl _ rfl k)
 ·exact fg _ rfl T.bQ.a _ _ _ rfl (T.bQ.gd _ _) rfl rfl _ _ rfl (.inr (.inr (.inl ⟨rfl,rfl⟩))) (bB _ rfl _ rfl k)
 ·exact fg _ rfl T.bQ.a _ _ _ rfl (T.bQ.gd _ _) rfl rfl _ _ rfl (.inr (.inr (.inr (.inl ⟨rfl,rfl⟩)))) (bB _ rfl _ rfl k)
 ·exact fg _ rfl T.bQ.a _ _ _ rfl (T.bQ.gd _ _) rfl rfl _ _ rfl (.inr (.inr (.inr (.inr (⟨rfl,rfl⟩))))) (bB _ rfl _ rfl k)
def jr (T:Tx K mg):Addr→Sp→Prop:=fun f sp=>(f=T.uV.f∧sp=wu T)∨(f=T.zD.f∧sp=zg T)∨(f=T.uR.f∧sp=wm T)∨(f=T.pL.f∧sp=ue T)∨(f=T.ma.f∧sp=qV T)∨(f=T.uP.f∧sp=wf T)∨(f=T.zE.f∧sp=zi T)
theorem pX {A:Around} (T:Tx K mg) (hr:eR 8 A):∀f sp,jr T f sp→∃k fd ps,jV P w K mg base AV k f fd ps sp∧eR k A∧PySem.W.keepIn K (.ref f)=true∧i8 K fd ps []:=by
 rintro f sp (⟨rfl,rfl⟩ | ⟨rfl,rfl⟩ | ⟨rfl,rfl⟩ | ⟨rfl,rfl⟩ | ⟨rfl,rfl⟩ | ⟨rfl,rfl⟩ | ⟨rfl,rfl⟩)
 ·exact bW _ _ _ (HR T) (hr.mono (by decide)) T.uV.F.kp T.uV.b
 ·exact bW _ _ _ (Kf T) (hr.mono (by decide)) T.zD.F.kp T.zD.b
 ·exact bW _ _ _ (HP T) (hr.mono (by decide)) T.uR.F.kp T.uR.b
 ·exact bW _ _ _ (Gd T) (hr.mono (by decide)) T.pL.F.kp T.pL.b
 ·exact bW _ _ _ (EK T) (hr.mono (by decide)) T.ma.F.kp T.ma.b
 ·exact bW _ _ _ (HM T) (hr.mono (by decide)) T.uP.F.kp T.uP.b
 ·exact bW _ _ _ (Kh T) (hr.mono (by decide)) T.zE.F.kp T.zE.b
def qT (T:Tx K mg):Sp:=fun vs H Q _=>∃(b r:Addr) (p:Int),vs= [.ref b,.int p,.ref r]∧((p=20∧wu T [.ref b,.ref r] H Q E0)∨(p=21∧zg T [.ref b,.ref r] H Q E0)∨(p=22∧wm T [.ref b,.ref r] H Q E0)∨(p=23∧ue T [.ref b,.ref r] H Q E0)∨(p=24∧qV T [.ref b,.ref r] H Q E0)∨(p=25∧wf T [.ref b,.ref r] H Q E0)∨(p=26∧zi T [.ref b,.ref r] H Q E0))
theorem qo (T:Tx K mg):dM P w base T.iu 9 (qT T):=by
 refine T.iu.okA jH ?_
 rintro _ A _ s H _ Q E hr ⟨b,r,p,rfl,k⟩
 refine⟨_,(ac (aZ 3 jH.nd (lT (Jy T.bG) (pv 1)))
   (ae (aj (oT (i:=3) (jr T) rfl (Or.inl rfl) (pX T hr) (ab (pv 0) (ab (pv 2) ad)))))),?_⟩
 rcases k with⟨rfl,k⟩ | ⟨rfl,k⟩ | ⟨rfl,k⟩ | ⟨rfl,k⟩ | ⟨rfl,k⟩ | ⟨rfl,k⟩ | ⟨rfl,k⟩
 ·exact fg _ rfl T.bG.a _ _ _ rfl (T.bG.gd _ _) rfl rfl _ _ rfl (.inl ⟨rfl,rfl⟩) (bB _ rfl _ rfl k)
 ·exact fg _ rfl T.bG.a _ _ _ rfl (T.bG.gd _ _) rfl rfl _ _ rfl (.inr (.inl ⟨rfl,rfl⟩)) (bB _ rfl _ rfl k)
 ·exact fg _ rfl T.bG.a _ _ _ rfl (T.bG.gd _ _) rfl rfl _ _ rfl (.inr (.inr (.inl ⟨rfl,rfl⟩))) (bB _ rfl _ rfl k)
 ·exact fg _ rfl T.bG.a _ _ _ rfl (T.bG.gd _ _) rfl rfl _ _ rfl (.inr (.inr (.inr (.inl ⟨rfl,rfl⟩)))) (bB _ rfl _ rfl k)
 ·exact fg _ rfl T.bG.a _ _ _ rfl (T.bG.gd _ _) rfl rfl _ _ rfl (.inr (.inr (.inr (.inr (.inl ⟨rfl,rfl⟩))))) (bB _ rfl _ rfl k)
 ·exact fg _ rfl T.bG.a _ _ _ rfl (T.bG.gd _ _) rfl rfl _ _ rfl (.inr (.inr (.inr (.inr (.inr (.inl ⟨rfl,rfl⟩)))))) (bB _ rfl _ rfl k)
 ·exact fg _ rfl T.bG.a _ _ _ rfl (T.bG.gd _ _) rfl rfl _ _ rfl (.inr (.inr (.inr (.inr (.inr (.inr (⟨rfl,rfl⟩))))))) (bB _ rfl _ rfl k)
def u9 (T:Tx K mg):Sp:=fun vs H Q _=>∃(p:Int),vs= [.int p]∧Q (.bl (Ds [(0,.ref T.wP.f),(1,.ref T.CV.f),(2,.ref T.wO.f),(3,.ref T.wQ.f),(4,.ref T.wI.f),(5,.ref T.mX.f),(6,.ref T.rB.f),(7,.ref T.CS.f),(8,.ref T.wL.f),(9,.ref T.wK.f),(10,.ref T.rq.f)] p).isSome) H
theorem uX (T:Tx K mg):dM P w base T.kN 1 (u9 T):=by
 refine T.kN.okA u0 ?_
 rintro _ A _ s H _ Q E hr ⟨p,rfl,k⟩
 refine⟨_,(ae (aj (HV (pv 0) (Jy T.aO)))),?_⟩
 exact cM _ rfl T.aO.a _ p rfl (T.aO.gd _ _) rfl k
def xX (T:Tx K mg):Sp:=fun vs H Q _=>∃(p:Int),vs= [.int p]∧Q (.bl (Ds [(11,.ref T.rC.f),(12,.ref T.mT.f),(13,.ref T.kR.f),(14,.ref T.mY.f),(15,.ref T.CU.f),(16,.ref T.wM.f)] p).isSome) H
theorem xj (T:Tx K mg):dM P w base T.mW 1 (xX T):=by
 refine T.mW.okA xM ?_
 rintro _ A _ s H _ Q E hr ⟨p,rfl,k⟩
 refine⟨_,(ae (aj (HV (pv 0) (Jy T.bL)))),?_⟩
 exact cM _ rfl T.bL.a _ p rfl (T.bL.gd _ _) rfl k
def wo (T:Tx K mg):Sp:=fun vs H Q _=>∃(p:Int),vs= [.int p]∧Q (.bl (Ds [(17,.ref T.mU.f),(18,.ref T.mV.f),(19,.ref T.wR.f),(27,.ref T.rc.f),(28,.ref T.wJ.f)] p).isSome) H
theorem vS (T:Tx K mg):dM P w base T.lI 1 (wo T):=by
 refine T.lI.okA v9 ?_
 rintro _ A _ s H _ Q E hr ⟨p,rfl,k⟩
 refine⟨_,(ae (aj (HV (pv 0) (Jy T.bQ)))),?_⟩
 exact cM _ rfl T.bQ.a _ p rfl (T.bQ.gd _ _) rfl k
inductive Cs:Nat→List Int→List (List Int)→Prop
 | c0 (a b:Int):Cs 0 [a,b] []
 | c1 (a:Int):Cs 1 [a] []
 | c2 (a b:Int):Cs 2 [a,b] []
 | c3 (a b:Int):Cs 3 [a,b] []
 | c4 (a b:Int):Cs 4 [a,b] []
 | c5 (a b:Int):Cs 5 [a,b] []
 | c6 (a:Int):Cs 6 [a] []
 | c7 (a b:Int):Cs 7 [a,b] []
 | c8 (a b:Int):Cs 8 [a,b] []
 | c9 (a b:Int):Cs 9 [a,b] []
 | c10 (a b c:Int):Cs 10 [a,b,c] []
 | c11 (a b c:Int):Cs 11 [a,b,c] []
 | c12 (a:Int) (u:List Int):Cs 12 [a] [u]
 | c13 (a b:Int):Cs 13 [a,b] []
 | c14 (a b c:Int):Cs 14 [a,b,c] []
 | c15 (a:Int) (u:List Int):Cs 15 [a] [u]
 | c16 (a b:Int) (u:List Int):Cs 16 [a,b] [u]
 | c17 (a b:Int) (u v:List Int):Cs 17 [a,b] [u,v]
 | c18 (a:Int):Cs 18 [a] []
 | c19 (a:Int):Cs 19 [a] []
 | c20 (a b:Int):Cs 20 [a,b] []
 | c21 (a b:Int):Cs 21 [a,b] []
 | c22 (a b c:Int):Cs 22 [a,b,c] []
 | c23 (a:Int):Cs 23 [a] []
 | c24 (a:Int):Cs 24 [a] []
 | c25 (a b c d:Int):Cs 25 [a,b,c,d] []
 | c26 (a b c d:Int):Cs 26 [a,b,c,d] []
 | c27 (a b c d e:Int):Cs 27 [a,b,c,d,e] []
 | c28 (a b c d e f:Int):Cs 28 [a,b,c,d,e,f] []
theorem Qv:∀(p:Nat) (cl:List Int) (xs:List (List Int)),p≤28→PyVbdeab.shape (p:Int)=some (cl.length,xs.length)→Cs p cl xs
 | 0,[_,_],[],_,_=> .c0 _ _
 | 1,[_],[],_,_=> .c1 _
 | 2,[_,_],[],_,_=> .c2 _ _
 | 3,[_,_],[],_,_=> .c3 _ _
 | 4,[_,_],[],_,_=> .c4 _ _
 | 5,[_,_],[],_,_=> .c5 _ _
 | 6,[_],[],_,_=> .c6 _
 | 7,[_,_],[],_,_=> .c7 _ _
 | 8,[_,_],[],_,_=> .c8 _ _
 | 9,[_,_],[],_,_=> .c9 _ _
 | 10,[_,_,_],[],_,_=> .c10 _ _ _
 | 11,[_,_,_],[],_,_=> .c11 _ _ _
 | 12,[_],[_],_,_=> .c12 _ _
 | 13,[_,_],[],_,_=> .c13 _ _
 | 14,[_,_,_],[],_,_=> .c14 _ _ _
 | 15,[_],[_],_,_=> .c15 _ _
 | 16,[_,_],[_],_,_=> .c16 _ _ _
 | 17,[_,_],[_,_],_,_=> .c17 _ _ _ _
 | 18,[_],[],_,_=> .c18 _
 | 19,[_],[],_,_=> .c19 _
 | 20,[_,_],[],_,_=> .c20 _ _
 | 21,[_,_],[],_,_=> .c21 _ _
 | 22,[_,_,_],[],_,_=> .c22 _ _ _
 | 23,[_],[],_,_=> .c23 _
 | 24,[_],[],_,_=> .c24 _
 | 25,[_,_,_,_],[],_,_=> .c25 _ _ _ _
 | 26,[_,_,_,_],[],_,_=> .c26 _ _ _ _
 | 27,[_,_,_,_,_],[],_,_=> .c27 _ _ _ _ _
 | 28,[_,_,_,_,_,_],[],_,_=> .c28 _ _ _ _ _ _
theorem yu {ns l:List Int} {i:Nat} {z:Int} (h:ns.drop i=l) (hz:z∈l):z∈ns:=List.mem_of_mem_drop (by rw [h];exact hz)
theorem Oa {ns:List Int} {i:Nat} {a b c:Int} {wa rest:List Int} (hl:ns.length≤7500) (h:ns.drop i=a::b::c::(wa++rest)):wa.length≤7500:=by
 have:=cx List.length h
 simp only [CM,d5,bX] at this
 omega
theorem kx {H H1:Hp} {A:Hp→List Addr→Nat→Prop} {B:Nat→Prop} {C D:Hp→Addr→Prop} (ki:KI H H1) (kk:∀H' q as' pos',A H' as' pos'→B pos'→C H' q→KI H H'→NF H q→D H' q):∀H' q as' pos',A H' as' pos'→B pos'→C H' q→KI H1 H'→NF H1 q→D H' q:=
 fun H2 p as2 pos2 w2 d2 e2 k2 n2=>kk H2 p as2 pos2 w2 d2 e2 (ki.trans k2) fun x xs q=>n2 x xs (ki x xs q)
def zb (T:Tx K mg):Sp:=fun vs H Q _=>∃(G:Gh) (b r l a:Addr) (as:List Addr) (S:State) (ns:List Int) (pos:Nat) (p:Nat) (cl:List Int) (xs:List (List Int)) (rest:List Int),vs= [.ref b,.ref r]∧Wd G T H b r l a as S ns pos∧ns.drop pos=(p:Int)::(cl++PyFlat.putRows xs++rest)∧PyVbdeab.shape (p:Int)=some (cl.length,xs.length)∧p≤28∧j2 ns∧ns.length≤7500∧
 ∀(H':Hp) (q:Addr) (as':List Addr) (pos':Nat),Wd G T H' b r l a as' (does S (((p:Int)::cl)::xs)).1 ns pos'→ns.drop pos'=rest→H' q=some (.lst ((does S (((p:Int)::cl)::xs)).2.map V.int))→KI H H'→NF H q→Q (.ref q) H'
theorem yA (T:Tx K mg):dM P w base T.oA 13 (zb T):=by
 refine T.oA.okA ph ?_
 rintro _ A _ s H _ Q E hr ⟨G,b,r,l,a,as,S,ns,pos,p,cl,xs,rest,rfl,W,hd,hsh,hp28,hsm,hln,kk⟩
 refine⟨_,(ac (aZ 2 ph.nd (eJ (pv 1) T.au (ah T) hr))
   (ac (aT (aS (bi T.kN (uX T) hr (ab (pv 2) ad))) (ae (aj (bi T.gP (oQ T) hr (ab (pv 0) (ab (pv 2) (ab (pv 1) ad)))))) aG)
   (ac (aT (aS (bi T.mW (xj T) hr (ab (pv 2) ad))) (ae (aj (bi T.i6 (sy T) hr (ab (pv 0) (ab (pv 2) (ab (pv 1) ad)))))) aG)
   (ac (aT (aS (bi T.lI (vS T) hr (ab (pv 2) ad))) (ae (aj (bi T.ir (ql T) hr (ab (pv 0) (ab (pv 2) (ab (pv 1) ad)))))) aG)
   (ae (aj (bi T.iu (qo T) hr (ab (pv 0) (ab (pv 2) (ab (pv 1) ad)))))))))),?_⟩
 obtain⟨g1,hd1⟩:=k6 hd
 obtain⟨dr,hr0⟩:=id W.rd
 refine cM _ rfl r dr _ rfl hr0 rfl ⟨r,(jY a pos ns _ rfl ⟨dr,hr0⟩ W.sq g1 fun H1 hr1 kp1=> ?_)⟩
 have W1:=W.reader hr1 kp1
 have ki1:=KI.keep1 kp1 hr0
 have cz:=Qv p cl xs hp28 hsh
 clear hd hsh hp28
 cases cz with
 | c0 k x=>
  have hd1:ns.drop (pos+1)=k::x::rest:=by rw [hd1];rfl
  exact bc _ rfl 0 rfl _ rfl (iW _ rfl _ rfl _ rfl b r 0 rfl (.inl ⟨rfl,(ij G b r l a as S ns _ (.seed k x) rest rfl W1 (cI k x hd1 rfl) (kx ki1 kk))⟩))
 | c1 k=>
  have hd1:ns.drop (pos+1)=k::rest:=by rw [hd1];rfl
  exact bc _ rfl 1 rfl _ rfl (iW _ rfl _ rfl _ rfl b r 1 rfl (.inr (.inl ⟨rfl,(ij G b r l a as S ns _ (.raw k) rest rfl W1 ⟨k,hd1,rfl⟩ (kx ki1 kk))⟩)))
 | c2 k n=>
  have hd1:ns.drop (pos+1)=k::n::rest:=by rw [hd1];rfl
  exact bc _ rfl 2 rfl _ rfl (iW _ rfl _ rfl _ rfl b r 2 rfl (.inr (.inr (.inl ⟨rfl,(ij G b r l a as S ns _ (.raws k n) rest rfl W1 (cI k n hd1 rfl) (kx ki1 kk))⟩))))
 | c3 k n=>
  have hd1:ns.drop (pos+1)=k::n::rest:=by rw [hd1];rfl
  exact bc _ rfl 3 rfl _ rfl (iW _ rfl _ rfl _ rfl b r 3 rfl (.inr (.inr (.inr (.inl ⟨rfl,(ij G b r l a as S ns _ (.skip k n) rest rfl W1 (cI k n hd1 rfl) (kx ki1 kk))⟩)))))
 | c4 k n=>
  have hd1:ns.drop (pos+1)=k::n::rest:=by rw [hd1];rfl
  exact bc _ rfl 4 rfl _ rfl (iW _ rfl _ rfl _ rfl b r 4 rfl (.inr (.inr (.inr (.inr (.inl ⟨rfl,(ij G b r l a as S ns _ (.back k n) rest rfl W1 (cI k n hd1 rfl) (kx ki1 kk))⟩))))))
 | c5 k n=>
  have hd1:ns.drop (pos+1)=k::n::rest:=by rw [hd1];rfl
  exact bc _ rfl 5 rfl _ rfl (iW _ rfl _ rfl _ rfl b r 5 rfl (.inr (.inr (.inr (.inr (.inr (.inl ⟨rfl,(ij G b r l a as S ns _ (.mirror k n) rest rfl W1 (cI k n hd1 rfl) (kx ki1 kk))⟩)))))))
 | c6 k=>
  have hd1:ns.drop (pos+1)=k::rest:=by rw [hd1];rfl
  exact bc _ rfl 6 rfl _ rfl (iW _ rfl _ rfl _ rfl b r 6 rfl (.inr (.inr (.inr (.inr (.inr (.inr (.inl ⟨rfl,(ij G b r l a as S ns _ (.where_ k) rest rfl W1 ⟨k,hd1,rfl⟩ (kx ki1 kk))⟩))))))))
 | c7 x y=>
  have hd1:ns.drop (pos+1)=x::y::rest:=by rw [hd1];rfl
  exact bc _ rfl 7 rfl _ rfl (iW _ rfl _ rfl _ rfl b r 7 rfl (.inr (.inr (.inr (.inr (.inr (.inr (.inr (.inl ⟨rfl,(ij G b r l a as S ns _ (.far x y) rest rfl W1 (cI x y hd1 rfl) (kx ki1 kk))⟩)))))))))
 | c8 k y=>
  have hd1:ns.drop (pos+1)=k::y::rest:=by rw [hd1];rfl
  exact bc _ rfl 8 rfl _ rfl (iW _ rfl _ rfl _ rfl b r 8 rfl (.inr (.inr (.inr (.inr (.inr (.inr (.inr (.inr (.inl ⟨rfl,(ij G b r l a as S ns _ (.goto k y) rest rfl W1 (cI k y hd1 rfl) (kx ki1 kk))⟩))))))))))
 | c9 k j=>
  have hd1:ns.drop (pos+1)=k::j::rest:=by rw [hd1];rfl
  exact bc _ rfl 9 rfl _ rfl (iW _ rfl _ rfl _ rfl b r 9 rfl (.inr (.inr (.inr (.inr (.inr (.inr (.inr (.inr (.inr (.inl ⟨rfl,(ij G b r l a as S ns _ (.copy k j) rest rfl W1 (cI k j hd1 rfl) (kx ki1 kk))⟩)))))))))))
 | c10 k n g=>
  have hd1:ns.drop (pos+1)=k::n::g::rest:=by rw [hd1];rfl
  exact bc _ rfl 10 rfl _ rfl (iW _ rfl _ rfl _ rfl b r 10 rfl (.inr (.inr (.inr (.inr (.inr (.inr (.inr (.inr (.inr (.inr (⟨rfl,(ij G b r l a as S ns _ (.space k n g) rest rfl W1 ⟨k,(cI n g hd1 rfl)⟩ (kx ki1 kk))⟩))))))))))))
 | c11 k u v=>
  have hd1:ns.drop (pos+1)=k::u::v::rest:=by rw [hd1];rfl
  exact bc _ rfl 11 rfl _ rfl (bc _ rfl 11 rfl _ rfl (iW _ rfl _ rfl _ rfl b r 11 rfl (.inl ⟨rfl,(ij G b r l a as S ns _ (.whole k u v) rest rfl W1 ⟨k,(cI u v hd1 rfl)⟩ (kx ki1 kk))⟩)))
 | c12 k ws=>
  have hd1:ns.drop (pos+1)=k::(ws.length:Int)::(ws++rest):=by rw [hd1];simp [PyFlat.putRows,PyFlat.putRow]
  exact bc _ rfl 12 rfl _ rfl (bc _ rfl 12 rfl _ rfl (iW _ rfl _ rfl _ rfl b r 12 rfl (.inr (.inl ⟨rfl,(ij G b r l a as S ns _ (.choose k ws) rest rfl W1 (hJ k ws.length ws hd1 rfl rfl) (kx ki1 kk))⟩))))
 | c13 k n=>
  have hd1:ns.drop (pos+1)=k::n::rest:=by rw [hd1];rfl
  exact bc _ rfl 13 rfl _ rfl (bc _ rfl 13 rfl _ rfl (iW _ rfl _ rfl _ rfl b r 13 rfl (.inr (.inr (.inl ⟨rfl,(ij G b r l a as S ns _ (.shuffle k n) rest rfl W1 (cI k n hd1 rfl) (kx ki1 kk))⟩)))))
 | c14 k n m=>
  have hd1:ns.drop (pos+1)=k::n::m::rest:=by rw [hd1];rfl
  exact bc _ rfl 14 rfl _ rfl (bc _ rfl 14 rfl _ rfl (iW _ rfl _ rfl _ rfl b r 14 rfl (.inr (.inr (.inr (.inl ⟨rfl,(ij G b r l a as S ns _ (.sample k n m) rest rfl W1 ⟨k,(cI n m hd1 rfl)⟩ (kx ki1 kk))⟩))))))
 | c15 k ws=>
  have hd1:ns.drop (pos+1)=k::(ws.length:Int)::(ws++rest):=by rw [hd1];simp [PyFlat.putRows,PyFlat.putRow]
  exact bc _ rfl 15 rfl _ rfl (bc _ rfl 15 rfl _ rfl (iW _ rfl _ rfl _ rfl b r 15 rfl (.inr (.inr (.inr (.inr (.inl ⟨rfl,(ij G b r l a as S ns _ (.mix k ws) rest rfl W1 (hJ k ws.length ws hd1 rfl rfl) (kx ki1 kk))⟩)))))))
 | c16 k m ws=>
  have hd1:ns.drop (pos+1)=k::m::(ws.length:Int)::(ws++rest):=by rw [hd1];simp [PyFlat.putRows,PyFlat.putRow]
  exact bc _ rfl 16 rfl _ rfl (bc _ rfl 16 rfl _ rfl (iW _ rfl _ rfl _ rfl b r 16 rfl (.inr (.inr (.inr (.inr (.inr (⟨rfl,(ij G b r l a as S ns _ (.lots k m ws) rest rfl W1 ⟨k,(hJ m ws.length ws hd1 rfl rfl)⟩ (kx ki1 kk))⟩))))))))
 | c17 d kind wa wb=>
  have hd1:ns.drop (pos+1)=d::kind::(wa.length:Int)::(wa++((wb.length:Int)::(wb++rest))):=by rw [hd1];simp [PyFlat.putRows,PyFlat.putRow]
  exact bc _ rfl 17 rfl _ rfl (bc _ rfl 17 rfl _ rfl (bc _ rfl 17 rfl _ rfl (iW _ rfl _ rfl _ rfl b r 17 rfl (.inl ⟨rfl,(ij G b r l a as S ns _ (.define d kind wa wb) rest rfl W1 (jp d kind wa.length wa wb.length wb hd1 rfl rfl rfl (fun z hz=>hsm z (yu hd1 (by simp [hz]))) (fun z hz=>hsm z (yu hd1 (by simp [hz]))) (Oa hln hd1)) (kx ki1 kk))⟩))))
 | c18 d=>
  have hd1:ns.drop (pos+1)=d::rest:=by rw [hd1];rfl
  exact bc _ rfl 18 rfl _ rfl (bc _ rfl 18 rfl _ rfl (bc _ rfl 18 rfl _ rfl (iW _ rfl _ rfl _ rfl b r 18 rfl (.inr (.inl ⟨rfl,(ij G b r l a as S ns _ (.forget d) rest rfl W1 ⟨d,hd1,rfl⟩ (kx ki1 kk))⟩)))))
 | c19 d=>
  have hd1:ns.drop (pos+1)=d::rest:=by rw [hd1];rfl
  exact bc _ rfl 19 rfl _ rfl (bc _ rfl 19 rfl _ rfl (bc _ rfl 19 rfl _ rfl (iW _ rfl _ rfl _ rfl b r 19 rfl (.inr (.inr (.inl ⟨rfl,(ij G b r l a as S ns _ (.told d) rest rfl W1 ⟨d,hd1,rfl⟩ (kx ki1 kk))⟩))))))
 | c20 d u=>
  have hd1:ns.drop (pos+1)=d::u::rest:=by rw [hd1];rfl
  exact bc _ rfl 20 rfl _ rfl (bc _ rfl 20 rfl _ rfl (bc _ rfl 20 rfl _ rfl (iW _ rfl _ rfl _ rfl b r 20 rfl (.inl ⟨rfl,(ij G b r l a as S ns _ (.value d u) rest rfl W1 (cI d u hd1 rfl) (kx ki1 kk))⟩))))
 | c21 d k=>
  have hd1:ns.drop (pos+1)=d::k::rest:=by rw [hd1];rfl
  exact bc _ rfl 21 rfl _ rfl (bc _ rfl 21 rfl _ rfl (bc _ rfl 21 rfl _ rfl (iW _ rfl _ rfl _ rfl b r 21 rfl (.inr (.inl ⟨rfl,(ij G b r l a as S ns _ (.draw d k) rest rfl W1 (cI d k hd1 rfl) (kx ki1 kk))⟩)))))
 | c22 d k n=>
  have hd1:ns.drop (pos+1)=d::k::n::rest:=by rw [hd1];rfl
  exact bc _ rfl 22 rfl _ rfl (bc _ rfl 22 rfl _ rfl (bc _ rfl 22 rfl _ rfl (iW _ rfl _ rfl _ rfl b r 22 rfl (.inr (.inr (.inl ⟨rfl,(ij G b r l a as S ns _ (.draws d k n) rest rfl W1 ⟨d,(cI k n hd1 rfl)⟩ (kx ki1 kk))⟩))))))
 | c23 d=>
  have hd1:ns.drop (pos+1)=d::rest:=by rw [hd1];rfl
  exact bc _ rfl 23 rfl _ rfl (bc _ rfl 23 rfl _ rfl (bc _ rfl 23 rfl _ rfl (iW _ rfl _ rfl _ rfl b r 23 rfl (.inr (.inr (.inr (.inl ⟨rfl,(ij G b r l a as S ns _ (.shares d) rest rfl W1 ⟨d,hd1,rfl⟩ (kx ki1 kk))⟩)))))))
 | c24 d=>
  have hd1:ns.drop (pos+1)=d::rest:=by rw [hd1];rfl
  exact bc _ rfl 24 rfl _ rfl (bc _ rfl 24 rfl _ rfl (bc _ rfl 24 rfl _ rfl (iW _ rfl _ rfl _ rfl b r 24 rfl (.inr (.inr (.inr (.inr (.inl ⟨rfl,(ij G b r l a as S ns _ (.moments d) rest rfl W1 ⟨d,hd1,rfl⟩ (kx ki1 kk))⟩))))))))
 | c25 d p q t=>
  have hd1:ns.drop (pos+1)=d::p::q::t::rest:=by rw [hd1];rfl
  exact bc _ rfl 25 rfl _ rfl (bc _ rfl 25 rfl _ rfl (bc _ rfl 25 rfl _ rfl (iW _ rfl _ rfl _ rfl b r 25 rfl (.inr (.inr (.inr (.inr (.inr (.inl ⟨rfl,(ij G b r l a as S ns _ (.below d p q t) rest rfl W1 ⟨d,(hJ p q t hd1 rfl (hsm q (yu hd1 (by simp))))⟩ (kx ki1 kk))⟩)))))))))
 | c26 d p q t=>
  have hd1:ns.drop (pos+1)=d::p::q::t::rest:=by rw [hd1];rfl
  exact bc _ rfl 26 rfl _ rfl (bc _ rfl 26 rfl _ rfl (bc _ rfl 26 rfl _ rfl (iW _ rfl _ rfl _ rfl b r 26 rfl (.inr (.inr (.inr (.inr (.inr (.inr (⟨rfl,(ij G b r l a as S ns _ (.hits d p q t) rest rfl W1 ⟨d,(hJ p q t hd1 rfl (hsm q (yu hd1 (by simp))))⟩ (kx ki1 kk))⟩))))))))))
 | c27 d e f v w=>
  have hd1:ns.drop (pos+1)=d::e::f::v::w::rest:=by rw [hd1];rfl
  exact bc _ rfl 27 rfl _ rfl (bc _ rfl 27 rfl _ rfl (bc _ rfl 27 rfl _ rfl (iW _ rfl _ rfl _ rfl b r 27 rfl (.inr (.inr (.inr (.inl ⟨rfl,(ij G b r l a as S ns _ (.blend d e f v w) rest rfl W1 ⟨d,(ot e f (cI v w hd1 rfl))⟩ (kx ki1 kk))⟩)))))))
 | c28 d e p q t s=>
  have hd1:ns.drop (pos+1)=d::e::p::q::t::s::rest:=by rw [hd1];rfl
  exact bc _ rfl 28 rfl _ rfl (bc _ rfl 28 rfl _ rfl (bc _ rfl 28 rfl _ rfl (iW _ rfl _ rfl _ rfl b r 28 rfl (.inr (.inr (.inr (.inr (⟨rfl,(ij G b r l a as S ns _ (.bend d e p q t s) rest rfl W1 ⟨d,(ot e p (bW q t s hd1 rfl (hsm q (yu hd1 (by simp))) (hsm s (yu hd1 (by simp)))))⟩ (kx ki1 kk))⟩))))))))
theorem HK {α:Type} {l:List α} {y:α} (h:l.Nodup) (hy:y ∉ l):(l++ [y]).Nodup:=by
 rw [List.nodup_append]
 refine⟨h,by simp,fun a ha b hb=> ?_⟩
 rw [gN.mp hb]
 intro e
 rw [e] at ha
 exact hy ha
def Cf (T:Tx K mg):Sp:=fun vs H Q _=>∃(p dx:Addr),vs= [.ref p]∧H p=some (.ins T.aQ.C dx [])∧∀(H':Hp) (l l2:Addr) (as:List Addr),H' p=some (.ins T.aQ.C dx (PQ l l2))→H' l=some (.lst (as.map V.ref))→as.Nodup→as.length=64→(∀(j:Nat) (x:Addr),as[j]?=some x→bS T H' x ⟨j,j,0,false⟩)→H' l2=some (.lst (List.replicate 64 .non))→l≠l2→(∀b o,H b=some o→b≠p→H' b=some o)→Q .non H'
theorem BA (T:Tx K mg):sr mg P w base T.nZ 3 (Cf T):=by
 refine T.nZ.okA mE ?_
 rintro _ A _ s H _ Q E hr ⟨p,dx,rfl,hp,k⟩
 refine⟨_,(ac (cr (pv 0) (j4 (own:= [("k",1)]) rfl mE.nd (cq rfl T.di (ab (fh T.zF) ad)) (cf (N:= ["self","k"]) (sc:=ag oi) (by decide+kernel)) (fun _ _ _ _ _=>(kT 1 mE.nd)) (fun _ _ _ _ _=>dQ) (fun _ _ _ _ _=>(EO (T.aK.mk' T.fk) (gW T) (hr.mono (by decide)) rfl T.aK.mgC T.fk.b .nil zQ (ab (pv 1) ad)))) rfl)
   (ae (cr (pv 0) (aB LJ (aI (ab cY ad)) (fh T.Hm)) rfl))),?_⟩
 refine⟨64,(bZ rfl (by decide) (by decide) fun D hD=> ?_)⟩
 have npD:p≠D:=aw hp hD
 refine gx (n:=64) (fun i H'=>∃as:List Addr,H' D=some (.lst (as.map V.ref))∧as.Nodup∧as.length=i∧(∀(j:Nat) (x:Addr),as[j]?=some x→bS T H' x ⟨j,j,0,false⟩)∧aC H H') ?_ ?_ ?_
 ·exact bH ([]) af (bZ List.nodup_nil rfl (fun j x h=>by simp at h) (aC.laid hD))
 ·rintro i H1 hi ⟨as,h1,h2,h3,h4,s1⟩
  refine dm rfl _ rfl ?_
  intro y dy ny nd _
  refine de ny nd (fun H2 hy s2=> ?_) ⟨i,by rw [kj],rfl⟩
  have nyD:y≠D:=Ne.symm (aw h1 ny)
  have nya:y ∉ as:=fun m=>by
   obtain⟨j,hj,e⟩:=List.getElem_of_mem m
   obtain⟨d,h⟩:=h4 j y (by rw [bF hj,e])
   rw [ny] at h
   cases h
  refine eK _ (s2 _ _ h1) (by rw [aD,h3];show i<2 ^ 24;omega) (as++ [y]) ?_ (bZ (HK h2 nya) (by rw [bX,h3];rfl) (fun j x hx=> ?_) fun b o e=> ?_)
  ·rw [af,du]
   rfl
  ·rcases so j as.length with q | q
   ·rw [nV q] at hx
    obtain⟨d,h⟩:=h4 j x hx
    have h':=s2 _ _ h
    exact⟨d,by rw [ak (bf h' (s2 _ _ h1) (by intro z;cases z))];exact h'⟩
   ·rw [nW q] at hx
    have hj:j - as.length=0:=by
     have:=(cb.mp hx).1
     simp at this
     omega
    rw [hj] at hx
    have ej:j=i:=by omega
    cases hx
    subst ej
    exact⟨dy,by rw [ak nyD];exact hy⟩
  ·have nbD:b≠D:=aw e hD
   rw [ak nbD]
   exact s2 _ _ (s1 _ _ e)
 ·rintro H1 ⟨as,h1,h2,h3,h4,s1⟩
  refine gM _ rfl p _ dx ([]) rfl (s1 _ _ hp) T.aQ.cl (T.aQ.no _ (by decide)) (by show 0<1000;decide) ?_
  refine⟨(by show 1≤sizeLine;decide),fun A hA=>(bW A 64 _ rfl rfl af (bZ (by decide) (by decide) (by show 1*64≤2 ^ 24;decide) fun B hB=> ?_))⟩
  have npA:p≠A:=aw af hA
  have hpA:=aC.laid (o:= .lst [V.non]) hA p _ af
  have npB:p≠B:=aw hpA hB
  have up:∀c o,H1 c=some o→c≠p→c≠A∧c≠B:=fun c o e n=>by
   have e1:bR H1 p (.ins T.aQ.C dx (li "streams" (.ref D) [])) c=some o:=by rw [ak n];exact e
   exact⟨aw e1 hA,aw (aC.laid (o:= .lst [V.non]) hA c _ e1) hB⟩
  refine gM _ rfl p _ dx _ rfl (aC.laid hB p _ hpA) T.aQ.cl (T.aQ.no _ (by decide)) (by show 1<1000;decide) ?_
  have keep:∀c o (x y z:HO),H1 c=some o→c≠p→bR (bR (bR (bR H1 p x) A y) B z) p (.ins T.aQ.C dx (PQ D B)) c=some o:=fun c o x y z e n=>by
   obtain⟨n1,n2⟩:=up c o e n
   rw [ak n,ak n2,ak n1,ak n]
   exact e
  refine k _ D B as af (keep _ _ _ _ _ h1 (Ne.symm npD)) h2 h3 (fun j x hx=> ?_) ?_ (up _ _ h1 (Ne.symm npD)).2 fun b o e hb=>keep _ _ _ _ _ (s1 _ _ e) hb
  ·obtain⟨d,h⟩:=h4 j x hx
   exact⟨d,keep _ _ _ _ _ h (bf h (s1 _ _ hp) (Ey (by show ¬4=0;decide)))⟩
  ·rw [ak (Ne.symm npB),af]
   rfl
theorem Wd.listAt {T:Tx K mg} {H:Hp} {b r l a:Addr} {as:List Addr} {S:State} {ns:List Int} {pos:Nat} (W:Wd G T H b r l a as S ns pos) (ys:List V):Wd G T (bR H G.o (.lst ys)) b r l a as S ns pos:=by
 obtain⟨⟨dx,hb⟩,⟨dr,hr⟩,hq,hl,nd,len,sl,at_,ok,dw⟩:=W
 obtain⟨xs,h⟩:=dw.oo
 have kp:∀c u,H c=some u→c≠G.o→bR H G.o (.lst ys) c=some u:=fun c u e n=>by rw [ak n];exact e
 have kq:KQ (G.av l) H (bR H G.o (.lst ys)):= .set (by unfold Gh.av;simp) h
 refine⟨⟨dx,kp _ _ hb (bf hb h (by intro z;cases z))⟩,⟨dr,kp _ _ hr (bf hr h (by intro z;cases z))⟩,hq.keep (fun _ _ _ e=>kp _ _ e (bf e h (by intro z;cases z))),kp _ _ hl dw.n1,nd,len,sl,fun j x t h1 h2=> ?_,ok,?_⟩
 ·obtain⟨d,h'⟩:=at_ j x t h1 h2
  exact⟨d,kp _ _ h' (bf h' h (by intro z;cases z))⟩
 ·obtain⟨⟨vs,h1,h2,h3⟩,dlen,_,n1,n2,n3,tb,to,bm⟩:=dw
  exact⟨(cZ vs (kp _ _ h1 n2) h2 fun j v x a b=>(h3 j v x a b).kp kq.toKP),dlen,⟨ys,af⟩,n1,n2,n3,kq.t _ tb,to,bm.keep kq.x⟩
theorem Ed {j:Nat} {t:Stream} (h:Vbdeab.start.streams[j]?=some t):t=⟨j,j,0,false⟩∧j<64:=by
 unfold Vbdeab.start at h
 simp only [dn] at h
 cases e:(List.range 64)[j]? with
 | none=>rw [e] at h;cases h
 | some z=>
  rw [e] at h
  obtain⟨hj,ez⟩:=cb.mp e
  rw [List.getElem_range] at ez
  rw [fm] at hj
  subst ez
  exact⟨(bE h).symm,hj⟩
theorem Ib {p:Int} (h:p<0∨28<p):PyVbdeab.shape p=none:=by
 unfold PyVbdeab.shape
 rw [if_neg (by omega),if_neg (by omega),if_neg (by omega),if_neg (by omega),if_neg (by omega),if_neg (by omega),if_neg (by omega),if_neg (by omega),if_neg (by omega),if_neg (by omega),if_neg (by omega),if_neg (by omega),if_neg (by omega),if_neg (by omega),if_neg (by omega),if_neg (by omega),if_neg (by omega),if_neg (by omega),if_neg (by omega),if_neg (by omega),if_neg (by omega),if_neg (by omega),if_neg (by omega),if_neg (by omega),if_neg (by omega),if_neg (by omega),if_neg (by omega),if_neg (by omega),if_neg (by omega)]
theorem GE {p:Int} {n k:Nat} (h:PyVbdeab.shape p=some (n,k)):0≤p∧p≤28:=by
 by_cases q:p<0∨28<p
 ·rw [Ib q] at h
  cases h
 ·omega
theorem Ml:∀(p:Nat) (cl:List Int) (xs:List (List Int)),p≤28→PyVbdeab.shape (p:Int)=some (cl.length,xs.length)→PyVbdeab.whole (((p:Int)::cl)::xs)=(((p:Int)::cl)::xs)
 | p,cl,xs,a,b=>by cases Qv p cl xs a b<;>rfl
theorem Mj {c:List (List Int)} (h:PyFlat.okCall PyVbdeab.shape c):PyVbdeab.whole c=c:=by
 obtain⟨p,cl,xs,rfl,hs⟩:=h
 obtain⟨h1,h2⟩:=GE hs
 obtain⟨pn,rfl⟩:∃pn:Nat,p=(pn:Int):=⟨p.toNat,by omega⟩
 exact Ml pn cl xs (by omega) hs
theorem FR {α:Type} {f:α→α}:∀{l:List α},(∀x∈l,f x=x)→l.map f=l
 | [],_=>rfl
 | a::l,h=>by rw [eY,h a fB,FR fun x hx=>h x (dU _ hx)]
theorem KJ (x:List Int) (l:List (List Int)):PyFlat.told (x::l)=(x.length:Int)::(x++PyFlat.told l):=by
 unfold PyFlat.told
 rw [Hb]
 rfl
theorem LV {shape:Int→Option (Nat×Nat)} {c:List (List Int)} (h:PyFlat.okCall shape c) (rest:List (List (List Int))):∃(p:Int) (cl:List Int) (xs:List (List Int)),c=(p::cl)::xs∧shape p=some (cl.length,xs.length)∧PyFlat.put (c::rest)=p::(cl++PyFlat.putRows xs++PyFlat.put rest):=by
 obtain⟨p,cl,xs,rfl,hs⟩:=h
 refine hJ p cl xs rfl hs ?_
 show(p::cl)++PyFlat.putRows xs++PyFlat.put rest=_
 simp
def xT (T:Tx K mg):Sp:=fun vs H Q _=>∃(a Pl:Addr) (ns:List Int) (cs:List (List (List Int))),vs= [.ref a]∧zJ K H a ns∧IF T Pl∧C3 K mg Pl H∧TB Pl H∧PyFlat.calls PyVbdeab.shape ns.length ns=some cs∧j2 ns∧ns.length≤7500∧(PyVbdeab.answers ns).length≤10000000∧∀(H':Hp) (p:Addr),H' p=some (.lst ((PyVbdeab.answers ns).map V.int))→Q (.ref p) H'
theorem EH (T:Tx K mg):dM P w base T.l8 14 (xT T):=by
 refine T.l8.okA jI ?_
 rintro _ A _ s H _ Q E hr ⟨a,Pl,ns,cs,rfl,hs,hto,hbm,htb,hcs,hsm,hln,hlen,kk⟩
 refine⟨_,(ac (aZ 1 jI.nd (LP (T.aQ.mk' T.nZ) (BA T) (hr.mono (by decide)) rfl T.aQ.mgC T.nZ.b .nil zQ))
   (ac (aZ 2 jI.nd (Ag T.ox (yx T) hr (ab (pv 0) ad)))
   (ac (aZ 3 jI.nd (aI ad))
   (ac (lg cJ (aV (aS (eJ (pv 2) T.lG (vQ T) hr))) (ac (aZ 4 jI.nd (bi T.oA (yA T) hr (ab (pv 1) (ab (pv 2) ad))))
   (ac (gt (rL lF um uo jc (pv 3) (ab (a8 aW (by rfl) T.gu eh (ab (pv 4) ad)) ad)))
   (ae (gt (rL lF Fl Fm uG (pv 3) (ab (pv 4) ad)))))))
   (ae (aj (pv 3))))))),?_⟩
 obtain⟨eput,okc⟩:=PyFlat.put_calls _ _ _ hcs
 have eans:PyVbdeab.answers ns=PyFlat.told (PyFlat.played VbdeabNeutral.step VbdeabNeutral.start cs):=by
  unfold PyVbdeab.answers PyVbdeab.calls
  rw [hcs]
  show PyFlat.told (PyFlat.played _ _ (cs.map PyVbdeab.whole))=_
  rw [FR fun c hc=>Mj (okc c hc)]
 intro b db nb ndb _
 refine bT b db rfl af fun H1 l l2 as hb1 hl1 nd1 ln1 at1 hl2 nll kp1=>⟨rfl,?_⟩
 have s1:aC H H1:=aC.made nb ndb kp1
 refine⟨_,rfl,?_⟩
 intro r dr nr ndr _
 refine de nr ndr (fun H2 hr2 s2=> ?_) ⟨a,rfl,rfl⟩
 refine⟨bn _,fun o ho=> ?_⟩
 have s3:aC H2 (bR H2 o (.lst [])):=aC.laid ho
 have S3:aC H (bR H2 o (.lst [])):=(s1.trans s2).trans s3
 have W0:Wd ⟨o,l2,Pl⟩ T (bR H2 o (.lst [])) b r l a as Vbdeab.start ns 0:=by
  refine⟨⟨db,s3 _ _ (s2 _ _ hb1)⟩,⟨dr,s3 _ _ hr2⟩,hs.keep (fun _ _ _ e=>S3 _ _ e),s3 _ _ (s2 _ _ hl1),nd1,ln1,?_,fun j x t h1 h2=> ?_,fun t ht=> ?_,⟨(cZ _ (s3 _ _ (s2 _ _ hl2)) (JB ..) fun j v x h1 h2=> ?_),JB ..,⟨[],af⟩,aw (s2 _ _ hl1) ho,aw (s2 _ _ hl2) ho,nll,htb.keep (fun _ _ e=>S3 _ _ e) (fun _ _ e=>S3 _ _ e),hto,hbm.keep fun _ _ _ e=>S3 _ _ e⟩⟩
  ·unfold Vbdeab.start
   simp
  ·obtain⟨e,_⟩:=Ed h2
   obtain⟨d,h⟩:=at1 j x h1
   rw [e]
   exact⟨d,s3 _ _ (s2 _ _ h)⟩
  ·obtain⟨j,hj,e⟩:=List.getElem_of_mem ht
   obtain⟨e2,hj2⟩:=Ed (bF hj)
   rw [←e,e2]
   show j<18446744073709551616
   omega
  ·have hv:v= .non:=List.eq_of_mem_replicate (eM h1)
   have hx:x=none:=List.eq_of_mem_replicate (eM h2)
   rw [hv,hx]
   exact rfl
 refine⟨fun m σ H'=>∃(as':List Addr) (S:State) (pos:Nat) (cs':List (List (List Int))) (outs:List Int) (v:Option V),m=cs'.length∧σ= [some (.ref a),some (.ref b),some (.ref r),some (.ref o),v]∧Wd ⟨o,l2,Pl⟩ T H' b r l a as' S ns pos∧ns.drop pos=PyFlat.put cs'∧(∀c∈cs',PyFlat.okCall PyVbdeab.shape c)∧H' o=some (.lst (outs.map V.int))∧PyVbdeab.answers ns=outs++PyFlat.told (PyFlat.played VbdeabNeutral.step S cs'),⟨cs.length,(jp as Vbdeab.start 0 cs ([]) none rfl rfl W0 eput okc af eans)⟩,?_⟩
 rintro m σ H3 ⟨as3,S,pos,cs3,outs,v,rfl,rfl,W3,hd3,ok3,ho3,e3⟩
 obtain⟨dr3,hr3⟩:=id W3.rd
 refine cM _ rfl r dr3 _ rfl hr3 rfl ⟨r,(hJ a pos ns rfl ⟨dr3,hr3⟩ (dm W3.sq _ rfl (aX (fun hl=>⟨_,fun _ _ z=>z,?_⟩) (fun hl=> ?_))))⟩
 ·have hl':=eD hl
  cases cs3 with
  | nil=>
   exfalso
   have:=cx List.length hd3
   rw [CM] at this
   simp [PyFlat.put] at this
   omega
  | cons c cs4=>
   obtain⟨p,cl,xs,rfl,hsh,hput⟩:=LV (ok3 c fB) cs4
   obtain⟨q0,q28⟩:=GE hsh
   obtain⟨pn,rfl⟩:∃pn:Nat,p=(pn:Int):=⟨p.toNat,by omega⟩
   rw [hput] at hd3
   have estep:VbdeabNeutral.step S (((pn:Int)::cl)::xs)=does S (((pn:Int)::cl)::xs):=rfl
   refine bB _ rfl _ rfl (wA ⟨o,l2,Pl⟩ b r l a as3 S ns (iG pos pn cl xs (PyFlat.put cs4) rfl W3 hd3 hsh (by omega) (fe hsm hln fun H4 q as4 pos4 W4 hd4 hq4 ki4 nf4=> ?_)))
   have ho4:=ki4 _ _ ho3
   have noq:o≠q:=nf4 _ _ ho3
   have e4:PyVbdeab.answers ns=(outs++ [((does S (((pn:Int)::cl)::xs)).2.length:Int)]++(does S (((pn:Int)::cl)::xs)).2)++PyFlat.told (PyFlat.played VbdeabNeutral.step (does S (((pn:Int)::cl)::xs)).1 cs4):=by
    rw [e3,PyFlat.played,KJ,estep]
    simp
   have hlen4:=cx List.length e4
   simp only [bX,List.length_singleton] at hlen4
   refine cZ _ rfl (.inl ⟨rfl,_,a4.of ho4⟩) (cv _ rfl q _ rfl (.inl (a4.of hq4)) (iY o _ _ rfl rfl ho4 (by rw [aD];show outs.length<2 ^ 24;omega) ?_))
   refine cZ _ rfl (.inl ⟨rfl,_,a4.of af⟩) (gM _ rfl o q _ _ rfl rfl af (by rw [ak (Ne.symm noq)];exact hq4) (by rw [bX,aD,aD];show outs.length+1+(does S (((pn:Int)::cl)::xs)).2.length≤2 ^ 24;omega) ?_)
   refine bH cs4.length (by rw [d5];omega) (jp as4 _ pos4 cs4 (outs++ [((does S (((pn:Int)::cl)::xs)).2.length:Int)]++(does S (((pn:Int)::cl)::xs)).2) _ rfl rfl ?_ hd4 (fun c hc=>ok3 c (dU _ hc)) ?_ e4)
   ·exact(W4.listAt _).listAt _
   ·rw [af,aD,du,du]
    rfl
 ·have hl':=cg hl
  cases cs3 with
  | cons c cs4=>
   exfalso
   obtain⟨p,cl,xs,rfl,hsh,hput⟩:=LV (ok3 c fB) cs4
   rw [hput,List.drop_eq_nil_of_le hl'] at hd3
   cases hd3
  | nil=>
   refine⟨_,rfl,?_⟩
   rw [e3] at kk
   have:PyFlat.told (PyFlat.played VbdeabNeutral.step S [])= []:=rfl
   rw [this,vE] at kk
   exact kk H3 o ho3
end
end Pf
section
namespace Pf
open PySem PySem.Spec PyProof.Rows L2
theorem Qy {p:List Value→Prop} (h:p []):∀us:List Value,us.length=0→p us
 | [],_=>h
theorem Qz {p:List Value→Prop} (h:∀a,p [a]):∀us:List Value,us.length=1→p us
 | a::l,e=>Qy (p:=fun l=>p (a::l)) (h a) l (Nat.succ.inj e)
theorem QA {p:List Value→Prop} (h:∀a b,p [a,b]):∀us:List Value,us.length=2→p us
 | a::l,e=>Qz (p:=fun l=>p (a::l)) (h a) l (Nat.succ.inj e)
theorem QB {p:List Value→Prop} (h:∀a b c,p [a,b,c]):∀us:List Value,us.length=3→p us
 | a::l,e=>QA (p:=fun l=>p (a::l)) (h a) l (Nat.succ.inj e)
theorem QC {p:List Value→Prop} (h:∀a b c d,p [a,b,c,d]):∀us:List Value,us.length=4→p us
 | a::l,e=>QB (p:=fun l=>p (a::l)) (h a) l (Nat.succ.inj e)
theorem QL {p:List Value→Prop} (h:∀a b c d e,p [a,b,c,d,e]):∀us:List Value,us.length=5→p us
 | a::l,e=>QC (p:=fun l=>p (a::l)) (h a) l (Nat.succ.inj e)
structure QH (K:PySem.W.Frag) (a:Addr) (kfs:List (Int×V)):Prop where
 gd:∀(P:Program) (w:World),GD P w K a kfs
def zI:List DictEntry→List (Int×V)→Prop
 | [],[]=>True
 | e::es,p::ps=>(∃t,e.key= .int p.1 t)∧e.hash=hashInt p.1∧cX p.2 e.val∧zI es ps
 | _,_=>False
def N6:List DictEntry→List (Int×V)→List (yk×Value)
 | e::es,p::ps=>((Sum.inl p.1:yk),e.val)::N6 es ps
 | _,_=> []
theorem Ld:∀{es:List DictEntry} {kfs:List (Int×V)},zI es kfs→KV (kfs.map fun p=>((Sum.inl p.1:yk),p.2)) (N6 es kfs)
 | [],[],_=> .nil
 | e::es,p::ps,⟨_,_,h3,r⟩=> .cons ⟨rfl,h3⟩ (Ld r)
 | [],_::_,h=>h.elim
 | _::_,[],h=>h.elim
theorem DJ {P:Program} {w:World}:∀{es:List DictEntry} {kfs:List (Int×V)},zI es kfs→Pairs (lR P w) es (N6 es kfs)
 | [],[],_=> .nil
 | e::es,p::ps,⟨⟨t,h1⟩,_,h3,r⟩=> .cons (by rw [h1];show Value.isInt p.1 (.int p.1 t)=true;simp [Value.isInt]) rfl (DJ r)
 | [],_::_,h=>h.elim
 | _::_,[],h=>h.elim
theorem FG {P:Program} {w:World}:∀{es:List DictEntry} {kfs:List (Int×V)},zI es kfs→∀e∈es,∃k,(lR P w).is k e.key=true∧e.hash=(lR P w).hash k
 | [],_,_,e,m=>nomatch m
 | e::es,p::ps,⟨⟨t,h1⟩,h2,_,r⟩,x,m=>by
  rcases cF.mp m with rfl | m
  ·exact⟨Sum.inl p.1,by rw [h1];show Value.isInt p.1 (.int p.1 t)=true;simp [Value.isInt],h2⟩
  ·exact FG r x m
 | _::_,[],h,_,_=>h.elim
theorem IW:∀{es:List DictEntry} {kfs:List (Int×V)},zI es kfs→(N6 es kfs).map (·.1)=(kfs.map (·.1)).map (Sum.inl:Int→yk)
 | [],[],_=>rfl
 | e::es,p::ps,⟨_,_,_,r⟩=>by
  show Sum.inl p.1::(N6 es ps).map (·.1)=_
  rw [IW r]
  rfl
 | [],_::_,h=>h.elim
 | _::_,[],h=>h.elim
theorem N7 {es:List DictEntry} {kfs:List (Int×V)} (e:zI es kfs) (h:(kfs.map (·.1)).Nodup):((N6 es kfs).map (·.1)).Nodup:=by
 rw [IW e]
 generalize kfs.map (·.1)=z at h
 clear e
 induction z with
 | nil=>exact List.nodup_nil
 | cons a r ih=>
  obtain⟨h1,h2⟩:=uu.mp h
  rw [eY]
  refine uu.mpr ⟨fun m=> ?_,ih h2⟩
  obtain⟨b,hb,e⟩:=lO.mp m
  cases e
  exact h1 hb
theorem N0 {K:PySem.W.Frag} {a:Addr} {kfs:List (Int×V)} {es:Array DictEntry} {ep:Nat} (l:K.lookup a=some ⟨.type "dict",none,.dict es ep,#[]⟩) (he:zI es.toList kfs) (nd:(kfs.map (·.1)).Nodup) (ne:(a==sysModules)=false):QH K a kfs:=
 ⟨fun P w=>⟨ne,fun h X=>(cM (N6 es.toList kfs) (Ld he) _ es ep (X a _ l) ⟨rfl,rfl,rfl⟩ rfl (fe (fun e m=>FG he e (by simpa using m)) (DJ he) (N7 he nd)))⟩⟩
section
variable {K:PySem.W.Frag} {h:Heap} {mg:Str→Option Value} {x q:Str} {st:Stmt} {ps ats:List Str} {f C a:Addr} {oc kV doc pm cdv ct:Value} {od an:Option Addr} {osl:Array (Option Value)}
def w8 {z:Int} {t:Tok} (X:K.In h) (G:h.Ns mainGlobals mg) (e:PySem.W.nsIn K mainGlobals x=some (some (.int z t))):GC mg x (.int z):=⟨_,zx X G e,⟨_,rfl⟩⟩
def O2:List Int→Bool
 | []=>true
 | a::l=> !(l.contains a) && O2 l
theorem LB:∀{l:List Int},O2 l=true→l.Nodup
 | [],_=>List.nodup_nil
 | a::l,h=>by
  obtain⟨h1,h2⟩:=IB.mp (show(!(l.contains a) && O2 l)=true from h)
  refine uu.mpr ⟨fun m=> ?_,LB h2⟩
  rw [List.contains_iff_mem.mpr m] at h1
  cases h1
def Py (K:PySem.W.Frag) (C:Addr) (l:List Str):Prop:=∀y∈l,kl K C y
theorem MU:Py K C []:=fun _ h=>nomatch h
theorem LE {y:Str} {l:List Str} (h:PySem.W.findIn K (.ref C) y=some none) (t:Py K C l):Py K C (y::l):=fun b m=>(cF.mp m).elim (fun e=>by rw [e];exact h) (t b)
def MN (X:K.In h) (G:h.Ns mainGlobals mg) (e:PySem.W.nsIn K mainGlobals x=some (some (.ref C))) (pg:PySem.W.plainGet K C Str.empty=true) (hd:PySem.W.hasDictIn K C=true) (po:PySem.W.plainOver K C=true)
  (sa:PySem.W.findIn K (.ref C) "__setattr__"=some (some (.builtin "object.__setattr__"))) (mks:PySem.W.makesIn K C=true) (kc:PySem.W.keepIn K (.ref C)=true) (no:Py K C ats):Kl K mg x ats:=⟨C,⟨pg,hd,po,sa⟩,zx X G e,no,mks,kc⟩
def dF (X:K.In h) (G:h.Ns mainGlobals mg) (e:PySem.W.nsIn K mainGlobals x=some (some (.ref f))) (lk:K.lookup f=some ⟨oc,od,.func (PySem.W.fnOf x x (pR st) (jw st) (ag st) .none kV doc pm an cdv ct),osl⟩)
  (cd:PySem.W.codeIn K cdv x=true) (kp:PySem.W.keepIn K (.ref f)=true) (ba:∀us:List Value,us.length=ps.length→bindArgs (PySem.W.fnOf x x (pR st) (jw st) (ag st) .none kV doc pm an cdv ct) ⟨us,[]⟩=pure (ps.zip us)):Df K mg x st ps:=
 ⟨f,_,Lg lk cd kp,ba,zx X G e⟩
def sw {c:Kl K mg x ats} {m:Str} (e:PySem.W.findIn K (.ref c.C) m=some (some (.ref f))) (i:PySem.W.isFn K (.ref f)=true) (lk:K.lookup f=some ⟨oc,od,.func (PySem.W.fnOf m q (pR st) (jw st) (ag st) .none kV doc pm an cdv ct),osl⟩)
  (cd:PySem.W.codeIn K cdv q=true) (kp:PySem.W.keepIn K (.ref f)=true) (ba:∀us:List Value,us.length=ps.length→bindArgs (PySem.W.fnOf m q (pR st) (jw st) (ag st) .none kV doc pm an cdv ct) ⟨us,[]⟩=pure (ps.zip us)):Me K c.C m q st ps:=
 ⟨f,_,Lg lk cd kp,ba,⟨e,i,kp⟩,c.cl⟩
def MI {kfs:List (Int×V)} {es:Array DictEntry} {ep:Nat} (X:K.In h) (G:h.Ns mainGlobals mg) (e:PySem.W.nsIn K mainGlobals x=some (some (.ref a))) (l:K.lookup a=some ⟨.type "dict",none,.dict es ep,#[]⟩) (he:zI es.toList kfs) (nd:O2 (kfs.map (·.1))=true) (ne:(a==sysModules)=false):KR K mg x kfs:=
 ⟨a,zx X G e,(N0 l he (LB nd) ne).gd,rfl⟩
end
theorem K1 {ns:List Int} (h:PyVbdeab.answers_asked ns=true):∃cs,PyFlat.calls PyVbdeab.shape ns.length ns=some cs∧(PyVbdeab.answers ns).length≤10000000:=by
 unfold PyVbdeab.answers_asked at h
 cases e:PyFlat.calls PyVbdeab.shape ns.length ns with
 | none=>rw [e] at h;cases h
 | some cs=>
  rw [e] at h
  simp only [yb] at h
  exact⟨cs,rfl,bj h.2⟩
theorem Oo {K:PySem.W.Frag} {H0 H:Hp} {a:Addr} {ns:List Int} (hx:∀b u,H0 b=some u→H b=some u) (hO:Fw H0) (h:a4 K H0 a (ns.map V.int)):zJ K H a ns:=by
 rcases h with(h | ⟨o,h⟩) | h
 ·rcases hO a with z | ⟨o,u,z⟩
  ·rw [z] at h;cases h
  ·rw [z] at h;cases h
 ·exact .inl ⟨o,hx _ _ h⟩
 ·exact .inr fun _=> .inr h
theorem L6 {a:PySem.W.Codec.denoteAll PySem.Challenge.fa_toldchance_s01_answers} (h:PySem.W.Codec.withinAll PySem.Challenge.fa_toldchance_s01_answers a=true):j2 a.1∧a.1.length≤7500:=by
 have h1:(PySem.W.Codec.inLen 0 7500 a.1 && a.1.all (PySem.W.Codec.inInt (Int.negSucc 99999999999999999999999999999999999999999) (Int.ofNat 100000000000000000000000000000000000000000)))=true:=(IB.mp (show(_ && _)=true from h)).1
 obtain⟨h2,h3⟩:=IB.mp h1
 refine⟨fun x hx=> ?_,?_⟩
 ·have h4:=Ai.mp h3 x hx
  unfold PySem.W.Codec.inInt at h4
  obtain⟨h5,h6⟩:=IB.mp h4
  have h7: -100000000000000000000000000000000000000000≤x:=bj h5
  have h8:x≤100000000000000000000000000000000000000000:=bj h6
  unfold Sz
  have e:(2:Nat) ^ 140=1393796574908163946345982392040522594123776:=by decide
  rw [e]
  omega
 ·unfold PySem.W.Codec.inLen PySem.W.Codec.inNat at h2
  exact bj (IB.mp h2).2
theorem Nm {K:PySem.W.Frag} {h:Heap} {mg:Str→Option Value} {Goal:Prop} (_:K.In h) (T:Tx K mg) (main:Tx K mg→Goal):Goal:=main T
theorem MJ {q:Program} {loose:List Str} {mean:ExcName→Option Value} {mg mb:Str→Option Value} {h:Heap} {K:PySem.W.Frag} {d:DefRec} {f c Pl bm:Addr} {oc oc2:Value} {od od2:Option Addr} {osl osl2:Array (Option Value)} {fd:FuncData} {vs:Array Value}
  (T:Tx K mg) (TT:Top q loose mean mg mb h) (X:K.In h) (hrec:(recsOf q).find? (fun e=>e.name==("all_lowest":Str))=some d)
  (hf:PySem.W.nsIn K mainGlobals "all_lowest"=some (some (.ref f))) (lf:K.lookup f=some ⟨oc,od,.func fd,osl⟩) (hc:fd.code= .ref c) (lc:K.lookup c=some ⟨oc2,od2,.fields vs,osl2⟩) (hv:(vs[11]?:Option Value)=some (.ref Pl))
  (kP:K.lookup Pl=none) (hb:PySem.W.nsIn K mainGlobals "__builtins__"=some (some (.ref bm))) (kb:K.lookup bm=none):
  ∃ob:Obj,PySem.W.CodeHd h c Pl∧h.get? Pl=some (PySem.W.tabObj #[])∧K.lookup Pl=none∧h.get? bm=some ob∧ob.data= .plain∧K.lookup bm=none∧IF T Pl∧
   ∀H:Hp,H bm=some (.frz ob (.ext fun _=>True))→C3 K mg Pl H:=by
 have ht:PySem.W.tabIn K "all_lowest"=some (c,Pl):=by
  unfold PySem.W.tabIn
  simp only [hf,lf,hc,lc,hv]
 obtain⟨hC,hP⟩:=PySem.W.tab_of TT X hrec ht
 obtain⟨bm',ob,b1,b2,b3,b4,b5,b6⟩:=TT.bmain
 have eb:bm'=bm:=by
  have z:=b1.symm.trans (zx X TT.g hb)
  injection z with z
  injection z
 subst eb
 have ef:f=T.dJ.f:=by
  have z:=(zx X TT.g hf).symm.trans T.dJ.mgx
  injection z with z
  injection z
 obtain⟨oc3,od3,kV,doc,pm,an,cdv,ct,osl3,e1,lk,hcd⟩:=T.dJ.F.ex
 have efd:T.dJ.fd=fd:=by
  rw [ef,lk] at lf
  have z:Data.func T.dJ.fd=Data.func fd:=cx Obj.data (bE lf)
  injection z
 refine bH ob hC (bZ hP kP b3 (bZ b6 kb ⟨c,by rw [efd];exact hc,fun h' X'=> ?_⟩ fun H hH=> .inr ⟨bm',(bZ b1 b2 (fun z=> ?_) (kK (fun z=> ?_) ob (bZ b4 b5 b6 hH)))⟩))
 ·obtain⟨o,vs',file,tf,flags,tg,inF,text,tt,g1,r⟩:=hC
  have z:=X _ _ lc
  rw [g1] at z
  refine wA o vs' file tf flags tg inF text (bH tt ?_ r)
  rw [bE z]
  exact X' _ _ lc
 ·obtain⟨o,es,ep,g1,g2,_⟩:=TT.g
  rw [←z,b3] at g1
  cases g1
  rw [b6] at g2
  cases g2
 ·rw [←z,b3] at hP
  rw [bE hP] at b6
  cases b6
end Pf
end
end
open PySem PySem.W PyProof.Rows
set_option maxRecDepth 100000 in
set_option maxHeartbeats 0 in
theorem PySem.Challenge.cw_toldchance_s01_answers_holds : PySem.Challenge.rw_toldchance_s01_answers.Holds := by
 w_on
 refine hdTop ?_
 k_fillS
 refine L2.OB (r:=PySem.Challenge.rw_toldchance_s01_answers) (k:=14) (CX:=L2.AV) (ps:= ["calls"]) (by decide+kernel) rfl rfl ⟨rfl,by decide,by decide⟩ (fun w h Y=>PySem.W.kIn_of Y) ?F (fun _ _ _ _ z=>z)
 case F=>
  intro w mean mg mb fa h TT Y KX hmg
  have G:=TT.g
  refine' Pf.Nm (mg:=mg) KX ?T ?main
  case T=>
   refine' ⟨Pf.w8 KX G ?_,
   Pf.w8 KX G ?_,
   Pf.w8 KX G ?_,
   Pf.w8 KX G ?_,
   Pf.w8 KX G ?_,
   Pf.w8 KX G ?_,
   Pf.w8 KX G ?_,
   Pf.w8 KX G ?_,
   Pf.w8 KX G ?_,
   Pf.w8 KX G ?_,
   Pf.w8 KX G ?_,
   Pf.w8 KX G ?_,
   Pf.w8 KX G ?_,
   Pf.w8 KX G ?_,
   Pf.w8 KX G ?_,
   Pf.w8 KX G ?_,
   Pf.w8 KX G ?_,
   Pf.w8 KX G ?_,
   Pf.w8 KX G ?_,
   Pf.w8 KX G ?_,
   Pf.w8 KX G ?_,
   Pf.w8 KX G ?_,
   Pf.w8 KX G ?_,
   Pf.w8 KX G ?_,
   Pf.w8 KX G ?_,
   Pf.w8 KX G ?_,
   Pf.w8 KX G ?_,
   Pf.w8 KX G ?_,
   Pf.w8 KX G ?_,
   PySem.W.mg_none_of KX G ?_,
   PySem.W.mg_none_of KX G ?_,
   PySem.W.mg_none_of KX G ?_,
   PySem.W.mg_none_of KX G ?_,
   PySem.W.mg_none_of KX G ?_,
   PySem.W.mg_none_of KX G ?_,
   PySem.W.mg_none_of KX G ?_,
   PySem.W.mg_none_of KX G ?_,
   PySem.W.mg_none_of KX G ?_,
   PySem.W.mg_none_of KX G ?_,
   PySem.W.mg_none_of KX G ?_,
   Pf.MN KX G ?_ ?_ ?_ ?_ ?_ ?_ ?_ ?_,
   Pf.MN KX G ?_ ?_ ?_ ?_ ?_ ?_ ?_ ?_,
   Pf.MN KX G ?_ ?_ ?_ ?_ ?_ ?_ ?_ ?_,
   Pf.MN KX G ?_ ?_ ?_ ?_ ?_ ?_ ?_ ?_,
   Pf.MN KX G ?_ ?_ ?_ ?_ ?_ ?_ ?_ ?_,
   Pf.MN KX G ?_ ?_ ?_ ?_ ?_ ?_ ?_ ?_,
   Pf.MN KX G ?_ ?_ ?_ ?_ ?_ ?_ ?_ ?_,
   Pf.MN KX G ?_ ?_ ?_ ?_ ?_ ?_ ?_ ?_,
   Pf.sw ?_ ?_ ?_ ?_ ?_ ?_,
   Pf.sw ?_ ?_ ?_ ?_ ?_ ?_,
   Pf.sw ?_ ?_ ?_ ?_ ?_ ?_,
   Pf.dF KX G ?_ ?_ ?_ ?_ ?_,
   Pf.dF KX G ?_ ?_ ?_ ?_ ?_,
   Pf.dF KX G ?_ ?_ ?_ ?_ ?_,
   Pf.dF KX G ?_ ?_ ?_ ?_ ?_,
   Pf.dF KX G ?_ ?_ ?_ ?_ ?_,
   Pf.dF KX G ?_ ?_ ?_ ?_ ?_,
   Pf.dF KX G ?_ ?_ ?_ ?_ ?_,
   Pf.dF KX G ?_ ?_ ?_ ?_ ?_,
   Pf.dF KX G ?_ ?_ ?_ ?_ ?_,
   Pf.dF KX G ?_ ?_ ?_ ?_ ?_,
   Pf.sw ?_ ?_ ?_ ?_ ?_ ?_,
   Pf.sw ?_ ?_ ?_ ?_ ?_ ?_,
   Pf.sw ?_ ?_ ?_ ?_ ?_ ?_,
   Pf.sw ?_ ?_ ?_ ?_ ?_ ?_,
   Pf.dF KX G ?_ ?_ ?_ ?_ ?_,
   Pf.dF KX G ?_ ?_ ?_ ?_ ?_,
   Pf.dF KX G ?_ ?_ ?_ ?_ ?_,
   Pf.dF KX G ?_ ?_ ?_ ?_ ?_,
   Pf.dF KX G ?_ ?_ ?_ ?_ ?_,
   Pf.dF KX G ?_ ?_ ?_ ?_ ?_,
   Pf.dF KX G ?_ ?_ ?_ ?_ ?_,
   Pf.dF KX G ?_ ?_ ?_ ?_ ?_,
   Pf.dF KX G ?_ ?_ ?_ ?_ ?_,
   Pf.dF KX G ?_ ?_ ?_ ?_ ?_,
   Pf.dF KX G ?_ ?_ ?_ ?_ ?_,
   Pf.dF KX G ?_ ?_ ?_ ?_ ?_,
   Pf.sw ?_ ?_ ?_ ?_ ?_ ?_,
   Pf.sw ?_ ?_ ?_ ?_ ?_ ?_,
   Pf.sw ?_ ?_ ?_ ?_ ?_ ?_,
   Pf.sw ?_ ?_ ?_ ?_ ?_ ?_,
   Pf.dF KX G ?_ ?_ ?_ ?_ ?_,
   Pf.dF KX G ?_ ?_ ?_ ?_ ?_,
   Pf.dF KX G ?_ ?_ ?_ ?_ ?_,
   Pf.dF KX G ?_ ?_ ?_ ?_ ?_,
   Pf.dF KX G ?_ ?_ ?_ ?_ ?_,
   Pf.dF KX G ?_ ?_ ?_ ?_ ?_,
   Pf.sw ?_ ?_ ?_ ?_ ?_ ?_,
   Pf.sw ?_ ?_ ?_ ?_ ?_ ?_,
   Pf.sw ?_ ?_ ?_ ?_ ?_ ?_,
   Pf.sw ?_ ?_ ?_ ?_ ?_ ?_,
   Pf.sw ?_ ?_ ?_ ?_ ?_ ?_,
   Pf.dF KX G ?_ ?_ ?_ ?_ ?_,
   Pf.dF KX G ?_ ?_ ?_ ?_ ?_,
   Pf.dF KX G ?_ ?_ ?_ ?_ ?_,
   Pf.dF KX G ?_ ?_ ?_ ?_ ?_,
   Pf.dF KX G ?_ ?_ ?_ ?_ ?_,
   Pf.dF KX G ?_ ?_ ?_ ?_ ?_,
   Pf.dF KX G ?_ ?_ ?_ ?_ ?_,
   Pf.dF KX G ?_ ?_ ?_ ?_ ?_,
   Pf.dF KX G ?_ ?_ ?_ ?_ ?_,
   Pf.sw ?_ ?_ ?_ ?_ ?_ ?_,
   Pf.sw ?_ ?_ ?_ ?_ ?_ ?_,
   Pf.sw ?_ ?_ ?_ ?_ ?_ ?_,
   Pf.sw ?_ ?_ ?_ ?_ ?_ ?_,
   Pf.sw ?_ ?_ ?_ ?_ ?_ ?_,
   Pf.sw ?_ ?_ ?_ ?_ ?_ ?_,
   Pf.sw ?_ ?_ ?_ ?_ ?_ ?_,
   Pf.sw ?_ ?_ ?_ ?_ ?_ ?_,
   Pf.sw ?_ ?_ ?_ ?_ ?_ ?_,
   Pf.sw ?_ ?_ ?_ ?_ ?_ ?_,
   Pf.sw ?_ ?_ ?_ ?_ ?_ ?_,
   Pf.sw ?_ ?_ ?_ ?_ ?_ ?_,
   Pf.sw ?_ ?_ ?_ ?_ ?_ ?_,
   Pf.sw ?_ ?_ ?_ ?_ ?_ ?_,
   Pf.sw ?_ ?_ ?_ ?_ ?_ ?_,
   Pf.sw ?_ ?_ ?_ ?_ ?_ ?_,
   Pf.dF KX G ?_ ?_ ?_ ?_ ?_,
   Pf.dF KX G ?_ ?_ ?_ ?_ ?_,
   Pf.dF KX G ?_ ?_ ?_ ?_ ?_,
   Pf.dF KX G ?_ ?_ ?_ ?_ ?_,
   Pf.dF KX G ?_ ?_ ?_ ?_ ?_,
   Pf.dF KX G ?_ ?_ ?_ ?_ ?_,
   Pf.dF KX G ?_ ?_ ?_ ?_ ?_,
   Pf.dF KX G ?_ ?_ ?_ ?_ ?_,
   Pf.dF KX G ?_ ?_ ?_ ?_ ?_,
   Pf.dF KX G ?_ ?_ ?_ ?_ ?_,
   Pf.dF KX G ?_ ?_ ?_ ?_ ?_,
   Pf.dF KX G ?_ ?_ ?_ ?_ ?_,
   Pf.dF KX G ?_ ?_ ?_ ?_ ?_,
   Pf.dF KX G ?_ ?_ ?_ ?_ ?_,
   Pf.dF KX G ?_ ?_ ?_ ?_ ?_,
   Pf.dF KX G ?_ ?_ ?_ ?_ ?_,
   Pf.dF KX G ?_ ?_ ?_ ?_ ?_,
   Pf.dF KX G ?_ ?_ ?_ ?_ ?_,
   Pf.dF KX G ?_ ?_ ?_ ?_ ?_,
   Pf.dF KX G ?_ ?_ ?_ ?_ ?_,
   Pf.dF KX G ?_ ?_ ?_ ?_ ?_,
   Pf.dF KX G ?_ ?_ ?_ ?_ ?_,
   Pf.dF KX G ?_ ?_ ?_ ?_ ?_,
   Pf.dF KX G ?_ ?_ ?_ ?_ ?_,
   Pf.dF KX G ?_ ?_ ?_ ?_ ?_,
   Pf.dF KX G ?_ ?_ ?_ ?_ ?_,
   Pf.dF KX G ?_ ?_ ?_ ?_ ?_,
   Pf.dF KX G ?_ ?_ ?_ ?_ ?_,
   Pf.dF KX G ?_ ?_ ?_ ?_ ?_,
   Pf.dF KX G ?_ ?_ ?_ ?_ ?_,
   Pf.dF KX G ?_ ?_ ?_ ?_ ?_,
   Pf.dF KX G ?_ ?_ ?_ ?_ ?_,
   Pf.dF KX G ?_ ?_ ?_ ?_ ?_,
   Pf.dF KX G ?_ ?_ ?_ ?_ ?_,
   Pf.dF KX G ?_ ?_ ?_ ?_ ?_,
   Pf.dF KX G ?_ ?_ ?_ ?_ ?_,
   Pf.dF KX G ?_ ?_ ?_ ?_ ?_,
   Pf.sw ?_ ?_ ?_ ?_ ?_ ?_,
   Pf.sw ?_ ?_ ?_ ?_ ?_ ?_,
   Pf.sw ?_ ?_ ?_ ?_ ?_ ?_,
   Pf.sw ?_ ?_ ?_ ?_ ?_ ?_,
   Pf.dF KX G ?_ ?_ ?_ ?_ ?_,
   Pf.dF KX G ?_ ?_ ?_ ?_ ?_,
   Pf.dF KX G ?_ ?_ ?_ ?_ ?_,
   Pf.dF KX G ?_ ?_ ?_ ?_ ?_,
   Pf.dF KX G ?_ ?_ ?_ ?_ ?_,
   Pf.dF KX G ?_ ?_ ?_ ?_ ?_,
   Pf.dF KX G ?_ ?_ ?_ ?_ ?_,
   Pf.dF KX G ?_ ?_ ?_ ?_ ?_,
   Pf.dF KX G ?_ ?_ ?_ ?_ ?_,
   Pf.dF KX G ?_ ?_ ?_ ?_ ?_,
   Pf.dF KX G ?_ ?_ ?_ ?_ ?_,
   Pf.dF KX G ?_ ?_ ?_ ?_ ?_,
   Pf.dF KX G ?_ ?_ ?_ ?_ ?_,
   Pf.dF KX G ?_ ?_ ?_ ?_ ?_,
   Pf.dF KX G ?_ ?_ ?_ ?_ ?_,
   Pf.dF KX G ?_ ?_ ?_ ?_ ?_,
   Pf.dF KX G ?_ ?_ ?_ ?_ ?_,
   Pf.dF KX G ?_ ?_ ?_ ?_ ?_,
   Pf.dF KX G ?_ ?_ ?_ ?_ ?_,
   Pf.dF KX G ?_ ?_ ?_ ?_ ?_,
   Pf.dF KX G ?_ ?_ ?_ ?_ ?_,
   Pf.dF KX G ?_ ?_ ?_ ?_ ?_,
   Pf.dF KX G ?_ ?_ ?_ ?_ ?_,
   Pf.dF KX G ?_ ?_ ?_ ?_ ?_,
   Pf.dF KX G ?_ ?_ ?_ ?_ ?_,
   Pf.dF KX G ?_ ?_ ?_ ?_ ?_,
   Pf.dF KX G ?_ ?_ ?_ ?_ ?_,
   Pf.dF KX G ?_ ?_ ?_ ?_ ?_,
   Pf.dF KX G ?_ ?_ ?_ ?_ ?_,
   Pf.dF KX G ?_ ?_ ?_ ?_ ?_,
   Pf.dF KX G ?_ ?_ ?_ ?_ ?_,
   Pf.dF KX G ?_ ?_ ?_ ?_ ?_,
   Pf.dF KX G ?_ ?_ ?_ ?_ ?_,
   Pf.sw ?_ ?_ ?_ ?_ ?_ ?_,
   Pf.dF KX G ?_ ?_ ?_ ?_ ?_,
   Pf.dF KX G ?_ ?_ ?_ ?_ ?_,
   Pf.MI KX G ?_ ?_ ?_ ?_ ?_,
   Pf.MI KX G ?_ ?_ ?_ ?_ ?_,
   Pf.MI KX G ?_ ?_ ?_ ?_ ?_,
   Pf.MI KX G ?_ ?_ ?_ ?_ ?_,
   Pf.MI KX G ?_ ?_ ?_ ?_ ?_,
   Pf.MI KX G ?_ ?_ ?_ ?_ ?_,
   Pf.MI KX G ?_ ?_ ?_ ?_ ?_,
   Pf.MI KX G ?_ ?_ ?_ ?_ ?_,
   Pf.MI KX G ?_ ?_ ?_ ?_ ?_⟩
   all_goals first
    | k_is
    | (dsimp only [Pf.MN];k_is)
    | exact Pf.Qz fun _=>rfl | exact Pf.QA fun _ _=>rfl | exact Pf.QB fun _ _ _=>rfl | exact Pf.QC fun _ _ _ _=>rfl | exact Pf.QL fun _ _ _ _ _=>rfl | exact Pf.Qy rfl
    | (show Pf.O2 _=true;rfl)
    | (show(_==_)=false;rfl)
    | ((repeat first | exact Pf.MU | refine Pf.LE (by k_is) ?_);done)
    | ((repeat first | exact trivial | refine⟨⟨_,rfl⟩,rfl,⟨_,rfl⟩,?_⟩ | refine⟨⟨_,rfl⟩,rfl,rfl,?_⟩);done)
    | skip
  case main=>
   intro T
   have e:fa=T.l8.f:=by
    have z:=hmg.symm.trans T.l8.mgx
    injection z with z
    injection z
   subst e
   refine' Exists.elim (Pf.MJ T TT KX ?y0 ?y1 ?y2 ?y3 ?y4 ?y5 ?y6 ?y7 ?y8) ?go
   (case y0=>rfl)
   (case y1=>k_is)
   (case y2=>k_is)
   (case y3=>rfl)
   (case y4=>k_is)
   (case y5=>rfl)
   (case y6=>kernel_rfl)
   (case y7=>k_is)
   (case y8=>kernel_rfl)
   case go=>
    rintro ob ⟨t1,t2,t3,t4,t5,t6,hto,hbm⟩
    refine⟨T.l8.fd,Pf.xT T,_,_,_,ob,T.l8.bt,fun base _ _=>Pf.EH T,t1,t2,t3,t4,t5,t6,fun H0 H xs a hx hO hPl hB hwi hask hD=> ?_⟩
    cases hD with
    | cons h1 h2=>
     cases h2
     cases h1 with
     | lst hs ha=>
      have e:=L2.IT a.1 _ ha
      subst e
      obtain⟨cs,hcs,hlen⟩:=Pf.K1 (ns:=a.1) hask
      obtain⟨hsm,hln⟩:=Pf.L6 hwi
      exact⟨_,_,a.1,cs,rfl,Pf.Oo hx hO hs,hto,hbm H hB,.inl hPl,hcs,hsm,hln,hlen,fun H' p hp=> .lst (L2.a4.of hp) (L2.IP _)⟩
