import PyProof.Rows.All
import Wide.All
import OpenK.AllK
import Wide.FinOn
import HandS.ForMost
import HandS.Walk
import HandS.IsInst
import HandS.Conv
import HandS.Zip
import HandS.Style
import HandS.Flow
import HandS.Strs
import HandS.Wide
import HandS.TupAny
import HandS.TupSets
import KE.KDictDisplayH
import HandS.DictComp
import HandS.SetBool
import HandS.Deep
import HandS.TupMul
import HandS.SortInts
import HandS.SortOrd
import PyProof.ReprRoads
import PyProof.Rows.RegFStrParts
import KE.GoesMore
import HandS.TupLe
import HandS.SetFor
import HandS.ExcInit
import KE.KExcInit
import HandS.ExcOwn
import HandS.WordsExc
import KE.KTryMore
import KE.KExcIs
import HandS.CallLocal
import HandS.ExcField
import HandS.ExcIs
import HandS.Star
import HandS.Defaults
import HandS.HeadHook3
import KE.KStateDown
import HandS.Head0
import HandS.Head1
import HandS.Head2
import PySem.Challenge.RW_lookpast_k97_other_sizes
set_option Elab.async false
set_option linter.all false
set_option maxRecDepth 100000
set_option maxHeartbeats 4000000
namespace Lp
open PySem PySem.Spec PyProof.Rows L2
/-! a part of what stands behind the program's top: all but what code objects alone name -/
def t97 (i : Nat) : Stmt := PySem.Challenge.pw_lookpast_k97_other_sizes.main.body.getD i (.Pass ⟨0, 0, 0, 0⟩)
def i97 (s : Stmt) (j : Nat) : Stmt := match s with
  | .ClassDef _ _ _ b _ _ _ _ _ _ _ => b.getD j (.Pass ⟨0, 0, 0, 0⟩)
  | _ => s
def f97 (s : Stmt) (c : Value) (d : Option Addr) (sl : Array (Option Value)) (q : Str) (g : Addr) (cl : List (Str × Addr)) (df kw dc pm : Value) (an : Option Addr) (co ct : Value) (bl : Addr) : Obj := match s with
  | .FunctionDef n a b _ _ _ sc _ _ _ => ⟨c, d, .func ⟨n, q, a, .stmts b, sc, g, cl, df, kw, dc, pm, an, co, ct, bl⟩, sl⟩
  | _ => ⟨c, d, .plain, sl⟩
noncomputable def K97 (P : Params) : PySem.W.Frag :=
(nat_lit 2, (PySem.Obj.mk PySem.Value.none (Option.none) (PySem.Data.dict (List.toArray [(PySem.DictEntry.mk (PySem.PyData.keyHash P (PySem.Str.ofString "type.__subclasses__.OverflowError.0")) (PySem.Value.str (PySem.Str.ofString "type.__subclasses__.OverflowError.0") 548) (PySem.Value.int (285 : Int) 0)),
 (PySem.DictEntry.mk (PySem.PyData.keyHash P (PySem.Str.ofString "type.__subclasses__.OverflowError.n")) (PySem.Value.str (PySem.Str.ofString "type.__subclasses__.OverflowError.n") 549) (PySem.Value.int (1 : Int) 0))]) 2) (List.toArray []))) ::
(nat_lit 3, (PySem.Obj.mk (PySem.Value.type "dict") (Option.none) (PySem.Data.dict (List.toArray ((PySem.DictEntry.mk (PySem.PyData.keyHash P (PySem.Str.ofString "__name__")) (PySem.Value.str (PySem.Str.ofString "__name__") 165) (PySem.Value.str (PySem.Str.ofString "law_lookpast_k97_other_sizes") 1623)) ::
 (PySem.DictEntry.mk (PySem.PyData.keyHash P (PySem.Str.ofString "__doc__")) (PySem.Value.str (PySem.Str.ofString "__doc__") 166) PySem.Value.none) ::
 (PySem.DictEntry.mk (PySem.PyData.keyHash P (PySem.Str.ofString "__package__")) (PySem.Value.str (PySem.Str.ofString "__package__") 167) PySem.Value.none) ::
 (PySem.DictEntry.mk (PySem.PyData.keyHash P (PySem.Str.ofString "__loader__")) (PySem.Value.str (PySem.Str.ofString "__loader__") 168) (PySem.Value.builtin "__main__.__loader__#opaque")) ::
 (PySem.DictEntry.mk (PySem.PyData.keyHash P (PySem.Str.ofString "__spec__")) (PySem.Value.str (PySem.Str.ofString "__spec__") 169) PySem.Value.none) ::
 (PySem.DictEntry.mk (PySem.PyData.keyHash P (PySem.Str.ofString "__annotations__")) (PySem.Value.str (PySem.Str.ofString "__annotations__") 170) (PySem.Value.ref 6)) ::
 (PySem.DictEntry.mk (PySem.PyData.keyHash P (PySem.Str.ofString "__builtins__")) (PySem.Value.str (PySem.Str.ofString "__builtins__") 171) (PySem.Value.ref 4)) ::
 (PySem.DictEntry.mk (PySem.PyData.keyHash P (PySem.Str.ofString "__file__")) (PySem.Value.str (PySem.Str.ofString "__file__") 173) (PySem.Value.str (PySem.Str.ofString "/claim/cut.py") 172)) ::
 (PySem.DictEntry.mk (PySem.PyData.keyHash P (PySem.Str.ofString "__cached__")) (PySem.Value.str (PySem.Str.ofString "__cached__") 174) PySem.Value.none) ::
 (PySem.DictEntry.mk (PySem.PyData.keyHash P (PySem.Str.ofString "_wall")) (PySem.Value.str (PySem.Str.ofString "_wall") 193) (PySem.Value.ref 21)) ::
 (PySem.DictEntry.mk (PySem.PyData.keyHash P (PySem.Str.ofString "kept")) (PySem.Value.str (PySem.Str.ofString "kept") 202) (PySem.Value.ref 28)) ::
 (PySem.DictEntry.mk (PySem.PyData.keyHash P (PySem.Str.ofString "NoPerson")) (PySem.Value.str (PySem.Str.ofString "NoPerson") 229) (PySem.Value.ref 45)) ::
 (PySem.DictEntry.mk (PySem.PyData.keyHash P (PySem.Str.ofString "OtherSize")) (PySem.Value.str (PySem.Str.ofString "OtherSize") 256) (PySem.Value.ref 65)) ::
 (PySem.DictEntry.mk (PySem.PyData.keyHash P (PySem.Str.ofString "NoRoot")) (PySem.Value.str (PySem.Str.ofString "NoRoot") 283) (PySem.Value.ref 85)) ::
 (PySem.DictEntry.mk (PySem.PyData.keyHash P (PySem.Str.ofString "MissingRoot")) (PySem.Value.str (PySem.Str.ofString "MissingRoot") 310) (PySem.Value.ref 105)) ::
 (PySem.DictEntry.mk (PySem.PyData.keyHash P (PySem.Str.ofString "NotKin")) (PySem.Value.str (PySem.Str.ofString "NotKin") 335) (PySem.Value.ref 125)) ::
 (PySem.DictEntry.mk (PySem.PyData.keyHash P (PySem.Str.ofString "NotPast")) (PySem.Value.str (PySem.Str.ofString "NotPast") 360) (PySem.Value.ref 145)) ::
 (PySem.DictEntry.mk (PySem.PyData.keyHash P (PySem.Str.ofString "BadDeed")) (PySem.Value.str (PySem.Str.ofString "BadDeed") 387) (PySem.Value.ref 165)) ::
 (PySem.DictEntry.mk (PySem.PyData.keyHash P (PySem.Str.ofString "BadText")) (PySem.Value.str (PySem.Str.ofString "BadText") 414) (PySem.Value.ref 185)) ::
 (PySem.DictEntry.mk (PySem.PyData.keyHash P (PySem.Str.ofString "Unreachable")) (PySem.Value.str (PySem.Str.ofString "Unreachable") 441) (PySem.Value.ref 205)) ::
 (PySem.DictEntry.mk (PySem.PyData.keyHash P (PySem.Str.ofString "NoCommon")) (PySem.Value.str (PySem.Str.ofString "NoCommon") 468) (PySem.Value.ref 225)) ::
 (PySem.DictEntry.mk (PySem.PyData.keyHash P (PySem.Str.ofString "Denied")) (PySem.Value.str (PySem.Str.ofString "Denied") 495) (PySem.Value.ref 245)) ::
 (PySem.DictEntry.mk (PySem.PyData.keyHash P (PySem.Str.ofString "IsRoot")) (PySem.Value.str (PySem.Str.ofString "IsRoot") 522) (PySem.Value.ref 265)) ::
 (PySem.DictEntry.mk (PySem.PyData.keyHash P (PySem.Str.ofString "TooMany")) (PySem.Value.str (PySem.Str.ofString "TooMany") 551) (PySem.Value.ref 285)) ::
 (PySem.DictEntry.mk (PySem.PyData.keyHash P (PySem.Str.ofString "is_person")) (PySem.Value.str (PySem.Str.ofString "is_person") 561) (PySem.Value.ref 295)) ::
 (PySem.DictEntry.mk (PySem.PyData.keyHash P (PySem.Str.ofString "state_of")) (PySem.Value.str (PySem.Str.ofString "state_of") 567) (PySem.Value.ref 300)) ::
 (PySem.DictEntry.mk (PySem.PyData.keyHash P (PySem.Str.ofString "check_person")) (PySem.Value.str (PySem.Str.ofString "check_person") 575) (PySem.Value.ref 307)) ::
 (PySem.DictEntry.mk (PySem.PyData.keyHash P (PySem.Str.ofString "route_from")) (PySem.Value.str (PySem.Str.ofString "route_from") 586) (PySem.Value.ref 314)) ::
 (PySem.DictEntry.mk (PySem.PyData.keyHash P (PySem.Str.ofString "turned")) (PySem.Value.str (PySem.Str.ofString "turned") 595) (PySem.Value.ref 321)) ::
 (PySem.DictEntry.mk (PySem.PyData.keyHash P (PySem.Str.ofString "ring_begin")) (PySem.Value.str (PySem.Str.ofString "ring_begin") 603) (PySem.Value.ref 328)) ::
 (PySem.DictEntry.mk (PySem.PyData.keyHash P (PySem.Str.ofString "way")) (PySem.Value.str (PySem.Str.ofString "way") 611) (PySem.Value.ref 335)) ::
 (PySem.DictEntry.mk (PySem.PyData.keyHash P (PySem.Str.ofString "person_after")) (PySem.Value.str (PySem.Str.ofString "person_after") 622) (PySem.Value.ref 342)) ::
 (PySem.DictEntry.mk (PySem.PyData.keyHash P (PySem.Str.ofString "ring_of")) (PySem.Value.str (PySem.Str.ofString "ring_of") 632) (PySem.Value.ref 349)) ::
 (PySem.DictEntry.mk (PySem.PyData.keyHash P (PySem.Str.ofString "rings")) (PySem.Value.str (PySem.Str.ofString "rings") 638) (PySem.Value.ref 354)) ::
 (PySem.DictEntry.mk (PySem.PyData.keyHash P (PySem.Str.ofString "height")) (PySem.Value.str (PySem.Str.ofString "height") 646) (PySem.Value.ref 361)) ::
 (PySem.DictEntry.mk (PySem.PyData.keyHash P (PySem.Str.ofString "components")) (PySem.Value.str (PySem.Str.ofString "components") 652) (PySem.Value.ref 366)) ::
 (PySem.DictEntry.mk (PySem.PyData.keyHash P (PySem.Str.ofString "check_word")) (PySem.Value.str (PySem.Str.ofString "check_word") 663) (PySem.Value.ref 373)) ::
 (PySem.DictEntry.mk (PySem.PyData.keyHash P (PySem.Str.ofString "called")) (PySem.Value.str (PySem.Str.ofString "called") 671) (PySem.Value.ref 380)) ::
 (PySem.DictEntry.mk (PySem.PyData.keyHash P (PySem.Str.ofString "called_all")) (PySem.Value.str (PySem.Str.ofString "called_all") 681) (PySem.Value.ref 387)) ::
 (PySem.DictEntry.mk (PySem.PyData.keyHash P (PySem.Str.ofString "states_along")) (PySem.Value.str (PySem.Str.ofString "states_along") 691) (PySem.Value.ref 394)) ::
 (PySem.DictEntry.mk (PySem.PyData.keyHash P (PySem.Str.ofString "idle_calls")) (PySem.Value.str (PySem.Str.ofString "idle_calls") 697) (PySem.Value.ref 399)) ::
 (PySem.DictEntry.mk (PySem.PyData.keyHash P (PySem.Str.ofString "check_size")) (PySem.Value.str (PySem.Str.ofString "check_size") 707) (PySem.Value.ref 406)) ::
 (PySem.DictEntry.mk (PySem.PyData.keyHash P (PySem.Str.ofString "check_future")) (PySem.Value.str (PySem.Str.ofString "check_future") 716) (PySem.Value.ref 413)) ::
 (PySem.DictEntry.mk (PySem.PyData.keyHash P (PySem.Str.ofString "closed_rings")) (PySem.Value.str (PySem.Str.ofString "closed_rings") 726) (PySem.Value.ref 420)) ::
 (PySem.DictEntry.mk (PySem.PyData.keyHash P (PySem.Str.ofString "missed_way")) (PySem.Value.str (PySem.Str.ofString "missed_way") 736) (PySem.Value.ref 427)) ::
 (PySem.DictEntry.mk (PySem.PyData.keyHash P (PySem.Str.ofString "second_ring")) (PySem.Value.str (PySem.Str.ofString "second_ring") 742) (PySem.Value.ref 432)) ::
 (PySem.DictEntry.mk (PySem.PyData.keyHash P (PySem.Str.ofString "meets_first")) (PySem.Value.str (PySem.Str.ofString "meets_first") 753) (PySem.Value.ref 439)) ::
 (PySem.DictEntry.mk (PySem.PyData.keyHash P (PySem.Str.ofString "order_broken")) (PySem.Value.str (PySem.Str.ofString "order_broken") 763) (PySem.Value.ref 446)) ::
 (PySem.DictEntry.mk (PySem.PyData.keyHash P (PySem.Str.ofString "first_obstacle")) (PySem.Value.str (PySem.Str.ofString "first_obstacle") 776) (PySem.Value.ref 453)) ::
 (PySem.DictEntry.mk (PySem.PyData.keyHash P (PySem.Str.ofString "obstacle")) (PySem.Value.str (PySem.Str.ofString "obstacle") 784) (PySem.Value.ref 460)) ::
 (PySem.DictEntry.mk (PySem.PyData.keyHash P (PySem.Str.ofString "leads")) (PySem.Value.str (PySem.Str.ofString "leads") 792) (PySem.Value.ref 467)) ::
 (PySem.DictEntry.mk (PySem.PyData.keyHash P (PySem.Str.ofString "are_apart")) (PySem.Value.str (PySem.Str.ofString "are_apart") 804) (PySem.Value.ref 474)) ::
 (PySem.DictEntry.mk (PySem.PyData.keyHash P (PySem.Str.ofString "are_reversed")) (PySem.Value.str (PySem.Str.ofString "are_reversed") 810) (PySem.Value.ref 479)) ::
 (PySem.DictEntry.mk (PySem.PyData.keyHash P (PySem.Str.ofString "is_obstacle")) (PySem.Value.str (PySem.Str.ofString "is_obstacle") 816) (PySem.Value.ref 484)) ::
 (PySem.DictEntry.mk (PySem.PyData.keyHash P (PySem.Str.ofString "outside_calls")) (PySem.Value.str (PySem.Str.ofString "outside_calls") 822) (PySem.Value.ref 489)) ::
 (PySem.DictEntry.mk (PySem.PyData.keyHash P (PySem.Str.ofString "ring_calls")) (PySem.Value.str (PySem.Str.ofString "ring_calls") 828) (PySem.Value.ref 494)) ::
 (PySem.DictEntry.mk (PySem.PyData.keyHash P (PySem.Str.ofString "word_to")) (PySem.Value.str (PySem.Str.ofString "word_to") 838) (PySem.Value.ref 501)) ::
 (PySem.DictEntry.mk (PySem.PyData.keyHash P (PySem.Str.ofString "is_word_to")) (PySem.Value.str (PySem.Str.ofString "is_word_to") 844) (PySem.Value.ref 506)) ::
 (PySem.DictEntry.mk (PySem.PyData.keyHash P (PySem.Str.ofString "number_without")) (PySem.Value.str (PySem.Str.ofString "number_without") 854) (PySem.Value.ref 513)) ::
 (PySem.DictEntry.mk (PySem.PyData.keyHash P (PySem.Str.ofString "bypassed")) (PySem.Value.str (PySem.Str.ofString "bypassed") 860) (PySem.Value.ref 518)) ::
 (PySem.DictEntry.mk (PySem.PyData.keyHash P (PySem.Str.ofString "is_settled")) (PySem.Value.str (PySem.Str.ofString "is_settled") 868) (PySem.Value.ref 523)) ::
 (PySem.DictEntry.mk (PySem.PyData.keyHash P (PySem.Str.ofString "states_until_settled")) (PySem.Value.str (PySem.Str.ofString "states_until_settled") 877) (PySem.Value.ref 530)) ::
 (PySem.DictEntry.mk (PySem.PyData.keyHash P (PySem.Str.ofString "pointer_later")) (PySem.Value.str (PySem.Str.ofString "pointer_later") 887) (PySem.Value.ref 537)) ::
 (PySem.DictEntry.mk (PySem.PyData.keyHash P (PySem.Str.ofString "repeated")) (PySem.Value.str (PySem.Str.ofString "repeated") 893) (PySem.Value.ref 542)) ::
 (PySem.DictEntry.mk (PySem.PyData.keyHash P (PySem.Str.ofString "changes_many")) (PySem.Value.str (PySem.Str.ofString "changes_many") 901) (PySem.Value.ref 547)) ::
 (PySem.DictEntry.mk (PySem.PyData.keyHash P (PySem.Str.ofString "call_deed")) (PySem.Value.str (PySem.Str.ofString "call_deed") 910) (PySem.Value.ref 554)) ::
 (PySem.DictEntry.mk (PySem.PyData.keyHash P (PySem.Str.ofString "run_deed")) (PySem.Value.str (PySem.Str.ofString "run_deed") 918) (PySem.Value.ref 561)) ::
 (PySem.DictEntry.mk (PySem.PyData.keyHash P (PySem.Str.ofString "repeat_deed")) (PySem.Value.str (PySem.Str.ofString "repeat_deed") 928) (PySem.Value.ref 568)) ::
 (PySem.DictEntry.mk (PySem.PyData.keyHash P (PySem.Str.ofString "become_deed")) (PySem.Value.str (PySem.Str.ofString "become_deed") 936) (PySem.Value.ref 575)) ::
 (PySem.DictEntry.mk (PySem.PyData.keyHash P (PySem.Str.ofString "come_deed")) (PySem.Value.str (PySem.Str.ofString "come_deed") 945) (PySem.Value.ref 583)) ::
 (PySem.DictEntry.mk (PySem.PyData.keyHash P (PySem.Str.ofString "leave_deed")) (PySem.Value.str (PySem.Str.ofString "leave_deed") 953) (PySem.Value.ref 590)) ::
 (PySem.DictEntry.mk (PySem.PyData.keyHash P (PySem.Str.ofString "DEEDS")) (PySem.Value.str (PySem.Str.ofString "DEEDS") 966) (PySem.Value.ref 591)) ::
 (PySem.DictEntry.mk (PySem.PyData.keyHash P (PySem.Str.ofString "ARGUMENTS")) (PySem.Value.str (PySem.Str.ofString "ARGUMENTS") 986) (PySem.Value.ref 592)) ::
 (PySem.DictEntry.mk (PySem.PyData.keyHash P (PySem.Str.ofString "is_deed")) (PySem.Value.str (PySem.Str.ofString "is_deed") 994) (PySem.Value.ref 605)) ::
 (PySem.DictEntry.mk (PySem.PyData.keyHash P (PySem.Str.ofString "check_deeds")) (PySem.Value.str (PySem.Str.ofString "check_deeds") 1003) (PySem.Value.ref 612)) ::
 (PySem.DictEntry.mk (PySem.PyData.keyHash P (PySem.Str.ofString "Circle")) (PySem.Value.str (PySem.Str.ofString "Circle") 1180) (PySem.Value.ref 755)) ::
 (PySem.DictEntry.mk (PySem.PyData.keyHash P (PySem.Str.ofString "product")) (PySem.Value.str (PySem.Str.ofString "product") 1191) (PySem.Value.ref 766)) ::
 (PySem.DictEntry.mk (PySem.PyData.keyHash P (PySem.Str.ofString "factorial")) (PySem.Value.str (PySem.Str.ofString "factorial") 1198) (PySem.Value.ref 773)) ::
 (PySem.DictEntry.mk (PySem.PyData.keyHash P (PySem.Str.ofString "groups_of")) (PySem.Value.str (PySem.Str.ofString "groups_of") 1204) (PySem.Value.ref 778)) ::
 (PySem.DictEntry.mk (PySem.PyData.keyHash P (PySem.Str.ofString "number_in")) (PySem.Value.str (PySem.Str.ofString "number_in") 1210) (PySem.Value.ref 783)) ::
 (PySem.DictEntry.mk (PySem.PyData.keyHash P (PySem.Str.ofString "ring_state")) (PySem.Value.str (PySem.Str.ofString "ring_state") 1221) (PySem.Value.ref 790)) ::
 (PySem.DictEntry.mk (PySem.PyData.keyHash P (PySem.Str.ofString "people_left")) (PySem.Value.str (PySem.Str.ofString "people_left") 1227) (PySem.Value.ref 795)) ::
 (PySem.DictEntry.mk (PySem.PyData.keyHash P (PySem.Str.ofString "ring_pasts_many")) (PySem.Value.str (PySem.Str.ofString "ring_pasts_many") 1236) (PySem.Value.ref 802)) ::
 (PySem.DictEntry.mk (PySem.PyData.keyHash P (PySem.Str.ofString "lap_shares")) (PySem.Value.str (PySem.Str.ofString "lap_shares") 1242) (PySem.Value.ref 807)) ::
 (PySem.DictEntry.mk (PySem.PyData.keyHash P (PySem.Str.ofString "is_ring_past")) (PySem.Value.str (PySem.Str.ofString "is_ring_past") 1248) (PySem.Value.ref 812)) ::
 (PySem.DictEntry.mk (PySem.PyData.keyHash P (PySem.Str.ofString "ring_past_number")) (PySem.Value.str (PySem.Str.ofString "ring_past_number") 1258) (PySem.Value.ref 819)) ::
 (PySem.DictEntry.mk (PySem.PyData.keyHash P (PySem.Str.ofString "orders_many")) (PySem.Value.str (PySem.Str.ofString "orders_many") 1264) (PySem.Value.ref 824)) ::
 (PySem.DictEntry.mk (PySem.PyData.keyHash P (PySem.Str.ofString "has_only_roots")) (PySem.Value.str (PySem.Str.ofString "has_only_roots") 1270) (PySem.Value.ref 829)) ::
 (PySem.DictEntry.mk (PySem.PyData.keyHash P (PySem.Str.ofString "line_pasts_many")) (PySem.Value.str (PySem.Str.ofString "line_pasts_many") 1276) (PySem.Value.ref 834)) ::
 (PySem.DictEntry.mk (PySem.PyData.keyHash P (PySem.Str.ofString "points_among")) (PySem.Value.str (PySem.Str.ofString "points_among") 1282) (PySem.Value.ref 839)) ::
 (PySem.DictEntry.mk (PySem.PyData.keyHash P (PySem.Str.ofString "line_shares")) (PySem.Value.str (PySem.Str.ofString "line_shares") 1288) (PySem.Value.ref 844)) ::
 (PySem.DictEntry.mk (PySem.PyData.keyHash P (PySem.Str.ofString "is_line_past")) (PySem.Value.str (PySem.Str.ofString "is_line_past") 1294) (PySem.Value.ref 849)) ::
 (PySem.DictEntry.mk (PySem.PyData.keyHash P (PySem.Str.ofString "line_past_number")) (PySem.Value.str (PySem.Str.ofString "line_past_number") 1300) (PySem.Value.ref 854)) ::
 (PySem.DictEntry.mk (PySem.PyData.keyHash P (PySem.Str.ofString "check_roots")) (PySem.Value.str (PySem.Str.ofString "check_roots") 1313) (PySem.Value.ref 861)) ::
 (PySem.DictEntry.mk (PySem.PyData.keyHash P (PySem.Str.ofString "rest_with")) (PySem.Value.str (PySem.Str.ofString "rest_with") 1319) (PySem.Value.ref 866)) ::
 (PySem.DictEntry.mk (PySem.PyData.keyHash P (PySem.Str.ofString "people_bar")) (PySem.Value.str (PySem.Str.ofString "people_bar") 1331) (PySem.Value.ref 873)) ::
 (PySem.DictEntry.mk (PySem.PyData.keyHash P (PySem.Str.ofString "shared_members")) (PySem.Value.str (PySem.Str.ofString "shared_members") 1337) (PySem.Value.ref 878)) ::
 (PySem.DictEntry.mk (PySem.PyData.keyHash P (PySem.Str.ofString "future_bar")) (PySem.Value.str (PySem.Str.ofString "future_bar") 1347) (PySem.Value.ref 885)) ::
 (PySem.DictEntry.mk (PySem.PyData.keyHash P (PySem.Str.ofString "common_future")) (PySem.Value.str (PySem.Str.ofString "common_future") 1353) (PySem.Value.ref 890)) ::
 (PySem.DictEntry.mk (PySem.PyData.keyHash P (PySem.Str.ofString "past_bar")) (PySem.Value.str (PySem.Str.ofString "past_bar") 1364) (PySem.Value.ref 897)) ::
 (PySem.DictEntry.mk (PySem.PyData.keyHash P (PySem.Str.ofString "merged")) (PySem.Value.str (PySem.Str.ofString "merged") 1375) (PySem.Value.ref 904)) ::
 (PySem.DictEntry.mk (PySem.PyData.keyHash P (PySem.Str.ofString "common_lap")) (PySem.Value.str (PySem.Str.ofString "common_lap") 1381) (PySem.Value.ref 909)) ::
 (PySem.DictEntry.mk (PySem.PyData.keyHash P (PySem.Str.ofString "common_past")) (PySem.Value.str (PySem.Str.ofString "common_past") 1387) (PySem.Value.ref 914)) ::
 (PySem.DictEntry.mk (PySem.PyData.keyHash P (PySem.Str.ofString "callers")) (PySem.Value.str (PySem.Str.ofString "callers") 1395) (PySem.Value.ref 919)) ::
 (PySem.DictEntry.mk (PySem.PyData.keyHash P (PySem.Str.ofString "ON_RING")) (PySem.Value.str (PySem.Str.ofString "ON_RING") 1400) (PySem.Value.int (Neg.neg (1 : Int)) 1399)) ::
 (PySem.DictEntry.mk (PySem.PyData.keyHash P (PySem.Str.ofString "code_of")) (PySem.Value.str (PySem.Str.ofString "code_of") 1406) (PySem.Value.ref 924)) ::
 (PySem.DictEntry.mk (PySem.PyData.keyHash P (PySem.Str.ofString "futures_many")) (PySem.Value.str (PySem.Str.ofString "futures_many") 1412) (PySem.Value.ref 929)) ::
 (PySem.DictEntry.mk (PySem.PyData.keyHash P (PySem.Str.ofString "ends_in")) (PySem.Value.str (PySem.Str.ofString "ends_in") 1425) (PySem.Value.ref 936)) ::
 (PySem.DictEntry.mk (PySem.PyData.keyHash P (PySem.Str.ofString "member_shares")) (PySem.Value.str (PySem.Str.ofString "member_shares") 1431) (PySem.Value.ref 941)) ::
 (PySem.DictEntry.mk (PySem.PyData.keyHash P (PySem.Str.ofString "code_shares")) (PySem.Value.str (PySem.Str.ofString "code_shares") 1437) (PySem.Value.ref 946)) ::
 (PySem.DictEntry.mk (PySem.PyData.keyHash P (PySem.Str.ofString "number_of")) (PySem.Value.str (PySem.Str.ofString "number_of") 1445) (PySem.Value.ref 953)) ::
 (PySem.DictEntry.mk (PySem.PyData.keyHash P (PySem.Str.ofString "are_kin")) (PySem.Value.str (PySem.Str.ofString "are_kin") 1455) (PySem.Value.ref 960)) ::
 (PySem.DictEntry.mk (PySem.PyData.keyHash P (PySem.Str.ofString "kin_targets")) (PySem.Value.str (PySem.Str.ofString "kin_targets") 1463) (PySem.Value.ref 967)) ::
 (PySem.DictEntry.mk (PySem.PyData.keyHash P (PySem.Str.ofString "kin_many")) (PySem.Value.str (PySem.Str.ofString "kin_many") 1469) (PySem.Value.ref 972)) ::
 (PySem.DictEntry.mk (PySem.PyData.keyHash P (PySem.Str.ofString "kin_shares")) (PySem.Value.str (PySem.Str.ofString "kin_shares") 1475) (PySem.Value.ref 977)) ::
 (PySem.DictEntry.mk (PySem.PyData.keyHash P (PySem.Str.ofString "kin_number")) (PySem.Value.str (PySem.Str.ofString "kin_number") 1483) (PySem.Value.ref 984)) ::
 (PySem.DictEntry.mk (PySem.PyData.keyHash P (PySem.Str.ofString "MOST")) (PySem.Value.str (PySem.Str.ofString "MOST") 1487) (PySem.Value.int (2000 : Int) 1486)) ::
 (PySem.DictEntry.mk (PySem.PyData.keyHash P (PySem.Str.ofString "check_many")) (PySem.Value.str (PySem.Str.ofString "check_many") 1495) (PySem.Value.ref 991)) ::
 (PySem.DictEntry.mk (PySem.PyData.keyHash P (PySem.Str.ofString "moves")) (PySem.Value.str (PySem.Str.ofString "moves") 1501) (PySem.Value.ref 996)) ::
 (PySem.DictEntry.mk (PySem.PyData.keyHash P (PySem.Str.ofString "first_words")) (PySem.Value.str (PySem.Str.ofString "first_words") 1514) (PySem.Value.ref 1003)) ::
 (PySem.DictEntry.mk (PySem.PyData.keyHash P (PySem.Str.ofString "all_futures")) (PySem.Value.str (PySem.Str.ofString "all_futures") 1521) (PySem.Value.ref 1010)) ::
 (PySem.DictEntry.mk (PySem.PyData.keyHash P (PySem.Str.ofString "first_word")) (PySem.Value.str (PySem.Str.ofString "first_word") 1529) (PySem.Value.ref 1017)) ::
 (PySem.DictEntry.mk (PySem.PyData.keyHash P (PySem.Str.ofString "distance")) (PySem.Value.str (PySem.Str.ofString "distance") 1538) (PySem.Value.ref 1024)) ::
 (PySem.DictEntry.mk (PySem.PyData.keyHash P (PySem.Str.ofString "one_call_more")) (PySem.Value.str (PySem.Str.ofString "one_call_more") 1551) (PySem.Value.ref 1031)) ::
 (PySem.DictEntry.mk (PySem.PyData.keyHash P (PySem.Str.ofString "words_many")) (PySem.Value.str (PySem.Str.ofString "words_many") 1557) (PySem.Value.ref 1036)) ::
 (PySem.DictEntry.mk (PySem.PyData.keyHash P (PySem.Str.ofString "meets")) (PySem.Value.str (PySem.Str.ofString "meets") 1565) (PySem.Value.ref 1041)) ::
 (PySem.DictEntry.mk (PySem.PyData.keyHash P (PySem.Str.ofString "wish_obstacle")) (PySem.Value.str (PySem.Str.ofString "wish_obstacle") 1573) (PySem.Value.ref 1048)) ::
 (PySem.DictEntry.mk (PySem.PyData.keyHash P (PySem.Str.ofString "check_wish")) (PySem.Value.str (PySem.Str.ofString "check_wish") 1582) (PySem.Value.ref 1055)) ::
 (PySem.DictEntry.mk (PySem.PyData.keyHash P (PySem.Str.ofString "hub_of")) (PySem.Value.str (PySem.Str.ofString "hub_of") 1588) (PySem.Value.ref 1060)) ::
 (PySem.DictEntry.mk (PySem.PyData.keyHash P (PySem.Str.ofString "granted")) (PySem.Value.str (PySem.Str.ofString "granted") 1599) (PySem.Value.ref 1067)) ::
 (PySem.DictEntry.mk (PySem.PyData.keyHash P (PySem.Str.ofString "can_point")) (PySem.Value.str (PySem.Str.ofString "can_point") 1610) (PySem.Value.ref 1074)) ::
 (PySem.DictEntry.mk (PySem.PyData.keyHash P (PySem.Str.ofString "pointers_for")) (PySem.Value.str (PySem.Str.ofString "pointers_for") 1616) (PySem.Value.ref 1079)) ::
 (PySem.DictEntry.mk (PySem.PyData.keyHash P (PySem.Str.ofString "forced")) (PySem.Value.str (PySem.Str.ofString "forced") 1622) (PySem.Value.ref 1084)) ::
 (PySem.DictEntry.mk (PySem.PyData.keyHash P (PySem.Str.ofString "_law_stream")) (PySem.Value.str (PySem.Str.ofString "_law_stream") 1633) (PySem.Value.ref 1091)) ::
 (PySem.DictEntry.mk (PySem.PyData.keyHash P (PySem.Str.ofString "_law_draw")) (PySem.Value.str (PySem.Str.ofString "_law_draw") 1644) (PySem.Value.ref 1098)) ::
 (PySem.DictEntry.mk (PySem.PyData.keyHash P (PySem.Str.ofString "_law_folded")) (PySem.Value.str (PySem.Str.ofString "_law_folded") 1655) (PySem.Value.ref 1105)) ::
 (PySem.DictEntry.mk (PySem.PyData.keyHash P (PySem.Str.ofString "_law_pick")) (PySem.Value.str (PySem.Str.ofString "_law_pick") 1663) (PySem.Value.ref 1112)) ::
 (PySem.DictEntry.mk (PySem.PyData.keyHash P (PySem.Str.ofString "_law_same")) (PySem.Value.str (PySem.Str.ofString "_law_same") 1669) (PySem.Value.ref 1117)) ::
 (PySem.DictEntry.mk (PySem.PyData.keyHash P (PySem.Str.ofString "_law_shuffled")) (PySem.Value.str (PySem.Str.ofString "_law_shuffled") 1679) (PySem.Value.ref 1124)) ::
 (PySem.DictEntry.mk (PySem.PyData.keyHash P (PySem.Str.ofString "_law_random_state")) (PySem.Value.str (PySem.Str.ofString "_law_random_state") 1685) (PySem.Value.ref 1129)) ::
 (PySem.DictEntry.mk (PySem.PyData.keyHash P (PySem.Str.ofString "_law_two")) (PySem.Value.str (PySem.Str.ofString "_law_two") 1695) (PySem.Value.ref 1136)) ::
 (PySem.DictEntry.mk (PySem.PyData.keyHash P (PySem.Str.ofString "_law_hope")) (PySem.Value.str (PySem.Str.ofString "_law_hope") 1704) (PySem.Value.ref 1143)) ::
 (PySem.DictEntry.mk (PySem.PyData.keyHash P (PySem.Str.ofString "_law_refused")) (PySem.Value.str (PySem.Str.ofString "_law_refused") 1716) (PySem.Value.ref 1150)) ::
 (PySem.DictEntry.mk (PySem.PyData.keyHash P (PySem.Str.ofString "_law_right")) (PySem.Value.str (PySem.Str.ofString "_law_right") 1722) (PySem.Value.ref 1155)) ::
 (PySem.DictEntry.mk (PySem.PyData.keyHash P (PySem.Str.ofString "law")) (PySem.Value.str (PySem.Str.ofString "law") 1728) (PySem.Value.ref 1160)) :: [])) 145) (List.toArray []))) ::
(nat_lit 20, (PySem.Obj.mk (PySem.Value.type "code") (Option.none) (PySem.Data.fields (List.toArray [(PySem.Value.str (PySem.Str.ofString "_wall") 187), (PySem.Value.str (PySem.Str.ofString "_wall") 188), (PySem.Value.str (PySem.Str.ofString "/claim/cut.py") 189), (PySem.Value.int (1 : Int) 0), (PySem.Value.int (1 : Int) 0), (PySem.Value.int (0 : Int) 0), (PySem.Value.int (0 : Int) 0), (PySem.Value.int (3 : Int) 0), (PySem.Value.ref 15), (PySem.Value.bool Bool.true), (PySem.Value.int (181 : Int) 0), (PySem.Value.ref 16), PySem.Value.none, (PySem.Value.ref 17), (PySem.Value.ref 18), (PySem.Value.ref 19), (PySem.Value.int (191 : Int) 0), (PySem.Value.int (1 : Int) 0), (PySem.Value.str (PySem.Str.ofString "/claim/cut.py") 192)])) (List.toArray []))) ::
(nat_lit 21, f97 (t97 0) (PySem.Value.type "function") (Option.none) (List.toArray []) (PySem.Str.ofString "_wall") 3 [] PySem.Value.none PySem.Value.none PySem.Value.none (PySem.Value.str (PySem.Str.ofString "__main__") 164) (Option.none) (PySem.Value.ref 20) PySem.Value.none 0) ::
(nat_lit 27, (PySem.Obj.mk (PySem.Value.type "code") (Option.none) (PySem.Data.fields (List.toArray [(PySem.Value.str (PySem.Str.ofString "kept") 196), (PySem.Value.str (PySem.Str.ofString "kept") 197), (PySem.Value.str (PySem.Str.ofString "/claim/cut.py") 198), (PySem.Value.int (5 : Int) 0), (PySem.Value.int (1 : Int) 0), (PySem.Value.int (0 : Int) 0), (PySem.Value.int (0 : Int) 0), (PySem.Value.int (3 : Int) 0), (PySem.Value.ref 22), (PySem.Value.bool Bool.true), (PySem.Value.int (181 : Int) 0), (PySem.Value.ref 23), PySem.Value.none, (PySem.Value.ref 24), (PySem.Value.ref 25), (PySem.Value.ref 26), (PySem.Value.int (200 : Int) 0), (PySem.Value.int (5 : Int) 0), (PySem.Value.str (PySem.Str.ofString "/claim/cut.py") 201)])) (List.toArray []))) ::
(nat_lit 28, f97 (t97 2) (PySem.Value.type "function") (Option.none) (List.toArray []) (PySem.Str.ofString "kept") 3 [] PySem.Value.none PySem.Value.none PySem.Value.none (PySem.Value.str (PySem.Str.ofString "lookpast.errors") 194) (Option.none) (PySem.Value.ref 27) PySem.Value.none 0) ::
(nat_lit 29, (PySem.Obj.mk (PySem.Value.type "tuple") (Option.none) (PySem.Data.seq (List.toArray [(PySem.Value.type "LookupError")]) 0) (List.toArray []))) ::
(nat_lit 41, (PySem.Obj.mk (PySem.Value.type "code") (Option.none) (PySem.Data.fields (List.toArray [(PySem.Value.str (PySem.Str.ofString "__init__") 215), (PySem.Value.str (PySem.Str.ofString "NoPerson.__init__") 216), (PySem.Value.str (PySem.Str.ofString "/claim/cut.py") 217), (PySem.Value.int (9 : Int) 0), (PySem.Value.int (2 : Int) 0), (PySem.Value.int (0 : Int) 0), (PySem.Value.int (0 : Int) 0), (PySem.Value.int (3 : Int) 0), (PySem.Value.ref 36), (PySem.Value.bool Bool.true), (PySem.Value.int (181 : Int) 0), (PySem.Value.ref 37), PySem.Value.none, (PySem.Value.ref 38), (PySem.Value.ref 39), (PySem.Value.ref 40), (PySem.Value.int (220 : Int) 0), (PySem.Value.int (9 : Int) 0), (PySem.Value.str (PySem.Str.ofString "/claim/cut.py") 221)])) (List.toArray []))) ::
(nat_lit 42, f97 (i97 (t97 3) 0) (PySem.Value.type "function") (Option.none) (List.toArray []) (PySem.Str.ofString "NoPerson.__init__") 3 [] PySem.Value.none PySem.Value.none PySem.Value.none (PySem.Value.str (PySem.Str.ofString "lookpast.errors") 194) (Option.none) (PySem.Value.ref 41) PySem.Value.none 0) ::
(nat_lit 43, (PySem.Obj.mk (PySem.Value.type "tuple") (Option.none) (PySem.Data.seq (List.toArray [(PySem.Value.str (PySem.Str.ofString "person") 223)]) 0) (List.toArray []))) ::
(nat_lit 44, (PySem.Obj.mk (PySem.Value.type "dict") (Option.none) (PySem.Data.dict (List.toArray [(PySem.DictEntry.mk (PySem.PyData.keyHash P (PySem.Str.ofString "__module__")) (PySem.Value.str (PySem.Str.ofString "__module__") 210) (PySem.Value.str (PySem.Str.ofString "lookpast.errors") 194)),
 (PySem.DictEntry.mk (PySem.PyData.keyHash P (PySem.Str.ofString "__firstlineno__")) (PySem.Value.str (PySem.Str.ofString "__firstlineno__") 214) (PySem.Value.int (7 : Int) 213)),
 (PySem.DictEntry.mk (PySem.PyData.keyHash P (PySem.Str.ofString "__init__")) (PySem.Value.str (PySem.Str.ofString "__init__") 222) (PySem.Value.ref 42)),
 (PySem.DictEntry.mk (PySem.PyData.keyHash P (PySem.Str.ofString "__static_attributes__")) (PySem.Value.str (PySem.Str.ofString "__static_attributes__") 224) (PySem.Value.ref 43)),
 (PySem.DictEntry.mk (PySem.PyData.keyHash P (PySem.Str.ofString "__weakref__")) (PySem.Value.str (PySem.Str.ofString "__weakref__") 226) (PySem.Value.ref 46)),
 (PySem.DictEntry.mk (PySem.PyData.keyHash P (PySem.Str.ofString "__doc__")) (PySem.Value.str (PySem.Str.ofString "__doc__") 227) PySem.Value.none)]) 3) (List.toArray []))) ::
(nat_lit 45, (PySem.Obj.mk (PySem.Value.type "type") (Option.none) (PySem.Data.cls (PySem.ClassData.mk (PySem.Str.ofString "NoPerson") [(PySem.Value.type "LookupError")] [(PySem.Value.ref 45), (PySem.Value.type "LookupError"), (PySem.Value.type "Exception"), (PySem.Value.type "BaseException"), (PySem.Value.type "object")] 44 (PySem.Str.ofString "NoPerson") Bool.true [] [] Bool.false (Option.none) Bool.false)) (List.toArray [(Option.some (PySem.Value.ref 29)), (Option.none), (Option.some (PySem.Value.str (PySem.Str.ofString "NoPerson") 203)), (Option.some (PySem.Value.str (PySem.Str.ofString "NoPerson") 211)), (Option.some (PySem.Value.builtin "LookupError.__new__")), (Option.some (PySem.Value.bool Bool.true))]))) ::
(nat_lit 46, (PySem.Obj.mk (PySem.Value.type "getset_descriptor") (Option.none) (PySem.Data.fields (List.toArray [(PySem.Value.str (PySem.Str.ofString "__weakref__") 225), (PySem.Value.ref 45), (PySem.Value.builtin "ExceptionGroup.__weakref__"), PySem.Value.none])) (List.toArray []))) ::
(nat_lit 49, (PySem.Obj.mk (PySem.Value.type "tuple") (Option.none) (PySem.Data.seq (List.toArray [(PySem.Value.type "ValueError")]) 0) (List.toArray []))) ::
(nat_lit 61, (PySem.Obj.mk (PySem.Value.type "code") (Option.none) (PySem.Data.fields (List.toArray [(PySem.Value.str (PySem.Str.ofString "__init__") 242), (PySem.Value.str (PySem.Str.ofString "OtherSize.__init__") 243), (PySem.Value.str (PySem.Str.ofString "/claim/cut.py") 244), (PySem.Value.int (14 : Int) 0), (PySem.Value.int (2 : Int) 0), (PySem.Value.int (0 : Int) 0), (PySem.Value.int (0 : Int) 0), (PySem.Value.int (3 : Int) 0), (PySem.Value.ref 56), (PySem.Value.bool Bool.true), (PySem.Value.int (181 : Int) 0), (PySem.Value.ref 57), PySem.Value.none, (PySem.Value.ref 58), (PySem.Value.ref 59), (PySem.Value.ref 60), (PySem.Value.int (247 : Int) 0), (PySem.Value.int (14 : Int) 0), (PySem.Value.str (PySem.Str.ofString "/claim/cut.py") 248)])) (List.toArray []))) ::
(nat_lit 62, f97 (i97 (t97 4) 0) (PySem.Value.type "function") (Option.none) (List.toArray []) (PySem.Str.ofString "OtherSize.__init__") 3 [] PySem.Value.none PySem.Value.none PySem.Value.none (PySem.Value.str (PySem.Str.ofString "lookpast.errors") 194) (Option.none) (PySem.Value.ref 61) PySem.Value.none 0) ::
(nat_lit 63, (PySem.Obj.mk (PySem.Value.type "tuple") (Option.none) (PySem.Data.seq (List.toArray [(PySem.Value.str (PySem.Str.ofString "size") 250)]) 0) (List.toArray []))) ::
(nat_lit 64, (PySem.Obj.mk (PySem.Value.type "dict") (Option.none) (PySem.Data.dict (List.toArray [(PySem.DictEntry.mk (PySem.PyData.keyHash P (PySem.Str.ofString "__module__")) (PySem.Value.str (PySem.Str.ofString "__module__") 237) (PySem.Value.str (PySem.Str.ofString "lookpast.errors") 194)),
 (PySem.DictEntry.mk (PySem.PyData.keyHash P (PySem.Str.ofString "__firstlineno__")) (PySem.Value.str (PySem.Str.ofString "__firstlineno__") 241) (PySem.Value.int (12 : Int) 240)),
 (PySem.DictEntry.mk (PySem.PyData.keyHash P (PySem.Str.ofString "__init__")) (PySem.Value.str (PySem.Str.ofString "__init__") 249) (PySem.Value.ref 62)),
 (PySem.DictEntry.mk (PySem.PyData.keyHash P (PySem.Str.ofString "__static_attributes__")) (PySem.Value.str (PySem.Str.ofString "__static_attributes__") 251) (PySem.Value.ref 63)),
 (PySem.DictEntry.mk (PySem.PyData.keyHash P (PySem.Str.ofString "__weakref__")) (PySem.Value.str (PySem.Str.ofString "__weakref__") 253) (PySem.Value.ref 66)),
 (PySem.DictEntry.mk (PySem.PyData.keyHash P (PySem.Str.ofString "__doc__")) (PySem.Value.str (PySem.Str.ofString "__doc__") 254) PySem.Value.none)]) 3) (List.toArray []))) ::
(nat_lit 65, (PySem.Obj.mk (PySem.Value.type "type") (Option.none) (PySem.Data.cls (PySem.ClassData.mk (PySem.Str.ofString "OtherSize") [(PySem.Value.type "ValueError")] [(PySem.Value.ref 65), (PySem.Value.type "ValueError"), (PySem.Value.type "Exception"), (PySem.Value.type "BaseException"), (PySem.Value.type "object")] 64 (PySem.Str.ofString "OtherSize") Bool.true [] [] Bool.false (Option.none) Bool.false)) (List.toArray [(Option.some (PySem.Value.ref 49)), (Option.none), (Option.some (PySem.Value.str (PySem.Str.ofString "OtherSize") 230)), (Option.some (PySem.Value.str (PySem.Str.ofString "OtherSize") 238)), (Option.some (PySem.Value.builtin "ValueError.__new__")), (Option.some (PySem.Value.bool Bool.true))]))) ::
(nat_lit 66, (PySem.Obj.mk (PySem.Value.type "getset_descriptor") (Option.none) (PySem.Data.fields (List.toArray [(PySem.Value.str (PySem.Str.ofString "__weakref__") 252), (PySem.Value.ref 65), (PySem.Value.builtin "ExceptionGroup.__weakref__"), PySem.Value.none])) (List.toArray []))) ::
(nat_lit 69, (PySem.Obj.mk (PySem.Value.type "tuple") (Option.none) (PySem.Data.seq (List.toArray [(PySem.Value.type "ValueError")]) 0) (List.toArray []))) ::
(nat_lit 81, (PySem.Obj.mk (PySem.Value.type "code") (Option.none) (PySem.Data.fields (List.toArray [(PySem.Value.str (PySem.Str.ofString "__init__") 269), (PySem.Value.str (PySem.Str.ofString "NoRoot.__init__") 270), (PySem.Value.str (PySem.Str.ofString "/claim/cut.py") 271), (PySem.Value.int (19 : Int) 0), (PySem.Value.int (2 : Int) 0), (PySem.Value.int (0 : Int) 0), (PySem.Value.int (0 : Int) 0), (PySem.Value.int (3 : Int) 0), (PySem.Value.ref 76), (PySem.Value.bool Bool.true), (PySem.Value.int (181 : Int) 0), (PySem.Value.ref 77), PySem.Value.none, (PySem.Value.ref 78), (PySem.Value.ref 79), (PySem.Value.ref 80), (PySem.Value.int (274 : Int) 0), (PySem.Value.int (19 : Int) 0), (PySem.Value.str (PySem.Str.ofString "/claim/cut.py") 275)])) (List.toArray []))) ::
(nat_lit 82, f97 (i97 (t97 5) 0) (PySem.Value.type "function") (Option.none) (List.toArray []) (PySem.Str.ofString "NoRoot.__init__") 3 [] PySem.Value.none PySem.Value.none PySem.Value.none (PySem.Value.str (PySem.Str.ofString "lookpast.errors") 194) (Option.none) (PySem.Value.ref 81) PySem.Value.none 0) ::
(nat_lit 83, (PySem.Obj.mk (PySem.Value.type "tuple") (Option.none) (PySem.Data.seq (List.toArray [(PySem.Value.str (PySem.Str.ofString "person") 277)]) 0) (List.toArray []))) ::
(nat_lit 84, (PySem.Obj.mk (PySem.Value.type "dict") (Option.none) (PySem.Data.dict (List.toArray [(PySem.DictEntry.mk (PySem.PyData.keyHash P (PySem.Str.ofString "__module__")) (PySem.Value.str (PySem.Str.ofString "__module__") 264) (PySem.Value.str (PySem.Str.ofString "lookpast.errors") 194)),
 (PySem.DictEntry.mk (PySem.PyData.keyHash P (PySem.Str.ofString "__firstlineno__")) (PySem.Value.str (PySem.Str.ofString "__firstlineno__") 268) (PySem.Value.int (17 : Int) 267)),
 (PySem.DictEntry.mk (PySem.PyData.keyHash P (PySem.Str.ofString "__init__")) (PySem.Value.str (PySem.Str.ofString "__init__") 276) (PySem.Value.ref 82)),
 (PySem.DictEntry.mk (PySem.PyData.keyHash P (PySem.Str.ofString "__static_attributes__")) (PySem.Value.str (PySem.Str.ofString "__static_attributes__") 278) (PySem.Value.ref 83)),
 (PySem.DictEntry.mk (PySem.PyData.keyHash P (PySem.Str.ofString "__weakref__")) (PySem.Value.str (PySem.Str.ofString "__weakref__") 280) (PySem.Value.ref 86)),
 (PySem.DictEntry.mk (PySem.PyData.keyHash P (PySem.Str.ofString "__doc__")) (PySem.Value.str (PySem.Str.ofString "__doc__") 281) PySem.Value.none)]) 3) (List.toArray []))) ::
(nat_lit 85, (PySem.Obj.mk (PySem.Value.type "type") (Option.none) (PySem.Data.cls (PySem.ClassData.mk (PySem.Str.ofString "NoRoot") [(PySem.Value.type "ValueError")] [(PySem.Value.ref 85), (PySem.Value.type "ValueError"), (PySem.Value.type "Exception"), (PySem.Value.type "BaseException"), (PySem.Value.type "object")] 84 (PySem.Str.ofString "NoRoot") Bool.true [] [] Bool.false (Option.none) Bool.false)) (List.toArray [(Option.some (PySem.Value.ref 69)), (Option.none), (Option.some (PySem.Value.str (PySem.Str.ofString "NoRoot") 257)), (Option.some (PySem.Value.str (PySem.Str.ofString "NoRoot") 265)), (Option.some (PySem.Value.builtin "ValueError.__new__")), (Option.some (PySem.Value.bool Bool.true))]))) ::
(nat_lit 86, (PySem.Obj.mk (PySem.Value.type "getset_descriptor") (Option.none) (PySem.Data.fields (List.toArray [(PySem.Value.str (PySem.Str.ofString "__weakref__") 279), (PySem.Value.ref 85), (PySem.Value.builtin "ExceptionGroup.__weakref__"), PySem.Value.none])) (List.toArray []))) ::
(nat_lit 89, (PySem.Obj.mk (PySem.Value.type "tuple") (Option.none) (PySem.Data.seq (List.toArray [(PySem.Value.type "ValueError")]) 0) (List.toArray []))) ::
(nat_lit 101, (PySem.Obj.mk (PySem.Value.type "code") (Option.none) (PySem.Data.fields (List.toArray [(PySem.Value.str (PySem.Str.ofString "__init__") 296), (PySem.Value.str (PySem.Str.ofString "MissingRoot.__init__") 297), (PySem.Value.str (PySem.Str.ofString "/claim/cut.py") 298), (PySem.Value.int (24 : Int) 0), (PySem.Value.int (2 : Int) 0), (PySem.Value.int (0 : Int) 0), (PySem.Value.int (0 : Int) 0), (PySem.Value.int (3 : Int) 0), (PySem.Value.ref 96), (PySem.Value.bool Bool.true), (PySem.Value.int (181 : Int) 0), (PySem.Value.ref 97), PySem.Value.none, (PySem.Value.ref 98), (PySem.Value.ref 99), (PySem.Value.ref 100), (PySem.Value.int (301 : Int) 0), (PySem.Value.int (24 : Int) 0), (PySem.Value.str (PySem.Str.ofString "/claim/cut.py") 302)])) (List.toArray []))) ::
(nat_lit 102, f97 (i97 (t97 6) 0) (PySem.Value.type "function") (Option.none) (List.toArray []) (PySem.Str.ofString "MissingRoot.__init__") 3 [] PySem.Value.none PySem.Value.none PySem.Value.none (PySem.Value.str (PySem.Str.ofString "lookpast.errors") 194) (Option.none) (PySem.Value.ref 101) PySem.Value.none 0) ::
(nat_lit 103, (PySem.Obj.mk (PySem.Value.type "tuple") (Option.none) (PySem.Data.seq (List.toArray [(PySem.Value.str (PySem.Str.ofString "person") 304)]) 0) (List.toArray []))) ::
(nat_lit 104, (PySem.Obj.mk (PySem.Value.type "dict") (Option.none) (PySem.Data.dict (List.toArray [(PySem.DictEntry.mk (PySem.PyData.keyHash P (PySem.Str.ofString "__module__")) (PySem.Value.str (PySem.Str.ofString "__module__") 291) (PySem.Value.str (PySem.Str.ofString "lookpast.errors") 194)),
 (PySem.DictEntry.mk (PySem.PyData.keyHash P (PySem.Str.ofString "__firstlineno__")) (PySem.Value.str (PySem.Str.ofString "__firstlineno__") 295) (PySem.Value.int (22 : Int) 294)),
 (PySem.DictEntry.mk (PySem.PyData.keyHash P (PySem.Str.ofString "__init__")) (PySem.Value.str (PySem.Str.ofString "__init__") 303) (PySem.Value.ref 102)),
 (PySem.DictEntry.mk (PySem.PyData.keyHash P (PySem.Str.ofString "__static_attributes__")) (PySem.Value.str (PySem.Str.ofString "__static_attributes__") 305) (PySem.Value.ref 103)),
 (PySem.DictEntry.mk (PySem.PyData.keyHash P (PySem.Str.ofString "__weakref__")) (PySem.Value.str (PySem.Str.ofString "__weakref__") 307) (PySem.Value.ref 106)),
 (PySem.DictEntry.mk (PySem.PyData.keyHash P (PySem.Str.ofString "__doc__")) (PySem.Value.str (PySem.Str.ofString "__doc__") 308) PySem.Value.none)]) 3) (List.toArray []))) ::
(nat_lit 105, (PySem.Obj.mk (PySem.Value.type "type") (Option.none) (PySem.Data.cls (PySem.ClassData.mk (PySem.Str.ofString "MissingRoot") [(PySem.Value.type "ValueError")] [(PySem.Value.ref 105), (PySem.Value.type "ValueError"), (PySem.Value.type "Exception"), (PySem.Value.type "BaseException"), (PySem.Value.type "object")] 104 (PySem.Str.ofString "MissingRoot") Bool.true [] [] Bool.false (Option.none) Bool.false)) (List.toArray [(Option.some (PySem.Value.ref 89)), (Option.none), (Option.some (PySem.Value.str (PySem.Str.ofString "MissingRoot") 284)), (Option.some (PySem.Value.str (PySem.Str.ofString "MissingRoot") 292)), (Option.some (PySem.Value.builtin "ValueError.__new__")), (Option.some (PySem.Value.bool Bool.true))]))) ::
(nat_lit 106, (PySem.Obj.mk (PySem.Value.type "getset_descriptor") (Option.none) (PySem.Data.fields (List.toArray [(PySem.Value.str (PySem.Str.ofString "__weakref__") 306), (PySem.Value.ref 105), (PySem.Value.builtin "ExceptionGroup.__weakref__"), PySem.Value.none])) (List.toArray []))) ::
(nat_lit 109, (PySem.Obj.mk (PySem.Value.type "tuple") (Option.none) (PySem.Data.seq (List.toArray [(PySem.Value.type "ValueError")]) 0) (List.toArray []))) ::
(nat_lit 121, (PySem.Obj.mk (PySem.Value.type "code") (Option.none) (PySem.Data.fields (List.toArray [(PySem.Value.str (PySem.Str.ofString "__init__") 323), (PySem.Value.str (PySem.Str.ofString "NotKin.__init__") 324), (PySem.Value.str (PySem.Str.ofString "/claim/cut.py") 325), (PySem.Value.int (29 : Int) 0), (PySem.Value.int (1 : Int) 0), (PySem.Value.int (0 : Int) 0), (PySem.Value.int (0 : Int) 0), (PySem.Value.int (3 : Int) 0), (PySem.Value.ref 116), (PySem.Value.bool Bool.true), (PySem.Value.int (181 : Int) 0), (PySem.Value.ref 117), PySem.Value.none, (PySem.Value.ref 118), (PySem.Value.ref 119), (PySem.Value.ref 120), (PySem.Value.int (327 : Int) 0), (PySem.Value.int (29 : Int) 0), (PySem.Value.str (PySem.Str.ofString "/claim/cut.py") 328)])) (List.toArray []))) ::
(nat_lit 122, f97 (i97 (t97 7) 0) (PySem.Value.type "function") (Option.none) (List.toArray []) (PySem.Str.ofString "NotKin.__init__") 3 [] PySem.Value.none PySem.Value.none PySem.Value.none (PySem.Value.str (PySem.Str.ofString "lookpast.errors") 194) (Option.none) (PySem.Value.ref 121) PySem.Value.none 0) ::
(nat_lit 123, (PySem.Obj.mk (PySem.Value.type "tuple") (Option.none) (PySem.Data.seq (List.toArray []) 0) (List.toArray []))) ::
(nat_lit 124, (PySem.Obj.mk (PySem.Value.type "dict") (Option.none) (PySem.Data.dict (List.toArray [(PySem.DictEntry.mk (PySem.PyData.keyHash P (PySem.Str.ofString "__module__")) (PySem.Value.str (PySem.Str.ofString "__module__") 318) (PySem.Value.str (PySem.Str.ofString "lookpast.errors") 194)),
 (PySem.DictEntry.mk (PySem.PyData.keyHash P (PySem.Str.ofString "__firstlineno__")) (PySem.Value.str (PySem.Str.ofString "__firstlineno__") 322) (PySem.Value.int (27 : Int) 321)),
 (PySem.DictEntry.mk (PySem.PyData.keyHash P (PySem.Str.ofString "__init__")) (PySem.Value.str (PySem.Str.ofString "__init__") 329) (PySem.Value.ref 122)),
 (PySem.DictEntry.mk (PySem.PyData.keyHash P (PySem.Str.ofString "__static_attributes__")) (PySem.Value.str (PySem.Str.ofString "__static_attributes__") 330) (PySem.Value.ref 123)),
 (PySem.DictEntry.mk (PySem.PyData.keyHash P (PySem.Str.ofString "__weakref__")) (PySem.Value.str (PySem.Str.ofString "__weakref__") 332) (PySem.Value.ref 126)),
 (PySem.DictEntry.mk (PySem.PyData.keyHash P (PySem.Str.ofString "__doc__")) (PySem.Value.str (PySem.Str.ofString "__doc__") 333) PySem.Value.none)]) 3) (List.toArray []))) ::
(nat_lit 125, (PySem.Obj.mk (PySem.Value.type "type") (Option.none) (PySem.Data.cls (PySem.ClassData.mk (PySem.Str.ofString "NotKin") [(PySem.Value.type "ValueError")] [(PySem.Value.ref 125), (PySem.Value.type "ValueError"), (PySem.Value.type "Exception"), (PySem.Value.type "BaseException"), (PySem.Value.type "object")] 124 (PySem.Str.ofString "NotKin") Bool.true [] [] Bool.false (Option.none) Bool.false)) (List.toArray [(Option.some (PySem.Value.ref 109)), (Option.none), (Option.some (PySem.Value.str (PySem.Str.ofString "NotKin") 311)), (Option.some (PySem.Value.str (PySem.Str.ofString "NotKin") 319)), (Option.some (PySem.Value.builtin "ValueError.__new__")), (Option.some (PySem.Value.bool Bool.true))]))) ::
(nat_lit 126, (PySem.Obj.mk (PySem.Value.type "getset_descriptor") (Option.none) (PySem.Data.fields (List.toArray [(PySem.Value.str (PySem.Str.ofString "__weakref__") 331), (PySem.Value.ref 125), (PySem.Value.builtin "ExceptionGroup.__weakref__"), PySem.Value.none])) (List.toArray []))) ::
(nat_lit 129, (PySem.Obj.mk (PySem.Value.type "tuple") (Option.none) (PySem.Data.seq (List.toArray [(PySem.Value.type "ValueError")]) 0) (List.toArray []))) ::
(nat_lit 141, (PySem.Obj.mk (PySem.Value.type "code") (Option.none) (PySem.Data.fields (List.toArray [(PySem.Value.str (PySem.Str.ofString "__init__") 348), (PySem.Value.str (PySem.Str.ofString "NotPast.__init__") 349), (PySem.Value.str (PySem.Str.ofString "/claim/cut.py") 350), (PySem.Value.int (33 : Int) 0), (PySem.Value.int (1 : Int) 0), (PySem.Value.int (0 : Int) 0), (PySem.Value.int (0 : Int) 0), (PySem.Value.int (3 : Int) 0), (PySem.Value.ref 136), (PySem.Value.bool Bool.true), (PySem.Value.int (181 : Int) 0), (PySem.Value.ref 137), PySem.Value.none, (PySem.Value.ref 138), (PySem.Value.ref 139), (PySem.Value.ref 140), (PySem.Value.int (352 : Int) 0), (PySem.Value.int (33 : Int) 0), (PySem.Value.str (PySem.Str.ofString "/claim/cut.py") 353)])) (List.toArray []))) ::
(nat_lit 142, f97 (i97 (t97 8) 0) (PySem.Value.type "function") (Option.none) (List.toArray []) (PySem.Str.ofString "NotPast.__init__") 3 [] PySem.Value.none PySem.Value.none PySem.Value.none (PySem.Value.str (PySem.Str.ofString "lookpast.errors") 194) (Option.none) (PySem.Value.ref 141) PySem.Value.none 0) ::
(nat_lit 143, (PySem.Obj.mk (PySem.Value.type "tuple") (Option.none) (PySem.Data.seq (List.toArray []) 0) (List.toArray []))) ::
(nat_lit 144, (PySem.Obj.mk (PySem.Value.type "dict") (Option.none) (PySem.Data.dict (List.toArray [(PySem.DictEntry.mk (PySem.PyData.keyHash P (PySem.Str.ofString "__module__")) (PySem.Value.str (PySem.Str.ofString "__module__") 343) (PySem.Value.str (PySem.Str.ofString "lookpast.errors") 194)),
 (PySem.DictEntry.mk (PySem.PyData.keyHash P (PySem.Str.ofString "__firstlineno__")) (PySem.Value.str (PySem.Str.ofString "__firstlineno__") 347) (PySem.Value.int (31 : Int) 346)),
 (PySem.DictEntry.mk (PySem.PyData.keyHash P (PySem.Str.ofString "__init__")) (PySem.Value.str (PySem.Str.ofString "__init__") 354) (PySem.Value.ref 142)),
 (PySem.DictEntry.mk (PySem.PyData.keyHash P (PySem.Str.ofString "__static_attributes__")) (PySem.Value.str (PySem.Str.ofString "__static_attributes__") 355) (PySem.Value.ref 143)),
 (PySem.DictEntry.mk (PySem.PyData.keyHash P (PySem.Str.ofString "__weakref__")) (PySem.Value.str (PySem.Str.ofString "__weakref__") 357) (PySem.Value.ref 146)),
 (PySem.DictEntry.mk (PySem.PyData.keyHash P (PySem.Str.ofString "__doc__")) (PySem.Value.str (PySem.Str.ofString "__doc__") 358) PySem.Value.none)]) 3) (List.toArray []))) ::
(nat_lit 145, (PySem.Obj.mk (PySem.Value.type "type") (Option.none) (PySem.Data.cls (PySem.ClassData.mk (PySem.Str.ofString "NotPast") [(PySem.Value.type "ValueError")] [(PySem.Value.ref 145), (PySem.Value.type "ValueError"), (PySem.Value.type "Exception"), (PySem.Value.type "BaseException"), (PySem.Value.type "object")] 144 (PySem.Str.ofString "NotPast") Bool.true [] [] Bool.false (Option.none) Bool.false)) (List.toArray [(Option.some (PySem.Value.ref 129)), (Option.none), (Option.some (PySem.Value.str (PySem.Str.ofString "NotPast") 336)), (Option.some (PySem.Value.str (PySem.Str.ofString "NotPast") 344)), (Option.some (PySem.Value.builtin "ValueError.__new__")), (Option.some (PySem.Value.bool Bool.true))]))) ::
(nat_lit 146, (PySem.Obj.mk (PySem.Value.type "getset_descriptor") (Option.none) (PySem.Data.fields (List.toArray [(PySem.Value.str (PySem.Str.ofString "__weakref__") 356), (PySem.Value.ref 145), (PySem.Value.builtin "ExceptionGroup.__weakref__"), PySem.Value.none])) (List.toArray []))) ::
(nat_lit 149, (PySem.Obj.mk (PySem.Value.type "tuple") (Option.none) (PySem.Data.seq (List.toArray [(PySem.Value.type "ValueError")]) 0) (List.toArray []))) ::
(nat_lit 161, (PySem.Obj.mk (PySem.Value.type "code") (Option.none) (PySem.Data.fields (List.toArray [(PySem.Value.str (PySem.Str.ofString "__init__") 373), (PySem.Value.str (PySem.Str.ofString "BadDeed.__init__") 374), (PySem.Value.str (PySem.Str.ofString "/claim/cut.py") 375), (PySem.Value.int (37 : Int) 0), (PySem.Value.int (2 : Int) 0), (PySem.Value.int (0 : Int) 0), (PySem.Value.int (0 : Int) 0), (PySem.Value.int (3 : Int) 0), (PySem.Value.ref 156), (PySem.Value.bool Bool.true), (PySem.Value.int (181 : Int) 0), (PySem.Value.ref 157), PySem.Value.none, (PySem.Value.ref 158), (PySem.Value.ref 159), (PySem.Value.ref 160), (PySem.Value.int (378 : Int) 0), (PySem.Value.int (37 : Int) 0), (PySem.Value.str (PySem.Str.ofString "/claim/cut.py") 379)])) (List.toArray []))) ::
(nat_lit 162, f97 (i97 (t97 9) 0) (PySem.Value.type "function") (Option.none) (List.toArray []) (PySem.Str.ofString "BadDeed.__init__") 3 [] PySem.Value.none PySem.Value.none PySem.Value.none (PySem.Value.str (PySem.Str.ofString "lookpast.errors") 194) (Option.none) (PySem.Value.ref 161) PySem.Value.none 0) ::
(nat_lit 163, (PySem.Obj.mk (PySem.Value.type "tuple") (Option.none) (PySem.Data.seq (List.toArray [(PySem.Value.str (PySem.Str.ofString "at") 381)]) 0) (List.toArray []))) ::
(nat_lit 164, (PySem.Obj.mk (PySem.Value.type "dict") (Option.none) (PySem.Data.dict (List.toArray [(PySem.DictEntry.mk (PySem.PyData.keyHash P (PySem.Str.ofString "__module__")) (PySem.Value.str (PySem.Str.ofString "__module__") 368) (PySem.Value.str (PySem.Str.ofString "lookpast.errors") 194)),
 (PySem.DictEntry.mk (PySem.PyData.keyHash P (PySem.Str.ofString "__firstlineno__")) (PySem.Value.str (PySem.Str.ofString "__firstlineno__") 372) (PySem.Value.int (35 : Int) 371)),
 (PySem.DictEntry.mk (PySem.PyData.keyHash P (PySem.Str.ofString "__init__")) (PySem.Value.str (PySem.Str.ofString "__init__") 380) (PySem.Value.ref 162)),
 (PySem.DictEntry.mk (PySem.PyData.keyHash P (PySem.Str.ofString "__static_attributes__")) (PySem.Value.str (PySem.Str.ofString "__static_attributes__") 382) (PySem.Value.ref 163)),
 (PySem.DictEntry.mk (PySem.PyData.keyHash P (PySem.Str.ofString "__weakref__")) (PySem.Value.str (PySem.Str.ofString "__weakref__") 384) (PySem.Value.ref 166)),
 (PySem.DictEntry.mk (PySem.PyData.keyHash P (PySem.Str.ofString "__doc__")) (PySem.Value.str (PySem.Str.ofString "__doc__") 385) PySem.Value.none)]) 3) (List.toArray []))) ::
(nat_lit 165, (PySem.Obj.mk (PySem.Value.type "type") (Option.none) (PySem.Data.cls (PySem.ClassData.mk (PySem.Str.ofString "BadDeed") [(PySem.Value.type "ValueError")] [(PySem.Value.ref 165), (PySem.Value.type "ValueError"), (PySem.Value.type "Exception"), (PySem.Value.type "BaseException"), (PySem.Value.type "object")] 164 (PySem.Str.ofString "BadDeed") Bool.true [] [] Bool.false (Option.none) Bool.false)) (List.toArray [(Option.some (PySem.Value.ref 149)), (Option.none), (Option.some (PySem.Value.str (PySem.Str.ofString "BadDeed") 361)), (Option.some (PySem.Value.str (PySem.Str.ofString "BadDeed") 369)), (Option.some (PySem.Value.builtin "ValueError.__new__")), (Option.some (PySem.Value.bool Bool.true))]))) ::
(nat_lit 166, (PySem.Obj.mk (PySem.Value.type "getset_descriptor") (Option.none) (PySem.Data.fields (List.toArray [(PySem.Value.str (PySem.Str.ofString "__weakref__") 383), (PySem.Value.ref 165), (PySem.Value.builtin "ExceptionGroup.__weakref__"), PySem.Value.none])) (List.toArray []))) ::
(nat_lit 169, (PySem.Obj.mk (PySem.Value.type "tuple") (Option.none) (PySem.Data.seq (List.toArray [(PySem.Value.type "ValueError")]) 0) (List.toArray []))) ::
(nat_lit 181, (PySem.Obj.mk (PySem.Value.type "code") (Option.none) (PySem.Data.fields (List.toArray [(PySem.Value.str (PySem.Str.ofString "__init__") 400), (PySem.Value.str (PySem.Str.ofString "BadText.__init__") 401), (PySem.Value.str (PySem.Str.ofString "/claim/cut.py") 402), (PySem.Value.int (42 : Int) 0), (PySem.Value.int (2 : Int) 0), (PySem.Value.int (0 : Int) 0), (PySem.Value.int (0 : Int) 0), (PySem.Value.int (3 : Int) 0), (PySem.Value.ref 176), (PySem.Value.bool Bool.true), (PySem.Value.int (181 : Int) 0), (PySem.Value.ref 177), PySem.Value.none, (PySem.Value.ref 178), (PySem.Value.ref 179), (PySem.Value.ref 180), (PySem.Value.int (405 : Int) 0), (PySem.Value.int (42 : Int) 0), (PySem.Value.str (PySem.Str.ofString "/claim/cut.py") 406)])) (List.toArray []))) ::
(nat_lit 182, f97 (i97 (t97 10) 0) (PySem.Value.type "function") (Option.none) (List.toArray []) (PySem.Str.ofString "BadText.__init__") 3 [] PySem.Value.none PySem.Value.none PySem.Value.none (PySem.Value.str (PySem.Str.ofString "lookpast.errors") 194) (Option.none) (PySem.Value.ref 181) PySem.Value.none 0) ::
(nat_lit 183, (PySem.Obj.mk (PySem.Value.type "tuple") (Option.none) (PySem.Data.seq (List.toArray [(PySem.Value.str (PySem.Str.ofString "at") 408)]) 0) (List.toArray []))) ::
(nat_lit 184, (PySem.Obj.mk (PySem.Value.type "dict") (Option.none) (PySem.Data.dict (List.toArray [(PySem.DictEntry.mk (PySem.PyData.keyHash P (PySem.Str.ofString "__module__")) (PySem.Value.str (PySem.Str.ofString "__module__") 395) (PySem.Value.str (PySem.Str.ofString "lookpast.errors") 194)),
 (PySem.DictEntry.mk (PySem.PyData.keyHash P (PySem.Str.ofString "__firstlineno__")) (PySem.Value.str (PySem.Str.ofString "__firstlineno__") 399) (PySem.Value.int (40 : Int) 398)),
 (PySem.DictEntry.mk (PySem.PyData.keyHash P (PySem.Str.ofString "__init__")) (PySem.Value.str (PySem.Str.ofString "__init__") 407) (PySem.Value.ref 182)),
 (PySem.DictEntry.mk (PySem.PyData.keyHash P (PySem.Str.ofString "__static_attributes__")) (PySem.Value.str (PySem.Str.ofString "__static_attributes__") 409) (PySem.Value.ref 183)),
 (PySem.DictEntry.mk (PySem.PyData.keyHash P (PySem.Str.ofString "__weakref__")) (PySem.Value.str (PySem.Str.ofString "__weakref__") 411) (PySem.Value.ref 186)),
 (PySem.DictEntry.mk (PySem.PyData.keyHash P (PySem.Str.ofString "__doc__")) (PySem.Value.str (PySem.Str.ofString "__doc__") 412) PySem.Value.none)]) 3) (List.toArray []))) ::
(nat_lit 185, (PySem.Obj.mk (PySem.Value.type "type") (Option.none) (PySem.Data.cls (PySem.ClassData.mk (PySem.Str.ofString "BadText") [(PySem.Value.type "ValueError")] [(PySem.Value.ref 185), (PySem.Value.type "ValueError"), (PySem.Value.type "Exception"), (PySem.Value.type "BaseException"), (PySem.Value.type "object")] 184 (PySem.Str.ofString "BadText") Bool.true [] [] Bool.false (Option.none) Bool.false)) (List.toArray [(Option.some (PySem.Value.ref 169)), (Option.none), (Option.some (PySem.Value.str (PySem.Str.ofString "BadText") 388)), (Option.some (PySem.Value.str (PySem.Str.ofString "BadText") 396)), (Option.some (PySem.Value.builtin "ValueError.__new__")), (Option.some (PySem.Value.bool Bool.true))]))) ::
(nat_lit 186, (PySem.Obj.mk (PySem.Value.type "getset_descriptor") (Option.none) (PySem.Data.fields (List.toArray [(PySem.Value.str (PySem.Str.ofString "__weakref__") 410), (PySem.Value.ref 185), (PySem.Value.builtin "ExceptionGroup.__weakref__"), PySem.Value.none])) (List.toArray []))) ::
(nat_lit 189, (PySem.Obj.mk (PySem.Value.type "tuple") (Option.none) (PySem.Data.seq (List.toArray [(PySem.Value.type "RuntimeError")]) 0) (List.toArray []))) ::
(nat_lit 201, (PySem.Obj.mk (PySem.Value.type "code") (Option.none) (PySem.Data.fields (List.toArray [(PySem.Value.str (PySem.Str.ofString "__init__") 427), (PySem.Value.str (PySem.Str.ofString "Unreachable.__init__") 428), (PySem.Value.str (PySem.Str.ofString "/claim/cut.py") 429), (PySem.Value.int (47 : Int) 0), (PySem.Value.int (2 : Int) 0), (PySem.Value.int (0 : Int) 0), (PySem.Value.int (0 : Int) 0), (PySem.Value.int (3 : Int) 0), (PySem.Value.ref 196), (PySem.Value.bool Bool.true), (PySem.Value.int (181 : Int) 0), (PySem.Value.ref 197), PySem.Value.none, (PySem.Value.ref 198), (PySem.Value.ref 199), (PySem.Value.ref 200), (PySem.Value.int (432 : Int) 0), (PySem.Value.int (47 : Int) 0), (PySem.Value.str (PySem.Str.ofString "/claim/cut.py") 433)])) (List.toArray []))) ::
(nat_lit 202, f97 (i97 (t97 11) 0) (PySem.Value.type "function") (Option.none) (List.toArray []) (PySem.Str.ofString "Unreachable.__init__") 3 [] PySem.Value.none PySem.Value.none PySem.Value.none (PySem.Value.str (PySem.Str.ofString "lookpast.errors") 194) (Option.none) (PySem.Value.ref 201) PySem.Value.none 0) ::
(nat_lit 203, (PySem.Obj.mk (PySem.Value.type "tuple") (Option.none) (PySem.Data.seq (List.toArray [(PySem.Value.str (PySem.Str.ofString "obstacle") 435)]) 0) (List.toArray []))) ::
(nat_lit 204, (PySem.Obj.mk (PySem.Value.type "dict") (Option.none) (PySem.Data.dict (List.toArray [(PySem.DictEntry.mk (PySem.PyData.keyHash P (PySem.Str.ofString "__module__")) (PySem.Value.str (PySem.Str.ofString "__module__") 422) (PySem.Value.str (PySem.Str.ofString "lookpast.errors") 194)),
 (PySem.DictEntry.mk (PySem.PyData.keyHash P (PySem.Str.ofString "__firstlineno__")) (PySem.Value.str (PySem.Str.ofString "__firstlineno__") 426) (PySem.Value.int (45 : Int) 425)),
 (PySem.DictEntry.mk (PySem.PyData.keyHash P (PySem.Str.ofString "__init__")) (PySem.Value.str (PySem.Str.ofString "__init__") 434) (PySem.Value.ref 202)),
 (PySem.DictEntry.mk (PySem.PyData.keyHash P (PySem.Str.ofString "__static_attributes__")) (PySem.Value.str (PySem.Str.ofString "__static_attributes__") 436) (PySem.Value.ref 203)),
 (PySem.DictEntry.mk (PySem.PyData.keyHash P (PySem.Str.ofString "__weakref__")) (PySem.Value.str (PySem.Str.ofString "__weakref__") 438) (PySem.Value.ref 206)),
 (PySem.DictEntry.mk (PySem.PyData.keyHash P (PySem.Str.ofString "__doc__")) (PySem.Value.str (PySem.Str.ofString "__doc__") 439) PySem.Value.none)]) 3) (List.toArray []))) ::
(nat_lit 205, (PySem.Obj.mk (PySem.Value.type "type") (Option.none) (PySem.Data.cls (PySem.ClassData.mk (PySem.Str.ofString "Unreachable") [(PySem.Value.type "RuntimeError")] [(PySem.Value.ref 205), (PySem.Value.type "RuntimeError"), (PySem.Value.type "Exception"), (PySem.Value.type "BaseException"), (PySem.Value.type "object")] 204 (PySem.Str.ofString "Unreachable") Bool.true [] [] Bool.false (Option.none) Bool.false)) (List.toArray [(Option.some (PySem.Value.ref 189)), (Option.none), (Option.some (PySem.Value.str (PySem.Str.ofString "Unreachable") 415)), (Option.some (PySem.Value.str (PySem.Str.ofString "Unreachable") 423)), (Option.some (PySem.Value.builtin "RuntimeError.__new__")), (Option.some (PySem.Value.bool Bool.true))]))) ::
(nat_lit 206, (PySem.Obj.mk (PySem.Value.type "getset_descriptor") (Option.none) (PySem.Data.fields (List.toArray [(PySem.Value.str (PySem.Str.ofString "__weakref__") 437), (PySem.Value.ref 205), (PySem.Value.builtin "ExceptionGroup.__weakref__"), PySem.Value.none])) (List.toArray []))) ::
(nat_lit 209, (PySem.Obj.mk (PySem.Value.type "tuple") (Option.none) (PySem.Data.seq (List.toArray [(PySem.Value.type "RuntimeError")]) 0) (List.toArray []))) ::
(nat_lit 221, (PySem.Obj.mk (PySem.Value.type "code") (Option.none) (PySem.Data.fields (List.toArray [(PySem.Value.str (PySem.Str.ofString "__init__") 454), (PySem.Value.str (PySem.Str.ofString "NoCommon.__init__") 455), (PySem.Value.str (PySem.Str.ofString "/claim/cut.py") 456), (PySem.Value.int (52 : Int) 0), (PySem.Value.int (2 : Int) 0), (PySem.Value.int (0 : Int) 0), (PySem.Value.int (0 : Int) 0), (PySem.Value.int (3 : Int) 0), (PySem.Value.ref 216), (PySem.Value.bool Bool.true), (PySem.Value.int (181 : Int) 0), (PySem.Value.ref 217), PySem.Value.none, (PySem.Value.ref 218), (PySem.Value.ref 219), (PySem.Value.ref 220), (PySem.Value.int (459 : Int) 0), (PySem.Value.int (52 : Int) 0), (PySem.Value.str (PySem.Str.ofString "/claim/cut.py") 460)])) (List.toArray []))) ::
(nat_lit 222, f97 (i97 (t97 12) 0) (PySem.Value.type "function") (Option.none) (List.toArray []) (PySem.Str.ofString "NoCommon.__init__") 3 [] PySem.Value.none PySem.Value.none PySem.Value.none (PySem.Value.str (PySem.Str.ofString "lookpast.errors") 194) (Option.none) (PySem.Value.ref 221) PySem.Value.none 0) ::
(nat_lit 223, (PySem.Obj.mk (PySem.Value.type "tuple") (Option.none) (PySem.Data.seq (List.toArray [(PySem.Value.str (PySem.Str.ofString "bar") 462)]) 0) (List.toArray []))) ::
(nat_lit 224, (PySem.Obj.mk (PySem.Value.type "dict") (Option.none) (PySem.Data.dict (List.toArray [(PySem.DictEntry.mk (PySem.PyData.keyHash P (PySem.Str.ofString "__module__")) (PySem.Value.str (PySem.Str.ofString "__module__") 449) (PySem.Value.str (PySem.Str.ofString "lookpast.errors") 194)),
 (PySem.DictEntry.mk (PySem.PyData.keyHash P (PySem.Str.ofString "__firstlineno__")) (PySem.Value.str (PySem.Str.ofString "__firstlineno__") 453) (PySem.Value.int (50 : Int) 452)),
 (PySem.DictEntry.mk (PySem.PyData.keyHash P (PySem.Str.ofString "__init__")) (PySem.Value.str (PySem.Str.ofString "__init__") 461) (PySem.Value.ref 222)),
 (PySem.DictEntry.mk (PySem.PyData.keyHash P (PySem.Str.ofString "__static_attributes__")) (PySem.Value.str (PySem.Str.ofString "__static_attributes__") 463) (PySem.Value.ref 223)),
 (PySem.DictEntry.mk (PySem.PyData.keyHash P (PySem.Str.ofString "__weakref__")) (PySem.Value.str (PySem.Str.ofString "__weakref__") 465) (PySem.Value.ref 226)),
 (PySem.DictEntry.mk (PySem.PyData.keyHash P (PySem.Str.ofString "__doc__")) (PySem.Value.str (PySem.Str.ofString "__doc__") 466) PySem.Value.none)]) 3) (List.toArray []))) ::
(nat_lit 225, (PySem.Obj.mk (PySem.Value.type "type") (Option.none) (PySem.Data.cls (PySem.ClassData.mk (PySem.Str.ofString "NoCommon") [(PySem.Value.type "RuntimeError")] [(PySem.Value.ref 225), (PySem.Value.type "RuntimeError"), (PySem.Value.type "Exception"), (PySem.Value.type "BaseException"), (PySem.Value.type "object")] 224 (PySem.Str.ofString "NoCommon") Bool.true [] [] Bool.false (Option.none) Bool.false)) (List.toArray [(Option.some (PySem.Value.ref 209)), (Option.none), (Option.some (PySem.Value.str (PySem.Str.ofString "NoCommon") 442)), (Option.some (PySem.Value.str (PySem.Str.ofString "NoCommon") 450)), (Option.some (PySem.Value.builtin "RuntimeError.__new__")), (Option.some (PySem.Value.bool Bool.true))]))) ::
(nat_lit 226, (PySem.Obj.mk (PySem.Value.type "getset_descriptor") (Option.none) (PySem.Data.fields (List.toArray [(PySem.Value.str (PySem.Str.ofString "__weakref__") 464), (PySem.Value.ref 225), (PySem.Value.builtin "ExceptionGroup.__weakref__"), PySem.Value.none])) (List.toArray []))) ::
(nat_lit 229, (PySem.Obj.mk (PySem.Value.type "tuple") (Option.none) (PySem.Data.seq (List.toArray [(PySem.Value.type "RuntimeError")]) 0) (List.toArray []))) ::
(nat_lit 241, (PySem.Obj.mk (PySem.Value.type "code") (Option.none) (PySem.Data.fields (List.toArray [(PySem.Value.str (PySem.Str.ofString "__init__") 481), (PySem.Value.str (PySem.Str.ofString "Denied.__init__") 482), (PySem.Value.str (PySem.Str.ofString "/claim/cut.py") 483), (PySem.Value.int (57 : Int) 0), (PySem.Value.int (2 : Int) 0), (PySem.Value.int (0 : Int) 0), (PySem.Value.int (0 : Int) 0), (PySem.Value.int (3 : Int) 0), (PySem.Value.ref 236), (PySem.Value.bool Bool.true), (PySem.Value.int (181 : Int) 0), (PySem.Value.ref 237), PySem.Value.none, (PySem.Value.ref 238), (PySem.Value.ref 239), (PySem.Value.ref 240), (PySem.Value.int (486 : Int) 0), (PySem.Value.int (57 : Int) 0), (PySem.Value.str (PySem.Str.ofString "/claim/cut.py") 487)])) (List.toArray []))) ::
(nat_lit 242, f97 (i97 (t97 13) 0) (PySem.Value.type "function") (Option.none) (List.toArray []) (PySem.Str.ofString "Denied.__init__") 3 [] PySem.Value.none PySem.Value.none PySem.Value.none (PySem.Value.str (PySem.Str.ofString "lookpast.errors") 194) (Option.none) (PySem.Value.ref 241) PySem.Value.none 0) ::
(nat_lit 243, (PySem.Obj.mk (PySem.Value.type "tuple") (Option.none) (PySem.Data.seq (List.toArray [(PySem.Value.str (PySem.Str.ofString "obstacle") 489)]) 0) (List.toArray []))) ::
(nat_lit 244, (PySem.Obj.mk (PySem.Value.type "dict") (Option.none) (PySem.Data.dict (List.toArray [(PySem.DictEntry.mk (PySem.PyData.keyHash P (PySem.Str.ofString "__module__")) (PySem.Value.str (PySem.Str.ofString "__module__") 476) (PySem.Value.str (PySem.Str.ofString "lookpast.errors") 194)),
 (PySem.DictEntry.mk (PySem.PyData.keyHash P (PySem.Str.ofString "__firstlineno__")) (PySem.Value.str (PySem.Str.ofString "__firstlineno__") 480) (PySem.Value.int (55 : Int) 479)),
 (PySem.DictEntry.mk (PySem.PyData.keyHash P (PySem.Str.ofString "__init__")) (PySem.Value.str (PySem.Str.ofString "__init__") 488) (PySem.Value.ref 242)),
 (PySem.DictEntry.mk (PySem.PyData.keyHash P (PySem.Str.ofString "__static_attributes__")) (PySem.Value.str (PySem.Str.ofString "__static_attributes__") 490) (PySem.Value.ref 243)),
 (PySem.DictEntry.mk (PySem.PyData.keyHash P (PySem.Str.ofString "__weakref__")) (PySem.Value.str (PySem.Str.ofString "__weakref__") 492) (PySem.Value.ref 246)),
 (PySem.DictEntry.mk (PySem.PyData.keyHash P (PySem.Str.ofString "__doc__")) (PySem.Value.str (PySem.Str.ofString "__doc__") 493) PySem.Value.none)]) 3) (List.toArray []))) ::
(nat_lit 245, (PySem.Obj.mk (PySem.Value.type "type") (Option.none) (PySem.Data.cls (PySem.ClassData.mk (PySem.Str.ofString "Denied") [(PySem.Value.type "RuntimeError")] [(PySem.Value.ref 245), (PySem.Value.type "RuntimeError"), (PySem.Value.type "Exception"), (PySem.Value.type "BaseException"), (PySem.Value.type "object")] 244 (PySem.Str.ofString "Denied") Bool.true [] [] Bool.false (Option.none) Bool.false)) (List.toArray [(Option.some (PySem.Value.ref 229)), (Option.none), (Option.some (PySem.Value.str (PySem.Str.ofString "Denied") 469)), (Option.some (PySem.Value.str (PySem.Str.ofString "Denied") 477)), (Option.some (PySem.Value.builtin "RuntimeError.__new__")), (Option.some (PySem.Value.bool Bool.true))]))) ::
(nat_lit 246, (PySem.Obj.mk (PySem.Value.type "getset_descriptor") (Option.none) (PySem.Data.fields (List.toArray [(PySem.Value.str (PySem.Str.ofString "__weakref__") 491), (PySem.Value.ref 245), (PySem.Value.builtin "ExceptionGroup.__weakref__"), PySem.Value.none])) (List.toArray []))) ::
(nat_lit 249, (PySem.Obj.mk (PySem.Value.type "tuple") (Option.none) (PySem.Data.seq (List.toArray [(PySem.Value.type "RuntimeError")]) 0) (List.toArray []))) ::
(nat_lit 261, (PySem.Obj.mk (PySem.Value.type "code") (Option.none) (PySem.Data.fields (List.toArray [(PySem.Value.str (PySem.Str.ofString "__init__") 508), (PySem.Value.str (PySem.Str.ofString "IsRoot.__init__") 509), (PySem.Value.str (PySem.Str.ofString "/claim/cut.py") 510), (PySem.Value.int (62 : Int) 0), (PySem.Value.int (2 : Int) 0), (PySem.Value.int (0 : Int) 0), (PySem.Value.int (0 : Int) 0), (PySem.Value.int (3 : Int) 0), (PySem.Value.ref 256), (PySem.Value.bool Bool.true), (PySem.Value.int (181 : Int) 0), (PySem.Value.ref 257), PySem.Value.none, (PySem.Value.ref 258), (PySem.Value.ref 259), (PySem.Value.ref 260), (PySem.Value.int (513 : Int) 0), (PySem.Value.int (62 : Int) 0), (PySem.Value.str (PySem.Str.ofString "/claim/cut.py") 514)])) (List.toArray []))) ::
(nat_lit 262, f97 (i97 (t97 14) 0) (PySem.Value.type "function") (Option.none) (List.toArray []) (PySem.Str.ofString "IsRoot.__init__") 3 [] PySem.Value.none PySem.Value.none PySem.Value.none (PySem.Value.str (PySem.Str.ofString "lookpast.errors") 194) (Option.none) (PySem.Value.ref 261) PySem.Value.none 0) ::
(nat_lit 263, (PySem.Obj.mk (PySem.Value.type "tuple") (Option.none) (PySem.Data.seq (List.toArray [(PySem.Value.str (PySem.Str.ofString "person") 516)]) 0) (List.toArray []))) ::
(nat_lit 264, (PySem.Obj.mk (PySem.Value.type "dict") (Option.none) (PySem.Data.dict (List.toArray [(PySem.DictEntry.mk (PySem.PyData.keyHash P (PySem.Str.ofString "__module__")) (PySem.Value.str (PySem.Str.ofString "__module__") 503) (PySem.Value.str (PySem.Str.ofString "lookpast.errors") 194)),
 (PySem.DictEntry.mk (PySem.PyData.keyHash P (PySem.Str.ofString "__firstlineno__")) (PySem.Value.str (PySem.Str.ofString "__firstlineno__") 507) (PySem.Value.int (60 : Int) 506)),
 (PySem.DictEntry.mk (PySem.PyData.keyHash P (PySem.Str.ofString "__init__")) (PySem.Value.str (PySem.Str.ofString "__init__") 515) (PySem.Value.ref 262)),
 (PySem.DictEntry.mk (PySem.PyData.keyHash P (PySem.Str.ofString "__static_attributes__")) (PySem.Value.str (PySem.Str.ofString "__static_attributes__") 517) (PySem.Value.ref 263)),
 (PySem.DictEntry.mk (PySem.PyData.keyHash P (PySem.Str.ofString "__weakref__")) (PySem.Value.str (PySem.Str.ofString "__weakref__") 519) (PySem.Value.ref 266)),
 (PySem.DictEntry.mk (PySem.PyData.keyHash P (PySem.Str.ofString "__doc__")) (PySem.Value.str (PySem.Str.ofString "__doc__") 520) PySem.Value.none)]) 3) (List.toArray []))) ::
(nat_lit 265, (PySem.Obj.mk (PySem.Value.type "type") (Option.none) (PySem.Data.cls (PySem.ClassData.mk (PySem.Str.ofString "IsRoot") [(PySem.Value.type "RuntimeError")] [(PySem.Value.ref 265), (PySem.Value.type "RuntimeError"), (PySem.Value.type "Exception"), (PySem.Value.type "BaseException"), (PySem.Value.type "object")] 264 (PySem.Str.ofString "IsRoot") Bool.true [] [] Bool.false (Option.none) Bool.false)) (List.toArray [(Option.some (PySem.Value.ref 249)), (Option.none), (Option.some (PySem.Value.str (PySem.Str.ofString "IsRoot") 496)), (Option.some (PySem.Value.str (PySem.Str.ofString "IsRoot") 504)), (Option.some (PySem.Value.builtin "RuntimeError.__new__")), (Option.some (PySem.Value.bool Bool.true))]))) ::
(nat_lit 266, (PySem.Obj.mk (PySem.Value.type "getset_descriptor") (Option.none) (PySem.Data.fields (List.toArray [(PySem.Value.str (PySem.Str.ofString "__weakref__") 518), (PySem.Value.ref 265), (PySem.Value.builtin "ExceptionGroup.__weakref__"), PySem.Value.none])) (List.toArray []))) ::
(nat_lit 269, (PySem.Obj.mk (PySem.Value.type "tuple") (Option.none) (PySem.Data.seq (List.toArray [(PySem.Value.type "OverflowError")]) 0) (List.toArray []))) ::
(nat_lit 281, (PySem.Obj.mk (PySem.Value.type "code") (Option.none) (PySem.Data.fields (List.toArray [(PySem.Value.str (PySem.Str.ofString "__init__") 535), (PySem.Value.str (PySem.Str.ofString "TooMany.__init__") 536), (PySem.Value.str (PySem.Str.ofString "/claim/cut.py") 537), (PySem.Value.int (67 : Int) 0), (PySem.Value.int (2 : Int) 0), (PySem.Value.int (0 : Int) 0), (PySem.Value.int (0 : Int) 0), (PySem.Value.int (3 : Int) 0), (PySem.Value.ref 276), (PySem.Value.bool Bool.true), (PySem.Value.int (181 : Int) 0), (PySem.Value.ref 277), PySem.Value.none, (PySem.Value.ref 278), (PySem.Value.ref 279), (PySem.Value.ref 280), (PySem.Value.int (540 : Int) 0), (PySem.Value.int (67 : Int) 0), (PySem.Value.str (PySem.Str.ofString "/claim/cut.py") 541)])) (List.toArray []))) ::
(nat_lit 282, f97 (i97 (t97 15) 0) (PySem.Value.type "function") (Option.none) (List.toArray []) (PySem.Str.ofString "TooMany.__init__") 3 [] PySem.Value.none PySem.Value.none PySem.Value.none (PySem.Value.str (PySem.Str.ofString "lookpast.errors") 194) (Option.none) (PySem.Value.ref 281) PySem.Value.none 0) ::
(nat_lit 283, (PySem.Obj.mk (PySem.Value.type "tuple") (Option.none) (PySem.Data.seq (List.toArray [(PySem.Value.str (PySem.Str.ofString "many") 543)]) 0) (List.toArray []))) ::
(nat_lit 284, (PySem.Obj.mk (PySem.Value.type "dict") (Option.none) (PySem.Data.dict (List.toArray [(PySem.DictEntry.mk (PySem.PyData.keyHash P (PySem.Str.ofString "__module__")) (PySem.Value.str (PySem.Str.ofString "__module__") 530) (PySem.Value.str (PySem.Str.ofString "lookpast.errors") 194)),
 (PySem.DictEntry.mk (PySem.PyData.keyHash P (PySem.Str.ofString "__firstlineno__")) (PySem.Value.str (PySem.Str.ofString "__firstlineno__") 534) (PySem.Value.int (65 : Int) 533)),
 (PySem.DictEntry.mk (PySem.PyData.keyHash P (PySem.Str.ofString "__init__")) (PySem.Value.str (PySem.Str.ofString "__init__") 542) (PySem.Value.ref 282)),
 (PySem.DictEntry.mk (PySem.PyData.keyHash P (PySem.Str.ofString "__static_attributes__")) (PySem.Value.str (PySem.Str.ofString "__static_attributes__") 544) (PySem.Value.ref 283)),
 (PySem.DictEntry.mk (PySem.PyData.keyHash P (PySem.Str.ofString "__weakref__")) (PySem.Value.str (PySem.Str.ofString "__weakref__") 546) (PySem.Value.ref 286)),
 (PySem.DictEntry.mk (PySem.PyData.keyHash P (PySem.Str.ofString "__doc__")) (PySem.Value.str (PySem.Str.ofString "__doc__") 547) PySem.Value.none)]) 3) (List.toArray []))) ::
(nat_lit 285, (PySem.Obj.mk (PySem.Value.type "type") (Option.none) (PySem.Data.cls (PySem.ClassData.mk (PySem.Str.ofString "TooMany") [(PySem.Value.type "OverflowError")] [(PySem.Value.ref 285), (PySem.Value.type "OverflowError"), (PySem.Value.type "ArithmeticError"), (PySem.Value.type "Exception"), (PySem.Value.type "BaseException"), (PySem.Value.type "object")] 284 (PySem.Str.ofString "TooMany") Bool.true [] [] Bool.false (Option.none) Bool.false)) (List.toArray [(Option.some (PySem.Value.ref 269)), (Option.none), (Option.some (PySem.Value.str (PySem.Str.ofString "TooMany") 523)), (Option.some (PySem.Value.str (PySem.Str.ofString "TooMany") 531)), (Option.some (PySem.Value.builtin "OverflowError.__new__")), (Option.some (PySem.Value.bool Bool.true))]))) ::
(nat_lit 286, (PySem.Obj.mk (PySem.Value.type "getset_descriptor") (Option.none) (PySem.Data.fields (List.toArray [(PySem.Value.str (PySem.Str.ofString "__weakref__") 545), (PySem.Value.ref 285), (PySem.Value.builtin "ExceptionGroup.__weakref__"), PySem.Value.none])) (List.toArray []))) ::
(nat_lit 294, (PySem.Obj.mk (PySem.Value.type "code") (Option.none) (PySem.Data.fields (List.toArray [(PySem.Value.str (PySem.Str.ofString "is_person") 554), (PySem.Value.str (PySem.Str.ofString "is_person") 555), (PySem.Value.str (PySem.Str.ofString "/claim/cut.py") 556), (PySem.Value.int (71 : Int) 0), (PySem.Value.int (2 : Int) 0), (PySem.Value.int (0 : Int) 0), (PySem.Value.int (0 : Int) 0), (PySem.Value.int (3 : Int) 0), (PySem.Value.ref 289), (PySem.Value.bool Bool.true), (PySem.Value.int (181 : Int) 0), (PySem.Value.ref 290), PySem.Value.none, (PySem.Value.ref 291), (PySem.Value.ref 292), (PySem.Value.ref 293), (PySem.Value.int (559 : Int) 0), (PySem.Value.int (71 : Int) 0), (PySem.Value.str (PySem.Str.ofString "/claim/cut.py") 560)])) (List.toArray []))) ::
(nat_lit 295, f97 (t97 17) (PySem.Value.type "function") (Option.none) (List.toArray []) (PySem.Str.ofString "is_person") 3 [] PySem.Value.none PySem.Value.none PySem.Value.none (PySem.Value.str (PySem.Str.ofString "lookpast.states") 552) (Option.none) (PySem.Value.ref 294) PySem.Value.none 0) ::
(nat_lit 299, (PySem.Obj.mk (PySem.Value.type "code") (Option.none) (PySem.Data.fields (List.toArray [(PySem.Value.str (PySem.Str.ofString "state_of") 562), (PySem.Value.str (PySem.Str.ofString "state_of") 563), (PySem.Value.str (PySem.Str.ofString "/claim/cut.py") 564), (PySem.Value.int (73 : Int) 0), (PySem.Value.int (1 : Int) 0), (PySem.Value.int (0 : Int) 0), (PySem.Value.int (0 : Int) 0), (PySem.Value.int (3 : Int) 0), (PySem.Value.ref 296), (PySem.Value.bool Bool.true), (PySem.Value.int (181 : Int) 0), (PySem.Value.ref 297), PySem.Value.none, PySem.Value.none, PySem.Value.none, (PySem.Value.ref 298), (PySem.Value.int (565 : Int) 0), (PySem.Value.int (73 : Int) 0), (PySem.Value.str (PySem.Str.ofString "/claim/cut.py") 566)])) (List.toArray []))) ::
(nat_lit 300, f97 (t97 18) (PySem.Value.type "function") (Option.none) (List.toArray []) (PySem.Str.ofString "state_of") 3 [] PySem.Value.none PySem.Value.none PySem.Value.none (PySem.Value.str (PySem.Str.ofString "lookpast.states") 552) (Option.none) (PySem.Value.ref 299) PySem.Value.none 0) ::
(nat_lit 306, (PySem.Obj.mk (PySem.Value.type "code") (Option.none) (PySem.Data.fields (List.toArray [(PySem.Value.str (PySem.Str.ofString "check_person") 568), (PySem.Value.str (PySem.Str.ofString "check_person") 569), (PySem.Value.str (PySem.Str.ofString "/claim/cut.py") 570), (PySem.Value.int (75 : Int) 0), (PySem.Value.int (2 : Int) 0), (PySem.Value.int (0 : Int) 0), (PySem.Value.int (0 : Int) 0), (PySem.Value.int (3 : Int) 0), (PySem.Value.ref 301), (PySem.Value.bool Bool.true), (PySem.Value.int (181 : Int) 0), (PySem.Value.ref 302), PySem.Value.none, (PySem.Value.ref 303), (PySem.Value.ref 304), (PySem.Value.ref 305), (PySem.Value.int (573 : Int) 0), (PySem.Value.int (75 : Int) 0), (PySem.Value.str (PySem.Str.ofString "/claim/cut.py") 574)])) (List.toArray []))) ::
(nat_lit 307, f97 (t97 19) (PySem.Value.type "function") (Option.none) (List.toArray []) (PySem.Str.ofString "check_person") 3 [] PySem.Value.none PySem.Value.none PySem.Value.none (PySem.Value.str (PySem.Str.ofString "lookpast.states") 552) (Option.none) (PySem.Value.ref 306) PySem.Value.none 0) ::
(nat_lit 313, (PySem.Obj.mk (PySem.Value.type "code") (Option.none) (PySem.Data.fields (List.toArray [(PySem.Value.str (PySem.Str.ofString "route_from") 576), (PySem.Value.str (PySem.Str.ofString "route_from") 577), (PySem.Value.str (PySem.Str.ofString "/claim/cut.py") 578), (PySem.Value.int (78 : Int) 0), (PySem.Value.int (2 : Int) 0), (PySem.Value.int (0 : Int) 0), (PySem.Value.int (0 : Int) 0), (PySem.Value.int (3 : Int) 0), (PySem.Value.ref 308), (PySem.Value.bool Bool.true), (PySem.Value.int (181 : Int) 0), (PySem.Value.ref 309), PySem.Value.none, (PySem.Value.ref 310), (PySem.Value.ref 311), (PySem.Value.ref 312), (PySem.Value.int (584 : Int) 0), (PySem.Value.int (78 : Int) 0), (PySem.Value.str (PySem.Str.ofString "/claim/cut.py") 585)])) (List.toArray []))) ::
(nat_lit 314, f97 (t97 20) (PySem.Value.type "function") (Option.none) (List.toArray []) (PySem.Str.ofString "route_from") 3 [] PySem.Value.none PySem.Value.none PySem.Value.none (PySem.Value.str (PySem.Str.ofString "lookpast.states") 552) (Option.none) (PySem.Value.ref 313) PySem.Value.none 0) ::
(nat_lit 320, (PySem.Obj.mk (PySem.Value.type "code") (Option.none) (PySem.Data.fields (List.toArray [(PySem.Value.str (PySem.Str.ofString "turned") 587), (PySem.Value.str (PySem.Str.ofString "turned") 588), (PySem.Value.str (PySem.Str.ofString "/claim/cut.py") 589), (PySem.Value.int (87 : Int) 0), (PySem.Value.int (2 : Int) 0), (PySem.Value.int (0 : Int) 0), (PySem.Value.int (0 : Int) 0), (PySem.Value.int (3 : Int) 0), (PySem.Value.ref 315), (PySem.Value.bool Bool.true), (PySem.Value.int (181 : Int) 0), (PySem.Value.ref 316), PySem.Value.none, (PySem.Value.ref 317), (PySem.Value.ref 318), (PySem.Value.ref 319), (PySem.Value.int (593 : Int) 0), (PySem.Value.int (87 : Int) 0), (PySem.Value.str (PySem.Str.ofString "/claim/cut.py") 594)])) (List.toArray []))) ::
(nat_lit 321, f97 (t97 21) (PySem.Value.type "function") (Option.none) (List.toArray []) (PySem.Str.ofString "turned") 3 [] PySem.Value.none PySem.Value.none PySem.Value.none (PySem.Value.str (PySem.Str.ofString "lookpast.states") 552) (Option.none) (PySem.Value.ref 320) PySem.Value.none 0) ::
(nat_lit 327, (PySem.Obj.mk (PySem.Value.type "code") (Option.none) (PySem.Data.fields (List.toArray [(PySem.Value.str (PySem.Str.ofString "ring_begin") 596), (PySem.Value.str (PySem.Str.ofString "ring_begin") 597), (PySem.Value.str (PySem.Str.ofString "/claim/cut.py") 598), (PySem.Value.int (90 : Int) 0), (PySem.Value.int (2 : Int) 0), (PySem.Value.int (0 : Int) 0), (PySem.Value.int (0 : Int) 0), (PySem.Value.int (3 : Int) 0), (PySem.Value.ref 322), (PySem.Value.bool Bool.true), (PySem.Value.int (181 : Int) 0), (PySem.Value.ref 323), PySem.Value.none, (PySem.Value.ref 324), (PySem.Value.ref 325), (PySem.Value.ref 326), (PySem.Value.int (601 : Int) 0), (PySem.Value.int (90 : Int) 0), (PySem.Value.str (PySem.Str.ofString "/claim/cut.py") 602)])) (List.toArray []))) ::
(nat_lit 328, f97 (t97 22) (PySem.Value.type "function") (Option.none) (List.toArray []) (PySem.Str.ofString "ring_begin") 3 [] PySem.Value.none PySem.Value.none PySem.Value.none (PySem.Value.str (PySem.Str.ofString "lookpast.states") 552) (Option.none) (PySem.Value.ref 327) PySem.Value.none 0) ::
(nat_lit 334, (PySem.Obj.mk (PySem.Value.type "code") (Option.none) (PySem.Data.fields (List.toArray [(PySem.Value.str (PySem.Str.ofString "way") 604), (PySem.Value.str (PySem.Str.ofString "way") 605), (PySem.Value.str (PySem.Str.ofString "/claim/cut.py") 606), (PySem.Value.int (92 : Int) 0), (PySem.Value.int (2 : Int) 0), (PySem.Value.int (0 : Int) 0), (PySem.Value.int (0 : Int) 0), (PySem.Value.int (3 : Int) 0), (PySem.Value.ref 329), (PySem.Value.bool Bool.true), (PySem.Value.int (181 : Int) 0), (PySem.Value.ref 330), PySem.Value.none, (PySem.Value.ref 331), (PySem.Value.ref 332), (PySem.Value.ref 333), (PySem.Value.int (609 : Int) 0), (PySem.Value.int (92 : Int) 0), (PySem.Value.str (PySem.Str.ofString "/claim/cut.py") 610)])) (List.toArray []))) ::
(nat_lit 335, f97 (t97 23) (PySem.Value.type "function") (Option.none) (List.toArray []) (PySem.Str.ofString "way") 3 [] PySem.Value.none PySem.Value.none PySem.Value.none (PySem.Value.str (PySem.Str.ofString "lookpast.states") 552) (Option.none) (PySem.Value.ref 334) PySem.Value.none 0) ::
(nat_lit 341, (PySem.Obj.mk (PySem.Value.type "code") (Option.none) (PySem.Data.fields (List.toArray [(PySem.Value.str (PySem.Str.ofString "person_after") 612), (PySem.Value.str (PySem.Str.ofString "person_after") 613), (PySem.Value.str (PySem.Str.ofString "/claim/cut.py") 614), (PySem.Value.int (95 : Int) 0), (PySem.Value.int (3 : Int) 0), (PySem.Value.int (0 : Int) 0), (PySem.Value.int (0 : Int) 0), (PySem.Value.int (3 : Int) 0), (PySem.Value.ref 336), (PySem.Value.bool Bool.true), (PySem.Value.int (181 : Int) 0), (PySem.Value.ref 337), PySem.Value.none, (PySem.Value.ref 338), (PySem.Value.ref 339), (PySem.Value.ref 340), (PySem.Value.int (620 : Int) 0), (PySem.Value.int (95 : Int) 0), (PySem.Value.str (PySem.Str.ofString "/claim/cut.py") 621)])) (List.toArray []))) ::
(nat_lit 342, f97 (t97 24) (PySem.Value.type "function") (Option.none) (List.toArray []) (PySem.Str.ofString "person_after") 3 [] PySem.Value.none PySem.Value.none PySem.Value.none (PySem.Value.str (PySem.Str.ofString "lookpast.states") 552) (Option.none) (PySem.Value.ref 341) PySem.Value.none 0) ::
(nat_lit 348, (PySem.Obj.mk (PySem.Value.type "code") (Option.none) (PySem.Data.fields (List.toArray [(PySem.Value.str (PySem.Str.ofString "ring_of") 623), (PySem.Value.str (PySem.Str.ofString "ring_of") 624), (PySem.Value.str (PySem.Str.ofString "/claim/cut.py") 625), (PySem.Value.int (102 : Int) 0), (PySem.Value.int (2 : Int) 0), (PySem.Value.int (0 : Int) 0), (PySem.Value.int (0 : Int) 0), (PySem.Value.int (3 : Int) 0), (PySem.Value.ref 343), (PySem.Value.bool Bool.true), (PySem.Value.int (181 : Int) 0), (PySem.Value.ref 344), PySem.Value.none, (PySem.Value.ref 345), (PySem.Value.ref 346), (PySem.Value.ref 347), (PySem.Value.int (630 : Int) 0), (PySem.Value.int (102 : Int) 0), (PySem.Value.str (PySem.Str.ofString "/claim/cut.py") 631)])) (List.toArray []))) ::
(nat_lit 349, f97 (t97 25) (PySem.Value.type "function") (Option.none) (List.toArray []) (PySem.Str.ofString "ring_of") 3 [] PySem.Value.none PySem.Value.none PySem.Value.none (PySem.Value.str (PySem.Str.ofString "lookpast.states") 552) (Option.none) (PySem.Value.ref 348) PySem.Value.none 0) ::
(nat_lit 353, (PySem.Obj.mk (PySem.Value.type "code") (Option.none) (PySem.Data.fields (List.toArray [(PySem.Value.str (PySem.Str.ofString "rings") 633), (PySem.Value.str (PySem.Str.ofString "rings") 634), (PySem.Value.str (PySem.Str.ofString "/claim/cut.py") 635), (PySem.Value.int (107 : Int) 0), (PySem.Value.int (1 : Int) 0), (PySem.Value.int (0 : Int) 0), (PySem.Value.int (0 : Int) 0), (PySem.Value.int (3 : Int) 0), (PySem.Value.ref 350), (PySem.Value.bool Bool.true), (PySem.Value.int (181 : Int) 0), (PySem.Value.ref 351), PySem.Value.none, PySem.Value.none, PySem.Value.none, (PySem.Value.ref 352), (PySem.Value.int (636 : Int) 0), (PySem.Value.int (107 : Int) 0), (PySem.Value.str (PySem.Str.ofString "/claim/cut.py") 637)])) (List.toArray []))) ::
(nat_lit 354, f97 (t97 26) (PySem.Value.type "function") (Option.none) (List.toArray []) (PySem.Str.ofString "rings") 3 [] PySem.Value.none PySem.Value.none PySem.Value.none (PySem.Value.str (PySem.Str.ofString "lookpast.states") 552) (Option.none) (PySem.Value.ref 353) PySem.Value.none 0) ::
(nat_lit 360, (PySem.Obj.mk (PySem.Value.type "code") (Option.none) (PySem.Data.fields (List.toArray [(PySem.Value.str (PySem.Str.ofString "height") 639), (PySem.Value.str (PySem.Str.ofString "height") 640), (PySem.Value.str (PySem.Str.ofString "/claim/cut.py") 641), (PySem.Value.int (109 : Int) 0), (PySem.Value.int (2 : Int) 0), (PySem.Value.int (0 : Int) 0), (PySem.Value.int (0 : Int) 0), (PySem.Value.int (3 : Int) 0), (PySem.Value.ref 355), (PySem.Value.bool Bool.true), (PySem.Value.int (181 : Int) 0), (PySem.Value.ref 356), PySem.Value.none, (PySem.Value.ref 357), (PySem.Value.ref 358), (PySem.Value.ref 359), (PySem.Value.int (644 : Int) 0), (PySem.Value.int (109 : Int) 0), (PySem.Value.str (PySem.Str.ofString "/claim/cut.py") 645)])) (List.toArray []))) ::
(nat_lit 361, f97 (t97 27) (PySem.Value.type "function") (Option.none) (List.toArray []) (PySem.Str.ofString "height") 3 [] PySem.Value.none PySem.Value.none PySem.Value.none (PySem.Value.str (PySem.Str.ofString "lookpast.states") 552) (Option.none) (PySem.Value.ref 360) PySem.Value.none 0) ::
(nat_lit 365, (PySem.Obj.mk (PySem.Value.type "code") (Option.none) (PySem.Data.fields (List.toArray [(PySem.Value.str (PySem.Str.ofString "components") 647), (PySem.Value.str (PySem.Str.ofString "components") 648), (PySem.Value.str (PySem.Str.ofString "/claim/cut.py") 649), (PySem.Value.int (112 : Int) 0), (PySem.Value.int (1 : Int) 0), (PySem.Value.int (0 : Int) 0), (PySem.Value.int (0 : Int) 0), (PySem.Value.int (3 : Int) 0), (PySem.Value.ref 362), (PySem.Value.bool Bool.true), (PySem.Value.int (181 : Int) 0), (PySem.Value.ref 363), PySem.Value.none, PySem.Value.none, PySem.Value.none, (PySem.Value.ref 364), (PySem.Value.int (650 : Int) 0), (PySem.Value.int (112 : Int) 0), (PySem.Value.str (PySem.Str.ofString "/claim/cut.py") 651)])) (List.toArray []))) ::
(nat_lit 366, f97 (t97 28) (PySem.Value.type "function") (Option.none) (List.toArray []) (PySem.Str.ofString "components") 3 [] PySem.Value.none PySem.Value.none PySem.Value.none (PySem.Value.str (PySem.Str.ofString "lookpast.states") 552) (Option.none) (PySem.Value.ref 365) PySem.Value.none 0) ::
(nat_lit 372, (PySem.Obj.mk (PySem.Value.type "code") (Option.none) (PySem.Data.fields (List.toArray [(PySem.Value.str (PySem.Str.ofString "check_word") 655), (PySem.Value.str (PySem.Str.ofString "check_word") 656), (PySem.Value.str (PySem.Str.ofString "/claim/cut.py") 657), (PySem.Value.int (118 : Int) 0), (PySem.Value.int (2 : Int) 0), (PySem.Value.int (0 : Int) 0), (PySem.Value.int (0 : Int) 0), (PySem.Value.int (3 : Int) 0), (PySem.Value.ref 367), (PySem.Value.bool Bool.true), (PySem.Value.int (181 : Int) 0), (PySem.Value.ref 368), PySem.Value.none, (PySem.Value.ref 369), (PySem.Value.ref 370), (PySem.Value.ref 371), (PySem.Value.int (661 : Int) 0), (PySem.Value.int (118 : Int) 0), (PySem.Value.str (PySem.Str.ofString "/claim/cut.py") 662)])) (List.toArray []))) ::
(nat_lit 373, f97 (t97 30) (PySem.Value.type "function") (Option.none) (List.toArray []) (PySem.Str.ofString "check_word") 3 [] PySem.Value.none PySem.Value.none PySem.Value.none (PySem.Value.str (PySem.Str.ofString "lookpast.calls") 653) (Option.none) (PySem.Value.ref 372) PySem.Value.none 0) ::
(nat_lit 379, (PySem.Obj.mk (PySem.Value.type "code") (Option.none) (PySem.Data.fields (List.toArray [(PySem.Value.str (PySem.Str.ofString "called") 664), (PySem.Value.str (PySem.Str.ofString "called") 665), (PySem.Value.str (PySem.Str.ofString "/claim/cut.py") 666), (PySem.Value.int (121 : Int) 0), (PySem.Value.int (2 : Int) 0), (PySem.Value.int (0 : Int) 0), (PySem.Value.int (0 : Int) 0), (PySem.Value.int (3 : Int) 0), (PySem.Value.ref 374), (PySem.Value.bool Bool.true), (PySem.Value.int (181 : Int) 0), (PySem.Value.ref 375), PySem.Value.none, (PySem.Value.ref 376), (PySem.Value.ref 377), (PySem.Value.ref 378), (PySem.Value.int (669 : Int) 0), (PySem.Value.int (121 : Int) 0), (PySem.Value.str (PySem.Str.ofString "/claim/cut.py") 670)])) (List.toArray []))) ::
(nat_lit 380, f97 (t97 31) (PySem.Value.type "function") (Option.none) (List.toArray []) (PySem.Str.ofString "called") 3 [] PySem.Value.none PySem.Value.none PySem.Value.none (PySem.Value.str (PySem.Str.ofString "lookpast.calls") 653) (Option.none) (PySem.Value.ref 379) PySem.Value.none 0) ::
(nat_lit 386, (PySem.Obj.mk (PySem.Value.type "code") (Option.none) (PySem.Data.fields (List.toArray [(PySem.Value.str (PySem.Str.ofString "called_all") 672), (PySem.Value.str (PySem.Str.ofString "called_all") 673), (PySem.Value.str (PySem.Str.ofString "/claim/cut.py") 674), (PySem.Value.int (123 : Int) 0), (PySem.Value.int (2 : Int) 0), (PySem.Value.int (0 : Int) 0), (PySem.Value.int (0 : Int) 0), (PySem.Value.int (3 : Int) 0), (PySem.Value.ref 381), (PySem.Value.bool Bool.true), (PySem.Value.int (181 : Int) 0), (PySem.Value.ref 382), PySem.Value.none, (PySem.Value.ref 383), (PySem.Value.ref 384), (PySem.Value.ref 385), (PySem.Value.int (679 : Int) 0), (PySem.Value.int (123 : Int) 0), (PySem.Value.str (PySem.Str.ofString "/claim/cut.py") 680)])) (List.toArray []))) ::
(nat_lit 387, f97 (t97 32) (PySem.Value.type "function") (Option.none) (List.toArray []) (PySem.Str.ofString "called_all") 3 [] PySem.Value.none PySem.Value.none PySem.Value.none (PySem.Value.str (PySem.Str.ofString "lookpast.calls") 653) (Option.none) (PySem.Value.ref 386) PySem.Value.none 0) ::
(nat_lit 393, (PySem.Obj.mk (PySem.Value.type "code") (Option.none) (PySem.Data.fields (List.toArray [(PySem.Value.str (PySem.Str.ofString "states_along") 682), (PySem.Value.str (PySem.Str.ofString "states_along") 683), (PySem.Value.str (PySem.Str.ofString "/claim/cut.py") 684), (PySem.Value.int (129 : Int) 0), (PySem.Value.int (2 : Int) 0), (PySem.Value.int (0 : Int) 0), (PySem.Value.int (0 : Int) 0), (PySem.Value.int (3 : Int) 0), (PySem.Value.ref 388), (PySem.Value.bool Bool.true), (PySem.Value.int (181 : Int) 0), (PySem.Value.ref 389), PySem.Value.none, (PySem.Value.ref 390), (PySem.Value.ref 391), (PySem.Value.ref 392), (PySem.Value.int (689 : Int) 0), (PySem.Value.int (129 : Int) 0), (PySem.Value.str (PySem.Str.ofString "/claim/cut.py") 690)])) (List.toArray []))) ::
(nat_lit 394, f97 (t97 33) (PySem.Value.type "function") (Option.none) (List.toArray []) (PySem.Str.ofString "states_along") 3 [] PySem.Value.none PySem.Value.none PySem.Value.none (PySem.Value.str (PySem.Str.ofString "lookpast.calls") 653) (Option.none) (PySem.Value.ref 393) PySem.Value.none 0) ::
(nat_lit 398, (PySem.Obj.mk (PySem.Value.type "code") (Option.none) (PySem.Data.fields (List.toArray [(PySem.Value.str (PySem.Str.ofString "idle_calls") 692), (PySem.Value.str (PySem.Str.ofString "idle_calls") 693), (PySem.Value.str (PySem.Str.ofString "/claim/cut.py") 694), (PySem.Value.int (135 : Int) 0), (PySem.Value.int (2 : Int) 0), (PySem.Value.int (0 : Int) 0), (PySem.Value.int (0 : Int) 0), (PySem.Value.int (3 : Int) 0), (PySem.Value.ref 395), (PySem.Value.bool Bool.true), (PySem.Value.int (181 : Int) 0), (PySem.Value.ref 396), PySem.Value.none, PySem.Value.none, PySem.Value.none, (PySem.Value.ref 397), (PySem.Value.int (695 : Int) 0), (PySem.Value.int (135 : Int) 0), (PySem.Value.str (PySem.Str.ofString "/claim/cut.py") 696)])) (List.toArray []))) ::
(nat_lit 399, f97 (t97 34) (PySem.Value.type "function") (Option.none) (List.toArray []) (PySem.Str.ofString "idle_calls") 3 [] PySem.Value.none PySem.Value.none PySem.Value.none (PySem.Value.str (PySem.Str.ofString "lookpast.calls") 653) (Option.none) (PySem.Value.ref 398) PySem.Value.none 0) ::
(nat_lit 405, (PySem.Obj.mk (PySem.Value.type "code") (Option.none) (PySem.Data.fields (List.toArray [(PySem.Value.str (PySem.Str.ofString "check_size") 700), (PySem.Value.str (PySem.Str.ofString "check_size") 701), (PySem.Value.str (PySem.Str.ofString "/claim/cut.py") 702), (PySem.Value.int (139 : Int) 0), (PySem.Value.int (2 : Int) 0), (PySem.Value.int (0 : Int) 0), (PySem.Value.int (0 : Int) 0), (PySem.Value.int (3 : Int) 0), (PySem.Value.ref 400), (PySem.Value.bool Bool.true), (PySem.Value.int (181 : Int) 0), (PySem.Value.ref 401), PySem.Value.none, (PySem.Value.ref 402), (PySem.Value.ref 403), (PySem.Value.ref 404), (PySem.Value.int (705 : Int) 0), (PySem.Value.int (139 : Int) 0), (PySem.Value.str (PySem.Str.ofString "/claim/cut.py") 706)])) (List.toArray []))) ::
(nat_lit 406, f97 (t97 36) (PySem.Value.type "function") (Option.none) (List.toArray []) (PySem.Str.ofString "check_size") 3 [] PySem.Value.none PySem.Value.none PySem.Value.none (PySem.Value.str (PySem.Str.ofString "lookpast.reach") 698) (Option.none) (PySem.Value.ref 405) PySem.Value.none 0) ::
(nat_lit 412, (PySem.Obj.mk (PySem.Value.type "code") (Option.none) (PySem.Data.fields (List.toArray [(PySem.Value.str (PySem.Str.ofString "check_future") 708), (PySem.Value.str (PySem.Str.ofString "check_future") 709), (PySem.Value.str (PySem.Str.ofString "/claim/cut.py") 710), (PySem.Value.int (142 : Int) 0), (PySem.Value.int (2 : Int) 0), (PySem.Value.int (0 : Int) 0), (PySem.Value.int (0 : Int) 0), (PySem.Value.int (3 : Int) 0), (PySem.Value.ref 407), (PySem.Value.bool Bool.true), (PySem.Value.int (181 : Int) 0), (PySem.Value.ref 408), PySem.Value.none, (PySem.Value.ref 409), (PySem.Value.ref 410), (PySem.Value.ref 411), (PySem.Value.int (714 : Int) 0), (PySem.Value.int (142 : Int) 0), (PySem.Value.str (PySem.Str.ofString "/claim/cut.py") 715)])) (List.toArray []))) ::
(nat_lit 413, f97 (t97 37) (PySem.Value.type "function") (Option.none) (List.toArray []) (PySem.Str.ofString "check_future") 3 [] PySem.Value.none PySem.Value.none PySem.Value.none (PySem.Value.str (PySem.Str.ofString "lookpast.reach") 698) (Option.none) (PySem.Value.ref 412) PySem.Value.none 0) ::
(nat_lit 419, (PySem.Obj.mk (PySem.Value.type "code") (Option.none) (PySem.Data.fields (List.toArray [(PySem.Value.str (PySem.Str.ofString "closed_rings") 717), (PySem.Value.str (PySem.Str.ofString "closed_rings") 718), (PySem.Value.str (PySem.Str.ofString "/claim/cut.py") 719), (PySem.Value.int (146 : Int) 0), (PySem.Value.int (1 : Int) 0), (PySem.Value.int (0 : Int) 0), (PySem.Value.int (0 : Int) 0), (PySem.Value.int (3 : Int) 0), (PySem.Value.ref 414), (PySem.Value.bool Bool.true), (PySem.Value.int (181 : Int) 0), (PySem.Value.ref 415), PySem.Value.none, (PySem.Value.ref 416), (PySem.Value.ref 417), (PySem.Value.ref 418), (PySem.Value.int (724 : Int) 0), (PySem.Value.int (146 : Int) 0), (PySem.Value.str (PySem.Str.ofString "/claim/cut.py") 725)])) (List.toArray []))) ::
(nat_lit 420, f97 (t97 38) (PySem.Value.type "function") (Option.none) (List.toArray []) (PySem.Str.ofString "closed_rings") 3 [] PySem.Value.none PySem.Value.none PySem.Value.none (PySem.Value.str (PySem.Str.ofString "lookpast.reach") 698) (Option.none) (PySem.Value.ref 419) PySem.Value.none 0) ::
(nat_lit 426, (PySem.Obj.mk (PySem.Value.type "code") (Option.none) (PySem.Data.fields (List.toArray [(PySem.Value.str (PySem.Str.ofString "missed_way") 727), (PySem.Value.str (PySem.Str.ofString "missed_way") 728), (PySem.Value.str (PySem.Str.ofString "/claim/cut.py") 729), (PySem.Value.int (153 : Int) 0), (PySem.Value.int (2 : Int) 0), (PySem.Value.int (0 : Int) 0), (PySem.Value.int (0 : Int) 0), (PySem.Value.int (3 : Int) 0), (PySem.Value.ref 421), (PySem.Value.bool Bool.true), (PySem.Value.int (181 : Int) 0), (PySem.Value.ref 422), PySem.Value.none, (PySem.Value.ref 423), (PySem.Value.ref 424), (PySem.Value.ref 425), (PySem.Value.int (734 : Int) 0), (PySem.Value.int (153 : Int) 0), (PySem.Value.str (PySem.Str.ofString "/claim/cut.py") 735)])) (List.toArray []))) ::
(nat_lit 427, f97 (t97 39) (PySem.Value.type "function") (Option.none) (List.toArray []) (PySem.Str.ofString "missed_way") 3 [] PySem.Value.none PySem.Value.none PySem.Value.none (PySem.Value.str (PySem.Str.ofString "lookpast.reach") 698) (Option.none) (PySem.Value.ref 426) PySem.Value.none 0) ::
(nat_lit 431, (PySem.Obj.mk (PySem.Value.type "code") (Option.none) (PySem.Data.fields (List.toArray [(PySem.Value.str (PySem.Str.ofString "second_ring") 737), (PySem.Value.str (PySem.Str.ofString "second_ring") 738), (PySem.Value.str (PySem.Str.ofString "/claim/cut.py") 739), (PySem.Value.int (158 : Int) 0), (PySem.Value.int (2 : Int) 0), (PySem.Value.int (0 : Int) 0), (PySem.Value.int (0 : Int) 0), (PySem.Value.int (3 : Int) 0), (PySem.Value.ref 428), (PySem.Value.bool Bool.true), (PySem.Value.int (181 : Int) 0), (PySem.Value.ref 429), PySem.Value.none, PySem.Value.none, PySem.Value.none, (PySem.Value.ref 430), (PySem.Value.int (740 : Int) 0), (PySem.Value.int (158 : Int) 0), (PySem.Value.str (PySem.Str.ofString "/claim/cut.py") 741)])) (List.toArray []))) ::
(nat_lit 432, f97 (t97 40) (PySem.Value.type "function") (Option.none) (List.toArray []) (PySem.Str.ofString "second_ring") 3 [] PySem.Value.none PySem.Value.none PySem.Value.none (PySem.Value.str (PySem.Str.ofString "lookpast.reach") 698) (Option.none) (PySem.Value.ref 431) PySem.Value.none 0) ::
(nat_lit 438, (PySem.Obj.mk (PySem.Value.type "code") (Option.none) (PySem.Data.fields (List.toArray [(PySem.Value.str (PySem.Str.ofString "meets_first") 743), (PySem.Value.str (PySem.Str.ofString "meets_first") 744), (PySem.Value.str (PySem.Str.ofString "/claim/cut.py") 745), (PySem.Value.int (165 : Int) 0), (PySem.Value.int (4 : Int) 0), (PySem.Value.int (0 : Int) 0), (PySem.Value.int (0 : Int) 0), (PySem.Value.int (3 : Int) 0), (PySem.Value.ref 433), (PySem.Value.bool Bool.true), (PySem.Value.int (181 : Int) 0), (PySem.Value.ref 434), PySem.Value.none, (PySem.Value.ref 435), (PySem.Value.ref 436), (PySem.Value.ref 437), (PySem.Value.int (751 : Int) 0), (PySem.Value.int (165 : Int) 0), (PySem.Value.str (PySem.Str.ofString "/claim/cut.py") 752)])) (List.toArray []))) ::
(nat_lit 439, f97 (t97 41) (PySem.Value.type "function") (Option.none) (List.toArray []) (PySem.Str.ofString "meets_first") 3 [] PySem.Value.none PySem.Value.none PySem.Value.none (PySem.Value.str (PySem.Str.ofString "lookpast.reach") 698) (Option.none) (PySem.Value.ref 438) PySem.Value.none 0) ::
(nat_lit 445, (PySem.Obj.mk (PySem.Value.type "code") (Option.none) (PySem.Data.fields (List.toArray [(PySem.Value.str (PySem.Str.ofString "order_broken") 754), (PySem.Value.str (PySem.Str.ofString "order_broken") 755), (PySem.Value.str (PySem.Str.ofString "/claim/cut.py") 756), (PySem.Value.int (168 : Int) 0), (PySem.Value.int (2 : Int) 0), (PySem.Value.int (0 : Int) 0), (PySem.Value.int (0 : Int) 0), (PySem.Value.int (3 : Int) 0), (PySem.Value.ref 440), (PySem.Value.bool Bool.true), (PySem.Value.int (181 : Int) 0), (PySem.Value.ref 441), PySem.Value.none, (PySem.Value.ref 442), (PySem.Value.ref 443), (PySem.Value.ref 444), (PySem.Value.int (761 : Int) 0), (PySem.Value.int (168 : Int) 0), (PySem.Value.str (PySem.Str.ofString "/claim/cut.py") 762)])) (List.toArray []))) ::
(nat_lit 446, f97 (t97 42) (PySem.Value.type "function") (Option.none) (List.toArray []) (PySem.Str.ofString "order_broken") 3 [] PySem.Value.none PySem.Value.none PySem.Value.none (PySem.Value.str (PySem.Str.ofString "lookpast.reach") 698) (Option.none) (PySem.Value.ref 445) PySem.Value.none 0) ::
(nat_lit 452, (PySem.Obj.mk (PySem.Value.type "code") (Option.none) (PySem.Data.fields (List.toArray [(PySem.Value.str (PySem.Str.ofString "first_obstacle") 764), (PySem.Value.str (PySem.Str.ofString "first_obstacle") 765), (PySem.Value.str (PySem.Str.ofString "/claim/cut.py") 766), (PySem.Value.int (173 : Int) 0), (PySem.Value.int (2 : Int) 0), (PySem.Value.int (0 : Int) 0), (PySem.Value.int (0 : Int) 0), (PySem.Value.int (3 : Int) 0), (PySem.Value.ref 447), (PySem.Value.bool Bool.true), (PySem.Value.int (181 : Int) 0), (PySem.Value.ref 448), PySem.Value.none, (PySem.Value.ref 449), (PySem.Value.ref 450), (PySem.Value.ref 451), (PySem.Value.int (774 : Int) 0), (PySem.Value.int (173 : Int) 0), (PySem.Value.str (PySem.Str.ofString "/claim/cut.py") 775)])) (List.toArray []))) ::
(nat_lit 453, f97 (t97 43) (PySem.Value.type "function") (Option.none) (List.toArray []) (PySem.Str.ofString "first_obstacle") 3 [] PySem.Value.none PySem.Value.none PySem.Value.none (PySem.Value.str (PySem.Str.ofString "lookpast.reach") 698) (Option.none) (PySem.Value.ref 452) PySem.Value.none 0) ::
(nat_lit 459, (PySem.Obj.mk (PySem.Value.type "code") (Option.none) (PySem.Data.fields (List.toArray [(PySem.Value.str (PySem.Str.ofString "obstacle") 777), (PySem.Value.str (PySem.Str.ofString "obstacle") 778), (PySem.Value.str (PySem.Str.ofString "/claim/cut.py") 779), (PySem.Value.int (186 : Int) 0), (PySem.Value.int (2 : Int) 0), (PySem.Value.int (0 : Int) 0), (PySem.Value.int (0 : Int) 0), (PySem.Value.int (3 : Int) 0), (PySem.Value.ref 454), (PySem.Value.bool Bool.true), (PySem.Value.int (181 : Int) 0), (PySem.Value.ref 455), PySem.Value.none, (PySem.Value.ref 456), (PySem.Value.ref 457), (PySem.Value.ref 458), (PySem.Value.int (782 : Int) 0), (PySem.Value.int (186 : Int) 0), (PySem.Value.str (PySem.Str.ofString "/claim/cut.py") 783)])) (List.toArray []))) ::
(nat_lit 460, f97 (t97 44) (PySem.Value.type "function") (Option.none) (List.toArray []) (PySem.Str.ofString "obstacle") 3 [] PySem.Value.none PySem.Value.none PySem.Value.none (PySem.Value.str (PySem.Str.ofString "lookpast.reach") 698) (Option.none) (PySem.Value.ref 459) PySem.Value.none 0) ::
(nat_lit 466, (PySem.Obj.mk (PySem.Value.type "code") (Option.none) (PySem.Data.fields (List.toArray [(PySem.Value.str (PySem.Str.ofString "leads") 785), (PySem.Value.str (PySem.Str.ofString "leads") 786), (PySem.Value.str (PySem.Str.ofString "/claim/cut.py") 787), (PySem.Value.int (189 : Int) 0), (PySem.Value.int (2 : Int) 0), (PySem.Value.int (0 : Int) 0), (PySem.Value.int (0 : Int) 0), (PySem.Value.int (3 : Int) 0), (PySem.Value.ref 461), (PySem.Value.bool Bool.true), (PySem.Value.int (181 : Int) 0), (PySem.Value.ref 462), PySem.Value.none, (PySem.Value.ref 463), (PySem.Value.ref 464), (PySem.Value.ref 465), (PySem.Value.int (790 : Int) 0), (PySem.Value.int (189 : Int) 0), (PySem.Value.str (PySem.Str.ofString "/claim/cut.py") 791)])) (List.toArray []))) ::
(nat_lit 467, f97 (t97 45) (PySem.Value.type "function") (Option.none) (List.toArray []) (PySem.Str.ofString "leads") 3 [] PySem.Value.none PySem.Value.none PySem.Value.none (PySem.Value.str (PySem.Str.ofString "lookpast.reach") 698) (Option.none) (PySem.Value.ref 466) PySem.Value.none 0) ::
(nat_lit 473, (PySem.Obj.mk (PySem.Value.type "code") (Option.none) (PySem.Data.fields (List.toArray [(PySem.Value.str (PySem.Str.ofString "are_apart") 793), (PySem.Value.str (PySem.Str.ofString "are_apart") 794), (PySem.Value.str (PySem.Str.ofString "/claim/cut.py") 795), (PySem.Value.int (191 : Int) 0), (PySem.Value.int (4 : Int) 0), (PySem.Value.int (0 : Int) 0), (PySem.Value.int (0 : Int) 0), (PySem.Value.int (3 : Int) 0), (PySem.Value.ref 468), (PySem.Value.bool Bool.true), (PySem.Value.int (181 : Int) 0), (PySem.Value.ref 469), PySem.Value.none, (PySem.Value.ref 470), (PySem.Value.ref 471), (PySem.Value.ref 472), (PySem.Value.int (802 : Int) 0), (PySem.Value.int (191 : Int) 0), (PySem.Value.str (PySem.Str.ofString "/claim/cut.py") 803)])) (List.toArray []))) ::
(nat_lit 474, f97 (t97 46) (PySem.Value.type "function") (Option.none) (List.toArray []) (PySem.Str.ofString "are_apart") 3 [] PySem.Value.none PySem.Value.none PySem.Value.none (PySem.Value.str (PySem.Str.ofString "lookpast.reach") 698) (Option.none) (PySem.Value.ref 473) PySem.Value.none 0) ::
(nat_lit 478, (PySem.Obj.mk (PySem.Value.type "code") (Option.none) (PySem.Data.fields (List.toArray [(PySem.Value.str (PySem.Str.ofString "are_reversed") 805), (PySem.Value.str (PySem.Str.ofString "are_reversed") 806), (PySem.Value.str (PySem.Str.ofString "/claim/cut.py") 807), (PySem.Value.int (197 : Int) 0), (PySem.Value.int (3 : Int) 0), (PySem.Value.int (0 : Int) 0), (PySem.Value.int (0 : Int) 0), (PySem.Value.int (3 : Int) 0), (PySem.Value.ref 475), (PySem.Value.bool Bool.true), (PySem.Value.int (181 : Int) 0), (PySem.Value.ref 476), PySem.Value.none, PySem.Value.none, PySem.Value.none, (PySem.Value.ref 477), (PySem.Value.int (808 : Int) 0), (PySem.Value.int (197 : Int) 0), (PySem.Value.str (PySem.Str.ofString "/claim/cut.py") 809)])) (List.toArray []))) ::
(nat_lit 479, f97 (t97 47) (PySem.Value.type "function") (Option.none) (List.toArray []) (PySem.Str.ofString "are_reversed") 3 [] PySem.Value.none PySem.Value.none PySem.Value.none (PySem.Value.str (PySem.Str.ofString "lookpast.reach") 698) (Option.none) (PySem.Value.ref 478) PySem.Value.none 0) ::
(nat_lit 483, (PySem.Obj.mk (PySem.Value.type "code") (Option.none) (PySem.Data.fields (List.toArray [(PySem.Value.str (PySem.Str.ofString "is_obstacle") 811), (PySem.Value.str (PySem.Str.ofString "is_obstacle") 812), (PySem.Value.str (PySem.Str.ofString "/claim/cut.py") 813), (PySem.Value.int (204 : Int) 0), (PySem.Value.int (3 : Int) 0), (PySem.Value.int (0 : Int) 0), (PySem.Value.int (0 : Int) 0), (PySem.Value.int (3 : Int) 0), (PySem.Value.ref 480), (PySem.Value.bool Bool.true), (PySem.Value.int (181 : Int) 0), (PySem.Value.ref 481), PySem.Value.none, PySem.Value.none, PySem.Value.none, (PySem.Value.ref 482), (PySem.Value.int (814 : Int) 0), (PySem.Value.int (204 : Int) 0), (PySem.Value.str (PySem.Str.ofString "/claim/cut.py") 815)])) (List.toArray []))) ::
(nat_lit 484, f97 (t97 48) (PySem.Value.type "function") (Option.none) (List.toArray []) (PySem.Str.ofString "is_obstacle") 3 [] PySem.Value.none PySem.Value.none PySem.Value.none (PySem.Value.str (PySem.Str.ofString "lookpast.reach") 698) (Option.none) (PySem.Value.ref 483) PySem.Value.none 0) ::
(nat_lit 488, (PySem.Obj.mk (PySem.Value.type "code") (Option.none) (PySem.Data.fields (List.toArray [(PySem.Value.str (PySem.Str.ofString "outside_calls") 817), (PySem.Value.str (PySem.Str.ofString "outside_calls") 818), (PySem.Value.str (PySem.Str.ofString "/claim/cut.py") 819), (PySem.Value.int (219 : Int) 0), (PySem.Value.int (2 : Int) 0), (PySem.Value.int (0 : Int) 0), (PySem.Value.int (0 : Int) 0), (PySem.Value.int (3 : Int) 0), (PySem.Value.ref 485), (PySem.Value.bool Bool.true), (PySem.Value.int (181 : Int) 0), (PySem.Value.ref 486), PySem.Value.none, PySem.Value.none, PySem.Value.none, (PySem.Value.ref 487), (PySem.Value.int (820 : Int) 0), (PySem.Value.int (219 : Int) 0), (PySem.Value.str (PySem.Str.ofString "/claim/cut.py") 821)])) (List.toArray []))) ::
(nat_lit 489, f97 (t97 49) (PySem.Value.type "function") (Option.none) (List.toArray []) (PySem.Str.ofString "outside_calls") 3 [] PySem.Value.none PySem.Value.none PySem.Value.none (PySem.Value.str (PySem.Str.ofString "lookpast.reach") 698) (Option.none) (PySem.Value.ref 488) PySem.Value.none 0) ::
(nat_lit 493, (PySem.Obj.mk (PySem.Value.type "code") (Option.none) (PySem.Data.fields (List.toArray [(PySem.Value.str (PySem.Str.ofString "ring_calls") 823), (PySem.Value.str (PySem.Str.ofString "ring_calls") 824), (PySem.Value.str (PySem.Str.ofString "/claim/cut.py") 825), (PySem.Value.int (225 : Int) 0), (PySem.Value.int (2 : Int) 0), (PySem.Value.int (0 : Int) 0), (PySem.Value.int (0 : Int) 0), (PySem.Value.int (3 : Int) 0), (PySem.Value.ref 490), (PySem.Value.bool Bool.true), (PySem.Value.int (181 : Int) 0), (PySem.Value.ref 491), PySem.Value.none, PySem.Value.none, PySem.Value.none, (PySem.Value.ref 492), (PySem.Value.int (826 : Int) 0), (PySem.Value.int (225 : Int) 0), (PySem.Value.str (PySem.Str.ofString "/claim/cut.py") 827)])) (List.toArray []))) ::
(nat_lit 494, f97 (t97 50) (PySem.Value.type "function") (Option.none) (List.toArray []) (PySem.Str.ofString "ring_calls") 3 [] PySem.Value.none PySem.Value.none PySem.Value.none (PySem.Value.str (PySem.Str.ofString "lookpast.reach") 698) (Option.none) (PySem.Value.ref 493) PySem.Value.none 0) ::
(nat_lit 500, (PySem.Obj.mk (PySem.Value.type "code") (Option.none) (PySem.Data.fields (List.toArray [(PySem.Value.str (PySem.Str.ofString "word_to") 829), (PySem.Value.str (PySem.Str.ofString "word_to") 830), (PySem.Value.str (PySem.Str.ofString "/claim/cut.py") 831), (PySem.Value.int (234 : Int) 0), (PySem.Value.int (2 : Int) 0), (PySem.Value.int (0 : Int) 0), (PySem.Value.int (0 : Int) 0), (PySem.Value.int (3 : Int) 0), (PySem.Value.ref 495), (PySem.Value.bool Bool.true), (PySem.Value.int (181 : Int) 0), (PySem.Value.ref 496), PySem.Value.none, (PySem.Value.ref 497), (PySem.Value.ref 498), (PySem.Value.ref 499), (PySem.Value.int (836 : Int) 0), (PySem.Value.int (234 : Int) 0), (PySem.Value.str (PySem.Str.ofString "/claim/cut.py") 837)])) (List.toArray []))) ::
(nat_lit 501, f97 (t97 51) (PySem.Value.type "function") (Option.none) (List.toArray []) (PySem.Str.ofString "word_to") 3 [] PySem.Value.none PySem.Value.none PySem.Value.none (PySem.Value.str (PySem.Str.ofString "lookpast.reach") 698) (Option.none) (PySem.Value.ref 500) PySem.Value.none 0) ::
(nat_lit 505, (PySem.Obj.mk (PySem.Value.type "code") (Option.none) (PySem.Data.fields (List.toArray [(PySem.Value.str (PySem.Str.ofString "is_word_to") 839), (PySem.Value.str (PySem.Str.ofString "is_word_to") 840), (PySem.Value.str (PySem.Str.ofString "/claim/cut.py") 841), (PySem.Value.int (240 : Int) 0), (PySem.Value.int (3 : Int) 0), (PySem.Value.int (0 : Int) 0), (PySem.Value.int (0 : Int) 0), (PySem.Value.int (3 : Int) 0), (PySem.Value.ref 502), (PySem.Value.bool Bool.true), (PySem.Value.int (181 : Int) 0), (PySem.Value.ref 503), PySem.Value.none, PySem.Value.none, PySem.Value.none, (PySem.Value.ref 504), (PySem.Value.int (842 : Int) 0), (PySem.Value.int (240 : Int) 0), (PySem.Value.str (PySem.Str.ofString "/claim/cut.py") 843)])) (List.toArray []))) ::
(nat_lit 506, f97 (t97 52) (PySem.Value.type "function") (Option.none) (List.toArray []) (PySem.Str.ofString "is_word_to") 3 [] PySem.Value.none PySem.Value.none PySem.Value.none (PySem.Value.str (PySem.Str.ofString "lookpast.reach") 698) (Option.none) (PySem.Value.ref 505) PySem.Value.none 0) ::
(nat_lit 512, (PySem.Obj.mk (PySem.Value.type "code") (Option.none) (PySem.Data.fields (List.toArray [(PySem.Value.str (PySem.Str.ofString "number_without") 847), (PySem.Value.str (PySem.Str.ofString "number_without") 848), (PySem.Value.str (PySem.Str.ofString "/claim/cut.py") 849), (PySem.Value.int (248 : Int) 0), (PySem.Value.int (2 : Int) 0), (PySem.Value.int (0 : Int) 0), (PySem.Value.int (0 : Int) 0), (PySem.Value.int (3 : Int) 0), (PySem.Value.ref 507), (PySem.Value.bool Bool.true), (PySem.Value.int (181 : Int) 0), (PySem.Value.ref 508), PySem.Value.none, (PySem.Value.ref 509), (PySem.Value.ref 510), (PySem.Value.ref 511), (PySem.Value.int (852 : Int) 0), (PySem.Value.int (248 : Int) 0), (PySem.Value.str (PySem.Str.ofString "/claim/cut.py") 853)])) (List.toArray []))) ::
(nat_lit 513, f97 (t97 54) (PySem.Value.type "function") (Option.none) (List.toArray []) (PySem.Str.ofString "number_without") 3 [] PySem.Value.none PySem.Value.none PySem.Value.none (PySem.Value.str (PySem.Str.ofString "lookpast.people") 845) (Option.none) (PySem.Value.ref 512) PySem.Value.none 0) ::
(nat_lit 517, (PySem.Obj.mk (PySem.Value.type "code") (Option.none) (PySem.Data.fields (List.toArray [(PySem.Value.str (PySem.Str.ofString "bypassed") 855), (PySem.Value.str (PySem.Str.ofString "bypassed") 856), (PySem.Value.str (PySem.Str.ofString "/claim/cut.py") 857), (PySem.Value.int (250 : Int) 0), (PySem.Value.int (2 : Int) 0), (PySem.Value.int (0 : Int) 0), (PySem.Value.int (0 : Int) 0), (PySem.Value.int (3 : Int) 0), (PySem.Value.ref 514), (PySem.Value.bool Bool.true), (PySem.Value.int (181 : Int) 0), (PySem.Value.ref 515), PySem.Value.none, PySem.Value.none, PySem.Value.none, (PySem.Value.ref 516), (PySem.Value.int (858 : Int) 0), (PySem.Value.int (250 : Int) 0), (PySem.Value.str (PySem.Str.ofString "/claim/cut.py") 859)])) (List.toArray []))) ::
(nat_lit 518, f97 (t97 55) (PySem.Value.type "function") (Option.none) (List.toArray []) (PySem.Str.ofString "bypassed") 3 [] PySem.Value.none PySem.Value.none PySem.Value.none (PySem.Value.str (PySem.Str.ofString "lookpast.people") 845) (Option.none) (PySem.Value.ref 517) PySem.Value.none 0) ::
(nat_lit 522, (PySem.Obj.mk (PySem.Value.type "code") (Option.none) (PySem.Data.fields (List.toArray [(PySem.Value.str (PySem.Str.ofString "is_settled") 863), (PySem.Value.str (PySem.Str.ofString "is_settled") 864), (PySem.Value.str (PySem.Str.ofString "/claim/cut.py") 865), (PySem.Value.int (258 : Int) 0), (PySem.Value.int (2 : Int) 0), (PySem.Value.int (0 : Int) 0), (PySem.Value.int (0 : Int) 0), (PySem.Value.int (3 : Int) 0), (PySem.Value.ref 519), (PySem.Value.bool Bool.true), (PySem.Value.int (181 : Int) 0), (PySem.Value.ref 520), PySem.Value.none, PySem.Value.none, PySem.Value.none, (PySem.Value.ref 521), (PySem.Value.int (866 : Int) 0), (PySem.Value.int (258 : Int) 0), (PySem.Value.str (PySem.Str.ofString "/claim/cut.py") 867)])) (List.toArray []))) ::
(nat_lit 523, f97 (t97 57) (PySem.Value.type "function") (Option.none) (List.toArray []) (PySem.Str.ofString "is_settled") 3 [] PySem.Value.none PySem.Value.none PySem.Value.none (PySem.Value.str (PySem.Str.ofString "lookpast.repeats") 861) (Option.none) (PySem.Value.ref 522) PySem.Value.none 0) ::
(nat_lit 529, (PySem.Obj.mk (PySem.Value.type "code") (Option.none) (PySem.Data.fields (List.toArray [(PySem.Value.str (PySem.Str.ofString "states_until_settled") 869), (PySem.Value.str (PySem.Str.ofString "states_until_settled") 870), (PySem.Value.str (PySem.Str.ofString "/claim/cut.py") 871), (PySem.Value.int (260 : Int) 0), (PySem.Value.int (2 : Int) 0), (PySem.Value.int (0 : Int) 0), (PySem.Value.int (0 : Int) 0), (PySem.Value.int (3 : Int) 0), (PySem.Value.ref 524), (PySem.Value.bool Bool.true), (PySem.Value.int (181 : Int) 0), (PySem.Value.ref 525), PySem.Value.none, (PySem.Value.ref 526), (PySem.Value.ref 527), (PySem.Value.ref 528), (PySem.Value.int (875 : Int) 0), (PySem.Value.int (260 : Int) 0), (PySem.Value.str (PySem.Str.ofString "/claim/cut.py") 876)])) (List.toArray []))) ::
(nat_lit 530, f97 (t97 58) (PySem.Value.type "function") (Option.none) (List.toArray []) (PySem.Str.ofString "states_until_settled") 3 [] PySem.Value.none PySem.Value.none PySem.Value.none (PySem.Value.str (PySem.Str.ofString "lookpast.repeats") 861) (Option.none) (PySem.Value.ref 529) PySem.Value.none 0) ::
(nat_lit 536, (PySem.Obj.mk (PySem.Value.type "code") (Option.none) (PySem.Data.fields (List.toArray [(PySem.Value.str (PySem.Str.ofString "pointer_later") 878), (PySem.Value.str (PySem.Str.ofString "pointer_later") 879), (PySem.Value.str (PySem.Str.ofString "/claim/cut.py") 880), (PySem.Value.int (266 : Int) 0), (PySem.Value.int (4 : Int) 0), (PySem.Value.int (0 : Int) 0), (PySem.Value.int (0 : Int) 0), (PySem.Value.int (3 : Int) 0), (PySem.Value.ref 531), (PySem.Value.bool Bool.true), (PySem.Value.int (181 : Int) 0), (PySem.Value.ref 532), PySem.Value.none, (PySem.Value.ref 533), (PySem.Value.ref 534), (PySem.Value.ref 535), (PySem.Value.int (885 : Int) 0), (PySem.Value.int (266 : Int) 0), (PySem.Value.str (PySem.Str.ofString "/claim/cut.py") 886)])) (List.toArray []))) ::
(nat_lit 537, f97 (t97 59) (PySem.Value.type "function") (Option.none) (List.toArray []) (PySem.Str.ofString "pointer_later") 3 [] PySem.Value.none PySem.Value.none PySem.Value.none (PySem.Value.str (PySem.Str.ofString "lookpast.repeats") 861) (Option.none) (PySem.Value.ref 536) PySem.Value.none 0) ::
(nat_lit 541, (PySem.Obj.mk (PySem.Value.type "code") (Option.none) (PySem.Data.fields (List.toArray [(PySem.Value.str (PySem.Str.ofString "repeated") 888), (PySem.Value.str (PySem.Str.ofString "repeated") 889), (PySem.Value.str (PySem.Str.ofString "/claim/cut.py") 890), (PySem.Value.int (268 : Int) 0), (PySem.Value.int (3 : Int) 0), (PySem.Value.int (0 : Int) 0), (PySem.Value.int (0 : Int) 0), (PySem.Value.int (3 : Int) 0), (PySem.Value.ref 538), (PySem.Value.bool Bool.true), (PySem.Value.int (181 : Int) 0), (PySem.Value.ref 539), PySem.Value.none, PySem.Value.none, PySem.Value.none, (PySem.Value.ref 540), (PySem.Value.int (891 : Int) 0), (PySem.Value.int (268 : Int) 0), (PySem.Value.str (PySem.Str.ofString "/claim/cut.py") 892)])) (List.toArray []))) ::
(nat_lit 542, f97 (t97 60) (PySem.Value.type "function") (Option.none) (List.toArray []) (PySem.Str.ofString "repeated") 3 [] PySem.Value.none PySem.Value.none PySem.Value.none (PySem.Value.str (PySem.Str.ofString "lookpast.repeats") 861) (Option.none) (PySem.Value.ref 541) PySem.Value.none 0) ::
(nat_lit 546, (PySem.Obj.mk (PySem.Value.type "code") (Option.none) (PySem.Data.fields (List.toArray [(PySem.Value.str (PySem.Str.ofString "changes_many") 896), (PySem.Value.str (PySem.Str.ofString "changes_many") 897), (PySem.Value.str (PySem.Str.ofString "/claim/cut.py") 898), (PySem.Value.int (275 : Int) 0), (PySem.Value.int (2 : Int) 0), (PySem.Value.int (0 : Int) 0), (PySem.Value.int (0 : Int) 0), (PySem.Value.int (3 : Int) 0), (PySem.Value.ref 543), (PySem.Value.bool Bool.true), (PySem.Value.int (181 : Int) 0), (PySem.Value.ref 544), PySem.Value.none, PySem.Value.none, PySem.Value.none, (PySem.Value.ref 545), (PySem.Value.int (899 : Int) 0), (PySem.Value.int (275 : Int) 0), (PySem.Value.str (PySem.Str.ofString "/claim/cut.py") 900)])) (List.toArray []))) ::
(nat_lit 547, f97 (t97 62) (PySem.Value.type "function") (Option.none) (List.toArray []) (PySem.Str.ofString "changes_many") 3 [] PySem.Value.none PySem.Value.none PySem.Value.none (PySem.Value.str (PySem.Str.ofString "lookpast.circle") 894) (Option.none) (PySem.Value.ref 546) PySem.Value.none 0) ::
(nat_lit 553, (PySem.Obj.mk (PySem.Value.type "code") (Option.none) (PySem.Data.fields (List.toArray [(PySem.Value.str (PySem.Str.ofString "call_deed") 902), (PySem.Value.str (PySem.Str.ofString "call_deed") 903), (PySem.Value.str (PySem.Str.ofString "/claim/cut.py") 904), (PySem.Value.int (277 : Int) 0), (PySem.Value.int (2 : Int) 0), (PySem.Value.int (0 : Int) 0), (PySem.Value.int (0 : Int) 0), (PySem.Value.int (3 : Int) 0), (PySem.Value.ref 548), (PySem.Value.bool Bool.true), (PySem.Value.int (181 : Int) 0), (PySem.Value.ref 549), PySem.Value.none, (PySem.Value.ref 550), (PySem.Value.ref 551), (PySem.Value.ref 552), (PySem.Value.int (908 : Int) 0), (PySem.Value.int (277 : Int) 0), (PySem.Value.str (PySem.Str.ofString "/claim/cut.py") 909)])) (List.toArray []))) ::
(nat_lit 554, f97 (t97 63) (PySem.Value.type "function") (Option.none) (List.toArray []) (PySem.Str.ofString "call_deed") 3 [] PySem.Value.none PySem.Value.none PySem.Value.none (PySem.Value.str (PySem.Str.ofString "lookpast.circle") 894) (Option.none) (PySem.Value.ref 553) PySem.Value.none 0) ::
(nat_lit 560, (PySem.Obj.mk (PySem.Value.type "code") (Option.none) (PySem.Data.fields (List.toArray [(PySem.Value.str (PySem.Str.ofString "run_deed") 911), (PySem.Value.str (PySem.Str.ofString "run_deed") 912), (PySem.Value.str (PySem.Str.ofString "/claim/cut.py") 913), (PySem.Value.int (280 : Int) 0), (PySem.Value.int (2 : Int) 0), (PySem.Value.int (0 : Int) 0), (PySem.Value.int (0 : Int) 0), (PySem.Value.int (3 : Int) 0), (PySem.Value.ref 555), (PySem.Value.bool Bool.true), (PySem.Value.int (181 : Int) 0), (PySem.Value.ref 556), PySem.Value.none, (PySem.Value.ref 557), (PySem.Value.ref 558), (PySem.Value.ref 559), (PySem.Value.int (916 : Int) 0), (PySem.Value.int (280 : Int) 0), (PySem.Value.str (PySem.Str.ofString "/claim/cut.py") 917)])) (List.toArray []))) ::
(nat_lit 561, f97 (t97 64) (PySem.Value.type "function") (Option.none) (List.toArray []) (PySem.Str.ofString "run_deed") 3 [] PySem.Value.none PySem.Value.none PySem.Value.none (PySem.Value.str (PySem.Str.ofString "lookpast.circle") 894) (Option.none) (PySem.Value.ref 560) PySem.Value.none 0) ::
(nat_lit 567, (PySem.Obj.mk (PySem.Value.type "code") (Option.none) (PySem.Data.fields (List.toArray [(PySem.Value.str (PySem.Str.ofString "repeat_deed") 919), (PySem.Value.str (PySem.Str.ofString "repeat_deed") 920), (PySem.Value.str (PySem.Str.ofString "/claim/cut.py") 921), (PySem.Value.int (282 : Int) 0), (PySem.Value.int (3 : Int) 0), (PySem.Value.int (0 : Int) 0), (PySem.Value.int (0 : Int) 0), (PySem.Value.int (3 : Int) 0), (PySem.Value.ref 562), (PySem.Value.bool Bool.true), (PySem.Value.int (181 : Int) 0), (PySem.Value.ref 563), PySem.Value.none, (PySem.Value.ref 564), (PySem.Value.ref 565), (PySem.Value.ref 566), (PySem.Value.int (926 : Int) 0), (PySem.Value.int (282 : Int) 0), (PySem.Value.str (PySem.Str.ofString "/claim/cut.py") 927)])) (List.toArray []))) ::
(nat_lit 568, f97 (t97 65) (PySem.Value.type "function") (Option.none) (List.toArray []) (PySem.Str.ofString "repeat_deed") 3 [] PySem.Value.none PySem.Value.none PySem.Value.none (PySem.Value.str (PySem.Str.ofString "lookpast.circle") 894) (Option.none) (PySem.Value.ref 567) PySem.Value.none 0) ::
(nat_lit 574, (PySem.Obj.mk (PySem.Value.type "code") (Option.none) (PySem.Data.fields (List.toArray [(PySem.Value.str (PySem.Str.ofString "become_deed") 929), (PySem.Value.str (PySem.Str.ofString "become_deed") 930), (PySem.Value.str (PySem.Str.ofString "/claim/cut.py") 931), (PySem.Value.int (285 : Int) 0), (PySem.Value.int (2 : Int) 0), (PySem.Value.int (0 : Int) 0), (PySem.Value.int (0 : Int) 0), (PySem.Value.int (3 : Int) 0), (PySem.Value.ref 569), (PySem.Value.bool Bool.true), (PySem.Value.int (181 : Int) 0), (PySem.Value.ref 570), PySem.Value.none, (PySem.Value.ref 571), (PySem.Value.ref 572), (PySem.Value.ref 573), (PySem.Value.int (934 : Int) 0), (PySem.Value.int (285 : Int) 0), (PySem.Value.str (PySem.Str.ofString "/claim/cut.py") 935)])) (List.toArray []))) ::
(nat_lit 575, f97 (t97 66) (PySem.Value.type "function") (Option.none) (List.toArray []) (PySem.Str.ofString "become_deed") 3 [] PySem.Value.none PySem.Value.none PySem.Value.none (PySem.Value.str (PySem.Str.ofString "lookpast.circle") 894) (Option.none) (PySem.Value.ref 574) PySem.Value.none 0) ::
(nat_lit 576, (PySem.Obj.mk (PySem.Value.type "tuple") (Option.none) (PySem.Data.seq (List.toArray [PySem.Value.none]) 0) (List.toArray []))) ::
(nat_lit 582, (PySem.Obj.mk (PySem.Value.type "code") (Option.none) (PySem.Data.fields (List.toArray [(PySem.Value.str (PySem.Str.ofString "come_deed") 937), (PySem.Value.str (PySem.Str.ofString "come_deed") 938), (PySem.Value.str (PySem.Str.ofString "/claim/cut.py") 939), (PySem.Value.int (288 : Int) 0), (PySem.Value.int (2 : Int) 0), (PySem.Value.int (0 : Int) 0), (PySem.Value.int (0 : Int) 0), (PySem.Value.int (3 : Int) 0), (PySem.Value.ref 577), (PySem.Value.bool Bool.true), (PySem.Value.int (181 : Int) 0), (PySem.Value.ref 578), PySem.Value.none, (PySem.Value.ref 579), (PySem.Value.ref 580), (PySem.Value.ref 581), (PySem.Value.int (943 : Int) 0), (PySem.Value.int (288 : Int) 0), (PySem.Value.str (PySem.Str.ofString "/claim/cut.py") 944)])) (List.toArray []))) ::
(nat_lit 583, f97 (t97 67) (PySem.Value.type "function") (Option.none) (List.toArray []) (PySem.Str.ofString "come_deed") 3 [] (PySem.Value.ref 576) PySem.Value.none PySem.Value.none (PySem.Value.str (PySem.Str.ofString "lookpast.circle") 894) (Option.none) (PySem.Value.ref 582) PySem.Value.none 0) ::
(nat_lit 589, (PySem.Obj.mk (PySem.Value.type "code") (Option.none) (PySem.Data.fields (List.toArray [(PySem.Value.str (PySem.Str.ofString "leave_deed") 946), (PySem.Value.str (PySem.Str.ofString "leave_deed") 947), (PySem.Value.str (PySem.Str.ofString "/claim/cut.py") 948), (PySem.Value.int (294 : Int) 0), (PySem.Value.int (2 : Int) 0), (PySem.Value.int (0 : Int) 0), (PySem.Value.int (0 : Int) 0), (PySem.Value.int (3 : Int) 0), (PySem.Value.ref 584), (PySem.Value.bool Bool.true), (PySem.Value.int (181 : Int) 0), (PySem.Value.ref 585), PySem.Value.none, (PySem.Value.ref 586), (PySem.Value.ref 587), (PySem.Value.ref 588), (PySem.Value.int (951 : Int) 0), (PySem.Value.int (294 : Int) 0), (PySem.Value.str (PySem.Str.ofString "/claim/cut.py") 952)])) (List.toArray []))) ::
(nat_lit 590, f97 (t97 68) (PySem.Value.type "function") (Option.none) (List.toArray []) (PySem.Str.ofString "leave_deed") 3 [] PySem.Value.none PySem.Value.none PySem.Value.none (PySem.Value.str (PySem.Str.ofString "lookpast.circle") 894) (Option.none) (PySem.Value.ref 589) PySem.Value.none 0) ::
(nat_lit 591, (PySem.Obj.mk (PySem.Value.type "dict") (Option.none) (PySem.Data.dict (List.toArray [(PySem.DictEntry.mk (PySem.PyData.keyHash P (PySem.Str.ofString "call")) (PySem.Value.str (PySem.Str.ofString "call") 954) (PySem.Value.ref 554)),
 (PySem.DictEntry.mk (PySem.PyData.keyHash P (PySem.Str.ofString "run")) (PySem.Value.str (PySem.Str.ofString "run") 955) (PySem.Value.ref 561)),
 (PySem.DictEntry.mk (PySem.PyData.keyHash P (PySem.Str.ofString "repeat")) (PySem.Value.str (PySem.Str.ofString "repeat") 956) (PySem.Value.ref 568)),
 (PySem.DictEntry.mk (PySem.PyData.keyHash P (PySem.Str.ofString "become")) (PySem.Value.str (PySem.Str.ofString "become") 957) (PySem.Value.ref 575)),
 (PySem.DictEntry.mk (PySem.PyData.keyHash P (PySem.Str.ofString "come")) (PySem.Value.str (PySem.Str.ofString "come") 958) (PySem.Value.ref 583)),
 (PySem.DictEntry.mk (PySem.PyData.keyHash P (PySem.Str.ofString "leave")) (PySem.Value.str (PySem.Str.ofString "leave") 959) (PySem.Value.ref 590))]) 6) (List.toArray []))) ::
(nat_lit 592, (PySem.Obj.mk (PySem.Value.type "dict") (Option.none) (PySem.Data.dict (List.toArray [(PySem.DictEntry.mk (PySem.PyData.keyHash P (PySem.Str.ofString "call")) (PySem.Value.str (PySem.Str.ofString "call") 967) (PySem.Value.ref 593)),
 (PySem.DictEntry.mk (PySem.PyData.keyHash P (PySem.Str.ofString "run")) (PySem.Value.str (PySem.Str.ofString "run") 969) (PySem.Value.ref 594)),
 (PySem.DictEntry.mk (PySem.PyData.keyHash P (PySem.Str.ofString "repeat")) (PySem.Value.str (PySem.Str.ofString "repeat") 971) (PySem.Value.ref 595)),
 (PySem.DictEntry.mk (PySem.PyData.keyHash P (PySem.Str.ofString "become")) (PySem.Value.str (PySem.Str.ofString "become") 973) (PySem.Value.ref 596)),
 (PySem.DictEntry.mk (PySem.PyData.keyHash P (PySem.Str.ofString "come")) (PySem.Value.str (PySem.Str.ofString "come") 975) (PySem.Value.ref 597)),
 (PySem.DictEntry.mk (PySem.PyData.keyHash P (PySem.Str.ofString "leave")) (PySem.Value.str (PySem.Str.ofString "leave") 978) (PySem.Value.ref 598))]) 6) (List.toArray []))) ::
(nat_lit 593, (PySem.Obj.mk (PySem.Value.type "tuple") (Option.none) (PySem.Data.seq (List.toArray [(PySem.Value.int (1 : Int) 968)]) 0) (List.toArray []))) ::
(nat_lit 594, (PySem.Obj.mk (PySem.Value.type "tuple") (Option.none) (PySem.Data.seq (List.toArray [(PySem.Value.int (1 : Int) 970)]) 0) (List.toArray []))) ::
(nat_lit 595, (PySem.Obj.mk (PySem.Value.type "tuple") (Option.none) (PySem.Data.seq (List.toArray [(PySem.Value.int (2 : Int) 972)]) 0) (List.toArray []))) ::
(nat_lit 596, (PySem.Obj.mk (PySem.Value.type "tuple") (Option.none) (PySem.Data.seq (List.toArray [(PySem.Value.int (1 : Int) 974)]) 0) (List.toArray []))) ::
(nat_lit 597, (PySem.Obj.mk (PySem.Value.type "tuple") (Option.none) (PySem.Data.seq (List.toArray [(PySem.Value.int (0 : Int) 976), (PySem.Value.int (1 : Int) 977)]) 0) (List.toArray []))) ::
(nat_lit 598, (PySem.Obj.mk (PySem.Value.type "tuple") (Option.none) (PySem.Data.seq (List.toArray [(PySem.Value.int (1 : Int) 979)]) 0) (List.toArray []))) ::
(nat_lit 604, (PySem.Obj.mk (PySem.Value.type "code") (Option.none) (PySem.Data.fields (List.toArray [(PySem.Value.str (PySem.Str.ofString "is_deed") 987), (PySem.Value.str (PySem.Str.ofString "is_deed") 988), (PySem.Value.str (PySem.Str.ofString "/claim/cut.py") 989), (PySem.Value.int (298 : Int) 0), (PySem.Value.int (1 : Int) 0), (PySem.Value.int (0 : Int) 0), (PySem.Value.int (0 : Int) 0), (PySem.Value.int (3 : Int) 0), (PySem.Value.ref 599), (PySem.Value.bool Bool.true), (PySem.Value.int (181 : Int) 0), (PySem.Value.ref 600), PySem.Value.none, (PySem.Value.ref 601), (PySem.Value.ref 602), (PySem.Value.ref 603), (PySem.Value.int (992 : Int) 0), (PySem.Value.int (298 : Int) 0), (PySem.Value.str (PySem.Str.ofString "/claim/cut.py") 993)])) (List.toArray []))) ::
(nat_lit 605, f97 (t97 71) (PySem.Value.type "function") (Option.none) (List.toArray []) (PySem.Str.ofString "is_deed") 3 [] PySem.Value.none PySem.Value.none PySem.Value.none (PySem.Value.str (PySem.Str.ofString "lookpast.circle") 894) (Option.none) (PySem.Value.ref 604) PySem.Value.none 0) ::
(nat_lit 611, (PySem.Obj.mk (PySem.Value.type "code") (Option.none) (PySem.Data.fields (List.toArray [(PySem.Value.str (PySem.Str.ofString "check_deeds") 995), (PySem.Value.str (PySem.Str.ofString "check_deeds") 996), (PySem.Value.str (PySem.Str.ofString "/claim/cut.py") 997), (PySem.Value.int (305 : Int) 0), (PySem.Value.int (1 : Int) 0), (PySem.Value.int (0 : Int) 0), (PySem.Value.int (0 : Int) 0), (PySem.Value.int (3 : Int) 0), (PySem.Value.ref 606), (PySem.Value.bool Bool.true), (PySem.Value.int (181 : Int) 0), (PySem.Value.ref 607), PySem.Value.none, (PySem.Value.ref 608), (PySem.Value.ref 609), (PySem.Value.ref 610), (PySem.Value.int (1001 : Int) 0), (PySem.Value.int (305 : Int) 0), (PySem.Value.str (PySem.Str.ofString "/claim/cut.py") 1002)])) (List.toArray []))) ::
(nat_lit 612, f97 (t97 72) (PySem.Value.type "function") (Option.none) (List.toArray []) (PySem.Str.ofString "check_deeds") 3 [] PySem.Value.none PySem.Value.none PySem.Value.none (PySem.Value.str (PySem.Str.ofString "lookpast.circle") 894) (Option.none) (PySem.Value.ref 611) PySem.Value.none 0) ::
(nat_lit 625, (PySem.Obj.mk (PySem.Value.type "code") (Option.none) (PySem.Data.fields (List.toArray [(PySem.Value.str (PySem.Str.ofString "__init__") 1016), (PySem.Value.str (PySem.Str.ofString "Circle.__init__") 1017), (PySem.Value.str (PySem.Str.ofString "/claim/cut.py") 1018), (PySem.Value.int (311 : Int) 0), (PySem.Value.int (2 : Int) 0), (PySem.Value.int (0 : Int) 0), (PySem.Value.int (0 : Int) 0), (PySem.Value.int (3 : Int) 0), (PySem.Value.ref 620), (PySem.Value.bool Bool.true), (PySem.Value.int (181 : Int) 0), (PySem.Value.ref 621), PySem.Value.none, (PySem.Value.ref 622), (PySem.Value.ref 623), (PySem.Value.ref 624), (PySem.Value.int (1021 : Int) 0), (PySem.Value.int (311 : Int) 0), (PySem.Value.str (PySem.Str.ofString "/claim/cut.py") 1022)])) (List.toArray []))) ::
(nat_lit 626, f97 (i97 (t97 73) 0) (PySem.Value.type "function") (Option.none) (List.toArray []) (PySem.Str.ofString "Circle.__init__") 3 [] PySem.Value.none PySem.Value.none PySem.Value.none (PySem.Value.str (PySem.Str.ofString "lookpast.circle") 894) (Option.none) (PySem.Value.ref 625) PySem.Value.none 0) ::
(nat_lit 632, (PySem.Obj.mk (PySem.Value.type "code") (Option.none) (PySem.Data.fields (List.toArray [(PySem.Value.str (PySem.Str.ofString "act") 1024), (PySem.Value.str (PySem.Str.ofString "Circle.act") 1025), (PySem.Value.str (PySem.Str.ofString "/claim/cut.py") 1026), (PySem.Value.int (315 : Int) 0), (PySem.Value.int (2 : Int) 0), (PySem.Value.int (0 : Int) 0), (PySem.Value.int (0 : Int) 0), (PySem.Value.int (7 : Int) 0), (PySem.Value.ref 627), (PySem.Value.bool Bool.true), (PySem.Value.int (181 : Int) 0), (PySem.Value.ref 628), PySem.Value.none, (PySem.Value.ref 629), (PySem.Value.ref 630), (PySem.Value.ref 631), (PySem.Value.int (1034 : Int) 0), (PySem.Value.int (315 : Int) 0), (PySem.Value.str (PySem.Str.ofString "/claim/cut.py") 1035)])) (List.toArray []))) ::
(nat_lit 633, f97 (i97 (t97 73) 1) (PySem.Value.type "function") (Option.none) (List.toArray []) (PySem.Str.ofString "Circle.act") 3 [] PySem.Value.none PySem.Value.none PySem.Value.none (PySem.Value.str (PySem.Str.ofString "lookpast.circle") 894) (Option.none) (PySem.Value.ref 632) PySem.Value.none 0) ::
(nat_lit 639, (PySem.Obj.mk (PySem.Value.type "code") (Option.none) (PySem.Data.fields (List.toArray [(PySem.Value.str (PySem.Str.ofString "call") 1037), (PySem.Value.str (PySem.Str.ofString "Circle.call") 1038), (PySem.Value.str (PySem.Str.ofString "/claim/cut.py") 1039), (PySem.Value.int (322 : Int) 0), (PySem.Value.int (2 : Int) 0), (PySem.Value.int (0 : Int) 0), (PySem.Value.int (0 : Int) 0), (PySem.Value.int (3 : Int) 0), (PySem.Value.ref 634), (PySem.Value.bool Bool.true), (PySem.Value.int (181 : Int) 0), (PySem.Value.ref 635), PySem.Value.none, (PySem.Value.ref 636), (PySem.Value.ref 637), (PySem.Value.ref 638), (PySem.Value.int (1042 : Int) 0), (PySem.Value.int (322 : Int) 0), (PySem.Value.str (PySem.Str.ofString "/claim/cut.py") 1043)])) (List.toArray []))) ::
(nat_lit 640, f97 (i97 (t97 73) 2) (PySem.Value.type "function") (Option.none) (List.toArray []) (PySem.Str.ofString "Circle.call") 3 [] PySem.Value.none PySem.Value.none PySem.Value.none (PySem.Value.str (PySem.Str.ofString "lookpast.circle") 894) (Option.none) (PySem.Value.ref 639) PySem.Value.none 0) ::
(nat_lit 646, (PySem.Obj.mk (PySem.Value.type "code") (Option.none) (PySem.Data.fields (List.toArray [(PySem.Value.str (PySem.Str.ofString "run") 1045), (PySem.Value.str (PySem.Str.ofString "Circle.run") 1046), (PySem.Value.str (PySem.Str.ofString "/claim/cut.py") 1047), (PySem.Value.int (325 : Int) 0), (PySem.Value.int (2 : Int) 0), (PySem.Value.int (0 : Int) 0), (PySem.Value.int (0 : Int) 0), (PySem.Value.int (3 : Int) 0), (PySem.Value.ref 641), (PySem.Value.bool Bool.true), (PySem.Value.int (181 : Int) 0), (PySem.Value.ref 642), PySem.Value.none, (PySem.Value.ref 643), (PySem.Value.ref 644), (PySem.Value.ref 645), (PySem.Value.int (1050 : Int) 0), (PySem.Value.int (325 : Int) 0), (PySem.Value.str (PySem.Str.ofString "/claim/cut.py") 1051)])) (List.toArray []))) ::
(nat_lit 647, f97 (i97 (t97 73) 3) (PySem.Value.type "function") (Option.none) (List.toArray []) (PySem.Str.ofString "Circle.run") 3 [] PySem.Value.none PySem.Value.none PySem.Value.none (PySem.Value.str (PySem.Str.ofString "lookpast.circle") 894) (Option.none) (PySem.Value.ref 646) PySem.Value.none 0) ::
(nat_lit 653, (PySem.Obj.mk (PySem.Value.type "code") (Option.none) (PySem.Data.fields (List.toArray [(PySem.Value.str (PySem.Str.ofString "repeat") 1053), (PySem.Value.str (PySem.Str.ofString "Circle.repeat") 1054), (PySem.Value.str (PySem.Str.ofString "/claim/cut.py") 1055), (PySem.Value.int (328 : Int) 0), (PySem.Value.int (3 : Int) 0), (PySem.Value.int (0 : Int) 0), (PySem.Value.int (0 : Int) 0), (PySem.Value.int (3 : Int) 0), (PySem.Value.ref 648), (PySem.Value.bool Bool.true), (PySem.Value.int (181 : Int) 0), (PySem.Value.ref 649), PySem.Value.none, (PySem.Value.ref 650), (PySem.Value.ref 651), (PySem.Value.ref 652), (PySem.Value.int (1059 : Int) 0), (PySem.Value.int (328 : Int) 0), (PySem.Value.str (PySem.Str.ofString "/claim/cut.py") 1060)])) (List.toArray []))) ::
(nat_lit 654, f97 (i97 (t97 73) 4) (PySem.Value.type "function") (Option.none) (List.toArray []) (PySem.Str.ofString "Circle.repeat") 3 [] PySem.Value.none PySem.Value.none PySem.Value.none (PySem.Value.str (PySem.Str.ofString "lookpast.circle") 894) (Option.none) (PySem.Value.ref 653) PySem.Value.none 0) ::
(nat_lit 660, (PySem.Obj.mk (PySem.Value.type "code") (Option.none) (PySem.Data.fields (List.toArray [(PySem.Value.str (PySem.Str.ofString "become") 1062), (PySem.Value.str (PySem.Str.ofString "Circle.become") 1063), (PySem.Value.str (PySem.Str.ofString "/claim/cut.py") 1064), (PySem.Value.int (331 : Int) 0), (PySem.Value.int (2 : Int) 0), (PySem.Value.int (0 : Int) 0), (PySem.Value.int (0 : Int) 0), (PySem.Value.int (3 : Int) 0), (PySem.Value.ref 655), (PySem.Value.bool Bool.true), (PySem.Value.int (181 : Int) 0), (PySem.Value.ref 656), PySem.Value.none, (PySem.Value.ref 657), (PySem.Value.ref 658), (PySem.Value.ref 659), (PySem.Value.int (1067 : Int) 0), (PySem.Value.int (331 : Int) 0), (PySem.Value.str (PySem.Str.ofString "/claim/cut.py") 1068)])) (List.toArray []))) ::
(nat_lit 661, f97 (i97 (t97 73) 5) (PySem.Value.type "function") (Option.none) (List.toArray []) (PySem.Str.ofString "Circle.become") 3 [] PySem.Value.none PySem.Value.none PySem.Value.none (PySem.Value.str (PySem.Str.ofString "lookpast.circle") 894) (Option.none) (PySem.Value.ref 660) PySem.Value.none 0) ::
(nat_lit 662, (PySem.Obj.mk (PySem.Value.type "tuple") (Option.none) (PySem.Data.seq (List.toArray [PySem.Value.none]) 0) (List.toArray []))) ::
(nat_lit 668, (PySem.Obj.mk (PySem.Value.type "code") (Option.none) (PySem.Data.fields (List.toArray [(PySem.Value.str (PySem.Str.ofString "come") 1070), (PySem.Value.str (PySem.Str.ofString "Circle.come") 1071), (PySem.Value.str (PySem.Str.ofString "/claim/cut.py") 1072), (PySem.Value.int (334 : Int) 0), (PySem.Value.int (2 : Int) 0), (PySem.Value.int (0 : Int) 0), (PySem.Value.int (0 : Int) 0), (PySem.Value.int (3 : Int) 0), (PySem.Value.ref 663), (PySem.Value.bool Bool.true), (PySem.Value.int (181 : Int) 0), (PySem.Value.ref 664), PySem.Value.none, (PySem.Value.ref 665), (PySem.Value.ref 666), (PySem.Value.ref 667), (PySem.Value.int (1075 : Int) 0), (PySem.Value.int (334 : Int) 0), (PySem.Value.str (PySem.Str.ofString "/claim/cut.py") 1076)])) (List.toArray []))) ::
(nat_lit 669, f97 (i97 (t97 73) 6) (PySem.Value.type "function") (Option.none) (List.toArray []) (PySem.Str.ofString "Circle.come") 3 [] (PySem.Value.ref 662) PySem.Value.none PySem.Value.none (PySem.Value.str (PySem.Str.ofString "lookpast.circle") 894) (Option.none) (PySem.Value.ref 668) PySem.Value.none 0) ::
(nat_lit 675, (PySem.Obj.mk (PySem.Value.type "code") (Option.none) (PySem.Data.fields (List.toArray [(PySem.Value.str (PySem.Str.ofString "leave") 1078), (PySem.Value.str (PySem.Str.ofString "Circle.leave") 1079), (PySem.Value.str (PySem.Str.ofString "/claim/cut.py") 1080), (PySem.Value.int (337 : Int) 0), (PySem.Value.int (2 : Int) 0), (PySem.Value.int (0 : Int) 0), (PySem.Value.int (0 : Int) 0), (PySem.Value.int (3 : Int) 0), (PySem.Value.ref 670), (PySem.Value.bool Bool.true), (PySem.Value.int (181 : Int) 0), (PySem.Value.ref 671), PySem.Value.none, (PySem.Value.ref 672), (PySem.Value.ref 673), (PySem.Value.ref 674), (PySem.Value.int (1083 : Int) 0), (PySem.Value.int (337 : Int) 0), (PySem.Value.str (PySem.Str.ofString "/claim/cut.py") 1084)])) (List.toArray []))) ::
(nat_lit 676, f97 (i97 (t97 73) 7) (PySem.Value.type "function") (Option.none) (List.toArray []) (PySem.Str.ofString "Circle.leave") 3 [] PySem.Value.none PySem.Value.none PySem.Value.none (PySem.Value.str (PySem.Str.ofString "lookpast.circle") 894) (Option.none) (PySem.Value.ref 675) PySem.Value.none 0) ::
(nat_lit 682, (PySem.Obj.mk (PySem.Value.type "code") (Option.none) (PySem.Data.fields (List.toArray [(PySem.Value.str (PySem.Str.ofString "undo") 1086), (PySem.Value.str (PySem.Str.ofString "Circle.undo") 1087), (PySem.Value.str (PySem.Str.ofString "/claim/cut.py") 1088), (PySem.Value.int (340 : Int) 0), (PySem.Value.int (1 : Int) 0), (PySem.Value.int (0 : Int) 0), (PySem.Value.int (0 : Int) 0), (PySem.Value.int (3 : Int) 0), (PySem.Value.ref 677), (PySem.Value.bool Bool.true), (PySem.Value.int (181 : Int) 0), (PySem.Value.ref 678), PySem.Value.none, (PySem.Value.ref 679), (PySem.Value.ref 680), (PySem.Value.ref 681), (PySem.Value.int (1090 : Int) 0), (PySem.Value.int (340 : Int) 0), (PySem.Value.str (PySem.Str.ofString "/claim/cut.py") 1091)])) (List.toArray []))) ::
(nat_lit 683, f97 (i97 (t97 73) 8) (PySem.Value.type "function") (Option.none) (List.toArray []) (PySem.Str.ofString "Circle.undo") 3 [] PySem.Value.none PySem.Value.none PySem.Value.none (PySem.Value.str (PySem.Str.ofString "lookpast.circle") 894) (Option.none) (PySem.Value.ref 682) PySem.Value.none 0) ::
(nat_lit 687, (PySem.Obj.mk (PySem.Value.type "code") (Option.none) (PySem.Data.fields (List.toArray [(PySem.Value.str (PySem.Str.ofString "write") 1093), (PySem.Value.str (PySem.Str.ofString "Circle.write") 1094), (PySem.Value.str (PySem.Str.ofString "/claim/cut.py") 1095), (PySem.Value.int (343 : Int) 0), (PySem.Value.int (3 : Int) 0), (PySem.Value.int (0 : Int) 0), (PySem.Value.int (0 : Int) 0), (PySem.Value.int (3 : Int) 0), (PySem.Value.ref 684), (PySem.Value.bool Bool.true), (PySem.Value.int (181 : Int) 0), (PySem.Value.ref 685), PySem.Value.none, PySem.Value.none, PySem.Value.none, (PySem.Value.ref 686), (PySem.Value.int (1096 : Int) 0), (PySem.Value.int (343 : Int) 0), (PySem.Value.str (PySem.Str.ofString "/claim/cut.py") 1097)])) (List.toArray []))) ::
(nat_lit 688, f97 (i97 (t97 73) 9) (PySem.Value.type "function") (Option.none) (List.toArray []) (PySem.Str.ofString "Circle.write") 3 [] PySem.Value.none PySem.Value.none PySem.Value.none (PySem.Value.str (PySem.Str.ofString "lookpast.circle") 894) (Option.none) (PySem.Value.ref 687) PySem.Value.none 0) ::
(nat_lit 689, (PySem.Obj.mk (PySem.Value.type "dict") (Option.none) (PySem.Data.dict (List.toArray [(PySem.DictEntry.mk (PySem.PyData.keyHash P (PySem.Str.ofString "whole")) (PySem.Value.str (PySem.Str.ofString "whole") 1099) (PySem.Value.bool Bool.true))]) 1) (List.toArray []))) ::
(nat_lit 695, (PySem.Obj.mk (PySem.Value.type "code") (Option.none) (PySem.Data.fields (List.toArray [(PySem.Value.str (PySem.Str.ofString "do") 1100), (PySem.Value.str (PySem.Str.ofString "Circle.do") 1101), (PySem.Value.str (PySem.Str.ofString "/claim/cut.py") 1102), (PySem.Value.int (347 : Int) 0), (PySem.Value.int (2 : Int) 0), (PySem.Value.int (0 : Int) 0), (PySem.Value.int (1 : Int) 0), (PySem.Value.int (3 : Int) 0), (PySem.Value.ref 690), (PySem.Value.bool Bool.true), (PySem.Value.int (181 : Int) 0), (PySem.Value.ref 691), PySem.Value.none, (PySem.Value.ref 692), (PySem.Value.ref 693), (PySem.Value.ref 694), (PySem.Value.int (1109 : Int) 0), (PySem.Value.int (347 : Int) 0), (PySem.Value.str (PySem.Str.ofString "/claim/cut.py") 1110)])) (List.toArray []))) ::
(nat_lit 696, f97 (i97 (t97 73) 10) (PySem.Value.type "function") (Option.none) (List.toArray []) (PySem.Str.ofString "Circle.do") 3 [] PySem.Value.none (PySem.Value.ref 689) PySem.Value.none (PySem.Value.str (PySem.Str.ofString "lookpast.circle") 894) (Option.none) (PySem.Value.ref 695) PySem.Value.none 0) ::
(nat_lit 702, (PySem.Obj.mk (PySem.Value.type "code") (Option.none) (PySem.Data.fields (List.toArray [(PySem.Value.str (PySem.Str.ofString "state") 1112), (PySem.Value.str (PySem.Str.ofString "Circle.state") 1113), (PySem.Value.str (PySem.Str.ofString "/claim/cut.py") 1114), (PySem.Value.int (362 : Int) 0), (PySem.Value.int (1 : Int) 0), (PySem.Value.int (0 : Int) 0), (PySem.Value.int (0 : Int) 0), (PySem.Value.int (3 : Int) 0), (PySem.Value.ref 697), (PySem.Value.bool Bool.true), (PySem.Value.int (181 : Int) 0), (PySem.Value.ref 698), PySem.Value.none, (PySem.Value.ref 699), (PySem.Value.ref 700), (PySem.Value.ref 701), (PySem.Value.int (1116 : Int) 0), (PySem.Value.int (362 : Int) 0), (PySem.Value.str (PySem.Str.ofString "/claim/cut.py") 1117)])) (List.toArray []))) ::
(nat_lit 703, f97 (i97 (t97 73) 11) (PySem.Value.type "function") (Option.none) (List.toArray []) (PySem.Str.ofString "Circle.state") 3 [] PySem.Value.none PySem.Value.none PySem.Value.none (PySem.Value.str (PySem.Str.ofString "lookpast.circle") 894) (Option.none) (PySem.Value.ref 702) PySem.Value.none 0) ::
(nat_lit 709, (PySem.Obj.mk (PySem.Value.type "code") (Option.none) (PySem.Data.fields (List.toArray [(PySem.Value.str (PySem.Str.ofString "deeds") 1119), (PySem.Value.str (PySem.Str.ofString "Circle.deeds") 1120), (PySem.Value.str (PySem.Str.ofString "/claim/cut.py") 1121), (PySem.Value.int (365 : Int) 0), (PySem.Value.int (1 : Int) 0), (PySem.Value.int (0 : Int) 0), (PySem.Value.int (0 : Int) 0), (PySem.Value.int (3 : Int) 0), (PySem.Value.ref 704), (PySem.Value.bool Bool.true), (PySem.Value.int (181 : Int) 0), (PySem.Value.ref 705), PySem.Value.none, (PySem.Value.ref 706), (PySem.Value.ref 707), (PySem.Value.ref 708), (PySem.Value.int (1123 : Int) 0), (PySem.Value.int (365 : Int) 0), (PySem.Value.str (PySem.Str.ofString "/claim/cut.py") 1124)])) (List.toArray []))) ::
(nat_lit 710, f97 (i97 (t97 73) 12) (PySem.Value.type "function") (Option.none) (List.toArray []) (PySem.Str.ofString "Circle.deeds") 3 [] PySem.Value.none PySem.Value.none PySem.Value.none (PySem.Value.str (PySem.Str.ofString "lookpast.circle") 894) (Option.none) (PySem.Value.ref 709) PySem.Value.none 0) ::
(nat_lit 716, (PySem.Obj.mk (PySem.Value.type "code") (Option.none) (PySem.Data.fields (List.toArray [(PySem.Value.str (PySem.Str.ofString "as_of") 1126), (PySem.Value.str (PySem.Str.ofString "Circle.as_of") 1127), (PySem.Value.str (PySem.Str.ofString "/claim/cut.py") 1128), (PySem.Value.int (368 : Int) 0), (PySem.Value.int (2 : Int) 0), (PySem.Value.int (0 : Int) 0), (PySem.Value.int (0 : Int) 0), (PySem.Value.int (3 : Int) 0), (PySem.Value.ref 711), (PySem.Value.bool Bool.true), (PySem.Value.int (181 : Int) 0), (PySem.Value.ref 712), PySem.Value.none, (PySem.Value.ref 713), (PySem.Value.ref 714), (PySem.Value.ref 715), (PySem.Value.int (1131 : Int) 0), (PySem.Value.int (368 : Int) 0), (PySem.Value.str (PySem.Str.ofString "/claim/cut.py") 1132)])) (List.toArray []))) ::
(nat_lit 717, f97 (i97 (t97 73) 13) (PySem.Value.type "function") (Option.none) (List.toArray []) (PySem.Str.ofString "Circle.as_of") 3 [] PySem.Value.none PySem.Value.none PySem.Value.none (PySem.Value.str (PySem.Str.ofString "lookpast.circle") 894) (Option.none) (PySem.Value.ref 716) PySem.Value.none 0) ::
(nat_lit 723, (PySem.Obj.mk (PySem.Value.type "code") (Option.none) (PySem.Data.fields (List.toArray [(PySem.Value.str (PySem.Str.ofString "twin") 1134), (PySem.Value.str (PySem.Str.ofString "Circle.twin") 1135), (PySem.Value.str (PySem.Str.ofString "/claim/cut.py") 1136), (PySem.Value.int (371 : Int) 0), (PySem.Value.int (1 : Int) 0), (PySem.Value.int (0 : Int) 0), (PySem.Value.int (0 : Int) 0), (PySem.Value.int (3 : Int) 0), (PySem.Value.ref 718), (PySem.Value.bool Bool.true), (PySem.Value.int (181 : Int) 0), (PySem.Value.ref 719), PySem.Value.none, (PySem.Value.ref 720), (PySem.Value.ref 721), (PySem.Value.ref 722), (PySem.Value.int (1138 : Int) 0), (PySem.Value.int (371 : Int) 0), (PySem.Value.str (PySem.Str.ofString "/claim/cut.py") 1139)])) (List.toArray []))) ::
(nat_lit 724, f97 (i97 (t97 73) 14) (PySem.Value.type "function") (Option.none) (List.toArray []) (PySem.Str.ofString "Circle.twin") 3 [] PySem.Value.none PySem.Value.none PySem.Value.none (PySem.Value.str (PySem.Str.ofString "lookpast.circle") 894) (Option.none) (PySem.Value.ref 723) PySem.Value.none 0) ::
(nat_lit 730, (PySem.Obj.mk (PySem.Value.type "code") (Option.none) (PySem.Data.fields (List.toArray [(PySem.Value.str (PySem.Str.ofString "log") 1141), (PySem.Value.str (PySem.Str.ofString "Circle.log") 1142), (PySem.Value.str (PySem.Str.ofString "/claim/cut.py") 1143), (PySem.Value.int (374 : Int) 0), (PySem.Value.int (1 : Int) 0), (PySem.Value.int (0 : Int) 0), (PySem.Value.int (0 : Int) 0), (PySem.Value.int (3 : Int) 0), (PySem.Value.ref 725), (PySem.Value.bool Bool.true), (PySem.Value.int (181 : Int) 0), (PySem.Value.ref 726), PySem.Value.none, (PySem.Value.ref 727), (PySem.Value.ref 728), (PySem.Value.ref 729), (PySem.Value.int (1145 : Int) 0), (PySem.Value.int (374 : Int) 0), (PySem.Value.str (PySem.Str.ofString "/claim/cut.py") 1146)])) (List.toArray []))) ::
(nat_lit 731, f97 (i97 (t97 73) 15) (PySem.Value.type "function") (Option.none) (List.toArray []) (PySem.Str.ofString "Circle.log") 3 [] PySem.Value.none PySem.Value.none PySem.Value.none (PySem.Value.str (PySem.Str.ofString "lookpast.circle") 894) (Option.none) (PySem.Value.ref 730) PySem.Value.none 0) ::
(nat_lit 737, (PySem.Obj.mk (PySem.Value.type "code") (Option.none) (PySem.Data.fields (List.toArray [(PySem.Value.str (PySem.Str.ofString "__len__") 1148), (PySem.Value.str (PySem.Str.ofString "Circle.__len__") 1149), (PySem.Value.str (PySem.Str.ofString "/claim/cut.py") 1150), (PySem.Value.int (377 : Int) 0), (PySem.Value.int (1 : Int) 0), (PySem.Value.int (0 : Int) 0), (PySem.Value.int (0 : Int) 0), (PySem.Value.int (3 : Int) 0), (PySem.Value.ref 732), (PySem.Value.bool Bool.true), (PySem.Value.int (181 : Int) 0), (PySem.Value.ref 733), PySem.Value.none, (PySem.Value.ref 734), (PySem.Value.ref 735), (PySem.Value.ref 736), (PySem.Value.int (1152 : Int) 0), (PySem.Value.int (377 : Int) 0), (PySem.Value.str (PySem.Str.ofString "/claim/cut.py") 1153)])) (List.toArray []))) ::
(nat_lit 738, f97 (i97 (t97 73) 16) (PySem.Value.type "function") (Option.none) (List.toArray []) (PySem.Str.ofString "Circle.__len__") 3 [] PySem.Value.none PySem.Value.none PySem.Value.none (PySem.Value.str (PySem.Str.ofString "lookpast.circle") 894) (Option.none) (PySem.Value.ref 737) PySem.Value.none 0) ::
(nat_lit 744, (PySem.Obj.mk (PySem.Value.type "code") (Option.none) (PySem.Data.fields (List.toArray [(PySem.Value.str (PySem.Str.ofString "__eq__") 1155), (PySem.Value.str (PySem.Str.ofString "Circle.__eq__") 1156), (PySem.Value.str (PySem.Str.ofString "/claim/cut.py") 1157), (PySem.Value.int (380 : Int) 0), (PySem.Value.int (2 : Int) 0), (PySem.Value.int (0 : Int) 0), (PySem.Value.int (0 : Int) 0), (PySem.Value.int (3 : Int) 0), (PySem.Value.ref 739), (PySem.Value.bool Bool.true), (PySem.Value.int (181 : Int) 0), (PySem.Value.ref 740), PySem.Value.none, (PySem.Value.ref 741), (PySem.Value.ref 742), (PySem.Value.ref 743), (PySem.Value.int (1160 : Int) 0), (PySem.Value.int (380 : Int) 0), (PySem.Value.str (PySem.Str.ofString "/claim/cut.py") 1161)])) (List.toArray []))) ::
(nat_lit 745, f97 (i97 (t97 73) 17) (PySem.Value.type "function") (Option.none) (List.toArray []) (PySem.Str.ofString "Circle.__eq__") 3 [] PySem.Value.none PySem.Value.none PySem.Value.none (PySem.Value.str (PySem.Str.ofString "lookpast.circle") 894) (Option.none) (PySem.Value.ref 744) PySem.Value.none 0) ::
(nat_lit 751, (PySem.Obj.mk (PySem.Value.type "code") (Option.none) (PySem.Data.fields (List.toArray [(PySem.Value.str (PySem.Str.ofString "__repr__") 1163), (PySem.Value.str (PySem.Str.ofString "Circle.__repr__") 1164), (PySem.Value.str (PySem.Str.ofString "/claim/cut.py") 1165), (PySem.Value.int (383 : Int) 0), (PySem.Value.int (1 : Int) 0), (PySem.Value.int (0 : Int) 0), (PySem.Value.int (0 : Int) 0), (PySem.Value.int (3 : Int) 0), (PySem.Value.ref 746), (PySem.Value.bool Bool.true), (PySem.Value.int (181 : Int) 0), (PySem.Value.ref 747), PySem.Value.none, (PySem.Value.ref 748), (PySem.Value.ref 749), (PySem.Value.ref 750), (PySem.Value.int (1167 : Int) 0), (PySem.Value.int (383 : Int) 0), (PySem.Value.str (PySem.Str.ofString "/claim/cut.py") 1168)])) (List.toArray []))) ::
(nat_lit 752, f97 (i97 (t97 73) 18) (PySem.Value.type "function") (Option.none) (List.toArray []) (PySem.Str.ofString "Circle.__repr__") 3 [] PySem.Value.none PySem.Value.none PySem.Value.none (PySem.Value.str (PySem.Str.ofString "lookpast.circle") 894) (Option.none) (PySem.Value.ref 751) PySem.Value.none 0) ::
(nat_lit 753, (PySem.Obj.mk (PySem.Value.type "tuple") (Option.none) (PySem.Data.seq (List.toArray [(PySem.Value.str (PySem.Str.ofString "along") 1170), (PySem.Value.str (PySem.Str.ofString "entries") 1171)]) 0) (List.toArray []))) ::
(nat_lit 754, (PySem.Obj.mk (PySem.Value.type "dict") (Option.none) (PySem.Data.dict (List.toArray [(PySem.DictEntry.mk (PySem.PyData.keyHash P (PySem.Str.ofString "__module__")) (PySem.Value.str (PySem.Str.ofString "__module__") 1011) (PySem.Value.str (PySem.Str.ofString "lookpast.circle") 894)),
 (PySem.DictEntry.mk (PySem.PyData.keyHash P (PySem.Str.ofString "__firstlineno__")) (PySem.Value.str (PySem.Str.ofString "__firstlineno__") 1015) (PySem.Value.int (309 : Int) 1014)),
 (PySem.DictEntry.mk (PySem.PyData.keyHash P (PySem.Str.ofString "__init__")) (PySem.Value.str (PySem.Str.ofString "__init__") 1023) (PySem.Value.ref 626)),
 (PySem.DictEntry.mk (PySem.PyData.keyHash P (PySem.Str.ofString "act")) (PySem.Value.str (PySem.Str.ofString "act") 1036) (PySem.Value.ref 633)),
 (PySem.DictEntry.mk (PySem.PyData.keyHash P (PySem.Str.ofString "call")) (PySem.Value.str (PySem.Str.ofString "call") 1044) (PySem.Value.ref 640)),
 (PySem.DictEntry.mk (PySem.PyData.keyHash P (PySem.Str.ofString "run")) (PySem.Value.str (PySem.Str.ofString "run") 1052) (PySem.Value.ref 647)),
 (PySem.DictEntry.mk (PySem.PyData.keyHash P (PySem.Str.ofString "repeat")) (PySem.Value.str (PySem.Str.ofString "repeat") 1061) (PySem.Value.ref 654)),
 (PySem.DictEntry.mk (PySem.PyData.keyHash P (PySem.Str.ofString "become")) (PySem.Value.str (PySem.Str.ofString "become") 1069) (PySem.Value.ref 661)),
 (PySem.DictEntry.mk (PySem.PyData.keyHash P (PySem.Str.ofString "come")) (PySem.Value.str (PySem.Str.ofString "come") 1077) (PySem.Value.ref 669)),
 (PySem.DictEntry.mk (PySem.PyData.keyHash P (PySem.Str.ofString "leave")) (PySem.Value.str (PySem.Str.ofString "leave") 1085) (PySem.Value.ref 676)),
 (PySem.DictEntry.mk (PySem.PyData.keyHash P (PySem.Str.ofString "undo")) (PySem.Value.str (PySem.Str.ofString "undo") 1092) (PySem.Value.ref 683)),
 (PySem.DictEntry.mk (PySem.PyData.keyHash P (PySem.Str.ofString "write")) (PySem.Value.str (PySem.Str.ofString "write") 1098) (PySem.Value.ref 688)),
 (PySem.DictEntry.mk (PySem.PyData.keyHash P (PySem.Str.ofString "do")) (PySem.Value.str (PySem.Str.ofString "do") 1111) (PySem.Value.ref 696)),
 (PySem.DictEntry.mk (PySem.PyData.keyHash P (PySem.Str.ofString "state")) (PySem.Value.str (PySem.Str.ofString "state") 1118) (PySem.Value.ref 703)),
 (PySem.DictEntry.mk (PySem.PyData.keyHash P (PySem.Str.ofString "deeds")) (PySem.Value.str (PySem.Str.ofString "deeds") 1125) (PySem.Value.ref 710)),
 (PySem.DictEntry.mk (PySem.PyData.keyHash P (PySem.Str.ofString "as_of")) (PySem.Value.str (PySem.Str.ofString "as_of") 1133) (PySem.Value.ref 717)),
 (PySem.DictEntry.mk (PySem.PyData.keyHash P (PySem.Str.ofString "twin")) (PySem.Value.str (PySem.Str.ofString "twin") 1140) (PySem.Value.ref 724)),
 (PySem.DictEntry.mk (PySem.PyData.keyHash P (PySem.Str.ofString "log")) (PySem.Value.str (PySem.Str.ofString "log") 1147) (PySem.Value.ref 731)),
 (PySem.DictEntry.mk (PySem.PyData.keyHash P (PySem.Str.ofString "__len__")) (PySem.Value.str (PySem.Str.ofString "__len__") 1154) (PySem.Value.ref 738)),
 (PySem.DictEntry.mk (PySem.PyData.keyHash P (PySem.Str.ofString "__eq__")) (PySem.Value.str (PySem.Str.ofString "__eq__") 1162) (PySem.Value.ref 745)),
 (PySem.DictEntry.mk (PySem.PyData.keyHash P (PySem.Str.ofString "__repr__")) (PySem.Value.str (PySem.Str.ofString "__repr__") 1169) (PySem.Value.ref 752)),
 (PySem.DictEntry.mk (PySem.PyData.keyHash P (PySem.Str.ofString "__static_attributes__")) (PySem.Value.str (PySem.Str.ofString "__static_attributes__") 1172) (PySem.Value.ref 753)),
 (PySem.DictEntry.mk (PySem.PyData.keyHash P (PySem.Str.ofString "__dict__")) (PySem.Value.str (PySem.Str.ofString "__dict__") 1174) (PySem.Value.ref 756)),
 (PySem.DictEntry.mk (PySem.PyData.keyHash P (PySem.Str.ofString "__weakref__")) (PySem.Value.str (PySem.Str.ofString "__weakref__") 1176) (PySem.Value.ref 757)),
 (PySem.DictEntry.mk (PySem.PyData.keyHash P (PySem.Str.ofString "__doc__")) (PySem.Value.str (PySem.Str.ofString "__doc__") 1177) PySem.Value.none),
 (PySem.DictEntry.mk (PySem.PyData.keyHash P (PySem.Str.ofString "__hash__")) (PySem.Value.str (PySem.Str.ofString "__hash__") 1178) PySem.Value.none)]) 5) (List.toArray []))) ::
(nat_lit 755, (PySem.Obj.mk (PySem.Value.type "type") (Option.none) (PySem.Data.cls (PySem.ClassData.mk (PySem.Str.ofString "Circle") [(PySem.Value.type "object")] [(PySem.Value.ref 755), (PySem.Value.type "object")] 754 (PySem.Str.ofString "Circle") Bool.true [] [] Bool.false (Option.none) Bool.false)) (List.toArray [(Option.none), (Option.none), (Option.some (PySem.Value.str (PySem.Str.ofString "Circle") 1004)), (Option.some (PySem.Value.str (PySem.Str.ofString "Circle") 1012)), (Option.some (PySem.Value.builtin "object.__new__")), (Option.some (PySem.Value.bool Bool.true))]))) ::
(nat_lit 756, (PySem.Obj.mk (PySem.Value.type "getset_descriptor") (Option.none) (PySem.Data.fields (List.toArray [(PySem.Value.str (PySem.Str.ofString "__dict__") 1173), (PySem.Value.ref 755), (PySem.Value.builtin "function.__dict__"), (PySem.Value.builtin "function.__dict__#set")])) (List.toArray []))) ::
(nat_lit 757, (PySem.Obj.mk (PySem.Value.type "getset_descriptor") (Option.none) (PySem.Data.fields (List.toArray [(PySem.Value.str (PySem.Str.ofString "__weakref__") 1175), (PySem.Value.ref 755), (PySem.Value.builtin "ExceptionGroup.__weakref__"), PySem.Value.none])) (List.toArray []))) ::
(nat_lit 765, (PySem.Obj.mk (PySem.Value.type "code") (Option.none) (PySem.Data.fields (List.toArray [(PySem.Value.str (PySem.Str.ofString "product") 1183), (PySem.Value.str (PySem.Str.ofString "product") 1184), (PySem.Value.str (PySem.Str.ofString "/claim/cut.py") 1185), (PySem.Value.int (386 : Int) 0), (PySem.Value.int (1 : Int) 0), (PySem.Value.int (0 : Int) 0), (PySem.Value.int (0 : Int) 0), (PySem.Value.int (3 : Int) 0), (PySem.Value.ref 760), (PySem.Value.bool Bool.true), (PySem.Value.int (181 : Int) 0), (PySem.Value.ref 761), PySem.Value.none, (PySem.Value.ref 762), (PySem.Value.ref 763), (PySem.Value.ref 764), (PySem.Value.int (1189 : Int) 0), (PySem.Value.int (386 : Int) 0), (PySem.Value.str (PySem.Str.ofString "/claim/cut.py") 1190)])) (List.toArray []))) ::
(nat_lit 766, f97 (t97 75) (PySem.Value.type "function") (Option.none) (List.toArray []) (PySem.Str.ofString "product") 3 [] PySem.Value.none PySem.Value.none PySem.Value.none (PySem.Value.str (PySem.Str.ofString "lookpast.counting") 1181) (Option.none) (PySem.Value.ref 765) PySem.Value.none 0) ::
(nat_lit 772, (PySem.Obj.mk (PySem.Value.type "code") (Option.none) (PySem.Data.fields (List.toArray [(PySem.Value.str (PySem.Str.ofString "factorial") 1192), (PySem.Value.str (PySem.Str.ofString "factorial") 1193), (PySem.Value.str (PySem.Str.ofString "/claim/cut.py") 1194), (PySem.Value.int (391 : Int) 0), (PySem.Value.int (1 : Int) 0), (PySem.Value.int (0 : Int) 0), (PySem.Value.int (0 : Int) 0), (PySem.Value.int (3 : Int) 0), (PySem.Value.ref 767), (PySem.Value.bool Bool.true), (PySem.Value.int (181 : Int) 0), (PySem.Value.ref 768), PySem.Value.none, (PySem.Value.ref 769), (PySem.Value.ref 770), (PySem.Value.ref 771), (PySem.Value.int (1196 : Int) 0), (PySem.Value.int (391 : Int) 0), (PySem.Value.str (PySem.Str.ofString "/claim/cut.py") 1197)])) (List.toArray []))) ::
(nat_lit 773, f97 (t97 76) (PySem.Value.type "function") (Option.none) (List.toArray []) (PySem.Str.ofString "factorial") 3 [] PySem.Value.none PySem.Value.none PySem.Value.none (PySem.Value.str (PySem.Str.ofString "lookpast.counting") 1181) (Option.none) (PySem.Value.ref 772) PySem.Value.none 0) ::
(nat_lit 777, (PySem.Obj.mk (PySem.Value.type "code") (Option.none) (PySem.Data.fields (List.toArray [(PySem.Value.str (PySem.Str.ofString "groups_of") 1199), (PySem.Value.str (PySem.Str.ofString "groups_of") 1200), (PySem.Value.str (PySem.Str.ofString "/claim/cut.py") 1201), (PySem.Value.int (393 : Int) 0), (PySem.Value.int (2 : Int) 0), (PySem.Value.int (0 : Int) 0), (PySem.Value.int (0 : Int) 0), (PySem.Value.int (3 : Int) 0), (PySem.Value.ref 774), (PySem.Value.bool Bool.true), (PySem.Value.int (181 : Int) 0), (PySem.Value.ref 775), PySem.Value.none, PySem.Value.none, PySem.Value.none, (PySem.Value.ref 776), (PySem.Value.int (1202 : Int) 0), (PySem.Value.int (393 : Int) 0), (PySem.Value.str (PySem.Str.ofString "/claim/cut.py") 1203)])) (List.toArray []))) ::
(nat_lit 778, f97 (t97 77) (PySem.Value.type "function") (Option.none) (List.toArray []) (PySem.Str.ofString "groups_of") 3 [] PySem.Value.none PySem.Value.none PySem.Value.none (PySem.Value.str (PySem.Str.ofString "lookpast.counting") 1181) (Option.none) (PySem.Value.ref 777) PySem.Value.none 0) ::
(nat_lit 782, (PySem.Obj.mk (PySem.Value.type "code") (Option.none) (PySem.Data.fields (List.toArray [(PySem.Value.str (PySem.Str.ofString "number_in") 1205), (PySem.Value.str (PySem.Str.ofString "number_in") 1206), (PySem.Value.str (PySem.Str.ofString "/claim/cut.py") 1207), (PySem.Value.int (402 : Int) 0), (PySem.Value.int (4 : Int) 0), (PySem.Value.int (0 : Int) 0), (PySem.Value.int (0 : Int) 0), (PySem.Value.int (3 : Int) 0), (PySem.Value.ref 779), (PySem.Value.bool Bool.true), (PySem.Value.int (181 : Int) 0), (PySem.Value.ref 780), PySem.Value.none, PySem.Value.none, PySem.Value.none, (PySem.Value.ref 781), (PySem.Value.int (1208 : Int) 0), (PySem.Value.int (402 : Int) 0), (PySem.Value.str (PySem.Str.ofString "/claim/cut.py") 1209)])) (List.toArray []))) ::
(nat_lit 783, f97 (t97 78) (PySem.Value.type "function") (Option.none) (List.toArray []) (PySem.Str.ofString "number_in") 3 [] PySem.Value.none PySem.Value.none PySem.Value.none (PySem.Value.str (PySem.Str.ofString "lookpast.counting") 1181) (Option.none) (PySem.Value.ref 782) PySem.Value.none 0) ::
(nat_lit 789, (PySem.Obj.mk (PySem.Value.type "code") (Option.none) (PySem.Data.fields (List.toArray [(PySem.Value.str (PySem.Str.ofString "ring_state") 1213), (PySem.Value.str (PySem.Str.ofString "ring_state") 1214), (PySem.Value.str (PySem.Str.ofString "/claim/cut.py") 1215), (PySem.Value.int (410 : Int) 0), (PySem.Value.int (1 : Int) 0), (PySem.Value.int (0 : Int) 0), (PySem.Value.int (0 : Int) 0), (PySem.Value.int (3 : Int) 0), (PySem.Value.ref 784), (PySem.Value.bool Bool.true), (PySem.Value.int (181 : Int) 0), (PySem.Value.ref 785), PySem.Value.none, (PySem.Value.ref 786), (PySem.Value.ref 787), (PySem.Value.ref 788), (PySem.Value.int (1219 : Int) 0), (PySem.Value.int (410 : Int) 0), (PySem.Value.str (PySem.Str.ofString "/claim/cut.py") 1220)])) (List.toArray []))) ::
(nat_lit 790, f97 (t97 80) (PySem.Value.type "function") (Option.none) (List.toArray []) (PySem.Str.ofString "ring_state") 3 [] PySem.Value.none PySem.Value.none PySem.Value.none (PySem.Value.str (PySem.Str.ofString "lookpast.pasts") 1211) (Option.none) (PySem.Value.ref 789) PySem.Value.none 0) ::
(nat_lit 794, (PySem.Obj.mk (PySem.Value.type "code") (Option.none) (PySem.Data.fields (List.toArray [(PySem.Value.str (PySem.Str.ofString "people_left") 1222), (PySem.Value.str (PySem.Str.ofString "people_left") 1223), (PySem.Value.str (PySem.Str.ofString "/claim/cut.py") 1224), (PySem.Value.int (415 : Int) 0), (PySem.Value.int (2 : Int) 0), (PySem.Value.int (0 : Int) 0), (PySem.Value.int (0 : Int) 0), (PySem.Value.int (3 : Int) 0), (PySem.Value.ref 791), (PySem.Value.bool Bool.true), (PySem.Value.int (181 : Int) 0), (PySem.Value.ref 792), PySem.Value.none, PySem.Value.none, PySem.Value.none, (PySem.Value.ref 793), (PySem.Value.int (1225 : Int) 0), (PySem.Value.int (415 : Int) 0), (PySem.Value.str (PySem.Str.ofString "/claim/cut.py") 1226)])) (List.toArray []))) ::
(nat_lit 795, f97 (t97 81) (PySem.Value.type "function") (Option.none) (List.toArray []) (PySem.Str.ofString "people_left") 3 [] PySem.Value.none PySem.Value.none PySem.Value.none (PySem.Value.str (PySem.Str.ofString "lookpast.pasts") 1211) (Option.none) (PySem.Value.ref 794) PySem.Value.none 0) ::
(nat_lit 801, (PySem.Obj.mk (PySem.Value.type "code") (Option.none) (PySem.Data.fields (List.toArray [(PySem.Value.str (PySem.Str.ofString "ring_pasts_many") 1228), (PySem.Value.str (PySem.Str.ofString "ring_pasts_many") 1229), (PySem.Value.str (PySem.Str.ofString "/claim/cut.py") 1230), (PySem.Value.int (418 : Int) 0), (PySem.Value.int (1 : Int) 0), (PySem.Value.int (0 : Int) 0), (PySem.Value.int (0 : Int) 0), (PySem.Value.int (3 : Int) 0), (PySem.Value.ref 796), (PySem.Value.bool Bool.true), (PySem.Value.int (181 : Int) 0), (PySem.Value.ref 797), PySem.Value.none, (PySem.Value.ref 798), (PySem.Value.ref 799), (PySem.Value.ref 800), (PySem.Value.int (1234 : Int) 0), (PySem.Value.int (418 : Int) 0), (PySem.Value.str (PySem.Str.ofString "/claim/cut.py") 1235)])) (List.toArray []))) ::
(nat_lit 802, f97 (t97 82) (PySem.Value.type "function") (Option.none) (List.toArray []) (PySem.Str.ofString "ring_pasts_many") 3 [] PySem.Value.none PySem.Value.none PySem.Value.none (PySem.Value.str (PySem.Str.ofString "lookpast.pasts") 1211) (Option.none) (PySem.Value.ref 801) PySem.Value.none 0) ::
(nat_lit 806, (PySem.Obj.mk (PySem.Value.type "code") (Option.none) (PySem.Data.fields (List.toArray [(PySem.Value.str (PySem.Str.ofString "lap_shares") 1237), (PySem.Value.str (PySem.Str.ofString "lap_shares") 1238), (PySem.Value.str (PySem.Str.ofString "/claim/cut.py") 1239), (PySem.Value.int (423 : Int) 0), (PySem.Value.int (2 : Int) 0), (PySem.Value.int (0 : Int) 0), (PySem.Value.int (0 : Int) 0), (PySem.Value.int (3 : Int) 0), (PySem.Value.ref 803), (PySem.Value.bool Bool.true), (PySem.Value.int (181 : Int) 0), (PySem.Value.ref 804), PySem.Value.none, PySem.Value.none, PySem.Value.none, (PySem.Value.ref 805), (PySem.Value.int (1240 : Int) 0), (PySem.Value.int (423 : Int) 0), (PySem.Value.str (PySem.Str.ofString "/claim/cut.py") 1241)])) (List.toArray []))) ::
(nat_lit 807, f97 (t97 83) (PySem.Value.type "function") (Option.none) (List.toArray []) (PySem.Str.ofString "lap_shares") 3 [] PySem.Value.none PySem.Value.none PySem.Value.none (PySem.Value.str (PySem.Str.ofString "lookpast.pasts") 1211) (Option.none) (PySem.Value.ref 806) PySem.Value.none 0) ::
(nat_lit 811, (PySem.Obj.mk (PySem.Value.type "code") (Option.none) (PySem.Data.fields (List.toArray [(PySem.Value.str (PySem.Str.ofString "is_ring_past") 1243), (PySem.Value.str (PySem.Str.ofString "is_ring_past") 1244), (PySem.Value.str (PySem.Str.ofString "/claim/cut.py") 1245), (PySem.Value.int (431 : Int) 0), (PySem.Value.int (2 : Int) 0), (PySem.Value.int (0 : Int) 0), (PySem.Value.int (0 : Int) 0), (PySem.Value.int (3 : Int) 0), (PySem.Value.ref 808), (PySem.Value.bool Bool.true), (PySem.Value.int (181 : Int) 0), (PySem.Value.ref 809), PySem.Value.none, PySem.Value.none, PySem.Value.none, (PySem.Value.ref 810), (PySem.Value.int (1246 : Int) 0), (PySem.Value.int (431 : Int) 0), (PySem.Value.str (PySem.Str.ofString "/claim/cut.py") 1247)])) (List.toArray []))) ::
(nat_lit 812, f97 (t97 84) (PySem.Value.type "function") (Option.none) (List.toArray []) (PySem.Str.ofString "is_ring_past") 3 [] PySem.Value.none PySem.Value.none PySem.Value.none (PySem.Value.str (PySem.Str.ofString "lookpast.pasts") 1211) (Option.none) (PySem.Value.ref 811) PySem.Value.none 0) ::
(nat_lit 818, (PySem.Obj.mk (PySem.Value.type "code") (Option.none) (PySem.Data.fields (List.toArray [(PySem.Value.str (PySem.Str.ofString "ring_past_number") 1249), (PySem.Value.str (PySem.Str.ofString "ring_past_number") 1250), (PySem.Value.str (PySem.Str.ofString "/claim/cut.py") 1251), (PySem.Value.int (433 : Int) 0), (PySem.Value.int (2 : Int) 0), (PySem.Value.int (0 : Int) 0), (PySem.Value.int (0 : Int) 0), (PySem.Value.int (3 : Int) 0), (PySem.Value.ref 813), (PySem.Value.bool Bool.true), (PySem.Value.int (181 : Int) 0), (PySem.Value.ref 814), PySem.Value.none, (PySem.Value.ref 815), (PySem.Value.ref 816), (PySem.Value.ref 817), (PySem.Value.int (1256 : Int) 0), (PySem.Value.int (433 : Int) 0), (PySem.Value.str (PySem.Str.ofString "/claim/cut.py") 1257)])) (List.toArray []))) ::
(nat_lit 819, f97 (t97 85) (PySem.Value.type "function") (Option.none) (List.toArray []) (PySem.Str.ofString "ring_past_number") 3 [] PySem.Value.none PySem.Value.none PySem.Value.none (PySem.Value.str (PySem.Str.ofString "lookpast.pasts") 1211) (Option.none) (PySem.Value.ref 818) PySem.Value.none 0) ::
(nat_lit 823, (PySem.Obj.mk (PySem.Value.type "code") (Option.none) (PySem.Data.fields (List.toArray [(PySem.Value.str (PySem.Str.ofString "orders_many") 1259), (PySem.Value.str (PySem.Str.ofString "orders_many") 1260), (PySem.Value.str (PySem.Str.ofString "/claim/cut.py") 1261), (PySem.Value.int (441 : Int) 0), (PySem.Value.int (2 : Int) 0), (PySem.Value.int (0 : Int) 0), (PySem.Value.int (0 : Int) 0), (PySem.Value.int (3 : Int) 0), (PySem.Value.ref 820), (PySem.Value.bool Bool.true), (PySem.Value.int (181 : Int) 0), (PySem.Value.ref 821), PySem.Value.none, PySem.Value.none, PySem.Value.none, (PySem.Value.ref 822), (PySem.Value.int (1262 : Int) 0), (PySem.Value.int (441 : Int) 0), (PySem.Value.str (PySem.Str.ofString "/claim/cut.py") 1263)])) (List.toArray []))) ::
(nat_lit 824, f97 (t97 86) (PySem.Value.type "function") (Option.none) (List.toArray []) (PySem.Str.ofString "orders_many") 3 [] PySem.Value.none PySem.Value.none PySem.Value.none (PySem.Value.str (PySem.Str.ofString "lookpast.pasts") 1211) (Option.none) (PySem.Value.ref 823) PySem.Value.none 0) ::
(nat_lit 828, (PySem.Obj.mk (PySem.Value.type "code") (Option.none) (PySem.Data.fields (List.toArray [(PySem.Value.str (PySem.Str.ofString "has_only_roots") 1265), (PySem.Value.str (PySem.Str.ofString "has_only_roots") 1266), (PySem.Value.str (PySem.Str.ofString "/claim/cut.py") 1267), (PySem.Value.int (445 : Int) 0), (PySem.Value.int (1 : Int) 0), (PySem.Value.int (0 : Int) 0), (PySem.Value.int (0 : Int) 0), (PySem.Value.int (3 : Int) 0), (PySem.Value.ref 825), (PySem.Value.bool Bool.true), (PySem.Value.int (181 : Int) 0), (PySem.Value.ref 826), PySem.Value.none, PySem.Value.none, PySem.Value.none, (PySem.Value.ref 827), (PySem.Value.int (1268 : Int) 0), (PySem.Value.int (445 : Int) 0), (PySem.Value.str (PySem.Str.ofString "/claim/cut.py") 1269)])) (List.toArray []))) ::
(nat_lit 829, f97 (t97 87) (PySem.Value.type "function") (Option.none) (List.toArray []) (PySem.Str.ofString "has_only_roots") 3 [] PySem.Value.none PySem.Value.none PySem.Value.none (PySem.Value.str (PySem.Str.ofString "lookpast.pasts") 1211) (Option.none) (PySem.Value.ref 828) PySem.Value.none 0) ::
(nat_lit 833, (PySem.Obj.mk (PySem.Value.type "code") (Option.none) (PySem.Data.fields (List.toArray [(PySem.Value.str (PySem.Str.ofString "line_pasts_many") 1271), (PySem.Value.str (PySem.Str.ofString "line_pasts_many") 1272), (PySem.Value.str (PySem.Str.ofString "/claim/cut.py") 1273), (PySem.Value.int (447 : Int) 0), (PySem.Value.int (1 : Int) 0), (PySem.Value.int (0 : Int) 0), (PySem.Value.int (0 : Int) 0), (PySem.Value.int (3 : Int) 0), (PySem.Value.ref 830), (PySem.Value.bool Bool.true), (PySem.Value.int (181 : Int) 0), (PySem.Value.ref 831), PySem.Value.none, PySem.Value.none, PySem.Value.none, (PySem.Value.ref 832), (PySem.Value.int (1274 : Int) 0), (PySem.Value.int (447 : Int) 0), (PySem.Value.str (PySem.Str.ofString "/claim/cut.py") 1275)])) (List.toArray []))) ::
(nat_lit 834, f97 (t97 88) (PySem.Value.type "function") (Option.none) (List.toArray []) (PySem.Str.ofString "line_pasts_many") 3 [] PySem.Value.none PySem.Value.none PySem.Value.none (PySem.Value.str (PySem.Str.ofString "lookpast.pasts") 1211) (Option.none) (PySem.Value.ref 833) PySem.Value.none 0) ::
(nat_lit 838, (PySem.Obj.mk (PySem.Value.type "code") (Option.none) (PySem.Data.fields (List.toArray [(PySem.Value.str (PySem.Str.ofString "points_among") 1277), (PySem.Value.str (PySem.Str.ofString "points_among") 1278), (PySem.Value.str (PySem.Str.ofString "/claim/cut.py") 1279), (PySem.Value.int (451 : Int) 0), (PySem.Value.int (3 : Int) 0), (PySem.Value.int (0 : Int) 0), (PySem.Value.int (0 : Int) 0), (PySem.Value.int (3 : Int) 0), (PySem.Value.ref 835), (PySem.Value.bool Bool.true), (PySem.Value.int (181 : Int) 0), (PySem.Value.ref 836), PySem.Value.none, PySem.Value.none, PySem.Value.none, (PySem.Value.ref 837), (PySem.Value.int (1280 : Int) 0), (PySem.Value.int (451 : Int) 0), (PySem.Value.str (PySem.Str.ofString "/claim/cut.py") 1281)])) (List.toArray []))) ::
(nat_lit 839, f97 (t97 89) (PySem.Value.type "function") (Option.none) (List.toArray []) (PySem.Str.ofString "points_among") 3 [] PySem.Value.none PySem.Value.none PySem.Value.none (PySem.Value.str (PySem.Str.ofString "lookpast.pasts") 1211) (Option.none) (PySem.Value.ref 838) PySem.Value.none 0) ::
(nat_lit 843, (PySem.Obj.mk (PySem.Value.type "code") (Option.none) (PySem.Data.fields (List.toArray [(PySem.Value.str (PySem.Str.ofString "line_shares") 1283), (PySem.Value.str (PySem.Str.ofString "line_shares") 1284), (PySem.Value.str (PySem.Str.ofString "/claim/cut.py") 1285), (PySem.Value.int (453 : Int) 0), (PySem.Value.int (2 : Int) 0), (PySem.Value.int (0 : Int) 0), (PySem.Value.int (0 : Int) 0), (PySem.Value.int (3 : Int) 0), (PySem.Value.ref 840), (PySem.Value.bool Bool.true), (PySem.Value.int (181 : Int) 0), (PySem.Value.ref 841), PySem.Value.none, PySem.Value.none, PySem.Value.none, (PySem.Value.ref 842), (PySem.Value.int (1286 : Int) 0), (PySem.Value.int (453 : Int) 0), (PySem.Value.str (PySem.Str.ofString "/claim/cut.py") 1287)])) (List.toArray []))) ::
(nat_lit 844, f97 (t97 90) (PySem.Value.type "function") (Option.none) (List.toArray []) (PySem.Str.ofString "line_shares") 3 [] PySem.Value.none PySem.Value.none PySem.Value.none (PySem.Value.str (PySem.Str.ofString "lookpast.pasts") 1211) (Option.none) (PySem.Value.ref 843) PySem.Value.none 0) ::
(nat_lit 848, (PySem.Obj.mk (PySem.Value.type "code") (Option.none) (PySem.Data.fields (List.toArray [(PySem.Value.str (PySem.Str.ofString "is_line_past") 1289), (PySem.Value.str (PySem.Str.ofString "is_line_past") 1290), (PySem.Value.str (PySem.Str.ofString "/claim/cut.py") 1291), (PySem.Value.int (457 : Int) 0), (PySem.Value.int (2 : Int) 0), (PySem.Value.int (0 : Int) 0), (PySem.Value.int (0 : Int) 0), (PySem.Value.int (3 : Int) 0), (PySem.Value.ref 845), (PySem.Value.bool Bool.true), (PySem.Value.int (181 : Int) 0), (PySem.Value.ref 846), PySem.Value.none, PySem.Value.none, PySem.Value.none, (PySem.Value.ref 847), (PySem.Value.int (1292 : Int) 0), (PySem.Value.int (457 : Int) 0), (PySem.Value.str (PySem.Str.ofString "/claim/cut.py") 1293)])) (List.toArray []))) ::
(nat_lit 849, f97 (t97 91) (PySem.Value.type "function") (Option.none) (List.toArray []) (PySem.Str.ofString "is_line_past") 3 [] PySem.Value.none PySem.Value.none PySem.Value.none (PySem.Value.str (PySem.Str.ofString "lookpast.pasts") 1211) (Option.none) (PySem.Value.ref 848) PySem.Value.none 0) ::
(nat_lit 853, (PySem.Obj.mk (PySem.Value.type "code") (Option.none) (PySem.Data.fields (List.toArray [(PySem.Value.str (PySem.Str.ofString "line_past_number") 1295), (PySem.Value.str (PySem.Str.ofString "line_past_number") 1296), (PySem.Value.str (PySem.Str.ofString "/claim/cut.py") 1297), (PySem.Value.int (462 : Int) 0), (PySem.Value.int (2 : Int) 0), (PySem.Value.int (0 : Int) 0), (PySem.Value.int (0 : Int) 0), (PySem.Value.int (3 : Int) 0), (PySem.Value.ref 850), (PySem.Value.bool Bool.true), (PySem.Value.int (181 : Int) 0), (PySem.Value.ref 851), PySem.Value.none, PySem.Value.none, PySem.Value.none, (PySem.Value.ref 852), (PySem.Value.int (1298 : Int) 0), (PySem.Value.int (462 : Int) 0), (PySem.Value.str (PySem.Str.ofString "/claim/cut.py") 1299)])) (List.toArray []))) ::
(nat_lit 854, f97 (t97 92) (PySem.Value.type "function") (Option.none) (List.toArray []) (PySem.Str.ofString "line_past_number") 3 [] PySem.Value.none PySem.Value.none PySem.Value.none (PySem.Value.str (PySem.Str.ofString "lookpast.pasts") 1211) (Option.none) (PySem.Value.ref 853) PySem.Value.none 0) ::
(nat_lit 860, (PySem.Obj.mk (PySem.Value.type "code") (Option.none) (PySem.Data.fields (List.toArray [(PySem.Value.str (PySem.Str.ofString "check_roots") 1303), (PySem.Value.str (PySem.Str.ofString "check_roots") 1304), (PySem.Value.str (PySem.Str.ofString "/claim/cut.py") 1305), (PySem.Value.int (472 : Int) 0), (PySem.Value.int (2 : Int) 0), (PySem.Value.int (0 : Int) 0), (PySem.Value.int (0 : Int) 0), (PySem.Value.int (3 : Int) 0), (PySem.Value.ref 855), (PySem.Value.bool Bool.true), (PySem.Value.int (181 : Int) 0), (PySem.Value.ref 856), PySem.Value.none, (PySem.Value.ref 857), (PySem.Value.ref 858), (PySem.Value.ref 859), (PySem.Value.int (1311 : Int) 0), (PySem.Value.int (472 : Int) 0), (PySem.Value.str (PySem.Str.ofString "/claim/cut.py") 1312)])) (List.toArray []))) ::
(nat_lit 861, f97 (t97 94) (PySem.Value.type "function") (Option.none) (List.toArray []) (PySem.Str.ofString "check_roots") 3 [] PySem.Value.none PySem.Value.none PySem.Value.none (PySem.Value.str (PySem.Str.ofString "lookpast.rests") 1301) (Option.none) (PySem.Value.ref 860) PySem.Value.none 0) ::
(nat_lit 865, (PySem.Obj.mk (PySem.Value.type "code") (Option.none) (PySem.Data.fields (List.toArray [(PySem.Value.str (PySem.Str.ofString "rest_with") 1314), (PySem.Value.str (PySem.Str.ofString "rest_with") 1315), (PySem.Value.str (PySem.Str.ofString "/claim/cut.py") 1316), (PySem.Value.int (483 : Int) 0), (PySem.Value.int (2 : Int) 0), (PySem.Value.int (0 : Int) 0), (PySem.Value.int (0 : Int) 0), (PySem.Value.int (3 : Int) 0), (PySem.Value.ref 862), (PySem.Value.bool Bool.true), (PySem.Value.int (181 : Int) 0), (PySem.Value.ref 863), PySem.Value.none, PySem.Value.none, PySem.Value.none, (PySem.Value.ref 864), (PySem.Value.int (1317 : Int) 0), (PySem.Value.int (483 : Int) 0), (PySem.Value.str (PySem.Str.ofString "/claim/cut.py") 1318)])) (List.toArray []))) ::
(nat_lit 866, f97 (t97 95) (PySem.Value.type "function") (Option.none) (List.toArray []) (PySem.Str.ofString "rest_with") 3 [] PySem.Value.none PySem.Value.none PySem.Value.none (PySem.Value.str (PySem.Str.ofString "lookpast.rests") 1301) (Option.none) (PySem.Value.ref 865) PySem.Value.none 0) ::
(nat_lit 872, (PySem.Obj.mk (PySem.Value.type "code") (Option.none) (PySem.Data.fields (List.toArray [(PySem.Value.str (PySem.Str.ofString "people_bar") 1322), (PySem.Value.str (PySem.Str.ofString "people_bar") 1323), (PySem.Value.str (PySem.Str.ofString "/claim/cut.py") 1324), (PySem.Value.int (488 : Int) 0), (PySem.Value.int (2 : Int) 0), (PySem.Value.int (0 : Int) 0), (PySem.Value.int (0 : Int) 0), (PySem.Value.int (3 : Int) 0), (PySem.Value.ref 867), (PySem.Value.bool Bool.true), (PySem.Value.int (181 : Int) 0), (PySem.Value.ref 868), PySem.Value.none, (PySem.Value.ref 869), (PySem.Value.ref 870), (PySem.Value.ref 871), (PySem.Value.int (1329 : Int) 0), (PySem.Value.int (488 : Int) 0), (PySem.Value.str (PySem.Str.ofString "/claim/cut.py") 1330)])) (List.toArray []))) ::
(nat_lit 873, f97 (t97 97) (PySem.Value.type "function") (Option.none) (List.toArray []) (PySem.Str.ofString "people_bar") 3 [] PySem.Value.none PySem.Value.none PySem.Value.none (PySem.Value.str (PySem.Str.ofString "lookpast.common") 1320) (Option.none) (PySem.Value.ref 872) PySem.Value.none 0) ::
(nat_lit 877, (PySem.Obj.mk (PySem.Value.type "code") (Option.none) (PySem.Data.fields (List.toArray [(PySem.Value.str (PySem.Str.ofString "shared_members") 1332), (PySem.Value.str (PySem.Str.ofString "shared_members") 1333), (PySem.Value.str (PySem.Str.ofString "/claim/cut.py") 1334), (PySem.Value.int (494 : Int) 0), (PySem.Value.int (3 : Int) 0), (PySem.Value.int (0 : Int) 0), (PySem.Value.int (0 : Int) 0), (PySem.Value.int (3 : Int) 0), (PySem.Value.ref 874), (PySem.Value.bool Bool.true), (PySem.Value.int (181 : Int) 0), (PySem.Value.ref 875), PySem.Value.none, PySem.Value.none, PySem.Value.none, (PySem.Value.ref 876), (PySem.Value.int (1335 : Int) 0), (PySem.Value.int (494 : Int) 0), (PySem.Value.str (PySem.Str.ofString "/claim/cut.py") 1336)])) (List.toArray []))) ::
(nat_lit 878, f97 (t97 98) (PySem.Value.type "function") (Option.none) (List.toArray []) (PySem.Str.ofString "shared_members") 3 [] PySem.Value.none PySem.Value.none PySem.Value.none (PySem.Value.str (PySem.Str.ofString "lookpast.common") 1320) (Option.none) (PySem.Value.ref 877) PySem.Value.none 0) ::
(nat_lit 884, (PySem.Obj.mk (PySem.Value.type "code") (Option.none) (PySem.Data.fields (List.toArray [(PySem.Value.str (PySem.Str.ofString "future_bar") 1338), (PySem.Value.str (PySem.Str.ofString "future_bar") 1339), (PySem.Value.str (PySem.Str.ofString "/claim/cut.py") 1340), (PySem.Value.int (498 : Int) 0), (PySem.Value.int (2 : Int) 0), (PySem.Value.int (0 : Int) 0), (PySem.Value.int (0 : Int) 0), (PySem.Value.int (3 : Int) 0), (PySem.Value.ref 879), (PySem.Value.bool Bool.true), (PySem.Value.int (181 : Int) 0), (PySem.Value.ref 880), PySem.Value.none, (PySem.Value.ref 881), (PySem.Value.ref 882), (PySem.Value.ref 883), (PySem.Value.int (1345 : Int) 0), (PySem.Value.int (498 : Int) 0), (PySem.Value.str (PySem.Str.ofString "/claim/cut.py") 1346)])) (List.toArray []))) ::
(nat_lit 885, f97 (t97 99) (PySem.Value.type "function") (Option.none) (List.toArray []) (PySem.Str.ofString "future_bar") 3 [] PySem.Value.none PySem.Value.none PySem.Value.none (PySem.Value.str (PySem.Str.ofString "lookpast.common") 1320) (Option.none) (PySem.Value.ref 884) PySem.Value.none 0) ::
(nat_lit 889, (PySem.Obj.mk (PySem.Value.type "code") (Option.none) (PySem.Data.fields (List.toArray [(PySem.Value.str (PySem.Str.ofString "common_future") 1348), (PySem.Value.str (PySem.Str.ofString "common_future") 1349), (PySem.Value.str (PySem.Str.ofString "/claim/cut.py") 1350), (PySem.Value.int (507 : Int) 0), (PySem.Value.int (2 : Int) 0), (PySem.Value.int (0 : Int) 0), (PySem.Value.int (0 : Int) 0), (PySem.Value.int (3 : Int) 0), (PySem.Value.ref 886), (PySem.Value.bool Bool.true), (PySem.Value.int (181 : Int) 0), (PySem.Value.ref 887), PySem.Value.none, PySem.Value.none, PySem.Value.none, (PySem.Value.ref 888), (PySem.Value.int (1351 : Int) 0), (PySem.Value.int (507 : Int) 0), (PySem.Value.str (PySem.Str.ofString "/claim/cut.py") 1352)])) (List.toArray []))) ::
(nat_lit 890, f97 (t97 100) (PySem.Value.type "function") (Option.none) (List.toArray []) (PySem.Str.ofString "common_future") 3 [] PySem.Value.none PySem.Value.none PySem.Value.none (PySem.Value.str (PySem.Str.ofString "lookpast.common") 1320) (Option.none) (PySem.Value.ref 889) PySem.Value.none 0) ::
(nat_lit 896, (PySem.Obj.mk (PySem.Value.type "code") (Option.none) (PySem.Data.fields (List.toArray [(PySem.Value.str (PySem.Str.ofString "past_bar") 1354), (PySem.Value.str (PySem.Str.ofString "past_bar") 1355), (PySem.Value.str (PySem.Str.ofString "/claim/cut.py") 1356), (PySem.Value.int (512 : Int) 0), (PySem.Value.int (2 : Int) 0), (PySem.Value.int (0 : Int) 0), (PySem.Value.int (0 : Int) 0), (PySem.Value.int (3 : Int) 0), (PySem.Value.ref 891), (PySem.Value.bool Bool.true), (PySem.Value.int (181 : Int) 0), (PySem.Value.ref 892), PySem.Value.none, (PySem.Value.ref 893), (PySem.Value.ref 894), (PySem.Value.ref 895), (PySem.Value.int (1362 : Int) 0), (PySem.Value.int (512 : Int) 0), (PySem.Value.str (PySem.Str.ofString "/claim/cut.py") 1363)])) (List.toArray []))) ::
(nat_lit 897, f97 (t97 101) (PySem.Value.type "function") (Option.none) (List.toArray []) (PySem.Str.ofString "past_bar") 3 [] PySem.Value.none PySem.Value.none PySem.Value.none (PySem.Value.str (PySem.Str.ofString "lookpast.common") 1320) (Option.none) (PySem.Value.ref 896) PySem.Value.none 0) ::
(nat_lit 903, (PySem.Obj.mk (PySem.Value.type "code") (Option.none) (PySem.Data.fields (List.toArray [(PySem.Value.str (PySem.Str.ofString "merged") 1365), (PySem.Value.str (PySem.Str.ofString "merged") 1366), (PySem.Value.str (PySem.Str.ofString "/claim/cut.py") 1367), (PySem.Value.int (522 : Int) 0), (PySem.Value.int (2 : Int) 0), (PySem.Value.int (0 : Int) 0), (PySem.Value.int (0 : Int) 0), (PySem.Value.int (3 : Int) 0), (PySem.Value.ref 898), (PySem.Value.bool Bool.true), (PySem.Value.int (181 : Int) 0), (PySem.Value.ref 899), PySem.Value.none, (PySem.Value.ref 900), (PySem.Value.ref 901), (PySem.Value.ref 902), (PySem.Value.int (1373 : Int) 0), (PySem.Value.int (522 : Int) 0), (PySem.Value.str (PySem.Str.ofString "/claim/cut.py") 1374)])) (List.toArray []))) ::
(nat_lit 904, f97 (t97 102) (PySem.Value.type "function") (Option.none) (List.toArray []) (PySem.Str.ofString "merged") 3 [] PySem.Value.none PySem.Value.none PySem.Value.none (PySem.Value.str (PySem.Str.ofString "lookpast.common") 1320) (Option.none) (PySem.Value.ref 903) PySem.Value.none 0) ::
(nat_lit 908, (PySem.Obj.mk (PySem.Value.type "code") (Option.none) (PySem.Data.fields (List.toArray [(PySem.Value.str (PySem.Str.ofString "common_lap") 1376), (PySem.Value.str (PySem.Str.ofString "common_lap") 1377), (PySem.Value.str (PySem.Str.ofString "/claim/cut.py") 1378), (PySem.Value.int (531 : Int) 0), (PySem.Value.int (3 : Int) 0), (PySem.Value.int (0 : Int) 0), (PySem.Value.int (0 : Int) 0), (PySem.Value.int (3 : Int) 0), (PySem.Value.ref 905), (PySem.Value.bool Bool.true), (PySem.Value.int (181 : Int) 0), (PySem.Value.ref 906), PySem.Value.none, PySem.Value.none, PySem.Value.none, (PySem.Value.ref 907), (PySem.Value.int (1379 : Int) 0), (PySem.Value.int (531 : Int) 0), (PySem.Value.str (PySem.Str.ofString "/claim/cut.py") 1380)])) (List.toArray []))) ::
(nat_lit 909, f97 (t97 103) (PySem.Value.type "function") (Option.none) (List.toArray []) (PySem.Str.ofString "common_lap") 3 [] PySem.Value.none PySem.Value.none PySem.Value.none (PySem.Value.str (PySem.Str.ofString "lookpast.common") 1320) (Option.none) (PySem.Value.ref 908) PySem.Value.none 0) ::
(nat_lit 913, (PySem.Obj.mk (PySem.Value.type "code") (Option.none) (PySem.Data.fields (List.toArray [(PySem.Value.str (PySem.Str.ofString "common_past") 1382), (PySem.Value.str (PySem.Str.ofString "common_past") 1383), (PySem.Value.str (PySem.Str.ofString "/claim/cut.py") 1384), (PySem.Value.int (540 : Int) 0), (PySem.Value.int (2 : Int) 0), (PySem.Value.int (0 : Int) 0), (PySem.Value.int (0 : Int) 0), (PySem.Value.int (3 : Int) 0), (PySem.Value.ref 910), (PySem.Value.bool Bool.true), (PySem.Value.int (181 : Int) 0), (PySem.Value.ref 911), PySem.Value.none, PySem.Value.none, PySem.Value.none, (PySem.Value.ref 912), (PySem.Value.int (1385 : Int) 0), (PySem.Value.int (540 : Int) 0), (PySem.Value.str (PySem.Str.ofString "/claim/cut.py") 1386)])) (List.toArray []))) ::
(nat_lit 914, f97 (t97 104) (PySem.Value.type "function") (Option.none) (List.toArray []) (PySem.Str.ofString "common_past") 3 [] PySem.Value.none PySem.Value.none PySem.Value.none (PySem.Value.str (PySem.Str.ofString "lookpast.common") 1320) (Option.none) (PySem.Value.ref 913) PySem.Value.none 0) ::
(nat_lit 918, (PySem.Obj.mk (PySem.Value.type "code") (Option.none) (PySem.Data.fields (List.toArray [(PySem.Value.str (PySem.Str.ofString "callers") 1390), (PySem.Value.str (PySem.Str.ofString "callers") 1391), (PySem.Value.str (PySem.Str.ofString "/claim/cut.py") 1392), (PySem.Value.int (546 : Int) 0), (PySem.Value.int (2 : Int) 0), (PySem.Value.int (0 : Int) 0), (PySem.Value.int (0 : Int) 0), (PySem.Value.int (3 : Int) 0), (PySem.Value.ref 915), (PySem.Value.bool Bool.true), (PySem.Value.int (181 : Int) 0), (PySem.Value.ref 916), PySem.Value.none, PySem.Value.none, PySem.Value.none, (PySem.Value.ref 917), (PySem.Value.int (1393 : Int) 0), (PySem.Value.int (546 : Int) 0), (PySem.Value.str (PySem.Str.ofString "/claim/cut.py") 1394)])) (List.toArray []))) ::
(nat_lit 919, f97 (t97 106) (PySem.Value.type "function") (Option.none) (List.toArray []) (PySem.Str.ofString "callers") 3 [] PySem.Value.none PySem.Value.none PySem.Value.none (PySem.Value.str (PySem.Str.ofString "lookpast.films") 1388) (Option.none) (PySem.Value.ref 918) PySem.Value.none 0) ::
(nat_lit 923, (PySem.Obj.mk (PySem.Value.type "code") (Option.none) (PySem.Data.fields (List.toArray [(PySem.Value.str (PySem.Str.ofString "code_of") 1401), (PySem.Value.str (PySem.Str.ofString "code_of") 1402), (PySem.Value.str (PySem.Str.ofString "/claim/cut.py") 1403), (PySem.Value.int (551 : Int) 0), (PySem.Value.int (1 : Int) 0), (PySem.Value.int (0 : Int) 0), (PySem.Value.int (0 : Int) 0), (PySem.Value.int (3 : Int) 0), (PySem.Value.ref 920), (PySem.Value.bool Bool.true), (PySem.Value.int (181 : Int) 0), (PySem.Value.ref 921), PySem.Value.none, PySem.Value.none, PySem.Value.none, (PySem.Value.ref 922), (PySem.Value.int (1404 : Int) 0), (PySem.Value.int (551 : Int) 0), (PySem.Value.str (PySem.Str.ofString "/claim/cut.py") 1405)])) (List.toArray []))) ::
(nat_lit 924, f97 (t97 109) (PySem.Value.type "function") (Option.none) (List.toArray []) (PySem.Str.ofString "code_of") 3 [] PySem.Value.none PySem.Value.none PySem.Value.none (PySem.Value.str (PySem.Str.ofString "lookpast.futures") 1396) (Option.none) (PySem.Value.ref 923) PySem.Value.none 0) ::
(nat_lit 928, (PySem.Obj.mk (PySem.Value.type "code") (Option.none) (PySem.Data.fields (List.toArray [(PySem.Value.str (PySem.Str.ofString "futures_many") 1407), (PySem.Value.str (PySem.Str.ofString "futures_many") 1408), (PySem.Value.str (PySem.Str.ofString "/claim/cut.py") 1409), (PySem.Value.int (553 : Int) 0), (PySem.Value.int (1 : Int) 0), (PySem.Value.int (0 : Int) 0), (PySem.Value.int (0 : Int) 0), (PySem.Value.int (3 : Int) 0), (PySem.Value.ref 925), (PySem.Value.bool Bool.true), (PySem.Value.int (181 : Int) 0), (PySem.Value.ref 926), PySem.Value.none, PySem.Value.none, PySem.Value.none, (PySem.Value.ref 927), (PySem.Value.int (1410 : Int) 0), (PySem.Value.int (553 : Int) 0), (PySem.Value.str (PySem.Str.ofString "/claim/cut.py") 1411)])) (List.toArray []))) ::
(nat_lit 929, f97 (t97 110) (PySem.Value.type "function") (Option.none) (List.toArray []) (PySem.Str.ofString "futures_many") 3 [] PySem.Value.none PySem.Value.none PySem.Value.none (PySem.Value.str (PySem.Str.ofString "lookpast.futures") 1396) (Option.none) (PySem.Value.ref 928) PySem.Value.none 0) ::
(nat_lit 935, (PySem.Obj.mk (PySem.Value.type "code") (Option.none) (PySem.Data.fields (List.toArray [(PySem.Value.str (PySem.Str.ofString "ends_in") 1413), (PySem.Value.str (PySem.Str.ofString "ends_in") 1414), (PySem.Value.str (PySem.Str.ofString "/claim/cut.py") 1415), (PySem.Value.int (557 : Int) 0), (PySem.Value.int (2 : Int) 0), (PySem.Value.int (0 : Int) 0), (PySem.Value.int (0 : Int) 0), (PySem.Value.int (3 : Int) 0), (PySem.Value.ref 930), (PySem.Value.bool Bool.true), (PySem.Value.int (181 : Int) 0), (PySem.Value.ref 931), PySem.Value.none, (PySem.Value.ref 932), (PySem.Value.ref 933), (PySem.Value.ref 934), (PySem.Value.int (1423 : Int) 0), (PySem.Value.int (557 : Int) 0), (PySem.Value.str (PySem.Str.ofString "/claim/cut.py") 1424)])) (List.toArray []))) ::
(nat_lit 936, f97 (t97 111) (PySem.Value.type "function") (Option.none) (List.toArray []) (PySem.Str.ofString "ends_in") 3 [] PySem.Value.none PySem.Value.none PySem.Value.none (PySem.Value.str (PySem.Str.ofString "lookpast.futures") 1396) (Option.none) (PySem.Value.ref 935) PySem.Value.none 0) ::
(nat_lit 940, (PySem.Obj.mk (PySem.Value.type "code") (Option.none) (PySem.Data.fields (List.toArray [(PySem.Value.str (PySem.Str.ofString "member_shares") 1426), (PySem.Value.str (PySem.Str.ofString "member_shares") 1427), (PySem.Value.str (PySem.Str.ofString "/claim/cut.py") 1428), (PySem.Value.int (567 : Int) 0), (PySem.Value.int (3 : Int) 0), (PySem.Value.int (0 : Int) 0), (PySem.Value.int (0 : Int) 0), (PySem.Value.int (3 : Int) 0), (PySem.Value.ref 937), (PySem.Value.bool Bool.true), (PySem.Value.int (181 : Int) 0), (PySem.Value.ref 938), PySem.Value.none, PySem.Value.none, PySem.Value.none, (PySem.Value.ref 939), (PySem.Value.int (1429 : Int) 0), (PySem.Value.int (567 : Int) 0), (PySem.Value.str (PySem.Str.ofString "/claim/cut.py") 1430)])) (List.toArray []))) ::
(nat_lit 941, f97 (t97 112) (PySem.Value.type "function") (Option.none) (List.toArray []) (PySem.Str.ofString "member_shares") 3 [] PySem.Value.none PySem.Value.none PySem.Value.none (PySem.Value.str (PySem.Str.ofString "lookpast.futures") 1396) (Option.none) (PySem.Value.ref 940) PySem.Value.none 0) ::
(nat_lit 945, (PySem.Obj.mk (PySem.Value.type "code") (Option.none) (PySem.Data.fields (List.toArray [(PySem.Value.str (PySem.Str.ofString "code_shares") 1432), (PySem.Value.str (PySem.Str.ofString "code_shares") 1433), (PySem.Value.str (PySem.Str.ofString "/claim/cut.py") 1434), (PySem.Value.int (578 : Int) 0), (PySem.Value.int (2 : Int) 0), (PySem.Value.int (0 : Int) 0), (PySem.Value.int (0 : Int) 0), (PySem.Value.int (3 : Int) 0), (PySem.Value.ref 942), (PySem.Value.bool Bool.true), (PySem.Value.int (181 : Int) 0), (PySem.Value.ref 943), PySem.Value.none, PySem.Value.none, PySem.Value.none, (PySem.Value.ref 944), (PySem.Value.int (1435 : Int) 0), (PySem.Value.int (578 : Int) 0), (PySem.Value.str (PySem.Str.ofString "/claim/cut.py") 1436)])) (List.toArray []))) ::
(nat_lit 946, f97 (t97 113) (PySem.Value.type "function") (Option.none) (List.toArray []) (PySem.Str.ofString "code_shares") 3 [] PySem.Value.none PySem.Value.none PySem.Value.none (PySem.Value.str (PySem.Str.ofString "lookpast.futures") 1396) (Option.none) (PySem.Value.ref 945) PySem.Value.none 0) ::
(nat_lit 952, (PySem.Obj.mk (PySem.Value.type "code") (Option.none) (PySem.Data.fields (List.toArray [(PySem.Value.str (PySem.Str.ofString "number_of") 1438), (PySem.Value.str (PySem.Str.ofString "number_of") 1439), (PySem.Value.str (PySem.Str.ofString "/claim/cut.py") 1440), (PySem.Value.int (584 : Int) 0), (PySem.Value.int (2 : Int) 0), (PySem.Value.int (0 : Int) 0), (PySem.Value.int (0 : Int) 0), (PySem.Value.int (3 : Int) 0), (PySem.Value.ref 947), (PySem.Value.bool Bool.true), (PySem.Value.int (181 : Int) 0), (PySem.Value.ref 948), PySem.Value.none, (PySem.Value.ref 949), (PySem.Value.ref 950), (PySem.Value.ref 951), (PySem.Value.int (1443 : Int) 0), (PySem.Value.int (584 : Int) 0), (PySem.Value.str (PySem.Str.ofString "/claim/cut.py") 1444)])) (List.toArray []))) ::
(nat_lit 953, f97 (t97 114) (PySem.Value.type "function") (Option.none) (List.toArray []) (PySem.Str.ofString "number_of") 3 [] PySem.Value.none PySem.Value.none PySem.Value.none (PySem.Value.str (PySem.Str.ofString "lookpast.futures") 1396) (Option.none) (PySem.Value.ref 952) PySem.Value.none 0) ::
(nat_lit 959, (PySem.Obj.mk (PySem.Value.type "code") (Option.none) (PySem.Data.fields (List.toArray [(PySem.Value.str (PySem.Str.ofString "are_kin") 1448), (PySem.Value.str (PySem.Str.ofString "are_kin") 1449), (PySem.Value.str (PySem.Str.ofString "/claim/cut.py") 1450), (PySem.Value.int (588 : Int) 0), (PySem.Value.int (2 : Int) 0), (PySem.Value.int (0 : Int) 0), (PySem.Value.int (0 : Int) 0), (PySem.Value.int (3 : Int) 0), (PySem.Value.ref 954), (PySem.Value.bool Bool.true), (PySem.Value.int (181 : Int) 0), (PySem.Value.ref 955), PySem.Value.none, (PySem.Value.ref 956), (PySem.Value.ref 957), (PySem.Value.ref 958), (PySem.Value.int (1453 : Int) 0), (PySem.Value.int (588 : Int) 0), (PySem.Value.str (PySem.Str.ofString "/claim/cut.py") 1454)])) (List.toArray []))) ::
(nat_lit 960, f97 (t97 116) (PySem.Value.type "function") (Option.none) (List.toArray []) (PySem.Str.ofString "are_kin") 3 [] PySem.Value.none PySem.Value.none PySem.Value.none (PySem.Value.str (PySem.Str.ofString "lookpast.kin") 1446) (Option.none) (PySem.Value.ref 959) PySem.Value.none 0) ::
(nat_lit 966, (PySem.Obj.mk (PySem.Value.type "code") (Option.none) (PySem.Data.fields (List.toArray [(PySem.Value.str (PySem.Str.ofString "kin_targets") 1456), (PySem.Value.str (PySem.Str.ofString "kin_targets") 1457), (PySem.Value.str (PySem.Str.ofString "/claim/cut.py") 1458), (PySem.Value.int (590 : Int) 0), (PySem.Value.int (2 : Int) 0), (PySem.Value.int (0 : Int) 0), (PySem.Value.int (0 : Int) 0), (PySem.Value.int (3 : Int) 0), (PySem.Value.ref 961), (PySem.Value.bool Bool.true), (PySem.Value.int (181 : Int) 0), (PySem.Value.ref 962), PySem.Value.none, (PySem.Value.ref 963), (PySem.Value.ref 964), (PySem.Value.ref 965), (PySem.Value.int (1461 : Int) 0), (PySem.Value.int (590 : Int) 0), (PySem.Value.str (PySem.Str.ofString "/claim/cut.py") 1462)])) (List.toArray []))) ::
(nat_lit 967, f97 (t97 117) (PySem.Value.type "function") (Option.none) (List.toArray []) (PySem.Str.ofString "kin_targets") 3 [] PySem.Value.none PySem.Value.none PySem.Value.none (PySem.Value.str (PySem.Str.ofString "lookpast.kin") 1446) (Option.none) (PySem.Value.ref 966) PySem.Value.none 0) ::
(nat_lit 971, (PySem.Obj.mk (PySem.Value.type "code") (Option.none) (PySem.Data.fields (List.toArray [(PySem.Value.str (PySem.Str.ofString "kin_many") 1464), (PySem.Value.str (PySem.Str.ofString "kin_many") 1465), (PySem.Value.str (PySem.Str.ofString "/claim/cut.py") 1466), (PySem.Value.int (594 : Int) 0), (PySem.Value.int (1 : Int) 0), (PySem.Value.int (0 : Int) 0), (PySem.Value.int (0 : Int) 0), (PySem.Value.int (3 : Int) 0), (PySem.Value.ref 968), (PySem.Value.bool Bool.true), (PySem.Value.int (181 : Int) 0), (PySem.Value.ref 969), PySem.Value.none, PySem.Value.none, PySem.Value.none, (PySem.Value.ref 970), (PySem.Value.int (1467 : Int) 0), (PySem.Value.int (594 : Int) 0), (PySem.Value.str (PySem.Str.ofString "/claim/cut.py") 1468)])) (List.toArray []))) ::
(nat_lit 972, f97 (t97 118) (PySem.Value.type "function") (Option.none) (List.toArray []) (PySem.Str.ofString "kin_many") 3 [] PySem.Value.none PySem.Value.none PySem.Value.none (PySem.Value.str (PySem.Str.ofString "lookpast.kin") 1446) (Option.none) (PySem.Value.ref 971) PySem.Value.none 0) ::
(nat_lit 976, (PySem.Obj.mk (PySem.Value.type "code") (Option.none) (PySem.Data.fields (List.toArray [(PySem.Value.str (PySem.Str.ofString "kin_shares") 1470), (PySem.Value.str (PySem.Str.ofString "kin_shares") 1471), (PySem.Value.str (PySem.Str.ofString "/claim/cut.py") 1472), (PySem.Value.int (596 : Int) 0), (PySem.Value.int (2 : Int) 0), (PySem.Value.int (0 : Int) 0), (PySem.Value.int (0 : Int) 0), (PySem.Value.int (3 : Int) 0), (PySem.Value.ref 973), (PySem.Value.bool Bool.true), (PySem.Value.int (181 : Int) 0), (PySem.Value.ref 974), PySem.Value.none, PySem.Value.none, PySem.Value.none, (PySem.Value.ref 975), (PySem.Value.int (1473 : Int) 0), (PySem.Value.int (596 : Int) 0), (PySem.Value.str (PySem.Str.ofString "/claim/cut.py") 1474)])) (List.toArray []))) ::
(nat_lit 977, f97 (t97 119) (PySem.Value.type "function") (Option.none) (List.toArray []) (PySem.Str.ofString "kin_shares") 3 [] PySem.Value.none PySem.Value.none PySem.Value.none (PySem.Value.str (PySem.Str.ofString "lookpast.kin") 1446) (Option.none) (PySem.Value.ref 976) PySem.Value.none 0) ::
(nat_lit 983, (PySem.Obj.mk (PySem.Value.type "code") (Option.none) (PySem.Data.fields (List.toArray [(PySem.Value.str (PySem.Str.ofString "kin_number") 1476), (PySem.Value.str (PySem.Str.ofString "kin_number") 1477), (PySem.Value.str (PySem.Str.ofString "/claim/cut.py") 1478), (PySem.Value.int (598 : Int) 0), (PySem.Value.int (2 : Int) 0), (PySem.Value.int (0 : Int) 0), (PySem.Value.int (0 : Int) 0), (PySem.Value.int (3 : Int) 0), (PySem.Value.ref 978), (PySem.Value.bool Bool.true), (PySem.Value.int (181 : Int) 0), (PySem.Value.ref 979), PySem.Value.none, (PySem.Value.ref 980), (PySem.Value.ref 981), (PySem.Value.ref 982), (PySem.Value.int (1481 : Int) 0), (PySem.Value.int (598 : Int) 0), (PySem.Value.str (PySem.Str.ofString "/claim/cut.py") 1482)])) (List.toArray []))) ::
(nat_lit 984, f97 (t97 120) (PySem.Value.type "function") (Option.none) (List.toArray []) (PySem.Str.ofString "kin_number") 3 [] PySem.Value.none PySem.Value.none PySem.Value.none (PySem.Value.str (PySem.Str.ofString "lookpast.kin") 1446) (Option.none) (PySem.Value.ref 983) PySem.Value.none 0) ::
(nat_lit 990, (PySem.Obj.mk (PySem.Value.type "code") (Option.none) (PySem.Data.fields (List.toArray [(PySem.Value.str (PySem.Str.ofString "check_many") 1488), (PySem.Value.str (PySem.Str.ofString "check_many") 1489), (PySem.Value.str (PySem.Str.ofString "/claim/cut.py") 1490), (PySem.Value.int (604 : Int) 0), (PySem.Value.int (1 : Int) 0), (PySem.Value.int (0 : Int) 0), (PySem.Value.int (0 : Int) 0), (PySem.Value.int (3 : Int) 0), (PySem.Value.ref 985), (PySem.Value.bool Bool.true), (PySem.Value.int (181 : Int) 0), (PySem.Value.ref 986), PySem.Value.none, (PySem.Value.ref 987), (PySem.Value.ref 988), (PySem.Value.ref 989), (PySem.Value.int (1493 : Int) 0), (PySem.Value.int (604 : Int) 0), (PySem.Value.str (PySem.Str.ofString "/claim/cut.py") 1494)])) (List.toArray []))) ::
(nat_lit 991, f97 (t97 123) (PySem.Value.type "function") (Option.none) (List.toArray []) (PySem.Str.ofString "check_many") 3 [] PySem.Value.none PySem.Value.none PySem.Value.none (PySem.Value.str (PySem.Str.ofString "lookpast.small") 1484) (Option.none) (PySem.Value.ref 990) PySem.Value.none 0) ::
(nat_lit 995, (PySem.Obj.mk (PySem.Value.type "code") (Option.none) (PySem.Data.fields (List.toArray [(PySem.Value.str (PySem.Str.ofString "moves") 1496), (PySem.Value.str (PySem.Str.ofString "moves") 1497), (PySem.Value.str (PySem.Str.ofString "/claim/cut.py") 1498), (PySem.Value.int (608 : Int) 0), (PySem.Value.int (1 : Int) 0), (PySem.Value.int (0 : Int) 0), (PySem.Value.int (0 : Int) 0), (PySem.Value.int (3 : Int) 0), (PySem.Value.ref 992), (PySem.Value.bool Bool.true), (PySem.Value.int (181 : Int) 0), (PySem.Value.ref 993), PySem.Value.none, PySem.Value.none, PySem.Value.none, (PySem.Value.ref 994), (PySem.Value.int (1499 : Int) 0), (PySem.Value.int (608 : Int) 0), (PySem.Value.str (PySem.Str.ofString "/claim/cut.py") 1500)])) (List.toArray []))) ::
(nat_lit 996, f97 (t97 124) (PySem.Value.type "function") (Option.none) (List.toArray []) (PySem.Str.ofString "moves") 3 [] PySem.Value.none PySem.Value.none PySem.Value.none (PySem.Value.str (PySem.Str.ofString "lookpast.small") 1484) (Option.none) (PySem.Value.ref 995) PySem.Value.none 0) ::
(nat_lit 1002, (PySem.Obj.mk (PySem.Value.type "code") (Option.none) (PySem.Data.fields (List.toArray [(PySem.Value.str (PySem.Str.ofString "first_words") 1502), (PySem.Value.str (PySem.Str.ofString "first_words") 1503), (PySem.Value.str (PySem.Str.ofString "/claim/cut.py") 1504), (PySem.Value.int (611 : Int) 0), (PySem.Value.int (1 : Int) 0), (PySem.Value.int (0 : Int) 0), (PySem.Value.int (0 : Int) 0), (PySem.Value.int (3 : Int) 0), (PySem.Value.ref 997), (PySem.Value.bool Bool.true), (PySem.Value.int (181 : Int) 0), (PySem.Value.ref 998), PySem.Value.none, (PySem.Value.ref 999), (PySem.Value.ref 1000), (PySem.Value.ref 1001), (PySem.Value.int (1512 : Int) 0), (PySem.Value.int (611 : Int) 0), (PySem.Value.str (PySem.Str.ofString "/claim/cut.py") 1513)])) (List.toArray []))) ::
(nat_lit 1003, f97 (t97 125) (PySem.Value.type "function") (Option.none) (List.toArray []) (PySem.Str.ofString "first_words") 3 [] PySem.Value.none PySem.Value.none PySem.Value.none (PySem.Value.str (PySem.Str.ofString "lookpast.small") 1484) (Option.none) (PySem.Value.ref 1002) PySem.Value.none 0) ::
(nat_lit 1009, (PySem.Obj.mk (PySem.Value.type "code") (Option.none) (PySem.Data.fields (List.toArray [(PySem.Value.str (PySem.Str.ofString "all_futures") 1515), (PySem.Value.str (PySem.Str.ofString "all_futures") 1516), (PySem.Value.str (PySem.Str.ofString "/claim/cut.py") 1517), (PySem.Value.int (623 : Int) 0), (PySem.Value.int (1 : Int) 0), (PySem.Value.int (0 : Int) 0), (PySem.Value.int (0 : Int) 0), (PySem.Value.int (3 : Int) 0), (PySem.Value.ref 1004), (PySem.Value.bool Bool.true), (PySem.Value.int (181 : Int) 0), (PySem.Value.ref 1005), PySem.Value.none, (PySem.Value.ref 1006), (PySem.Value.ref 1007), (PySem.Value.ref 1008), (PySem.Value.int (1519 : Int) 0), (PySem.Value.int (623 : Int) 0), (PySem.Value.str (PySem.Str.ofString "/claim/cut.py") 1520)])) (List.toArray []))) ::
(nat_lit 1010, f97 (t97 126) (PySem.Value.type "function") (Option.none) (List.toArray []) (PySem.Str.ofString "all_futures") 3 [] PySem.Value.none PySem.Value.none PySem.Value.none (PySem.Value.str (PySem.Str.ofString "lookpast.small") 1484) (Option.none) (PySem.Value.ref 1009) PySem.Value.none 0) ::
(nat_lit 1016, (PySem.Obj.mk (PySem.Value.type "code") (Option.none) (PySem.Data.fields (List.toArray [(PySem.Value.str (PySem.Str.ofString "first_word") 1522), (PySem.Value.str (PySem.Str.ofString "first_word") 1523), (PySem.Value.str (PySem.Str.ofString "/claim/cut.py") 1524), (PySem.Value.int (626 : Int) 0), (PySem.Value.int (2 : Int) 0), (PySem.Value.int (0 : Int) 0), (PySem.Value.int (0 : Int) 0), (PySem.Value.int (3 : Int) 0), (PySem.Value.ref 1011), (PySem.Value.bool Bool.true), (PySem.Value.int (181 : Int) 0), (PySem.Value.ref 1012), PySem.Value.none, (PySem.Value.ref 1013), (PySem.Value.ref 1014), (PySem.Value.ref 1015), (PySem.Value.int (1527 : Int) 0), (PySem.Value.int (626 : Int) 0), (PySem.Value.str (PySem.Str.ofString "/claim/cut.py") 1528)])) (List.toArray []))) ::
(nat_lit 1017, f97 (t97 127) (PySem.Value.type "function") (Option.none) (List.toArray []) (PySem.Str.ofString "first_word") 3 [] PySem.Value.none PySem.Value.none PySem.Value.none (PySem.Value.str (PySem.Str.ofString "lookpast.small") 1484) (Option.none) (PySem.Value.ref 1016) PySem.Value.none 0) ::
(nat_lit 1023, (PySem.Obj.mk (PySem.Value.type "code") (Option.none) (PySem.Data.fields (List.toArray [(PySem.Value.str (PySem.Str.ofString "distance") 1530), (PySem.Value.str (PySem.Str.ofString "distance") 1531), (PySem.Value.str (PySem.Str.ofString "/claim/cut.py") 1532), (PySem.Value.int (630 : Int) 0), (PySem.Value.int (2 : Int) 0), (PySem.Value.int (0 : Int) 0), (PySem.Value.int (0 : Int) 0), (PySem.Value.int (3 : Int) 0), (PySem.Value.ref 1018), (PySem.Value.bool Bool.true), (PySem.Value.int (181 : Int) 0), (PySem.Value.ref 1019), PySem.Value.none, (PySem.Value.ref 1020), (PySem.Value.ref 1021), (PySem.Value.ref 1022), (PySem.Value.int (1536 : Int) 0), (PySem.Value.int (630 : Int) 0), (PySem.Value.str (PySem.Str.ofString "/claim/cut.py") 1537)])) (List.toArray []))) ::
(nat_lit 1024, f97 (t97 128) (PySem.Value.type "function") (Option.none) (List.toArray []) (PySem.Str.ofString "distance") 3 [] PySem.Value.none PySem.Value.none PySem.Value.none (PySem.Value.str (PySem.Str.ofString "lookpast.small") 1484) (Option.none) (PySem.Value.ref 1023) PySem.Value.none 0) ::
(nat_lit 1030, (PySem.Obj.mk (PySem.Value.type "code") (Option.none) (PySem.Data.fields (List.toArray [(PySem.Value.str (PySem.Str.ofString "one_call_more") 1539), (PySem.Value.str (PySem.Str.ofString "one_call_more") 1540), (PySem.Value.str (PySem.Str.ofString "/claim/cut.py") 1541), (PySem.Value.int (633 : Int) 0), (PySem.Value.int (2 : Int) 0), (PySem.Value.int (0 : Int) 0), (PySem.Value.int (0 : Int) 0), (PySem.Value.int (3 : Int) 0), (PySem.Value.ref 1025), (PySem.Value.bool Bool.true), (PySem.Value.int (181 : Int) 0), (PySem.Value.ref 1026), PySem.Value.none, (PySem.Value.ref 1027), (PySem.Value.ref 1028), (PySem.Value.ref 1029), (PySem.Value.int (1549 : Int) 0), (PySem.Value.int (633 : Int) 0), (PySem.Value.str (PySem.Str.ofString "/claim/cut.py") 1550)])) (List.toArray []))) ::
(nat_lit 1031, f97 (t97 129) (PySem.Value.type "function") (Option.none) (List.toArray []) (PySem.Str.ofString "one_call_more") 3 [] PySem.Value.none PySem.Value.none PySem.Value.none (PySem.Value.str (PySem.Str.ofString "lookpast.small") 1484) (Option.none) (PySem.Value.ref 1030) PySem.Value.none 0) ::
(nat_lit 1035, (PySem.Obj.mk (PySem.Value.type "code") (Option.none) (PySem.Data.fields (List.toArray [(PySem.Value.str (PySem.Str.ofString "words_many") 1552), (PySem.Value.str (PySem.Str.ofString "words_many") 1553), (PySem.Value.str (PySem.Str.ofString "/claim/cut.py") 1554), (PySem.Value.int (641 : Int) 0), (PySem.Value.int (3 : Int) 0), (PySem.Value.int (0 : Int) 0), (PySem.Value.int (0 : Int) 0), (PySem.Value.int (3 : Int) 0), (PySem.Value.ref 1032), (PySem.Value.bool Bool.true), (PySem.Value.int (181 : Int) 0), (PySem.Value.ref 1033), PySem.Value.none, PySem.Value.none, PySem.Value.none, (PySem.Value.ref 1034), (PySem.Value.int (1555 : Int) 0), (PySem.Value.int (641 : Int) 0), (PySem.Value.str (PySem.Str.ofString "/claim/cut.py") 1556)])) (List.toArray []))) ::
(nat_lit 1036, f97 (t97 130) (PySem.Value.type "function") (Option.none) (List.toArray []) (PySem.Str.ofString "words_many") 3 [] PySem.Value.none PySem.Value.none PySem.Value.none (PySem.Value.str (PySem.Str.ofString "lookpast.small") 1484) (Option.none) (PySem.Value.ref 1035) PySem.Value.none 0) ::
(nat_lit 1040, (PySem.Obj.mk (PySem.Value.type "code") (Option.none) (PySem.Data.fields (List.toArray [(PySem.Value.str (PySem.Str.ofString "meets") 1560), (PySem.Value.str (PySem.Str.ofString "meets") 1561), (PySem.Value.str (PySem.Str.ofString "/claim/cut.py") 1562), (PySem.Value.int (649 : Int) 0), (PySem.Value.int (2 : Int) 0), (PySem.Value.int (0 : Int) 0), (PySem.Value.int (0 : Int) 0), (PySem.Value.int (3 : Int) 0), (PySem.Value.ref 1037), (PySem.Value.bool Bool.true), (PySem.Value.int (181 : Int) 0), (PySem.Value.ref 1038), PySem.Value.none, PySem.Value.none, PySem.Value.none, (PySem.Value.ref 1039), (PySem.Value.int (1563 : Int) 0), (PySem.Value.int (649 : Int) 0), (PySem.Value.str (PySem.Str.ofString "/claim/cut.py") 1564)])) (List.toArray []))) ::
(nat_lit 1041, f97 (t97 132) (PySem.Value.type "function") (Option.none) (List.toArray []) (PySem.Str.ofString "meets") 3 [] PySem.Value.none PySem.Value.none PySem.Value.none (PySem.Value.str (PySem.Str.ofString "lookpast.wishes") 1558) (Option.none) (PySem.Value.ref 1040) PySem.Value.none 0) ::
(nat_lit 1047, (PySem.Obj.mk (PySem.Value.type "code") (Option.none) (PySem.Data.fields (List.toArray [(PySem.Value.str (PySem.Str.ofString "wish_obstacle") 1566), (PySem.Value.str (PySem.Str.ofString "wish_obstacle") 1567), (PySem.Value.str (PySem.Str.ofString "/claim/cut.py") 1568), (PySem.Value.int (652 : Int) 0), (PySem.Value.int (2 : Int) 0), (PySem.Value.int (0 : Int) 0), (PySem.Value.int (0 : Int) 0), (PySem.Value.int (3 : Int) 0), (PySem.Value.ref 1042), (PySem.Value.bool Bool.true), (PySem.Value.int (181 : Int) 0), (PySem.Value.ref 1043), PySem.Value.none, (PySem.Value.ref 1044), (PySem.Value.ref 1045), (PySem.Value.ref 1046), (PySem.Value.int (1571 : Int) 0), (PySem.Value.int (652 : Int) 0), (PySem.Value.str (PySem.Str.ofString "/claim/cut.py") 1572)])) (List.toArray []))) ::
(nat_lit 1048, f97 (t97 133) (PySem.Value.type "function") (Option.none) (List.toArray []) (PySem.Str.ofString "wish_obstacle") 3 [] PySem.Value.none PySem.Value.none PySem.Value.none (PySem.Value.str (PySem.Str.ofString "lookpast.wishes") 1558) (Option.none) (PySem.Value.ref 1047) PySem.Value.none 0) ::
(nat_lit 1054, (PySem.Obj.mk (PySem.Value.type "code") (Option.none) (PySem.Data.fields (List.toArray [(PySem.Value.str (PySem.Str.ofString "check_wish") 1574), (PySem.Value.str (PySem.Str.ofString "check_wish") 1575), (PySem.Value.str (PySem.Str.ofString "/claim/cut.py") 1576), (PySem.Value.int (655 : Int) 0), (PySem.Value.int (2 : Int) 0), (PySem.Value.int (0 : Int) 0), (PySem.Value.int (0 : Int) 0), (PySem.Value.int (3 : Int) 0), (PySem.Value.ref 1049), (PySem.Value.bool Bool.true), (PySem.Value.int (181 : Int) 0), (PySem.Value.ref 1050), PySem.Value.none, (PySem.Value.ref 1051), (PySem.Value.ref 1052), (PySem.Value.ref 1053), (PySem.Value.int (1580 : Int) 0), (PySem.Value.int (655 : Int) 0), (PySem.Value.str (PySem.Str.ofString "/claim/cut.py") 1581)])) (List.toArray []))) ::
(nat_lit 1055, f97 (t97 134) (PySem.Value.type "function") (Option.none) (List.toArray []) (PySem.Str.ofString "check_wish") 3 [] PySem.Value.none PySem.Value.none PySem.Value.none (PySem.Value.str (PySem.Str.ofString "lookpast.wishes") 1558) (Option.none) (PySem.Value.ref 1054) PySem.Value.none 0) ::
(nat_lit 1059, (PySem.Obj.mk (PySem.Value.type "code") (Option.none) (PySem.Data.fields (List.toArray [(PySem.Value.str (PySem.Str.ofString "hub_of") 1583), (PySem.Value.str (PySem.Str.ofString "hub_of") 1584), (PySem.Value.str (PySem.Str.ofString "/claim/cut.py") 1585), (PySem.Value.int (659 : Int) 0), (PySem.Value.int (2 : Int) 0), (PySem.Value.int (0 : Int) 0), (PySem.Value.int (0 : Int) 0), (PySem.Value.int (3 : Int) 0), (PySem.Value.ref 1056), (PySem.Value.bool Bool.true), (PySem.Value.int (181 : Int) 0), (PySem.Value.ref 1057), PySem.Value.none, PySem.Value.none, PySem.Value.none, (PySem.Value.ref 1058), (PySem.Value.int (1586 : Int) 0), (PySem.Value.int (659 : Int) 0), (PySem.Value.str (PySem.Str.ofString "/claim/cut.py") 1587)])) (List.toArray []))) ::
(nat_lit 1060, f97 (t97 135) (PySem.Value.type "function") (Option.none) (List.toArray []) (PySem.Str.ofString "hub_of") 3 [] PySem.Value.none PySem.Value.none PySem.Value.none (PySem.Value.str (PySem.Str.ofString "lookpast.wishes") 1558) (Option.none) (PySem.Value.ref 1059) PySem.Value.none 0) ::
(nat_lit 1066, (PySem.Obj.mk (PySem.Value.type "code") (Option.none) (PySem.Data.fields (List.toArray [(PySem.Value.str (PySem.Str.ofString "granted") 1589), (PySem.Value.str (PySem.Str.ofString "granted") 1590), (PySem.Value.str (PySem.Str.ofString "/claim/cut.py") 1591), (PySem.Value.int (663 : Int) 0), (PySem.Value.int (2 : Int) 0), (PySem.Value.int (0 : Int) 0), (PySem.Value.int (0 : Int) 0), (PySem.Value.int (3 : Int) 0), (PySem.Value.ref 1061), (PySem.Value.bool Bool.true), (PySem.Value.int (181 : Int) 0), (PySem.Value.ref 1062), PySem.Value.none, (PySem.Value.ref 1063), (PySem.Value.ref 1064), (PySem.Value.ref 1065), (PySem.Value.int (1597 : Int) 0), (PySem.Value.int (663 : Int) 0), (PySem.Value.str (PySem.Str.ofString "/claim/cut.py") 1598)])) (List.toArray []))) ::
(nat_lit 1067, f97 (t97 136) (PySem.Value.type "function") (Option.none) (List.toArray []) (PySem.Str.ofString "granted") 3 [] PySem.Value.none PySem.Value.none PySem.Value.none (PySem.Value.str (PySem.Str.ofString "lookpast.wishes") 1558) (Option.none) (PySem.Value.ref 1066) PySem.Value.none 0) ::
(nat_lit 1073, (PySem.Obj.mk (PySem.Value.type "code") (Option.none) (PySem.Data.fields (List.toArray [(PySem.Value.str (PySem.Str.ofString "can_point") 1600), (PySem.Value.str (PySem.Str.ofString "can_point") 1601), (PySem.Value.str (PySem.Str.ofString "/claim/cut.py") 1602), (PySem.Value.int (671 : Int) 0), (PySem.Value.int (4 : Int) 0), (PySem.Value.int (0 : Int) 0), (PySem.Value.int (0 : Int) 0), (PySem.Value.int (3 : Int) 0), (PySem.Value.ref 1068), (PySem.Value.bool Bool.true), (PySem.Value.int (181 : Int) 0), (PySem.Value.ref 1069), PySem.Value.none, (PySem.Value.ref 1070), (PySem.Value.ref 1071), (PySem.Value.ref 1072), (PySem.Value.int (1608 : Int) 0), (PySem.Value.int (671 : Int) 0), (PySem.Value.str (PySem.Str.ofString "/claim/cut.py") 1609)])) (List.toArray []))) ::
(nat_lit 1074, f97 (t97 137) (PySem.Value.type "function") (Option.none) (List.toArray []) (PySem.Str.ofString "can_point") 3 [] PySem.Value.none PySem.Value.none PySem.Value.none (PySem.Value.str (PySem.Str.ofString "lookpast.wishes") 1558) (Option.none) (PySem.Value.ref 1073) PySem.Value.none 0) ::
(nat_lit 1078, (PySem.Obj.mk (PySem.Value.type "code") (Option.none) (PySem.Data.fields (List.toArray [(PySem.Value.str (PySem.Str.ofString "pointers_for") 1611), (PySem.Value.str (PySem.Str.ofString "pointers_for") 1612), (PySem.Value.str (PySem.Str.ofString "/claim/cut.py") 1613), (PySem.Value.int (677 : Int) 0), (PySem.Value.int (3 : Int) 0), (PySem.Value.int (0 : Int) 0), (PySem.Value.int (0 : Int) 0), (PySem.Value.int (3 : Int) 0), (PySem.Value.ref 1075), (PySem.Value.bool Bool.true), (PySem.Value.int (181 : Int) 0), (PySem.Value.ref 1076), PySem.Value.none, PySem.Value.none, PySem.Value.none, (PySem.Value.ref 1077), (PySem.Value.int (1614 : Int) 0), (PySem.Value.int (677 : Int) 0), (PySem.Value.str (PySem.Str.ofString "/claim/cut.py") 1615)])) (List.toArray []))) ::
(nat_lit 1079, f97 (t97 138) (PySem.Value.type "function") (Option.none) (List.toArray []) (PySem.Str.ofString "pointers_for") 3 [] PySem.Value.none PySem.Value.none PySem.Value.none (PySem.Value.str (PySem.Str.ofString "lookpast.wishes") 1558) (Option.none) (PySem.Value.ref 1078) PySem.Value.none 0) ::
(nat_lit 1083, (PySem.Obj.mk (PySem.Value.type "code") (Option.none) (PySem.Data.fields (List.toArray [(PySem.Value.str (PySem.Str.ofString "forced") 1617), (PySem.Value.str (PySem.Str.ofString "forced") 1618), (PySem.Value.str (PySem.Str.ofString "/claim/cut.py") 1619), (PySem.Value.int (685 : Int) 0), (PySem.Value.int (2 : Int) 0), (PySem.Value.int (0 : Int) 0), (PySem.Value.int (0 : Int) 0), (PySem.Value.int (3 : Int) 0), (PySem.Value.ref 1080), (PySem.Value.bool Bool.true), (PySem.Value.int (181 : Int) 0), (PySem.Value.ref 1081), PySem.Value.none, PySem.Value.none, PySem.Value.none, (PySem.Value.ref 1082), (PySem.Value.int (1620 : Int) 0), (PySem.Value.int (685 : Int) 0), (PySem.Value.str (PySem.Str.ofString "/claim/cut.py") 1621)])) (List.toArray []))) ::
(nat_lit 1084, f97 (t97 139) (PySem.Value.type "function") (Option.none) (List.toArray []) (PySem.Str.ofString "forced") 3 [] PySem.Value.none PySem.Value.none PySem.Value.none (PySem.Value.str (PySem.Str.ofString "lookpast.wishes") 1558) (Option.none) (PySem.Value.ref 1083) PySem.Value.none 0) ::
(nat_lit 1090, (PySem.Obj.mk (PySem.Value.type "code") (Option.none) (PySem.Data.fields (List.toArray [(PySem.Value.str (PySem.Str.ofString "_law_stream") 1625), (PySem.Value.str (PySem.Str.ofString "_law_stream") 1626), (PySem.Value.str (PySem.Str.ofString "/claim/cut.py") 1627), (PySem.Value.int (690 : Int) 0), (PySem.Value.int (2 : Int) 0), (PySem.Value.int (0 : Int) 0), (PySem.Value.int (0 : Int) 0), (PySem.Value.int (3 : Int) 0), (PySem.Value.ref 1085), (PySem.Value.bool Bool.true), (PySem.Value.int (181 : Int) 0), (PySem.Value.ref 1086), PySem.Value.none, (PySem.Value.ref 1087), (PySem.Value.ref 1088), (PySem.Value.ref 1089), (PySem.Value.int (1631 : Int) 0), (PySem.Value.int (690 : Int) 0), (PySem.Value.str (PySem.Str.ofString "/claim/cut.py") 1632)])) (List.toArray []))) ::
(nat_lit 1091, f97 (t97 141) (PySem.Value.type "function") (Option.none) (List.toArray []) (PySem.Str.ofString "_law_stream") 3 [] PySem.Value.none PySem.Value.none PySem.Value.none (PySem.Value.str (PySem.Str.ofString "law_lookpast_k97_other_sizes") 1623) (Option.none) (PySem.Value.ref 1090) PySem.Value.none 0) ::
(nat_lit 1097, (PySem.Obj.mk (PySem.Value.type "code") (Option.none) (PySem.Data.fields (List.toArray [(PySem.Value.str (PySem.Str.ofString "_law_draw") 1634), (PySem.Value.str (PySem.Str.ofString "_law_draw") 1635), (PySem.Value.str (PySem.Str.ofString "/claim/cut.py") 1636), (PySem.Value.int (695 : Int) 0), (PySem.Value.int (2 : Int) 0), (PySem.Value.int (0 : Int) 0), (PySem.Value.int (0 : Int) 0), (PySem.Value.int (3 : Int) 0), (PySem.Value.ref 1092), (PySem.Value.bool Bool.true), (PySem.Value.int (181 : Int) 0), (PySem.Value.ref 1093), PySem.Value.none, (PySem.Value.ref 1094), (PySem.Value.ref 1095), (PySem.Value.ref 1096), (PySem.Value.int (1642 : Int) 0), (PySem.Value.int (695 : Int) 0), (PySem.Value.str (PySem.Str.ofString "/claim/cut.py") 1643)])) (List.toArray []))) ::
(nat_lit 1098, f97 (t97 142) (PySem.Value.type "function") (Option.none) (List.toArray []) (PySem.Str.ofString "_law_draw") 3 [] PySem.Value.none PySem.Value.none PySem.Value.none (PySem.Value.str (PySem.Str.ofString "law_lookpast_k97_other_sizes") 1623) (Option.none) (PySem.Value.ref 1097) PySem.Value.none 0) ::
(nat_lit 1104, (PySem.Obj.mk (PySem.Value.type "code") (Option.none) (PySem.Data.fields (List.toArray [(PySem.Value.str (PySem.Str.ofString "_law_folded") 1645), (PySem.Value.str (PySem.Str.ofString "_law_folded") 1646), (PySem.Value.str (PySem.Str.ofString "/claim/cut.py") 1647), (PySem.Value.int (706 : Int) 0), (PySem.Value.int (2 : Int) 0), (PySem.Value.int (0 : Int) 0), (PySem.Value.int (0 : Int) 0), (PySem.Value.int (3 : Int) 0), (PySem.Value.ref 1099), (PySem.Value.bool Bool.true), (PySem.Value.int (181 : Int) 0), (PySem.Value.ref 1100), PySem.Value.none, (PySem.Value.ref 1101), (PySem.Value.ref 1102), (PySem.Value.ref 1103), (PySem.Value.int (1653 : Int) 0), (PySem.Value.int (706 : Int) 0), (PySem.Value.str (PySem.Str.ofString "/claim/cut.py") 1654)])) (List.toArray []))) ::
(nat_lit 1105, f97 (t97 143) (PySem.Value.type "function") (Option.none) (List.toArray []) (PySem.Str.ofString "_law_folded") 3 [] PySem.Value.none PySem.Value.none PySem.Value.none (PySem.Value.str (PySem.Str.ofString "law_lookpast_k97_other_sizes") 1623) (Option.none) (PySem.Value.ref 1104) PySem.Value.none 0) ::
(nat_lit 1111, (PySem.Obj.mk (PySem.Value.type "code") (Option.none) (PySem.Data.fields (List.toArray [(PySem.Value.str (PySem.Str.ofString "_law_pick") 1656), (PySem.Value.str (PySem.Str.ofString "_law_pick") 1657), (PySem.Value.str (PySem.Str.ofString "/claim/cut.py") 1658), (PySem.Value.int (711 : Int) 0), (PySem.Value.int (2 : Int) 0), (PySem.Value.int (0 : Int) 0), (PySem.Value.int (0 : Int) 0), (PySem.Value.int (3 : Int) 0), (PySem.Value.ref 1106), (PySem.Value.bool Bool.true), (PySem.Value.int (181 : Int) 0), (PySem.Value.ref 1107), PySem.Value.none, (PySem.Value.ref 1108), (PySem.Value.ref 1109), (PySem.Value.ref 1110), (PySem.Value.int (1661 : Int) 0), (PySem.Value.int (711 : Int) 0), (PySem.Value.str (PySem.Str.ofString "/claim/cut.py") 1662)])) (List.toArray []))) ::
(nat_lit 1112, f97 (t97 144) (PySem.Value.type "function") (Option.none) (List.toArray []) (PySem.Str.ofString "_law_pick") 3 [] PySem.Value.none PySem.Value.none PySem.Value.none (PySem.Value.str (PySem.Str.ofString "law_lookpast_k97_other_sizes") 1623) (Option.none) (PySem.Value.ref 1111) PySem.Value.none 0) ::
(nat_lit 1116, (PySem.Obj.mk (PySem.Value.type "code") (Option.none) (PySem.Data.fields (List.toArray [(PySem.Value.str (PySem.Str.ofString "_law_same") 1664), (PySem.Value.str (PySem.Str.ofString "_law_same") 1665), (PySem.Value.str (PySem.Str.ofString "/claim/cut.py") 1666), (PySem.Value.int (713 : Int) 0), (PySem.Value.int (2 : Int) 0), (PySem.Value.int (0 : Int) 0), (PySem.Value.int (0 : Int) 0), (PySem.Value.int (3 : Int) 0), (PySem.Value.ref 1113), (PySem.Value.bool Bool.true), (PySem.Value.int (181 : Int) 0), (PySem.Value.ref 1114), PySem.Value.none, PySem.Value.none, PySem.Value.none, (PySem.Value.ref 1115), (PySem.Value.int (1667 : Int) 0), (PySem.Value.int (713 : Int) 0), (PySem.Value.str (PySem.Str.ofString "/claim/cut.py") 1668)])) (List.toArray []))) ::
(nat_lit 1117, f97 (t97 145) (PySem.Value.type "function") (Option.none) (List.toArray []) (PySem.Str.ofString "_law_same") 3 [] PySem.Value.none PySem.Value.none PySem.Value.none (PySem.Value.str (PySem.Str.ofString "law_lookpast_k97_other_sizes") 1623) (Option.none) (PySem.Value.ref 1116) PySem.Value.none 0) ::
(nat_lit 1123, (PySem.Obj.mk (PySem.Value.type "code") (Option.none) (PySem.Data.fields (List.toArray [(PySem.Value.str (PySem.Str.ofString "_law_shuffled") 1670), (PySem.Value.str (PySem.Str.ofString "_law_shuffled") 1671), (PySem.Value.str (PySem.Str.ofString "/claim/cut.py") 1672), (PySem.Value.int (721 : Int) 0), (PySem.Value.int (2 : Int) 0), (PySem.Value.int (0 : Int) 0), (PySem.Value.int (0 : Int) 0), (PySem.Value.int (3 : Int) 0), (PySem.Value.ref 1118), (PySem.Value.bool Bool.true), (PySem.Value.int (181 : Int) 0), (PySem.Value.ref 1119), PySem.Value.none, (PySem.Value.ref 1120), (PySem.Value.ref 1121), (PySem.Value.ref 1122), (PySem.Value.int (1677 : Int) 0), (PySem.Value.int (721 : Int) 0), (PySem.Value.str (PySem.Str.ofString "/claim/cut.py") 1678)])) (List.toArray []))) ::
(nat_lit 1124, f97 (t97 146) (PySem.Value.type "function") (Option.none) (List.toArray []) (PySem.Str.ofString "_law_shuffled") 3 [] PySem.Value.none PySem.Value.none PySem.Value.none (PySem.Value.str (PySem.Str.ofString "law_lookpast_k97_other_sizes") 1623) (Option.none) (PySem.Value.ref 1123) PySem.Value.none 0) ::
(nat_lit 1128, (PySem.Obj.mk (PySem.Value.type "code") (Option.none) (PySem.Data.fields (List.toArray [(PySem.Value.str (PySem.Str.ofString "_law_random_state") 1680), (PySem.Value.str (PySem.Str.ofString "_law_random_state") 1681), (PySem.Value.str (PySem.Str.ofString "/claim/cut.py") 1682), (PySem.Value.int (726 : Int) 0), (PySem.Value.int (2 : Int) 0), (PySem.Value.int (0 : Int) 0), (PySem.Value.int (0 : Int) 0), (PySem.Value.int (3 : Int) 0), (PySem.Value.ref 1125), (PySem.Value.bool Bool.true), (PySem.Value.int (181 : Int) 0), (PySem.Value.ref 1126), PySem.Value.none, PySem.Value.none, PySem.Value.none, (PySem.Value.ref 1127), (PySem.Value.int (1683 : Int) 0), (PySem.Value.int (726 : Int) 0), (PySem.Value.str (PySem.Str.ofString "/claim/cut.py") 1684)])) (List.toArray []))) ::
(nat_lit 1129, f97 (t97 147) (PySem.Value.type "function") (Option.none) (List.toArray []) (PySem.Str.ofString "_law_random_state") 3 [] PySem.Value.none PySem.Value.none PySem.Value.none (PySem.Value.str (PySem.Str.ofString "law_lookpast_k97_other_sizes") 1623) (Option.none) (PySem.Value.ref 1128) PySem.Value.none 0) ::
(nat_lit 1135, (PySem.Obj.mk (PySem.Value.type "code") (Option.none) (PySem.Data.fields (List.toArray [(PySem.Value.str (PySem.Str.ofString "_law_two") 1686), (PySem.Value.str (PySem.Str.ofString "_law_two") 1687), (PySem.Value.str (PySem.Str.ofString "/claim/cut.py") 1688), (PySem.Value.int (739 : Int) 0), (PySem.Value.int (3 : Int) 0), (PySem.Value.int (0 : Int) 0), (PySem.Value.int (0 : Int) 0), (PySem.Value.int (3 : Int) 0), (PySem.Value.ref 1130), (PySem.Value.bool Bool.true), (PySem.Value.int (181 : Int) 0), (PySem.Value.ref 1131), PySem.Value.none, (PySem.Value.ref 1132), (PySem.Value.ref 1133), (PySem.Value.ref 1134), (PySem.Value.int (1693 : Int) 0), (PySem.Value.int (739 : Int) 0), (PySem.Value.str (PySem.Str.ofString "/claim/cut.py") 1694)])) (List.toArray []))) ::
(nat_lit 1136, f97 (t97 148) (PySem.Value.type "function") (Option.none) (List.toArray []) (PySem.Str.ofString "_law_two") 3 [] PySem.Value.none PySem.Value.none PySem.Value.none (PySem.Value.str (PySem.Str.ofString "law_lookpast_k97_other_sizes") 1623) (Option.none) (PySem.Value.ref 1135) PySem.Value.none 0) ::
(nat_lit 1142, (PySem.Obj.mk (PySem.Value.type "code") (Option.none) (PySem.Data.fields (List.toArray [(PySem.Value.str (PySem.Str.ofString "_law_hope") 1696), (PySem.Value.str (PySem.Str.ofString "_law_hope") 1697), (PySem.Value.str (PySem.Str.ofString "/claim/cut.py") 1698), (PySem.Value.int (750 : Int) 0), (PySem.Value.int (3 : Int) 0), (PySem.Value.int (0 : Int) 0), (PySem.Value.int (0 : Int) 0), (PySem.Value.int (3 : Int) 0), (PySem.Value.ref 1137), (PySem.Value.bool Bool.true), (PySem.Value.int (181 : Int) 0), (PySem.Value.ref 1138), PySem.Value.none, (PySem.Value.ref 1139), (PySem.Value.ref 1140), (PySem.Value.ref 1141), (PySem.Value.int (1702 : Int) 0), (PySem.Value.int (750 : Int) 0), (PySem.Value.str (PySem.Str.ofString "/claim/cut.py") 1703)])) (List.toArray []))) ::
(nat_lit 1143, f97 (t97 149) (PySem.Value.type "function") (Option.none) (List.toArray []) (PySem.Str.ofString "_law_hope") 3 [] PySem.Value.none PySem.Value.none PySem.Value.none (PySem.Value.str (PySem.Str.ofString "law_lookpast_k97_other_sizes") 1623) (Option.none) (PySem.Value.ref 1142) PySem.Value.none 0) ::
(nat_lit 1149, (PySem.Obj.mk (PySem.Value.type "code") (Option.none) (PySem.Data.fields (List.toArray [(PySem.Value.str (PySem.Str.ofString "_law_refused") 1705), (PySem.Value.str (PySem.Str.ofString "_law_refused") 1706), (PySem.Value.str (PySem.Str.ofString "/claim/cut.py") 1707), (PySem.Value.int (754 : Int) 0), (PySem.Value.int (4 : Int) 0), (PySem.Value.int (0 : Int) 0), (PySem.Value.int (0 : Int) 0), (PySem.Value.int (3 : Int) 0), (PySem.Value.ref 1144), (PySem.Value.bool Bool.true), (PySem.Value.int (181 : Int) 0), (PySem.Value.ref 1145), PySem.Value.none, (PySem.Value.ref 1146), (PySem.Value.ref 1147), (PySem.Value.ref 1148), (PySem.Value.int (1714 : Int) 0), (PySem.Value.int (754 : Int) 0), (PySem.Value.str (PySem.Str.ofString "/claim/cut.py") 1715)])) (List.toArray []))) ::
(nat_lit 1150, f97 (t97 150) (PySem.Value.type "function") (Option.none) (List.toArray []) (PySem.Str.ofString "_law_refused") 3 [] PySem.Value.none PySem.Value.none PySem.Value.none (PySem.Value.str (PySem.Str.ofString "law_lookpast_k97_other_sizes") 1623) (Option.none) (PySem.Value.ref 1149) PySem.Value.none 0) ::
(nat_lit 1154, (PySem.Obj.mk (PySem.Value.type "code") (Option.none) (PySem.Data.fields (List.toArray [(PySem.Value.str (PySem.Str.ofString "_law_right") 1717), (PySem.Value.str (PySem.Str.ofString "_law_right") 1718), (PySem.Value.str (PySem.Str.ofString "/claim/cut.py") 1719), (PySem.Value.int (766 : Int) 0), (PySem.Value.int (1 : Int) 0), (PySem.Value.int (0 : Int) 0), (PySem.Value.int (0 : Int) 0), (PySem.Value.int (3 : Int) 0), (PySem.Value.ref 1151), (PySem.Value.bool Bool.true), (PySem.Value.int (181 : Int) 0), (PySem.Value.ref 1152), PySem.Value.none, PySem.Value.none, PySem.Value.none, (PySem.Value.ref 1153), (PySem.Value.int (1720 : Int) 0), (PySem.Value.int (766 : Int) 0), (PySem.Value.str (PySem.Str.ofString "/claim/cut.py") 1721)])) (List.toArray []))) ::
(nat_lit 1155, f97 (t97 151) (PySem.Value.type "function") (Option.none) (List.toArray []) (PySem.Str.ofString "_law_right") 3 [] PySem.Value.none PySem.Value.none PySem.Value.none (PySem.Value.str (PySem.Str.ofString "law_lookpast_k97_other_sizes") 1623) (Option.none) (PySem.Value.ref 1154) PySem.Value.none 0) ::
(nat_lit 1159, (PySem.Obj.mk (PySem.Value.type "code") (Option.none) (PySem.Data.fields (List.toArray [(PySem.Value.str (PySem.Str.ofString "law") 1723), (PySem.Value.str (PySem.Str.ofString "law") 1724), (PySem.Value.str (PySem.Str.ofString "/claim/cut.py") 1725), (PySem.Value.int (778 : Int) 0), (PySem.Value.int (1 : Int) 0), (PySem.Value.int (0 : Int) 0), (PySem.Value.int (0 : Int) 0), (PySem.Value.int (3 : Int) 0), (PySem.Value.ref 1156), (PySem.Value.bool Bool.true), (PySem.Value.int (181 : Int) 0), (PySem.Value.ref 1157), PySem.Value.none, PySem.Value.none, PySem.Value.none, (PySem.Value.ref 1158), (PySem.Value.int (1726 : Int) 0), (PySem.Value.int (778 : Int) 0), (PySem.Value.str (PySem.Str.ofString "/claim/cut.py") 1727)])) (List.toArray []))) ::
(nat_lit 1160, f97 (t97 152) (PySem.Value.type "function") (Option.none) (List.toArray []) (PySem.Str.ofString "law") 3 [] PySem.Value.none PySem.Value.none PySem.Value.none (PySem.Value.str (PySem.Str.ofString "law_lookpast_k97_other_sizes") 1623) (Option.none) (PySem.Value.ref 1159) PySem.Value.none 0) :: []
def as97 : List Addr := nat_lit 2 :: nat_lit 3 :: nat_lit 20 :: nat_lit 21 :: nat_lit 27 :: nat_lit 28 :: nat_lit 29 :: nat_lit 41 :: nat_lit 42 :: nat_lit 43 :: nat_lit 44 :: nat_lit 45 :: nat_lit 46 :: nat_lit 49 :: nat_lit 61 :: nat_lit 62 :: nat_lit 63 :: nat_lit 64 :: nat_lit 65 :: nat_lit 66 :: nat_lit 69 :: nat_lit 81 :: nat_lit 82 :: nat_lit 83 :: nat_lit 84 :: nat_lit 85 :: nat_lit 86 :: nat_lit 89 :: nat_lit 101 :: nat_lit 102 :: nat_lit 103 :: nat_lit 104 :: nat_lit 105 :: nat_lit 106 :: nat_lit 109 :: nat_lit 121 :: nat_lit 122 :: nat_lit 123 :: nat_lit 124 :: nat_lit 125 :: nat_lit 126 :: nat_lit 129 :: nat_lit 141 :: nat_lit 142 :: nat_lit 143 :: nat_lit 144 :: nat_lit 145 :: nat_lit 146 :: nat_lit 149 :: nat_lit 161 :: nat_lit 162 :: nat_lit 163 :: nat_lit 164 :: nat_lit 165 :: nat_lit 166 :: nat_lit 169 :: nat_lit 181 :: nat_lit 182 :: nat_lit 183 :: nat_lit 184 :: nat_lit 185 :: nat_lit 186 :: nat_lit 189 :: nat_lit 201 :: nat_lit 202 :: nat_lit 203 :: nat_lit 204 :: nat_lit 205 :: nat_lit 206 :: nat_lit 209 :: nat_lit 221 :: nat_lit 222 :: nat_lit 223 :: nat_lit 224 :: nat_lit 225 :: nat_lit 226 :: nat_lit 229 :: nat_lit 241 :: nat_lit 242 :: nat_lit 243 :: nat_lit 244 :: nat_lit 245 :: nat_lit 246 :: nat_lit 249 :: nat_lit 261 :: nat_lit 262 :: nat_lit 263 :: nat_lit 264 :: nat_lit 265 :: nat_lit 266 :: nat_lit 269 :: nat_lit 281 :: nat_lit 282 :: nat_lit 283 :: nat_lit 284 :: nat_lit 285 :: nat_lit 286 :: nat_lit 294 :: nat_lit 295 :: nat_lit 299 :: nat_lit 300 :: nat_lit 306 :: nat_lit 307 :: nat_lit 313 :: nat_lit 314 :: nat_lit 320 :: nat_lit 321 :: nat_lit 327 :: nat_lit 328 :: nat_lit 334 :: nat_lit 335 :: nat_lit 341 :: nat_lit 342 :: nat_lit 348 :: nat_lit 349 :: nat_lit 353 :: nat_lit 354 :: nat_lit 360 :: nat_lit 361 :: nat_lit 365 :: nat_lit 366 :: nat_lit 372 :: nat_lit 373 :: nat_lit 379 :: nat_lit 380 :: nat_lit 386 :: nat_lit 387 :: nat_lit 393 :: nat_lit 394 :: nat_lit 398 :: nat_lit 399 :: nat_lit 405 :: nat_lit 406 :: nat_lit 412 :: nat_lit 413 :: nat_lit 419 :: nat_lit 420 :: nat_lit 426 :: nat_lit 427 :: nat_lit 431 :: nat_lit 432 :: nat_lit 438 :: nat_lit 439 :: nat_lit 445 :: nat_lit 446 :: nat_lit 452 :: nat_lit 453 :: nat_lit 459 :: nat_lit 460 :: nat_lit 466 :: nat_lit 467 :: nat_lit 473 :: nat_lit 474 :: nat_lit 478 :: nat_lit 479 :: nat_lit 483 :: nat_lit 484 :: nat_lit 488 :: nat_lit 489 :: nat_lit 493 :: nat_lit 494 :: nat_lit 500 :: nat_lit 501 :: nat_lit 505 :: nat_lit 506 :: nat_lit 512 :: nat_lit 513 :: nat_lit 517 :: nat_lit 518 :: nat_lit 522 :: nat_lit 523 :: nat_lit 529 :: nat_lit 530 :: nat_lit 536 :: nat_lit 537 :: nat_lit 541 :: nat_lit 542 :: nat_lit 546 :: nat_lit 547 :: nat_lit 553 :: nat_lit 554 :: nat_lit 560 :: nat_lit 561 :: nat_lit 567 :: nat_lit 568 :: nat_lit 574 :: nat_lit 575 :: nat_lit 576 :: nat_lit 582 :: nat_lit 583 :: nat_lit 589 :: nat_lit 590 :: nat_lit 591 :: nat_lit 592 :: nat_lit 593 :: nat_lit 594 :: nat_lit 595 :: nat_lit 596 :: nat_lit 597 :: nat_lit 598 :: nat_lit 604 :: nat_lit 605 :: nat_lit 611 :: nat_lit 612 :: nat_lit 625 :: nat_lit 626 :: nat_lit 632 :: nat_lit 633 :: nat_lit 639 :: nat_lit 640 :: nat_lit 646 :: nat_lit 647 :: nat_lit 653 :: nat_lit 654 :: nat_lit 660 :: nat_lit 661 :: nat_lit 662 :: nat_lit 668 :: nat_lit 669 :: nat_lit 675 :: nat_lit 676 :: nat_lit 682 :: nat_lit 683 :: nat_lit 687 :: nat_lit 688 :: nat_lit 689 :: nat_lit 695 :: nat_lit 696 :: nat_lit 702 :: nat_lit 703 :: nat_lit 709 :: nat_lit 710 :: nat_lit 716 :: nat_lit 717 :: nat_lit 723 :: nat_lit 724 :: nat_lit 730 :: nat_lit 731 :: nat_lit 737 :: nat_lit 738 :: nat_lit 744 :: nat_lit 745 :: nat_lit 751 :: nat_lit 752 :: nat_lit 753 :: nat_lit 754 :: nat_lit 755 :: nat_lit 756 :: nat_lit 757 :: nat_lit 765 :: nat_lit 766 :: nat_lit 772 :: nat_lit 773 :: nat_lit 777 :: nat_lit 778 :: nat_lit 782 :: nat_lit 783 :: nat_lit 789 :: nat_lit 790 :: nat_lit 794 :: nat_lit 795 :: nat_lit 801 :: nat_lit 802 :: nat_lit 806 :: nat_lit 807 :: nat_lit 811 :: nat_lit 812 :: nat_lit 818 :: nat_lit 819 :: nat_lit 823 :: nat_lit 824 :: nat_lit 828 :: nat_lit 829 :: nat_lit 833 :: nat_lit 834 :: nat_lit 838 :: nat_lit 839 :: nat_lit 843 :: nat_lit 844 :: nat_lit 848 :: nat_lit 849 :: nat_lit 853 :: nat_lit 854 :: nat_lit 860 :: nat_lit 861 :: nat_lit 865 :: nat_lit 866 :: nat_lit 872 :: nat_lit 873 :: nat_lit 877 :: nat_lit 878 :: nat_lit 884 :: nat_lit 885 :: nat_lit 889 :: nat_lit 890 :: nat_lit 896 :: nat_lit 897 :: nat_lit 903 :: nat_lit 904 :: nat_lit 908 :: nat_lit 909 :: nat_lit 913 :: nat_lit 914 :: nat_lit 918 :: nat_lit 919 :: nat_lit 923 :: nat_lit 924 :: nat_lit 928 :: nat_lit 929 :: nat_lit 935 :: nat_lit 936 :: nat_lit 940 :: nat_lit 941 :: nat_lit 945 :: nat_lit 946 :: nat_lit 952 :: nat_lit 953 :: nat_lit 959 :: nat_lit 960 :: nat_lit 966 :: nat_lit 967 :: nat_lit 971 :: nat_lit 972 :: nat_lit 976 :: nat_lit 977 :: nat_lit 983 :: nat_lit 984 :: nat_lit 990 :: nat_lit 991 :: nat_lit 995 :: nat_lit 996 :: nat_lit 1002 :: nat_lit 1003 :: nat_lit 1009 :: nat_lit 1010 :: nat_lit 1016 :: nat_lit 1017 :: nat_lit 1023 :: nat_lit 1024 :: nat_lit 1030 :: nat_lit 1031 :: nat_lit 1035 :: nat_lit 1036 :: nat_lit 1040 :: nat_lit 1041 :: nat_lit 1047 :: nat_lit 1048 :: nat_lit 1054 :: nat_lit 1055 :: nat_lit 1059 :: nat_lit 1060 :: nat_lit 1066 :: nat_lit 1067 :: nat_lit 1073 :: nat_lit 1074 :: nat_lit 1078 :: nat_lit 1079 :: nat_lit 1083 :: nat_lit 1084 :: nat_lit 1090 :: nat_lit 1091 :: nat_lit 1097 :: nat_lit 1098 :: nat_lit 1104 :: nat_lit 1105 :: nat_lit 1111 :: nat_lit 1112 :: nat_lit 1116 :: nat_lit 1117 :: nat_lit 1123 :: nat_lit 1124 :: nat_lit 1128 :: nat_lit 1129 :: nat_lit 1135 :: nat_lit 1136 :: nat_lit 1142 :: nat_lit 1143 :: nat_lit 1149 :: nat_lit 1150 :: nat_lit 1154 :: nat_lit 1155 :: nat_lit 1159 :: nat_lit 1160 :: []
theorem ek97 : ∀ P, as97 = (K97 P).map (·.1) := fun _ => by kernel_rfl
end Lp
namespace Lp
open PySem PySem.W PySem.Calls PyProof.Rows
abbrev R97 : OpenRow := OpenLaw.row PySem.Challenge.rw_lookpast_k97_other_sizes
abbrev q97 : Program := view R97.prog [152]
def loose97_0 : List PySem.Str := ["_wall", "kept", "NoPerson", "OtherSize", "NoRoot", "MissingRoot", "NotKin", "NotPast", "BadDeed", "BadText", "Unreachable", "NoCommon", "Denied", "IsRoot", "TooMany", "is_person", "state_of", "check_person", "route_from", "turned", "ring_begin", "way", "person_after", "ring_of", "rings", "height", "components", "check_word", "called", "called_all"]
def loose97_1 : List PySem.Str := ["states_along", "idle_calls", "check_size", "check_future", "closed_rings", "missed_way", "second_ring", "meets_first", "order_broken", "first_obstacle", "obstacle", "leads", "are_apart", "are_reversed", "is_obstacle", "outside_calls", "ring_calls", "word_to", "is_word_to", "number_without", "bypassed", "is_settled", "states_until_settled", "pointer_later", "repeated", "changes_many", "call_deed", "run_deed", "repeat_deed", "become_deed"]
def loose97_2 : List PySem.Str := ["come_deed", "leave_deed", "DEEDS", "ARGUMENTS", "is_deed", "check_deeds", "Circle", "product", "factorial", "groups_of", "number_in", "ring_state", "people_left", "ring_pasts_many", "lap_shares", "is_ring_past", "ring_past_number", "orders_many", "has_only_roots", "line_pasts_many", "points_among", "line_shares", "is_line_past", "line_past_number", "check_roots", "rest_with", "people_bar", "shared_members", "future_bar", "common_future"]
def loose97_3 : List PySem.Str := ["past_bar", "merged", "common_lap", "common_past", "callers", "ON_RING", "code_of", "futures_many", "ends_in", "member_shares", "code_shares", "number_of", "are_kin", "kin_targets", "kin_many", "kin_shares", "kin_number", "MOST", "check_many", "moves", "first_words", "all_futures", "first_word", "distance", "one_call_more", "words_many", "meets", "wish_obstacle", "check_wish", "hub_of"]
def loose97_4 : List PySem.Str := ["granted", "can_point", "pointers_for", "forced", "_law_stream", "_law_draw", "_law_folded", "_law_pick", "_law_same", "_law_shuffled", "_law_random_state", "_law_two", "_law_hope", "_law_refused", "_law_right"]
def loose97 : List PySem.Str := loose97_0 ++ loose97_1 ++ loose97_2 ++ loose97_3 ++ loose97_4
theorem ob_eq97 (s : SharedT) : as97.map (HandSHeadRun.getT s) = (kHook K97 as97 ek97).obs s.abs := List.map_congr_left fun a _ => HandSHeadRun.getT_eq s a
theorem run97f (w : World) : HandSHeadRun.RunEq R97 q97 (kHook K97 as97 ek97) (fun s => as97.map (HandSHeadRun.getT s)) 7563 loose97 (w.withFollow "special-get-raises" false) := by
  intro os
  kernel_rfl
theorem run97t (w : World) : HandSHeadRun.RunEq R97 q97 (kHook K97 as97 ek97) (fun s => as97.map (HandSHeadRun.getT s)) 7563 loose97 (w.withFollow "special-get-raises" true) := by
  intro os
  kernel_rfl
theorem run97 (w : World) : HandSHeadRun.RunEq R97 q97 (kHook K97 as97 ek97) (fun s => as97.map (HandSHeadRun.getT s)) 7563 loose97 w := byRow2 "special-get-raises" (P := fun w => HandSHeadRun.RunEq R97 q97 (kHook K97 as97 ek97) (fun s => as97.map (HandSHeadRun.getT s)) 7563 loose97 w) run97f run97t w
end Lp
open PySem PySem.W PySem.Calls PyProof.Rows
theorem head97 (call : WalkO Lp.q97 Lp.loose97 (XL Lp.q97 []) (kHook Lp.K97 Lp.as97 Lp.ek97).says Lp.R97.toRowW (HandSHeadRun.topDef Lp.R97.prog 152) [] (fun f vs => PySem.call f vs)) : PySem.Challenge.rw_lookpast_k97_other_sizes.Holds := by
  w_on; o_law
  refine HandSHeadRun.head_any (r := OpenLaw.row PySem.Challenge.rw_lookpast_k97_other_sizes) (q := Lp.q97) (H := kHook Lp.K97 Lp.as97 Lp.ek97) (ob := fun s => Lp.as97.map (HandSHeadRun.getT s)) (M := 7563) (loose := Lp.loose97) (d := HandSHeadRun.topDef Lp.R97.prog 152) (kwd := []) Lp.ob_eq97
    (by kernel_rfl) (fun s => by kernel_rfl) Lp.run97 (by kernel_rfl) (by kernel_rfl) (by kernel_rfl) (by rfl) (by first | assumption | decide +kernel) (by decide +kernel) ⟨rfl, rfl, rfl, rfl, rfl, by decide +kernel⟩ ?hw call
  case hw => w_witness2
namespace Lp
open PySem PySem.Spec PyProof.Rows L2
def Sol (H : Hp) (a : Addr) (xs : List V) : Prop := ∃ o : Obj, o.dict = none ∧ H a = some (.frz o (.tup xs))
theorem Sol.seq {K : PySem.W.Frag} {H : Hp} {a : Addr} {xs : List V} (h : Sol H a xs) : SqT K H a xs := by
  obtain ⟨o, _, e⟩ := h
  exact .inl (.inr ⟨o, e⟩)
theorem Sol.to {H H' : Hp} {a : Addr} {xs : List V} (h : Sol H a xs) (s : Same H H') : Sol H' a xs := by
  obtain ⟨o, d, e⟩ := h
  exact ⟨o, d, s _ _ e⟩
theorem Sol.there {H : Hp} {a : Addr} {xs : List V} (h : Sol H a xs) : H a ≠ none := by
  obtain ⟨o, d, e⟩ := h
  rw [e]; exact fun z => nomatch z
theorem Sol.inj {H : Hp} {a : Addr} {xs ys : List V} (h : Sol H a xs) (k : Sol H a ys) : xs = ys := by
  obtain ⟨o, d, e⟩ := h
  obtain ⟨o', d', e'⟩ := k
  rw [e] at e'
  cases e'; rfl
abbrev objT (us : List Value) : Obj := { cls := .type "tuple", data := .seq us.toArray }
section
variable {X : Cx} {pins : List (Addr × Obj)} {σ : L2.St} {H : Hp} {s : Shared}
/-- a new tuple -/
theorem laidT {xs : List V} {us : List Value} (J : Inv X pins σ H s) (rel : Vals xs us) (few : xs.length ≤ sizeLine) : Inv X pins σ (upd H s.heap.objs.size (.frz (objT us) (.tup xs))) { s with heap := s.heap.push (objT us) } := by
  refine J.laid (t' := s.toks) (fun _ _ q => Heap.get?_push_of_some _ q) (Nat.le_refl _) ⟨Heap.get?_push_size _ rfl, few, us, rel, IsTup.new _ _⟩
theorem newT {xs : List V} {us : List Value} {Q : VK} (J : Inv X pins σ H s) (rel : Vals xs us) (few : xs.length ≤ sizeLine) (q : ∀ p o, H p = none → o.dict = none → Q (.ref p) (upd H p (.frz o (.tup xs)))) : EP X pins σ Q (.ref s.heap.objs.size) { s with heap := s.heap.push (objT us) } :=
  ⟨.ref s.heap.objs.size, _, laidT J rel few, rfl, q _ _ (J.hok.fresh (Nat.le_refl _)) rfl⟩
end
section
variable {X : Cx}
/-- (a, b, ..) -/
def tTupS (t : TA) : TE := fun σ H Q => t σ H fun xs H1 => xs.length ≤ sizeLine ∧ ∀ p o, H1 p = none → o.dict = none → Q (.ref p) (upd H1 p (.frz o (.tup xs)))
theorem pe_tupS {es : List Expr} {t : TA} {k : Nat} {pos : Pos} (args : PA X es t) : PE X (.Tuple es k pos) (tTupS t) := by
  constructor
  intro pins s σ H Q J want
  refine wpAny_Tuple_spliced (thn (args.run pos pins s σ H _ J want) ?_)
  rintro us s' ⟨xs, H', J', rel, few, q⟩
  exact ⟨by rw [← rel.length]; exact few, newT J' rel few q⟩
/-- tuple(xs) -/
def rTuple (K : PySem.W.Frag) : List V → Hp → VK → Prop := fun xs H Q => ∃ p ys, xs = [.ref p] ∧ ((SqL K H p ys ∧ ∀ l o, H l = none → o.dict = none → Q (.ref l) (upd H l (.frz o (.tup ys)))) ∨ (SqT K H p ys ∧ Q (.ref p) H))
theorem call_tupleS : CallR X (.type "tuple") (rTuple X.K) := by
  rintro pins s σ H xs us Q J rel ⟨p, ys, rfl, ways⟩
  obtain ⟨u, rfl, ru⟩ := vals1 rel
  cases ru
  rcases ways with ⟨at_p, q⟩ | ⟨at_p, q⟩
  · obtain ⟨its, rv, pl, few⟩ := J.list at_p
    have many := rv.length
    refine call_tuple_list pl.isList (fun h' keep => ?_) (by simp only [List.size_toArray]; omega)
    have J' : Inv X pins σ H { s with heap := h' } := J.kept (t' := s.toks) keep
    exact newT J' rv few q
  · obtain ⟨its, rv, pl, few⟩ := J.tuple at_p
    exact call_tuple_same pl ⟨.ref p, H, J, rfl, q⟩
/-- t + u -/
def rCatS (K : PySem.W.Frag) : R2 := fun x y H Q => ∃ a b xs ys, x = .ref a ∧ y = .ref b ∧ SqT K H a xs ∧ SqT K H b ys ∧ xs.length + ys.length ≤ sizeLine ∧
  (xs = [] → Q (.ref b) H) ∧ (ys = [] → Q (.ref a) H) ∧ ∀ p o, H p = none → o.dict = none → Q (.ref p) (upd H p (.frz o (.tup (xs ++ ys))))
theorem op_catS : OpR X (binaryOp .Add) (rCatS X.K) := by
  rintro pins s σ H x y v u Q J rx ry ⟨a, b, xs, ys, rfl, rfl, at_a, at_b, few, q0, q1, q2⟩
  cases rx
  cases ry
  obtain ⟨its, r1, p1, _⟩ := J.tuple at_a
  obtain ⟨jts, r2, p2, _⟩ := J.tuple at_b
  by_cases none_ : xs = []
  · subst none_
    cases r1
    exact cat_tup0 p1 p2 ⟨.ref b, H, J, rfl, q0 rfl⟩
  · refine HT.cat_tup p1 p2 (fun z => none_ (r1.nil_iff.mp z)) (fun z => ⟨.ref a, H, J, rfl, q1 (r2.nil_iff.mp z)⟩) (fun _ => ?_) (by rw [← r1.length, ← r2.length]; exact few)
    exact newT J (r1.append r2) (by rw [List.length_append]; exact few) q2
end
end Lp

namespace Lp
open PySem PySem.Spec PyProof.Rows L2
/-- a row of a dict: its key, the key's address, its value, the value as data -/
structure DRow where
  k : List Int
  b : Addr
  v : V
  d : PyData
abbrev tHash (k : List Int) : Int := reduceHash (Builtin.Tuple.tupleHashOf (k.map hashInt))
def dEnt (y : List Int × Addr × Value) : DictEntry := ⟨tHash y.1, .ref y.2.1, y.2.2⟩
def DRel (x : DRow) (y : List Int × Addr × Value) : Prop := x.k = y.1 ∧ x.b = y.2.1 ∧ RelV x.v y.2.2
def DT0 (h : Heap) (a : Addr) (xs : List DRow) : Prop := xs.length ≤ sizeLine ∧ (a == sysModules) = false ∧ (xs.map DRow.k).Nodup ∧ ∃ ys, Paired DRel xs ys ∧ ∃ o es ep, h.get? a = some o ∧ o.ExactDict ∧ o.data = .dict es ep ∧ es.toList = ys.map dEnt
/-- ob is the dict itself -/
def DctO (ob : Obj) (a : Addr) (xs : List DRow) : HO := .ext fun h => h.get? a = some ob ∧ DT0 h a xs
/-- there is such a dict at a -/
def IsDct (H : Hp) (a : Addr) (xs : List DRow) : Prop := ∃ ob, H a = some (DctO ob a xs)
theorem IsDct.ne {H : Hp} {a : Addr} {xs : List DRow} (x : IsDct H a xs) : H a ≠ none := by
  obtain ⟨ob, h⟩ := x
  rw [h]; exact fun z => nomatch z
theorem IsDct.mk {H : Hp} {ob : Obj} {a : Addr} {xs : List DRow} : IsDct (upd H a (DctO ob a xs)) a xs := ⟨ob, upd_same⟩
theorem DRel.keys : ∀ {xs : List DRow} {ys : List (List Int × Addr × Value)}, Paired DRel xs ys → xs.map DRow.k = ys.map (·.1)
  | _, _, .nil => rfl
  | _, _, .cons r t => by rw [List.map_cons, List.map_cons, r.1, DRel.keys t]
theorem DRel.mem : ∀ {xs : List DRow} {ys : List (List Int × Addr × Value)}, Paired DRel xs ys → ∀ y ∈ ys, ∃ x ∈ xs, DRel x y
  | _, _, .nil, y, h => nomatch h
  | _, _, .cons (a := x) r t, y, h => by
    rcases List.mem_cons.mp h with e | e
    · exact ⟨x, List.mem_cons_self, e ▸ r⟩
    · obtain ⟨z, hz, q⟩ := DRel.mem t y e
      exact ⟨z, List.mem_cons_of_mem _ hz, q⟩
theorem DT0.of {P : Program} {w : World} {h : Heap} {a : Addr} {xs : List DRow} {ys : List (List Int × Addr × Value)} (dd : h.DictOfH (tupleKind (intKind P w)) a ys) (r : Paired DRel xs ys) (hl : xs.length ≤ sizeLine) (hd : (a == sysModules) = false) : DT0 h a xs := by
  obtain ⟨o, es, ep, ho, hx, hd', he, _, nd⟩ := dd
  exact ⟨hl, hd, by rw [DRel.keys r]; exact nd, ys, r, o, es, ep, ho, hx, hd', he⟩
section
variable {X : Cx} {pins : List (Addr × Obj)} {σ : L2.St} {H : Hp} {s : Shared} {a : Addr} {xs : List DRow}
end
end Lp

namespace Lp
open PySem PySem.Spec PyProof.Rows L2
section
variable {P : Program} {w : World} {A : Around} {E : Value → Shared → Prop} {s : Shared} {a : Addr} {L : List (Addr × List Int)} {es : Array (Int × Value)} {ep : Nat} {t : SetTable}
end
/-- the set at a, as the world sees it -/
def SetTI (w : World) (a : Addr) (M : List (Addr × List Int)) : HO := .ext fun h => ∃ P, SetT0 P w h a M
section
variable {X : Cx} {pins : List (Addr × Obj)} {σ : L2.St} {H : Hp} {s : Shared} {a : Addr} {M : List (Addr × List Int)}
end
section
variable {X : Cx}
end
end Lp

namespace Lp
open PySem PySem.Spec PyProof.Rows L2
/-- the drawing box: its three numbers; c: at most so many draws so far -/
def Box (H : Hp) (b : Addr) (c : Nat) : Prop := ∃ x0 x1 x2 : Int, H b = some (.lst [.int x0, .int x1, .int x2]) ∧ 0 ≤ x0 ∧ 0 ≤ x1 ∧ x1 < 4611686018427387904 ∧ 0 ≤ x2 ∧ x2 ≤ (c : Int)
theorem Box.le {H : Hp} {b : Addr} {c d : Nat} (x : Box H b c) (h : c ≤ d) : Box H b d := by
  obtain ⟨x0, x1, x2, e, h0, h1, h2, h3, h4⟩ := x
  exact ⟨x0, x1, x2, e, h0, h1, h2, h3, by omega⟩
theorem Box.there {H : Hp} {b : Addr} {c : Nat} (x : Box H b c) : H b ≠ none := by
  obtain ⟨x0, x1, x2, e, _⟩ := x
  rw [e]; exact fun h => nomatch h
theorem Box.keep {H H' : Hp} {b : Addr} {c : Nat} (x : Box H b c) (h : H' b = H b) : Box H' b c := by
  obtain ⟨x0, x1, x2, e, r⟩ := x
  exact ⟨x0, x1, x2, h.trans e, r⟩
/-- the rows of a dict as data -/
def kvT (xs : List DRow) : List (PyData × PyData) := xs.map fun x => (.tuple (x.k.map PyData.int), x.d)
def kvI (ks : List Int) (ds : List PyData) : List (PyData × PyData) := (ks.zip ds).map fun p => (.int p.1, p.2)
def dkI (ks : List Int) (vs : List V) : List (Key × V) := (ks.zip vs).map fun p => (.inl p.1, p.2)
mutual
inductive DV (H : Hp) : V → PyData → Prop
  | non : DV H .non .none
  | bl (b : Bool) : DV H (.bl b) (.bool b)
  | int (i : Int) : DV H (.int i) (.int i)
  | str (x : Str) : DV H (.str x) (.str x)
  | lst {a : Addr} {xs : List V} {ds : List PyData} : H a = some (.lst xs) → DVs H xs ds → DV H (.ref a) (.list ds)
  | tup {a : Addr} {xs : List V} {ds : List PyData} : Sol H a xs → DVs H xs ds → DV H (.ref a) (.tuple ds)
  | dct {a : Addr} {xs : List DRow} : IsDct H a xs → (∀ x ∈ xs, Sol H x.b (x.k.map V.int)) → DVs H (xs.map DRow.v) (xs.map DRow.d) → DV H (.ref a) (.dict (kvT xs))
  | dci {a : Addr} {o : Obj} {ks : List Int} {vs : List V} {ds : List PyData} : H a = some (.frz o (.dK (dkI ks vs))) → ks.length = vs.length → ks.Nodup → DVs H vs ds → DV H (.ref a) (.dict ((.none, .none) :: kvI ks ds))
inductive DVs (H : Hp) : List V → List PyData → Prop
  | nil : DVs H [] []
  | cons {v : V} {vs : List V} {d : PyData} {ds : List PyData} : DV H v d → DVs H vs ds → DVs H (v :: vs) (d :: ds)
end
theorem IsDct.to {H H' : Hp} {a : Addr} {xs : List DRow} (s : Same H H') (h : IsDct H a xs) : IsDct H' a xs := by
  obtain ⟨ob, h⟩ := h
  exact ⟨ob, s _ _ h⟩
theorem DV.mono {H H' : Hp} (s : Same H H') (d : PyData) (v : V) (h : DV H v d) : DV H' v d :=
  DV.rec (motive_1 := fun v d _ => DV H' v d) (motive_2 := fun vs ds _ => DVs H' vs ds) .non (fun b => .bl b) (fun i => .int i) (fun x => .str x)
    (fun e _ r => .lst (s _ _ e) r) (fun e _ r => .tup (e.to s) r) (fun e k _ r => .dct (e.to s) (fun x hx => (k x hx).to s) r) (fun e l n _ r => .dci (s _ _ e) l n r) .nil (fun _ _ a r => .cons a r) h
theorem DVs.mono {H H' : Hp} (s : Same H H') (ds : List PyData) (vs : List V) (h : DVs H vs ds) : DVs H' vs ds :=
  DVs.rec (motive_1 := fun v d _ => DV H' v d) (motive_2 := fun vs ds _ => DVs H' vs ds) .non (fun b => .bl b) (fun i => .int i) (fun x => .str x)
    (fun e _ r => .lst (s _ _ e) r) (fun e _ r => .tup (e.to s) r) (fun e k _ r => .dct (e.to s) (fun x hx => (k x hx).to s) r) (fun e l n _ r => .dci (s _ _ e) l n r) .nil (fun _ _ a r => .cons a r) h
mutual
theorem DV.dp {K : PySem.W.Frag} {H : Hp} : ∀ (d : PyData) (v : V), d.hasDict = false → DV H v d → Dp K H v d
  | .none, _, _, h => by cases h; exact .non
  | .bool b, _, _, h => by cases h; exact .bl b
  | .int i, _, _, h => by cases h; exact .int i
  | .str x, _, _, h => by cases h; exact .str x
  | .list ds, _, n, h => by
    cases h with
    | lst e r => exact .lst (SqL.of e) (DVs.dp ds _ (by unfold PyData.hasDict at n; exact n) r)
  | .tuple ds, _, n, h => by
    cases h with
    | tup e r => exact .tup e.seq (DVs.dp ds _ (by unfold PyData.hasDict at n; exact n) r)
  | .dict _, _, n, h => by unfold PyData.hasDict at n; cases n
theorem DVs.dp {K : PySem.W.Frag} {H : Hp} : ∀ (ds : List PyData) (vs : List V), PyData.hasDictAll ds = false → DVs H vs ds → DpAll K H vs ds
  | [], _, _, h => by cases h; exact .nil
  | d :: ds, _, n, h => by
    unfold PyData.hasDictAll at n
    rw [Bool.or_eq_false_iff] at n
    cases h with
    | cons a r => exact .cons (DV.dp d _ n.1 a) (DVs.dp ds _ n.2 r)
end
/-- what can be told apart holds no dict -/
theorem sh_nd {d : PyData} (h : SeqAt.shaped d = true) : d.hasDict = false := PyData.hasDict_of_canLay d (SeqAt.canLay_of_shaped h)
theorem DV.to {H H' : Hp} {v : V} {d : PyData} (h : DV H v d) (s : Same H H') : DV H' v d := DV.mono s d v h
theorem DVs.to {H H' : Hp} {v : List V} {d : List PyData} (h : DVs H v d) (s : Same H H') : DVs H' v d := DVs.mono s d v h
theorem DVs.len {H : Hp} : ∀ {vs : List V} {ds : List PyData}, DVs H vs ds → vs.length = ds.length
  | _, _, .nil => rfl
  | _, _, .cons _ r => by rw [List.length_cons, List.length_cons, r.len]
theorem DVs.get {H : Hp} : ∀ {vs : List V} {ds : List PyData} {i : Nat} {d : PyData}, DVs H vs ds → ds[i]? = some d → ∃ v, vs[i]? = some v ∧ DV H v d
  | _, _, _, _, .nil, e => by simp at e
  | _, _, 0, _, .cons a _, e => by simp at e; subst e; exact ⟨_, rfl, a⟩
  | _, _, i + 1, d, .cons _ r, e => by
    obtain ⟨v, h1, h2⟩ := DVs.get (i := i) (d := d) r (by simpa using e)
    exact ⟨v, by simpa using h1, h2⟩
theorem DVs.app {H : Hp} : ∀ {vs us : List V} {ds es : List PyData}, DVs H vs ds → DVs H us es → DVs H (vs ++ us) (ds ++ es)
  | _, _, _, _, .nil, s => s
  | _, _, _, _, .cons a r, s => .cons a (r.app s)
theorem DVs.take {H : Hp} : ∀ {vs : List V} {ds : List PyData} (n : Nat), DVs H vs ds → DVs H (vs.take n) (ds.take n)
  | _, _, 0, _ => by rw [List.take_zero, List.take_zero]; exact .nil
  | _, _, _ + 1, .nil => .nil
  | _, _, n + 1, .cons a r => .cons a (r.take n)
theorem DVs.drop {H : Hp} : ∀ {vs : List V} {ds : List PyData} (n : Nat), DVs H vs ds → DVs H (vs.drop n) (ds.drop n)
  | _, _, 0, r => by rw [List.drop_zero, List.drop_zero]; exact r
  | _, _, _ + 1, .nil => .nil
  | _, _, n + 1, .cons a r => r.drop n
theorem DVs.set {H : Hp} {v : V} {d : PyData} (h : DV H v d) : ∀ {vs : List V} {ds : List PyData} (n : Nat), DVs H vs ds → DVs H (vs.set n v) (ds.set n d)
  | _, _, _, .nil => .nil
  | _, _, 0, .cons _ r => .cons h r
  | _, _, n + 1, .cons a r => .cons a (DVs.set h n r)
theorem DVs.one {H : Hp} {v : V} {d : PyData} (h : DV H v d) : DVs H [v] [d] := .cons h .nil
mutual
def imm : PyData → Bool
  | .list _ => false
  | .dict _ => false
  | .tuple ds => imms ds
  | _ => true
def imms : List PyData → Bool
  | [] => true
  | d :: ds => imm d && imms ds
end
mutual
theorem DV.imm {H H' : Hp} (s : ∀ a xs, Sol H a xs → Sol H' a xs) : ∀ (d : PyData) (v : V), imm d = true → DV H v d → DV H' v d
  | .none, _, _, h => by cases h; exact .non
  | .bool b, _, _, h => by cases h; exact .bl b
  | .int i, _, _, h => by cases h; exact .int i
  | .str x, _, _, h => by cases h; exact .str x
  | .list ds, _, i, h => by unfold Lp.imm at i; cases i
  | .tuple ds, _, i, h => by
    unfold Lp.imm at i
    cases h with
    | tup e r => exact .tup (s _ _ e) (DVs.imm s ds _ i r)
  | .dict _, _, i, h => by unfold Lp.imm at i; cases i
theorem DVs.imm {H H' : Hp} (s : ∀ a xs, Sol H a xs → Sol H' a xs) : ∀ (ds : List PyData) (vs : List V), imms ds = true → DVs H vs ds → DVs H' vs ds
  | [], _, _, h => by cases h; exact .nil
  | d :: ds, _, i, h => by
    unfold Lp.imms at i
    rw [Bool.and_eq_true] at i
    cases h with
    | cons a r => exact .cons (DV.imm s d _ i.1 a) (DVs.imm s ds _ i.2 r)
end
theorem ne_at {H : Hp} {a p : Addr} (h : H a ≠ none) (n : H p = none) : a ≠ p := fun z => h (by rw [z]; exact n)

/-- L: what stands still; from (L, H) to (L', H'): nothing that stood still moves, what is (but the box b) stays, and what was there and not of L stays out of L -/
structure Ext (b : Option Addr) (L H L' H' : Hp) : Prop where
  ll : Same L L'
  hh : ∀ a o, H a = some o → b ≠ some a → H' a = some o
  dom : ∀ a, H a ≠ none → H' a ≠ none
  fr : ∀ a, L a = none → H a ≠ none → L' a = none
theorem Ext.refl (b : Option Addr) (L H : Hp) : Ext b L H L H := ⟨Same.refl L, fun _ _ h _ => h, fun _ h => h, fun _ h _ => h⟩
theorem Ext.trans {b : Option Addr} {L H L1 H1 L2 H2 : Hp} (x : Ext b L H L1 H1) (y : Ext b L1 H1 L2 H2) : Ext b L H L2 H2 :=
  ⟨x.ll.trans y.ll, fun a o h n => y.hh a o (x.hh a o h n) n, fun a h => y.dom a (x.dom a h), fun a h n => y.fr a (x.fr a h n) (x.dom a n)⟩
theorem Ext.free {b : Option Addr} {L H L' H' : Hp} (x : Ext b L H L' H') {a : Addr} (h : H' a = none) : H a = none := by
  cases q : H a with
  | none => rfl
  | some o => exact absurd h (x.dom a (by rw [q]; exact fun z => nomatch z))
theorem Ext.any {b : Option Addr} {L H L' H' : Hp} (x : Ext none L H L' H') : Ext b L H L' H' := ⟨x.ll, fun a o h _ => x.hh a o h (fun z => nomatch z), x.dom, x.fr⟩
theorem Same.dom {H H' : Hp} (s : Same H H') (a : Addr) (h : H a ≠ none) : H' a ≠ none := by
  cases q : H a with
  | none => exact absurd q h
  | some o => rw [s a o q]; exact fun z => nomatch z
/-- a new object that stands still -/
theorem Ext.new {b : Option Addr} {L H : Hp} {p : Addr} {o : HO} (s : Same L H) (n : H p = none) : Ext b L H (upd L p o) (upd H p o) := by
  refine ⟨fun a u h => ?_, fun a u h _ => ?_, fun a h => ?_, fun a h d => ?_⟩
  · rw [upd_ne (ne_of_none h (s.free n))]; exact h
  · rw [upd_ne (ne_of_none h n)]; exact h
  · rw [upd_ne (ne_at h n)]; exact h
  · rw [upd_ne (ne_at d n)]; exact h
/-- a new object beside -/
theorem Ext.own {b : Option Addr} {L H : Hp} {p : Addr} {o : HO} (n : H p = none) : Ext b L H L (upd H p o) := by
  refine ⟨Same.refl L, fun a u h _ => ?_, fun a h => ?_, fun a h _ => h⟩
  · rw [upd_ne (ne_of_none h n)]; exact h
  · rw [upd_ne (ne_at h n)]; exact h
theorem same_own {L H : Hp} {p : Addr} {o : HO} (s : Same L H) (n : L p = none) : Same L (upd H p o) := fun a u h => by
  rw [upd_ne (ne_of_none h n)]; exact s a u h
theorem same_both {L H : Hp} {p : Addr} {o : HO} (s : Same L H) : Same (upd L p o) (upd H p o) := fun a u h => by
  by_cases e : a = p
  · subst e; rw [upd_same] at h ⊢; exact h
  · rw [upd_ne e] at h ⊢; exact s a u h
/-- what is published -/
theorem same_pub {L H : Hp} {p : Addr} {o : HO} (s : Same L H) (e : H p = some o) : Same (upd L p o) H := fun a u h => by
  by_cases q : a = p
  · subst q; rw [upd_same] at h; rw [e]; exact h
  · rw [upd_ne q] at h; exact s a u h
theorem same_upd {L : Hp} {p : Addr} {o : HO} (n : L p = none) : Same L (upd L p o) := fun a u h => by
  rw [upd_ne (ne_of_none h n)]; exact h
/-- what a body knows of its caller -/
structure Zx where
  b : Option Addr
  L0 : Hp
  H0 : Hp
  P : Hp
/-- an exception: the name of its class, its fields -/
structure Xn where
  cls : Str
  fs : List (Str × PyData)
/-- what is taken for granted: the world, the classes of exceptions by name, what is known of the caller -/
structure Wx where
  w : World
  cl : Str → Option Addr
  Φ : Zx → Prop
  up : ∀ (Z : Zx) (P : Hp), Same Z.P P → Φ Z → Φ { Z with P := P }
  hp : ∀ (Z : Zx) (a : Addr) (o : HO), Z.H0 a = none → Z.b ≠ some a → Φ Z → Φ { Z with H0 := upd Z.H0 a o }
instance : Coe Wx World := ⟨Wx.w⟩
abbrev W0 (w : World) : Wx := ⟨w, fun _ => none, fun _ => True, fun _ _ _ _ => trivial, fun _ _ _ _ _ _ => trivial⟩
/-- at a: an exception of the class at C that was caught, its dict at d -/
def exc (a : Addr) (c : Value) (d : Option Addr) : HO := .ext fun h => ∃ oe vs, h.get? a = some oe ∧ oe.cls = c ∧ oe.dict = d ∧ oe.data = .fields vs
inductive FVs (H : Hp) : List (Str × V) → List (Str × PyData) → Prop
  | nil : FVs H [] []
  | cons {f : Str} {v : V} {d : PyData} {vs : List (Str × V)} {ds : List (Str × PyData)} : DV H v d → FVs H vs ds → FVs H ((f, v) :: vs) ((f, d) :: ds)
theorem FVs.to {H H' : Hp} (s : Same H H') : ∀ {vs : List (Str × V)} {ds : List (Str × PyData)}, FVs H vs ds → FVs H' vs ds
  | _, _, .nil => .nil
  | _, _, .cons a r => .cons (DV.to a s) (FVs.to s r)
/-- the fields of an exception -/
def XF (H : Hp) (d : Option Addr) (fs : List (Str × PyData)) : Prop := match d with
  | none => fs = []
  | some dx => ∃ vs, H dx = some (.xd vs) ∧ FVs H vs fs
theorem XF.to {H H' : Hp} (s : Same H H') {d : Option Addr} {fs : List (Str × PyData)} (x : XF H d fs) : XF H' d fs := by
  cases d with
  | none => exact x
  | some dx =>
    obtain ⟨vs, h1, h2⟩ := x
    exact ⟨vs, s _ _ h1, h2.to s⟩
def XV (w : Wx) (H : Hp) (v : V) (x : Xn) : Prop := ∃ a C d, v = .ref a ∧ w.cl x.cls = some C ∧ H a = some (exc a (.ref C) d) ∧ XF H d x.fs
theorem XV.to {w : Wx} {H H' : Hp} {v : V} {x : Xn} (h : XV w H v x) (s : Same H H') : XV w H' v x := by
  obtain ⟨a, C, d, h1, h2, h3, h4⟩ := h
  exact ⟨a, C, d, h1, h2, s _ _ h3, h4.to s⟩
/-- the rows of a dict stand still -/
def KD (L : Hp) (xs : List DRow) : Prop := ∀ x ∈ xs, Sol L x.b (x.k.map V.int) ∧ DV L x.v x.d
theorem KD.to {L L' : Hp} {xs : List DRow} (s : Same L L') (h : KD L xs) : KD L' xs := fun x hx => ⟨(h x hx).1.to s, (h x hx).2.to s⟩
/-- the members of a set of tuples stand still; M: the members, some perhaps more than once -/
def TSM (L : Hp) (A : List (Addr × List Int)) (M : List (List Int)) : Prop := (∀ p ∈ A, Sol L p.1 (p.2.map V.int)) ∧ A.length ≤ M.length ∧ ∀ k, k ∈ A.map (·.2) ↔ k ∈ M
theorem TSM.to {L L' : Hp} {A : List (Addr × List Int)} {M : List (List Int)} (h : TSM L A M) (s : Same L L') : TSM L' A M := ⟨fun p hp => (h.1 p hp).to s, h.2⟩
def DVd (L : Hp) (v : V) (xs : List DRow) : Prop := ∃ a, v = .ref a ∧ IsDct L a xs ∧ KD L xs
theorem DVd.to {L L' : Hp} {v : V} {xs : List DRow} (s : Same L L') (h : DVd L v xs) : DVd L' v xs := by
  obtain ⟨a, h1, h2, h3⟩ := h
  obtain ⟨ob, h2⟩ := h2
  exact ⟨a, h1, ⟨ob, s _ _ h2⟩, h3.to s⟩
/-- a shared thing of any kind: what it is, in the heap that stands still -/
structure Gn where
  ok : Hp → V → Prop
  mono : ∀ {H H' : Hp} {v : V}, Same H H' → ok H v → ok H' v
inductive SV where
  | un | sh (d : PyData) | ow (ds : List PyData) | bx | st (S : Int → Bool) (n : Nat) | raw (v : V) | exn (x : Xn) | dco (xs : List DRow) | dsh (xs : List DRow) | sto (M : List (List Int)) | gen (g : Gn)
structure Env where
  s : List SV
  c : Nat
def Env.set (ε : Env) (i : Nat) (x : SV) : Env := ⟨ε.s.set i x, ε.c⟩
def Own : SV → Bool
  | .ow _ => true
  | .st _ _ => true
  | .dco _ => true
  | .sto _ => true
  | _ => false
def SlotR (w : Wx) (Z : Zx) (O : Addr → Prop) (L H : Hp) (o : Option V) : SV → Prop
  | .un => True
  | .sh d => ∃ v, o = some v ∧ DV L v d
  | .ow ds => ∃ a xs, o = some (.ref a) ∧ O a ∧ L a = none ∧ Z.H0 a = none ∧ H a = some (.lst xs) ∧ DVs L xs ds
  | .bx => ∃ b, Z.b = some b ∧ o = some (.ref b)
  | .st S n => ∃ a, o = some (.ref a) ∧ O a ∧ L a = none ∧ Z.H0 a = none ∧ H a = some (SetO w a S n)
  | .raw v => o = some v
  | .exn x => ∃ v, o = some v ∧ XV w L v x
  | .dco xs => ∃ a, o = some (.ref a) ∧ O a ∧ L a = none ∧ Z.H0 a = none ∧ IsDct H a xs ∧ KD L xs
  | .dsh xs => ∃ v, o = some v ∧ DVd L v xs
  | .gen g => ∃ v, o = some v ∧ g.ok L v
  | .sto M => ∃ a A, o = some (.ref a) ∧ O a ∧ L a = none ∧ Z.H0 a = none ∧ H a = some (SetTI w.w a A) ∧ TSM L A M
structure Rep (w : Wx) (Z : Zx) (O : Addr → Prop) (L H : Hp) (σ : L2.St) (ε : Env) : Prop where
  lh : Same L H
  pn : Same Z.P L
  ex : Ext Z.b Z.L0 Z.H0 L H
  bo : ∀ b, Z.b = some b → L b = none ∧ Box H b ε.c ∧ Z.H0 b ≠ none
  oh : ∀ a, O a → H a ≠ none ∧ Z.H0 a = none
  len : σ.length = ε.s.length
  sl : ∀ (i : Nat) (x : SV), ε.s[i]? = some x → ∃ o, σ[i]? = some o ∧ SlotR w Z O L H o x
  di : ∀ (i j : Nat) (x y : SV) (a : Addr), i ≠ j → ε.s[i]? = some x → ε.s[j]? = some y → Own x = true → Own y = true → σ[i]? = some (some (.ref a)) → σ[j]? ≠ some (some (.ref a))
  ph : w.Φ Z
inductive R where
  | sh (d : PyData) | nw (ds : List PyData) | br (i : Nat) (ds : List PyData) | bx | raw (v : V) | sr (i : Nat) (S : Int → Bool) (n : Nat) | exn (x : Xn) | dnw (xs : List DRow) | dbr (i : Nat) (xs : List DRow) | dsh (xs : List DRow) | srt (i : Nat) (M : List (List Int)) | gen (g : Gn)
def VR (w : Wx) (Z : Zx) (O : Addr → Prop) (σ : L2.St) (Hs L H : Hp) (v : V) : R → Prop
  | .sh d => DV L v d
  | .nw ds => ∃ a xs, v = .ref a ∧ Hs a = none ∧ ¬ O a ∧ Z.H0 a = none ∧ L a = none ∧ H a = some (.lst xs) ∧ DVs L xs ds
  | .br i ds => ∃ a xs, v = .ref a ∧ σ[i]? = some (some (.ref a)) ∧ O a ∧ Z.H0 a = none ∧ L a = none ∧ H a = some (.lst xs) ∧ DVs L xs ds
  | .bx => ∃ b, Z.b = some b ∧ v = .ref b
  | .raw u => v = u
  | .sr i S n => ∃ a, v = .ref a ∧ σ[i]? = some (some (.ref a)) ∧ O a ∧ Z.H0 a = none ∧ L a = none ∧ H a = some (SetO w a S n)
  | .exn x => XV w L v x
  | .dnw xs => ∃ a, v = .ref a ∧ Hs a = none ∧ ¬ O a ∧ Z.H0 a = none ∧ L a = none ∧ IsDct H a xs ∧ KD L xs
  | .dbr i xs => ∃ a, v = .ref a ∧ σ[i]? = some (some (.ref a)) ∧ O a ∧ Z.H0 a = none ∧ L a = none ∧ IsDct H a xs ∧ KD L xs
  | .dsh xs => DVd L v xs
  | .gen g => g.ok L v
  | .srt i M => ∃ a A, v = .ref a ∧ σ[i]? = some (some (.ref a)) ∧ O a ∧ Z.H0 a = none ∧ L a = none ∧ H a = some (SetTI w.w a A) ∧ TSM L A M
/-- as VR, for what operations give: nothing of the slots -/
def VR0 (Hs L H : Hp) (v : V) : R → Prop
  | .sh d => DV L v d
  | .nw ds => ∃ a xs, v = .ref a ∧ Hs a = none ∧ L a = none ∧ H a = some (.lst xs) ∧ DVs L xs ds
  | .dnw xs => ∃ a, v = .ref a ∧ Hs a = none ∧ L a = none ∧ IsDct H a xs ∧ KD L xs
  | .dsh xs => DVd L v xs
  | .gen g => g.ok L v
  | _ => False
section
variable {w : Wx} {Z : Zx} {O : Addr → Prop} {σ : L2.St} {ε : Env} {Hs L H L' H' : Hp} {v : V} {r : R}
theorem Rep.nob (x : Rep w Z O L H σ ε) {a : Addr} (h : Z.H0 a = none) : Z.b ≠ some a := fun e => (x.bo a e).2.2 h
theorem VR.mono (x : VR w Z O σ Hs L H v r) (y : Rep w Z O L H σ ε) (e : Ext Z.b L H L' H') : VR w Z O σ Hs L' H' v r := by
  cases r with
  | sh d => exact DV.to x e.ll
  | nw ds =>
    obtain ⟨a, xs, rfl, h1, h2, h3, h4, h5, h6⟩ := x
    exact ⟨a, xs, rfl, h1, h2, h3, e.fr a h4 (by rw [h5]; exact fun z => nomatch z), e.hh a _ h5 (y.nob h3), h6.to e.ll⟩
  | br i ds =>
    obtain ⟨a, xs, rfl, h1, h2, h3, h4, h5, h6⟩ := x
    exact ⟨a, xs, rfl, h1, h2, h3, e.fr a h4 (by rw [h5]; exact fun z => nomatch z), e.hh a _ h5 (y.nob h3), h6.to e.ll⟩
  | bx => exact x
  | raw u => exact x
  | exn y => exact XV.to x e.ll
  | sr i S n =>
    obtain ⟨a, rfl, h1, h2, h3, h4, h5⟩ := x
    exact ⟨a, rfl, h1, h2, h3, e.fr a h4 (by rw [h5]; exact fun z => nomatch z), e.hh a _ h5 (y.nob h3)⟩
  | dnw xs =>
    obtain ⟨a, rfl, h1, h2, h3, h4, ⟨ob, h5⟩, h6⟩ := x
    exact ⟨a, rfl, h1, h2, h3, e.fr a h4 (by rw [h5]; exact fun z => nomatch z), ⟨ob, e.hh a _ h5 (y.nob h3)⟩, h6.to e.ll⟩
  | dbr i xs =>
    obtain ⟨a, rfl, h1, h2, h3, h4, ⟨ob, h5⟩, h6⟩ := x
    exact ⟨a, rfl, h1, h2, h3, e.fr a h4 (by rw [h5]; exact fun z => nomatch z), ⟨ob, e.hh a _ h5 (y.nob h3)⟩, h6.to e.ll⟩
  | srt i M =>
    obtain ⟨a, A, rfl, h1, h2, h3, h4, h5, h6⟩ := x
    exact ⟨a, A, rfl, h1, h2, h3, e.fr a h4 (by rw [h5]; exact fun z => nomatch z), e.hh a _ h5 (y.nob h3), h6.to e.ll⟩
  | dsh xs => exact DVd.to e.ll x
  | gen g => exact g.mono e.ll x
theorem VR.back (x : VR w Z O σ Hs L H v r) {Hr Lr : Hp} (e : Ext Z.b Lr Hr L' Hs) : VR w Z O σ Hr L H v r := by
  cases r with
  | nw ds =>
    obtain ⟨a, xs, rfl, h1, h2, h3, h4, h5, h6⟩ := x
    exact ⟨a, xs, rfl, e.free h1, h2, h3, h4, h5, h6⟩
  | dnw xs =>
    obtain ⟨a, rfl, h1, h2, h3, h4, h5, h6⟩ := x
    exact ⟨a, rfl, e.free h1, h2, h3, h4, h5, h6⟩
  | _ => exact x
theorem VR0.vr (x : VR0 Hs L H v r) (y : Rep w Z O L' Hs σ ε) : VR w Z O σ Hs L H v r := by
  cases r with
  | sh d => exact x
  | nw ds =>
    obtain ⟨a, xs, rfl, h1, h4, h5, h6⟩ := x
    exact ⟨a, xs, rfl, h1, fun o => (y.oh a o).1 h1, y.ex.free h1, h4, h5, h6⟩
  | br i ds => exact x.elim
  | bx => exact x.elim
  | raw u => exact x.elim
  | sr i S n => exact x.elim
  | exn y => exact x.elim
  | dnw xs =>
    obtain ⟨a, rfl, h1, h4, h5, h6⟩ := x
    exact ⟨a, rfl, h1, fun o => (y.oh a o).1 h1, y.ex.free h1, h4, h5, h6⟩
  | dbr i xs => exact x.elim
  | srt i M => exact x.elim
  | dsh xs => exact x
  | gen g => exact x
/-- what an operation leaves, the slots hold -/
theorem Rep.step (x : Rep w Z O L H σ ε) (e : Ext none L H L' H') (s : Same L' H') : Rep w Z O L' H' σ ε := by
  have hh : ∀ a o, H a = some o → H' a = some o := fun a o h => e.hh a o h fun z => nomatch z
  refine ⟨s, x.pn.trans e.ll, x.ex.trans e.any, fun b hb => ?_, fun a h => ⟨e.dom a (x.oh a h).1, (x.oh a h).2⟩, x.len, fun i y hy => ?_, x.di, x.ph⟩
  · obtain ⟨h1, h2, h3⟩ := x.bo b hb
    refine ⟨e.fr b h1 h2.there, ?_, h3⟩
    obtain ⟨x0, x1, x2, q, r⟩ := h2
    exact ⟨x0, x1, x2, hh _ _ q, r⟩
  · obtain ⟨o, h1, h2⟩ := x.sl i y hy
    refine ⟨o, h1, ?_⟩
    cases y with
    | un => trivial
    | sh d =>
      obtain ⟨v, e1, e2⟩ := h2
      exact ⟨v, e1, e2.to e.ll⟩
    | ow ds =>
      obtain ⟨a, xs, e1, e2, e3, e4, e5, e6⟩ := h2
      exact ⟨a, xs, e1, e2, e.fr a e3 (by rw [e5]; exact fun z => nomatch z), e4, hh _ _ e5, e6.to e.ll⟩
    | bx => exact h2
    | st S n =>
      obtain ⟨a, e1, e2, e3, e4, e5⟩ := h2
      exact ⟨a, e1, e2, e.fr a e3 (by rw [e5]; exact fun z => nomatch z), e4, hh _ _ e5⟩
    | raw u => exact h2
    | exn x => obtain ⟨v, e1, e2⟩ := h2; exact ⟨v, e1, e2.to e.ll⟩
    | dco xs =>
      obtain ⟨a, e1, e2, e3, e4, ⟨ob, e5⟩, e6⟩ := h2
      exact ⟨a, e1, e2, e.fr a e3 (by rw [e5]; exact fun z => nomatch z), e4, ⟨ob, hh _ _ e5⟩, e6.to e.ll⟩
    | sto M =>
      obtain ⟨a, A, e1, e2, e3, e4, e5, e6⟩ := h2
      exact ⟨a, A, e1, e2, e.fr a e3 (by rw [e5]; exact fun z => nomatch z), e4, hh _ _ e5, e6.to e.ll⟩
    | dsh xs => obtain ⟨v, e1, e2⟩ := h2; exact ⟨v, e1, e2.to e.ll⟩
    | gen g => obtain ⟨v, e1, e2⟩ := h2; exact ⟨v, e1, g.mono e.ll e2⟩
/-- what was held apart is as before -/
theorem VR.thaw0 {Z : Zx} {a0 : Addr} {o : HO} (h : VR w { Z with H0 := upd Z.H0 a0 o } O σ Hs L H v r) : VR w Z O σ Hs L H v r := by
  have back : ∀ b, upd Z.H0 a0 o b = none → Z.H0 b = none := fun b e => by
    by_cases q : b = a0
    · rw [q, upd_same] at e; cases e
    · rw [upd_ne q] at e; exact e
  cases r with
  | nw ds =>
    obtain ⟨a, xs, rfl, h1, h2, h3, h4⟩ := h
    exact ⟨a, xs, rfl, h1, h2, back a h3, h4⟩
  | br i ds =>
    obtain ⟨a, xs, rfl, h1, h2, h3, h4⟩ := h
    exact ⟨a, xs, rfl, h1, h2, back a h3, h4⟩
  | sr i S n =>
    obtain ⟨a, rfl, h1, h2, h3, h4⟩ := h
    exact ⟨a, rfl, h1, h2, back a h3, h4⟩
  | dnw xs =>
    obtain ⟨a, rfl, h1, h2, h3, h4⟩ := h
    exact ⟨a, rfl, h1, h2, back a h3, h4⟩
  | dbr i xs =>
    obtain ⟨a, rfl, h1, h2, h3, h4⟩ := h
    exact ⟨a, rfl, h1, h2, back a h3, h4⟩
  | srt i M =>
    obtain ⟨a, A, rfl, h1, h2, h3, h4⟩ := h
    exact ⟨a, A, rfl, h1, h2, back a h3, h4⟩
  | _ => exact h
theorem Rep.thaw0 {Z : Zx} {a0 : Addr} {o : HO} (h0 : Z.H0 a0 = none) (hb : Z.b ≠ some a0) (ph : w.Φ Z) (x : Rep w { Z with H0 := upd Z.H0 a0 o } O L H σ ε) : Rep w Z O L H σ ε := by
  have back : ∀ b, upd Z.H0 a0 o b = none → Z.H0 b = none := fun b e => by
    by_cases q : b = a0
    · rw [q, upd_same] at e; cases e
    · rw [upd_ne q] at e; exact e
  have up : ∀ b u, Z.H0 b = some u → upd Z.H0 a0 o b = some u := fun b u e => by
    by_cases q : b = a0
    · rw [q, h0] at e; cases e
    · rw [upd_ne q]; exact e
  have upn : ∀ b, Z.H0 b ≠ none → upd Z.H0 a0 o b ≠ none := fun b e => by
    by_cases q : b = a0
    · rw [q, upd_same]; exact fun z => nomatch z
    · rw [upd_ne q]; exact e
  refine ⟨x.lh, x.pn, ⟨x.ex.ll, fun b u e nb => x.ex.hh b u (up b u e) nb, fun b e => x.ex.dom b (upn b e), fun b l e => x.ex.fr b l (upn b e)⟩, fun b e => ?_, fun b e => ⟨(x.oh b e).1, back b (x.oh b e).2⟩, x.len, fun i y hy => ?_, x.di, ph⟩
  · obtain ⟨q1, q2, q3⟩ := x.bo b e
    refine ⟨q1, q2, ?_⟩
    have ne : b ≠ a0 := fun q => hb (by rw [← q]; exact e)
    have q3 : upd Z.H0 a0 o b ≠ none := q3
    rw [upd_ne ne] at q3
    exact q3
  · obtain ⟨u, q1, q2⟩ := x.sl i y hy
    refine ⟨u, q1, ?_⟩
    cases y with
    | ow ds =>
      obtain ⟨b, xs, e1, e2, e3, e4, e5⟩ := q2
      exact ⟨b, xs, e1, e2, e3, back b e4, e5⟩
    | st S n =>
      obtain ⟨b, e1, e2, e3, e4, e5⟩ := q2
      exact ⟨b, e1, e2, e3, back b e4, e5⟩
    | dco xs =>
      obtain ⟨b, e1, e2, e3, e4, e5⟩ := q2
      exact ⟨b, e1, e2, e3, back b e4, e5⟩
    | sto M =>
      obtain ⟨b, A, e1, e2, e3, e4, e5⟩ := q2
      exact ⟨b, A, e1, e2, e3, back b e4, e5⟩
    | _ => exact q2
/-- a new list that nobody holds is published -/
theorem pub (x : Rep w Z O L' H' σ ε) (e : Ext Z.b L H L' H') {ds : List PyData} (h : VR w Z O σ H L' H' v (.nw ds)) : ∃ L2, Rep w Z O L2 H' σ ε ∧ Ext Z.b L H L2 H' ∧ DV L2 v (.list ds) := by
  obtain ⟨a, xs, rfl, h1, h2, h3, h4, h5, h6⟩ := h
  have s1 : Same L' (upd L' a (.lst xs)) := same_upd h4
  refine ⟨upd L' a (.lst xs), ⟨same_pub x.lh h5, x.pn.trans s1, ⟨x.ex.ll.trans s1, x.ex.hh, x.ex.dom, fun b hb hd => ?_⟩, fun b hb => ?_, x.oh, x.len, fun i y hy => ?_, x.di, x.ph⟩, ⟨e.ll.trans s1, e.hh, e.dom, fun b hb hd => ?_⟩, .lst upd_same (h6.to s1)⟩
  · rw [upd_ne (ne_at hd h3)]; exact x.ex.fr b hb hd
  · obtain ⟨q1, q2, q3⟩ := x.bo b hb
    exact ⟨by rw [upd_ne (ne_at q3 h3)]; exact q1, q2, q3⟩
  · obtain ⟨o, q1, q2⟩ := x.sl i y hy
    refine ⟨o, q1, ?_⟩
    cases y with
    | un => trivial
    | sh d =>
      obtain ⟨v, e1, e2⟩ := q2
      exact ⟨v, e1, e2.to s1⟩
    | ow ds =>
      obtain ⟨b, ys, e1, e2, e3, e4, e5, e6⟩ := q2
      exact ⟨b, ys, e1, e2, by rw [upd_ne (fun z => h2 (by rw [← z]; exact e2))]; exact e3, e4, e5, e6.to s1⟩
    | bx => exact q2
    | st S n =>
      obtain ⟨b, e1, e2, e3, e4, e5⟩ := q2
      exact ⟨b, e1, e2, by rw [upd_ne (fun z => h2 (by rw [← z]; exact e2))]; exact e3, e4, e5⟩
    | raw u => exact q2
    | exn x => obtain ⟨v, e1, e2⟩ := q2; exact ⟨v, e1, e2.to s1⟩
    | dco xs =>
      obtain ⟨b, e1, e2, e3, e4, e5, e6⟩ := q2
      exact ⟨b, e1, e2, by rw [upd_ne (fun z => h2 (by rw [← z]; exact e2))]; exact e3, e4, e5, e6.to s1⟩
    | sto M =>
      obtain ⟨b, A, e1, e2, e3, e4, e5, e6⟩ := q2
      exact ⟨b, A, e1, e2, by rw [upd_ne (fun z => h2 (by rw [← z]; exact e2))]; exact e3, e4, e5, e6.to s1⟩
    | dsh xs => obtain ⟨v, e1, e2⟩ := q2; exact ⟨v, e1, e2.to s1⟩
    | gen g => obtain ⟨v, e1, e2⟩ := q2; exact ⟨v, e1, g.mono s1 e2⟩
  · rw [upd_ne (ne_at hd h1)]; exact e.fr b hb hd
end
/-- a value as data, its own list (if it is one) as it stands in H -/
def VL (L H : Hp) (v : V) (d : PyData) : Prop := DV L v d ∨ ∃ a xs ds, d = .list ds ∧ v = .ref a ∧ H a = some (.lst xs) ∧ DVs L xs ds
section
variable {L H : Hp} {v : V}
theorem VL.dv {d : PyData} (x : VL L H v d) (s : Same L H) : DV H v d := by
  rcases x with x | ⟨a, xs, ds, rfl, rfl, h, r⟩
  · exact x.to s
  · exact .lst h (r.to s)
theorem VL.lst {ds : List PyData} (x : VL L H v (.list ds)) (s : Same L H) : ∃ a xs, v = .ref a ∧ H a = some (.lst xs) ∧ DVs L xs ds := by
  rcases x with x | ⟨a, xs, es, e, rfl, h, r⟩
  · cases x with
    | lst h r => exact ⟨_, _, rfl, s _ _ h, r⟩
  · cases e; exact ⟨a, xs, rfl, h, r⟩
theorem VL.tup {ds : List PyData} (x : VL L H v (.tuple ds)) : ∃ a xs, v = .ref a ∧ Sol L a xs ∧ DVs L xs ds := by
  rcases x with x | ⟨a, xs, es, e, rfl, h, r⟩
  · cases x with
    | tup h r => exact ⟨_, _, rfl, h, r⟩
  · cases e
theorem VL.int {i : Int} (x : VL L H v (.int i)) : v = .int i := by
  rcases x with x | ⟨a, xs, es, e, _⟩
  · cases x; rfl
  · cases e
theorem VL.bl {i : Bool} (x : VL L H v (.bool i)) : v = .bl i := by
  rcases x with x | ⟨a, xs, es, e, _⟩
  · cases x; rfl
  · cases e
theorem VL.str {i : Str} (x : VL L H v (.str i)) : v = .str i := by
  rcases x with x | ⟨a, xs, es, e, _⟩
  · cases x; rfl
  · cases e
theorem VL.non (x : VL L H v .none) : v = .non := by
  rcases x with x | ⟨a, xs, es, e, _⟩
  · cases x; rfl
  · cases e
end
/-- as data, a pair just made by a walk taken as it stands -/
def VT (L H : Hp) (v : V) (d : PyData) : Prop := DV L v d ∨ ∃ a xs ds, d = .tuple ds ∧ v = .ref a ∧ H a = some (.tup xs) ∧ DVs L xs ds
def VI (pk : Bool) (L H : Hp) (v : V) (d : PyData) : Prop := match pk with
  | true => VT L H v d
  | false => DV L v d
theorem VI.of {pk : Bool} {L H : Hp} {v : V} {d : PyData} (h : DV L v d) : VI pk L H v d := by
  cases pk with
  | true => exact .inl h
  | false => exact h
def R.dat : R → Option PyData
  | .sh d => some d
  | .nw ds => some (.list ds)
  | .br _ ds => some (.list ds)
  | _ => none
theorem VR.vl {w : Wx} {Z : Zx} {O : Addr → Prop} {σ : L2.St} {Hs L H : Hp} {v : V} {r : R} {d : PyData} (x : VR w Z O σ Hs L H v r) (e : r.dat = some d) : VL L H v d := by
  cases r with
  | sh d => cases e; exact .inl x
  | nw ds =>
    cases e
    obtain ⟨a, xs, rfl, h1, h2, h3, h4, h5, h6⟩ := x
    exact .inr ⟨a, xs, ds, rfl, rfl, h5, h6⟩
  | br i ds =>
    cases e
    obtain ⟨a, xs, rfl, h1, h2, h3, h4, h5, h6⟩ := x
    exact .inr ⟨a, xs, ds, rfl, rfl, h5, h6⟩
  | bx => cases e
  | raw u => cases e
  | sr i S n => cases e
  | exn y => cases e
  | dnw xs => cases e
  | dbr i xs => cases e
  | srt i M => cases e
  | dsh xs => cases e
  | gen g => cases e
end Lp

namespace Lp
open PySem PySem.Spec PyProof.Rows L2
abbrev DTE := Env → (R → Env → Prop) → Prop
abbrev DTT := Env → (Bool → Env → Prop) → Prop
abbrev DTA := Env → (List R → Env → Prop) → Prop
structure SE (w : Wx) (t : TE) (f : DTE) : Prop where
  mono : ∀ ε (A B : R → Env → Prop), (∀ r ε', A r ε' → B r ε') → f ε A → f ε B
  run : ∀ (Z : Zx) (O : Addr → Prop) (σ : L2.St) (ε : Env) (L H : Hp) (Q : VK), Rep w Z O L H σ ε → f ε (fun r ε' => ∀ v L' H', Rep w Z O L' H' σ ε' → Ext Z.b L H L' H' → VR w Z O σ H L' H' v r → Q v H') → t σ H Q
structure ST (w : Wx) (t : TT) (f : DTT) : Prop where
  mono : ∀ ε (A B : Bool → Env → Prop), (∀ r ε', A r ε' → B r ε') → f ε A → f ε B
  run : ∀ (Z : Zx) (O : Addr → Prop) (σ : L2.St) (ε : Env) (L H : Hp) (Q : Bool → Hp → Prop), Rep w Z O L H σ ε → f ε (fun b ε' => ∀ L' H', Rep w Z O L' H' σ ε' → Ext Z.b L H L' H' → Q b H') → t σ H Q
inductive VRs (w : Wx) (Z : Zx) (O : Addr → Prop) (σ : L2.St) (Hs L H : Hp) : List V → List R → Prop
  | nil : VRs w Z O σ Hs L H [] []
  | cons {v : V} {vs : List V} {r : R} {rs : List R} : VR w Z O σ Hs L H v r → VRs w Z O σ Hs L H vs rs → VRs w Z O σ Hs L H (v :: vs) (r :: rs)
/-- n arguments, each published -/
structure SA (w : Wx) (n : Nat) (t : TA) (f : DTA) : Prop where
  mono : ∀ ε (A B : List R → Env → Prop), (∀ r ε', A r ε' → B r ε') → f ε A → f ε B
  run : ∀ (Z : Zx) (O : Addr → Prop) (σ : L2.St) (ε : Env) (L H : Hp) (Q : List V → Hp → Prop), Rep w Z O L H σ ε → f ε (fun rs ε' => ∀ vs L' H', Rep w Z O L' H' σ ε' → Ext Z.b L H L' H' → VRs w Z O σ H L' H' vs rs → rs.length = n → (∀ r ∈ rs, ∀ ds, r ≠ .nw ds) → Q vs H') → t σ H Q
section
variable {w : Wx} {ta tb tc : TE} {f g h : DTE}
theorem VRs.mono {Z : Zx} {O : Addr → Prop} {σ : L2.St} {ε : Env} {Hs L H L' H' : Hp} (y : Rep w Z O L H σ ε) (e : Ext Z.b L H L' H') : ∀ {vs : List V} {rs : List R}, VRs w Z O σ Hs L H vs rs → VRs w Z O σ Hs L' H' vs rs
  | _, _, .nil => .nil
  | _, _, .cons a r => .cons (a.mono y e) (VRs.mono y e r)
theorem VRs.back {Z : Zx} {O : Addr → Prop} {σ : L2.St} {Hs L H L' Hr Lr : Hp} (e : Ext Z.b Lr Hr L' Hs) : ∀ {vs : List V} {rs : List R}, VRs w Z O σ Hs L H vs rs → VRs w Z O σ Hr L H vs rs
  | _, _, .nil => .nil
  | _, _, .cons a r => .cons (a.back e) (VRs.back e r)
theorem VRs.len {Z : Zx} {O : Addr → Prop} {σ : L2.St} {Hs L H : Hp} : ∀ {vs : List V} {rs : List R}, VRs w Z O σ Hs L H vs rs → vs.length = rs.length
  | _, _, .nil => rfl
  | _, _, .cons _ r => by rw [List.length_cons, List.length_cons, r.len]
def dVar (i : Nat)  (ε : Env) (Q : R → Env → Prop) : Prop := match ε.s[i]? with
  | some (.sh d) => Q (.sh d) ε
  | some (.ow ds) => Q (.br i ds) ε
  | some .bx => Q .bx ε
  | some (.raw v) => Q (.raw v) ε
  | some (.st S n) => Q (.sr i S n) ε
  | some (.exn x) => Q (.exn x) ε
  | some (.dco xs) => Q (.dbr i xs) ε
  | some (.sto M) => Q (.srt i M) ε
  | some (.dsh xs) => Q (.dsh xs) ε
  | some (.gen g) => Q (.gen g) ε
  | _ => False
theorem se_var {i : Nat} : SE w (tVar i) (dVar i) := by
  constructor
  · intro ε A B h q
    unfold dVar at q ⊢
    split at q
    all_goals first | exact h _ _ q | exact q.elim
  · intro Z O σ ε L H Q x q
    unfold dVar at q
    have e0 := Ext.refl Z.b L H
    split at q
    · rename_i d hd
      obtain ⟨o, h1, v, h2, h3⟩ := x.sl i _ hd
      subst h2
      exact ⟨v, h1, q v L H x e0 h3⟩
    · rename_i ds hd
      obtain ⟨o, h1, a, xs, h2, h3, h4, h5, h6, h7⟩ := x.sl i _ hd
      subst h2
      exact ⟨.ref a, h1, q _ L H x e0 ⟨a, xs, rfl, h1, h3, h5, h4, h6, h7⟩⟩
    · rename_i hd
      obtain ⟨o, h1, b, h2, h3⟩ := x.sl i _ hd
      subst h3
      exact ⟨.ref b, h1, q _ L H x e0 ⟨b, h2, rfl⟩⟩
    · rename_i v hd
      obtain ⟨o, h1, h2⟩ := x.sl i _ hd
      have h2' : o = some v := h2
      subst h2'
      exact ⟨v, h1, q _ L H x e0 rfl⟩
    · rename_i S n hd
      obtain ⟨o, h1, a, h2, h3, h4, h5, h6⟩ := x.sl i _ hd
      subst h2
      exact ⟨.ref a, h1, q _ L H x e0 ⟨a, rfl, h1, h3, h5, h4, h6⟩⟩
    · rename_i y hd
      obtain ⟨o, h1, v, h2, h3⟩ := x.sl i _ hd
      subst h2
      exact ⟨v, h1, q v L H x e0 h3⟩
    · rename_i xs hd
      obtain ⟨o, h1, a, h2, h3, h4, h5, h6, h7⟩ := x.sl i _ hd
      subst h2
      exact ⟨.ref a, h1, q _ L H x e0 ⟨a, rfl, h1, h3, h5, h4, h6, h7⟩⟩
    · rename_i M hd
      obtain ⟨o, h1, a, A, h2, h3, h4, h5, h6, h7⟩ := x.sl i _ hd
      subst h2
      exact ⟨.ref a, h1, q _ L H x e0 ⟨a, A, rfl, h1, h3, h5, h4, h6, h7⟩⟩
    · rename_i xs hd
      obtain ⟨o, h1, v, h2, h3⟩ := x.sl i _ hd
      subst h2
      exact ⟨v, h1, q v L H x e0 h3⟩
    · rename_i g hd
      obtain ⟨o, h1, v, h2, h3⟩ := x.sl i _ hd
      subst h2
      exact ⟨v, h1, q v L H x e0 h3⟩
    · exact q.elim
def dC (d : PyData)  (ε : Env) (Q : R → Env → Prop) : Prop := Q (.sh d) ε
theorem se_int {i : Int} : SE w (tC (.int i)) (dC (.int i)) := ⟨fun ε A B h q => h _ _ q, fun Z O σ ε L H Q x q => q _ L H x (Ext.refl _ _ _) (.int i)⟩
theorem se_bl {i : Bool} : SE w (tC (.bl i)) (dC (.bool i)) := ⟨fun ε A B h q => h _ _ q, fun Z O σ ε L H Q x q => q _ L H x (Ext.refl _ _ _) (.bl i)⟩
theorem se_non : SE w (tC .non) (dC .none) := ⟨fun ε A B h q => h _ _ q, fun Z O σ ε L H Q x q => q _ L H x (Ext.refl _ _ _) .non⟩
def dRaw (v : V)  (ε : Env) (Q : R → Env → Prop) : Prop := Q (.raw v) ε
structure R2K (r : R2) (φ : PyData → PyData → (R → Prop) → Prop) : Prop where
  mono : ∀ x y (A B : R → Prop), (∀ r, A r → B r) → φ x y A → φ x y B
  run : ∀ (L H : Hp) (x y : V) (dx dy : PyData) (Q : VK), Same L H → VL L H x dx → VL L H y dy → φ dx dy (fun r => ∀ v L' H', Ext none L H L' H' → Same L' H' → VR0 H L' H' v r → Q v H') → r x y H Q
def dOp (φ : PyData → PyData → (R → Prop) → Prop) (f g : DTE)  (ε : Env) (Q : R → Env → Prop) : Prop := f ε fun x ε1 => g ε1 fun y ε2 => match x.dat, y.dat with
  | some dx, some dy => φ dx dy fun r => Q r ε2
  | _, _ => False
theorem se_op {r : R2} {φ : PyData → PyData → (R → Prop) → Prop} (k : R2K r φ) (hf : SE w ta f) (hg : SE w tb g) : SE w (tOp r ta tb) (dOp φ f g) := by
  constructor
  · intro ε A B h q
    refine hf.mono _ _ _ (fun x ε1 q => hg.mono _ _ _ (fun y ε2 q => ?_) q) q
    show match x.dat, y.dat with
      | some dx, some dy => φ dx dy fun r => B r ε2
      | _, _ => False
    split at q
    · exact k.mono _ _ _ _ (fun r q => h _ _ q) q
    · exact q.elim
  · intro Z O σ ε L H Q X q
    refine hf.run Z O σ ε L H _ X (hf.mono _ _ _ (fun x ε1 q => ?_) q)
    intro v L1 H1 X1 e1 r1
    refine hg.run Z O σ ε1 L1 H1 _ X1 (hg.mono _ _ _ (fun y ε2 q => ?_) q)
    intro u L2 H2 X2 e2 r2
    have r1' := r1.mono X1 e2
    split at q
    · rename_i dx dy ex ey
      refine k.run L2 H2 v u dx dy Q X2.lh (r1'.vl ex) (r2.vl ey) (k.mono _ _ _ _ (fun r q => ?_) q)
      intro z L3 H3 e3 s3 r3
      exact q z L3 H3 (X2.step e3 s3) ((e1.trans e2).trans e3.any) ((r3.vr X2).back (e1.trans e2))
    · exact q.elim
structure RUK (r : V → Hp → VK → Prop) (φ : PyData → (R → Prop) → Prop) : Prop where
  mono : ∀ x (A B : R → Prop), (∀ r, A r → B r) → φ x A → φ x B
  run : ∀ (L H : Hp) (x : V) (dx : PyData) (Q : VK), Same L H → VL L H x dx → φ dx (fun r => ∀ v L' H', Ext none L H L' H' → Same L' H' → VR0 H L' H' v r → Q v H') → r x H Q
def dUn (φ : PyData → (R → Prop) → Prop) (f : DTE)  (ε : Env) (Q : R → Env → Prop) : Prop := f ε fun x ε1 => match x.dat with
  | some dx => φ dx fun r => Q r ε1
  | _ => False
theorem se_un {r : V → Hp → VK → Prop} {φ : PyData → (R → Prop) → Prop} (k : RUK r φ) (hf : SE w ta f) : SE w (tUn r ta) (dUn φ f) := by
  constructor
  · intro ε A B h q
    refine hf.mono _ _ _ (fun x ε1 q => ?_) q
    show match x.dat with
      | some dx => φ dx fun r => B r ε1
      | _ => False
    split at q
    · exact k.mono _ _ _ (fun r q => h _ _ q) q
    · exact q.elim
  · intro Z O σ ε L H Q X q
    refine hf.run Z O σ ε L H _ X (hf.mono _ _ _ (fun x ε1 q => ?_) q)
    intro v L1 H1 X1 e1 r1
    split at q
    · rename_i dx ex
      refine k.run L1 H1 v dx Q X1.lh (r1.vl ex) (k.mono _ _ _ (fun r q => ?_) q)
      intro z L3 H3 e3 s3 r3
      exact q z L3 H3 (X1.step e3 s3) (e1.trans e3.any) ((r3.vr X1).back e1)
    · exact q.elim
def dTest (f : DTE)  (ε : Env) (Q : Bool → Env → Prop) : Prop := f ε fun r ε1 => match r.dat with
  | some (.bool k) => Q k ε1
  | _ => False
theorem st_test (hf : SE w ta f) : ST w (tTest ta) (dTest f) := by
  constructor
  · intro ε A B h q
    refine hf.mono _ _ _ (fun r ε1 q => ?_) q
    show match r.dat with
      | some (.bool k) => B k ε1
      | _ => False
    split at q
    · exact h _ _ q
    · exact q.elim
  · intro Z O σ ε L H Q X q
    refine hf.run Z O σ ε L H _ X (hf.mono _ _ _ (fun r ε1 q => ?_) q)
    intro v L1 H1 X1 e1 r1
    split at q
    · rename_i k ek
      exact ⟨k, (r1.vl ek).bl, q L1 H1 X1 e1⟩
    · exact q.elim
def truD : PyData → Option Bool
  | .none => some false
  | .bool b => some b
  | .int i => some (i != 0)
  | .list ds => some (!ds.isEmpty)
  | .tuple ds => some (!ds.isEmpty)
  | _ => none
theorem isE {H : Hp} {xs : List V} {ds : List PyData} (h : DVs H xs ds) : xs.isEmpty = ds.isEmpty := by cases h <;> rfl
def dTruth (f : DTE)  (ε : Env) (Q : Bool → Env → Prop) : Prop := f ε fun r ε1 => match r.dat.bind truD with
  | some k => Q k ε1
  | _ => False
theorem tru_of {K : PySem.W.Frag} {L H : Hp} {v : V} {d : PyData} {k : Bool} (x : VL L H v d) (s : Same L H) (e : truD d = some k) : TruV K v H k := by
  cases d with
  | none => rw [x.non]; cases e; rfl
  | bool b => rw [x.bl]; cases e; rfl
  | int i => rw [x.int]; cases e; rfl
  | list ds =>
    obtain ⟨a, xs, rfl, h1, h2⟩ := x.lst s
    cases e
    exact .inl ⟨xs, SqL.of h1, by rw [isE h2]⟩
  | tuple ds =>
    obtain ⟨a, xs, rfl, h1, h2⟩ := x.tup
    cases e
    exact .inr (.inl ⟨xs, (h1.to s).seq, by rw [isE h2]⟩)
  | str _ => cases e
  | dict _ => cases e
theorem st_truth {K : PySem.W.Frag} (hf : SE w ta f) : ST w (fun σ H Q => ta σ H fun x H1 => ∃ k, TruV K x H1 k ∧ Q k H1) (dTruth f) := by
  constructor
  · intro ε A B h q
    refine hf.mono _ _ _ (fun r ε1 q => ?_) q
    show match r.dat.bind truD with
      | some k => B k ε1
      | _ => False
    split at q
    · exact h _ _ q
    · exact q.elim
  · intro Z O σ ε L H Q X q
    refine hf.run Z O σ ε L H _ X (hf.mono _ _ _ (fun r ε1 q => ?_) q)
    intro v L1 H1 X1 e1 r1
    split at q
    · rename_i k ek
      cases ed : r.dat with
      | none => rw [ed] at ek; cases ek
      | some d =>
        rw [ed] at ek
        exact ⟨k, tru_of (r1.vl ed) X1.lh ek, q L1 H1 X1 e1⟩
    · exact q.elim
def dAnd (f g : DTT)  (ε : Env) (Q : Bool → Env → Prop) : Prop := f ε fun c ε1 => if c = true then g ε1 Q else Q false ε1
def dOr (f g : DTT)  (ε : Env) (Q : Bool → Env → Prop) : Prop := f ε fun c ε1 => if c = true then Q true ε1 else g ε1 Q
def dNot (f : DTT)  (ε : Env) (Q : Bool → Env → Prop) : Prop := f ε fun c ε1 => Q (!c) ε1
variable {t u : TT} {p q : DTT}
theorem st_or (hf : ST w t p) (hg : ST w u q) : ST w (tOr t u) (dOr p q) := by
  constructor
  · intro ε A B h z
    refine hf.mono _ _ _ (fun c ε1 z => ?_) z
    cases c with
    | false => exact iteF (hg.mono _ _ _ h (by rw [if_neg Bool.false_ne_true] at z; exact z))
    | true => exact iteT (h _ _ (by rw [if_pos rfl] at z; exact z))
  · intro Z O σ ε L H Q X z
    refine hf.run Z O σ ε L H _ X (hf.mono _ _ _ (fun c ε1 z => ?_) z)
    intro L1 H1 X1 e1
    cases c with
    | false =>
      rw [if_neg Bool.false_ne_true] at z
      exact iteF (hg.run Z O σ ε1 L1 H1 _ X1 (hg.mono _ _ _ (fun b ε2 z L2 H2 X2 e2 => z L2 H2 X2 (e1.trans e2)) z))
    | true =>
      rw [if_pos rfl] at z
      exact iteT (z L1 H1 X1 e1)
theorem st_not (hf : ST w t p) : ST w (tNot t) (dNot p) := by
  constructor
  · intro ε A B h z
    exact hf.mono _ _ _ (fun c ε1 z => h _ _ z) z
  · intro Z O σ ε L H Q X z
    exact hf.run Z O σ ε L H _ X z
def dYes  (ε : Env) (Q : Bool → Env → Prop) : Prop := Q true ε
theorem st_yes : ST w tYes dYes := ⟨fun ε A B h q => h _ _ q, fun Z O σ ε L H Q X z => z L H X (Ext.refl _ _ _)⟩
def dIf (c : DTT) (f g : DTE)  (ε : Env) (Q : R → Env → Prop) : Prop := c ε fun b ε1 => if b = true then f ε1 Q else g ε1 Q
theorem se_if (hc : ST w t p) (hf : SE w ta f) (hg : SE w tb g) : SE w (tIf t ta tb) (dIf p f g) := by
  constructor
  · intro ε A B h z
    refine hc.mono _ _ _ (fun c ε1 z => ?_) z
    cases c with
    | false => exact iteF (hg.mono _ _ _ h (by rw [if_neg Bool.false_ne_true] at z; exact z))
    | true => exact iteT (hf.mono _ _ _ h (by rw [if_pos rfl] at z; exact z))
  · intro Z O σ ε L H Q X z
    refine hc.run Z O σ ε L H _ X (hc.mono _ _ _ (fun c ε1 z => ?_) z)
    intro L1 H1 X1 e1
    cases c with
    | false =>
      rw [if_neg Bool.false_ne_true] at z
      exact iteF (hg.run Z O σ ε1 L1 H1 _ X1 (hg.mono _ _ _ (fun b ε2 z v L2 H2 X2 e2 r => z v L2 H2 X2 (e1.trans e2) (r.back e1)) z))
    | true =>
      rw [if_pos rfl] at z
      exact iteT (hf.run Z O σ ε1 L1 H1 _ X1 (hf.mono _ _ _ (fun b ε2 z v L2 H2 X2 e2 r => z v L2 H2 X2 (e1.trans e2) (r.back e1)) z))
def dAndV (f g : DTE)  (ε : Env) (Q : R → Env → Prop) : Prop := f ε fun r ε1 => match r.dat with
  | some (.bool k) => if k = true then g ε1 Q else Q (.sh (.bool false)) ε1
  | _ => False
def dOrV (f g : DTE)  (ε : Env) (Q : R → Env → Prop) : Prop := f ε fun r ε1 => match r.dat with
  | some (.bool k) => if k = true then Q (.sh (.bool true)) ε1 else g ε1 Q
  | _ => False
def dNotV (f : DTE)  (ε : Env) (Q : R → Env → Prop) : Prop := f ε fun r ε1 => match r.dat with
  | some (.bool b) => Q (.sh (.bool (!b))) ε1
  | _ => False
theorem se_andV (hf : SE w ta f) (hg : SE w tb g) : SE w (tAndV ta tb) (dAndV f g) := by
  constructor
  · intro ε A B h z
    refine hf.mono _ _ _ (fun r ε1 z => ?_) z
    split at z
    · rename_i k _
      cases k with
      | true => exact iteT (hg.mono _ _ _ h (by rw [if_pos rfl] at z; exact z))
      | false => exact iteF (h _ _ (by rw [if_neg Bool.false_ne_true] at z; exact z))
    · exact z.elim
  · intro Z O σ ε L H Q X z
    refine hf.run Z O σ ε L H _ X (hf.mono _ _ _ (fun r ε1 z => ?_) z)
    intro v L1 H1 X1 e1 r1
    split at z
    · rename_i k ek
      cases k with
      | true =>
        rw [if_pos rfl] at z
        exact ⟨true, (r1.vl ek).bl, iteT (hg.run Z O σ ε1 L1 H1 _ X1 (hg.mono _ _ _ (fun b ε2 z v L2 H2 X2 e2 r => z v L2 H2 X2 (e1.trans e2) (r.back e1)) z))⟩
      | false =>
        rw [if_neg Bool.false_ne_true] at z
        exact ⟨false, (r1.vl ek).bl, iteF (z _ L1 H1 X1 e1 (.bl false))⟩
    · exact z.elim
theorem se_notV (hf : SE w ta f) : SE w (tNotV ta) (dNotV f) := by
  constructor
  · intro ε A B h z
    refine hf.mono _ _ _ (fun r ε1 z => ?_) z
    show match r.dat with
      | some (.bool b) => B (.sh (.bool (!b))) ε1
      | _ => False
    split at z
    · exact h _ _ z
    · exact z.elim
  · intro Z O σ ε L H Q X z
    refine hf.run Z O σ ε L H _ X (hf.mono _ _ _ (fun r ε1 z => ?_) z)
    intro v L1 H1 X1 e1 r1
    split at z
    · rename_i b ek
      exact ⟨b, (r1.vl ek).bl, z _ L1 H1 X1 e1 (.bl (!b))⟩
    · exact z.elim
/-- a op b op' c -/
def dChain (φ ψ : PyData → PyData → (R → Prop) → Prop) (f g h : DTE)  (ε : Env) (Q : R → Env → Prop) : Prop := f ε fun x ε1 => g ε1 fun y ε2 => match x.dat, y.dat with
  | some dx, some dy => φ dx dy fun r => match r with
    | .sh (.bool k) => if k = true then (h ε2 fun z ε3 => match z.dat with
      | some dz => ψ dy dz fun r => Q r ε3
      | _ => False) else Q (.sh (.bool false)) ε2
    | _ => False
  | _, _ => False
def R.pub : R → R
  | .nw ds => .sh (.list ds)
  | r => r
theorem R.pub_nw (r : R) (ds : List PyData) : r.pub ≠ .nw ds := by
  cases r <;> exact fun h => nomatch h
theorem publ {Z : Zx} {O : Addr → Prop} {σ : L2.St} {ε : Env} {L H L' H' : Hp} {v : V} {r : R} (x : Rep w Z O L' H' σ ε) (e : Ext Z.b L H L' H') (h : VR w Z O σ H L' H' v r) : ∃ L2, Rep w Z O L2 H' σ ε ∧ Ext Z.b L H L2 H' ∧ VR w Z O σ H L2 H' v r.pub := by
  cases r with
  | nw ds =>
    obtain ⟨L2, h1, h2, h3⟩ := Lp.pub x e h
    exact ⟨L2, h1, h2, h3⟩
  | _ => exact ⟨L', x, e, h⟩
def dNil  (ε : Env) (Q : List R → Env → Prop) : Prop := Q [] ε
def dCons (f : DTE) (g : DTA)  (ε : Env) (Q : List R → Env → Prop) : Prop := f ε fun r ε1 => g ε1 fun rs ε2 => Q (r.pub :: rs) ε2
theorem sa_nil : SA w 0 tNil dNil := ⟨fun ε A B h q => h _ _ q, fun Z O σ ε L H Q X z => z _ L H X (Ext.refl _ _ _) .nil rfl (fun _ h => nomatch h)⟩
theorem sa_cons {n : Nat} {tr : TA} {g : DTA} (hf : SE w ta f) (hg : SA w n tr g) : SA w (n + 1) (tCons ta tr) (dCons f g) := by
  constructor
  · intro ε A B h z
    exact hf.mono _ _ _ (fun r ε1 z => hg.mono _ _ _ (fun rs ε2 z => h _ _ z) z) z
  · intro Z O σ ε L H Q X z
    refine hf.run Z O σ ε L H _ X (hf.mono _ _ _ (fun r ε1 z => ?_) z)
    intro v L1 H1 X1 e1 r1
    obtain ⟨L1', X1', e1', r1'⟩ := publ X1 e1 r1
    refine hg.run Z O σ ε1 L1' H1 _ X1' (hg.mono _ _ _ (fun rs ε2 z => ?_) z)
    intro vs L2 H2 X2 e2 rs2 hl np
    refine z (v :: vs) L2 H2 X2 (e1'.trans e2) (.cons (r1'.mono X1' e2) (rs2.back e1')) (by rw [List.length_cons, hl]) (fun x hx ds => ?_)
    rcases List.mem_cons.mp hx with rfl | hx
    · exact R.pub_nw r ds
    · exact np x hx ds
/-- all of them data that stands still -/
def shs : List R → Option (List PyData)
  | [] => some []
  | .sh d :: rs => match shs rs with
    | some ds => some (d :: ds)
    | none => none
  | _ => none
theorem shs_ok {Z : Zx} {O : Addr → Prop} {σ : L2.St} {Hs L H : Hp} : ∀ {rs : List R} {vs : List V} {ds : List PyData}, VRs w Z O σ Hs L H vs rs → shs rs = some ds → DVs L vs ds
  | [], _, _, .nil, e => by cases e; exact .nil
  | .sh d :: rs, _, ds, .cons a r, e => by
    unfold shs at e
    split at e
    · rename_i es h
      cases e
      exact .cons a (shs_ok r h)
    · cases e
  | .nw _ :: _, _, _, .cons _ _, e => by cases e
  | .br _ _ :: _, _, _, .cons _ _, e => by cases e
  | .bx :: _, _, _, .cons _ _, e => by cases e
  | .raw _ :: _, _, _, .cons _ _, e => by cases e
  | .sr _ _ _ :: _, _, _, .cons _ _, e => by cases e
  | .exn _ :: _, _, _, .cons _ _, e => by cases e
  | .dnw _ :: _, _, _, .cons _ _, e => by cases e
  | .dbr _ _ :: _, _, _, .cons _ _, e => by cases e
  | .srt _ _ :: _, _, _, .cons _ _, e => by cases e
  | .dsh _ :: _, _, _, .cons _ _, e => by cases e
  | .gen _ :: _, _, _, .cons _ _, e => by cases e
def dTup (f : DTA)  (ε : Env) (Q : R → Env → Prop) : Prop := f ε fun rs ε1 => match shs rs with
  | some ds => Q (.sh (.tuple ds)) ε1
  | none => False
def dLst (f : DTA)  (ε : Env) (Q : R → Env → Prop) : Prop := f ε fun rs ε1 => match shs rs with
  | some ds => Q (.nw ds) ε1
  | none => False
theorem se_tup {n : Nat} {t : TA} {f : DTA} (hf : SA w n t f) (hn : n ≤ sizeLine := by decide) : SE w (tTupS t) (dTup f) := by
  constructor
  · intro ε A B h z
    refine hf.mono _ _ _ (fun rs ε1 z => ?_) z
    split at z
    · exact h _ _ z
    · exact z.elim
  · intro Z O σ ε L H Q X z
    refine hf.run Z O σ ε L H _ X (hf.mono _ _ _ (fun rs ε1 z => ?_) z)
    intro vs L1 H1 X1 e1 r1 hl np
    split at z
    · rename_i ds hd
      refine ⟨by rw [r1.len, hl]; exact hn, fun p o np no => ?_⟩
      have e2 : Ext none L1 H1 (upd L1 p (.frz o (.tup vs))) (upd H1 p (.frz o (.tup vs))) := Ext.new X1.lh np
      exact z _ _ _ (X1.step e2 (same_both X1.lh)) (e1.trans e2.any) (.tup ⟨o, no, upd_same⟩ ((shs_ok r1 hd).to e2.ll))
    · exact z.elim
theorem se_lst {n : Nat} {t : TA} {f : DTA} (hf : SA w n t f) (hn : n ≤ sizeLine := by decide) : SE w (tLst t) (dLst f) := by
  constructor
  · intro ε A B h z
    refine hf.mono _ _ _ (fun rs ε1 z => ?_) z
    split at z
    · exact h _ _ z
    · exact z.elim
  · intro Z O σ ε L H Q X z
    refine hf.run Z O σ ε L H _ X (hf.mono _ _ _ (fun rs ε1 z => ?_) z)
    intro vs L1 H1 X1 e1 r1 hl np
    split at z
    · rename_i ds hd
      refine ⟨by rw [r1.len, hl]; exact hn, fun p np => ?_⟩
      have e2 : Ext none L1 H1 L1 (upd H1 p (.lst vs)) := Ext.own np
      refine z _ _ _ (X1.step e2 (same_own X1.lh (X1.lh.free np))) (e1.trans e2.any) (VR.back (VR0.vr (r := .nw ds) ⟨p, vs, rfl, np, X1.lh.free np, upd_same, shs_ok r1 hd⟩ X1) e1)
    · exact z.elim
def dats : List R → Option (List PyData)
  | [] => some []
  | r :: rs => match r.dat, dats rs with
    | some d, some ds => some (d :: ds)
    | _, _ => none
inductive VLs (L H : Hp) : List V → List PyData → Prop
  | nil : VLs L H [] []
  | cons {v : V} {vs : List V} {d : PyData} {ds : List PyData} : VL L H v d → VLs L H vs ds → VLs L H (v :: vs) (d :: ds)
theorem dats_ok {Z : Zx} {O : Addr → Prop} {σ : L2.St} {Hs L H : Hp} : ∀ {rs : List R} {vs : List V} {ds : List PyData}, VRs w Z O σ Hs L H vs rs → dats rs = some ds → VLs L H vs ds
  | [], _, _, .nil, e => by cases e; exact .nil
  | r :: rs, _, ds, .cons a b, e => by
    unfold dats at e
    split at e
    · rename_i d es h1 h2
      cases e
      exact .cons (a.vl h1) (dats_ok b h2)
    · cases e
structure RCK (r : List V → Hp → VK → Prop) (φ : List PyData → (R → Prop) → Prop) : Prop where
  mono : ∀ x (A B : R → Prop), (∀ r, A r → B r) → φ x A → φ x B
  run : ∀ (L H : Hp) (xs : List V) (ds : List PyData) (Q : VK), Same L H → VLs L H xs ds → φ ds (fun r => ∀ v L' H', Ext none L H L' H' → Same L' H' → VR0 H L' H' v r → Q v H') → r xs H Q
def dCB (φ : List PyData → (R → Prop) → Prop) (f : DTA)  (ε : Env) (Q : R → Env → Prop) : Prop := f ε fun rs ε1 => match dats rs with
  | some ds => φ ds fun r => Q r ε1
  | _ => False
theorem se_cb {n : Nat} {t : TA} {f : DTA} {r : List V → Hp → VK → Prop} {φ : List PyData → (R → Prop) → Prop} (k : RCK r φ) (hf : SA w n t f) : SE w (tCB r t) (dCB φ f) := by
  constructor
  · intro ε A B h z
    refine hf.mono _ _ _ (fun rs ε1 z => ?_) z
    split at z
    · exact k.mono _ _ _ (fun r q => h _ _ q) z
    · exact z.elim
  · intro Z O σ ε L H Q X z
    refine hf.run Z O σ ε L H _ X (hf.mono _ _ _ (fun rs ε1 z => ?_) z)
    intro vs L1 H1 X1 e1 r1 hl np
    split at z
    · rename_i ds hd
      refine k.run L1 H1 vs ds Q X1.lh (dats_ok r1 hd) (k.mono _ _ _ (fun r q => ?_) z)
      intro z L3 H3 e3 s3 r3
      exact q z L3 H3 (X1.step e3 s3) (e1.trans e3.any) ((r3.vr X1).back e1)
    · exact z.elim
abbrev DTO := Env → (Option Int → Env → Prop) → Prop
def dNoP  (ε : Env) (Q : Option Int → Env → Prop) : Prop := Q none ε
def dPart (f : DTE)  (ε : Env) (Q : Option Int → Env → Prop) : Prop := f ε fun r ε1 => match r.dat with
  | some (.int i) => Q (some i) ε1
  | _ => False
def dSl (φ : PyData → Option Int → Option Int → (R → Prop) → Prop) (f : DTE) (l h : DTO)  (ε : Env) (Q : R → Env → Prop) : Prop := f ε fun r ε1 => l ε1 fun i ε2 => h ε2 fun j ε3 => match r.dat with
  | some d => φ d i j fun r => Q r ε3
  | _ => False
end
end Lp

namespace Lp
open PySem PySem.Spec PyProof.Rows L2
structure DEnds where
  nx : Env → Prop
  rt : R → Env → Prop
  bk : Env → Prop := fun _ => False
  ct : Env → Prop := fun _ => False
structure DEnds.le (A B : DEnds) : Prop where
  nx : ∀ ε, A.nx ε → B.nx ε
  rt : ∀ r ε, A.rt r ε → B.rt r ε
  bk : ∀ ε, A.bk ε → B.bk ε
  ct : ∀ ε, A.ct ε → B.ct ε
theorem DEnds.le.refl (A : DEnds) : A.le A := ⟨fun _ h => h, fun _ _ h => h, fun _ h => h, fun _ h => h⟩
abbrev DTS := DEnds → Env → Prop
structure EndsOk (w : Wx) (Z : Zx) (D : Ends) (Δ : DEnds) : Prop where
  nx : ∀ (O : Addr → Prop) (σ : L2.St) (ε : Env) (L H : Hp), Rep w Z O L H σ ε → Δ.nx ε → D.nx σ H
  rt : ∀ (O : Addr → Prop) (σ : L2.St) (ε : Env) (L H : Hp) (v : V) (r : R), Rep w Z O L H σ ε → VR0 Z.H0 L H v r → Δ.rt r ε → D.rt v H
  bk : ∀ (O : Addr → Prop) (σ : L2.St) (ε : Env) (L H : Hp), Rep w Z O L H σ ε → Δ.bk ε → D.bk σ H
  ct : ∀ (O : Addr → Prop) (σ : L2.St) (ε : Env) (L H : Hp), Rep w Z O L H σ ε → Δ.ct ε → D.ct σ H
structure SS (w : Wx) (t : TS) (f : DTS) : Prop where
  mono : ∀ Δ Δ' ε, DEnds.le Δ Δ' → f Δ ε → f Δ' ε
  run : ∀ (Z : Zx) (O : Addr → Prop) (σ : L2.St) (ε : Env) (L H : Hp) (D : Ends) (Δ : DEnds), Rep w Z O L H σ ε → EndsOk w Z D Δ → f Δ ε → t D σ H
section
variable {w : Wx} {Z : Zx} {O : Addr → Prop} {σ : L2.St} {ε : Env} {L H : Hp}
theorem get_set {α : Type} {l : List α} {i j : Nat} {x y : α} (h : (l.set i x)[j]? = some y) : (i = j ∧ y = x ∧ j < l.length) ∨ (i ≠ j ∧ l[j]? = some y) := by
  rw [List.getElem?_set] at h
  split at h
  · rename_i e
    subst e
    split at h
    · cases h; exact .inl ⟨rfl, rfl, by assumption⟩
    · cases h
  · rename_i e
    exact .inr ⟨e, h⟩
/-- a slot takes a value -/
theorem Rep.put0 (x : Rep w Z O L H σ ε) {i : Nat} {v : V} {y : SV} (O' : Addr → Prop) (ho : ∀ a, O a → O' a) (hn : ∀ a, O' a → H a ≠ none ∧ Z.H0 a = none) (h : SlotR w Z O' L H (some v) y) (hd : Own y = true → ∀ a, v = .ref a → ¬ O a) : Rep w Z O' L H (σ.set i (some v)) (ε.set i y) := by
  have own : ∀ (j : Nat) (z : SV) (a : Addr), ε.s[j]? = some z → Own z = true → σ[j]? = some (some (.ref a)) → O a := by
    intro j z a hz ho ha
    obtain ⟨o, h1, h2⟩ := x.sl j z hz
    rw [ha] at h1
    cases h1
    cases z with
    | ow ds => obtain ⟨b, xs, e, h3, _⟩ := h2; cases e; exact h3
    | st S n => obtain ⟨b, e, h3, _⟩ := h2; cases e; exact h3
    | dco xs => obtain ⟨b, e, h3, _⟩ := h2; cases e; exact h3
    | sto M => obtain ⟨b, A, e, h3, _⟩ := h2; cases e; exact h3
    | _ => cases ho
  refine ⟨x.lh, x.pn, x.ex, x.bo, hn, ?_, fun j z hz => ?_, fun j k z z' a hjk hz hz' oz oz' hj hk => ?_, x.ph⟩
  · show (σ.set i (some v)).length = (ε.s.set i y).length
    rw [List.length_set, List.length_set]; exact x.len
  · rcases get_set hz with ⟨rfl, rfl, hl⟩ | ⟨ne, hz⟩
    · refine ⟨some v, ?_, h⟩
      rw [List.getElem?_set, if_pos rfl, if_pos (by rw [x.len]; exact hl)]
    · obtain ⟨o, h1, h2⟩ := x.sl j z hz
      refine ⟨o, by rw [List.getElem?_set, if_neg ne]; exact h1, ?_⟩
      cases z with
      | ow ds => obtain ⟨a, xs, e1, e2, e3⟩ := h2; exact ⟨a, xs, e1, ho a e2, e3⟩
      | st S n => obtain ⟨a, e1, e2, e3⟩ := h2; exact ⟨a, e1, ho a e2, e3⟩
      | dco xs => obtain ⟨a, e1, e2, e3⟩ := h2; exact ⟨a, e1, ho a e2, e3⟩
      | sto M => obtain ⟨a, A, e1, e2, e3⟩ := h2; exact ⟨a, A, e1, ho a e2, e3⟩
      | _ => exact h2
  · rcases get_set hz with ⟨rfl, rfl, hl⟩ | ⟨ne, hz1⟩
    · rcases get_set hz' with ⟨rfl, _, _⟩ | ⟨ne', hz'⟩
      · exact hjk rfl
      · rw [List.getElem?_set, if_pos rfl, if_pos (by rw [x.len]; exact hl)] at hj
        rw [List.getElem?_set, if_neg ne'] at hk
        exact hd oz a (Option.some.inj (Option.some.inj hj)) (own k z' a hz' oz' hk)
    · rw [List.getElem?_set, if_neg ne] at hj
      rcases get_set hz' with ⟨e1, e2, hl⟩ | ⟨ne', hz2⟩
      · subst e1
        subst e2
        rw [List.getElem?_set, if_pos rfl, if_pos (by rw [x.len]; exact hl)] at hk
        exact hd oz' a (Option.some.inj (Option.some.inj hk)) (own j z a hz1 oz hj)
      · rw [List.getElem?_set, if_neg ne'] at hk
        exact x.di j k z z' a hjk hz1 hz2 oz oz' hj hk
theorem Rep.sh (x : Rep w Z O L H σ ε) {i : Nat} {v : V} {d : PyData} (h : DV L v d) : Rep w Z O L H (σ.set i (some v)) (ε.set i (.sh d)) :=
  x.put0 O (fun _ h => h) x.oh ⟨v, rfl, h⟩ (fun z => nomatch z)
theorem Rep.exnS (x : Rep w Z O L H σ ε) {i : Nat} {v : V} {y : Xn} (h : XV w L v y) : Rep w Z O L H (σ.set i (some v)) (ε.set i (.exn y)) :=
  x.put0 O (fun _ h => h) x.oh ⟨v, rfl, h⟩ (fun z => nomatch z)
theorem Rep.rawS (x : Rep w Z O L H σ ε) {i : Nat} {v : V} : Rep w Z O L H (σ.set i (some v)) (ε.set i (.raw v)) :=
  x.put0 O (fun _ h => h) x.oh rfl (fun z => nomatch z)
theorem Rep.dsS (x : Rep w Z O L H σ ε) {i : Nat} {v : V} {xs : List DRow} (h : DVd L v xs) : Rep w Z O L H (σ.set i (some v)) (ε.set i (.dsh xs)) :=
  x.put0 O (fun _ h => h) x.oh ⟨v, rfl, h⟩ (fun e => nomatch e)
theorem Rep.genS (x : Rep w Z O L H σ ε) {i : Nat} {v : V} {g : Gn} (h : g.ok L v) : Rep w Z O L H (σ.set i (some v)) (ε.set i (.gen g)) :=
  x.put0 O (fun _ h => h) x.oh ⟨v, rfl, h⟩ (fun e => nomatch e)
/-- an object that nobody holds is published -/
theorem Rep.pubO (x : Rep w Z O L H σ ε) {a : Addr} {o : HO} (h2 : ¬ O a) (h3 : Z.H0 a = none) (h4 : L a = none) (h5 : H a = some o) : Rep w Z O (upd L a o) H σ ε := by
  have s1 : Same L (upd L a o) := same_upd h4
  refine ⟨same_pub x.lh h5, x.pn.trans s1, ⟨x.ex.ll.trans s1, x.ex.hh, x.ex.dom, fun b hb hd => ?_⟩, fun b hb => ?_, x.oh, x.len, fun i y hy => ?_, x.di, x.ph⟩
  · rw [upd_ne (ne_at hd h3)]; exact x.ex.fr b hb hd
  · obtain ⟨q1, q2, q3⟩ := x.bo b hb
    exact ⟨by rw [upd_ne (ne_at q3 h3)]; exact q1, q2, q3⟩
  · obtain ⟨o, q1, q2⟩ := x.sl i y hy
    refine ⟨o, q1, ?_⟩
    cases y with
    | un => trivial
    | sh d =>
      obtain ⟨v, e1, e2⟩ := q2
      exact ⟨v, e1, e2.to s1⟩
    | ow ds =>
      obtain ⟨b, ys, e1, e2, e3, e4, e5, e6⟩ := q2
      exact ⟨b, ys, e1, e2, by rw [upd_ne (fun z => h2 (by rw [← z]; exact e2))]; exact e3, e4, e5, e6.to s1⟩
    | bx => exact q2
    | st S n =>
      obtain ⟨b, e1, e2, e3, e4, e5⟩ := q2
      exact ⟨b, e1, e2, by rw [upd_ne (fun z => h2 (by rw [← z]; exact e2))]; exact e3, e4, e5⟩
    | raw u => exact q2
    | exn x => obtain ⟨v, e1, e2⟩ := q2; exact ⟨v, e1, e2.to s1⟩
    | dco xs =>
      obtain ⟨b, e1, e2, e3, e4, e5, e6⟩ := q2
      exact ⟨b, e1, e2, by rw [upd_ne (fun z => h2 (by rw [← z]; exact e2))]; exact e3, e4, e5, e6.to s1⟩
    | sto M =>
      obtain ⟨b, A, e1, e2, e3, e4, e5, e6⟩ := q2
      exact ⟨b, A, e1, e2, by rw [upd_ne (fun z => h2 (by rw [← z]; exact e2))]; exact e3, e4, e5, e6.to s1⟩
    | dsh xs => obtain ⟨v, e1, e2⟩ := q2; exact ⟨v, e1, e2.to s1⟩
    | gen g => obtain ⟨v, e1, e2⟩ := q2; exact ⟨v, e1, g.mono s1 e2⟩
/-- what is stored of a value: own or for all to see -/
def val (own : Bool) : R → Option SV
  | .sh d => some (.sh d)
  | .nw ds => some (if own = true then .ow ds else .sh (.list ds))
  | .raw v => some (.raw v)
  | .exn x => some (.exn x)
  | .dnw xs => some (if own = true then .dco xs else .dsh xs)
  | .dsh xs => some (.dsh xs)
  | .gen g => some (.gen g)
  | _ => none
/-- a new list at a -/
def nwAt (r : R) (v : V) (a : Addr) : Prop := ((∃ ds, r = .nw ds) ∨ ∃ xs, r = .dnw xs) ∧ v = .ref a
theorem Rep.put {Hs : Hp} (x : Rep w Z O L H σ ε) {i : Nat} {own : Bool} {v : V} {r : R} {y : SV} (h : VR w Z O σ Hs L H v r) (hy : val own r = some y) : ∃ O' L', Rep w Z O' L' H (σ.set i (some v)) (ε.set i y) ∧ Same L L' ∧ (∀ a, L a = none → ¬ nwAt r v a → L' a = none) ∧ ∀ a, O' a → O a ∨ nwAt r v a := by
  cases r with
  | sh d =>
    cases hy
    exact ⟨O, L, x.sh h, Same.refl L, fun a h _ => h, fun a h => .inl h⟩
  | nw ds =>
    cases own with
    | true =>
      cases hy
      obtain ⟨a, xs, rfl, h1, h2, h3, h4, h5, h6⟩ := h
      refine ⟨fun b => O b ∨ b = a, L, x.put0 (fun b => O b ∨ b = a) (fun b h => .inl h) (fun b hb => ?_) ⟨a, xs, rfl, .inr rfl, h4, h3, h5, h6⟩ (fun _ b e => by cases e; exact h2), Same.refl L, fun b h _ => h, fun b hb => hb.imp id fun z => ⟨.inl ⟨_, rfl⟩, by rw [z]⟩⟩
      rcases hb with hb | rfl
      · exact x.oh b hb
      · exact ⟨by rw [h5]; exact (fun z => nomatch z), h3⟩
    | false =>
      cases hy
      have h' := h
      obtain ⟨a, xs, rfl, h1, h2, h3, h4, h5, h6⟩ := h'
      have s1 : Same L (upd L a (.lst xs)) := same_upd h4
      obtain ⟨L2, X2, e2, d2⟩ : ∃ L2, Rep w Z O L2 H σ ε ∧ L2 = upd L a (.lst xs) ∧ DV L2 (.ref a) (.list ds) := by
        refine ⟨_, ⟨same_pub x.lh h5, x.pn.trans s1, ⟨x.ex.ll.trans s1, x.ex.hh, x.ex.dom, fun b hb hd => ?_⟩, fun b hb => ?_, x.oh, x.len, fun i y hy => ?_, x.di, x.ph⟩, rfl, .lst upd_same (h6.to s1)⟩
        · rw [upd_ne (ne_at hd h3)]; exact x.ex.fr b hb hd
        · obtain ⟨q1, q2, q3⟩ := x.bo b hb
          exact ⟨by rw [upd_ne (ne_at q3 h3)]; exact q1, q2, q3⟩
        · obtain ⟨o, q1, q2⟩ := x.sl i y hy
          refine ⟨o, q1, ?_⟩
          cases y with
          | un => trivial
          | sh d =>
            obtain ⟨v, e1, e2⟩ := q2
            exact ⟨v, e1, e2.to s1⟩
          | ow ds =>
            obtain ⟨b, ys, e1, e2, e3, e4, e5, e6⟩ := q2
            exact ⟨b, ys, e1, e2, by rw [upd_ne (fun z => h2 (by rw [← z]; exact e2))]; exact e3, e4, e5, e6.to s1⟩
          | bx => exact q2
          | st S n =>
            obtain ⟨b, e1, e2, e3, e4, e5⟩ := q2
            exact ⟨b, e1, e2, by rw [upd_ne (fun z => h2 (by rw [← z]; exact e2))]; exact e3, e4, e5⟩
          | raw u => exact q2
          | exn x => obtain ⟨v, e1, e2⟩ := q2; exact ⟨v, e1, e2.to s1⟩
          | dco xs =>
            obtain ⟨b, e1, e2, e3, e4, e5, e6⟩ := q2
            exact ⟨b, e1, e2, by rw [upd_ne (fun z => h2 (by rw [← z]; exact e2))]; exact e3, e4, e5, e6.to s1⟩
          | sto M =>
            obtain ⟨b, A, e1, e2, e3, e4, e5, e6⟩ := q2
            exact ⟨b, A, e1, e2, by rw [upd_ne (fun z => h2 (by rw [← z]; exact e2))]; exact e3, e4, e5, e6.to s1⟩
          | dsh xs => obtain ⟨v, e1, e2⟩ := q2; exact ⟨v, e1, e2.to s1⟩
          | gen g => obtain ⟨v, e1, e2⟩ := q2; exact ⟨v, e1, g.mono s1 e2⟩
      refine ⟨O, L2, X2.sh d2, by rw [e2]; exact s1, fun b hb nb => ?_, fun b hb => .inl hb⟩
      rw [e2, upd_ne (fun z => nb ⟨.inl ⟨_, rfl⟩, by rw [z]⟩)]; exact hb
  | raw u =>
    cases hy
    cases (show v = u from h)
    exact ⟨O, L, x.rawS, Same.refl L, fun a h _ => h, fun a h => .inl h⟩
  | exn y =>
    cases hy
    exact ⟨O, L, x.exnS h, Same.refl L, fun a h _ => h, fun a h => .inl h⟩
  | br i ds => cases hy
  | bx => cases hy
  | sr i S n => cases hy
  | dbr i xs => cases hy
  | srt i M => cases hy
  | dsh xs =>
    cases hy
    exact ⟨O, L, x.dsS h, Same.refl L, fun a h _ => h, fun a h => .inl h⟩
  | gen g =>
    cases hy
    exact ⟨O, L, x.genS h, Same.refl L, fun a h _ => h, fun a h => .inl h⟩
  | dnw xs =>
    cases own with
    | true =>
      cases hy
      obtain ⟨a, rfl, h1, h2, h3, h4, h5, h6⟩ := h
      refine ⟨fun b => O b ∨ b = a, L, x.put0 (fun b => O b ∨ b = a) (fun b h => .inl h) (fun b hb => ?_) ⟨a, rfl, .inr rfl, h4, h3, h5, h6⟩ (fun _ b e => by cases e; exact h2), Same.refl L, fun b h _ => h, fun b hb => hb.imp id fun z => ⟨.inr ⟨_, rfl⟩, by rw [z]⟩⟩
      rcases hb with hb | rfl
      · exact x.oh b hb
      · exact ⟨h5.ne, h3⟩
    | false =>
      cases hy
      obtain ⟨a, rfl, h1, h2, h3, h4, ⟨ob, h5⟩, h6⟩ := h
      have s1 : Same L (upd L a (DctO ob a xs)) := same_upd h4
      obtain ⟨L2, X2, e2, d2⟩ : ∃ L2, Rep w Z O L2 H σ ε ∧ L2 = upd L a (DctO ob a xs) ∧ DVd L2 (.ref a) xs :=
        ⟨_, x.pubO h2 h3 h4 h5, rfl, a, rfl, ⟨ob, upd_same⟩, h6.to s1⟩
      refine ⟨O, L2, X2.dsS d2, by rw [e2]; exact s1, fun b hb nb => ?_, fun b hb => .inl hb⟩
      rw [e2, upd_ne (fun z => nb ⟨.inr ⟨_, rfl⟩, by rw [z]⟩)]; exact hb
end
section
variable {w : Wx} {ta tb tc : TE} {f g h : DTE} {t u : TS} {p q : DTS}
def dNext  (Δ : DEnds) (ε : Env) : Prop := Δ.nx ε
theorem ss_next : SS w tNext dNext := ⟨fun _ _ ε l z => l.nx ε z, fun Z O σ ε L H D Δ X E z => E.nx O σ ε L H X z⟩
def dSeq (p q : DTS)  (Δ : DEnds) (ε : Env) : Prop := p { Δ with nx := q Δ } ε
theorem ss_seq (hp : SS w t p) (hq : SS w u q) : SS w (tSeq t u) (dSeq p q) :=
  ⟨fun Δ Δ' ε l z => hp.mono { Δ with nx := q Δ } _ ε ⟨fun ε z => hq.mono _ _ ε l z, l.rt, l.bk, l.ct⟩ z,
   fun Z O σ ε L H D Δ X E z => hp.run Z O σ ε L H _ { Δ with nx := q Δ } X ⟨fun O σ ε L H X z => hq.run Z O σ ε L H D Δ X E z, E.rt, E.bk, E.ct⟩ z⟩
def dBreak  (Δ : DEnds) (ε : Env) : Prop := Δ.bk ε
def dCont  (Δ : DEnds) (ε : Env) : Prop := Δ.ct ε
def dNever  (_ : DEnds) (_ : Env) : Prop := False
theorem ss_never : SS w tNever dNever := ⟨fun _ _ _ _ z => z, fun Z O σ ε L H D Δ X E z => z⟩
def dDrop (f : DTE)  (Δ : DEnds) (ε : Env) : Prop := f ε fun _ ε1 => Δ.nx ε1
theorem ss_drop (hf : SE w ta f) : SS w (tDrop ta) (dDrop f) :=
  ⟨fun Δ Δ' ε l z => hf.mono _ _ _ (fun _ ε1 z => l.nx ε1 z) z,
   fun Z O σ ε L H D Δ X E z => hf.run Z O σ ε L H _ X (hf.mono _ _ _ (fun _ ε1 z v L1 H1 X1 e1 r1 => E.nx O σ ε1 L1 H1 X1 z) z)⟩
def R.ret : R → Option R
  | .sh d => some (.sh d)
  | .nw ds => some (.nw ds)
  | .br _ ds => some (.nw ds)
  | .dnw xs => some (.dnw xs)
  | .dbr _ xs => some (.dnw xs)
  | .dsh xs => some (.dsh xs)
  | .gen g => some (.gen g)
  | _ => none
def dRet (f : DTE)  (Δ : DEnds) (ε : Env) : Prop := f ε fun r ε1 => match r.ret with
  | some r => Δ.rt r ε1
  | none => False
theorem VR.ret {Z : Zx} {O : Addr → Prop} {σ : L2.St} {Hs L H : Hp} {v : V} {r r' : R} (x : VR w Z O σ Hs L H v r) (e : r.ret = some r') : VR0 Z.H0 L H v r' := by
  cases r with
  | sh d => cases e; exact x
  | nw ds =>
    cases e
    obtain ⟨a, xs, rfl, h1, h2, h3, h4, h5, h6⟩ := x
    exact ⟨a, xs, rfl, h3, h4, h5, h6⟩
  | br i ds =>
    cases e
    obtain ⟨a, xs, rfl, h1, h2, h3, h4, h5, h6⟩ := x
    exact ⟨a, xs, rfl, h3, h4, h5, h6⟩
  | bx => cases e
  | raw u => cases e
  | sr i S n => cases e
  | exn y => cases e
  | dnw xs =>
    cases e
    obtain ⟨a, rfl, h1, h2, h3, h4, h5, h6⟩ := x
    exact ⟨a, rfl, h3, h4, h5, h6⟩
  | dbr i xs =>
    cases e
    obtain ⟨a, rfl, h1, h2, h3, h4, h5, h6⟩ := x
    exact ⟨a, rfl, h3, h4, h5, h6⟩
  | srt i M => cases e
  | dsh xs => cases e; exact x
  | gen g => cases e; exact x
theorem ss_ret (hf : SE w ta f) : SS w (tRet ta) (dRet f) := by
  constructor
  · intro Δ Δ' ε l z
    refine hf.mono _ _ _ (fun r ε1 z => ?_) z
    split at z
    · exact l.rt _ _ z
    · exact z.elim
  · intro Z O σ ε L H D Δ X E z
    refine hf.run Z O σ ε L H _ X (hf.mono _ _ _ (fun r ε1 z => ?_) z)
    intro v L1 H1 X1 e1 r1
    split at z
    · rename_i r' hr
      exact E.rt O σ ε1 L1 H1 v r' X1 (r1.ret hr) z
    · exact z.elim
def dRetN  (Δ : DEnds) (ε : Env) : Prop := Δ.rt (.sh .none) ε
def dIfS (c : DTT) (p q : DTS)  (Δ : DEnds) (ε : Env) : Prop := c ε fun b ε1 => if b = true then p Δ ε1 else q Δ ε1
theorem ss_if {c : TT} {k : DTT} (hc : ST w c k) (hp : SS w t p) (hq : SS w u q) : SS w (tIfS c t u) (dIfS k p q) := by
  constructor
  · intro Δ Δ' ε l z
    refine hc.mono _ _ _ (fun b ε1 z => ?_) z
    cases b with
    | true => exact iteT (hp.mono _ _ _ l (by rw [if_pos rfl] at z; exact z))
    | false => exact iteF (hq.mono _ _ _ l (by rw [if_neg Bool.false_ne_true] at z; exact z))
  · intro Z O σ ε L H D Δ X E z
    refine hc.run Z O σ ε L H _ X (hc.mono _ _ _ (fun b ε1 z => ?_) z)
    intro L1 H1 X1 e1
    cases b with
    | true => exact iteT (hp.run Z O σ ε1 L1 H1 D Δ X1 E (by rw [if_pos rfl] at z; exact z))
    | false => exact iteF (hq.run Z O σ ε1 L1 H1 D Δ X1 E (by rw [if_neg Bool.false_ne_true] at z; exact z))
def dSetG (own : Bool) (i : Nat) (f : DTE)  (Δ : DEnds) (ε : Env) : Prop := f ε fun r ε1 => match val own r with
  | some x => Δ.nx (ε1.set i x)
  | none => False
theorem ss_set (own : Bool) {i : Nat} (hf : SE w ta f) : SS w (tAsg ta (gName i)) (dSetG own i f) := by
  constructor
  · intro Δ Δ' ε l z
    refine hf.mono _ _ _ (fun r ε1 z => ?_) z
    split at z
    · exact l.nx _ z
    · exact z.elim
  · intro Z O σ ε L H D Δ X E z
    refine hf.run Z O σ ε L H _ X (hf.mono _ _ _ (fun r ε1 z => ?_) z)
    intro v L1 H1 X1 e1 r1
    split at z
    · rename_i x hx
      obtain ⟨O', L', X', _⟩ := X1.put (i := i) r1 hx
      exact E.nx O' _ _ L' H1 X' z
    · exact z.elim
def dPar (i : Nat) (oi : Bool) (j : Nat) (oj : Bool) (f g : DTE)  (Δ : DEnds) (ε : Env) : Prop := f ε fun x ε1 => g ε1 fun y ε2 => match val oi x, val oj y with
  | some a, some b => Δ.nx ((ε2.set i a).set j b)
  | _, _ => False
theorem VR.setσ {Z : Zx} {O O' : Addr → Prop} {σ σ' : L2.St} {Hs L L' H : Hp} {v : V} {r : R} (N : Addr → Prop) (x : VR w Z O σ Hs L H v r) {own : Bool} {y : SV} (hy : val own r = some y) (s : Same L L') (hl : ∀ a, L a = none → ¬ N a → L' a = none) (ho : ∀ a, O' a → O a ∨ N a) (hu : ∀ a, N a → Hs a ≠ none) : VR w Z O' σ' Hs L' H v r := by
  cases r with
  | sh d => exact DV.to x s
  | nw ds =>
    obtain ⟨a, xs, rfl, h1, h2, h3, h4, h5, h6⟩ := x
    have ne : ¬ N a := fun z => hu a z h1
    exact ⟨a, xs, rfl, h1, fun o => (ho a o).elim h2 ne, h3, hl a h4 ne, h5, h6.to s⟩
  | raw u => exact x
  | exn y => exact XV.to x s
  | br i ds => cases hy
  | bx => cases hy
  | sr i S n => cases hy
  | dbr i xs => cases hy
  | srt i M => cases hy
  | dsh xs => exact DVd.to s x
  | gen g => exact g.mono s x
  | dnw xs =>
    obtain ⟨a, rfl, h1, h2, h3, h4, h5, h6⟩ := x
    have ne : ¬ N a := fun z => hu a z h1
    exact ⟨a, rfl, h1, fun o => (ho a o).elim h2 ne, h3, hl a h4 ne, h5, h6.to s⟩
theorem VR.nwAt {Z : Zx} {O : Addr → Prop} {σ : L2.St} {Hs L H : Hp} {v : V} {r : R} {a : Addr} (x : VR w Z O σ Hs L H v r) (e : Lp.nwAt r v a) : H a ≠ none := by
  obtain ⟨⟨ds, rfl⟩ | ⟨ys, rfl⟩, rfl⟩ := e
  · obtain ⟨b, xs, e, h1, h2, h3, h4, h5, h6⟩ := x
    cases e
    rw [h5]; exact fun z => nomatch z
  · obtain ⟨b, e, h1, h2, h3, h4, h5, h6⟩ := x
    cases e
    exact h5.ne
theorem two_put {Z : Zx} {O : Addr → Prop} {σ : L2.St} {ε : Env} {H L1 H1 L2 H2 : Hp} {v u : V} {x y : R} {oi oj : Bool} {i j : Nat} {a b : SV} (X2 : Rep w Z O L2 H2 σ ε) (r1 : VR w Z O σ H L1 H1 v x) (r1' : VR w Z O σ H L2 H2 v x) (r2 : VR w Z O σ H1 L2 H2 u y) (ha : val oi x = some a) (hb : val oj y = some b) :
    ∃ O' L', Rep w Z O' L' H2 ((σ.set i (some v)).set j (some u)) ((ε.set i a).set j b) ∧ Same L2 L' ∧ (∀ a, L2 a = none → ¬ (nwAt x v a ∨ nwAt y u a) → L' a = none) ∧ ∀ a, O' a → O a ∨ nwAt x v a ∨ nwAt y u a := by
  obtain ⟨O', L', X3, s3, hl3, ho3⟩ := X2.put (i := i) r1' ha
  have r2' : VR w Z O' (σ.set i (some v)) H1 L' H2 u y := r2.setσ (nwAt x v) hb s3 hl3 ho3 fun a ea => r1.nwAt ea
  obtain ⟨O2, L3, X4, s4, hl4, ho4⟩ := X3.put (i := j) r2' hb
  refine ⟨O2, L3, X4, s3.trans s4, fun a h n => hl4 a (hl3 a h (fun z => n (.inl z))) (fun z => n (.inr z)), fun a h => ?_⟩
  rcases ho4 a h with q | q
  · exact (ho3 a q).imp id .inl
  · exact .inr (.inr q)
theorem ss_par {i j : Nat} {oi oj : Bool} (hf : SE w ta f) (hg : SE w tb g) : SS w (tPar i j (tCons ta (tCons tb tNil))) (dPar i oi j oj f g) := by
  constructor
  · intro Δ Δ' ε l z
    refine hf.mono _ _ _ (fun x ε1 z => hg.mono _ _ _ (fun y ε2 z => ?_) z) z
    split at z
    · exact l.nx _ z
    · exact z.elim
  · intro Z O σ ε L H D Δ X E z
    refine hf.run Z O σ ε L H _ X (hf.mono _ _ _ (fun x ε1 z => ?_) z)
    intro v L1 H1 X1 e1 r1
    refine hg.run Z O σ ε1 L1 H1 _ X1 (hg.mono _ _ _ (fun y ε2 z => ?_) z)
    intro u L2 H2 X2 e2 r2
    split at z
    · rename_i a b ha hb
      obtain ⟨O', L', X', _⟩ := two_put (i := i) (j := j) X2 r1 (r1.mono X1 e2) r2 ha hb
      exact ⟨v, u, rfl, E.nx O' _ _ L' H2 X' z⟩
    · exact z.elim
def dPar3 (i : Nat) (oi : Bool) (j : Nat) (oj : Bool) (k : Nat) (ok : Bool) (f g h : DTE)  (Δ : DEnds) (ε : Env) : Prop := f ε fun x ε1 => g ε1 fun y ε2 => h ε2 fun z ε3 => match val oi x, val oj y, val ok z with
  | some a, some b, some c => Δ.nx (((ε3.set i a).set j b).set k c)
  | _, _, _ => False
end
end Lp

namespace Lp
open PySem PySem.Spec PyProof.Rows L2
section
variable {w : Wx} {Z : Zx} {O : Addr → Prop} {σ : L2.St} {ε : Env} {L H : Hp}
/-- the list of slot i changes -/
theorem Rep.mut (x : Rep w Z O L H σ ε) {i : Nat} {a : Addr} {y z : SV} {o : HO} (hi : ε.s[i]? = some y) (hy : Own y = true) (ha : σ[i]? = some (some (.ref a))) (h : SlotR w Z O L (upd H a o) (some (.ref a)) z) : Rep w Z O L (upd H a o) σ (ε.set i z) ∧ L a = none ∧ Z.H0 a = none ∧ O a := by
  obtain ⟨o1, h1, h2⟩ := x.sl i y hi
  rw [ha] at h1
  cases h1
  have key : O a ∧ L a = none ∧ Z.H0 a = none := by
    cases y with
    | ow ds => obtain ⟨b, xs, e, k1, k2, k3, _⟩ := h2; cases e; exact ⟨k1, k2, k3⟩
    | st S n => obtain ⟨b, e, k1, k2, k3, _⟩ := h2; cases e; exact ⟨k1, k2, k3⟩
    | dco xs => obtain ⟨b, e, k1, k2, k3, _⟩ := h2; cases e; exact ⟨k1, k2, k3⟩
    | sto M => obtain ⟨b, A, e, k1, k2, k3, _⟩ := h2; cases e; exact ⟨k1, k2, k3⟩
    | _ => cases hy
  obtain ⟨k1, k2, k3⟩ := key
  have nb : ∀ b, Z.b = some b → b ≠ a := fun b hb e => (x.bo b hb).2.2 (by rw [e]; exact k3)
  refine ⟨⟨same_own x.lh k2, x.pn, ⟨x.ex.ll, fun b u hb nb => ?_, fun b hb => ?_, x.ex.fr⟩, fun b hb => ?_, fun b hb => ⟨?_, (x.oh b hb).2⟩, ?_, fun j u hu => ?_, fun j k u u' b hjk hu hu' ou ou' => ?_, x.ph⟩, k2, k3, k1⟩
  · rw [upd_ne (ne_of_none hb k3)]; exact x.ex.hh b u hb nb
  · by_cases q : b = a
    · rw [q, upd_same]; exact fun z => nomatch z
    · rw [upd_ne q]; exact x.ex.dom b hb
  · obtain ⟨q1, q2, q3⟩ := x.bo b hb
    exact ⟨q1, q2.keep (upd_ne (nb b hb)), q3⟩
  · by_cases q : b = a
    · rw [q, upd_same]; exact fun z => nomatch z
    · rw [upd_ne q]; exact (x.oh b hb).1
  · show σ.length = (ε.s.set i z).length
    rw [List.length_set]; exact x.len
  · rcases get_set hu with ⟨rfl, rfl, hl⟩ | ⟨ne, hu1⟩
    · exact ⟨_, ha, h⟩
    · obtain ⟨o2, g1, g2⟩ := x.sl j u hu1
      refine ⟨o2, g1, ?_⟩
      cases u with
      | ow ds =>
        obtain ⟨b, ys, e1, e2, e3, e4, e5, e6⟩ := g2
        subst e1
        have ba : b ≠ a := fun q => x.di i j y (.ow ds) a ne hi hu1 hy rfl ha (by rw [g1, q])
        exact ⟨b, ys, rfl, e2, e3, e4, by rw [upd_ne ba]; exact e5, e6⟩
      | st S n =>
        obtain ⟨b, e1, e2, e3, e4, e5⟩ := g2
        subst e1
        have ba : b ≠ a := fun q => x.di i j y (.st S n) a ne hi hu1 hy rfl ha (by rw [g1, q])
        exact ⟨b, rfl, e2, e3, e4, by rw [upd_ne ba]; exact e5⟩
      | dco xs =>
        obtain ⟨b, e1, e2, e3, e4, e5, e6⟩ := g2
        subst e1
        have ba : b ≠ a := fun q => x.di i j y (.dco xs) a ne hi hu1 hy rfl ha (by rw [g1, q])
        exact ⟨b, rfl, e2, e3, e4, (let ⟨ob, k⟩ := e5; ⟨ob, by rw [upd_ne ba]; exact k⟩), e6⟩
      | sto M =>
        obtain ⟨b, A, e1, e2, e3, e4, e5, e6⟩ := g2
        subst e1
        have ba : b ≠ a := fun q => x.di i j y (.sto M) a ne hi hu1 hy rfl ha (by rw [g1, q])
        exact ⟨b, A, rfl, e2, e3, e4, by rw [upd_ne ba]; exact e5, e6⟩
      | _ => exact g2
  · have back : ∀ (j : Nat) (u : SV), (ε.set i z).s[j]? = some u → Own u = true → ∃ u', ε.s[j]? = some u' ∧ Own u' = true := fun j u hu ou => by
      rcases get_set hu with ⟨rfl, rfl, _⟩ | ⟨_, h⟩
      · exact ⟨y, hi, hy⟩
      · exact ⟨u, h, ou⟩
    obtain ⟨v, hv, ov⟩ := back j u hu ou
    obtain ⟨v', hv', ov'⟩ := back k u' hu' ou'
    exact x.di j k v v' b hjk hv hv' ov ov'
end
section
variable {w : Wx} {ta tb tc te : TE} {f g h : DTE} {t u : TS} {p q : DTS} {K : PySem.W.Frag}
def dAppend (i : Nat) (f : DTE)  (Δ : DEnds) (ε : Env) : Prop := match ε.s[i]? with
  | some (.ow _) => f ε fun r ε1 => match r.pub, ε1.s[i]? with
    | .sh d, some (.ow ds) => ds.length < sizeLine ∧ Δ.nx (ε1.set i (.ow (ds ++ [d])))
    | _, _ => False
  | _ => False
theorem ss_append {i : Nat} (hf : SE w te f) : SS w (tDrop (tBM K "list" rAppend (tVar i) (tCons te tNil))) (dAppend i f) := by
  constructor
  · intro Δ Δ' ε l z
    unfold dAppend at z ⊢
    split at z
    · refine hf.mono _ _ _ (fun r ε1 z => ?_) z
      split at z
      · exact ⟨z.1, l.nx _ z.2⟩
      · exact z.elim
    · exact z.elim
  · intro Z O σ ε L H D Δ X E z
    unfold dAppend at z
    split at z
    · rename_i ds0 h0
      obtain ⟨o, h1, a, xs, h2, h3, h4, h5, h6, h7⟩ := X.sl i _ h0
      subst h2
      refine ⟨.ref a, h1, .inl ⟨rfl, _, SqL.of h6⟩, ?_⟩
      refine hf.run Z O σ ε L H _ X (hf.mono _ _ _ (fun r ε1 z => ?_) z)
      intro v L1 H1 X1 e1 r1
      split at z
      · rename_i d ds hd hs
        obtain ⟨L2, X2, e2, r2⟩ := publ X1 e1 r1
        rw [hd] at r2
        obtain ⟨o', g1, b, ys, g2, g3, g4, g5, g6, g7⟩ := X2.sl i _ hs
        subst g2
        rw [h1] at g1
        cases g1
        refine ⟨a, ys, v, rfl, rfl, g6, by rw [g7.len]; exact z.1, ?_⟩
        have X3 := (X2.mut (o := .lst (ys ++ [v])) hs rfl h1 (z := .ow (ds ++ [d])) ⟨a, _, rfl, g3, g4, g5, upd_same, g7.app (.one r2)⟩).1
        exact E.nx _ _ _ _ _ X3 z.2
      · exact z.elim
    · exact z.elim
/-- xs.append(ys.pop(e)) -/
def dAppPop (i j : Nat) (f : DTE)  (Δ : DEnds) (ε : Env) : Prop := match ε.s[i]?, ε.s[j]? with
  | some (.ow _), some (.ow _) => f ε fun r ε1 => match r.dat, ε1.s[i]?, ε1.s[j]? with
    | some (.int k), some (.ow ds), some (.ow es) => 0 ≤ k ∧ k < (es.length : Int) ∧ es.length < 1000000 ∧ ds.length < sizeLine ∧ ∃ d, es[k.toNat]? = some d ∧ Δ.nx ((ε1.set j (.ow (es.eraseIdx k.toNat))).set i (.ow (ds ++ [d])))
    | _, _, _ => False
  | _, _ => False
theorem DVs.erase {H : Hp} : ∀ {vs : List V} {ds : List PyData} (n : Nat), DVs H vs ds → DVs H (vs.eraseIdx n) (ds.eraseIdx n)
  | _, _, _, .nil => .nil
  | _, _, 0, .cons a r => r
  | _, _, n + 1, .cons a r => .cons a (r.erase n)
theorem ss_appPop {i j : Nat} (hij : i ≠ j) (hf : SE w te f) : SS w (tDrop (tBM K "list" rAppend (tVar i) (tCons (tBM K "list" rPopAt (tVar j) (tCons te tNil)) tNil))) (dAppPop i j f) := by
  constructor
  · intro Δ Δ' ε l z
    unfold dAppPop at z ⊢
    split at z
    · refine hf.mono _ _ _ (fun r ε1 z => ?_) z
      split at z
      · obtain ⟨h1, h2, h3, h4, d, h5, h6⟩ := z
        exact ⟨h1, h2, h3, h4, d, h5, l.nx _ h6⟩
      · exact z.elim
    · exact z.elim
  · intro Z O σ ε L H D Δ X E z
    unfold dAppPop at z
    split at z
    · rename_i ds0 es0 h0 h0'
      obtain ⟨o, h1, a, xs, h2, h3, h4, h5, h6, h7⟩ := X.sl i _ h0
      subst h2
      obtain ⟨o', k1, b, zs, k2, k3, k4, k5, k6, k7⟩ := X.sl j _ h0'
      subst k2
      refine ⟨.ref a, h1, .inl ⟨rfl, _, SqL.of h6⟩, .ref b, k1, .inl ⟨rfl, _, SqL.of k6⟩, ?_⟩
      refine hf.run Z O σ ε L H _ X (hf.mono _ _ _ (fun r ε1 z => ?_) z)
      intro v L1 H1 X1 e1 r1
      split at z
      · rename_i k ds es hd hs hs'
        obtain ⟨m1, m2, m3, m4, d, m5, m6⟩ := z
        cases (r1.vl hd).int
        obtain ⟨_, g1, _, ys, g2, g3, g4, g5, g6, g7⟩ := X1.sl i _ hs
        subst g2
        rw [h1] at g1
        cases g1
        obtain ⟨_, f1, _, us, f2, f3, f4, f5, f6, f7⟩ := X1.sl j _ hs'
        subst f2
        rw [k1] at f1
        cases f1
        have ab : a ≠ b := fun q => X1.di i j _ _ a hij hs hs' rfl rfl h1 (by rw [k1, q])
        obtain ⟨u, hu, du⟩ := f7.get m5
        have hl := f7.len
        refine ⟨b, us, k, k.toNat, u, rfl, rfl, f6, by omega, by omega, ?_, hu, ?_⟩
        · refine (ixN_seq (n := us.length) (i := k) (j := k.toNat) ?_).1
          unfold ixN
          rw [if_pos m1, if_pos (by omega)]
        · have X2 := (X1.mut (o := .lst (us.eraseIdx k.toNat)) hs' rfl k1 (z := .ow (es.eraseIdx k.toNat)) ⟨b, _, rfl, f3, f4, f5, upd_same, f7.erase _⟩).1
          have hs2 : (ε1.set j (.ow (es.eraseIdx k.toNat))).s[i]? = some (.ow ds) := by
            show (ε1.s.set j _)[i]? = _
            rw [List.getElem?_set, if_neg (Ne.symm hij)]; exact hs
          refine ⟨a, ys, u, rfl, rfl, by rw [upd_ne ab]; exact g6, by rw [g7.len]; exact m4, ?_⟩
          have X3 := (X2.mut (o := .lst (ys ++ [u])) hs2 rfl h1 (z := .ow (ds ++ [d])) ⟨a, _, rfl, g3, g4, g5, upd_same, g7.app (.one du)⟩).1
          exact E.nx _ _ _ _ _ X3 m6
      · exact z.elim
    · exact z.elim
/-- xs[e] = e' -/
def dSetIx (i : Nat) (f g : DTE)  (Δ : DEnds) (ε : Env) : Prop := f ε fun r ε1 => match r.pub with
  | .sh d => match ε1.s[i]? with
    | some (.ow _) => g ε1 fun k ε2 => match k.dat, ε2.s[i]? with
      | some (.int j), some (.ow ds) => ∃ m, ixN ds.length j = some m ∧ Δ.nx (ε2.set i (.ow (ds.set m d)))
      | _, _ => False
    | _ => False
  | _ => False
theorem ss_setIx {i : Nat} (hf : SE w ta f) (hg : SE w tb g) : SS w (tAsg ta (gSub (tVar i) tb rSetL)) (dSetIx i f g) := by
  constructor
  · intro Δ Δ' ε l z
    refine hf.mono _ _ _ (fun r ε1 z => ?_) z
    split at z
    · split at z
      · refine hg.mono _ _ _ (fun k ε2 z => ?_) z
        split at z
        · obtain ⟨m, h1, h2⟩ := z
          exact ⟨m, h1, l.nx _ h2⟩
        · exact z.elim
      · exact z.elim
    · exact z.elim
  · intro Z O σ ε L H D Δ X E z
    refine hf.run Z O σ ε L H _ X (hf.mono _ _ _ (fun r ε1 z => ?_) z)
    intro v L1 H1 X1 e1 r1
    split at z
    · rename_i d hd
      obtain ⟨L2, X2, e2, r2⟩ := publ X1 e1 r1
      rw [hd] at r2
      split at z
      · rename_i ds0 h0
        obtain ⟨o, h1, a, xs, h2, _⟩ := X2.sl i _ h0
        subst h2
        refine ⟨.ref a, h1, ?_⟩
        refine hg.run Z O σ ε1 L2 H1 _ X2 (hg.mono _ _ _ (fun k ε2 z => ?_) z)
        intro u L3 H3 X3 e3 r3
        split at z
        · rename_i j ds hj hs
          obtain ⟨m, m1, m2⟩ := z
          cases (r3.vl hj).int
          obtain ⟨_, g1, b, ys, g2, g3, g4, g5, g6, g7⟩ := X3.sl i _ hs
          subst g2
          rw [h1] at g1
          cases g1
          refine ⟨a, ys, j, m, rfl, rfl, g6, by rw [g7.len]; exact m1, ?_⟩
          have X4 := (X3.mut (o := .lst (ys.set m v)) hs rfl h1 (z := .ow (ds.set m d)) ⟨a, _, rfl, g3, g4, g5, upd_same, DVs.set (DV.to r2 e3.ll) m g7⟩).1
          exact E.nx _ _ _ _ _ X4 m2
        · exact z.elim
      · exact z.elim
    · exact z.elim
/-- xs += e, xs an own list -/
def dExt (i : Nat) (f : DTE)  (Δ : DEnds) (ε : Env) : Prop := match ε.s[i]? with
  | some (.ow _) => f ε fun r ε1 => match r.dat, ε1.s[i]? with
    | some (.list es), some (.ow ds) => ds.length + es.length ≤ sizeLine ∧ Δ.nx (ε1.set i (.ow (ds ++ es)))
    | _, _ => False
  | _ => False
/-- x op= e -/
def dAug (φ : PyData → PyData → (R → Prop) → Prop) (i : Nat) (f : DTE)  (Δ : DEnds) (ε : Env) : Prop := match ε.s[i]? with
  | some (.sh a) => f ε fun r ε1 => match r.dat with
    | some b => φ a b fun q => match val false q with
      | some y => Δ.nx (ε1.set i y)
      | none => False
    | none => False
  | _ => False
def dSet0 (i : Nat)  (Δ : DEnds) (ε : Env) : Prop := Δ.nx (ε.set i (.st (fun _ => false) 0))
def dSAdd (i : Nat) (f : DTE)  (Δ : DEnds) (ε : Env) : Prop := match ε.s[i]? with
  | some (.st _ _) => f ε fun r ε1 => match r.dat, ε1.s[i]? with
    | some (.int k), some (.st S n) => n + 1 < scanBound ∧ Δ.nx (ε1.set i (.st (fun j => S j || decide (j = k)) (if S k = true then n else n + 1)))
    | _, _ => False
  | _ => False
def dSNotIn (f g : DTE)  (ε : Env) (Q : R → Env → Prop) : Prop := f ε fun x ε1 => g ε1 fun y ε2 => match x.dat, y with
  | some (.int k), .sr _ S _ => Q (.sh (.bool (!S k))) ε2
  | _, _ => False
end
end Lp

namespace Lp
open PySem PySem.Spec PyProof.Rows L2
/-- a list or a tuple -/
def iSeq (K : PySem.W.Frag) (tl : TE) : TI := fun σ H R => tl σ H fun x H1 => ∃ a, x = .ref a ∧ (((∃ xs, SqL K H1 a xs) ∧ R (Itl K a) H1) ∨ ((∃ xs, SqT K H1 a xs) ∧ R (Itt K a) H1))
theorem pi_seq {X : Cx} {tg o : Expr} {to : TE} (ho : PE X o to) : PI X tg o (iSeq X.K to) := by
  constructor
  intro pins s σ H R I want
  refine thn (ho.run pins s σ H _ I want) ?_
  rintro u s' ⟨_, H', J, rel, a, rfl, ways⟩
  cases rel
  have fp : ∀ b ∈ [s'.heap.objs.size], FpOk X pins H' b := fun b hb => by
    cases List.mem_singleton.mp hb
    exact J.fpOk (Nat.le_refl _) (J.hok.fresh (Nat.le_refl _))
  rcases ways with ⟨⟨xs, at_a⟩, go⟩ | ⟨⟨xs, at_a⟩, go⟩
  · obtain ⟨vals, _, lst, _⟩ := J.list at_a
    refine wpAny_pyIter_list lst.isList ⟨s'.heap.objs.size, [s'.heap.objs.size], _, _, H', rfl, ?_, turn_list a _, ⟨_, Heap.get?_push_size _ rfl, rfl, rfl⟩, fp, go⟩
    exact J.kept (t' := s'.toks) fun _ _ q => Heap.get?_push_of_some _ q
  · obtain ⟨vals, _, tup, _⟩ := J.tuple at_a
    have tup' : s'.heap.IsTuple a vals.toArray := tup
    refine wpAny_pyIter_tuple tup' ⟨s'.heap.objs.size, [s'.heap.objs.size], _, _, H', rfl, ?_, turn_tuple a _, ⟨_, Heap.get?_push_size _ rfl, rfl, rfl⟩, fp, go⟩
    exact J.kept (t' := s'.toks) fun _ _ q => Heap.get?_push_of_some _ q
/-- the items, while what is walked stands still -/
structure WalkS (pk : Bool) (L : Hp) (J : It) (ds : List PyData) : Prop where
  go : ∀ i L' H', Same L L' → Same L' H' → i < ds.length → J.go i H'
  stop : ∀ L' H', Same L L' → Same L' H' → J.stop ds.length H'
  yld : ∀ (i : Nat) d L' H' x H2, Same L L' → Same L' H' → ds[i]? = some d → J.yld i H' x H2 → ∃ L2, Ext none L' H' L2 H2 ∧ Same L2 H2 ∧ VI pk L2 H2 x d
structure WalkE (pk : Bool) (b : Option Addr) (L H : Hp) (J : It) (ds : List PyData) : Prop where
  go : ∀ i L' H', Ext b L H L' H' → Same L' H' → i < ds.length → J.go i H'
  stop : ∀ L' H', Ext b L H L' H' → Same L' H' → J.stop ds.length H'
  yld : ∀ (i : Nat) d L' H' x H2, Ext b L H L' H' → Same L' H' → ds[i]? = some d → J.yld i H' x H2 → ∃ L2, Ext none L' H' L2 H2 ∧ Same L2 H2 ∧ VI pk L2 H2 x d
theorem WalkS.e {pk : Bool} {b : Option Addr} {L H : Hp} {J : It} {ds : List PyData} (x : WalkS pk L J ds) : WalkE pk b L H J ds :=
  ⟨fun i L' H' e s h => x.go i L' H' e.ll s h, fun L' H' e s => x.stop L' H' e.ll s, fun i d L' H' y H2 e s h => x.yld i d L' H' y H2 e.ll s h⟩
abbrev DTI := Env → (List PyData → Bool → Env → Prop) → Prop
structure SI (w : Wx) (pk : Bool) (t : TI) (f : DTI) : Prop where
  mono : ∀ ε (A B : List PyData → Bool → Env → Prop), (∀ r b ε', A r b ε' → B r b ε') → f ε A → f ε B
  run : ∀ (Z : Zx) (O : Addr → Prop) (σ : L2.St) (ε : Env) (L H : Hp) (R : It → Hp → Prop), Rep w Z O L H σ ε → f ε (fun ds fl ε' => ∀ J L' H', Rep w Z O L' H' σ ε' → Ext Z.b L H L' H' → WalkE pk Z.b L' H' J ds → (fl = true → WalkS pk L' J ds) → R J H') → t σ H R
section
variable {w : Wx} {K : PySem.W.Frag} {ta tb te : TE} {f g : DTE}
theorem walkS_list {L : Hp} {a : Addr} {xs : List V} {ds : List PyData} (h : L a = some (.lst xs)) (r : DVs L xs ds) : WalkS false L (Itl K a) ds := by
  have hl := r.len
  refine ⟨fun i L' H' s1 s2 hi => ?_, fun L' H' s1 s2 => ?_, fun i d L' H' x H2 s1 s2 hd y => ?_⟩
  · exact ⟨xs, xs[i]'(by omega), SqL.of (s2 _ _ (s1 _ _ h)), List.getElem?_eq_getElem (by omega)⟩
  · exact ⟨xs, SqL.of (s2 _ _ (s1 _ _ h)), by omega⟩
  · obtain ⟨rfl, y2⟩ := y
    have hx := y2 xs (SqL.of (s2 _ _ (s1 _ _ h)))
    obtain ⟨v, h1, h2⟩ := r.get hd
    rw [hx] at h1
    cases h1
    exact ⟨L', Ext.refl _ _ _, s2, h2.to s1⟩
theorem walkS_tup {L : Hp} {a : Addr} {xs : List V} {ds : List PyData} (h : Sol L a xs) (r : DVs L xs ds) : WalkS false L (Itt K a) ds := by
  have hl := r.len
  refine ⟨fun i L' H' s1 s2 hi => ?_, fun L' H' s1 s2 => ?_, fun i d L' H' x H2 s1 s2 hd y => ?_⟩
  · exact ⟨xs, xs[i]'(by omega), ((h.to s1).to s2).seq, List.getElem?_eq_getElem (by omega)⟩
  · exact ⟨xs, ((h.to s1).to s2).seq, by omega⟩
  · obtain ⟨rfl, y2⟩ := y
    have hx := y2 xs (((h.to s1).to s2).seq)
    obtain ⟨v, h1, h2⟩ := r.get hd
    rw [hx] at h1
    cases h1
    exact ⟨L', Ext.refl _ _ _, s2, h2.to s1⟩
theorem walkE_list {b : Option Addr} {L H : Hp} {a : Addr} {xs : List V} {ds : List PyData} (hb : b ≠ some a) (h : H a = some (.lst xs)) (r : DVs L xs ds) : WalkE false b L H (Itl K a) ds := by
  have hl := r.len
  refine ⟨fun i L' H' e s2 hi => ?_, fun L' H' e s2 => ?_, fun i d L' H' x H2 e s2 hd y => ?_⟩
  · exact ⟨xs, xs[i]'(by omega), SqL.of (e.hh _ _ h hb), List.getElem?_eq_getElem (by omega)⟩
  · exact ⟨xs, SqL.of (e.hh _ _ h hb), by omega⟩
  · obtain ⟨rfl, y2⟩ := y
    have hx := y2 xs (SqL.of (e.hh _ _ h hb))
    obtain ⟨v, h1, h2⟩ := r.get hd
    rw [hx] at h1
    cases h1
    exact ⟨L', Ext.refl _ _ _, s2, h2.to e.ll⟩
def dIter (f : DTE)  (ε : Env) (Q : List PyData → Bool → Env → Prop) : Prop := f ε fun r ε1 => match r.pub with
  | .sh (.list ds) => Q ds true ε1
  | .sh (.tuple ds) => Q ds true ε1
  | .br _ ds => Q ds false ε1
  | _ => False
theorem si_seq (hf : SE w ta f) : SI w false (iSeq K ta) (dIter f) := by
  constructor
  · intro ε A B h q
    refine hf.mono _ _ _ (fun r ε1 q => ?_) q
    split at q
    · exact h _ _ _ q
    · exact h _ _ _ q
    · exact h _ _ _ q
    · exact q.elim
  · intro Z O σ ε L H R X q
    refine hf.run Z O σ ε L H _ X (hf.mono _ _ _ (fun r ε1 q => ?_) q)
    intro v L1 H1 X1 e1 r1
    obtain ⟨L2, X2, e2, r2⟩ := publ X1 e1 r1
    split at q
    · rename_i ds hd
      rw [hd] at r2
      cases (show DV L2 v (.list ds) from r2) with
      | lst h1 h2 =>
        have W := walkS_list (K := K) h1 h2
        exact ⟨_, rfl, .inl ⟨⟨_, SqL.of (X2.lh _ _ h1)⟩, q _ L2 H1 X2 e2 W.e fun _ => W⟩⟩
    · rename_i ds hd
      rw [hd] at r2
      cases (show DV L2 v (.tuple ds) from r2) with
      | tup h1 h2 =>
        have W := walkS_tup (K := K) h1 h2
        exact ⟨_, rfl, .inr ⟨⟨_, (h1.to X2.lh).seq⟩, q _ L2 H1 X2 e2 W.e fun _ => W⟩⟩
    · rename_i i ds hd
      rw [hd] at r2
      obtain ⟨a, xs, rfl, h1, h2, h3, h4, h5, h6⟩ := r2
      exact ⟨a, rfl, .inl ⟨⟨_, SqL.of h5⟩, q _ L2 H1 X2 e2 (walkE_list (X2.nob h3) h5 h6) (fun z => nomatch z)⟩⟩
    · exact q.elim
/-- the ints from lo on, n of them -/
def rgD (lo : Int) (n : Nat) : List PyData := (List.range n).map fun i => .int (lo + (i : Nat))
theorem rgD_len (lo : Int) (n : Nat) : (rgD lo n).length = n := by unfold rgD; rw [List.length_map, List.length_range]
theorem rgD_get {lo : Int} {n i : Nat} {d : PyData} (h : (rgD lo n)[i]? = some d) : i < n ∧ d = .int (lo + (i : Nat)) := by
  have hi : i < n := by
    have := (List.getElem?_eq_some_iff.mp h).1
    rwa [rgD_len] at this
  unfold rgD at h
  rw [List.getElem?_map, List.getElem?_range hi] at h
  cases h
  exact ⟨hi, rfl⟩
theorem walkS_rg {L : Hp} {lo : Int} {n : Nat} : WalkS false L (Itr lo n) (rgD lo n) := by
  refine ⟨fun i L' H' s1 s2 hi => ?_, fun L' H' s1 s2 => ?_, fun i d L' H' x H2 s1 s2 hd y => ?_⟩
  · rw [rgD_len] at hi; exact hi
  · rw [rgD_len]; exact Nat.le_refl n
  · obtain ⟨rfl, rfl⟩ := y
    obtain ⟨_, rfl⟩ := rgD_get hd
    exact ⟨L', Ext.refl _ _ _, s2, .int _⟩
def dRng1 (f : DTA)  (ε : Env) (Q : List PyData → Bool → Env → Prop) : Prop := f ε fun rs ε1 => match rs with
  | [.sh (.int j)] => (-(2 ^ 62) ≤ j ∧ j < 2 ^ 62) ∧ Q (rgD 0 j.toNat) true ε1
  | _ => False
theorem si_rng1 {n : Nat} {t : TA} {f : DTA} (hf : SA w n t f) : SI w false (iRng1 t) (dRng1 f) := by
  constructor
  · intro ε A B h q
    refine hf.mono _ _ _ (fun r ε1 q => ?_) q
    split at q
    · exact ⟨q.1, h _ _ _ q.2⟩
    · exact q.elim
  · intro Z O σ ε L H R X q
    refine hf.run Z O σ ε L H _ X (hf.mono _ _ _ (fun r ε1 q => ?_) q)
    intro vs L1 H1 X1 e1 r1 hl np
    split at q
    · rename_i j
      cases r1 with
      | cons r1 r2 =>
        cases r2
        cases (show DV L1 _ (.int j) from r1)
        exact ⟨j, rfl, q.1.1, q.1.2, q.2 _ L1 H1 X1 e1 walkS_rg.e fun _ => walkS_rg⟩
    · exact q.elim
def dRng2 (f : DTA)  (ε : Env) (Q : List PyData → Bool → Env → Prop) : Prop := f ε fun rs ε1 => match rs with
  | [.sh (.int i), .sh (.int j)] => (-(2 ^ 62) ≤ i ∧ i < 2 ^ 62 ∧ -(2 ^ 62) ≤ j ∧ j < 2 ^ 62) ∧ Q (rgD i (j - i).toNat) true ε1
  | _ => False
end
abbrev DTG := PyData → Env → (Env → Prop) → Prop
/-- but for the slots js all is as it was -/
def But (js : List Nat) (σ σ' : L2.St) : Prop := σ'.length = σ.length ∧ ∀ i : Nat, i ∉ js → σ'[i]? = σ[i]?
structure SG (w : Wx) (pk : Bool) (js : List Nat) (g : TG) (γ : DTG) : Prop where
  mono : ∀ d ε (A B : Env → Prop), (∀ ε', A ε' → B ε') → γ d ε A → γ d ε B
  run : ∀ (Z : Zx) (O : Addr → Prop) (σ : L2.St) (ε : Env) (L H : Hp) (v : V) (d : PyData) (Q : L2.St → Hp → Prop), Rep w Z O L H σ ε → VI pk L H v d → γ d ε (fun ε' => ∀ σ', Rep w Z O L H σ' ε' → But js σ σ' → Q σ' H) → g v σ H Q
abbrev DTGs := List PyData → Env → (Env → Prop) → Prop
structure SGs (w : Wx) (js : List Nat) (g : TGs) (γ : DTGs) : Prop where
  mono : ∀ d ε (A B : Env → Prop), (∀ ε', A ε' → B ε') → γ d ε A → γ d ε B
  run : ∀ (Z : Zx) (O : Addr → Prop) (σ : L2.St) (ε : Env) (L H : Hp) (v : List V) (d : List PyData) (Q : L2.St → Hp → Prop), Rep w Z O L H σ ε → DVs L v d → γ d ε (fun ε' => ∀ σ', Rep w Z O L H σ' ε' → But js σ σ' → Q σ' H) → g v σ H Q
section
variable {w : Wx} {K : PySem.W.Frag}
def dName (i : Nat)  (d : PyData) (ε : Env) (Q : Env → Prop) : Prop := Q (ε.set i (.sh d))
theorem sg_name {i : Nat} : SG w false [i] (gName i) (dName i) := ⟨fun _ _ _ _ h q => h _ q, fun Z O σ ε L H v d Q X r q => q _ (X.sh r) ⟨List.length_set, fun j hj => by
  rw [List.getElem?_set, if_neg (fun e => hj (by rw [e]; exact List.mem_singleton.mpr rfl))]⟩⟩
def dGNil  (ds : List PyData) (ε : Env) (Q : Env → Prop) : Prop := match ds with
  | [] => Q ε
  | _ => False
def dGCons (γ : DTG) (γs : DTGs)  (ds : List PyData) (ε : Env) (Q : Env → Prop) : Prop := match ds with
  | d :: ds => γ d ε fun ε1 => γs ds ε1 Q
  | _ => False
theorem sgs_nil : SGs w [] gNil dGNil := by
  constructor
  · intro ds ε A B h q
    cases ds with
    | nil => exact h _ q
    | cons _ _ => exact q.elim
  · intro Z O σ ε L H v d Q X r q
    cases r with
    | nil => exact ⟨rfl, q _ X ⟨rfl, fun _ _ => rfl⟩⟩
    | cons _ _ => exact q.elim
theorem sgs_cons {g : TG} {gs : TGs} {γ : DTG} {γs : DTGs} {js ks : List Nat} (hg : SG w false js g γ) (hs : SGs w ks gs γs) : SGs w (js ++ ks) (gCons g gs) (dGCons γ γs) := by
  constructor
  · intro ds ε A B h q
    cases ds with
    | nil => exact q.elim
    | cons d ds => exact hg.mono _ _ _ _ (fun ε1 q => hs.mono _ _ _ _ h q) q
  · intro Z O σ ε L H v d Q X r q
    cases r with
    | nil => exact q.elim
    | cons r rr =>
      refine ⟨_, _, rfl, hg.run Z O σ ε L H _ _ _ X r (hg.mono _ _ _ _ (fun ε1 q σ1 X1 b1 => ?_) q)⟩
      refine hs.run Z O σ1 ε1 L H _ _ _ X1 rr (hs.mono _ _ _ _ (fun ε2 q σ2 X2 b2 => ?_) q)
      exact q σ2 X2 ⟨b2.1.trans b1.1, fun i hi => (b2.2 i fun h => hi (List.mem_append_right _ h)).trans (b1.2 i fun h => hi (List.mem_append_left _ h))⟩
def dGTup (n : Nat) (γs : DTGs)  (d : PyData) (ε : Env) (Q : Env → Prop) : Prop := match d with
  | .tuple ds => ds.length = n ∧ γs ds ε Q
  | _ => False
theorem sg_tup {pk : Bool} {n : Nat} {gs : TGs} {γs : DTGs} {js : List Nat} (hs : SGs w js gs γs) : SG w pk js (gTup K n gs) (dGTup n γs) := by
  constructor
  · intro d ε A B h q
    cases d with
    | tuple ds => exact ⟨q.1, hs.mono _ _ _ _ h q.2⟩
    | _ => exact q.elim
  · intro Z O σ ε L H v d Q X r q
    have solid : DV L v d → gTup K n gs v σ H Q := fun r => by
      cases r with
      | tup h1 h2 => exact ⟨_, _, rfl, (h1.to X.lh).seq, by rw [h2.len]; exact q.1, hs.run Z O σ ε L H _ _ _ X h2 q.2⟩
      | _ => exact q.elim
    cases pk with
    | false => exact solid r
    | true =>
      rcases r with r | ⟨a, xs, ds, rfl, rfl, h1, h2⟩
      · exact solid r
      · exact ⟨_, _, rfl, SqT.of h1, by rw [h2.len]; exact q.1, hs.run Z O σ ε L H _ _ _ X h2 q.2⟩
variable {ta : TE} {f : DTE}
def dAsg (f : DTE) (γ : DTG)  (Δ : DEnds) (ε : Env) : Prop := f ε fun r ε1 => match r.pub with
  | .sh d => γ d ε1 Δ.nx
  | _ => False
def forD (γ : DTG) (p : DTS) (Δ : DEnds) : List PyData → Env → Prop
  | [], ε => Δ.nx ε
  | d :: ds, ε => γ d ε fun ε1 => p { nx := forD γ p Δ ds, rt := Δ.rt, bk := Δ.nx, ct := forD γ p Δ ds } ε1
def dFor (i : DTI) (γ : DTG) (p : DTS)  (Δ : DEnds) (ε : Env) : Prop := i ε fun ds fl ε1 => fl = true ∧ forD γ p Δ ds ε1
/-- what is known of the pinned view may be forgotten -/
theorem Rep.unpin {Z : Zx} {O : Addr → Prop} {σ : L2.St} {ε : Env} {L H P : Hp} (h : Same Z.P P) (ph : w.Φ Z) (x : Rep w { Z with P := P } O L H σ ε) : Rep w Z O L H σ ε :=
  ⟨x.lh, h.trans x.pn, x.ex, x.bo, x.oh, x.len, x.sl, x.di, ph⟩
theorem Rep.pin {Z : Zx} {O : Addr → Prop} {σ : L2.St} {ε : Env} {L H P : Hp} (h0 : Same Z.P P) (h : Same P L) (x : Rep w Z O L H σ ε) : Rep w { Z with P := P } O L H σ ε :=
  ⟨x.lh, h, x.ex, x.bo, x.oh, x.len, x.sl, x.di, w.up _ _ h0 x.ph⟩
theorem forD_mono {pk : Bool} {γ : DTG} {p : DTS} {t : TS} {g : TG} {js : List Nat} (hg : SG w pk js g γ) (hp : SS w t p) {Δ Δ' : DEnds} (l : DEnds.le Δ Δ') : ∀ (ds : List PyData) (ε : Env), forD γ p Δ ds ε → forD γ p Δ' ds ε
  | [], ε, z => l.nx ε z
  | d :: ds, ε, z => hg.mono _ _ _ _ (fun ε1 z => hp.mono { nx := forD γ p Δ ds, rt := Δ.rt, bk := Δ.nx, ct := forD γ p Δ ds } _ ε1 ⟨forD_mono hg hp l ds, l.rt, l.nx, forD_mono hg hp l ds⟩ z) z
theorem ss_for {pk : Bool} {wi : TI} {i : DTI} {g : TG} {γ : DTG} {t : TS} {p : DTS} {js : List Nat} (hi : SI w pk wi i) (hg : SG w pk js g γ) (hp : SS w t p) : SS w (tFor wi g t) (dFor i γ p) := by
  constructor
  · intro Δ Δ' ε l z
    exact hi.mono _ _ _ (fun ds b ε1 z => ⟨z.1, forD_mono hg hp l ds ε1 z.2⟩) z
  · intro Z O σ ε L H D Δ X E z
    refine hi.run Z O σ ε L H _ X (hi.mono _ _ _ (fun ds b ε1 z => ?_) z)
    intro J L1 H1 X1 e1 _ W
    obtain ⟨hb, z⟩ := z
    have W := W hb
    have sP := X1.pn
    refine ⟨fun i m σ H => i + m = ds.length ∧ ∃ O L ε, Rep w { Z with P := L1 } O L H σ ε ∧ forD γ p Δ (ds.drop i) ε, ⟨ds.length, by omega, O, L1, ε1, X1.pin X1.pn (Same.refl _), by rw [List.drop_zero]; exact z⟩, ?_⟩
    rintro i m σ2 H2 ⟨him, O2, L2, ε2, X2, z2⟩
    by_cases hlt : i < ds.length
    · refine .inr ⟨W.go i L2 H2 X2.pn X2.lh hlt, fun σ' H' => ∃ O L ε, Rep w { Z with P := L1 } O L H' σ' ε ∧ forD γ p Δ (ds.drop (i + 1)) ε, fun σ' H' q => ⟨m - 1, by omega, by omega, q⟩, fun x H' y => ?_⟩
      have hd : ds[i]? = some ds[i] := List.getElem?_eq_getElem hlt
      rw [List.drop_eq_getElem_cons hlt] at z2
      obtain ⟨L3, e3, s3, r3⟩ := W.yld i ds[i] L2 H2 x H' X2.pn X2.lh hd y
      have X3 := X2.step e3 s3
      refine hg.run _ O2 σ2 ε2 L3 H' x ds[i] _ X3 r3 (hg.mono _ _ _ _ (fun ε3 z3 σ3 X4 _ => ?_) z2)
      refine hp.run _ O2 σ3 ε3 L3 H' _ { nx := forD γ p Δ (ds.drop (i + 1)), rt := Δ.rt, bk := Δ.nx, ct := forD γ p Δ (ds.drop (i + 1)) } X4 ⟨fun O σ ε L H X z => ⟨O, L, ε, X, z⟩, fun O σ ε L H v r X q z => E.rt O σ ε L H v r (X.unpin sP X1.ph) q z, fun O σ ε L H X z => E.nx O σ ε L H (X.unpin sP X1.ph) z, fun O σ ε L H X z => ⟨O, L, ε, X, z⟩⟩ z3
    · have e : i = ds.length := by omega
      subst e
      rw [List.drop_length] at z2
      exact .inl ⟨W.stop L2 H2 X2.pn X2.lh, E.nx O2 σ2 ε2 L2 H2 (X2.unpin sP X1.ph) z2⟩
def whileN (c : DTT) (p : DTS) (Δ : DEnds) : Nat → Env → Prop
  | 0, _ => False
  | n + 1, ε => c ε fun b ε1 => if b = true then p { nx := whileN c p Δ n, rt := Δ.rt, bk := Δ.nx, ct := whileN c p Δ n } ε1 else Δ.nx ε1
def dWhile (c : DTT) (p : DTS)  (Δ : DEnds) (ε : Env) : Prop := ∃ n, whileN c p Δ n ε
theorem whileN_mono {c : DTT} {p : DTS} {tc : TT} {t : TS} (hc : ST w tc c) (hp : SS w t p) {Δ Δ' : DEnds} (l : DEnds.le Δ Δ') : ∀ (n : Nat) (ε : Env), whileN c p Δ n ε → whileN c p Δ' n ε
  | 0, ε, z => z
  | n + 1, ε, z => by
    refine hc.mono _ _ _ (fun b ε1 z => ?_) z
    cases b with
    | true => exact iteT (hp.mono { nx := whileN c p Δ n, rt := Δ.rt, bk := Δ.nx, ct := whileN c p Δ n } _ ε1 ⟨whileN_mono hc hp l n, l.rt, l.nx, whileN_mono hc hp l n⟩ (by rw [if_pos rfl] at z; exact z))
    | false => exact iteF (l.nx _ (by rw [if_neg Bool.false_ne_true] at z; exact z))
theorem ss_while {c : DTT} {p : DTS} {tc : TT} {t : TS} (hc : ST w tc c) (hp : SS w t p) : SS w (tWhile tc t) (dWhile c p) := by
  constructor
  · rintro Δ Δ' ε l ⟨n, z⟩
    exact ⟨n, whileN_mono hc hp l n ε z⟩
  · rintro Z O σ ε L H D Δ X E ⟨n, z⟩
    refine ⟨fun m σ H => ∃ O L ε, Rep w Z O L H σ ε ∧ whileN c p Δ m ε, ⟨n, O, L, ε, X, z⟩, ?_⟩
    rintro m σ1 H1 ⟨O1, L1, ε1, X1, z1⟩
    cases m with
    | zero => exact z1.elim
    | succ m =>
      refine hc.run Z O1 σ1 ε1 L1 H1 _ X1 (hc.mono _ _ _ (fun b ε2 z2 => ?_) z1)
      intro L2 H2 X2 e2
      cases b with
      | true =>
        rw [if_pos rfl] at z2
        refine iteT ⟨fun σ' H' => ∃ O L ε, Rep w Z O L H' σ' ε ∧ whileN c p Δ m ε, fun σ' H' q => ⟨m, Nat.lt_succ_self m, q⟩, ?_⟩
        exact hp.run Z O1 σ1 ε2 L2 H2 _ { nx := whileN c p Δ m, rt := Δ.rt, bk := Δ.nx, ct := whileN c p Δ m } X2 ⟨fun O σ ε L H X z => ⟨O, L, ε, X, z⟩, E.rt, E.nx, fun O σ ε L H X z => ⟨O, L, ε, X, z⟩⟩ z2
      | false =>
        rw [if_neg Bool.false_ne_true] at z2
        exact iteF (E.nx O1 σ1 ε2 L2 H2 X2 z2)
end
end Lp

namespace Lp
open PySem PySem.Spec PyProof.Rows L2
theorem Rep.exts {w : Wx} {Z : Zx} {O : Addr → Prop} {σ : L2.St} {ε : Env} {L H L' H' : Hp} {c : Nat} (x : Rep w Z O L H σ ε) (e : Ext Z.b L H L' H') (s : Same L' H') (hc : ∀ b, Z.b = some b → Box H' b c) : Rep w Z O L' H' σ ⟨ε.s, c⟩ := by
  refine ⟨s, x.pn.trans e.ll, x.ex.trans e, fun b hb => ?_, fun a h => ⟨e.dom a (x.oh a h).1, (x.oh a h).2⟩, x.len, fun i y hy => ?_, x.di, x.ph⟩
  · obtain ⟨h1, h2, h3⟩ := x.bo b hb
    exact ⟨e.fr b h1 h2.there, hc b hb, h3⟩
  · obtain ⟨o, h1, h2⟩ := x.sl i y hy
    refine ⟨o, h1, ?_⟩
    cases y with
    | un => trivial
    | sh d =>
      obtain ⟨v, e1, e2⟩ := h2
      exact ⟨v, e1, e2.to e.ll⟩
    | ow ds =>
      obtain ⟨a, xs, e1, e2, e3, e4, e5, e6⟩ := h2
      exact ⟨a, xs, e1, e2, e.fr a e3 (by rw [e5]; exact (fun z => nomatch z)), e4, e.hh _ _ e5 (x.nob e4), e6.to e.ll⟩
    | bx => exact h2
    | st S n =>
      obtain ⟨a, e1, e2, e3, e4, e5⟩ := h2
      exact ⟨a, e1, e2, e.fr a e3 (by rw [e5]; exact (fun z => nomatch z)), e4, e.hh _ _ e5 (x.nob e4)⟩
    | raw u => exact h2
    | exn x => obtain ⟨v, e1, e2⟩ := h2; exact ⟨v, e1, e2.to e.ll⟩
    | dco xs =>
      obtain ⟨a, e1, e2, e3, e4, ⟨ob, e5⟩, e6⟩ := h2
      exact ⟨a, e1, e2, e.fr a e3 (by rw [e5]; exact (fun z => nomatch z)), e4, ⟨ob, e.hh _ _ e5 (x.nob e4)⟩, e6.to e.ll⟩
    | sto M =>
      obtain ⟨a, A, e1, e2, e3, e4, e5, e6⟩ := h2
      exact ⟨a, A, e1, e2, e.fr a e3 (by rw [e5]; exact (fun z => nomatch z)), e4, e.hh _ _ e5 (x.nob e4), e6.to e.ll⟩
    | dsh xs => obtain ⟨v, e1, e2⟩ := h2; exact ⟨v, e1, e2.to e.ll⟩
    | gen g => obtain ⟨v, e1, e2⟩ := h2; exact ⟨v, e1, g.mono e.ll e2⟩
abbrev DSp := List SV → Nat → (R → Nat → Prop) → Prop
def MonF (F : DSp) : Prop := ∀ args c (A B : R → Nat → Prop), (∀ r c', A r c' → B r c') → F args c A → F args c B
def CallZ (b : Option Addr) (L H : Hp) (c : Nat) : Prop := Same L H ∧ ∀ a, b = some a → L a = none ∧ Box H a c
def ArgR (b : Option Addr) (L : Hp) (v : V) : SV → Prop
  | .sh d => DV L v d
  | .bx => ∃ a, b = some a ∧ v = .ref a
  | .raw u => v = u
  | .dsh xs => DVd L v xs
  | .gen g => g.ok L v
  | _ => False
inductive ArgsR (b : Option Addr) (L : Hp) : List V → List SV → Prop
  | nil : ArgsR b L [] []
  | cons {v : V} {vs : List V} {x : SV} {xs : List SV} : ArgR b L v x → ArgsR b L vs xs → ArgsR b L (v :: vs) (x :: xs)
def spD (n : Nat) (F : DSp) : Sp := fun vs H Q _ => ∃ (b : Option Addr) (L : Hp) (c : Nat) (args : List SV), vs.length = n ∧ CallZ b L H c ∧ ArgsR b L vs args ∧
  F args c fun r c' => ∀ v L' H', CallZ b L' H' c' → Ext b L H L' H' → VR0 H L' H' v r → Q v H'
def R.arg : R → Option SV
  | .sh d => some (.sh d)
  | .br _ ds => some (.sh (.list ds))
  | .bx => some .bx
  | .raw v => some (.raw v)
  | .dsh xs => some (.dsh xs)
  | .gen g => some (.gen g)
  | _ => none
def argsOf : List R → Option (List SV)
  | [] => some []
  | r :: rs => match r.arg, argsOf rs with
    | some x, some xs => some (x :: xs)
    | _, _ => none
def hasBr : List R → Bool
  | [] => false
  | .br _ _ :: _ => true
  | _ :: rs => hasBr rs
def immR : R → Bool
  | .sh d => imm d
  | .nw ds => imms ds
  | _ => false
def dArgs (F : DSp) (rs : List R) (ε : Env) (Q : R → Env → Prop) : Prop := match argsOf rs with
  | some args => F args ε.c fun r c => match hasBr rs with
    | true => immR r = true ∧ Q r ⟨ε.s, c⟩
    | false => Q r ⟨ε.s, c⟩
  | none => False
theorem dArgs_mono {F : DSp} (hF : MonF F) {rs : List R} {ε : Env} {A B : R → Env → Prop} (h : ∀ r ε, A r ε → B r ε) (q : dArgs F rs ε A) : dArgs F rs ε B := by
  unfold dArgs at q ⊢
  split at q
  · refine hF _ _ _ _ (fun r c q => ?_) q
    split at q
    · exact ⟨q.1, h _ _ q.2⟩
    · exact h _ _ q
  · exact q.elim
section
variable {w : Wx} {Z : Zx} {O : Addr → Prop} {σ : L2.St} {ε : Env} {L H Hs : Hp}
theorem args_plain : ∀ {vs : List V} {rs : List R} {args : List SV}, VRs w Z O σ Hs L H vs rs → argsOf rs = some args → hasBr rs = false → ArgsR Z.b L vs args
  | _, _, _, .nil, e, _ => by cases e; exact .nil
  | _, r :: rs, args, .cons a b, e, h => by
    unfold argsOf at e
    split at e
    · rename_i x xs hx hxs
      cases e
      have h2 : hasBr rs = false := by cases r <;> first | exact h | cases h
      refine .cons ?_ (args_plain b hxs h2)
      cases r with
      | sh d => cases hx; exact a
      | br i ds => cases h
      | bx => cases hx; exact a
      | raw u => cases hx; exact a
      | nw ds => cases hx
      | sr i S n => cases hx
      | exn y => cases hx
      | dnw xs => cases hx
      | dbr i xs => cases hx
      | srt i M => cases hx
      | dsh xs => cases hx; exact a
      | gen g => cases hx; exact a
    · cases e
/-- the lists that slots own and arguments lend -/
def lent (σ : L2.St) (rs : List R) (a : Addr) : Prop := ∃ i ds, R.br i ds ∈ rs ∧ σ[i]? = some (some (.ref a))
theorem args_lent {L2 : Hp} (s : Same L L2) : ∀ {vs : List V} {rs : List R} {args : List SV}, VRs w Z O σ Hs L H vs rs → argsOf rs = some args → (∀ a, lent σ rs a → L2 a = H a) → ArgsR Z.b L2 vs args
  | _, _, _, .nil, e, _ => by cases e; exact .nil
  | _, r :: rs, args, .cons x y, e, h => by
    unfold argsOf at e
    split at e
    · rename_i z zs hz hzs
      cases e
      refine .cons ?_ (args_lent s y hzs fun a ⟨i, ds, h1, h2⟩ => h a ⟨i, ds, List.mem_cons_of_mem _ h1, h2⟩)
      cases r with
      | sh d => cases hz; exact DV.to x s
      | br i ds =>
        cases hz
        obtain ⟨a, xs, rfl, h1, h2, h3, h4, h5, h6⟩ := x
        exact .lst (by rw [h a ⟨i, ds, List.mem_cons_self, h1⟩]; exact h5) (h6.to s)
      | bx => cases hz; exact x
      | raw u => cases hz; exact x
      | nw ds => cases hz
      | sr i S n => cases hz
      | exn y => cases hz
      | dnw xs => cases hz
      | dbr i xs => cases hz
      | srt i M => cases hz
      | dsh xs => cases hz; exact DVd.to s x
      | gen g => cases hz; exact g.mono s x
    · cases e
theorem lent_own : ∀ {vs : List V} {rs : List R} {a : Addr}, VRs w Z O σ Hs L H vs rs → lent σ rs a → O a ∧ Z.H0 a = none ∧ L a = none ∧ ∃ xs, H a = some (.lst xs)
  | _, _, _, .nil, h => by obtain ⟨i, ds, h1, _⟩ := h; cases h1
  | _, r :: rs, a, .cons x y, h => by
    obtain ⟨i, ds, h1, h2⟩ := h
    rcases List.mem_cons.mp h1 with rfl | h1
    · obtain ⟨b, xs, _, g1, g2, g3, g4, g5, g6⟩ := x
      rw [h2] at g1
      cases g1
      exact ⟨g2, g3, g4, xs, g5⟩
    · exact lent_own y ⟨i, ds, h1, h2⟩
open Classical in
theorem run_args {n : Nat} {F : DSp} (hF : MonF F) {vs : List V} {rs : List R} {Q : VK} {E : XK} {L0 H0 : Hp} (X : Rep w Z O L H σ ε) (e : Ext Z.b L0 H0 L H) (r : VRs w Z O σ Hs L H vs rs) (hn : vs.length = n)
    (q : dArgs F rs ε fun r ε' => ∀ v L' H', Rep w Z O L' H' σ ε' → Ext Z.b L0 H0 L' H' → VR w Z O σ H0 L' H' v r → Q v H') : spD n F vs H Q E := by
  unfold dArgs at q
  split at q
  · rename_i args ha
    have cz : ∀ b, Z.b = some b → L b = none ∧ Box H b ε.c := fun b hb => ⟨(X.bo b hb).1, (X.bo b hb).2.1⟩
    cases hb : hasBr rs with
    | false =>
      rw [hb] at q
      refine ⟨Z.b, L, ε.c, args, hn, ⟨X.lh, cz⟩, args_plain r ha hb, hF _ _ _ _ (fun r c q => ?_) q⟩
      intro v L' H' z' e' r'
      exact q v L' H' (X.exts e' z'.1 fun b hb => (z'.2 b hb).2) (e.trans e') ((r'.vr X).back e)
    | true =>
      rw [hb] at q
      let L2 : Hp := fun a => if lent σ rs a then H a else L a
      have h1 : ∀ a, lent σ rs a → L2 a = H a := fun a h => if_pos h
      have h0 : ∀ a, ¬ lent σ rs a → L2 a = L a := fun a h => if_neg h
      have s1 : Same L L2 := fun a o h => by
        by_cases q : lent σ rs a
        · rw [h1 a q]; exact X.lh a o h
        · rw [h0 a q]; exact h
      have s2 : Same L2 H := fun a o h => by
        by_cases q : lent σ rs a
        · rw [h1 a q] at h; exact h
        · rw [h0 a q] at h; exact X.lh a o h
      refine ⟨Z.b, L2, ε.c, args, hn, ⟨s2, fun b hb => ⟨?_, (cz b hb).2⟩⟩, args_lent s1 r ha h1, hF _ _ _ _ (fun u c q => ?_) q⟩
      · rw [h0 b fun h => (X.bo b hb).2.2 (lent_own r h).2.1]; exact (cz b hb).1
      intro v L' H' z' e' r'
      obtain ⟨hi, q⟩ := q
      let L3 : Hp := fun a => if lent σ rs a then none else L' a
      have k1 : ∀ a, lent σ rs a → L3 a = none := fun a h => if_pos h
      have k0 : ∀ a, ¬ lent σ rs a → L3 a = L' a := fun a h => if_neg h
      have s3 : Same L3 H' := fun a o h => by
        by_cases q : lent σ rs a
        · rw [k1 a q] at h; cases h
        · rw [k0 a q] at h; exact z'.1 a o h
      have e3 : Ext Z.b L H L3 H' := by
        refine ⟨fun a o h => ?_, e'.hh, e'.dom, fun a h d => ?_⟩
        · by_cases q : lent σ rs a
          · rw [(lent_own r q).2.2.1] at h; cases h
          · rw [k0 a q]; exact e'.ll a o (s1 a o h)
        · by_cases q : lent σ rs a
          · exact k1 a q
          · rw [k0 a q]; exact e'.fr a (by rw [h0 a q]; exact h) d
      have tups : ∀ a xs, Sol L' a xs → Sol L3 a xs := fun a xs ⟨o, ho, h⟩ => by
        by_cases q : lent σ rs a
        · obtain ⟨_, _, _, ys, hy⟩ := lent_own r q
          have := e'.ll a _ (by rw [h1 a q]; exact hy)
          rw [this] at h; cases h
        · exact ⟨o, ho, by rw [k0 a q]; exact h⟩
      have r3 : VR0 H L3 H' v u := by
        cases u with
        | sh d => exact DV.imm tups d v hi r'
        | nw ds =>
          obtain ⟨a, xs, rfl, g1, g2, g3, g4⟩ := r'
          refine ⟨a, xs, rfl, g1, ?_, g3, DVs.imm tups ds xs hi g4⟩
          by_cases q : lent σ rs a
          · exact k1 a q
          · rw [k0 a q]; exact g2
        | dnw xs => cases hi
        | dsh xs => cases hi
        | gen g => cases hi
        | _ => exact r'.elim
      exact q v L3 H' (X.exts e3 s3 fun b hb => (z'.2 b hb).2) (e.trans e3) ((r3.vr X).back e)
  · exact q.elim
end
section
variable {w : Wx} {K : PySem.W.Frag} {ta te : TE} {f : DTE}
def dCall (F : DSp) (f : DTA)  (ε : Env) (Q : R → Env → Prop) : Prop := f ε fun rs ε1 => dArgs F rs ε1 Q
theorem se_call {n : Nat} {F : DSp} {t : TA} {f : DTA} {E : XK} (hF : MonF F) (hf : SA w n t f) : SE w (tCall (spD n F) [] E t) (dCall F f) := by
  constructor
  · intro ε A B h q
    exact hf.mono _ _ _ (fun rs ε1 q => dArgs_mono hF h q) q
  · intro Z O σ ε L H Q X q
    refine hf.run Z O σ ε L H _ X (hf.mono _ _ _ (fun rs ε1 q => ?_) q)
    intro vs L1 H1 X1 e1 r1 hl np
    rw [List.append_nil]
    exact run_args hF X1 e1 r1 (by rw [r1.len, hl]) q
def dCallR (F : DSp) (f : DTA)  (ε : Env) (Q : R → Env → Prop) : Prop := f ε fun rs ε1 => dArgs F rs.reverse ε1 Q
theorem VRs.snoc {Z : Zx} {O : Addr → Prop} {σ : L2.St} {Hs L H : Hp} {v : V} {r : R} (x : VR w Z O σ Hs L H v r) : ∀ {vs : List V} {rs : List R}, VRs w Z O σ Hs L H vs rs → VRs w Z O σ Hs L H (vs ++ [v]) (rs ++ [r])
  | _, _, .nil => .cons x .nil
  | _, _, .cons a b => .cons a (VRs.snoc x b)
def wipeE (ε : Env) : List Nat → List SV
  | [] => ε.s
  | v :: vs => (wipeE ε vs).set v .un
theorem wipe_get (σ : L2.St) (i : Nat) : ∀ vs : List Nat, (wipe σ vs)[i]? = if i ∈ vs then (if i < σ.length then some none else none) else σ[i]?
  | [] => by rw [if_neg List.not_mem_nil]; rfl
  | v :: vs => by
    unfold wipe
    rw [List.getElem?_set, wipe_length, wipe_get σ i vs]
    by_cases e : v = i
    · subst e
      rw [if_pos rfl, if_pos List.mem_cons_self]
    · rw [if_neg e]
      by_cases m : i ∈ vs
      · rw [if_pos m, if_pos (List.mem_cons_of_mem _ m)]
      · rw [if_neg m, if_neg (fun h => (List.mem_cons.mp h).elim (fun q => e q.symm) m)]
theorem wipe_but {σ σ' : L2.St} {vs : List Nat} (h : But vs (wipe σ vs) σ') : wipe σ' vs = wipe σ vs := by
  have hl : σ'.length = σ.length := by rw [h.1, wipe_length]
  refine List.ext_getElem? fun i => ?_
  rw [wipe_get, wipe_get]
  by_cases m : i ∈ vs
  · rw [if_pos m, if_pos m, hl]
  · rw [if_neg m, if_neg m, h.2 i m, wipe_get, if_neg m]
theorem wipeE_len (ε : Env) : ∀ vs : List Nat, (wipeE ε vs).length = ε.s.length
  | [] => rfl
  | v :: vs => by unfold wipeE; rw [List.length_set, wipeE_len ε vs]
theorem wipeE_get (ε : Env) (i : Nat) : ∀ (vs : List Nat) (x : SV), (wipeE ε vs)[i]? = some x → (i ∈ vs ∧ x = .un) ∨ (i ∉ vs ∧ ε.s[i]? = some x)
  | [], x, h => .inr ⟨List.not_mem_nil, h⟩
  | v :: vs, x, h => by
    unfold wipeE at h
    rcases get_set h with ⟨rfl, rfl, _⟩ | ⟨ne, h⟩
    · exact .inl ⟨List.mem_cons_self, rfl⟩
    · rcases wipeE_get ε i vs x h with ⟨m, e⟩ | ⟨m, e⟩
      · exact .inl ⟨List.mem_cons_of_mem _ m, e⟩
      · exact .inr ⟨fun q => (List.mem_cons.mp q).elim (fun z => ne z.symm) m, e⟩
theorem Rep.wipe {Z : Zx} {O : Addr → Prop} {σ : L2.St} {ε : Env} {L H : Hp} (x : Rep w Z O L H σ ε) (vs : List Nat) : Rep w Z O L H (L2.wipe σ vs) ⟨wipeE ε vs, ε.c⟩ := by
  refine ⟨x.lh, x.pn, x.ex, x.bo, x.oh, ?_, fun i y hy => ?_, fun i j y z a hij hy hz oy oz hi hj => ?_, x.ph⟩
  · show (L2.wipe σ vs).length = (wipeE ε vs).length
    rw [wipe_length, wipeE_len]; exact x.len
  · have hl : i < σ.length := by
      have := (List.getElem?_eq_some_iff.mp hy).1
      rw [wipeE_len] at this
      rw [x.len]; exact this
    rcases wipeE_get ε i vs y hy with ⟨m, rfl⟩ | ⟨m, e⟩
    · exact ⟨none, by rw [wipe_get, if_pos m, if_pos hl], trivial⟩
    · obtain ⟨o, h1, h2⟩ := x.sl i y e
      exact ⟨o, by rw [wipe_get, if_neg m]; exact h1, h2⟩
  · rcases wipeE_get ε i vs y hy with ⟨m, rfl⟩ | ⟨m, e⟩
    · cases oy
    · rcases wipeE_get ε j vs z hz with ⟨m', rfl⟩ | ⟨m', e'⟩
      · cases oz
      · rw [wipe_get, if_neg m] at hi
        rw [wipe_get, if_neg m'] at hj
        exact x.di i j y z a hij e e' oy oz hi hj
def lcD (γ : DTG) (c : DTT) (f : DTE) (vs : List Nat) (s : List SV) (Q : R → Env → Prop) : List PyData → List PyData → Nat → Prop
  | [], acc, n => Q (.nw acc) ⟨s, n⟩
  | d :: ds, acc, n => γ d ⟨wipeE ⟨s, n⟩ vs, n⟩ fun ε1 => c ε1 fun b ε2 => if b = true then f ε2 fun r ε3 => match r.pub with
      | .sh e => acc.length < sizeLine ∧ lcD γ c f vs s Q ds (acc ++ [e]) ε3.c
      | _ => False
    else lcD γ c f vs s Q ds acc ε2.c
def dLc (i : DTI) (γ : DTG) (c : DTT) (f : DTE) (vs : List Nat)  (ε : Env) (Q : R → Env → Prop) : Prop := i ε fun ds _ ε1 => lcD γ c f vs ε1.s Q ds [] ε1.c
theorem lcD_mono {pk : Bool} {g : TG} {γ : DTG} {tt : TT} {c : DTT} {js vs : List Nat} {s : List SV} {A B : R → Env → Prop} (hg : SG w pk js g γ) (hc : ST w tt c) (hf : SE w te f) (h : ∀ r ε, A r ε → B r ε) : ∀ (ds acc : List PyData) (n : Nat), lcD γ c f vs s A ds acc n → lcD γ c f vs s B ds acc n
  | [], acc, n, z => h _ _ z
  | d :: ds, acc, n, z => by
    refine hg.mono _ _ _ _ (fun ε1 z => hc.mono _ _ _ (fun b ε2 z => ?_) z) z
    cases b with
    | true =>
      rw [if_pos rfl] at z ⊢
      refine hf.mono _ _ _ (fun r ε3 z => ?_) z
      split at z
      · exact ⟨z.1, lcD_mono hg hc hf h ds _ _ z.2⟩
      · exact z.elim
    | false =>
      rw [if_neg Bool.false_ne_true] at z ⊢
      exact lcD_mono hg hc hf h ds _ _ z
theorem se_lc {pk : Bool} {wi : TI} {i : DTI} {g : TG} {γ : DTG} {tt : TT} {c : DTT} {vs : List Nat} (hi : SI w pk wi i) (hg : SG w pk vs g γ) (hc : ST w tt c) (hf : SE w te f) : SE w (tLc wi g tt te vs) (dLc i γ c f vs) := by
  constructor
  · intro ε A B h z
    exact hi.mono _ _ _ (fun ds b ε1 z => lcD_mono hg hc hf h ds [] _ z) z
  · intro Z O σ ε L H Q X z
    refine hi.run Z O σ ε L H _ X (hi.mono _ _ _ (fun ds b ε1 z => ?_) z)
    intro J L1 H1 X1 e1 W _ D nD
    have eD : Ext none L1 H1 L1 (upd H1 D (.lst [])) := Ext.own nD
    have X1' := X1.step eD (same_own X1.lh (X1.lh.free nD))
    have n0 : Z.H0 D = none := X1.ex.free nD
    have nO : ¬ O D := fun o => (X1.oh D o).1 nD
    have bD : Z.b ≠ some D := X1.nob n0
    refine ⟨fun k m H2 => k + m = ds.length ∧ ∃ L2 n acc xs, Rep w Z O L2 H2 σ ⟨ε1.s, n⟩ ∧ Ext Z.b L1 H1 L2 H2 ∧ H2 D = some (.lst xs) ∧ DVs L2 xs acc ∧ L2 D = none ∧ lcD γ c f vs ε1.s (fun r ε' => ∀ v L' H', Rep w Z O L' H' σ ε' → Ext Z.b L H L' H' → VR w Z O σ H L' H' v r → Q v H') (ds.drop k) acc n,
      ⟨ds.length, by omega, L1, ε1.c, [], [], X1', eD.any, upd_same, .nil, X1.lh.free nD, by rw [List.drop_zero]; exact z⟩, ?_⟩
    rintro k m H2 ⟨hkm, L2, n, acc, xs, X2, e2, hD, rD, lD, z2⟩
    have e2' := e2
    by_cases hlt : k < ds.length
    · refine .inr ⟨W.go k L2 H2 e2' X2.lh hlt, fun H' => ∃ L2 n acc xs, Rep w Z O L2 H' σ ⟨ε1.s, n⟩ ∧ Ext Z.b L1 H1 L2 H' ∧ H' D = some (.lst xs) ∧ DVs L2 xs acc ∧ L2 D = none ∧ lcD γ c f vs ε1.s (fun r ε' => ∀ v L' H', Rep w Z O L' H' σ ε' → Ext Z.b L H L' H' → VR w Z O σ H L' H' v r → Q v H') (ds.drop (k + 1)) acc n,
        fun H' q => ⟨m - 1, by omega, by omega, q⟩, fun x H' y => ?_⟩
      have hd : ds[k]? = some ds[k] := List.getElem?_eq_getElem hlt
      rw [List.drop_eq_getElem_cons hlt] at z2
      obtain ⟨L3, e3, s3, r3⟩ := W.yld k ds[k] L2 H2 x H' e2' X2.lh hd y
      have X3 := X2.step e3 s3
      have hD3 := e3.hh D _ hD (fun z => nomatch z)
      have lD3 : L3 D = none := e3.fr D lD (by rw [hD]; exact (fun z => nomatch z))
      refine hg.run Z O _ _ L3 H' x ds[k] _ (X3.wipe vs) r3 (hg.mono _ _ _ _ (fun ε3 z3 σ3 X4 b3 => ⟨wipe_but b3, ?_⟩) z2)
      refine hc.run Z O σ3 ε3 L3 H' _ X4 (hc.mono _ _ _ (fun b ε4 z4 => ?_) z3)
      intro L5 H5 X5 e5
      have hD5 := e5.hh D _ hD3 bD
      have lD5 : L5 D = none := e5.fr D lD3 (by rw [hD3]; exact (fun z => nomatch z))
      have e35 := (e3.any (b := Z.b)).trans e5
      cases b with
      | true =>
        rw [if_pos rfl] at z4 ⊢
        refine hf.run Z O σ3 ε4 L5 H5 _ X5 (hf.mono _ _ _ (fun r ε6 z6 => ?_) z4)
        intro v L6 H6 X6 e6 r6
        split at z6
        · rename_i d' hd'
          obtain ⟨L7, X7, e7, r7⟩ := publ X6 e6 r6
          rw [hd'] at r7
          have hD6 := e7.hh D _ hD5 bD
          have lD7 : L7 D = none := e7.fr D lD5 (by rw [hD5]; exact (fun z => nomatch z))
          have et := e35.trans e7
          have rD7 : DVs L7 xs acc := rD.to et.ll
          have X8 : Rep w Z O L7 H6 σ ⟨ε1.s, ε6.c⟩ := X2.exts et X7.lh fun b hb => (X7.bo b hb).2.1
          refine ⟨xs, hD6, by rw [rD7.len]; exact z6.1, L7, ε6.c, acc ++ [d'], xs ++ [v], ?_, ?_, upd_same, rD7.app (.one r7), lD7, z6.2⟩
          · refine ⟨same_own X8.lh lD7, X8.pn, ⟨X8.ex.ll, fun a o h nb => ?_, fun a h => ?_, X8.ex.fr⟩, fun b hb => ?_, fun a h => ⟨?_, (X8.oh a h).2⟩, X8.len, fun i y hy => ?_, X8.di, X8.ph⟩
            · rw [upd_ne (ne_of_none h n0)]; exact X8.ex.hh a o h nb
            · by_cases q : a = D
              · rw [q, upd_same]; exact (fun z => nomatch z)
              · rw [upd_ne q]; exact X8.ex.dom a h
            · obtain ⟨q1, q2, q3⟩ := X8.bo b hb
              exact ⟨q1, q2.keep (upd_ne (ne_at q3 n0)), q3⟩
            · rw [upd_ne (fun q => nO (by rw [← q]; exact h))]; exact (X8.oh a h).1
            · obtain ⟨o, q1, q2⟩ := X8.sl i y hy
              refine ⟨o, q1, ?_⟩
              cases y with
              | ow ds =>
                obtain ⟨a, ys, g1, g2, g3, g4, g5, g6⟩ := q2
                exact ⟨a, ys, g1, g2, g3, g4, by rw [upd_ne (fun q => nO (by rw [← q]; exact g2))]; exact g5, g6⟩
              | st S n =>
                obtain ⟨a, g1, g2, g3, g4, g5⟩ := q2
                exact ⟨a, g1, g2, g3, g4, by rw [upd_ne (fun q => nO (by rw [← q]; exact g2))]; exact g5⟩
              | dco xs =>
                obtain ⟨a, g1, g2, g3, g4, ⟨ob, g5⟩, g6⟩ := q2
                exact ⟨a, g1, g2, g3, g4, ⟨ob, by rw [upd_ne (fun q => nO (by rw [← q]; exact g2))]; exact g5⟩, g6⟩
              | sto M =>
                obtain ⟨a, A, g1, g2, g3, g4, g5, g6⟩ := q2
                exact ⟨a, A, g1, g2, g3, g4, by rw [upd_ne (fun q => nO (by rw [← q]; exact g2))]; exact g5, g6⟩
              | _ => exact q2
          · have e27 := e2.trans et
            refine ⟨e27.ll, fun a o h nb => ?_, fun a h => ?_, e27.fr⟩
            · rw [upd_ne (ne_of_none h nD)]; exact e27.hh a o h nb
            · by_cases q : a = D
              · rw [q, upd_same]; exact (fun z => nomatch z)
              · rw [upd_ne q]; exact e27.dom a h
        · exact z6.elim
      | false =>
        rw [if_neg Bool.false_ne_true] at z4 ⊢
        have X8 : Rep w Z O L5 H5 σ ⟨ε1.s, ε4.c⟩ := X2.exts e35 X5.lh fun b hb => (X5.bo b hb).2.1
        exact ⟨L5, ε4.c, acc, xs, X8, e2.trans e35, hD5, rD.to e35.ll, lD5, z4⟩
    · have e : k = ds.length := by omega
      subst e
      rw [List.drop_length] at z2
      refine .inl ⟨W.stop L2 H2 e2' X2.lh, z2 _ L2 H2 X2 (e1.trans e2') ⟨D, xs, rfl, e1.free nD, nO, n0, lD, hD, rD⟩⟩
def env0 (args : List SV) (k : Nat) (c : Nat) : Env := ⟨args ++ List.replicate k .un, c⟩
def defF (k : Nat) (p : DTS) (args : List SV) (c : Nat) (Q : R → Nat → Prop) : Prop := p { nx := fun ε => Q (.sh .none) ε.c, rt := fun r ε => Q r ε.c } (env0 args k c)
theorem ArgsR.len {b : Option Addr} {L : Hp} : ∀ {vs : List V} {xs : List SV}, ArgsR b L vs xs → vs.length = xs.length
  | _, _, .nil => rfl
  | _, _, .cons _ r => by rw [List.length_cons, List.length_cons, r.len]
theorem ArgsR.get {b : Option Addr} {L : Hp} : ∀ {vs : List V} {xs : List SV} {i : Nat} {x : SV}, ArgsR b L vs xs → xs[i]? = some x → ∃ v, vs[i]? = some v ∧ ArgR b L v x
  | _, _, _, _, .nil, e => by simp at e
  | _, _, 0, _, .cons a _, e => by simp at e; subst e; exact ⟨_, rfl, a⟩
  | _, _, i + 1, x, .cons _ r, e => by
    obtain ⟨v, h1, h2⟩ := ArgsR.get (i := i) (x := x) r (by simpa using e)
    exact ⟨v, by simpa using h1, h2⟩
theorem rep_start {N : List Str} {b : Option Addr} {L H : Hp} {c k : Nat} {vs : List V} {args : List SV} (z : CallZ b L H c) (a : ArgsR b L vs args) (hk : N.length = vs.length + k) (ph : w.Φ ⟨b, L, H, fun _ => none⟩) : Rep w ⟨b, L, H, fun _ => none⟩ (fun _ => False) L H (start N vs) (env0 args k c) := by
  have hl := a.len
  have un : ∀ (i : Nat) (x : SV), (env0 args k c).s[i]? = some x → (∃ v, vs[i]? = some v ∧ ArgR b L v x) ∨ (vs.length ≤ i ∧ x = .un) := by
    intro i x hx
    have hx : (args ++ List.replicate k SV.un)[i]? = some x := hx
    by_cases hi : i < args.length
    · rw [List.getElem?_append_left hi] at hx
      exact .inl (a.get hx)
    · rw [List.getElem?_append_right (by omega)] at hx
      have := List.mem_of_getElem? hx
      exact .inr ⟨by omega, List.eq_of_mem_replicate this⟩
  have nown : ∀ (i : Nat) (x : SV), (env0 args k c).s[i]? = some x → Own x = true → False := by
    intro i x hx ho
    rcases un i x hx with ⟨v, _, r⟩ | ⟨_, rfl⟩
    · cases x with
      | ow ds => exact r
      | st S n => exact r
      | dco xs => exact r
      | sto M => exact r
      | _ => cases ho
    · cases ho
  refine ⟨z.1, (fun _ _ h => nomatch h), Ext.refl _ _ _, fun d hd => ⟨(z.2 d hd).1, (z.2 d hd).2, (z.2 d hd).2.there⟩, fun _ h => h.elim, ?_, fun i x hx => ?_, fun i j x y d _ hx _ ox => (nown i x hx ox).elim, ph⟩
  · show (start N vs).length = (args ++ List.replicate k SV.un).length
    unfold L2.start
    rw [List.length_append, List.length_map, List.length_replicate, List.length_append, List.length_replicate]
    omega
  · have hi : i < vs.length + k := by
      have := (List.getElem?_eq_some_iff.mp hx).1
      have e : (env0 args k c).s.length = args.length + k := by
        show (args ++ List.replicate k SV.un).length = _
        rw [List.length_append, List.length_replicate]
      omega
    rcases un i x hx with ⟨v, h1, r⟩ | ⟨h1, rfl⟩
    · have hv : i < vs.length := (List.getElem?_eq_some_iff.mp h1).1
      refine ⟨some v, ?_, ?_⟩
      · unfold L2.start
        rw [List.getElem?_append_left (by rw [List.length_map]; exact hv), List.getElem?_map, h1]; rfl
      · cases x with
        | sh d => exact ⟨v, rfl, r⟩
        | bx =>
          obtain ⟨d, h2, rfl⟩ := r
          exact ⟨d, h2, rfl⟩
        | raw u =>
          cases (show v = u from r)
          rfl
        | dsh xs => exact ⟨v, rfl, r⟩
        | gen g => exact ⟨v, rfl, r⟩
        | _ => exact r.elim
    · refine ⟨none, ?_, trivial⟩
      unfold L2.start
      rw [List.getElem?_append_right (by rw [List.length_map]; exact h1), List.getElem?_replicate, if_pos (by rw [List.length_map]; omega)]
end
section
variable {P : Program} {w : World} {K : PySem.W.Frag} {mg : Str → Option Value} {base : Heap}
theorem run_def {N ps : List Str} {t : TS} {p : DTS} {k : Nat} (hp : SS (W0 w) t p) (hk : N.length = ps.length + k) {vs : List V} {H : Hp} {Q : VK} {E : XK} (h : spD ps.length (defF k p) vs H Q E) : t { nx := fun _ H' => Q .non H', rt := Q } (start N vs) H := by
  obtain ⟨b, L, c, args, hn, z, a, q⟩ := h
  refine hp.run _ _ _ _ L H _ _ (rep_start (w := W0 w) z a (by omega) trivial) ?_ q
  refine ⟨fun O σ ε L' H' X q => ?_, fun O σ ε L' H' v r X hr q => ?_, fun O σ ε L' H' X q => q.elim, fun O σ ε L' H' X q => q.elim⟩
  · exact q .non L' H' ⟨X.lh, fun a ha => ⟨(X.bo a ha).1, (X.bo a ha).2.1⟩⟩ X.ex DV.non
  · exact q v L' H' ⟨X.lh, fun a ha => ⟨(X.bo a ha).1, (X.bo a ha).2.1⟩⟩ X.ex hr
theorem spD_len {n : Nat} {F : DSp} {vs : List V} {H : Hp} {Q : VK} {E : XK} (h : spD n F vs H Q E) : vs.length = n := by
  obtain ⟨b, L, c, args, hn, _⟩ := h
  exact hn
theorem spD_imp {n : Nat} {F G : DSp} (h : ∀ args c Q, F args c Q → G args c Q) {vs : List V} {H : Hp} {Q : VK} {E : XK} (x : spD n F vs H Q E) : spD n G vs H Q E := by
  obtain ⟨b, L, c, args, hn, z, a, q⟩ := x
  exact ⟨b, L, c, args, hn, z, a, h _ _ _ q⟩
/-- a def by its data -/
theorem okD {x qual : Str} {st : Stmt} {f : Addr} {fd : FuncData} {N ps : List Str} {k j : Nat} {p : DTS} {F : DSp} (G : Fun K x qual st f fd) (S : FnScope N ps (defScope st)) (hj : N.length = ps.length + j)
    (body : ∀ (cdv : Value) (A : Around) (outer : List PySem.Env) (s : Shared) (H : Hp) (E : XK), Room k (A.deeper (envOfC qual (defScope st) s.heap.objs.size f cdv)) → ∃ t, PSs (cxOf CX0 P w K mg base N qual (defScope st) f cdv A outer s H E).nox (defBody st) t ∧ SS (W0 w) t p)
    (h : ∀ args c Q, F args c Q → defF j p args c Q) : FnOk P w K mg base CX0 (k + 1) f fd ps (spD ps.length F) := by
  refine G.ok S (fun vs H Q E h => spD_len h) fun cdv A outer s H vs Q E hr q => ?_
  obtain ⟨t, ht, hs⟩ := body cdv A outer s H E hr
  exact ⟨t, ht, run_def hs hj (spD_imp h q)⟩
end
end Lp

namespace Lp
open PySem PySem.Spec PyProof.Rows L2
theorem op_or {X : Cx} {f : Value → Value → Sem Value} {r r' : R2} (h : OpR X f r) (h' : OpR X f r') : OpR X f (fun x y H Q => r x y H Q ∨ r' x y H Q) :=
  fun pins s σ H x y v u Q I rx ry q => q.elim (h pins s σ H x y v u Q I rx ry) (h' pins s σ H x y v u Q I rx ry)
/-- ints in, an int out -/
def φI (h : Int → Int → Int)  (x y : PyData) (Q : R → Prop) : Prop := match x, y with
  | .int i, .int j => Q (.sh (.int (h i j)))
  | _, _ => False
def φB (h : Int → Int → Bool)  (x y : PyData) (Q : R → Prop) : Prop := match x, y with
  | .int i, .int j => Q (.sh (.bool (h i j)))
  | _, _ => False
def φC (C : Int → Int → Prop) (h : Int → Int → Int)  (x y : PyData) (Q : R → Prop) : Prop := match x, y with
  | .int i, .int j => C i j ∧ Q (.sh (.int (h i j)))
  | _, _ => False
theorem r2_I {h : Int → Int → Int} : R2K (rI0 fun i j => .int (h i j)) (φI h) := by
  constructor
  · intro x y A B hAB q
    unfold φI at q ⊢
    split at q
    · exact hAB _ q
    · exact q.elim
  · intro L H x y dx dy Q s hx hy q
    unfold φI at q
    split at q
    · exact ⟨_, _, hx.int, hy.int, q _ L H (Ext.refl _ _ _) s (.int _)⟩
    · exact q.elim
theorem r2_B {h : Int → Int → Bool} : R2K (rI0 fun i j => .bl (h i j)) (φB h) := by
  constructor
  · intro x y A B hAB q
    unfold φB at q ⊢
    split at q
    · exact hAB _ q
    · exact q.elim
  · intro L H x y dx dy Q s hx hy q
    unfold φB at q
    split at q
    · exact ⟨_, _, hx.int, hy.int, q _ L H (Ext.refl _ _ _) s (.bl _)⟩
    · exact q.elim
theorem r2_C {C : Int → Int → Prop} {h : Int → Int → Int} : R2K (rI C fun i j => .int (h i j)) (φC C h) := by
  constructor
  · intro x y A B hAB q
    unfold φC at q ⊢
    split at q
    · exact ⟨q.1, hAB _ q.2⟩
    · exact q.elim
  · intro L H x y dx dy Q s hx hy q
    unfold φC at q
    split at q
    · exact ⟨_, _, hx.int, hy.int, q.1, q.2 _ L H (Ext.refl _ _ _) s (.int _)⟩
    · exact q.elim
def φNeg (x : PyData) (Q : R → Prop) : Prop := match x with
  | .int i => Q (.sh (.int (-i)))
  | _ => False
theorem ru_neg : RUK (rU fun i => .int (-i)) φNeg := by
  constructor
  · intro x A B hAB q
    cases x <;> first | exact hAB _ q | exact q.elim
  · intro L H x dx Q s hx q
    cases dx <;> first | exact ⟨_, hx.int, q _ L H (Ext.refl _ _ _) s (.int _)⟩ | exact q.elim
abbrev rAdd (K : PySem.W.Frag) : R2 := fun x y H Q => rI0 (fun i j => .int (i + j)) x y H Q ∨ (rCat x y H Q ∨ rCatS K x y H Q)
theorem op_addA {X : Cx} : OpR X (binaryOp .Add) (rAdd X.K) := op_or op_add (op_or op_cat op_catS)
def φAdd  (x y : PyData) (Q : R → Prop) : Prop := match x, y with
  | .int i, .int j => Q (.sh (.int (i + j)))
  | .list a, .list b => a.length + b.length ≤ sizeLine ∧ Q (.nw (a ++ b))
  | .tuple a, .tuple b => a.length + b.length ≤ sizeLine ∧ Q (.sh (.tuple (a ++ b)))
  | _, _ => False
theorem DVs.nil_iff {H : Hp} {vs : List V} {ds : List PyData} (h : DVs H vs ds) : vs = [] ↔ ds = [] := by
  cases h with
  | nil => exact ⟨fun _ => rfl, fun _ => rfl⟩
  | cons _ _ => exact ⟨(fun z => nomatch z), (fun z => nomatch z)⟩
theorem r2_add {K : PySem.W.Frag} : R2K (rAdd K) φAdd := by
  constructor
  · intro x y A B hAB q
    unfold φAdd at q ⊢
    split at q
    · exact hAB _ q
    · exact ⟨q.1, hAB _ q.2⟩
    · exact ⟨q.1, hAB _ q.2⟩
    · exact q.elim
  · intro L H x y dx dy Q s hx hy q
    unfold φAdd at q
    split at q
    · exact .inl ⟨_, _, hx.int, hy.int, q _ L H (Ext.refl _ _ _) s (.int _)⟩
    · obtain ⟨a, xs, rfl, h1, h2⟩ := hx.lst s
      obtain ⟨b, ys, rfl, h3, h4⟩ := hy.lst s
      refine .inr (.inl ⟨a, b, xs, ys, rfl, rfl, h1, h3, by rw [h2.len, h4.len]; exact q.1, fun p np => ?_⟩)
      exact q.2 _ L _ (Ext.own np) (same_own s (s.free np)) ⟨p, _, rfl, np, s.free np, upd_same, h2.app h4⟩
    · obtain ⟨a, xs, rfl, h1, h2⟩ := hx.tup
      obtain ⟨b, ys, rfl, h3, h4⟩ := hy.tup
      refine .inr (.inr ⟨a, b, xs, ys, rfl, rfl, (h1.to s).seq, (h3.to s).seq, by rw [h2.len, h4.len]; exact q.1, fun e => ?_, fun e => ?_, fun p o np no => ?_⟩)
      · have e2 := h2.nil_iff.mp e
        rw [e2, List.nil_append] at q
        exact q.2 _ L H (Ext.refl _ _ _) s (.tup h3 h4)
      · have e2 := h4.nil_iff.mp e
        rw [e2, List.append_nil] at q
        exact q.2 _ L H (Ext.refl _ _ _) s (.tup h1 h2)
      · have e1 : Ext none L H (upd L p (.frz o (.tup (xs ++ ys)))) (upd H p (.frz o (.tup (xs ++ ys)))) := Ext.new s np
        exact q.2 _ _ _ e1 (same_both s) (.tup ⟨o, no, upd_same⟩ ((h2.app h4).to e1.ll))
    · exact q.elim
abbrev rMulA : R2 := fun x y H Q => rI CMulW (fun i j => .int (i * j)) x y H Q ∨ rRep x y H Q
theorem op_mulA {X : Cx} : OpR X (binaryOp .Mult) rMulA := op_or op_mulW op_rep
def φMul  (x y : PyData) (Q : R → Prop) : Prop := match x, y with
  | .int i, .int j => CMulW i j ∧ Q (.sh (.int (i * j)))
  | .list a, .int k => (-(2 ^ 63) ≤ k ∧ k < 2 ^ 63 ∧ a.length * k.toNat ≤ sizeLine) ∧ Q (.nw (List.replicate k.toNat a).flatten)
  | _, _ => False
theorem DVs.rep {H : Hp} {vs : List V} {ds : List PyData} (h : DVs H vs ds) : ∀ n : Nat, DVs H (List.replicate n vs).flatten (List.replicate n ds).flatten
  | 0 => .nil
  | n + 1 => by rw [List.replicate_succ, List.replicate_succ, List.flatten_cons, List.flatten_cons]; exact h.app (h.rep n)
theorem r2_mul : R2K rMulA φMul := by
  constructor
  · intro x y A B hAB q
    unfold φMul at q ⊢
    split at q
    · exact ⟨q.1, hAB _ q.2⟩
    · exact ⟨q.1, hAB _ q.2⟩
    · exact q.elim
  · intro L H x y dx dy Q s hx hy q
    unfold φMul at q
    split at q
    · exact .inl ⟨_, _, hx.int, hy.int, q.1, q.2 _ L H (Ext.refl _ _ _) s (.int _)⟩
    · obtain ⟨a, xs, rfl, h1, h2⟩ := hx.lst s
      refine .inr ⟨a, _, xs, rfl, hy.int, h1, q.1.1, q.1.2.1, by rw [h2.len]; exact q.1.2.2, fun p np => ?_⟩
      exact q.2 _ L _ (Ext.own np) (same_own s (s.free np)) ⟨p, _, rfl, np, s.free np, upd_same, h2.rep _⟩
    · exact q.elim
def PyData.its : PyData → Option (List PyData)
  | .list ds => some ds
  | .tuple ds => some ds
  | _ => none
def φIx  (x y : PyData) (Q : R → Prop) : Prop := match PyData.its x, y with
  | some ds, .int i => ∃ d, atI ds i = some d ∧ Q (.sh d)
  | _, _ => False
theorem atI_dv {H : Hp} {vs : List V} {ds : List PyData} {i : Int} {d : PyData} (h : DVs H vs ds) (e : atI ds i = some d) : ∃ v, atI vs i = some v ∧ DV H v d := by
  unfold atI at e ⊢
  rw [← h.len] at e
  cases hx : ixN vs.length i with
  | none => rw [hx] at e; cases e
  | some j =>
    rw [hx] at e
    exact h.get e
theorem r2_ix {K : PySem.W.Frag} : R2K (rIx K) φIx := by
  constructor
  · intro x y A B hAB q
    unfold φIx at q ⊢
    split at q
    · obtain ⟨d, h1, h2⟩ := q
      exact ⟨d, h1, hAB _ h2⟩
    · exact q.elim
  · intro L H x y dx dy Q s hx hy q
    unfold φIx at q
    split at q
    · rename_i ds i hd
      obtain ⟨d, e, q⟩ := q
      cases dx with
      | list es =>
        cases hd
        obtain ⟨a, xs, rfl, h1, h2⟩ := hx.lst s
        obtain ⟨v, h3, h4⟩ := atI_dv h2 e
        exact .inl ⟨a, xs, i, v, rfl, hy.int, SqL.of h1, h3, q v L H (Ext.refl _ _ _) s h4⟩
      | tuple es =>
        cases hd
        obtain ⟨a, xs, rfl, h1, h2⟩ := hx.tup
        obtain ⟨v, h3, h4⟩ := atI_dv h2 e
        exact .inr (.inl ⟨a, xs, i, v, rfl, hy.int, (h1.to s).seq, h3, q v L H (Ext.refl _ _ _) s h4⟩)
      | _ => cases hd
    · exact q.elim
def cutD (ds : List PyData) (lo hi : Option Int) : List PyData := (ds.drop (HT.sIx ds.length 0 lo)).take (HT.sIx ds.length ds.length hi - HT.sIx ds.length 0 lo)
def φSl (x : PyData) (l h : Option Int) (Q : R → Prop) : Prop := match x with
  | .list ds => Q (.nw (cutD ds l h))
  | .tuple ds => Q (.sh (.tuple (cutD ds l h)))
  | _ => False
abbrev rEqI : R2 := rI0 fun i j => .bl (decide (i = j))
theorem op_eqI {X : Cx} : OpR X (compareOp .Eq) rEqI := fun pins s σ H x y v u Q I rx ry q => by
  obtain ⟨i, j, rfl, rfl, q⟩ := q
  refine op_eq pins s σ H _ _ v u Q I rx ry ⟨rfl, ?_⟩
  have e : decide (V.int i = V.int j) = decide (i = j) := by simp
  rw [e]; exact q
abbrev rNeI : R2 := rI0 fun i j => .bl (!decide (i = j))
theorem op_neI {X : Cx} : OpR X (compareOp .NotEq) rNeI := fun pins s σ H x y v u Q I rx ry q => by
  obtain ⟨i, j, rfl, rfl, q⟩ := q
  refine op_ne pins s σ H _ _ v u Q I rx ry ⟨rfl, ?_⟩
  have e : decide (V.int i = V.int j) = decide (i = j) := by simp
  rw [e]; exact q
/-- two texts -/
abbrev rEqS : R2 := fun x y H Q => ∃ a b : Str, x = .str a ∧ y = .str b ∧ Q (.bl (decide (a = b))) H
theorem op_eqS {X : Cx} : OpR X (compareOp .Eq) rEqS := fun pins s σ H x y v u Q I rx ry q => by
  obtain ⟨i, j, rfl, rfl, q⟩ := q
  refine op_eq pins s σ H _ _ v u Q I rx ry ⟨rfl, ?_⟩
  have e : decide (V.str i = V.str j) = decide (i = j) := by simp
  rw [e]; exact q
abbrev rNeS : R2 := fun x y H Q => ∃ a b : Str, x = .str a ∧ y = .str b ∧ Q (.bl (!decide (a = b))) H
theorem op_neS {X : Cx} : OpR X (compareOp .NotEq) rNeS := fun pins s σ H x y v u Q I rx ry q => by
  obtain ⟨i, j, rfl, rfl, q⟩ := q
  refine op_ne pins s σ H _ _ v u Q I rx ry ⟨rfl, ?_⟩
  have e : decide (V.str i = V.str j) = decide (i = j) := by simp
  rw [e]; exact q
abbrev rEqA (K : PySem.W.Frag) : R2 := fun x y H Q => rEqI x y H Q ∨ (rEqS x y H Q ∨ rEqD K x y H Q)
abbrev rNeA (K : PySem.W.Frag) : R2 := fun x y H Q => rNeI x y H Q ∨ (rNeS x y H Q ∨ rNeD K x y H Q)
theorem op_eqA {X : Cx} (hu : X.A.units + 64 < cLine) : OpR X (compareOp .Eq) (rEqA X.K) := op_or op_eqI (op_or op_eqS (op_eqD hu))
theorem op_neA {X : Cx} (hu : X.A.units + 64 < cLine) : OpR X (compareOp .NotEq) (rNeA X.K) := op_or op_neI (op_or op_neS (op_neD hu))
def φEq (neg : Bool)  (x y : PyData) (Q : R → Prop) : Prop := match x, y with
  | .int i, .int j => Q (.sh (.bool (if neg then !decide (i = j) else decide (i = j))))
  | .str i, .str j => Q (.sh (.bool (if neg then !decide (i = j) else decide (i = j))))
  | x, y => (SeqAt.shaped x = true ∧ SeqAt.shaped y = true) ∧ Q (.sh (.bool (if neg then !PyData.eqv x y else PyData.eqv x y)))
theorem φEq_mono {neg : Bool} {x y : PyData} {A B : R → Prop} (hAB : ∀ r, A r → B r) (q : φEq neg x y A) : φEq neg x y B := by
  cases x <;> cases y <;> first | exact hAB _ q | exact ⟨q.1, hAB _ q.2⟩
theorem r2_eq {K : PySem.W.Frag} : R2K (rEqA K) (φEq false) := by
  constructor
  · intro x y A B hAB q
    exact φEq_mono hAB q
  · intro L H x y dx dy Q s hx hy q
    unfold φEq at q
    split at q
    · exact .inl ⟨_, _, hx.int, hy.int, q _ L H (Ext.refl _ _ _) s (.bl _)⟩
    · exact .inr (.inl ⟨_, _, hx.str, hy.str, q _ L H (Ext.refl _ _ _) s (.bl _)⟩)
    · exact .inr (.inr ⟨_, _, DV.dp _ _ (sh_nd q.1.1) (hx.dv s), DV.dp _ _ (sh_nd q.1.2) (hy.dv s), q.1.1, q.1.2, q.2 _ L H (Ext.refl _ _ _) s (.bl _)⟩)
theorem r2_ne {K : PySem.W.Frag} : R2K (rNeA K) (φEq true) := by
  constructor
  · intro x y A B hAB q
    exact φEq_mono hAB q
  · intro L H x y dx dy Q s hx hy q
    unfold φEq at q
    split at q
    · exact .inl ⟨_, _, hx.int, hy.int, q _ L H (Ext.refl _ _ _) s (.bl _)⟩
    · exact .inr (.inl ⟨_, _, hx.str, hy.str, q _ L H (Ext.refl _ _ _) s (.bl _)⟩)
    · exact .inr (.inr ⟨_, _, DV.dp _ _ (sh_nd q.1.1) (hx.dv s), DV.dp _ _ (sh_nd q.1.2) (hy.dv s), q.1.1, q.1.2, q.2 _ L H (Ext.refl _ _ _) s (.bl _)⟩)
def isN : PyData → Bool
  | .none => true
  | _ => false
theorem isN_V {L H : Hp} {v : V} {d : PyData} (h : VL L H v d) : decide (v = .non) = isN d := by
  cases d with
  | none => rw [h.non]; rfl
  | bool b => rw [h.bl]; rfl
  | int i => rw [h.int]; rfl
  | str x => rw [h.str]; rfl
  | list ds =>
    rcases h with h | ⟨a, xs, es, e, rfl, _⟩
    · cases h; rfl
    · rfl
  | tuple ds => obtain ⟨a, xs, rfl, _⟩ := h.tup; rfl
  | dict _ =>
    rcases h with h | ⟨a, xs, es, e, rfl, _⟩
    · cases h <;> rfl
    · rfl
def φIsN (neg : Bool)  (x y : PyData) (Q : R → Prop) : Prop := match y with
  | .none => Q (.sh (.bool (if neg then !isN x else isN x)))
  | _ => False
abbrev rIsN : R2 := fun x y H Q => y = .non ∧ Q (.bl (decide (x = .non))) H
theorem r2_isN : R2K rIsN (φIsN false) := by
  constructor
  · intro x y A B hAB q
    cases y <;> first | exact hAB _ q | exact q.elim
  · intro L H x y dx dy Q s hx hy q
    cases dy with
    | none => exact ⟨hy.non, q _ L H (Ext.refl _ _ _) s (by rw [isN_V hx]; exact .bl _)⟩
    | _ => exact q.elim
theorem its_seq {K : PySem.W.Frag} {L H : Hp} {v : V} {d : PyData} {ds : List PyData} (h : VL L H v d) (s : Same L H) (e : PyData.its d = some ds) : ∃ a xs, v = .ref a ∧ (SqL K H a xs ∨ SqT K H a xs) ∧ DVs L xs ds := by
  cases d with
  | list es =>
    cases e
    obtain ⟨a, xs, rfl, h1, h2⟩ := h.lst s
    exact ⟨a, xs, rfl, .inl (SqL.of h1), h2⟩
  | tuple es =>
    cases e
    obtain ⟨a, xs, rfl, h1, h2⟩ := h.tup
    exact ⟨a, xs, rfl, .inr (h1.to s).seq, h2⟩
  | _ => cases e
end Lp

namespace Lp
open PySem PySem.Spec PyProof.Rows L2
abbrev IL (ns : List Int) : List V := ns.map V.int
abbrev dI (ns : List Int) : List PyData := ns.map PyData.int
theorem szl {n : Nat} (h : n < 100000) : n < sizeLine := Nat.lt_of_lt_of_le h (by decide)
theorem IL_get {ns : List Int} {i : Nat} {z : Int} (h : ns[i]? = some z) : (IL ns)[i]? = some (.int z) := by
  rw [List.getElem?_map, h]; rfl
/-- all ints of ns lie in 0 .. n - 1 -/
def Low (n : Nat) (ns : List Int) : Prop := ∀ z ∈ ns, 0 ≤ z ∧ z < (n : Int)
theorem Low.app {n : Nat} {fs : List Int} {z : Int} (h : Low n fs) (h0 : 0 ≤ z) (h1 : z < (n : Int)) : Low n (fs ++ [z]) := fun y hy => by
  rcases List.mem_append.mp hy with h2 | h2
  · exact h y h2
  · rw [List.mem_singleton] at h2
    subst h2; exact ⟨h0, h1⟩
theorem Low.set {n : Nat} {fs : List Int} {z : Int} {i : Nat} (h : Low n fs) (h0 : 0 ≤ z) (h1 : z < (n : Int)) : Low n (fs.set i z) := fun y hy => by
  rcases List.mem_or_eq_of_mem_set hy with h2 | h2
  · exact h y h2
  · subst h2; exact ⟨h0, h1⟩
theorem Low.at {n : Nat} {fs : List Int} {z : Int} {i : Nat} (h : Low n fs) (e : fs[i]? = some z) : 0 ≤ z ∧ z < (n : Int) := h z (List.mem_of_getElem? e)
/-- data that are all ints -/
def intsD : List PyData → Option (List Int)
  | [] => some []
  | .int i :: ds => match intsD ds with
    | some ns => some (i :: ns)
    | none => none
  | _ :: _ => none
def boolsD : List PyData → Option (List Bool)
  | [] => some []
  | .bool i :: ds => match boolsD ds with
    | some ns => some (i :: ns)
    | none => none
  | _ :: _ => none
abbrev dB (bs : List Bool) : List PyData := bs.map PyData.bool
theorem boolsD_dB : ∀ bs : List Bool, boolsD (dB bs) = some bs
  | [] => rfl
  | x :: r => by
    show (match boolsD (dB r) with | some ns => some (x :: ns) | none => none) = _
    rw [boolsD_dB r]
theorem boolsD_is : ∀ {ds : List PyData} {ns : List Bool}, boolsD ds = some ns → ds = dB ns
  | [], _, h => by cases h; rfl
  | .bool i :: ds, ns, h => by
    unfold boolsD at h
    split at h
    · rename_i ms hm
      cases h
      rw [boolsD_is hm]; rfl
    · cases h
  | .none :: _, _, h => by cases h
  | .int _ :: _, _, h => by cases h
  | .str _ :: _, _, h => by cases h
  | .list _ :: _, _, h => by cases h
  | .tuple _ :: _, _, h => by cases h
  | .dict _ :: _, _, h => by cases h
theorem bools_dvs {H : Hp} : ∀ {vs : List V} {ns : List Bool}, DVs H vs (dB ns) → vs = ns.map V.bl
  | _, [], .nil => rfl
  | _, _ :: _, .cons (.bl _) r => by rw [bools_dvs r]; rfl
/-- data that are all tuples of ints, none empty -/
def tupsD : List PyData → Option (List (List Int))
  | [] => some []
  | .tuple es :: ds => match intsD es, tupsD ds with
    | some (n :: ns), some nss => some ((n :: ns) :: nss)
    | _, _ => none
  | _ :: _ => none
abbrev dT (nss : List (List Int)) : List PyData := nss.map fun ns => .tuple (dI ns)
end Lp

namespace Lp
open PySem PySem.Spec PyProof.Rows L2
theorem lex_eq : ∀ xs ys : List Int, HT.lexLt xs ys = false → HT.lexLt ys xs = false → xs = ys
  | [], [], _, _ => rfl
  | [], _ :: _, h, _ => by cases h
  | _ :: _, [], _, h => by cases h
  | x :: xs, y :: ys, h1, h2 => by
    rw [HT.lexLt_cons] at h1 h2
    by_cases e : x = y
    · rw [if_pos e] at h1
      rw [if_pos e.symm] at h2
      rw [e, lex_eq xs ys h1 h2]
    · rw [if_neg e] at h1
      rw [if_neg (Ne.symm e)] at h2
      have := of_decide_eq_false h1
      have := of_decide_eq_false h2
      omega
section
variable {prog : Program} {w : World} {A : Around} {E : Value → Shared → Prop} {s : Shared}
/-- what is asked of the values: tuples of ints, none empty -/
def KeyOk (h : Heap) (k : Value → List Int) (vs : List Value) : Prop := ∀ v ∈ vs, TS.TupInts h v (k v) ∧ k v ≠ []
theorem KeyOk.keeps {h h' : Heap} {k : Value → List Int} {vs : List Value} (x : KeyOk h k vs) (q : ∀ b o, h.get? b = some o → o.cls = .type "tuple" → h'.get? b = some o) : KeyOk h' k vs := fun v hv => ⟨(x v hv).1.keeps q, (x v hv).2⟩
end
section
variable {X : Cx}
end
end Lp

namespace Lp
open PySem PySem.Spec PyProof.Rows L2
end Lp

namespace Lp
open PySem PySem.Spec PyProof.Rows L2
section
variable {prog : Program} {w : World} {A : Around} {E : Value → Shared → Prop} {s : Shared} {l : Addr}
end
section
variable {X : Cx}
end
end Lp

namespace Lp
open PySem PySem.Spec PyProof.Rows L2
def φLen  (ds : List PyData) (Q : R → Prop) : Prop := match ds with
  | [d] => match PyData.its d with
    | some es => Q (.sh (.int es.length))
    | none => False
  | _ => False
abbrev rLen (K : PySem.W.Frag) : List V → Hp → VK → Prop := fun xs H Q => ∃ p ys, xs = [.ref p] ∧ (SqL K H p ys ∨ SqT K H p ys) ∧ Q (.int ys.length) H
theorem rc_len {K : PySem.W.Frag} : RCK (rLen K) φLen := by
  constructor
  · intro x A B hAB q
    unfold φLen at q ⊢
    split at q
    · split at q
      · exact hAB _ q
      · exact q.elim
    · exact q.elim
  · intro L H xs ds Q s hx q
    unfold φLen at q
    split at q
    · split at q
      · rename_i es he
        cases hx with
        | cons h1 h2 =>
          cases h2
          obtain ⟨a, ys, rfl, k1, k2⟩ := its_seq (K := K) h1 s he
          exact ⟨a, ys, rfl, k1, by rw [k2.len]; exact q _ L H (Ext.refl _ _ _) s (.int _)⟩
      · exact q.elim
    · exact q.elim
def φList  (ds : List PyData) (Q : R → Prop) : Prop := match ds with
  | [d] => match PyData.its d with
    | some es => Q (.nw es)
    | none => False
  | _ => False
abbrev rList (K : PySem.W.Frag) : List V → Hp → VK → Prop := fun xs H Q => ∃ p ys, xs = [.ref p] ∧ (SqL K H p ys ∨ SqT K H p ys) ∧ ∀ l, H l = none → Q (.ref l) (upd H l (.lst ys))
theorem rc_list {K : PySem.W.Frag} : RCK (rList K) φList := by
  constructor
  · intro x A B hAB q
    unfold φList at q ⊢
    split at q
    · split at q
      · exact hAB _ q
      · exact q.elim
    · exact q.elim
  · intro L H xs ds Q s hx q
    unfold φList at q
    split at q
    · split at q
      · rename_i es he
        cases hx with
        | cons h1 h2 =>
          cases h2
          obtain ⟨a, ys, rfl, k1, k2⟩ := its_seq (K := K) h1 s he
          exact ⟨a, ys, rfl, k1, fun p np => q _ L _ (Ext.own np) (same_own s (s.free np)) ⟨p, _, rfl, np, s.free np, upd_same, k2⟩⟩
      · exact q.elim
    · exact q.elim
def φTuple  (ds : List PyData) (Q : R → Prop) : Prop := match ds with
  | [d] => match PyData.its d with
    | some es => Q (.sh (.tuple es))
    | none => False
  | _ => False
theorem rc_tuple {K : PySem.W.Frag} : RCK (rTuple K) φTuple := by
  constructor
  · intro x A B hAB q
    unfold φTuple at q ⊢
    split at q
    · split at q
      · exact hAB _ q
      · exact q.elim
    · exact q.elim
  · intro L H xs ds Q s hx q
    unfold φTuple at q
    split at q
    · split at q
      · rename_i d _ es he
        cases hx with
        | cons h1 h2 =>
          cases h2
          cases d with
          | list es' =>
            cases he
            obtain ⟨a, ys, rfl, k1, k2⟩ := h1.lst s
            refine ⟨a, ys, rfl, .inl ⟨SqL.of k1, fun p o np no => ?_⟩⟩
            have e1 : Ext none L H (upd L p (.frz o (.tup ys))) (upd H p (.frz o (.tup ys))) := Ext.new s np
            exact q _ _ _ e1 (same_both s) (.tup ⟨o, no, upd_same⟩ (k2.to e1.ll))
          | tuple es' =>
            cases he
            obtain ⟨a, ys, rfl, k1, k2⟩ := h1.tup
            exact ⟨a, ys, rfl, .inr ⟨(k1.to s).seq, q _ L H (Ext.refl _ _ _) s (.tup k1 k2)⟩⟩
          | _ => cases he
      · exact q.elim
    · exact q.elim
def φAbs  (ds : List PyData) (Q : R → Prop) : Prop := match ds with
  | [.int i] => Q (.sh (.int (if i < 0 then -i else i)))
  | _ => False
def φInt  (ds : List PyData) (Q : R → Prop) : Prop := match ds with
  | [.int i] => Q (.sh (.int i))
  | [.bool b] => Q (.sh (.int (if b then 1 else 0)))
  | _ => False
def φMax  (ds : List PyData) (Q : R → Prop) : Prop := match ds with
  | [.int i, .int j] => Q (.sh (.int (if j > i then j else i)))
  | _ => False
theorem rc_max : RCK (fun xs H Q => ∃ i j, xs = [.int i, .int j] ∧ Q (.int (if j > i then j else i)) H) φMax := by
  constructor
  · intro x A B hAB q
    unfold φMax at q ⊢
    split at q
    · exact hAB _ q
    · exact q.elim
  · intro L H xs ds Q s hx q
    unfold φMax at q
    split at q
    · cases hx with
      | cons h1 h2 =>
        cases h2 with
        | cons h2 h3 =>
          cases h3
          cases h1.int
          cases h2.int
          exact ⟨_, _, rfl, q _ L H (Ext.refl _ _ _) s (.int _)⟩
    · exact q.elim
def φAll (any : Bool)  (ds : List PyData) (Q : R → Prop) : Prop := match ds with
  | [.list es] => match boolsD es with
    | some bs => Q (.sh (.bool (if any then bs.any id else bs.all id)))
    | none => False
  | _ => False
theorem rc_all {K : PySem.W.Frag} : RCK (rAll K) (φAll false) := by
  constructor
  · intro x A B hAB q
    unfold φAll at q ⊢
    split at q
    · split at q
      · exact hAB _ q
      · exact q.elim
    · exact q.elim
  · intro L H xs ds Q s hx q
    unfold φAll at q
    split at q
    · split at q
      · rename_i ns hn
        cases hx with
        | cons h1 h2 =>
          cases h2
          obtain ⟨a, ys, rfl, k1, k2⟩ := h1.lst s
          rw [boolsD_is hn] at k2
          cases bools_dvs k2
          exact ⟨a, ns, rfl, SqL.of k1, q _ L H (Ext.refl _ _ _) s (.bl _)⟩
      · exact q.elim
    · exact q.elim
section
variable {w : Wx} {K : PySem.W.Frag} {te : TE} {f : DTE}
/-- RS: the items of nss, each once, ascending -/
def Asc (nss RS : List (List Int)) : Prop := RS.Nodup ∧ RS.Pairwise (fun x y => HT.lexLt y x = false) ∧ ∀ k, k ∈ RS ↔ k ∈ nss
/-- sorted(set(xs)), xs a list of tuples of ints -/
def dSortSet (f : DTE)  (ε : Env) (Q : R → Env → Prop) : Prop := f ε fun r ε1 => match r.dat with
  | some (.list ds) => match tupsD ds with
    | some nss => nss.length < 64 ∧ ∀ RS, Asc nss RS → Q (.nw (dT RS)) ε1
    | none => False
  | _ => False
def dListRg (f : DTE)  (ε : Env) (Q : R → Env → Prop) : Prop := f ε fun r ε1 => match r.dat with
  | some (.int n) => n ≤ 16777216 ∧ -(2 ^ 62) ≤ n ∧ Q (.nw (rgD 0 n.toNat)) ε1
  | _ => False
theorem dvs_rg {H : Hp} (n : Int) : DVs H (rgV 0 n) (rgD 0 n.toNat) := by
  unfold rgV rgD
  rw [Int.sub_zero]
  generalize List.range n.toNat = l
  induction l with
  | nil => exact .nil
  | cons x r ih => exact .cons (.int _) ih
theorem se_listRg (hf : SE w te f) : SE w (tLstRg (tRg1 te)) (dListRg f) := by
  constructor
  · intro ε A B h q
    refine hf.mono _ _ _ (fun r ε1 q => ?_) q
    split at q
    · exact ⟨q.1, q.2.1, h _ _ q.2.2⟩
    · exact q.elim
  · intro Z O σ ε L H Q X q
    refine hf.run Z O σ ε L H _ X (hf.mono _ _ _ (fun r ε1 q => ?_) q)
    intro v L1 H1 X1 e1 r1
    split at q
    · rename_i n hd
      refine ⟨n, (r1.vl hd).int, ⟨by decide, by decide, q.2.1, by omega, by omega⟩, fun p np => ?_⟩
      have ep : Ext none L1 H1 L1 (upd H1 p (.lst (rgV 0 n))) := Ext.own np
      exact q.2.2 _ L1 _ (X1.step ep (same_own X1.lh (X1.lh.free np))) (e1.trans ep.any) (VR.back (VR0.vr (r := .nw (rgD 0 n.toNat)) ⟨p, _, rfl, np, X1.lh.free np, upd_same, dvs_rg n⟩ X1) e1)
    · exact q.elim
end
section
variable {X : Cx}
end
section
variable {w : Wx} {K : PySem.W.Frag} {ta te : TE} {f g : DTE}
/-- the first place of an int among ints -/
def dIndex (f g : DTE)  (ε : Env) (Q : R → Env → Prop) : Prop := f ε fun x ε1 => match x.dat.bind PyData.its with
  | some ds => g ε1 fun y ε2 => match y.dat, intsD ds with
    | some (.int k), some ns => k ∈ ns ∧ Q (.sh (.int (ns.idxOf k : Nat))) ε2
    | _, _ => False
  | none => False
theorem idx_get {ms : List Int} {z : Int} (h : z ∈ ms) : ms[ms.idxOf z]? = some z := by
  have hl := List.idxOf_lt_length_of_mem h
  rw [List.getElem?_eq_getElem hl, List.getElem_idxOf hl]
end
end Lp

namespace Lp
open PySem PySem.Spec PyProof.Rows L2
section
variable {w : Wx} {K : PySem.W.Frag} {ta te : TE} {f g : DTE}
def enD (ds : List PyData) : List PyData := ds.mapIdx fun i d => .tuple [.int (i : Nat), d]
theorem enD_len (ds : List PyData) : (enD ds).length = ds.length := by unfold enD; rw [List.length_mapIdx]
theorem enD_get {ds : List PyData} {i : Nat} {e : PyData} (h : (enD ds)[i]? = some e) : ∃ d, ds[i]? = some d ∧ e = .tuple [.int (i : Nat), d] := by
  unfold enD at h
  rw [List.getElem?_mapIdx] at h
  cases q : ds[i]? with
  | none => rw [q] at h; cases h
  | some d => rw [q] at h; cases h; exact ⟨d, rfl, rfl⟩
theorem walkS_enum {L : Hp} {a : Addr} {xs : List V} {ds : List PyData} (h : L a = some (.lst xs)) (r : DVs L xs ds) : WalkS true L (Ite K a) (enD ds) := by
  have hl := r.len
  refine ⟨fun i L' H' s1 s2 hi => ?_, fun L' H' s1 s2 => ?_, fun i d L' H' x H2 s1 s2 hd y => ?_⟩
  · rw [enD_len] at hi
    exact ⟨xs, xs[i]'(by omega), SqL.of (s2 _ _ (s1 _ _ h)), List.getElem?_eq_getElem (by omega)⟩
  · rw [enD_len]
    exact ⟨xs, SqL.of (s2 _ _ (s1 _ _ h)), by omega⟩
  · obtain ⟨T, z, rfl, nT, rfl, y2⟩ := y
    have hx := y2 xs (SqL.of (s2 _ _ (s1 _ _ h)))
    obtain ⟨d', hd', rfl⟩ := enD_get hd
    obtain ⟨v, h1, h2⟩ := r.get hd'
    rw [hx] at h1
    cases h1
    exact ⟨L', Ext.own nT, same_own s2 (s2.free nT), .inr ⟨T, _, _, rfl, rfl, upd_same, .cons (.int _) (.cons (h2.to s1) .nil)⟩⟩
def dEnum (f : DTA)  (ε : Env) (Q : List PyData → Bool → Env → Prop) : Prop := f ε fun rs ε1 => match rs with
  | [.sh (.list ds)] => Q (enD ds) true ε1
  | _ => False
def zipDs (xs ys : List PyData) : List PyData := List.zipWith (fun a b => .tuple [a, b]) xs ys
theorem zipDs_len (xs ys : List PyData) : (zipDs xs ys).length = min xs.length ys.length := by unfold zipDs; rw [List.length_zipWith]
theorem zipDs_get {xs ys : List PyData} {i : Nat} {e : PyData} (h : (zipDs xs ys)[i]? = some e) : ∃ a b, xs[i]? = some a ∧ ys[i]? = some b ∧ e = .tuple [a, b] := by
  unfold zipDs at h
  rw [List.getElem?_zipWith] at h
  cases q : xs[i]? with
  | none => rw [q] at h; cases h
  | some a =>
    rw [q] at h
    cases q2 : ys[i]? with
    | none => rw [q2] at h; cases h
    | some b => rw [q2] at h; cases h; exact ⟨a, b, rfl, rfl, rfl⟩
theorem walkS_zipL {L : Hp} {a b : Addr} {xs ys : List V} {ds es : List PyData} (h : L a = some (.lst xs)) (k : L b = some (.lst ys)) (r : DVs L xs ds) (q : DVs L ys es) : WalkS true L (Itz K a b) (zipDs ds es) := by
  have hl := r.len
  have kl := q.len
  refine ⟨fun i L' H' s1 s2 hi => ?_, fun L' H' s1 s2 => ?_, fun i d L' H' x H2 s1 s2 hd y => ?_⟩
  · rw [zipDs_len] at hi
    exact ⟨xs, ys, xs[i]'(by omega), ys[i]'(by omega), SqL.of (s2 _ _ (s1 _ _ h)), SqL.of (s2 _ _ (s1 _ _ k)), List.getElem?_eq_getElem (by omega), List.getElem?_eq_getElem (by omega)⟩
  · rw [zipDs_len]
    exact ⟨xs, ys, SqL.of (s2 _ _ (s1 _ _ h)), SqL.of (s2 _ _ (s1 _ _ k)), by omega⟩
  · obtain ⟨T, z, z', rfl, nT, rfl, y2, y3⟩ := y
    have hx := y2 xs (SqL.of (s2 _ _ (s1 _ _ h)))
    have hy := y3 ys (SqL.of (s2 _ _ (s1 _ _ k)))
    obtain ⟨d', e', hd', he', rfl⟩ := zipDs_get hd
    obtain ⟨v, h1, h2⟩ := r.get hd'
    obtain ⟨u, k1, k2⟩ := q.get he'
    rw [hx] at h1
    rw [hy] at k1
    cases h1
    cases k1
    exact ⟨L', Ext.own nT, same_own s2 (s2.free nT), .inr ⟨T, _, _, rfl, rfl, upd_same, .cons (h2.to s1) (.cons (k2.to s1) .nil)⟩⟩
theorem walkS_zipT {L : Hp} {a b : Addr} {xs ys : List V} {ds es : List PyData} (h : Sol L a xs) (k : Sol L b ys) (r : DVs L xs ds) (q : DVs L ys es) : WalkS true L (RZ.ItzT K a b) (zipDs ds es) := by
  have hl := r.len
  have kl := q.len
  refine ⟨fun i L' H' s1 s2 hi => ?_, fun L' H' s1 s2 => ?_, fun i d L' H' x H2 s1 s2 hd y => ?_⟩
  · rw [zipDs_len] at hi
    exact ⟨xs, ys, xs[i]'(by omega), ys[i]'(by omega), ((h.to s1).to s2).seq, ((k.to s1).to s2).seq, List.getElem?_eq_getElem (by omega), List.getElem?_eq_getElem (by omega)⟩
  · rw [zipDs_len]
    exact ⟨xs, ys, ((h.to s1).to s2).seq, ((k.to s1).to s2).seq, by omega⟩
  · obtain ⟨T, z, z', rfl, nT, rfl, y2, y3⟩ := y
    have hx := y2 xs ((h.to s1).to s2).seq
    have hy := y3 ys ((k.to s1).to s2).seq
    obtain ⟨d', e', hd', he', rfl⟩ := zipDs_get hd
    obtain ⟨v, h1, h2⟩ := r.get hd'
    obtain ⟨u, k1, k2⟩ := q.get he'
    rw [hx] at h1
    rw [hy] at k1
    cases h1
    cases k1
    exact ⟨L', Ext.own nT, same_own s2 (s2.free nT), .inr ⟨T, _, _, rfl, rfl, upd_same, .cons (h2.to s1) (.cons (k2.to s1) .nil)⟩⟩
def dZip (f : DTA)  (ε : Env) (Q : List PyData → Bool → Env → Prop) : Prop := f ε fun rs ε1 => match rs with
  | [.sh (.list xs), .sh (.list ys)] => Q (zipDs xs ys) true ε1
  | [.sh (.tuple xs), .sh (.tuple ys)] => Q (zipDs xs ys) true ε1
  | _ => False
theorem si_zip {n : Nat} {t : TA} {f : DTA} (hf : SA w n t f) : SI w true (RZ.iZipA K t) (dZip f) := by
  constructor
  · intro ε A B h q
    refine hf.mono _ _ _ (fun r ε1 q => ?_) q
    split at q
    · exact h _ _ _ q
    · exact h _ _ _ q
    · exact q.elim
  · intro Z O σ ε L H R X q
    refine hf.run Z O σ ε L H _ X (hf.mono _ _ _ (fun r ε1 q => ?_) q)
    intro vs L1 H1 X1 e1 r1 hl np
    split at q
    · rename_i xs ys
      cases r1 with
      | cons r1 r2 =>
        cases r2 with
        | cons r2 r3 =>
          cases r3
          cases (show DV L1 _ (.list xs) from r1) with
          | lst h1 h2 =>
            cases (show DV L1 _ (.list ys) from r2) with
            | lst k1 k2 =>
              have W := walkS_zipL (K := K) h1 k1 h2 k2
              exact ⟨_, _, _, _, rfl, .inl ⟨SqL.of (X1.lh _ _ h1), SqL.of (X1.lh _ _ k1), q _ L1 H1 X1 e1 W.e fun _ => W⟩⟩
    · rename_i xs ys
      cases r1 with
      | cons r1 r2 =>
        cases r2 with
        | cons r2 r3 =>
          cases r3
          cases (show DV L1 _ (.tuple xs) from r1) with
          | tup h1 h2 =>
            cases (show DV L1 _ (.tuple ys) from r2) with
            | tup k1 k2 =>
              have W := walkS_zipT (K := K) h1 k1 h2 k2
              exact ⟨_, _, _, _, rfl, .inr ⟨(h1.to X1.lh).seq, (k1.to X1.lh).seq, q _ L1 H1 X1 e1 W.e fun _ => W⟩⟩
    · exact q.elim
def scD (γ : DTG) (f : DTE) (vs : List Nat) (s : List SV) (Q : R → Env → Prop) : List PyData → List (List Int) → Nat → Prop
  | [], acc, n => ∀ RS, Asc acc RS → Q (.nw (dT RS)) ⟨s, n⟩
  | d :: ds, acc, n => γ d ⟨wipeE ⟨s, n⟩ vs, n⟩ fun ε1 => f ε1 fun r ε3 => match r with
      | .sh (.tuple es) => match intsD es with
        | some (x :: ns) => acc.length + 1 < 64 ∧ scD γ f vs s Q ds (acc ++ [x :: ns]) ε3.c
        | _ => False
      | _ => False
def dSortSc (i : DTI) (γ : DTG) (f : DTE) (vs : List Nat)  (ε : Env) (Q : R → Env → Prop) : Prop := i ε fun ds _ ε1 => scD γ f vs ε1.s Q ds [] ε1.c
end
section
variable {w : Wx} {K : PySem.W.Frag} {te : TE} {f : DTE}
def tyD : PyData → String
  | .none => "NoneType"
  | .bool _ => "bool"
  | .int _ => "int"
  | .str _ => "str"
  | .list _ => "list"
  | .tuple _ => "tuple"
  | .dict _ => "dict"
/-- what a value is, dicts with keys that are tuples, too -/
def TyY (K : PySem.W.Frag) (H : Hp) (x : V) (t : Value) : Prop := TyX K H x t ∨ (t = .type "dict" ∧ ∃ a xs, x = .ref a ∧ IsDct H a xs)
theorem kit_ofY {X : Cx} {pins : List (Addr × Obj)} {σ : L2.St} {H : Hp} {s : Shared} {x : V} {u t : Value} (I : Inv X pins σ H s) (rx : RelV x u) (ty : TyY X.K H x t) : ∃ P : Heap → Prop, PySem.W.KitX X.K u t P ∧ P s.heap ∧ u ≠ .builtin "__main__.__loader__#opaque" := by
  rcases ty with ty | ⟨rfl, a, xs, rfl, ob, x1⟩
  · exact kit_of I rx ty
  · cases (show u = Value.ref a from rx)
    obtain ⟨_, _, _, ys, _, o, es, ep, ho, hx, _⟩ := (I.hok a _ x1).1.2
    exact ⟨_, PySem.W.kitx_dict, ⟨o, ho, hx.1⟩, fun z => nomatch z⟩
def rIsiY (K : PySem.W.Frag) : List V → Hp → VK → Prop := fun xs H Q => ∃ (x c : V) (t u : Value) (b : Bool), xs = [x, c] ∧ ClsV c u ∧ TyY K H x t ∧ PySem.W.kitOne K t u = some b ∧ Q (.bl b) H
def rIsiTY (K : PySem.W.Frag) : List V → Hp → VK → Prop := fun xs H Q => ∃ (x : V) (tp : Addr) (cs : List V) (t : Value) (us : List Value) (b : Bool), xs = [x, .ref tp] ∧ H tp = some (.tup cs) ∧ Paired ClsV cs us ∧ TyY K H x t ∧ PySem.W.kitAny K t us = some b ∧ Q (.bl b) H
theorem call_isiY {X : Cx} : CallR X (.builtin "isinstance") (rIsiY X.K) := by
  intro pins s σ H xs us Q I r h
  obtain ⟨x, c, t, u, b, rfl, k, ty, e, q⟩ := h
  obtain ⟨u1, u2, rfl, r1, r2⟩ := vals2 r
  have e2 := k.eq r2
  subst e2
  obtain ⟨P, Z, p, hx⟩ := kit_ofY I r1 ty
  exact PySem.W.kia_one Z I.kIn p e hx fun tk => ⟨.bl b, H, I.tok tk, rfl, q⟩
theorem call_isiTY {X : Cx} : CallR X (.builtin "isinstance") (rIsiTY X.K) := by
  intro pins s σ H xs us Q I r h
  obtain ⟨x, tp, cs, t, ws, b, rfl, hT, k, ty, e, q⟩ := h
  obtain ⟨u1, u2, rfl, r1, r2⟩ := vals2 r
  cases (show u2 = Value.ref tp from r2)
  obtain ⟨P, Z, p, hx⟩ := kit_ofY I r1 ty
  obtain ⟨_, its, rv, o, h1, h2, n, h3⟩ := (show ObjOk X.prog X.w H s.heap tp (.tup cs) from I.hok tp _ hT)
  have e3 := ClsV.all k rv
  subst e3
  obtain ⟨oc, od, dt, sl⟩ := o
  simp only at h2 h3
  subst h2 h3
  exact PySem.W.kia_tup Z I.kIn p h1 e hx fun tk => ⟨.bl b, H, I.tok tk, rfl, q⟩
theorem tyX_of {L H : Hp} {v : V} {d : PyData} (h : VL L H v d) (s : Same L H) : TyY K H v (.type (tyD d)) := by
  cases d with
  | none => rw [h.non]; exact .inl (.base .non)
  | bool b => rw [h.bl]; exact .inl (.base (.bl _))
  | int i => rw [h.int]; exact .inl (.base (.int _))
  | str x => rw [h.str]; exact .inl (.base (.str _))
  | list ds =>
    obtain ⟨a, xs, rfl, h1, _⟩ := h.lst s
    exact .inl (.base (.lst h1))
  | tuple ds =>
    obtain ⟨a, xs, rfl, h1, _⟩ := h.tup
    obtain ⟨o, _, e⟩ := h1.to s
    exact .inl (.fTuple e)
  | dict _ =>
    rcases h with h | ⟨a, xs, es, e, _⟩
    · cases h with
      | dct e _ _ => exact .inr ⟨rfl, _, _, rfl, e.to s⟩
      | dci e _ _ _ => exact .inl (.fDict (s _ _ e))
    · cases e
/-- is a value of type a one of type b -/
def isaT (a b : String) : Bool := a == b || (a == "bool" && b == "int")
def TyIn (T : String) : Prop := T = "int" ∨ T = "bool" ∨ T = "str" ∨ T = "list" ∨ T = "tuple"
theorem kit_all : ∀ a ∈ ["NoneType", "bool", "int", "str", "list", "tuple", "dict"], ∀ b ∈ ["int", "bool", "str", "list", "tuple"], kitB a b = some (isaT a b) := by decide +kernel
theorem kit_tyD {T : String} (hT : TyIn T) (d : PyData) : kitB (tyD d) T = some (isaT (tyD d) T) := by
  refine kit_all _ ?_ _ ?_
  · cases d <;> simp [tyD]
  · rcases hT with rfl | rfl | rfl | rfl | rfl <;> simp
def dIsi (T : String) (f : DTE)  (ε : Env) (Q : R → Env → Prop) : Prop := f ε fun r ε1 => match r.dat with
  | some d => Q (.sh (.bool (isaT (tyD d) T))) ε1
  | none => False
theorem se_isi {T : String} (hT : TyIn T) (hf : SE w te f) : SE w (tCB (rIsiY K) (tCons te (tCons (tC (.ty T)) tNil))) (dIsi T f) := by
  constructor
  · intro ε A B h q
    refine hf.mono _ _ _ (fun r ε1 q => ?_) q
    split at q
    · exact h _ _ q
    · exact q.elim
  · intro Z O σ ε L H Q X q
    refine hf.run Z O σ ε L H _ X (hf.mono _ _ _ (fun r ε1 q => ?_) q)
    intro v L1 H1 X1 e1 r1
    split at q
    · rename_i d hd
      exact ⟨v, .ty T, .type (tyD d), .type T, _, rfl, .ty T, tyX_of (r1.vl hd) X1.lh, kit_ty (kit_tyD hT d), q _ L1 H1 X1 e1 (.bl _)⟩
    · exact q.elim
/-- isinstance(x, (list, tuple)) -/
def dIsi2 (T T' : String) (f : DTE)  (ε : Env) (Q : R → Env → Prop) : Prop := f ε fun r ε1 => match r.dat with
  | some d => Q (.sh (.bool (isaT (tyD d) T || isaT (tyD d) T'))) ε1
  | none => False
theorem se_isi2 {T T' : String} (hT : TyIn T) (hT' : TyIn T') (hf : SE w te f) : SE w (tCB (rIsiTY K) (tCons te (tCons (tTup (tCons (tC (.ty T)) (tCons (tC (.ty T')) tNil))) tNil))) (dIsi2 T T' f) := by
  constructor
  · intro ε A B h q
    refine hf.mono _ _ _ (fun r ε1 q => ?_) q
    split at q
    · exact h _ _ q
    · exact q.elim
  · intro Z O σ ε L H Q X q
    refine hf.run Z O σ ε L H _ X (hf.mono _ _ _ (fun r ε1 q => ?_) q)
    intro v L1 H1 X1 e1 r1
    split at q
    · rename_i d hd
      refine ⟨by show 2 ≤ sizeLine; decide, fun p np => ?_⟩
      have e2 : Ext none L1 H1 L1 (upd H1 p (.tup [.ty T, .ty T'])) := Ext.own np
      have X2 := X1.step e2 (same_own X1.lh (X1.lh.free np))
      refine ⟨v, p, _, .type (tyD d), [.type T, .type T'], _, rfl, upd_same, .cons (.ty T) (.cons (.ty T') .nil), tyX_of ((r1.mono X1 e2.any).vl hd) X2.lh, ?_, q _ L1 _ X2 (e1.trans e2.any) (.bl _)⟩
      refine kitAny_cons (kit_ty (kit_tyD hT d)) (fun h => ?_) (fun h => by rw [h]; rfl)
      refine kitAny_cons (kit_ty (kit_tyD hT' d)) (fun h' => ?_) (fun h' => by rw [h', Bool.or_true])
      rw [h, h']; rfl
    · exact q.elim
end
end Lp

namespace Lp
open PySem PySem.Spec PyProof.Rows L2
/-- the module's names that are the built-ins' -/
structure Bi (mg : Str → Option Value) : Prop where
  len : mg "len" = none
  list : mg "list" = none
  tuple : mg "tuple" = none
  range : mg "range" = none
  enumerate : mg "enumerate" = none
  all : mg "all" = none
  isinstance : mg "isinstance" = none
  zip : mg "zip" = none
  abs : mg "abs" = none
  int : mg "int" = none
  str : mg "str" = none
  bool : mg "bool" = none
  repr : mg "repr" = none
  set : mg "set" = none
  min : mg "min" = none
  max : mg "max" = none
  sorted : mg "sorted" = none
  sum : mg "sum" = none
  any : mg "any" = none
def φIsB  (x y : PyData) (Q : R → Prop) : Prop := match x, y with
  | .bool a, .bool b => Q (.sh (.bool (decide (a = b))))
  | _, _ => False
def dNotT (f : DTE)  (ε : Env) (Q : R → Env → Prop) : Prop := f ε fun r ε1 => match r.dat.bind truD with
  | some k => Q (.sh (.bool (!k))) ε1
  | _ => False
section
variable {X : Cx} {K : PySem.W.Frag}
theorem ixK (e : X.K = K) : IxR X (rIx K) := e ▸ ix_seq
theorem addK (e : X.K = K) : OpR X (binaryOp .Add) (rAdd K) := e ▸ op_addA
theorem eqK (e : X.K = K) (hu : X.A.units + 64 < cLine) : OpR X (compareOp .Eq) (rEqA K) := e ▸ op_eqA hu
theorem neK (e : X.K = K) (hu : X.A.units + 64 < cLine) : OpR X (compareOp .NotEq) (rNeA K) := e ▸ op_neA hu
theorem lenK (e : X.K = K) : CallR X (.builtin "len") (rLen K) := e ▸ call_len_seq
theorem listK (e : X.K = K) : CallR X (.type "list") (rList K) := e ▸ call_list_of
theorem tupleK (e : X.K = K) : CallR X (.type "tuple") (rTuple K) := e ▸ call_tupleS
theorem allK (e : X.K = K) (hc : X.calm = true) : CallR X (.builtin "all") (rAll K) := e ▸ cr_all hc
theorem seqK {tg o : Expr} {to : TE} (e : X.K = K) (ho : PE X o to) : PI X tg o (iSeq K to) := e ▸ pi_seq ho
theorem gtupK {es : List Expr} {k : Nat} {t : TGs} {n : Nat} {pos : Pos} (e : X.K = K) (h : PG X (.Tuple es k pos) (gTup X.K n t)) : PG X (.Tuple es k pos) (gTup K n t) := e ▸ h
theorem isiK (e : X.K = K) : CallR X (.builtin "isinstance") (rIsiY K) := e ▸ call_isiY
theorem isiTK (e : X.K = K) : CallR X (.builtin "isinstance") (rIsiTY K) := e ▸ call_isiTY
theorem zipA {ta : TA} {p pos tpos : Pos} {elts : List Expr} {kk : Nat} {a a' : Expr} (e : X.K = K) (hg : Gl X "zip") (hm : X.mg "zip" = none) (ha : PA X [a, a'] ta) (hs : starEach [a, a'] X.env = (false, eval a X.env) :: starEach [a'] X.env := by rfl) (hpl : (backTo pos (starEach [a'] X.env)).any (·.1) = false := by rfl) : PI X (.Tuple elts kk tpos) (.Call (.Name "zip" p) [a, a'] [] pos) (RZ.iZipA K ta) := e ▸ RZ.pi_zipA hg hm ha hs hpl
theorem bmK {e : Expr} {T : String} {r : V → List V → Hp → VK → Prop} {to : TE} {t : TA} (h : X.K = K) (x : PE X e (tBM X.K T r to t)) : PE X e (tBM K T r to t) := h ▸ x
end
/-- a def that may be called -/
structure Cal (P : Program) (w : World) (K : PySem.W.Frag) (mg : Str → Option Value) (base : Heap) (x : Str) (k : Nat) (ps : List Str) (sp : Sp) (f : Addr) (fd : FuncData) : Prop where
  ok : FnOk P w K mg base CX0 k f fd ps sp
  g : mg x = some (.ref f)
  kp : PySem.W.keepIn K (.ref f) = true
  bd : Binds K fd ps []
def KbR (fd : FuncData) (ps : List Str) : Prop := ∀ (s : Shared) (ws : List Value), ws.length = ps.length → BindsTo s fd ⟨[], ps.reverse.zip ws⟩ (ps.zip ws.reverse)
theorem Fun.kbr {K : PySem.W.Frag} {x qual : Str} {st : Stmt} {f : Addr} {fd : FuncData} {ps : List Str} (F : Fun K x qual st f fd)
    (h : ∀ (kV doc pm : Value) (an : Option Addr) (cdv ct : Value) (ws : List Value), ws.length = ps.length → bindArgs (PySem.W.fnOf x qual (defArgs st) (defBody st) (defScope st) .none kV doc pm an cdv ct) ⟨[], ps.reverse.zip ws⟩ = pure (ps.zip ws.reverse)) : KbR fd ps := by
  obtain ⟨oc, od, kV, doc, pm, an, cdv, ct, osl, rfl, lk, hcd⟩ := F.ex
  exact fun s ws hl => .of_eq (h kV doc pm an cdv ct ws hl)
section
variable {P : Program} {w : World} {K : PySem.W.Frag} {mg : Str → Option Value} {base : Heap}
end
def Dx (K : PySem.W.Frag) (x : Str) (st : Stmt) : Prop := ∃ (f : Addr) (oc : Value) (od an : Option Addr) (sl : Array (Option Value)) (kV dc pm cd ct : Value), PySem.W.nsIn K mainGlobals x = some (some (.ref f)) ∧
  K.lookup f = some ⟨oc, od, .func (PySem.W.fnOf x x (defArgs st) (defBody st) (defScope st) .none kV dc pm an cd ct), sl⟩ ∧ PySem.W.codeIn K cd x = true ∧ PySem.W.keepIn K (.ref f) = true
theorem dx_mk {K : PySem.W.Frag} {x : Str} {st : Stmt} {f : Addr} {oc : Value} {od an : Option Addr} {sl : Array (Option Value)} {kV dc pm cd ct : Value} (a : PySem.W.nsIn K mainGlobals x = some (some (.ref f)))
    (l : K.lookup f = some ⟨oc, od, .func (PySem.W.fnOf x x (defArgs st) (defBody st) (defScope st) .none kV dc pm an cd ct), sl⟩) (c : PySem.W.codeIn K cd x = true) (k : PySem.W.keepIn K (.ref f) = true) : Dx K x st := ⟨f, oc, od, an, sl, kV, dc, pm, cd, ct, a, l, c, k⟩
theorem Dx.fn {K : PySem.W.Frag} {x : Str} {st : Stmt} {h : Heap} {mg : Str → Option Value} (d : Dx K x st) (X : K.In h) (G : h.Ns mainGlobals mg) : ∃ f fd, Fun K x x st f fd ∧ mg x = some (.ref f) := by
  obtain ⟨f, oc, od, an, sl, kV, dc, pm, cd, ct, a, l, c, k⟩ := d
  exact ⟨f, _, fun_mk l c k, PySem.W.mg_of X G a⟩
structure Zs (K : PySem.W.Frag) : Prop where
  len : PySem.W.nsIn K mainGlobals "len" = some none
  list : PySem.W.nsIn K mainGlobals "list" = some none
  tuple : PySem.W.nsIn K mainGlobals "tuple" = some none
  range : PySem.W.nsIn K mainGlobals "range" = some none
  enumerate : PySem.W.nsIn K mainGlobals "enumerate" = some none
  all : PySem.W.nsIn K mainGlobals "all" = some none
  isinstance : PySem.W.nsIn K mainGlobals "isinstance" = some none
  zip : PySem.W.nsIn K mainGlobals "zip" = some none
  abs : PySem.W.nsIn K mainGlobals "abs" = some none
  int : PySem.W.nsIn K mainGlobals "int" = some none
  str : PySem.W.nsIn K mainGlobals "str" = some none
  bool : PySem.W.nsIn K mainGlobals "bool" = some none
  repr : PySem.W.nsIn K mainGlobals "repr" = some none
  set : PySem.W.nsIn K mainGlobals "set" = some none
  min : PySem.W.nsIn K mainGlobals "min" = some none
  max : PySem.W.nsIn K mainGlobals "max" = some none
  sorted : PySem.W.nsIn K mainGlobals "sorted" = some none
  sum : PySem.W.nsIn K mainGlobals "sum" = some none
  any : PySem.W.nsIn K mainGlobals "any" = some none
theorem Zs.bi {K : PySem.W.Frag} {h : Heap} {mg : Str → Option Value} (z : Zs K) (X : K.In h) (G : h.Ns mainGlobals mg) : Bi mg := by
  constructor
  · exact PySem.W.mg_none_of X G z.len
  · exact PySem.W.mg_none_of X G z.list
  · exact PySem.W.mg_none_of X G z.tuple
  · exact PySem.W.mg_none_of X G z.range
  · exact PySem.W.mg_none_of X G z.enumerate
  · exact PySem.W.mg_none_of X G z.all
  · exact PySem.W.mg_none_of X G z.isinstance
  · exact PySem.W.mg_none_of X G z.zip
  · exact PySem.W.mg_none_of X G z.abs
  · exact PySem.W.mg_none_of X G z.int
  · exact PySem.W.mg_none_of X G z.str
  · exact PySem.W.mg_none_of X G z.bool
  · exact PySem.W.mg_none_of X G z.repr
  · exact PySem.W.mg_none_of X G z.set
  · exact PySem.W.mg_none_of X G z.min
  · exact PySem.W.mg_none_of X G z.max
  · exact PySem.W.mg_none_of X G z.sorted
  · exact PySem.W.mg_none_of X G z.sum
  · exact PySem.W.mg_none_of X G z.any
abbrev FnT (x : Str) (st : Stmt) (kV doc pm : Value) (an : Option Addr) (cdv ct : Value) : FuncData := PySem.W.fnOf x x (defArgs st) (defBody st) (defScope st) .none kV doc pm an cdv ct
section
variable {K : PySem.W.Frag} {x : Str} {st : Stmt} {f : Addr} {fd : FuncData} {p p' p'' : Str} (F : Fun K x x st f fd)
include F
theorem b1 (h : ∀ kV doc pm an cdv ct u, bindArgs (FnT x st kV doc pm an cdv ct) ⟨[u], []⟩ = pure [(p, u)]) : Binds K fd [p] [] :=
  F.binds fun kV doc pm an cdv ct us hl => match us, hl with | [u], _ => h kV doc pm an cdv ct u
theorem b2 (h : ∀ kV doc pm an cdv ct u v, bindArgs (FnT x st kV doc pm an cdv ct) ⟨[u, v], []⟩ = pure [(p, u), (p', v)]) : Binds K fd [p, p'] [] :=
  F.binds fun kV doc pm an cdv ct us hl => match us, hl with | [u, v], _ => h kV doc pm an cdv ct u v
theorem b3 (h : ∀ kV doc pm an cdv ct u v t, bindArgs (FnT x st kV doc pm an cdv ct) ⟨[u, v, t], []⟩ = pure [(p, u), (p', v), (p'', t)]) : Binds K fd [p, p', p''] [] :=
  F.binds fun kV doc pm an cdv ct us hl => match us, hl with | [u, v, t], _ => h kV doc pm an cdv ct u v t
theorem r1 (h : ∀ kV doc pm an cdv ct u, bindArgs (FnT x st kV doc pm an cdv ct) ⟨[], [(p, u)]⟩ = pure [(p, u)]) : KbR fd [p] :=
  Fun.kbr F fun kV doc pm an cdv ct us hl => match us, hl with | [u], _ => h kV doc pm an cdv ct u
theorem r2 (h : ∀ kV doc pm an cdv ct u v, bindArgs (FnT x st kV doc pm an cdv ct) ⟨[], [(p', u), (p, v)]⟩ = pure [(p, v), (p', u)]) : KbR fd [p, p'] :=
  Fun.kbr F fun kV doc pm an cdv ct us hl => match us, hl with | [u, v], _ => h kV doc pm an cdv ct u v
theorem r3 (h : ∀ kV doc pm an cdv ct u v t, bindArgs (FnT x st kV doc pm an cdv ct) ⟨[], [(p'', u), (p', v), (p, t)]⟩ = pure [(p, t), (p', v), (p'', u)]) : KbR fd [p, p', p''] :=
  Fun.kbr F fun kV doc pm an cdv ct us hl => match us, hl with | [u, v, t], _ => h kV doc pm an cdv ct u v t
end
theorem Cal.up {P : Program} {w : World} {K : PySem.W.Frag} {mg : Str → Option Value} {base : Heap} {x : Str} {j k : Nat} {ps : List Str} {sp : Sp} {f : Addr} {fd : FuncData} (c : Cal P w K mg base x j ps sp f fd) (h : j ≤ k) : Cal P w K mg base x k ps sp f fd := ⟨c.ok.mono h, c.g, c.kp, c.bd⟩
end Lp

namespace Lp
open PySem PySem.Spec PyProof.Rows L2
section
variable {P : Program} {w : World} {K : PySem.W.Frag} {mg : Str → Option Value} {base : Heap}
end
theorem lay_ints : ∀ ns : List Int, PyData.canLayAll0 (dI ns) = true
  | [] => by simp [PyData.canLayAll0]
  | x :: r => by
    have := lay_ints r
    simp only [List.map_cons, PyData.canLayAll0, PyData.canLay0, this, Bool.and_self]
theorem depth_ints : ∀ ns : List Int, PyData.depthAll (dI ns) = 0
  | [] => by simp [PyData.depthAll]
  | x :: r => by
    have := depth_ints r
    simp only [List.map_cons, PyData.depthAll, PyData.depth, this]
    rfl
theorem shL (ns : List Int) : SeqAt.shaped (.list (dI ns)) = true := by
  unfold SeqAt.shaped
  simp only [PyData.canLay0, PyData.depth, lay_ints, depth_ints]
  decide
theorem eqv_ints : ∀ a b : List Int, PyData.eqvAll (dI a) (dI b) = decide (a = b)
  | [], [] => by simp [PyData.eqvAll]
  | [], _ :: _ => by simp [PyData.eqvAll]
  | _ :: _, [] => by simp [PyData.eqvAll]
  | x :: r, y :: t => by
    have ih := eqv_ints r t
    simp only [List.map_cons, PyData.eqvAll, PyData.eqv, ih]
    by_cases h : x = y
    · subst h
      by_cases h2 : r = t
      · subst h2; simp
      · simp [h2]
    · simp [h]
theorem eqvL (a b : List Int) : PyData.eqv (.list (dI a)) (.list (dI b)) = decide (a = b) := by
  simp only [PyData.eqv]; exact eqv_ints a b
end Lp

namespace Lp
open PySem PySem.Spec PyProof.Rows L2
abbrev tupIt (t : Addr) : Obj := { cls := .type "tuple_iterator", data := .fields #[.ref t, .int 0 0] }
abbrev enumOf (it : Addr) : Obj := { cls := .type "enumerate", data := .fields #[.none, .bool false, .ref it, rawInt 0, .none, .none] }
theorem meets_enT (t : Addr) (its : Array Value) : Meets (Builtin.«enumerate.__new__» ⟨[.type "enumerate", .ref t], []⟩) (fun _ R s => s.heap.IsTuple t its ∧
    R (.ok (.ret (.ref (s.heap.push (tupIt t)).objs.size))) { s with heap := (s.heap.push (tupIt t)).push (enumOf s.heap.objs.size) }) :=
  .of_wp fun prog w A R s h => by
    obtain ⟨hp, g, d, tk, os⟩ := s
    obtain ⟨ht, h⟩ := h
    have sub := sub_enumerate
    have goIt : ∀ {A' : Around} {X : Value → Shared → Prop} {Q : Value → Shared → Prop}, Q (.ref hp.objs.size) ⟨hp.push (tupIt t), g, d, tk, os⟩ → wpAny (model prog w) A' (pyIter (.ref t)) Q X ⟨hp, g, d, tk, os⟩ :=
      fun q => wpAny_pyIter_tuple ht q
    wp_walk using goIt
    refine wpAny_stack_any fun st => wpAny_pure ?_
    split
    · rename_i c _ _ _ _ _
      cases (c == Value.type "enumerate") <;> (wp_walk using goIt; exact ⟨_, rfl, h⟩)
    · wp_walk using goIt
      exact ⟨_, rfl, h⟩
theorem call_enT {prog : Program} {w : World} {A : Around} {X : Value → Shared → Prop} {s : Shared} {t : Addr} {its : Array Value} {Q : Value → Shared → Prop} (ht : s.heap.IsTuple t its)
    (h : ∀ h', IsEnum h' (s.heap.objs.size + 1) s.heap.objs.size 0 .none → h'.IsTupleIter s.heap.objs.size t 0 → (∀ b o, s.heap.get? b = some o → h'.get? b = some o) → Q (.ref (s.heap.objs.size + 1)) { s with heap := h' }) :
    wpAny (model prog w) A (call (.type "enumerate") [.ref t]) Q X s := by
  refine callType_new F.called_enumerate (by decide) (F.typeCall_enumerate_1 _) (F.newCall_enumerate_1 _) (fun obj => F.args_object_init_2 obj _) F.entry_enumerate_new (meets_enT t its) ⟨ht, ?_⟩
  have z1 : (s.heap.push (tupIt t)).objs.size = s.heap.objs.size + 1 := Heap.size_push ..
  show _ ∧ _
  rw [z1]
  have made : IsEnum ((s.heap.push (tupIt t)).push (enumOf s.heap.objs.size)) (s.heap.objs.size + 1) s.heap.objs.size 0 .none := by
    have y := Heap.get?_push_size (s.heap.push (tupIt t)) (o := enumOf s.heap.objs.size) rfl
    rw [z1] at y
    exact y
  exact ⟨⟨_, made, rfl⟩, h _ made ⟨_, Heap.get?_push_of_some _ (Heap.get?_push_size _ rfl), rfl, rfl⟩ fun b o x => Heap.get?_push_of_some _ (Heap.get?_push_of_some _ x)⟩
/-- the tuple at a, each item in a new pair -/
def IteT (K : PySem.W.Frag) (a : Addr) : It :=
  ⟨fun i H => ∃ (xs : List V) (x : V), SqT K H a xs ∧ xs[i]? = some x, fun i H v H' => ∃ T x, v = .ref T ∧ H T = none ∧ H' = upd H T (.tup [.int (i : Nat), x]) ∧ ∀ xs, SqT K H a xs → xs[i]? = some x, fun i H => ∃ xs : List V, SqT K H a xs ∧ xs.length ≤ i⟩
theorem apartT {h : Heap} {a e it : Addr} {its : Array Value} {k : Int} {old : Value} {i : Nat} (p : h.IsTuple a its) (he : IsEnum h e it k old) (hit : h.IsTupleIter it a i) : a ≠ it ∧ e ∉ [it, a] ∨ e = it := by
  obtain ⟨o, ho, hc, _⟩ := p
  obtain ⟨o2, h2, c2, _⟩ := hit
  have n1 : a ≠ it := fun z => by
    rw [z, h2] at ho
    cases ho
    rw [hc] at c2
    injection c2 with c3
    exact absurd c3 (by decide)
  have n2 : e ≠ a := fun z => by
    have he2 : h.get? e = some _ := he
    rw [z, ho] at he2
    have := congrArg (fun x => (Option.map Obj.cls x)) he2
    simp only [Option.map_some, Option.some.injEq] at this
    rw [hc] at this
    injection this with c3
    exact absurd c3 (by decide)
  by_cases q : e = it
  · exact .inr q
  · exact .inl ⟨n1, by simp [q, n2]⟩
theorem turn_enT {P : Program} {w : World} {K : PySem.W.Frag} {elts : List Expr} {kk : Nat} {tpos : Pos} (a e it : Addr) :
    Turn P w K (.Tuple elts kk tpos) (IteT K a) [e, it] e (fun i h => (∃ old, IsEnum h e it ((i : Nat) : Int) old) ∧ h.IsTupleIter it a i ∧ e ≠ it) where
  mem := by simp
  obj := fun i h st b hb => by
    obtain ⟨⟨old, he⟩, ⟨o, ho, hc, hd⟩, _⟩ := st
    rcases (show b = e ∨ b = it by simpa using hb) with z | z
    · subst z; exact ⟨_, he, fun v q => nomatch q⟩
    · subst z; exact ⟨o, ho, fun v q => by rw [hd] at q; cases q⟩
  keep := fun i h h' st k => by
    obtain ⟨⟨old, he⟩, hi, ne⟩ := st
    exact ⟨⟨old, k e (by simp) _ he⟩, hi.at fun o q => k it (by simp) o q, ne⟩
  item := by
    intro X hP hw hK hc i pins s σ H E I hf st hg
    subst hP hw hK
    obtain ⟨⟨old, he⟩, hit, ne⟩ := st
    obtain ⟨xs, x, hq, hx⟩ := hg
    obtain ⟨its, rv, p, few⟩ := I.tuple hq
    obtain ⟨u, hu, ru⟩ := rv.get hx
    have el : e < s.heap.objs.size := Heap.lt_size he
    have il : it < s.heap.objs.size := by obtain ⟨_, q, _⟩ := hit; exact Heap.lt_size q
    obtain ⟨n1, n2⟩ := (apartT p he hit).resolve_right ne
    have iu : i < its.toArray.size := by
      have := (List.getElem?_eq_some_iff.mp hu).1
      simpa using this
    refine wpAny_pyNext_enum_itemD (Draws.tuple (A := X.A.in1) (I.ok.hd hc) it a n1 its.toArray) he ⟨hit, p⟩ iu ne n2 fun y h' tk hy ho st' hT hsz hk => ?_
    have yu : y = u := by
      have hy2 : its.toArray[i]? = some y := hy
      rw [List.getElem?_toArray, hu] at hy2
      exact (Option.some.inj hy2).symm
    subst yu
    refine ⟨_, rfl, wpAny_letOwnedTupleGo_enum (s := { s with heap := h', toks := tk + 1 }) ho fun h2 he2 sb => ?_⟩
    have hT2 : h2.get? s.heap.objs.size = some { cls := .type "tuple", data := .seq #[.int i tk, y] } := (sb.2 _ (Nat.ne_of_gt el)).trans hT
    have pair : ObjOk X.prog X.w (upd H s.heap.objs.size (.tup [.int (i : Nat), x])) h2 s.heap.objs.size (.tup [.int (i : Nat), x]) :=
      ⟨by show 2 ≤ sizeLine; decide, [.int i tk, y], .cons ⟨_, rfl⟩ (.cons ru .nil), ⟨_, hT2, rfl, _, rfl⟩⟩
    have J : Inv X pins σ (upd H s.heap.objs.size (.tup [.int (i : Nat), x])) { s with heap := h2, toks := tk + 1 } :=
      I.turnedNew (ch := [e, it]) (fun b ob hb q => (sb.2 b (fun z => hb (by simp [z]))).trans (hk b ob (fun z => hb (by simp [z])) (fun z => hb (by simp [z])) q)) hf (Nat.le_refl _) pair
    refine ⟨.ref s.heap.objs.size, _, J, rfl, ⟨_, x, rfl, I.hok.fresh (Nat.le_refl _), rfl, fun ys hy => by rw [I.tuple_inj hy hq]; exact hx⟩, ⟨⟨y, ?_⟩, st'.1.at fun o q => (sb.2 it (Ne.symm ne)).trans q, ne⟩, fun b hb => ?_⟩
    · rw [show ((i + 1 : Nat) : Int) = (i : Int) + 1 by omega]; exact he2
    · have bl : b < s.heap.objs.size := by
        rcases (show b = e ∨ b = it by simpa using hb) with z | z
        · subst z; exact el
        · subst z; exact il
      rw [upd_ne (Nat.ne_of_lt bl)]
      exact (hf b hb).1
  done := by
    intro X hP hw hK hc i pins s σ H E I hf st hg
    subst hP hw hK
    obtain ⟨⟨old, he⟩, hit, ne⟩ := st
    obtain ⟨xs, hq, hx⟩ := hg
    obtain ⟨its, rv, p, few⟩ := I.tuple hq
    obtain ⟨n1, n2⟩ := (apartT p he hit).resolve_right ne
    obtain ⟨f0, f1, f2, f3, f4, f5⟩ := hf it (by simp)
    have hl := rv.length
    have hT : s.TypeIs (.ref e) "enumerate" := ⟨_, he, rfl⟩
    unfold pyNext
    refine wpAny_bind (wpAny_attempt (wpAny_callSpecial?_slot (name := Str.ofString "__next__") hT F.slot_enumerate_next
      (wpAny_call_entry F.slot_enumerate_next hT F.entry_enumerate_next ?_ (F.args_enumerate_next_1 _))))
    show wpAny _ _ (field (.ref e) 2 >>= _) _ _ _
    refine wpAny_bind (wpAny_field he rfl (x := .ref it) rfl ?_)
    refine wpAny_bind (wpAny_nextOf_tuple_end (A := X.A.in1) (I.ok.hd hc) hit p (by simp; omega) fun h' x eb hx' => ?_)
    obtain ⟨o, ho, hc'⟩ := hx'
    refine wpAny_bind (wpAny_isInstance (T := "StopIteration") (b := true) ⟨o, ho, hc'⟩ isSubtype_stop ?_)
    exact wpAny_pure ⟨rfl, I.turned (t' := s.toks) (fun b o hb q => eb b o hb q) f0 f1 f3 f4 f5⟩
  self := fun A i s Q E st h => by
    obtain ⟨⟨_, he⟩, _⟩ := st
    exact wpAny_pyIter_enum he h
/-- enumerate(e): a list or a tuple -/
def iEnA (K : PySem.W.Frag) (ta : TA) : TI := fun σ H R => ta σ H fun vs H1 => ∃ a xs, vs = [.ref a] ∧ ((SqL K H1 a xs ∧ R (Ite K a) H1) ∨ (SqT K H1 a xs ∧ R (IteT K a) H1))
theorem pi_enA {X : Cx} {e : Expr} {ta : TA} {p pos tpos : Pos} {elts : List Expr} {kk : Nat} (hg : Gl X "enumerate") (hm : X.mg "enumerate" = none) (ha : PA X [e] ta) (hs : starEach [e] X.env = [(false, eval e X.env)] := by rfl) :
    PI X (.Tuple elts kk tpos) (.Call (.Name "enumerate" p) [e] [] pos) (iEnA X.K ta) := by
  refine ⟨fun pins s σ H R I h => ?_⟩
  refine Call_ (ld_blt I hg hm boot_enumerate (PyProof.Rows.callWith_type1 (thn (ha.run pos pins s σ H _ I h) fun us s1 ⟨vs, H1, I1, r1, q1⟩ => ?_) hs rfl))
  obtain ⟨a, xs, rfl, ways⟩ := q1
  cases r1 with
  | cons r rr =>
    cases rr
    cases r
    have fresh : ∀ b, b ∈ [s1.heap.objs.size + 1, s1.heap.objs.size] → s1.heap.objs.size ≤ b := fun b hb => by
      rcases (show b = s1.heap.objs.size + 1 ∨ b = s1.heap.objs.size by simpa using hb) with z | z <;> omega
    rcases ways with ⟨hq, q⟩ | ⟨hq, q⟩
    · obtain ⟨its, rv, pl, few⟩ := I1.list hq
      refine call_enumerate_list pl.isList fun h' he hit hsz hk => wpAny_pyIter_enum he ?_
      exact ⟨s1.heap.objs.size + 1, _, _, _, H1, rfl, I1.kept (t' := s1.toks) hk, turn_enum a (s1.heap.objs.size + 1) s1.heap.objs.size, ⟨⟨.none, he⟩, hit, Nat.succ_ne_self _⟩, fun b hb => I1.fpOk (fresh b hb) (I1.hok.fresh (fresh b hb)), q⟩
    · obtain ⟨its, rv, pt, few⟩ := I1.tuple hq
      refine call_enT pt fun h' he hit hk => wpAny_pyIter_enum he ?_
      exact ⟨s1.heap.objs.size + 1, _, _, _, H1, rfl, I1.kept (t' := s1.toks) hk, turn_enT a (s1.heap.objs.size + 1) s1.heap.objs.size, ⟨⟨.none, he⟩, hit, Nat.succ_ne_self _⟩, fun b hb => I1.fpOk (fresh b hb) (I1.hok.fresh (fresh b hb)), q⟩
section
variable {w : Wx} {K : PySem.W.Frag} {ta te : TE} {f g : DTE}
theorem enumA2 {X : Cx} {ta : TA} {p pos tpos : Pos} {elts : List Expr} {kk : Nat} {a : Expr} (e : X.K = K) (hg : Gl X "enumerate") (hm : X.mg "enumerate" = none) (ha : PA X [a] ta) (hs : starEach [a] X.env = [(false, eval a X.env)] := by rfl) : PI X (.Tuple elts kk tpos) (.Call (.Name "enumerate" p) [a] [] pos) (iEnA K ta) := e ▸ pi_enA hg hm ha hs
theorem walkS_enumT {L : Hp} {a : Addr} {xs : List V} {ds : List PyData} (h : Sol L a xs) (r : DVs L xs ds) : WalkS true L (IteT K a) (enD ds) := by
  have hl := r.len
  refine ⟨fun i L' H' s1 s2 hi => ?_, fun L' H' s1 s2 => ?_, fun i d L' H' x H2 s1 s2 hd y => ?_⟩
  · rw [enD_len] at hi
    exact ⟨xs, xs[i]'(by omega), ((h.to s1).to s2).seq, List.getElem?_eq_getElem (by omega)⟩
  · rw [enD_len]
    exact ⟨xs, ((h.to s1).to s2).seq, by omega⟩
  · obtain ⟨T, z, rfl, nT, rfl, y2⟩ := y
    have hx := y2 xs ((h.to s1).to s2).seq
    obtain ⟨d', hd', rfl⟩ := enD_get hd
    obtain ⟨v, h1, h2⟩ := r.get hd'
    rw [hx] at h1
    cases h1
    exact ⟨L', Ext.own nT, same_own s2 (s2.free nT), .inr ⟨T, _, _, rfl, rfl, upd_same, .cons (.int _) (.cons (h2.to s1) .nil)⟩⟩
def dEnA (f : DTA) (ε : Env) (Q : List PyData → Bool → Env → Prop) : Prop := f ε fun rs ε1 => match rs with
  | [.sh (.list ds)] => Q (enD ds) true ε1
  | [.sh (.tuple ds)] => Q (enD ds) true ε1
  | _ => False
theorem si_enA {n : Nat} {t : TA} {f : DTA} (hf : SA w n t f) : SI w true (iEnA K t) (dEnA f) := by
  constructor
  · intro ε A B h q
    refine hf.mono _ _ _ (fun r ε1 q => ?_) q
    split at q
    · exact h _ _ _ q
    · exact h _ _ _ q
    · exact q.elim
  · intro Z O σ ε L H R X q
    refine hf.run Z O σ ε L H _ X (hf.mono _ _ _ (fun r ε1 q => ?_) q)
    intro vs L1 H1 X1 e1 r1 hl np
    split at q
    · rename_i ds
      cases r1 with
      | cons r1 r2 =>
        cases r2
        cases (show DV L1 _ (.list ds) from r1) with
        | lst h1 h2 =>
          have W := walkS_enum (K := K) h1 h2
          exact ⟨_, _, rfl, .inl ⟨SqL.of (X1.lh _ _ h1), q _ L1 H1 X1 e1 W.e fun _ => W⟩⟩
    · rename_i ds
      cases r1 with
      | cons r1 r2 =>
        cases r2
        cases (show DV L1 _ (.tuple ds) from r1) with
        | tup h1 h2 =>
          have W := walkS_enumT (K := K) h1 h2
          exact ⟨_, _, rfl, .inr ⟨(h1.to X1.lh).seq, q _ L1 H1 X1 e1 W.e fun _ => W⟩⟩
    · exact q.elim
end
section
variable {K : PySem.W.Frag} {x : Str} {st : Stmt} {f : Addr} {fd : FuncData} {p1 p2 p3 p4 p5 : Str} (F : Fun K x x st f fd)
include F
theorem b4 (h : ∀ kV doc pm an cdv ct u1 u2 u3 u4, bindArgs (FnT x st kV doc pm an cdv ct) ⟨[u1, u2, u3, u4], []⟩ = pure [(p1, u1), (p2, u2), (p3, u3), (p4, u4)]) : Binds K fd [p1, p2, p3, p4] [] :=
  F.binds fun kV doc pm an cdv ct us hl => match us, hl with | [u1, u2, u3, u4], _ => h kV doc pm an cdv ct u1 u2 u3 u4
theorem r4 (h : ∀ kV doc pm an cdv ct u1 u2 u3 u4, bindArgs (FnT x st kV doc pm an cdv ct) ⟨[], [(p4, u1), (p3, u2), (p2, u3), (p1, u4)]⟩ = pure [(p1, u4), (p2, u3), (p3, u2), (p4, u1)]) : KbR fd [p1, p2, p3, p4] :=
  Fun.kbr F fun kV doc pm an cdv ct us hl => match us, hl with | [u1, u2, u3, u4], _ => h kV doc pm an cdv ct u1 u2 u3 u4
end
def φIsNB (x y : PyData) (Q : R → Prop) : Prop := match x, y with
  | .bool a, .bool b => Q (.sh (.bool (!decide (a = b))))
  | _, _ => False
end Lp

namespace Lp
open PySem PySem.Spec PyProof.Rows L2
def gt (ns : List Int) (i : Int) : Int := ns.getD i.toNat 0
def call1 (ns : List Int) (w : Int) : List Int := ns.set w.toNat (gt ns (gt ns w))
theorem call1_len (ns : List Int) (w : Int) : (call1 ns w).length = ns.length := by unfold call1; rw [List.length_set]
theorem gt_get {ns : List Int} {i : Int} (h0 : 0 ≤ i) (h1 : i < (ns.length : Int)) : ns[i.toNat]? = some (gt ns i) := by
  unfold gt
  have hl : i.toNat < ns.length := by omega
  rw [List.getD_eq_getElem?_getD, List.getElem?_eq_getElem hl]; rfl
theorem gt_low {n : Nat} {ns : List Int} {i : Int} (h : Low n ns) (h0 : 0 ≤ i) (h1 : i < (ns.length : Int)) : 0 ≤ gt ns i ∧ gt ns i < (n : Int) := h.at (gt_get h0 h1)
theorem call1_low {n : Nat} {ns : List Int} {w : Int} (h : Low n ns) (hn : ns.length = n) (h0 : 0 ≤ w) (h1 : w < (n : Int)) : Low n (call1 ns w) := by
  have a := gt_low h h0 (by omega)
  have b := gt_low h a.1 (by omega)
  exact h.set b.1 b.2
theorem Low.take {n : Nat} {ws : List Int} (h : Low n ws) (i : Nat) : Low n (ws.take i) := fun z hz => h z (List.mem_of_mem_take hz)
def itr (ns : List Int) (p : Int) : Nat → Int
  | 0 => p
  | k + 1 => gt ns (itr ns p k)
theorem itr_succ (ns : List Int) (p : Int) : ∀ k, itr ns p (k + 1) = itr ns (gt ns p) k
  | 0 => rfl
  | k + 1 => by
    show gt ns (itr ns p (k + 1)) = gt ns (itr ns (gt ns p) k)
    rw [itr_succ ns p k]
theorem itr_low {ns : List Int} (lo : Low ns.length ns) {p : Int} (h0 : 0 ≤ p) (h1 : p < (ns.length : Int)) : ∀ k, 0 ≤ itr ns p k ∧ itr ns p k < (ns.length : Int)
  | 0 => ⟨h0, h1⟩
  | k + 1 => by
    have ih := itr_low lo h0 h1 k
    exact gt_low lo ih.1 ih.2
def itrs (ns : List Int) (p : Int) (m : Nat) : List Int := (List.range m).map (itr ns p)
theorem itrs_len (ns : List Int) (p : Int) (m : Nat) : (itrs ns p m).length = m := by unfold itrs; rw [List.length_map, List.length_range]
theorem itrs_succ (ns : List Int) (p : Int) (m : Nat) : itrs ns p (m + 1) = itrs ns p m ++ [itr ns p m] := by
  unfold itrs; rw [List.range_succ, List.map_append]; rfl
theorem itrs_get {ns : List Int} {p : Int} {m i : Nat} (h : i < m) : (itrs ns p m)[i]? = some (itr ns p i) := by
  unfold itrs
  rw [List.getElem?_map, List.getElem?_range h]; rfl
theorem itrs_mem {ns : List Int} {p z : Int} {m : Nat} : z ∈ itrs ns p m ↔ ∃ i, i < m ∧ itr ns p i = z := by
  unfold itrs
  rw [List.mem_map]
  constructor
  · rintro ⟨i, hi, e⟩; exact ⟨i, List.mem_range.mp hi, e⟩
  · rintro ⟨i, hi, e⟩; exact ⟨i, List.mem_range.mpr hi, e⟩
/-- rs: the people met from p on, each once -/
def Route (ns : List Int) (p : Int) (rs : List Int) : Prop := ∃ L, rs = itrs ns p L ∧ rs.Nodup ∧ itr ns p L ∈ rs
theorem itrs_apart {ns : List Int} {p : Int} {m i j : Nat} (nd : (itrs ns p m).Nodup) (hi : i < m) (hj : j < m) (e : itr ns p i = itr ns p j) : i = j := by
  have h1 := itrs_get (ns := ns) (p := p) hi
  have h2 := itrs_get (ns := ns) (p := p) hj
  rw [e] at h1
  exact nd_ix nd h1 h2
theorem Route.eq {ns : List Int} {p : Int} {rs rs' : List Int} (a : Route ns p rs) (b : Route ns p rs') : rs = rs' := by
  obtain ⟨L, rfl, n1, m1⟩ := a
  obtain ⟨M, rfl, n2, m2⟩ := b
  obtain ⟨i, hi, ei⟩ := itrs_mem.mp m1
  obtain ⟨j, hj, ej⟩ := itrs_mem.mp m2
  rcases Nat.lt_trichotomy L M with h | h | h
  · exact absurd (itrs_apart n2 (show i < M by omega) h ei) (by omega)
  · rw [h]
  · exact absurd (itrs_apart n1 (show j < L by omega) h ej) (by omega)
theorem Nodup.snoc {l : List Int} {z : Int} (h : l.Nodup) (n : z ∉ l) : (l ++ [z]).Nodup := by
  rw [List.nodup_append]
  refine ⟨h, List.nodup_cons.mpr ⟨List.not_mem_nil, List.nodup_nil⟩, fun a ha b hb => ?_⟩
  rw [List.mem_singleton] at hb
  subst hb
  exact fun e => n (e ▸ ha)
theorem low_len : ∀ (n : Nat) (l : List Int), l.Nodup → Low n l → l.length ≤ n
  | 0, l, _, h => by
    cases l with
    | nil => exact Nat.le_refl 0
    | cons x r => have := h x List.mem_cons_self; omega
  | n + 1, l, nd, h => by
    have h2 := low_len n (l.filter (fun z => decide (z ≠ (n : Int)))) (nd.filter _) fun z hz => by
      have q := List.mem_filter.mp hz
      have := h z q.1
      have := of_decide_eq_true q.2
      omega
    have h3 : l.length ≤ (l.filter (fun z => decide (z ≠ (n : Int)))).length + 1 := by
      clear h h2
      induction l with
      | nil => simp
      | cons x r ih =>
        have nd' := List.nodup_cons.mp nd
        by_cases hx : x = (n : Int)
        · have e : r.filter (fun z => decide (z ≠ (n : Int))) = r := List.filter_eq_self.mpr fun z hz => decide_eq_true fun e => nd'.1 (by rw [hx, ← e]; exact hz)
          rw [List.filter_cons_of_neg (by simp [hx]), e]; exact Nat.le_refl _
        · rw [List.filter_cons_of_pos (by simp [hx]), List.length_cons, List.length_cons]
          have := ih nd'.2
          omega
    omega
/-- behind the first return the pointers go round -/
theorem itr_round {ns : List Int} {p : Int} {b d : Nat} (h : itr ns p (b + d) = itr ns p b) : ∀ t, itr ns p (b + d + t) = itr ns p (b + t)
  | 0 => h
  | t + 1 => by
    show gt ns (itr ns p (b + d + t)) = gt ns (itr ns p (b + t))
    rw [itr_round h t]
theorem itr_mod {ns : List Int} {p : Int} {b d : Nat} (hd : 0 < d) (h : itr ns p (b + d) = itr ns p b) (t : Nat) : itr ns p (b + t) = itr ns p (b + t % d) := by
  induction t using Nat.strongRecOn with
  | ind t ih =>
    by_cases ht : t < d
    · rw [Nat.mod_eq_of_lt ht]
    · have e : t = d + (t - d) := by omega
      have := ih (t - d) (by omega)
      rw [e, ← Nat.add_assoc, itr_round h, this, Nat.add_mod_left]
def routeG (ns : List Int) : Nat → List Int → Int → List Int
  | 0, acc, _ => acc
  | k + 1, acc, at_ => if at_ ∈ acc then acc else routeG ns k (acc ++ [at_]) (gt ns at_)
def routeF (ns : List Int) (p : Int) : List Int := routeG ns (ns.length + 1) [] p
theorem routeG_ok {ns : List Int} (lo : Low ns.length ns) {p : Int} (p0 : 0 ≤ p) (p1 : p < (ns.length : Int)) : ∀ (k L : Nat), (itrs ns p L).Nodup → ns.length < k + L → Route ns p (routeG ns k (itrs ns p L) (itr ns p L))
  | 0, L, nd, h => by
    have := low_len ns.length _ nd fun z hz => by
      obtain ⟨i, _, ei⟩ := itrs_mem.mp hz
      have := itr_low lo p0 p1 i
      omega
    rw [itrs_len] at this
    omega
  | k + 1, L, nd, h => by
    unfold routeG
    by_cases hm : itr ns p L ∈ itrs ns p L
    · rw [if_pos hm]
      exact ⟨L, rfl, nd, hm⟩
    · rw [if_neg hm, ← itrs_succ]
      exact routeG_ok lo p0 p1 k (L + 1) (by rw [itrs_succ]; exact Nodup.snoc nd hm) (by omega)
theorem routeF_ok {ns : List Int} (lo : Low ns.length ns) {p : Int} (p0 : 0 ≤ p) (p1 : p < (ns.length : Int)) : Route ns p (routeF ns p) := routeG_ok lo p0 p1 (ns.length + 1) 0 List.nodup_nil (by omega)
def beginF (ns rs : List Int) : Nat := rs.idxOf (gt ns (rs.getLastD 0))
def minF : List Int → Int
  | [] => 0
  | x :: r => r.foldl (fun a b => if b < a then b else a) x
theorem fold_min : ∀ (r : List Int) (x : Int), (r.foldl (fun a b => if b < a then b else a) x = x ∨ r.foldl (fun a b => if b < a then b else a) x ∈ r) ∧ r.foldl (fun a b => if b < a then b else a) x ≤ x ∧ ∀ y ∈ r, r.foldl (fun a b => if b < a then b else a) x ≤ y
  | [], x => ⟨.inl rfl, Int.le_refl x, fun y h => nomatch h⟩
  | z :: r, x => by
    have ih := fold_min r (if z < x then z else x)
    show (r.foldl _ (if z < x then z else x) = x ∨ _) ∧ _
    refine ⟨?_, ?_, ?_⟩
    · rcases ih.1 with h | h
      · by_cases q : z < x
        · right
          show r.foldl _ (if z < x then z else x) ∈ z :: r
          rw [h, if_pos q]; exact List.mem_cons_self
        · left
          show r.foldl _ (if z < x then z else x) = x
          rw [h, if_neg q]
      · right; exact List.mem_cons_of_mem _ h
    · show r.foldl _ (if z < x then z else x) ≤ x
      have := ih.2.1
      split at this <;> rename_i q
      · rw [if_pos q]; omega
      · rw [if_neg q]; exact this
    · intro y hy
      show r.foldl _ (if z < x then z else x) ≤ y
      rcases List.mem_cons.mp hy with h | h
      · have := ih.2.1
        split at this <;> rename_i q
        · rw [if_pos q, h]; exact this
        · rw [if_neg q, h]; omega
      · exact ih.2.2 y h
theorem minF_ok {ms : List Int} (h : ms ≠ []) : minF ms ∈ ms ∧ ∀ y ∈ ms, minF ms ≤ y := by
  cases ms with
  | nil => exact absurd rfl h
  | cons x r =>
    have := fold_min r x
    refine ⟨?_, fun y hy => ?_⟩
    · rcases this.1 with e | e
      · show r.foldl _ x ∈ x :: r
        rw [e]; exact List.mem_cons_self
      · exact List.mem_cons_of_mem _ e
    · rcases List.mem_cons.mp hy with e | e
      · rw [e]; exact this.2.1
      · exact this.2.2 y e
/-- the list, turned so that its least member is the first -/
def turnF (ms : List Int) : List Int := ms.drop (ms.idxOf (minF ms)) ++ ms.take (ms.idxOf (minF ms))
def ringF (ns : List Int) (p : Int) : List Int := turnF ((routeF ns p).drop (beginF ns (routeF ns p)))
def heightF (ns : List Int) (p : Int) : Nat := beginF ns (routeF ns p)
theorem turnF_ne {ms : List Int} (h : ms ≠ []) : turnF ms ≠ [] := by
  intro e
  have := congrArg List.length e
  unfold turnF at this
  rw [List.length_append, List.length_drop, List.length_take, List.length_nil] at this
  have : ms.length = 0 := by omega
  exact h (List.eq_nil_of_length_eq_zero this)
/-- how a whole route begins its ring -/
theorem begin_at {ns : List Int} {p : Int} {L : Nat} (nd : (itrs ns p L).Nodup) (hin : itr ns p L ∈ itrs ns p L) {b : Nat} (hb : b < L) (eb : itr ns p b = itr ns p L) : beginF ns (itrs ns p L) = b := by
  obtain ⟨M, rfl⟩ : ∃ M, L = M + 1 := ⟨L - 1, by omega⟩
  unfold beginF
  have e : (itrs ns p (M + 1)).getLastD 0 = itr ns p M := by rw [itrs_succ]; simp
  rw [e]
  have hin' : gt ns (itr ns p M) ∈ itrs ns p (M + 1) := hin
  have h1 := idx_get hin'
  have hl := List.idxOf_lt_length_of_mem hin'
  rw [itrs_len] at hl
  rw [itrs_get hl] at h1
  exact itrs_apart nd hl hb ((Option.some.inj h1).trans eb.symm)
theorem lex_uniq : ∀ (a b : List (List Int)), a.Nodup → b.Nodup → a.Pairwise (fun x y => HT.lexLt y x = false) → b.Pairwise (fun x y => HT.lexLt y x = false) → (∀ k, k ∈ a ↔ k ∈ b) → a = b
  | [], [], _, _, _, _, _ => rfl
  | [], y :: _, _, _, _, _, h => nomatch (h y).mpr List.mem_cons_self
  | x :: _, [], _, _, _, _, h => nomatch (h x).mp List.mem_cons_self
  | x :: a, y :: b, na, nb, pa, pb, h => by
    have qa := List.pairwise_cons.mp pa
    have qb := List.pairwise_cons.mp pb
    have ra := List.nodup_cons.mp na
    have rb := List.nodup_cons.mp nb
    have e : x = y := by
      rcases List.mem_cons.mp ((h x).mp List.mem_cons_self) with e | e
      · exact e
      · rcases List.mem_cons.mp ((h y).mpr List.mem_cons_self) with e2 | e2
        · exact e2.symm
        · exact lex_eq x y (qb.1 x e) (qa.1 y e2)
    subst e
    have h2 : ∀ k, k ∈ a ↔ k ∈ b := fun k => by
      constructor
      · intro hk
        rcases List.mem_cons.mp ((h k).mp (List.mem_cons_of_mem _ hk)) with z | z
        · exact absurd (z ▸ hk) ra.1
        · exact z
      · intro hk
        rcases List.mem_cons.mp ((h k).mpr (List.mem_cons_of_mem _ hk)) with z | z
        · exact absurd (z ▸ hk) rb.1
        · exact z
    rw [lex_uniq a b ra.2 rb.2 qa.2 qb.2 h2]
/-- RS: all rings, ascending -/
def RingsOf (ns : List Int) (RS : List (List Int)) : Prop := RS.Nodup ∧ RS.Pairwise (fun x y => HT.lexLt y x = false) ∧ ∀ k, k ∈ RS ↔ ∃ j : Nat, j < ns.length ∧ ringF ns (j : Int) = k
theorem RingsOf.eq {ns : List Int} {a b : List (List Int)} (x : RingsOf ns a) (y : RingsOf ns b) : a = b := lex_uniq a b x.1 y.1 x.2.1 y.2.1 fun k => (x.2.2 k).trans (y.2.2 k).symm

theorem itr_add (ns : List Int) (p : Int) (a : Nat) : ∀ b, itr ns p (a + b) = itr ns (itr ns p a) b
  | 0 => rfl
  | b + 1 => congrArg (gt ns) (itr_add ns p a b)
theorem itrs_cat (ns : List Int) (p : Int) (a : Nat) : ∀ b, itrs ns p (a + b) = itrs ns p a ++ itrs ns (itr ns p a) b
  | 0 => (List.append_nil _).symm
  | b + 1 => by
    rw [← Nat.add_assoc, itrs_succ, itrs_cat ns p a b, itrs_succ, itr_add, List.append_assoc]
def Cyc (ns : List Int) (q : Int) (c : Nat) : Prop := 0 < c ∧ itr ns q c = q ∧ (itrs ns q c).Nodup
theorem Cyc.cut {ns : List Int} {q : Int} {c j : Nat} (h : j ≤ c) : (itrs ns q c).drop j = itrs ns (itr ns q j) (c - j) ∧ (itrs ns q c).take j = itrs ns q j := by
  obtain ⟨d, rfl⟩ : ∃ d, c = j + d := ⟨c - j, by omega⟩
  rw [itrs_cat, Nat.add_sub_cancel_left]
  have l := itrs_len ns q j
  constructor
  · conv => lhs; arg 1; rw [← l]
    rw [List.drop_left]
  · conv => lhs; arg 1; rw [← l]
    rw [List.take_left]
theorem Cyc.turn {ns : List Int} {q : Int} {c j : Nat} (x : Cyc ns q c) (h : j ≤ c) : itrs ns (itr ns q j) c = (itrs ns q c).drop j ++ (itrs ns q c).take j := by
  rw [(Cyc.cut h).1, (Cyc.cut h).2]
  have e : itrs ns (itr ns q j) c = itrs ns (itr ns q j) ((c - j) + j) := by congr 1; omega
  rw [e, itrs_cat, ← itr_add]
  have e2 : j + (c - j) = c := by omega
  rw [e2, x.2.1]
theorem Cyc.all {ns : List Int} {q : Int} {c : Nat} (x : Cyc ns q c) (t : Nat) : itr ns q t ∈ itrs ns q c := by
  have := itr_mod (ns := ns) (p := q) (b := 0) (d := c) x.1 (by rw [Nat.zero_add]; exact x.2.1) t
  rw [Nat.zero_add, Nat.zero_add] at this
  rw [this]
  exact itrs_mem.mpr ⟨t % c, Nat.mod_lt _ x.1, rfl⟩
theorem Cyc.at {ns : List Int} {q z : Int} {c : Nat} (x : Cyc ns q c) (h : z ∈ itrs ns q c) : Cyc ns z c ∧ ∀ y, y ∈ itrs ns z c ↔ y ∈ itrs ns q c := by
  obtain ⟨j, hj, rfl⟩ := itrs_mem.mp h
  have t := x.turn (j := j) (by omega)
  have pm : (itrs ns (itr ns q j) c).Perm (itrs ns q c) := by
    rw [t]
    have := List.perm_append_comm (l₁ := (itrs ns q c).drop j) (l₂ := (itrs ns q c).take j)
    rw [List.take_append_drop] at this
    exact this
  refine ⟨⟨x.1, ?_, pm.nodup_iff.mpr x.2.2⟩, fun y => pm.mem_iff⟩
  rw [← itr_add, Nat.add_comm, itr_add, x.2.1]
theorem Cyc.uniq {ns : List Int} {z : Int} {c d : Nat} (x : Cyc ns z c) (y : Cyc ns z d) : c = d := by
  rcases Nat.lt_trichotomy c d with h | h | h
  · have := itrs_apart y.2.2 (i := 0) (j := c) y.1 h x.2.1.symm
    have := x.1; omega
  · exact h
  · have := itrs_apart x.2.2 (i := 0) (j := d) x.1 h y.2.1.symm
    have := y.1; omega
theorem itrs_ne {ns : List Int} {q : Int} {c : Nat} (h : 0 < c) : itrs ns q c ≠ [] := fun e => by
  have := itrs_len ns q c
  rw [e] at this
  simp at this; omega
theorem Cyc.turnF {ns : List Int} {q : Int} {c : Nat} (x : Cyc ns q c) : turnF (itrs ns q c) = itrs ns (minF (itrs ns q c)) c := by
  have m := minF_ok (itrs_ne (ns := ns) (q := q) x.1)
  have il := List.idxOf_lt_length_of_mem m.1
  have g := idx_get m.1
  unfold Lp.turnF
  generalize hj : (itrs ns q c).idxOf (minF (itrs ns q c)) = j at il g
  rw [itrs_len] at il
  rw [itrs_get il] at g
  rw [← Option.some.inj g, x.turn (by omega)]
theorem Cyc.same {ns : List Int} {q r z : Int} {c d : Nat} (x : Cyc ns q c) (y : Cyc ns r d) (h1 : z ∈ itrs ns q c) (h2 : z ∈ itrs ns r d) : Lp.turnF (itrs ns q c) = Lp.turnF (itrs ns r d) := by
  have a := x.at h1
  have b := y.at h2
  have e := a.1.uniq b.1
  subst e
  rw [x.turnF, y.turnF]
  have m1 := minF_ok (itrs_ne (ns := ns) (q := q) x.1)
  have m2 := minF_ok (itrs_ne (ns := ns) (q := r) x.1)
  have := m1.2 _ ((a.2 _).mp ((b.2 _).mpr m2.1))
  have := m2.2 _ ((b.2 _).mp ((a.2 _).mpr m1.1))
  have e : minF (itrs ns q c) = minF (itrs ns r c) := by omega
  rw [e]
theorem ringF_cyc {ns : List Int} (lo : Low ns.length ns) {p : Int} (p0 : 0 ≤ p) (p1 : p < (ns.length : Int)) : ∃ c, Cyc ns (itr ns p (heightF ns p)) c ∧ ringF ns p = turnF (itrs ns (itr ns p (heightF ns p)) c) ∧ routeF ns p = itrs ns p (heightF ns p + c) := by
  have rt := routeF_ok lo p0 p1
  obtain ⟨L, hrs, nd, hin⟩ := id rt
  rw [hrs] at nd hin
  obtain ⟨b, hb, eb⟩ := itrs_mem.mp hin
  have e := begin_at nd hin hb eb
  have eh : heightF ns p = b := by unfold heightF; rw [hrs]; exact e
  have ct := Cyc.cut (ns := ns) (q := p) (c := L) (j := b) (by omega)
  rw [eh]
  refine ⟨L - b, ⟨by omega, ?_, ?_⟩, ?_, ?_⟩
  · rw [← itr_add]
    have : b + (L - b) = L := by omega
    rw [this, eb]
  · rw [← ct.1]
    exact nd.sublist (List.drop_sublist b _)
  · unfold ringF
    rw [hrs, e, ct.1]
  · rw [hrs]; congr 1; omega
theorem ringF_step {ns : List Int} (lo : Low ns.length ns) {p : Int} (p0 : 0 ≤ p) (p1 : p < (ns.length : Int)) : ringF ns (gt ns p) = ringF ns p := by
  have g := gt_low lo p0 (by omega)
  obtain ⟨c, x, e, _⟩ := ringF_cyc lo p0 p1
  obtain ⟨d, y, e2, _⟩ := ringF_cyc lo g.1 g.2
  rw [e, e2]
  refine y.same x (z := itr ns p (heightF ns p + (heightF ns (gt ns p) + 1))) ?_ ?_
  · have : heightF ns p + (heightF ns (gt ns p) + 1) = (heightF ns (gt ns p) + heightF ns p) + 1 := by omega
    rw [this, itr_succ, itr_add]
    exact y.all _
  · rw [itr_add]
    exact x.all _
theorem ringF_itr {ns : List Int} (lo : Low ns.length ns) {p : Int} (p0 : 0 ≤ p) (p1 : p < (ns.length : Int)) : ∀ k, ringF ns (itr ns p k) = ringF ns p
  | 0 => rfl
  | k + 1 => by
    have l := itr_low lo p0 p1 k
    show ringF ns (gt ns (itr ns p k)) = _
    rw [ringF_step lo l.1 l.2, ringF_itr lo p0 p1 k]
/-- a ring: its least member first, each member pointing at the next one -/
theorem ringF_form {ns : List Int} (lo : Low ns.length ns) {p : Int} (p0 : 0 ≤ p) (p1 : p < (ns.length : Int)) : ∃ m c, ringF ns p = itrs ns m c ∧ Cyc ns m c ∧ (∀ y ∈ ringF ns p, m ≤ y) ∧ 0 ≤ m ∧ m < (ns.length : Int) := by
  obtain ⟨c, x, e, _⟩ := ringF_cyc lo p0 p1
  have m := minF_ok (itrs_ne (ns := ns) (q := itr ns p (heightF ns p)) x.1)
  have a := x.at m.1
  have l := itr_low lo p0 p1 (heightF ns p)
  refine ⟨_, c, e.trans x.turnF, a.1, fun y hy => ?_, ?_⟩
  · rw [e, x.turnF] at hy
    exact m.2 y ((a.2 y).mp hy)
  · obtain ⟨i, _, ei⟩ := itrs_mem.mp m.1
    rw [← ei]
    exact itr_low lo l.1 l.2 i

def headF (ns : List Int) (p : Int) : Int := (ringF ns p).headD 0
theorem headF_form {ns : List Int} (lo : Low ns.length ns) {p : Int} (p0 : 0 ≤ p) (p1 : p < (ns.length : Int)) : ∃ c, ringF ns p = itrs ns (headF ns p) c ∧ Cyc ns (headF ns p) c ∧ 0 ≤ headF ns p ∧ headF ns p < (ns.length : Int) := by
  obtain ⟨m, c, e, cy, _, m0, m1⟩ := ringF_form lo p0 p1
  have em : headF ns p = m := by
    unfold headF
    obtain ⟨d, rfl⟩ : ∃ d, c = 1 + d := ⟨c - 1, by have := cy.1; omega⟩
    rw [e, itrs_cat]; rfl
  rw [em]
  exact ⟨c, e, cy, m0, m1⟩
theorem head_iff {ns : List Int} (lo : Low ns.length ns) {p q : Int} (p0 : 0 ≤ p) (p1 : p < (ns.length : Int)) (q0 : 0 ≤ q) (q1 : q < (ns.length : Int)) : headF ns p = headF ns q ↔ ringF ns p = ringF ns q := by
  constructor
  · intro e
    obtain ⟨c, e1, cy, _⟩ := headF_form lo p0 p1
    obtain ⟨d, e2, dy, _⟩ := headF_form lo q0 q1
    rw [e] at e1 cy
    rw [e1, e2, cy.uniq dy]
  · intro e
    unfold headF
    rw [e]
/-- the people below i whose ring begins with m -/
def compH (ns : List Int) (m : Int) (i : Nat) : List Int := ((List.range i).filter fun j : Nat => decide (headF ns (j : Int) = m)).map Int.ofNat
theorem compH_mem {ns : List Int} {m z : Int} {i : Nat} : z ∈ compH ns m i ↔ ∃ j : Nat, j < i ∧ headF ns (j : Int) = m ∧ z = (j : Int) := by
  unfold compH
  rw [List.mem_map]
  constructor
  · rintro ⟨j, hj, e⟩
    have q := List.mem_filter.mp hj
    exact ⟨j, List.mem_range.mp q.1, of_decide_eq_true q.2, e.symm⟩
  · rintro ⟨j, hj, e, rfl⟩
    exact ⟨j, List.mem_filter.mpr ⟨List.mem_range.mpr hj, decide_eq_true e⟩, rfl⟩
def compF (ns : List Int) (p : Int) : List Int := compH ns (headF ns p) ns.length
def CompsOf (ns : List Int) (CS : List (List Int)) : Prop := CS.Nodup ∧ CS.Pairwise (fun x y => HT.lexLt y x = false) ∧ ∀ k, k ∈ CS ↔ ∃ j : Nat, j < ns.length ∧ compF ns (j : Int) = k
theorem CompsOf.eq {ns : List Int} {a b : List (List Int)} (x : CompsOf ns a) (y : CompsOf ns b) : a = b := lex_uniq a b x.1 y.1 x.2.1 y.2.1 fun k => (x.2.2 k).trans (y.2.2 k).symm
theorem nd_subG {α : Type} [DecidableEq α] : ∀ (a b : List α), a.Nodup → (∀ x ∈ a, x ∈ b) → a.length ≤ b.length
  | [], b, _, _ => Nat.zero_le _
  | x :: a, b, nd, h => by
    have q := List.nodup_cons.mp nd
    have xb := h x List.mem_cons_self
    have := nd_subG a (b.erase x) q.2 fun y hy => (List.mem_erase_of_ne (fun e : y = x => q.1 (by rw [← e]; exact hy))).mpr (h y (List.mem_cons_of_mem _ hy))
    rw [List.length_erase_of_mem xb] at this
    have := List.length_pos_of_mem xb
    rw [List.length_cons]; omega
theorem CompsOf.len {ns : List Int} {CS : List (List Int)} (h : CompsOf ns CS) : CS.length ≤ ns.length := by
  have := nd_subG CS ((List.range ns.length).map fun j : Nat => compF ns (j : Int)) h.1 fun x hx => by
    obtain ⟨j, hj, e⟩ := (h.2.2 x).mp hx
    exact List.mem_map.mpr ⟨j, List.mem_range.mpr hj, e⟩
  rw [List.length_map, List.length_range] at this
  exact this
/-- together they hold everybody once -/
theorem CompsOf.sum {ns : List Int} {CS : List (List Int)} (h : CompsOf ns CS) : (CS.map List.length).sum = ns.length := by
  rw [← List.length_flatten]
  have nd : CS.flatten.Nodup := by
    refine List.pairwise_flatten.mpr ⟨fun l hl => ?_, List.Pairwise.imp_of_mem (fun {a b} ha hb ne x hx y hy e => ?_) h.1⟩
    · obtain ⟨j, _, e⟩ := (h.2.2 l).mp hl
      rw [← e]
      refine List.pairwise_map.mpr (List.Pairwise.imp (fun {a b} ne e => ne (Int.ofNat.inj e)) (List.Pairwise.filter _ List.nodup_range))
    · subst e
      obtain ⟨i, _, ei⟩ := (h.2.2 a).mp ha
      obtain ⟨j, _, ej⟩ := (h.2.2 b).mp hb
      rw [← ei] at hx
      rw [← ej] at hy
      obtain ⟨u, _, h1, e1⟩ := compH_mem.mp hx
      obtain ⟨v, _, h2, e2⟩ := compH_mem.mp hy
      have : u = v := by omega
      subst this
      refine ne ?_
      rw [← ei, ← ej]
      unfold compF
      rw [← h1, h2]
  refine Nat.le_antisymm (low_len _ _ nd fun z hz => ?_) ?_
  · obtain ⟨l, hl, hz⟩ := List.mem_flatten.mp hz
    obtain ⟨j, _, e⟩ := (h.2.2 l).mp hl
    rw [← e] at hz
    obtain ⟨u, hu, _, eu⟩ := compH_mem.mp hz
    omega
  · have := nd_subG ((List.range ns.length).map Int.ofNat) CS.flatten (List.pairwise_map.mpr (List.Pairwise.imp (fun {a b} ne e => ne (Int.ofNat.inj e)) List.nodup_range)) fun x hx => by
      obtain ⟨j, hj, e⟩ := List.mem_map.mp hx
      have hj' := List.mem_range.mp hj
      refine List.mem_flatten.mpr ⟨compF ns (j : Int), (h.2.2 _).mpr ⟨j, hj', rfl⟩, ?_⟩
      exact compH_mem.mpr ⟨j, hj', rfl, e.symm⟩
    rw [List.length_map, List.length_range] at this
    exact this
theorem gt_callN {ns : List Int} {w p : Int} (w0 : 0 ≤ w) (w1 : w < (ns.length : Int)) (p0 : 0 ≤ p) : gt (call1 ns w) p = if p = w then gt ns (gt ns w) else gt ns p := by
  show (ns.set w.toNat (gt ns (gt ns w))).getD p.toNat 0 = if p = w then _ else ns.getD p.toNat 0
  rw [List.getD_eq_getElem?_getD, List.getD_eq_getElem?_getD, List.getElem?_set]
  by_cases h : p = w
  · subst h
    rw [if_pos rfl, if_pos rfl, if_pos (by omega)]; rfl
  · rw [if_neg h, if_neg (by omega)]
section
variable {ns : List Int} (lo : Low ns.length ns) {w : Int} (w0 : 0 ≤ w) (w1 : w < (ns.length : Int))
include lo w0 w1
theorem low_call : Low (call1 ns w).length (call1 ns w) := by
  rw [call1_len]; exact call1_low lo rfl w0 w1
/-- a step behind the call is one or two steps ahead of it -/
theorem itr_call {p : Int} (p0 : 0 ≤ p) (p1 : p < (ns.length : Int)) : ∀ k, ∃ k', k ≤ k' ∧ itr (call1 ns w) p k = itr ns p k'
  | 0 => ⟨0, Nat.le_refl _, rfl⟩
  | k + 1 => by
    obtain ⟨k', hk, e⟩ := itr_call p0 p1 k
    have l := itr_low lo p0 p1 k'
    have g := gt_callN w0 w1 l.1 (ns := ns)
    have e2 : itr (call1 ns w) p (k + 1) = gt (call1 ns w) (itr ns p k') := congrArg (gt (call1 ns w)) e
    by_cases z : itr ns p k' = w
    · refine ⟨k' + 2, by omega, ?_⟩
      rw [e2, g, if_pos z, ← z]; rfl
    · refine ⟨k' + 1, by omega, ?_⟩
      rw [e2, g, if_neg z]; rfl
theorem ring_stepC {p : Int} (p0 : 0 ≤ p) (p1 : p < (ns.length : Int)) : ringF (call1 ns w) (gt ns p) = ringF (call1 ns w) p := by
  have lc := low_call lo w0 w1
  have len : (call1 ns w).length = ns.length := call1_len _ _
  have g := gt_low lo p0 p1
  by_cases z : p = w
  · subst z
    by_cases y : gt ns p = p
    · rw [y]
    · have s1 := ringF_step lc (p := p) p0 (by rw [len]; exact p1)
      have s2 := ringF_step lc (p := gt ns p) g.1 (by rw [len]; exact g.2)
      rw [gt_callN w0 w1 p0, if_pos rfl] at s1
      rw [gt_callN w0 w1 g.1, if_neg y] at s2
      rw [← s2, s1]
  · have s1 := ringF_step lc (p := p) p0 (by rw [len]; exact p1)
    rw [gt_callN w0 w1 p0, if_neg z] at s1
    exact s1
theorem ring_itrC {p : Int} (p0 : 0 ≤ p) (p1 : p < (ns.length : Int)) : ∀ k, ringF (call1 ns w) (itr ns p k) = ringF (call1 ns w) p
  | 0 => rfl
  | k + 1 => by
    have l := itr_low lo p0 p1 k
    show ringF (call1 ns w) (gt ns (itr ns p k)) = _
    rw [ring_stepC lo w0 w1 l.1 l.2, ring_itrC p0 p1 k]
end
theorem ring_itr {ns : List Int} (lo : Low ns.length ns) {p m : Int} (p0 : 0 ≤ p) (p1 : p < (ns.length : Int)) (h : m ∈ ringF ns p) : ∃ s, itr ns p s = m := by
  obtain ⟨c, x, e, _⟩ := ringF_cyc lo p0 p1
  rw [e, x.turnF] at h
  have mm := minF_ok (itrs_ne (ns := ns) (q := itr ns p (heightF ns p)) x.1)
  obtain ⟨i, _, ei⟩ := itrs_mem.mp (((x.at mm.1).2 m).mp h)
  exact ⟨heightF ns p + i, by rw [itr_add]; exact ei⟩
theorem meet_iff {ns : List Int} (lo : Low ns.length ns) {p r : Int} (p0 : 0 ≤ p) (p1 : p < (ns.length : Int)) (r0 : 0 ≤ r) (r1 : r < (ns.length : Int)) : ringF ns p = ringF ns r ↔ ∃ s t, itr ns p s = itr ns r t := by
  constructor
  · intro e
    obtain ⟨m, c, e1, cy, _⟩ := ringF_form lo p0 p1
    have hm : m ∈ ringF ns p := by rw [e1]; exact itrs_mem.mpr ⟨0, cy.1, rfl⟩
    obtain ⟨s, es⟩ := ring_itr lo p0 p1 hm
    obtain ⟨t, et⟩ := ring_itr lo r0 r1 (e ▸ hm)
    exact ⟨s, t, es.trans et.symm⟩
  · rintro ⟨s, t, e⟩
    rw [← ringF_itr lo p0 p1 s, ← ringF_itr lo r0 r1 t, e]
theorem ring_call {ns : List Int} (lo : Low ns.length ns) {w p r : Int} (w0 : 0 ≤ w) (w1 : w < (ns.length : Int)) (p0 : 0 ≤ p) (p1 : p < (ns.length : Int)) (r0 : 0 ≤ r) (r1 : r < (ns.length : Int)) : ringF ns p = ringF ns r ↔ ringF (call1 ns w) p = ringF (call1 ns w) r := by
  have lc := low_call lo w0 w1
  have len : (call1 ns w).length = ns.length := call1_len _ _
  constructor
  · intro e
    obtain ⟨s, t, e⟩ := (meet_iff lo p0 p1 r0 r1).mp e
    rw [← ring_itrC lo w0 w1 p0 p1 s, ← ring_itrC lo w0 w1 r0 r1 t, e]
  · intro e
    obtain ⟨s, t, e⟩ := (meet_iff lc p0 (by rw [len]; exact p1) r0 (by rw [len]; exact r1)).mp e
    obtain ⟨s', _, es⟩ := itr_call lo w0 w1 p0 p1 s
    obtain ⟨t', _, et⟩ := itr_call lo w0 w1 r0 r1 t
    exact (meet_iff lo p0 p1 r0 r1).mpr ⟨s', t', by rw [← es, ← et]; exact e⟩
theorem comp_call {ns : List Int} (lo : Low ns.length ns) {w : Int} (w0 : 0 ≤ w) (w1 : w < (ns.length : Int)) {p : Nat} (hp : p < ns.length) : compF (call1 ns w) (p : Int) = compF ns (p : Int) := by
  have lc := low_call lo w0 w1
  have len : (call1 ns w).length = ns.length := call1_len _ _
  unfold compF compH
  rw [len]
  congr 1
  refine List.filter_congr fun j hj => ?_
  have hj' := List.mem_range.mp hj
  have a := head_iff lo (p := (j : Int)) (q := (p : Int)) (by omega) (by omega) (by omega) (by omega)
  have b := head_iff lc (p := (j : Int)) (q := (p : Int)) (by omega) (by omega) (by omega) (by omega)
  have c := ring_call lo w0 w1 (p := (j : Int)) (r := (p : Int)) (by omega) (by omega) (by omega) (by omega)
  by_cases z : headF ns (j : Int) = headF ns (p : Int)
  · rw [decide_eq_true z, decide_eq_true (b.mpr (c.mp (a.mp z)))]
  · rw [decide_eq_false z, decide_eq_false (fun y => z (a.mpr (c.mpr (b.mp y))))]
theorem CompsOf.call {ns : List Int} (lo : Low ns.length ns) {w : Int} (w0 : 0 ≤ w) (w1 : w < (ns.length : Int)) {CS : List (List Int)} (h : CompsOf ns CS) : CompsOf (call1 ns w) CS := by
  refine ⟨h.1, h.2.1, fun k => (h.2.2 k).trans ?_⟩
  rw [call1_len]
  constructor
  · rintro ⟨j, hj, e⟩; exact ⟨j, hj, (comp_call lo w0 w1 hj).trans e⟩
  · rintro ⟨j, hj, e⟩; exact ⟨j, hj, (comp_call lo w0 w1 hj).symm.trans e⟩
theorem ring_at {ns : List Int} (lo : Low ns.length ns) {m : Int} (m0 : 0 ≤ m) (m1 : m < (ns.length : Int)) {c : Nat} (cy : Cyc ns m c) : ringF ns m = turnF (itrs ns m c) := by
  obtain ⟨d, x, e, _⟩ := ringF_cyc lo m0 m1
  rw [e]
  exact x.same cy (z := itr ns m (heightF ns m)) (x.all 0) (cy.all _)
end Lp

namespace Lp
open PySem PySem.Spec PyProof.Rows L2
def gv (i : Nat) (o : Option SV) (ε : Env) (Q : R → Env → Prop) : Prop := match o with
  | some (.sh d) => Q (.sh d) ε
  | some (.ow ds) => Q (.br i ds) ε
  | some .bx => Q .bx ε
  | some (.raw v) => Q (.raw v) ε
  | some (.st S n) => Q (.sr i S n) ε
  | some (.exn x) => Q (.exn x) ε
  | some (.dco xs) => Q (.dbr i xs) ε
  | some (.sto M) => Q (.srt i M) ε
  | some (.dsh xs) => Q (.dsh xs) ε
  | some (.gen g) => Q (.gen g) ε
  | _ => False
theorem dVar_ (i : Nat) (ε : Env) (Q : R → Env → Prop) : dVar i ε Q = gv i ε.s[i]? ε Q := rfl
section
variable (i : Nat) (ε : Env) (Q : R → Env → Prop)
theorem gv_sh (d : PyData) : gv i (some (.sh d)) ε Q = Q (.sh d) ε := rfl
theorem gv_ow (ds : List PyData) : gv i (some (.ow ds)) ε Q = Q (.br i ds) ε := rfl
theorem gv_bx : gv i (some .bx) ε Q = Q .bx ε := rfl
theorem gv_raw (v : V) : gv i (some (.raw v)) ε Q = Q (.raw v) ε := rfl
theorem gv_exn (x : Xn) : gv i (some (.exn x)) ε Q = Q (.exn x) ε := rfl
theorem gv_st (S : Int → Bool) (n : Nat) : gv i (some (.st S n)) ε Q = Q (.sr i S n) ε := rfl
end
def ga (F : DSp) (o : Option (List SV)) (b : Bool) (ε : Env) (Q : R → Env → Prop) : Prop := match o with
  | some args => F args ε.c fun r c => match b with
    | true => immR r = true ∧ Q r ⟨ε.s, c⟩
    | false => Q r ⟨ε.s, c⟩
  | none => False
theorem dArgs_ (F : DSp) (rs : List R) (ε : Env) (Q : R → Env → Prop) : dArgs F rs ε Q = ga F (argsOf rs) (hasBr rs) ε Q := rfl
theorem ga_f (F : DSp) (args : List SV) (ε : Env) (Q : R → Env → Prop) : ga F (some args) false ε Q = F args ε.c fun r c => Q r ⟨ε.s, c⟩ := rfl
theorem ga_t (F : DSp) (args : List SV) (ε : Env) (Q : R → Env → Prop) : ga F (some args) true ε Q = F args ε.c fun r c => immR r = true ∧ Q r ⟨ε.s, c⟩ := rfl
def gi (r : R) (ε : Env) (Q : List PyData → Bool → Env → Prop) : Prop := match r with
  | .sh (.list ds) => Q ds true ε
  | .sh (.tuple ds) => Q ds true ε
  | .br _ ds => Q ds false ε
  | _ => False
theorem dIter_ (f : DTE) (ε : Env) (Q : List PyData → Bool → Env → Prop) : dIter f ε Q = f ε fun r ε1 => gi r.pub ε1 Q := rfl
theorem gi_l (ds : List PyData) (ε : Env) (Q : List PyData → Bool → Env → Prop) : gi (.sh (.list ds)) ε Q = Q ds true ε := rfl
theorem gi_t (ds : List PyData) (ε : Env) (Q : List PyData → Bool → Env → Prop) : gi (.sh (.tuple ds)) ε Q = Q ds true ε := rfl
theorem gi_b (i : Nat) (ds : List PyData) (ε : Env) (Q : List PyData → Bool → Env → Prop) : gi (.br i ds) ε Q = Q ds false ε := rfl
section
variable (Q : R → Prop)
theorem add_i (i j : Int) : φAdd (.int i) (.int j) Q = Q (.sh (.int (i + j))) := rfl
theorem add_l (a b : List PyData) : φAdd (.list a) (.list b) Q = (a.length + b.length ≤ sizeLine ∧ Q (.nw (a ++ b))) := rfl
theorem add_t (a b : List PyData) : φAdd (.tuple a) (.tuple b) Q = (a.length + b.length ≤ sizeLine ∧ Q (.sh (.tuple (a ++ b)))) := rfl
theorem mul_i (i j : Int) : φMul (.int i) (.int j) Q = (CMulW i j ∧ Q (.sh (.int (i * j)))) := rfl
theorem mul_l (a : List PyData) (k : Int) : φMul (.list a) (.int k) Q = ((-(2 ^ 63) ≤ k ∧ k < 2 ^ 63 ∧ a.length * k.toNat ≤ sizeLine) ∧ Q (.nw (List.replicate k.toNat a).flatten)) := rfl
theorem sl_l (ds : List PyData) (l h : Option Int) : φSl (.list ds) l h Q = Q (.nw (cutD ds l h)) := rfl
theorem sl_t (ds : List PyData) (l h : Option Int) : φSl (.tuple ds) l h Q = Q (.sh (.tuple (cutD ds l h))) := rfl
theorem eq_i (n : Bool) (i j : Int) : φEq n (.int i) (.int j) Q = Q (.sh (.bool (if n then !decide (i = j) else decide (i = j)))) := rfl
theorem eq_s (n : Bool) (i j : Str) : φEq n (.str i) (.str j) Q = Q (.sh (.bool (if n then !decide (i = j) else decide (i = j)))) := rfl
theorem eq_l (n : Bool) (a b : List PyData) : φEq n (.list a) (.list b) Q = ((SeqAt.shaped (.list a) = true ∧ SeqAt.shaped (.list b) = true) ∧ Q (.sh (.bool (if n then !PyData.eqv (.list a) (.list b) else PyData.eqv (.list a) (.list b))))) := rfl
theorem eq_t (n : Bool) (a b : List PyData) : φEq n (.tuple a) (.tuple b) Q = ((SeqAt.shaped (.tuple a) = true ∧ SeqAt.shaped (.tuple b) = true) ∧ Q (.sh (.bool (if n then !PyData.eqv (.tuple a) (.tuple b) else PyData.eqv (.tuple a) (.tuple b))))) := rfl
theorem eq_b (n : Bool) (a b : Bool) : φEq n (.bool a) (.bool b) Q = ((SeqAt.shaped (.bool a) = true ∧ SeqAt.shaped (.bool b) = true) ∧ Q (.sh (.bool (if n then !PyData.eqv (.bool a) (.bool b) else PyData.eqv (.bool a) (.bool b))))) := rfl
theorem eq_n (n : Bool) : φEq n .none .none Q = ((SeqAt.shaped .none = true ∧ SeqAt.shaped .none = true) ∧ Q (.sh (.bool (if n then !PyData.eqv .none .none else PyData.eqv .none .none)))) := rfl
end
end Lp

namespace Lp
open PySem PySem.Spec PyProof.Rows L2
theorem its_l (ds : List PyData) : PyData.its (.list ds) = some ds := rfl
theorem its_t (ds : List PyData) : PyData.its (.tuple ds) = some ds := rfl
theorem isN_n : isN .none = true := rfl
theorem isN_b (b : Bool) : isN (.bool b) = false := rfl
theorem isN_i (z : Int) : isN (.int z) = false := rfl
theorem isN_s (x : Str) : isN (.str x) = false := rfl
theorem isN_l (ds : List PyData) : isN (.list ds) = false := rfl
theorem isN_t (ds : List PyData) : isN (.tuple ds) = false := rfl
theorem rd_sh (d : PyData) : R.dat (.sh d) = some d := rfl
theorem rd_nw (ds : List PyData) : R.dat (.nw ds) = some (.list ds) := rfl
theorem rd_br (i : Nat) (ds : List PyData) : R.dat (.br i ds) = some (.list ds) := rfl
theorem rp_sh (d : PyData) : R.pub (.sh d) = .sh d := rfl
theorem rp_nw (ds : List PyData) : R.pub (.nw ds) = .sh (.list ds) := rfl
theorem rp_br (i : Nat) (ds : List PyData) : R.pub (.br i ds) = .br i ds := rfl
theorem rp_bx : R.pub .bx = .bx := rfl
theorem rp_raw (v : V) : R.pub (.raw v) = .raw v := rfl
theorem rp_sr (i : Nat) (S : Int → Bool) (n : Nat) : R.pub (.sr i S n) = .sr i S n := rfl
theorem rr_sh (d : PyData) : R.ret (.sh d) = some (.sh d) := rfl
theorem rr_nw (ds : List PyData) : R.ret (.nw ds) = some (.nw ds) := rfl
theorem rr_br (i : Nat) (ds : List PyData) : R.ret (.br i ds) = some (.nw ds) := rfl
theorem ra_sh (d : PyData) : R.arg (.sh d) = some (.sh d) := rfl
theorem ra_br (i : Nat) (ds : List PyData) : R.arg (.br i ds) = some (.sh (.list ds)) := rfl
theorem ra_bx : R.arg .bx = some .bx := rfl
theorem ra_raw (v : V) : R.arg (.raw v) = some (.raw v) := rfl
theorem va_sh (o : Bool) (d : PyData) : val o (.sh d) = some (.sh d) := rfl
theorem va_nt (ds : List PyData) : val true (.nw ds) = some (.ow ds) := rfl
theorem va_nf (ds : List PyData) : val false (.nw ds) = some (.sh (.list ds)) := rfl
theorem va_raw (o : Bool) (v : V) : val o (.raw v) = some (.raw v) := rfl
theorem hb_n : hasBr [] = false := rfl
theorem hb_sh (d : PyData) (rs : List R) : hasBr (.sh d :: rs) = hasBr rs := rfl
theorem hb_bx (rs : List R) : hasBr (.bx :: rs) = hasBr rs := rfl
theorem hb_raw (v : V) (rs : List R) : hasBr (.raw v :: rs) = hasBr rs := rfl
theorem hb_br (i : Nat) (ds : List PyData) (rs : List R) : hasBr (.br i ds :: rs) = true := rfl
theorem sh_n : shs [] = some [] := rfl
theorem sh_c (d : PyData) (rs : List R) : shs (.sh d :: rs) = match shs rs with
    | some ds => some (d :: ds)
    | none => none := rfl
theorem tr_n : truD .none = some false := rfl
theorem tr_b (b : Bool) : truD (.bool b) = some b := rfl
theorem tr_i (z : Int) : truD (.int z) = some (z != 0) := rfl
theorem tr_l (ds : List PyData) : truD (.list ds) = some (!ds.isEmpty) := rfl
theorem tr_t (ds : List PyData) : truD (.tuple ds) = some (!ds.isEmpty) := rfl
theorem ty_n : tyD .none = "NoneType" := rfl
theorem ty_b (b : Bool) : tyD (.bool b) = "bool" := rfl
theorem ty_i (z : Int) : tyD (.int z) = "int" := rfl
theorem ty_s (x : Str) : tyD (.str x) = "str" := rfl
theorem ty_l (ds : List PyData) : tyD (.list ds) = "list" := rfl
theorem ty_t (ds : List PyData) : tyD (.tuple ds) = "tuple" := rfl
universe u
theorem if_ff {α : Sort u} (a b : α) : (if false = true then a else b) = b := rfl
theorem if_tt {α : Sort u} (a b : α) : (if true = true then a else b) = a := rfl
theorem sq_ {p q : DTS} {Δ : DEnds} {ε : Env} (h : p { Δ with nx := q Δ } ε) : dSeq p q Δ ε := h
theorem if_t {b : Bool} {A B : Prop} (h : b = true) (a : A) : if b = true then A else B := by rw [if_pos h]; exact a
theorem if_f {b : Bool} {A B : Prop} (h : b = false) (x : B) : if b = true then A else B := by rw [h]; exact iteF x
theorem it_t {P A B : Prop} [Decidable P] (h : P) (a : A) : if decide P = true then A else B := if_t (decide_eq_true h) a
theorem it_f {P A B : Prop} [Decidable P] (h : ¬ P) (x : B) : if decide P = true then A else B := if_f (decide_eq_false h) x
theorem it_2 {P A B : Prop} [Decidable P] (h : P → A) (k : ¬ P → B) : if decide P = true then A else B := by
  by_cases q : P
  · exact it_t q (h q)
  · exact it_f q (k q)
theorem in_t {P A B : Prop} [Decidable P] (h : ¬ P) (a : A) : if (!decide P) = true then A else B := if_t (by rw [decide_eq_false h]; rfl) a
theorem in_f {P A B : Prop} [Decidable P] (h : P) (x : B) : if (!decide P) = true then A else B := if_f (by rw [decide_eq_true h]; rfl) x
theorem in_2 {P A B : Prop} [Decidable P] (h : ¬ P → A) (k : P → B) : if (!decide P) = true then A else B := by
  by_cases q : P
  · exact in_f q (k q)
  · exact in_t q (h q)
theorem dI_len (ns : List Int) : (dI ns).length = ns.length := List.length_map ..
theorem dI_get {ns : List Int} {i : Nat} {z : Int} (h : ns[i]? = some z) : (dI ns)[i]? = some (.int z) := by rw [List.getElem?_map, h]; rfl
theorem dI_app (a b : List Int) : dI a ++ dI b = dI (a ++ b) := by
  show a.map _ ++ b.map _ = _
  rw [← List.map_append]
theorem dI_snoc (a : List Int) (z : Int) : dI a ++ [.int z] = dI (a ++ [z]) := dI_app a [z]
theorem dI_set (ns : List Int) (i : Nat) (z : Int) : (dI ns).set i (.int z) = dI (ns.set i z) := by
  exact (List.map_set ..).symm
theorem dI_erase : ∀ (ns : List Int) (i : Nat), (dI ns).eraseIdx i = dI (ns.eraseIdx i)
  | [], _ => rfl
  | _ :: _, 0 => rfl
  | x :: r, i + 1 => by
    show _ :: (dI r).eraseIdx i = _ :: dI (r.eraseIdx i)
    rw [dI_erase r i]
theorem atI_nat {α : Type} {xs : List α} {i : Int} (h0 : 0 ≤ i) (h1 : i < (xs.length : Int)) : atI xs i = xs[i.toNat]? := by
  unfold atI ixN
  rw [if_pos h0, if_pos h1]; rfl
theorem atI_dI {ns : List Int} {i : Int} (h0 : 0 ≤ i) (h1 : i < (ns.length : Int)) : atI (dI ns) i = some (.int (gt ns i)) := by
  rw [atI_nat h0 (by rw [dI_len]; exact h1)]
  exact dI_get (gt_get h0 h1)
theorem ixN_ok {n : Nat} {i : Int} (h0 : 0 ≤ i) (h1 : i < (n : Int)) : ixN n i = some i.toNat := by
  unfold ixN; rw [if_pos h0, if_pos h1]
theorem sIx_int (n d : Nat) (k : Int) (h : 0 ≤ k) : HT.sIx n d (some k) = min k.toNat n := by
  have e : k = ((k.toNat : Nat) : Int) := by omega
  rw [e]; rw [HT.sIx_nat]; congr 1
/-- a state: people 0 .. n - 1, at most 1000 -/
structure Stt (ns : List Int) : Prop where
  lo : Low ns.length ns
  le : ns.length ≤ 1000
  ge : 1 ≤ ns.length
def Per (ns : List Int) (p : Int) : Prop := 0 ≤ p ∧ p < (ns.length : Int)
theorem Stt.gt {ns : List Int} (h : Stt ns) {p : Int} (hp : Per ns p) : Per ns (gt ns p) := gt_low h.lo hp.1 hp.2
def LowO (n : Nat) (os : List (Option Int)) : Prop := ∀ z, some z ∈ os → 0 ≤ z ∧ z < (n : Int)
theorem LowO.of {n : Nat} {ns : List Int} (lo : Low n ns) : LowO n (ns.map some) := fun z hz => by
  obtain ⟨y, hy, e⟩ := List.mem_map.mp hz
  cases e
  exact lo z hy
theorem for_cons {γ : DTG} {p : DTS} {Δ : DEnds} {d : PyData} {ds : List PyData} {ε : Env} (h : γ d ε fun ε1 => p { nx := forD γ p Δ ds, rt := Δ.rt, bk := Δ.nx, ct := forD γ p Δ ds } ε1) : forD γ p Δ (d :: ds) ε := h
theorem lc_cons {γ : DTG} {c : DTT} {f : DTE} {vs : List Nat} {s : List SV} {Q : R → Env → Prop} {d : PyData} {ds acc : List PyData} {n : Nat} (h : γ d ⟨wipeE ⟨s, n⟩ vs, n⟩ fun ε1 => c ε1 fun b ε2 => if b = true then f ε2 fun r ε3 => match r.pub with
      | .sh e => acc.length < sizeLine ∧ lcD γ c f vs s Q ds (acc ++ [e]) ε3.c
      | _ => False
    else lcD γ c f vs s Q ds acc ε2.c) : lcD γ c f vs s Q (d :: ds) acc n := h
theorem lc_all {α : Type} {γ : DTG} {f : DTE} {vs : List Nat} {s : List SV} {Q : R → Env → Prop} {n : Nat} (h e : α → PyData) : ∀ (xs : List α) (acc : List PyData),
    (∀ x ∈ xs, ∀ K : R → Env → Prop, (∀ r ε, r.pub = .sh (e x) → ε.c = n → K r ε) → γ (h x) ⟨wipeE ⟨s, n⟩ vs, n⟩ fun ε1 => f ε1 K) →
    acc.length + xs.length ≤ 16777216 → Q (.nw (acc ++ xs.map e)) ⟨s, n⟩ → lcD γ dYes f vs s Q (xs.map h) acc n
  | [], acc, _, _, q => by
    rw [List.map_nil, List.append_nil] at q
    exact q
  | x :: xs, acc, st, le, q => by
    rw [List.length_cons] at le
    rw [List.map_cons]
    refine lc_cons ?_
    refine st x List.mem_cons_self (fun r ε3 => match r.pub with
      | .sh e => acc.length < sizeLine ∧ lcD γ dYes f vs s Q (xs.map h) (acc ++ [e]) ε3.c
      | _ => False) fun r ε hr hc => ?_
    rw [hr, hc]
    refine ⟨show acc.length < 16777216 by omega, ?_⟩
    refine lc_all h e xs (acc ++ [e x]) (fun y hy => st y (List.mem_cons_of_mem _ hy)) (by rw [List.length_append, List.length_singleton]; omega) ?_
    rw [List.append_assoc]; exact q
theorem Stt.rt {ns : List Int} (h : Stt ns) {p : Int} (hp : Per ns p) : Route ns p (routeF ns p) := routeF_ok h.lo hp.1 hp.2
theorem route_low {ns : List Int} (h : Stt ns) {p : Int} (hp : Per ns p) : Low ns.length (routeF ns p) := by
  obtain ⟨L, e, nd, hin⟩ := h.rt hp
  intro z hz
  rw [e] at hz
  obtain ⟨i, _, ei⟩ := itrs_mem.mp hz
  rw [← ei]; exact itr_low h.lo hp.1 hp.2 i
theorem route_len {ns : List Int} (h : Stt ns) {p : Int} (hp : Per ns p) : 1 ≤ (routeF ns p).length ∧ (routeF ns p).length ≤ ns.length := by
  obtain ⟨L, e, nd, hin⟩ := h.rt hp
  refine ⟨?_, low_len ns.length _ nd (route_low h hp)⟩
  exact List.length_pos_iff.mpr fun z => by rw [z] at hin; cases hin
/-- the last one of a route, and whom they point at -/
theorem route_last {ns : List Int} (h : Stt ns) {p : Int} (hp : Per ns p) : ∃ l, (routeF ns p).getLast? = some l ∧ Per ns l ∧ gt ns l ∈ routeF ns p ∧ (routeF ns p).getLastD 0 = l := by
  obtain ⟨L, e, nd, hin⟩ := h.rt hp
  have l1 := (route_len h hp).1
  have hL : (routeF ns p).length = L := by rw [e, itrs_len]
  have el : (routeF ns p)[L - 1]? = some (itr ns p (L - 1)) := by rw [e]; exact itrs_get (by omega)
  have e2 : (routeF ns p).getLast? = some (itr ns p (L - 1)) := by rw [List.getLast?_eq_getElem?, hL]; exact el
  refine ⟨itr ns p (L - 1), e2, itr_low h.lo hp.1 hp.2 _, ?_, ?_⟩
  · have : gt ns (itr ns p (L - 1)) = itr ns p L := by
      have : L = L - 1 + 1 := by omega
      rw [this]; rfl
    rw [this]; exact hin
  · rw [List.getLastD_eq_getLast?, e2]; rfl
theorem begin_lt {ns : List Int} (h : Stt ns) {p : Int} (hp : Per ns p) : heightF ns p < (routeF ns p).length := by
  obtain ⟨l, l1, l2, l3, l4⟩ := route_last h hp
  unfold heightF beginF
  rw [l4]; exact List.idxOf_lt_length_of_mem l3
end Lp

namespace Lp
open PySem PySem.Spec PyProof.Rows L2
local macro_rules | `(tactic| rfl') => `(tactic| try dsimp only [dVar_, gv_sh, gv_ow, gv_bx, gv_raw, gv_st, dC, dRaw, dOp, dUn, dTest, dTruth, dAnd, dOr, dNot, dYes, dIf, dAndV, dOrV, dNotV, dNotT, dChain, dNil, dCons, dTup, dLst, dats, dCB, dNoP, dPart, dSl, dNext, dBreak, dCont, dNever, dDrop, dRet, dRetN, dIfS, dSetG, dPar, dPar3, dAppend, dAppPop, dSetIx, dExt, dAug, dSet0, dSAdd, dSNotIn, dIter_, gi_l, gi_t, gi_b, dRng1, dRng2, dName, dGNil, dGCons, dGTup, dAsg, dFor, dWhile, dCall, dCallR, dArgs_, ga_f, ga_t, argsOf, dLc, wipeE, dListRg, dIndex, dSortSet, dSortSc, dEnum, dEnA, dZip, dIsi, dIsi2, isaT, φI, φB, φC, φNeg, add_i, add_l, add_t, mul_i, mul_l, φIx, sl_l, sl_t, eq_i, eq_s, eq_l, eq_t, eq_b, eq_n, φIsN, isN_n, isN_b, isN_i, isN_s, isN_l, isN_t, φLen, φList, φTuple, φAbs, φInt, φMax, φIsB, φIsNB, its_l, its_t, rd_sh, rd_nw, rd_br, rp_sh, rp_nw, rp_br, rp_bx, rp_raw, rp_sr, rr_sh, rr_nw, rr_br, ra_sh, ra_br, ra_bx, ra_raw, va_sh, va_nt, va_nf, va_raw, hb_n, hb_sh, hb_bx, hb_raw, hb_br, sh_n, sh_c, tr_n, tr_b, tr_i, tr_l, tr_t, ty_n, ty_b, ty_i, ty_s, ty_l, ty_t, if_ff, if_tt, Env.set, List.getElem?_cons_succ, List.getElem?_cons_zero, List.set_cons_succ, List.set_cons_zero, List.reverse_cons, List.reverse_nil, List.nil_append, List.cons_append, Option.bind_some, ite_true, ite_false])
theorem per_nat {ns : List Int} {j : Nat} (h : j < ns.length) : Per ns (j : Int) := ⟨Int.natCast_nonneg _, by omega⟩
theorem ring_ne {ns : List Int} (h : Stt ns) {p : Int} (hp : Per ns p) : ringF ns p ≠ [] := by
  unfold ringF
  refine turnF_ne fun e => ?_
  have := congrArg List.length e
  have h := begin_lt h hp
  rw [List.length_drop, List.length_nil] at this
  unfold heightF at h
  omega
theorem φAll_dB {any : Bool} {bs : List Bool} {Q : R → Prop} (q : Q (.sh (.bool (if any then bs.any id else bs.all id)))) : φAll any [.list (dB bs)] Q := by
  unfold φAll
  dsimp only
  rw [boolsD_dB]
  exact q
theorem dB_map {α : Type} (xs : List α) (f : α → Bool) : (xs.map fun x => PyData.bool (f x)) = dB (xs.map f) := by
  show _ = (xs.map f).map _
  rw [List.map_map]; rfl
theorem ring_le {ns : List Int} (h : Stt ns) {p : Int} (hp : Per ns p) : (ringF ns p).length ≤ ns.length := by
  unfold ringF turnF
  rw [List.length_append, List.length_drop, List.length_take, List.length_drop]
  have := (route_len h hp).2
  omega
theorem RingsOf.mem {ns : List Int} (h : Stt ns) {RS : List (List Int)} (hR : RingsOf ns RS) {r : List Int} (hr : r ∈ RS) : r ≠ [] ∧ r.length ≤ ns.length := by
  obtain ⟨j, hj, rfl⟩ := (hR.2.2 r).mp hr
  exact ⟨ring_ne h (per_nat hj), ring_le h (per_nat hj)⟩
theorem RingsOf.len {ns : List Int} {RS : List (List Int)} (hR : RingsOf ns RS) : RS.length ≤ ns.length := by
  have := nd_subG RS ((List.range ns.length).map fun i : Nat => ringF ns (i : Int)) hR.1 fun r hr => by
    obtain ⟨j, hj, e⟩ := (hR.2.2 r).mp hr
    exact List.mem_map.mpr ⟨j, List.mem_range.mpr hj, e⟩
  rw [List.length_map, List.length_range] at this
  exact this
end Lp

namespace Lp
open PySem PySem.Spec PyProof.Rows L2
local macro_rules | `(tactic| rfl') => `(tactic| try dsimp only [dVar_, gv_sh, gv_ow, gv_bx, gv_raw, gv_st, dC, dRaw, dOp, dUn, dTest, dTruth, dAnd, dOr, dNot, dYes, dIf, dAndV, dOrV, dNotV, dNotT, dChain, dNil, dCons, dTup, dLst, dats, dCB, dNoP, dPart, dSl, dNext, dBreak, dCont, dNever, dDrop, dRet, dRetN, dIfS, dSetG, dPar, dPar3, dAppend, dAppPop, dSetIx, dExt, dAug, dSet0, dSAdd, dSNotIn, dIter_, gi_l, gi_t, gi_b, dRng1, dRng2, dName, dGNil, dGCons, dGTup, dAsg, dFor, dWhile, dCall, dCallR, dArgs_, ga_f, ga_t, argsOf, dLc, wipeE, dListRg, dIndex, dSortSet, dSortSc, dEnum, dEnA, dZip, dIsi, dIsi2, isaT, φI, φB, φC, φNeg, add_i, add_l, add_t, mul_i, mul_l, φIx, sl_l, sl_t, eq_i, eq_s, eq_l, eq_t, eq_b, eq_n, φIsN, isN_n, isN_b, isN_i, isN_s, isN_l, isN_t, φLen, φList, φTuple, φAbs, φInt, φMax, φIsB, φIsNB, its_l, its_t, rd_sh, rd_nw, rd_br, rp_sh, rp_nw, rp_br, rp_bx, rp_raw, rp_sr, rr_sh, rr_nw, rr_br, ra_sh, ra_br, ra_bx, ra_raw, va_sh, va_nt, va_nf, va_raw, hb_n, hb_sh, hb_bx, hb_raw, hb_br, sh_n, sh_c, tr_n, tr_b, tr_i, tr_l, tr_t, ty_n, ty_b, ty_i, ty_s, ty_l, ty_t, if_ff, if_tt, Env.set, List.getElem?_cons_succ, List.getElem?_cons_zero, List.set_cons_succ, List.set_cons_zero, List.reverse_cons, List.reverse_nil, List.nil_append, List.cons_append, Option.bind_some, ite_true, ite_false])
def p_law_take : DSp := fun args c Q => ∃ span : Int, args = [.bx, .sh (.int span)] ∧ 1 ≤ span ∧ span ≤ 10000000000000 ∧ c ≤ 900000000 ∧ ∀ (r : Int) (c' : Nat), 0 ≤ r → r < span → c' ≤ c + 3 → Q (.sh (.int r)) c'
theorem mon_law_take : MonF p_law_take := fun args c A B h ⟨s, e, h1, h2, h3, q⟩ => ⟨s, e, h1, h2, h3, fun r c' a b d => h _ _ (q r c' a b d)⟩
theorem c_take {span : Int} {c : Nat} {Q : R → Nat → Prop} (h1 : 1 ≤ span) (h2 : span ≤ 10000000000000) (h3 : c ≤ 900000000) (q : ∀ (r : Int) (c' : Nat), 0 ≤ r → r < span → c' ≤ c + 3 → Q (.sh (.int r)) c') : p_law_take [.bx, .sh (.int span)] c Q := ⟨span, rfl, h1, h2, h3, q⟩
/-- _law_pick: _law_box_here, _law_some -/
def b_law_pick : DTS := (dRet (dOp φIx (dVar 1) (dCall p_law_take (dCons (dVar 0) (dCons (dCB φLen (dCons (dVar 1) dNil)) dNil)))))
abbrev k_law_pick : Nat := 0
def p_law_pick : DSp := fun args c Q => ∃ (d : PyData) (ds : List PyData), args = [.bx, .sh d] ∧ PyData.its d = some ds ∧ ds ≠ [] ∧ ds.length ≤ 1000000 ∧ c ≤ 900000000 ∧ ∀ e c', e ∈ ds → c' ≤ c + 3 → Q (.sh e) c'
theorem mon_law_pick : MonF p_law_pick := fun args c A B h ⟨s, ds, e, h1, h2, h3, h4, q⟩ => ⟨s, ds, e, h1, h2, h3, h4, fun r c' a b => h _ _ (q r c' a b)⟩
theorem m_law_pick : ∀ args c Q, p_law_pick args c Q → defF k_law_pick b_law_pick args c Q := by
  rintro _ c Q ⟨d, ds, rfl, h1, h2, h3, h4, q⟩
  have hl : 1 ≤ ds.length := List.length_pos_iff.mpr h2
  show b_law_pick _ ⟨[.bx, .sh d], c⟩
  unfold b_law_pick
  rfl'
  rw [h1]
  rfl'
  refine c_take (by omega) (by omega) h4 fun r c' r0 r1 hc => ?_
  rfl'
  rw [h1]
  have hr : r.toNat < ds.length := by omega
  exact ⟨ds[r.toNat], by rw [atI_nat r0 r1]; exact List.getElem?_eq_getElem hr, q _ _ (List.getElem_mem hr) hc⟩
theorem erase_perm {α : Type} : ∀ (l : List α) (i : Nat) (h : i < l.length), (l[i] :: l.eraseIdx i).Perm l
  | _ :: _, 0, _ => List.Perm.refl _
  | x :: r, i + 1, h => (List.Perm.swap x (r[i]'(Nat.lt_of_succ_lt_succ h)) (r.eraseIdx i)).trans ((erase_perm r i (Nat.lt_of_succ_lt_succ h)).cons x)
def NetOk (n : Nat) (ns : List Int) : Prop := ns.length = n ∧ Low n ns
theorem perm_low {n : Nat} {ms : List Int} (h : ms.Perm ((List.range n).map fun i : Nat => (i : Int))) : ms.length = n ∧ Low n ms := by
  refine ⟨by rw [h.length_eq, List.length_map, List.length_range], fun z hz => ?_⟩
  obtain ⟨j, hj, rfl⟩ := List.mem_map.mp (h.mem_iff.mp hz)
  have := List.mem_range.mp hj
  omega
theorem enD_dI (ms : List Int) : enD (dI ms) = ms.zipIdx.map fun p => .tuple [.int (p.2 : Nat), .int p.1] := by
  unfold enD
  rw [List.mapIdx_eq_zipIdx_map]
  show ((ms.map _).zipIdx).map _ = _
  rw [List.zipIdx_map, List.map_map]
  rfl
end Lp

namespace Lp
open PySem PySem.Spec PyProof.Rows L2
local macro_rules | `(tactic| rfl') => `(tactic| try dsimp only [dVar_, gv_sh, gv_ow, gv_bx, gv_raw, gv_st, dC, dRaw, dOp, dUn, dTest, dTruth, dAnd, dOr, dNot, dYes, dIf, dAndV, dOrV, dNotV, dNotT, dChain, dNil, dCons, dTup, dLst, dats, dCB, dNoP, dPart, dSl, dNext, dBreak, dCont, dNever, dDrop, dRet, dRetN, dIfS, dSetG, dPar, dPar3, dAppend, dAppPop, dSetIx, dExt, dAug, dSet0, dSAdd, dSNotIn, dIter_, gi_l, gi_t, gi_b, dRng1, dRng2, dName, dGNil, dGCons, dGTup, dAsg, dFor, dWhile, dCall, dCallR, dArgs_, ga_f, ga_t, argsOf, dLc, wipeE, dListRg, dIndex, dSortSet, dSortSc, dEnum, dEnA, dZip, dIsi, dIsi2, isaT, φI, φB, φC, φNeg, add_i, add_l, add_t, mul_i, mul_l, φIx, sl_l, sl_t, eq_i, eq_s, eq_l, eq_t, eq_b, eq_n, φIsN, isN_n, isN_b, isN_i, isN_s, isN_l, isN_t, φLen, φList, φTuple, φAbs, φInt, φMax, φIsB, φIsNB, its_l, its_t, rd_sh, rd_nw, rd_br, rp_sh, rp_nw, rp_br, rp_bx, rp_raw, rp_sr, rr_sh, rr_nw, rr_br, ra_sh, ra_br, ra_bx, ra_raw, va_sh, va_nt, va_nf, va_raw, hb_n, hb_sh, hb_bx, hb_raw, hb_br, sh_n, sh_c, tr_n, tr_b, tr_i, tr_l, tr_t, ty_n, ty_b, ty_i, ty_s, ty_l, ty_t, if_ff, if_tt, Env.set, List.getElem?_cons_succ, List.getElem?_cons_zero, List.set_cons_succ, List.set_cons_zero, List.reverse_cons, List.reverse_nil, List.nil_append, List.cons_append, Option.bind_some, ite_true, ite_false])
end Lp

namespace Lp
open PySem PySem.Spec PyProof.Rows L2
local macro_rules | `(tactic| rfl') => `(tactic| try dsimp only [dVar_, gv_sh, gv_ow, gv_bx, gv_raw, gv_st, dC, dRaw, dOp, dUn, dTest, dTruth, dAnd, dOr, dNot, dYes, dIf, dAndV, dOrV, dNotV, dNotT, dChain, dNil, dCons, dTup, dLst, dats, dCB, dNoP, dPart, dSl, dNext, dBreak, dCont, dNever, dDrop, dRet, dRetN, dIfS, dSetG, dPar, dPar3, dAppend, dAppPop, dSetIx, dExt, dAug, dSet0, dSAdd, dSNotIn, dIter_, gi_l, gi_t, gi_b, dRng1, dRng2, dName, dGNil, dGCons, dGTup, dAsg, dFor, dWhile, dCall, dCallR, dArgs_, ga_f, ga_t, argsOf, dLc, wipeE, dListRg, dIndex, dSortSet, dSortSc, dEnum, dEnA, dZip, dIsi, dIsi2, isaT, φI, φB, φC, φNeg, add_i, add_l, add_t, mul_i, mul_l, φIx, sl_l, sl_t, eq_i, eq_s, eq_l, eq_t, eq_b, eq_n, φIsN, isN_n, isN_b, isN_i, isN_s, isN_l, isN_t, φLen, φList, φTuple, φAbs, φInt, φMax, φIsB, φIsNB, its_l, its_t, rd_sh, rd_nw, rd_br, rp_sh, rp_nw, rp_br, rp_bx, rp_raw, rp_sr, rr_sh, rr_nw, rr_br, ra_sh, ra_br, ra_bx, ra_raw, va_sh, va_nt, va_nf, va_raw, hb_n, hb_sh, hb_bx, hb_raw, hb_br, sh_n, sh_c, tr_n, tr_b, tr_i, tr_l, tr_t, ty_n, ty_b, ty_i, ty_s, ty_l, ty_t, if_ff, if_tt, Env.set, List.getElem?_cons_succ, List.getElem?_cons_zero, List.set_cons_succ, List.set_cons_zero, List.reverse_cons, List.reverse_nil, List.nil_append, List.cons_append, Option.bind_some, ite_true, ite_false])
def dep : Nat → PyData → Bool
  | 0, _ => false
  | k + 1, .list ds => decide (ds.length ≤ 1000000) && ds.all (dep k)
  | k + 1, .tuple ds => decide (ds.length ≤ 1000000) && ds.all (dep k)
  | _ + 1, .dict _ => false
  | _ + 1, _ => true
def p_law_same (k : Nat) : DSp := fun args c Q => ∃ a b : PyData, args = [.sh a, .sh b] ∧ a = b ∧ dep k a = true ∧ Q (.sh (.bool true)) c
theorem mon_law_same (k : Nat) : MonF (p_law_same k) := fun args c A B h ⟨a, b, e, h1, h2, q⟩ => ⟨a, b, e, h1, h2, h _ _ q⟩
theorem zip_self (ds : List PyData) : zipDs ds ds = ds.map fun d => .tuple [d, d] := by
  unfold zipDs
  induction ds with
  | nil => rfl
  | cons x r ih => rw [List.zipWith_cons_cons, ih]; rfl
theorem same_seq {k : Nat} {ds : List PyData} {s : List SV} {c : Nat} {Q : R → Env → Prop} (hk : ds.all (dep k) = true) (hl : ds.length ≤ 16777216) (hs : ∃ x y, s = [x, y, .un, .un]) (q : Q (.nw (ds.map fun _ => .bool true)) ⟨s, c⟩) :
    lcD (dGTup 2 (dGCons (dName 2) (dGCons (dName 3) dGNil))) dYes (dCall (p_law_same k) (dCons (dVar 2) (dCons (dVar 3) dNil))) [2, 3] s Q (zipDs ds ds) [] c := by
  obtain ⟨x, y, rfl⟩ := hs
  rw [zip_self]
  refine lc_all (fun d => .tuple [d, d]) (fun _ => .bool true) ds [] (fun d hd K hK => ?_) (by show 0 + _ ≤ _; omega) q
  rfl'
  refine ⟨rfl, ?_⟩
  refine ⟨d, d, rfl, rfl, List.all_eq_true.mp hk d hd, ?_⟩
  rfl'
  exact hK _ _ rfl rfl
theorem eqv_self_b (b : Bool) : PyData.eqv (.bool b) (.bool b) = true := by cases b <;> rfl
theorem dep_list {k : Nat} {ds : List PyData} (h : dep (k + 1) (.list ds) = true) : ds.length ≤ 1000000 ∧ ds.all (dep k) = true := by
  unfold dep at h
  rw [Bool.and_eq_true] at h
  exact ⟨of_decide_eq_true h.1, h.2⟩
theorem dep_tuple {k : Nat} {ds : List PyData} (h : dep (k + 1) (.tuple ds) = true) : ds.length ≤ 1000000 ∧ ds.all (dep k) = true := by
  unfold dep at h
  rw [Bool.and_eq_true] at h
  exact ⟨of_decide_eq_true h.1, h.2⟩
theorem all_true (ds : List PyData) : (dB (ds.map fun _ => true)).length = ds.length ∧ (ds.map fun _ => true).all id = true := by
  refine ⟨by rw [List.length_map, List.length_map], ?_⟩
  rw [List.all_map]
  exact List.all_eq_true.mpr fun _ _ => rfl
end Lp

namespace Lp
open PySem PySem.Spec PyProof.Rows L2
local macro_rules | `(tactic| rfl') => `(tactic| try dsimp only [dVar_, gv_sh, gv_ow, gv_bx, gv_raw, gv_st, dC, dRaw, dOp, dUn, dTest, dTruth, dAnd, dOr, dNot, dYes, dIf, dAndV, dOrV, dNotV, dNotT, dChain, dNil, dCons, dTup, dLst, dats, dCB, dNoP, dPart, dSl, dNext, dBreak, dCont, dNever, dDrop, dRet, dRetN, dIfS, dSetG, dPar, dPar3, dAppend, dAppPop, dSetIx, dExt, dAug, dSet0, dSAdd, dSNotIn, dIter_, gi_l, gi_t, gi_b, dRng1, dRng2, dName, dGNil, dGCons, dGTup, dAsg, dFor, dWhile, dCall, dCallR, dArgs_, ga_f, ga_t, argsOf, dLc, wipeE, dListRg, dIndex, dSortSet, dSortSc, dEnum, dEnA, dZip, dIsi, dIsi2, isaT, φI, φB, φC, φNeg, add_i, add_l, add_t, mul_i, mul_l, φIx, sl_l, sl_t, eq_i, eq_s, eq_l, eq_t, eq_b, eq_n, φIsN, isN_n, isN_b, isN_i, isN_s, isN_l, isN_t, φLen, φList, φTuple, φAbs, φInt, φMax, φIsB, φIsNB, its_l, its_t, rd_sh, rd_nw, rd_br, rp_sh, rp_nw, rp_br, rp_bx, rp_raw, rp_sr, rr_sh, rr_nw, rr_br, ra_sh, ra_br, ra_bx, ra_raw, va_sh, va_nt, va_nf, va_raw, hb_n, hb_sh, hb_bx, hb_raw, hb_br, sh_n, sh_c, tr_n, tr_b, tr_i, tr_l, tr_t, ty_n, ty_b, ty_i, ty_s, ty_l, ty_t, if_ff, if_tt, Env.set, List.getElem?_cons_succ, List.getElem?_cons_zero, List.set_cons_succ, List.set_cons_zero, List.reverse_cons, List.reverse_nil, List.nil_append, List.cons_append, Option.bind_some, ite_true, ite_false])
inductive All2 {α β : Type} (P : α → β → Prop) : List α → List β → Prop
  | nil : All2 P [] []
  | cons {x : α} {y : β} {xs : List α} {ys : List β} : P x y → All2 P xs ys → All2 P (x :: xs) (y :: ys)
theorem All2.len {α β : Type} {P : α → β → Prop} : ∀ {xs : List α} {ys : List β}, All2 P xs ys → ys.length = xs.length
  | _, _, .nil => rfl
  | _, _, .cons _ r => by rw [List.length_cons, List.length_cons, r.len]
theorem All2.mem {α β : Type} {P : α → β → Prop} : ∀ {xs : List α} {ys : List β}, All2 P xs ys → ∀ y ∈ ys, ∃ x ∈ xs, P x y
  | _, _, .cons a r, y, h => by
    rcases List.mem_cons.mp h with rfl | h
    · exact ⟨_, List.mem_cons_self, a⟩
    · obtain ⟨x, hx, hp⟩ := r.mem y h
      exact ⟨x, List.mem_cons_of_mem _ hx, hp⟩
theorem All2.get {α β : Type} {P : α → β → Prop} : ∀ {xs : List α} {ys : List β}, All2 P xs ys → ∀ {i : Nat} {x : α}, xs[i]? = some x → ∃ y, ys[i]? = some y ∧ P x y
  | _, _, .nil, i, x, h => by simp at h
  | _, _, .cons a r, 0, x, h => by simp at h; subst h; exact ⟨_, rfl, a⟩
  | _, _, .cons a r, i + 1, x, h => by
    obtain ⟨y, h1, h2⟩ := r.get (i := i) (x := x) (by simpa using h)
    exact ⟨y, by simpa using h1, h2⟩
theorem lc_draw {α β : Type} {γ : DTG} {f : DTE} {vs : List Nat} {s : List SV} {Q : R → Env → Prop} {N : Nat} (h : α → PyData) (u : β → PyData) (P : α → β → Prop) : ∀ (xs : List α) (acc : List β) (n : Nat),
    (∀ x ∈ xs, ∀ m, m ≤ n + N * xs.length → ∀ K : R → Env → Prop, (∀ r ε y, r.pub = .sh (u y) → P x y → ε.c ≤ m + N → K r ε) → γ (h x) ⟨wipeE ⟨s, m⟩ vs, m⟩ fun ε1 => f ε1 K) →
    acc.length + xs.length ≤ 16777216 → (∀ ys m, All2 P xs ys → m ≤ n + N * xs.length → Q (.nw ((acc ++ ys).map u)) ⟨s, m⟩) → lcD γ dYes f vs s Q (xs.map h) (acc.map u) n
  | [], acc, n, _, _, q => by
    have := q [] n .nil (Nat.le_add_right _ _)
    rw [List.append_nil] at this
    exact this
  | x :: xs, acc, n, st, le, q => by
    rw [List.length_cons] at le
    rw [List.length_cons, Nat.mul_add, Nat.mul_one] at st q
    rw [List.map_cons]
    refine lc_cons ?_
    refine st x List.mem_cons_self n (Nat.le_add_right _ _) (fun r ε3 => match r.pub with
      | .sh e => (acc.map u).length < sizeLine ∧ lcD γ dYes f vs s Q (xs.map h) (acc.map u ++ [e]) ε3.c
      | _ => False) fun r ε y hr hy hc => ?_
    rw [hr]
    refine ⟨show (acc.map u).length < 16777216 by rw [List.length_map]; omega, ?_⟩
    have e : acc.map u ++ [u y] = (acc ++ [y]).map u := by rw [List.map_append]; rfl
    rw [e]
    refine lc_draw h u P xs (acc ++ [y]) ε.c (fun z hz m hm => st z (List.mem_cons_of_mem _ hz) m (by omega)) (by rw [List.length_append, List.length_singleton]; omega) fun ys m hys hm => ?_
    rw [List.append_assoc]
    exact q (y :: ys) m (.cons hy hys) (by omega)
end Lp

namespace Lp
open PySem PySem.Spec PyProof.Rows L2
local macro_rules | `(tactic| rfl') => `(tactic| try dsimp only [dVar_, gv_sh, gv_ow, gv_bx, gv_raw, gv_exn, gv_st, dC, dRaw, dOp, dUn, dTest, dTruth, dAnd, dOr, dNot, dYes, dIf, dAndV, dOrV, dNotV, dNotT, dChain, dNil, dCons, dTup, dLst, dats, dCB, dNoP, dPart, dSl, dNext, dBreak, dCont, dNever, dDrop, dRet, dRetN, dIfS, dSetG, dPar, dPar3, dAppend, dAppPop, dSetIx, dExt, dAug, dSet0, dSAdd, dSNotIn, dIter_, gi_l, gi_t, gi_b, dRng1, dRng2, dName, dGNil, dGCons, dGTup, dAsg, dFor, dWhile, dCall, dCallR, dArgs_, ga_f, ga_t, argsOf, dLc, wipeE, dListRg, dIndex, dSortSet, dSortSc, dEnum, dEnA, dZip, dIsi, dIsi2, isaT, φI, φB, φC, φNeg, add_i, add_l, add_t, mul_i, mul_l, φIx, sl_l, sl_t, eq_i, eq_s, eq_l, eq_t, eq_b, eq_n, φIsN, isN_n, isN_b, isN_i, isN_s, isN_l, isN_t, φLen, φList, φTuple, φAbs, φInt, φMax, φIsB, φIsNB, its_l, its_t, rd_sh, rd_nw, rd_br, rp_sh, rp_nw, rp_br, rp_bx, rp_raw, rp_sr, rr_sh, rr_nw, rr_br, ra_sh, ra_br, ra_bx, ra_raw, va_sh, va_nt, va_nf, va_raw, hb_n, hb_sh, hb_bx, hb_raw, hb_br, sh_n, sh_c, tr_n, tr_b, tr_i, tr_l, tr_t, ty_n, ty_b, ty_i, ty_s, ty_l, ty_t, if_ff, if_tt, Env.set, List.getElem?_cons_succ, List.getElem?_cons_zero, List.set_cons_succ, List.set_cons_zero, List.reverse_cons, List.reverse_nil, List.nil_append, List.cons_append, Option.bind_some, ite_true, ite_false])
/-- _law_strewn: _law_box_here, _law_some, _law_left, _law_found -/
def b_law_strewn_2 : DTS := (dSeq (dPar 2 true 3 true (dCB φList (dCons (dVar 1) dNil)) (dLst dNil))
  (dSeq (dWhile (dTest (dOp (φEq true) (dVar 2) (dLst dNil))) (dAppPop 3 2 (dCall p_law_take (dCons (dVar 0) (dCons (dCB φLen (dCons (dVar 2) dNil)) dNil)))))
  (dRet (dVar 3))))
abbrev k_law_strewn_2 : Nat := 2
def p_strewn_int : DSp := fun args c Q => ∃ (d : PyData) (ms : List Int), args = [.bx, .sh d] ∧ PyData.its d = some (dI ms) ∧ ms.length ≤ 100000 ∧ c + 3 * ms.length ≤ 900000000 ∧ ∀ es c', es.Perm ms → c' ≤ c + 3 * ms.length → Q (.nw (dI es)) c'
def p_strewn_tup : DSp := fun args c Q => ∃ (d : PyData) (ms : List (List Int)), args = [.bx, .sh d] ∧ PyData.its d = some (dT ms) ∧ ms.length ≤ 100000 ∧ c + 3 * ms.length ≤ 900000000 ∧ ∀ es c', es.Perm ms → c' ≤ c + 3 * ms.length → Q (.nw (dT es)) c'
def p_law_strewn_2 : DSp := fun args c Q => p_strewn_int args c Q ∨ p_strewn_tup args c Q
theorem mon_law_strewn_2 : MonF p_law_strewn_2 := fun args c A B h z => by
  rcases z with ⟨s, ds, e, h1, h2, h3, q⟩ | ⟨s, ds, e, h1, h2, h3, q⟩
  · exact .inl ⟨s, ds, e, h1, h2, h3, fun r c' a b => h _ _ (q r c' a b)⟩
  · exact .inr ⟨s, ds, e, h1, h2, h3, fun r c' a b => h _ _ (q r c' a b)⟩
theorem ne_nil_eqv {ms : List Int} : PyData.eqv (.list (dI ms)) (.list []) = decide (ms = []) := eqvL ms []
theorem perm_popI {ds es fs : List Int} {i : Nat} (hi : i < ds.length) (hp : (es ++ ds).Perm fs) : ((es ++ [ds[i]]) ++ ds.eraseIdx i).Perm fs := by
  refine List.Perm.trans ?_ hp
  rw [List.append_assoc]
  exact List.Perm.append_left es (erase_perm ds i hi)
theorem strewn2_loop {x : SV} {Δ : DEnds} {fs : List Int} (hfs : fs.length ≤ 100000) :
    ∀ (k : Nat) (ds es : List Int) (c : Nat), ds.length = k → (es ++ ds).Perm fs → c + 3 * ds.length ≤ 900000000 → (∀ es c', es.Perm fs → c' ≤ c + 3 * ds.length → Δ.nx ⟨[.bx, x, .ow [], .ow (dI es)], c'⟩) →
      whileN (dTest (dOp (φEq true) (dVar 2) (dLst dNil))) (dAppPop 3 2 (dCall p_law_take (dCons (dVar 0) (dCons (dCB φLen (dCons (dVar 2) dNil)) dNil)))) Δ (k + 1) ⟨[.bx, x, .ow (dI ds), .ow (dI es)], c⟩
  | k, ds, es, c, hl, hp, hc, q => by
    have s1 : SeqAt.shaped (.list (dI ds)) = true := shL ds
    have s0 : SeqAt.shaped (.list []) = true := shL []
    unfold whileN
    rfl'
    refine ⟨⟨s1, s0⟩, ?_⟩
    rw [ne_nil_eqv]
    refine in_2 (fun hne => ?_) fun hnil => ?_
    · have hlen : (es ++ ds).length = fs.length := hp.length_eq
      rw [List.length_append] at hlen
      have hpos : 0 < ds.length := List.length_pos_iff.mpr hne
      cases k with
      | zero => omega
      | succ k =>
        rw [dI_len]
        refine c_take (by omega) (by omega) (by omega) fun r c' r0 r1 hc' => ?_
        rfl'
        have hr : r.toNat < ds.length := by omega
        have h4 : (ds.eraseIdx r.toNat).length = ds.length - 1 := List.length_eraseIdx_of_lt hr
        refine ⟨r0, by rw [dI_len]; exact r1, by rw [dI_len]; omega, show (dI es).length < 16777216 by rw [dI_len]; omega, .int ds[r.toNat], dI_get (List.getElem?_eq_getElem hr), ?_⟩
        rw [dI_erase, dI_snoc]
        exact strewn2_loop hfs k (ds.eraseIdx r.toNat) (es ++ [ds[r.toNat]]) c' (by omega) (perm_popI hr hp) (by omega) fun es c2 h1 h2 => q es c2 h1 (by omega)
    · subst hnil
      rw [List.append_nil] at hp
      exact q es c hp (by omega)
theorem lay_tupsG : ∀ a : List (List Int), PyData.canLayAll0 (dT a) = true
  | [] => by simp [PyData.canLayAll0]
  | x :: a => by
    show PyData.canLayAll0 (.tuple (dI x) :: dT a) = true
    simp only [PyData.canLayAll0, PyData.canLay0, lay_tupsG a, lay_ints, Bool.and_self]
theorem depth_tupsG : ∀ a : List (List Int), PyData.depthAll (dT a) ≤ 1
  | [] => by simp [PyData.depthAll]
  | x :: a => by
    have := depth_tupsG a
    show PyData.depthAll (.tuple (dI x) :: dT a) ≤ 1
    simp only [PyData.depthAll, PyData.depth, depth_ints]
    omega
theorem shG (a : List (List Int)) : SeqAt.shaped (.list (dT a)) = true := by
  unfold SeqAt.shaped
  have := depth_tupsG a
  simp only [PyData.canLay0, PyData.depth, lay_tupsG, Bool.true_and]
  exact decide_eq_true (by omega)
theorem eqv_nilG : ∀ a : List (List Int), PyData.eqv (.list (dT a)) (.list []) = decide (a = [])
  | [] => by simp [PyData.eqv, PyData.eqvAll]
  | x :: a => by
    show PyData.eqv (.list (.tuple (dI x) :: dT a)) (.list []) = _
    simp [PyData.eqv, PyData.eqvAll]
theorem perm_popG {α : Type} {ds es fs : List α} {i : Nat} (hi : i < ds.length) (hp : (es ++ ds).Perm fs) : ((es ++ [ds[i]]) ++ ds.eraseIdx i).Perm fs := by
  refine List.Perm.trans ?_ hp
  rw [List.append_assoc]
  exact List.Perm.append_left es (erase_perm ds i hi)
theorem erase_mapG : ∀ (l : List (List Int)) (k : Nat), (dT l).eraseIdx k = dT (l.eraseIdx k)
  | [], _ => rfl
  | _ :: _, 0 => rfl
  | x :: l, k + 1 => by
    show .tuple (dI x) :: (dT l).eraseIdx k = .tuple (dI x) :: dT (l.eraseIdx k)
    rw [erase_mapG l k]
theorem dT_lenG (a : List (List Int)) : (dT a).length = a.length := List.length_map ..
theorem strewn3_loop {x : SV} {Δ : DEnds} {fs : List (List Int)} (hfs : fs.length ≤ 100000) :
    ∀ (k : Nat) (ds es : List (List Int)) (c : Nat), ds.length = k → (es ++ ds).Perm fs → c + 3 * ds.length ≤ 900000000 → (∀ es c', es.Perm fs → c' ≤ c + 3 * ds.length → Δ.nx ⟨[.bx, x, .ow [], .ow (dT es)], c'⟩) →
      whileN (dTest (dOp (φEq true) (dVar 2) (dLst dNil))) (dAppPop 3 2 (dCall p_law_take (dCons (dVar 0) (dCons (dCB φLen (dCons (dVar 2) dNil)) dNil)))) Δ (k + 1) ⟨[.bx, x, .ow (dT ds), .ow (dT es)], c⟩
  | k, ds, es, c, hl, hp, hc, q => by
    have s1 : SeqAt.shaped (.list (dT ds)) = true := shG ds
    have s0 : SeqAt.shaped (.list []) = true := shL []
    unfold whileN
    rfl'
    refine ⟨⟨s1, s0⟩, ?_⟩
    rw [eqv_nilG]
    refine in_2 (fun hne => ?_) fun hnil => ?_
    · have hlen : (es ++ ds).length = fs.length := hp.length_eq
      rw [List.length_append] at hlen
      have hpos : 0 < ds.length := List.length_pos_iff.mpr hne
      cases k with
      | zero => omega
      | succ k =>
        rw [dT_lenG]
        refine c_take (by omega) (by omega) (by omega) fun r c' r0 r1 hc' => ?_
        rfl'
        have hr : r.toNat < ds.length := by omega
        have h4 : (ds.eraseIdx r.toNat).length = ds.length - 1 := List.length_eraseIdx_of_lt hr
        refine ⟨r0, by rw [dT_lenG]; exact r1, by rw [dT_lenG]; omega, show (dT es).length < 16777216 by rw [dT_lenG]; omega, .tuple (dI ds[r.toNat]), by show (List.map _ _)[_]? = _; rw [List.getElem?_map, List.getElem?_eq_getElem hr]; rfl, ?_⟩
        have e1 : (dT ds).eraseIdx r.toNat = dT (ds.eraseIdx r.toNat) := by
          exact erase_mapG ds r.toNat
        have e2 : dT es ++ [PyData.tuple (dI ds[r.toNat])] = dT (es ++ [ds[r.toNat]]) := by
          show _ = List.map _ _
          rw [List.map_append]; rfl
        rw [e1, e2]
        exact strewn3_loop hfs k (ds.eraseIdx r.toNat) (es ++ [ds[r.toNat]]) c' (by omega) (perm_popG hr hp) (by omega) fun es c2 h1 h2 => q es c2 h1 (by omega)
    · subst hnil
      rw [List.append_nil] at hp
      exact q es c hp (by omega)
theorem m_law_strewn_2 : ∀ args c Q, p_law_strewn_2 args c Q → defF k_law_strewn_2 b_law_strewn_2 args c Q := by
  rintro _ c Q (⟨d, ms, rfl, h1, h2, h3, q⟩ | ⟨d, ms, rfl, h1, h2, h3, q⟩)
  · show b_law_strewn_2 _ ⟨[.bx, .sh d, .un, .un], c⟩
    unfold b_law_strewn_2
    refine sq_ ?_
    rfl'
    rw [h1]
    rfl'
    refine sq_ ?_
    rfl'
    refine ⟨ms.length + 1, strewn2_loop (es := []) h2 ms.length ms c rfl (List.Perm.refl _) h3 fun es c' hp hc => ?_⟩
    rfl'
    exact q es c' hp hc
  · show b_law_strewn_2 _ ⟨[.bx, .sh d, .un, .un], c⟩
    unfold b_law_strewn_2
    refine sq_ ?_
    rfl'
    rw [h1]
    rfl'
    refine sq_ ?_
    rfl'
    refine ⟨ms.length + 1, strewn3_loop (es := []) h2 ms.length ms c rfl (List.Perm.refl _) h3 fun es c' hp hc => ?_⟩
    rfl'
    exact q es c' hp hc
end Lp

namespace Lp
open PySem PySem.Spec PyProof.Rows L2
local macro_rules | `(tactic| rfl') => `(tactic| try dsimp only [dVar_, gv_sh, gv_ow, gv_bx, gv_raw, gv_exn, gv_st, dC, dRaw, dOp, dUn, dTest, dTruth, dAnd, dOr, dNot, dYes, dIf, dAndV, dOrV, dNotV, dNotT, dChain, dNil, dCons, dTup, dLst, dats, dCB, dNoP, dPart, dSl, dNext, dBreak, dCont, dNever, dDrop, dRet, dRetN, dIfS, dSetG, dPar, dPar3, dAppend, dAppPop, dSetIx, dExt, dAug, dSet0, dSAdd, dSNotIn, dIter_, gi_l, gi_t, gi_b, dRng1, dRng2, dName, dGNil, dGCons, dGTup, dAsg, dFor, dWhile, dCall, dCallR, dArgs_, ga_f, ga_t, argsOf, dLc, wipeE, dListRg, dIndex, dSortSet, dSortSc, dEnum, dEnA, dZip, dIsi, dIsi2, isaT, φI, φB, φC, φNeg, add_i, add_l, add_t, mul_i, mul_l, φIx, sl_l, sl_t, eq_i, eq_s, eq_l, eq_t, eq_b, eq_n, φIsN, isN_n, isN_b, isN_i, isN_s, isN_l, isN_t, φLen, φList, φTuple, φAbs, φInt, φMax, φIsB, φIsNB, its_l, its_t, rd_sh, rd_nw, rd_br, rp_sh, rp_nw, rp_br, rp_bx, rp_raw, rp_sr, rr_sh, rr_nw, rr_br, ra_sh, ra_br, ra_bx, ra_raw, va_sh, va_nt, va_nf, va_raw, hb_n, hb_sh, hb_bx, hb_raw, hb_br, sh_n, sh_c, tr_n, tr_b, tr_i, tr_l, tr_t, ty_n, ty_b, ty_i, ty_s, ty_l, ty_t, if_ff, if_tt, Env.set, List.getElem?_cons_succ, List.getElem?_cons_zero, List.set_cons_succ, List.set_cons_zero, List.reverse_cons, List.reverse_nil, List.nil_append, List.cons_append, Option.bind_some, ite_true, ite_false])
end Lp

namespace Lp
open PySem PySem.Spec PyProof.Rows L2
local macro_rules | `(tactic| rfl') => `(tactic| try dsimp only [dVar_, gv_sh, gv_ow, gv_bx, gv_raw, gv_exn, gv_st, dC, dRaw, dOp, dUn, dTest, dTruth, dAnd, dOr, dNot, dYes, dIf, dAndV, dOrV, dNotV, dNotT, dChain, dNil, dCons, dTup, dLst, dats, dCB, dNoP, dPart, dSl, dNext, dBreak, dCont, dNever, dDrop, dRet, dRetN, dIfS, dSetG, dPar, dPar3, dAppend, dAppPop, dSetIx, dExt, dAug, dSet0, dSAdd, dSNotIn, dIter_, gi_l, gi_t, gi_b, dRng1, dRng2, dName, dGNil, dGCons, dGTup, dAsg, dFor, dWhile, dCall, dCallR, dArgs_, ga_f, ga_t, argsOf, dLc, wipeE, dListRg, dIndex, dSortSet, dSortSc, dEnum, dEnA, dZip, dIsi, dIsi2, isaT, φI, φB, φC, φNeg, add_i, add_l, add_t, mul_i, mul_l, φIx, sl_l, sl_t, eq_i, eq_s, eq_l, eq_t, eq_b, eq_n, φIsN, isN_n, isN_b, isN_i, isN_s, isN_l, isN_t, φLen, φList, φTuple, φAbs, φInt, φMax, φIsB, φIsNB, its_l, its_t, rd_sh, rd_nw, rd_br, rp_sh, rp_nw, rp_br, rp_bx, rp_raw, rp_sr, rr_sh, rr_nw, rr_br, ra_sh, ra_br, ra_bx, ra_raw, va_sh, va_nt, va_nf, va_raw, hb_n, hb_sh, hb_bx, hb_raw, hb_br, sh_n, sh_c, tr_n, tr_b, tr_i, tr_l, tr_t, ty_n, ty_b, ty_i, ty_s, ty_l, ty_t, if_ff, if_tt, Env.set, List.getElem?_cons_succ, List.getElem?_cons_zero, List.set_cons_succ, List.set_cons_zero, List.reverse_cons, List.reverse_nil, List.nil_append, List.cons_append, Option.bind_some, ite_true, ite_false])
/-- _law_same: _law_found, _law_due_here, _law_mine, _law_its -/
def b_law_same_3 (p_law_same_3 : DSp) : DTS := (dSeq (dIfS (dTruth (dIsi2 "list" "tuple" (dVar 1))) (dSeq (dIfS (dOr (dTest (dOp (φEq true) (dIsi "list" (dVar 0)) (dIsi "list" (dVar 1)))) (dTest (dOp (φEq true) (dIsi "tuple" (dVar 0)) (dIsi "tuple" (dVar 1))))) (dRet (dC (.bool false))) dNext)
  (dRet (dAndV (dOp (φEq false) (dCB φLen (dCons (dVar 0) dNil)) (dCB φLen (dCons (dVar 1) dNil))) (dCB (φAll false) (dCons (dLc (dZip (dCons (dVar 0) (dCons (dVar 1) dNil))) (dGTup 2 (dGCons (dName 2) (dGCons (dName 3) dGNil))) dYes (dCall p_law_same_3 (dCons (dVar 2) (dCons (dVar 3) dNil))) [2, 3]) dNil))))) dNext)
  (dSeq (dIfS (dOr (dTest (dOp (φIsN false) (dVar 1) (dC .none))) (dTruth (dIsi2 "bool" "str" (dVar 1)))) (dRet (dAndV (dOp (φEq false) (dVar 0) (dVar 1)) (dAndV (dOp (φEq false) (dIsi "bool" (dVar 0)) (dIsi "bool" (dVar 1))) (dOp (φEq false) (dOp (φIsN false) (dVar 0) (dC .none)) (dOp (φIsN false) (dVar 1) (dC .none)))))) dNext)
  (dRet (dAndV (dIsi "int" (dVar 0)) (dAndV (dNotV (dIsi "bool" (dVar 0))) (dOp (φEq false) (dVar 0) (dVar 1)))))))
abbrev k_law_same_3 : Nat := 2
def p_law_same_3 (k : Nat) : DSp := p_law_same k
theorem mon_law_same_3 (k : Nat) : MonF (p_law_same_3 k) := mon_law_same k
theorem m_law_same_3 {k : Nat} : ∀ args c Q, p_law_same_3 (k + 1) args c Q → defF k_law_same_3 (b_law_same_3 (p_law_same_3 k)) args c Q := by
  rintro _ c Q ⟨a, _, rfl, rfl, hk, q⟩
  show b_law_same_3 (p_law_same k) _ ⟨[.sh a, .sh a, .un, .un], c⟩
  unfold b_law_same_3
  refine sq_ ?_
  cases a with
  | none =>
    rfl'
    refine if_f (by decide +kernel) ?_
    refine sq_ ?_
    rfl'
    refine ⟨⟨rfl, rfl⟩, ?_⟩
    refine if_t (by rfl) ?_
    refine ⟨⟨rfl, rfl⟩, ?_⟩
    refine if_t (by rfl) ?_
    exact ⟨⟨rfl, rfl⟩, q⟩
  | bool b =>
    rfl'
    refine if_f (by decide +kernel) ?_
    refine sq_ ?_
    rfl'
    refine if_f (by decide +kernel) ?_
    refine if_t (by decide +kernel) ?_
    refine ⟨⟨rfl, rfl⟩, ?_⟩
    rw [eqv_self_b]
    refine if_t (by rfl) ?_
    refine ⟨⟨rfl, rfl⟩, ?_⟩
    refine if_t (by rfl) ?_
    exact ⟨⟨rfl, rfl⟩, q⟩
  | int z =>
    rfl'
    refine if_f (by decide +kernel) ?_
    refine sq_ ?_
    rfl'
    refine if_f (by decide +kernel) ?_
    refine if_f (by decide +kernel) ?_
    refine if_t (by decide +kernel) ?_
    refine if_t (by decide +kernel) ?_
    rw [decide_eq_true rfl]
    exact q
  | str x =>
    rfl'
    refine if_f (by decide +kernel) ?_
    refine sq_ ?_
    rfl'
    refine if_f (by decide +kernel) ?_
    refine if_t (by decide +kernel) ?_
    refine if_t (decide_eq_true rfl) ?_
    refine ⟨⟨rfl, rfl⟩, ?_⟩
    refine if_t (by rfl) ?_
    exact ⟨⟨rfl, rfl⟩, q⟩
  | list ds =>
    obtain ⟨h1, h2⟩ := dep_list hk
    rfl'
    refine if_t (by decide +kernel) ?_
    refine sq_ ?_
    rfl'
    refine ⟨⟨rfl, rfl⟩, ?_⟩
    refine if_f (by rfl) ?_
    refine ⟨⟨rfl, rfl⟩, ?_⟩
    refine if_f (by rfl) ?_
    refine if_t (decide_eq_true rfl) ?_
    refine same_seq h2 (by omega) ⟨_, _, rfl⟩ ?_
    rfl'
    rw [dB_map ds fun _ => true]
    refine φAll_dB ?_
    rw [if_neg (by decide), (all_true ds).2]
    exact q
  | tuple ds =>
    obtain ⟨h1, h2⟩ := dep_tuple hk
    rfl'
    refine if_t (by decide +kernel) ?_
    refine sq_ ?_
    rfl'
    refine ⟨⟨rfl, rfl⟩, ?_⟩
    refine if_f (by rfl) ?_
    refine ⟨⟨rfl, rfl⟩, ?_⟩
    refine if_f (by rfl) ?_
    refine if_t (decide_eq_true rfl) ?_
    refine same_seq h2 (by omega) ⟨_, _, rfl⟩ ?_
    rfl'
    rw [dB_map ds fun _ => true]
    refine φAll_dB ?_
    rw [if_neg (by decide), (all_true ds).2]
    exact q
  | dict _ => unfold dep at hk; cases hk
/-- _law_random_state: _law_source, _law_size, _law_order, _law_kind, _law_spot, _law_found, _law_half, _law_at, _law_some -/
def b_law_random_state : DTS := (dSeq (dPar 2 false 3 false (dCall p_law_strewn_2 (dCons (dVar 0) (dCons (dListRg (dVar 1)) dNil))) (dCall p_law_take (dCons (dVar 0) (dCons (dC (.int 8)) dNil))))
  (dSeq (dIfS (dTest (dOp (φB fun i j => decide (i < j)) (dVar 3) (dC (.int 2)))) (dRet (dCB φTuple (dCons (dLc (dIter (dVar 2)) (dName 4) dYes (dCall p_law_take (dCons (dVar 0) (dCons (dVar 1) dNil))) [4]) dNil))) dNext)
  (dSeq (dIfS (dTest (dOp (φEq false) (dVar 3) (dC (.int 7)))) (dRet (dCB φTuple (dCons (dCall p_law_strewn_2 (dCons (dVar 0) (dCons (dVar 2) dNil))) dNil))) dNext)
  (dSeq (dPar 5 true 6 false (dOp φMul (dLst (dCons (dC (.int 0)) dNil)) (dVar 1)) (dCB φMax (dCons (dC (.int 1)) (dCons (dOp (φC CDivW fun i j => i / j) (dVar 1) (dC (.int 2))) dNil))))
  (dSeq (dFor (dEnA (dCons (dVar 2) dNil)) (dGTup 2 (dGCons (dName 7) (dGCons (dName 4) dGNil))) (dSeq (dSetG true 8 (dLst (dCons (dOp φIx (dVar 2) (dOp (φC (fun _ j => 0 < j) fun i j => i % j) (dOp φAdd (dVar 7) (dC (.int 1))) (dVar 1))) (dCons (dOp φIx (dVar 2) (dCB φMax (dCons (dC (.int 0)) (dCons (dOp (φI fun i j => i - j) (dVar 7) (dC (.int 1))) dNil)))) (dCons (dOp φIx (dVar 2) (dCB φMax (dCons (dC (.int 0)) (dCons (dOp (φI fun i j => i - j) (dOp (φI fun i j => i - j) (dVar 7) (dC (.int 1))) (dCall p_law_take (dCons (dVar 0) (dCons (dC (.int 3)) dNil)))) dNil)))) dNil)))))
  (dSeq (dAppend 8 (dOp φIx (dVar 2) (dCall p_law_take (dCons (dVar 0) (dCons (dOp φAdd (dC (.int 1)) (dOp (φC CDivW fun i j => i / j) (dVar 1) (dC (.int 4)))) dNil)))))
  (dSeq (dAppend 8 (dIf (dTest (dOp (φB fun i j => decide (i < j)) (dVar 7) (dVar 6))) (dOp φIx (dVar 2) (dOp (φC (fun _ j => 0 < j) fun i j => i % j) (dOp φAdd (dVar 7) (dC (.int 1))) (dVar 6))) (dOp φIx (dVar 2) (dCall p_law_take (dCons (dVar 0) (dCons (dVar 7) dNil))))))
  (dSetIx 5 (dOp φIx (dVar 8) (dOp (φI fun i j => i - j) (dVar 3) (dC (.int 2)))) (dVar 4))))))
  (dRet (dCB φTuple (dCons (dVar 5) dNil))))))))
abbrev k_law_random_state : Nat := 7
def p_law_random_state : DSp := fun args c Q => ∃ n : Int, args = [.bx, .sh (.int n)] ∧ 1 ≤ n ∧ n ≤ 1000 ∧ c ≤ 800000000 ∧ ∀ ns c', Stt ns → (ns.length : Int) = n → c' ≤ c + 15000 → Q (.sh (.tuple (dI ns))) c'
theorem mon_law_random_state : MonF p_law_random_state := fun args c A B h ⟨n, e, h1, h2, h3, q⟩ => ⟨n, e, h1, h2, h3, fun r c' a b d => h _ _ (q r c' a b d)⟩
abbrev rs_body : DTS := (dSeq (dSetG true 8 (dLst (dCons (dOp φIx (dVar 2) (dOp (φC (fun _ j => 0 < j) fun i j => i % j) (dOp φAdd (dVar 7) (dC (.int 1))) (dVar 1))) (dCons (dOp φIx (dVar 2) (dCB φMax (dCons (dC (.int 0)) (dCons (dOp (φI fun i j => i - j) (dVar 7) (dC (.int 1))) dNil)))) (dCons (dOp φIx (dVar 2) (dCB φMax (dCons (dC (.int 0)) (dCons (dOp (φI fun i j => i - j) (dOp (φI fun i j => i - j) (dVar 7) (dC (.int 1))) (dCall p_law_take (dCons (dVar 0) (dCons (dC (.int 3)) dNil)))) dNil)))) dNil)))))
  (dSeq (dAppend 8 (dOp φIx (dVar 2) (dCall p_law_take (dCons (dVar 0) (dCons (dOp φAdd (dC (.int 1)) (dOp (φC CDivW fun i j => i / j) (dVar 1) (dC (.int 4)))) dNil)))))
  (dSeq (dAppend 8 (dIf (dTest (dOp (φB fun i j => decide (i < j)) (dVar 7) (dVar 6))) (dOp φIx (dVar 2) (dOp (φC (fun _ j => 0 < j) fun i j => i % j) (dOp φAdd (dVar 7) (dC (.int 1))) (dVar 6))) (dOp φIx (dVar 2) (dCall p_law_take (dCons (dVar 0) (dCons (dVar 7) dNil))))))
  (dSetIx 5 (dOp φIx (dVar 8) (dOp (φI fun i j => i - j) (dVar 3) (dC (.int 2)))) (dVar 4)))))
theorem rs_loop {n k h : Int} {row : List Int} {Δ : DEnds} (n1 : 1 ≤ n) (n2 : n ≤ 1000) (k2 : 2 ≤ k) (k6 : k ≤ 6) (h1 : 1 ≤ h) (h2 : h ≤ n) (hrow : NetOk n.toNat row) :
    ∀ (ps : List (Int × Nat)) (fs : List Int) (x4 x7 x8 : SV) (c : Nat), (∀ q ∈ ps, row[q.2]? = some q.1) → NetOk n.toNat fs → c + 9 * ps.length ≤ 850000000 →
      (∀ fs c' x4 x7 x8, NetOk n.toNat fs → c' ≤ c + 9 * ps.length → Δ.nx ⟨[.bx, .sh (.int n), .sh (.list (dI row)), .sh (.int k), x4, .ow (dI fs), .sh (.int h), x7, x8], c'⟩) →
      forD (dGTup 2 (dGCons (dName 7) (dGCons (dName 4) dGNil))) rs_body Δ (ps.map fun p => .tuple [.int (p.2 : Nat), .int p.1]) ⟨[.bx, .sh (.int n), .sh (.list (dI row)), .sh (.int k), x4, .ow (dI fs), .sh (.int h), x7, x8], c⟩
  | [], fs, x4, x7, x8, c, _, hf, _, q => q fs c x4 x7 x8 hf (by omega)
  | (w, a) :: ps, fs, x4, x7, x8, c, hps, hf, hc, q => by
    rw [List.length_cons] at hc
    have ha : row[a]? = some w := hps (w, a) List.mem_cons_self
    have hw : 0 ≤ w ∧ w < ((n.toNat : Nat) : Int) := hrow.2 w (List.mem_of_getElem? ha)
    have ha2 : a < row.length := (List.getElem?_eq_some_iff.mp ha).1
    have hl := hrow.1
    have fl := hf.1
    have step : ∀ (v : Int) (c' : Nat) (x8 : SV), 0 ≤ v → v < n → c' ≤ c + 9 → ∃ m, ixN (dI fs).length w = some m ∧ forD (dGTup 2 (dGCons (dName 7) (dGCons (dName 4) dGNil))) rs_body Δ (ps.map fun p => .tuple [.int (p.2 : Nat), .int p.1]) ⟨[.bx, .sh (.int n), .sh (.list (dI row)), .sh (.int k), .sh (.int w), .ow ((dI fs).set m (.int v)), .sh (.int h), .sh (.int (a : Nat)), x8], c'⟩ := by
      intro v c' x8 v0 v1 hc'
      refine ⟨w.toNat, ixN_ok hw.1 (by rw [dI_len, fl]; exact hw.2), ?_⟩
      rw [dI_set]
      refine rs_loop n1 n2 k2 k6 h1 h2 hrow ps (fs.set w.toNat v) _ _ _ c' (fun q hq => hps q (List.mem_cons_of_mem _ hq)) ⟨by rw [List.length_set]; exact fl, hf.2.set v0 (by omega)⟩ (by omega) fun gs c2 x4 x7 x8 h1 h2 => q gs c2 x4 x7 x8 h1 (by rw [List.length_cons]; omega)
    have ixr : ∀ i : Int, 0 ≤ i → i < n → ∃ z, atI (dI row) i = some (.int z) ∧ 0 ≤ z ∧ z < n := fun i h0 h1 => by
      have h2 : i < (row.length : Int) := by omega
      have := gt_low hrow.2 h0 h2
      exact ⟨_, atI_dI h0 h2, this.1, by omega⟩
    refine for_cons ?_
    rfl'
    refine ⟨rfl, ?_⟩
    have m0 := Int.emod_nonneg ((a : Int) + 1) (show n ≠ 0 by omega)
    have m1 := Int.emod_lt_of_pos ((a : Int) + 1) (show 0 < n by omega)
    obtain ⟨z1, e1, z10, z11⟩ := ixr (((a : Int) + 1) % n) m0 m1
    refine sq_ ?_
    rfl'
    refine ⟨by omega, .int z1, e1, ?_⟩
    have al : (a : Int) < n := by omega
    obtain ⟨z2, e2, z20, z21⟩ := ixr (if (a : Int) - 1 > 0 then (a : Int) - 1 else 0) (by split <;> omega) (by split <;> omega)
    refine ⟨.int z2, e2, ?_⟩
    refine c_take (by decide) (by decide) (by omega) fun r c1 r0 r1 hc1 => ?_
    rfl'
    obtain ⟨z3, e3, z30, z31⟩ := ixr (if (a : Int) - 1 - r > 0 then (a : Int) - 1 - r else 0) (by split <;> omega) (by split <;> omega)
    refine ⟨.int z3, e3, ?_⟩
    refine sq_ ?_
    rfl'
    refine ⟨⟨by decide, by decide⟩, ?_⟩
    refine c_take (by omega) (by omega) (by omega) fun r4 c2 r40 r41 hc2 => ?_
    rfl'
    obtain ⟨z4, e4, z40, z41⟩ := ixr r4 r40 (by omega)
    refine ⟨.int z4, e4, (by show 3 < 16777216; decide), ?_⟩
    have fin : ∀ (z5 : Int) (c3 : Nat), 0 ≤ z5 → z5 < n → c3 ≤ c + 9 → ∃ d, atI [PyData.int z1, .int z2, .int z3, .int z4, .int z5] (k - 2) = some d ∧ ∃ m, ixN (dI fs).length w = some m ∧ forD (dGTup 2 (dGCons (dName 7) (dGCons (dName 4) dGNil))) rs_body Δ (ps.map fun p => .tuple [.int (p.2 : Nat), .int p.1]) ⟨[.bx, .sh (.int n), .sh (.list (dI row)), .sh (.int k), .sh (.int w), .ow ((dI fs).set m d), .sh (.int h), .sh (.int (a : Nat)), .ow [PyData.int z1, .int z2, .int z3, .int z4, .int z5]], c3⟩ := by
      intro z5 c3 z50 z51 hc3
      have : k = 2 ∨ k = 3 ∨ k = 4 ∨ k = 5 ∨ k = 6 := by omega
      rcases this with rfl | rfl | rfl | rfl | rfl
      · exact ⟨_, rfl, step z1 c3 _ z10 z11 hc3⟩
      · exact ⟨_, rfl, step z2 c3 _ z20 z21 hc3⟩
      · exact ⟨_, rfl, step z3 c3 _ z30 z31 hc3⟩
      · exact ⟨_, rfl, step z4 c3 _ z40 z41 hc3⟩
      · exact ⟨_, rfl, step z5 c3 _ z50 z51 hc3⟩
    refine sq_ ?_
    rfl'
    refine it_2 (fun hh => ?_) fun hh => ?_
    · have p0 := Int.emod_nonneg ((a : Int) + 1) (show h ≠ 0 by omega)
      have p1 := Int.emod_lt_of_pos ((a : Int) + 1) (show 0 < h by omega)
      obtain ⟨z5, e5, z50, z51⟩ := ixr (((a : Int) + 1) % h) p0 (by omega)
      refine ⟨by omega, .int z5, e5, (by show 4 < 16777216; decide), ?_⟩
      rfl'
      exact fin z5 c2 z50 z51 (by omega)
    · refine c_take (by omega) (by omega) (by omega) fun r5 c3 r50 r51 hc3 => ?_
      rfl'
      obtain ⟨z5, e5, z50, z51⟩ := ixr r5 r50 (by omega)
      refine ⟨.int z5, e5, (by show 4 < 16777216; decide), ?_⟩
      rfl'
      exact fin z5 c3 z50 z51 (by omega)
theorem m_law_random_state : ∀ args c Q, p_law_random_state args c Q → defF k_law_random_state b_law_random_state args c Q := by
  rintro _ c Q ⟨n, rfl, h1, h2, h3, q⟩
  show b_law_random_state _ ⟨[.bx, .sh (.int n), .un, .un, .un, .un, .un, .un, .un], c⟩
  unfold b_law_random_state
  have fin : ∀ ns c', NetOk n.toNat ns → c' ≤ c + 15000 → Q (.sh (.tuple (dI ns))) c' := fun ns c' ok hc => q ns c' ⟨by rw [ok.1]; exact ok.2, by rw [ok.1]; omega, by rw [ok.1]; omega⟩ (by rw [ok.1]; omega) hc
  refine sq_ ?_
  rfl'
  refine ⟨by omega, by omega, ?_⟩
  have hl0 : (rgD 0 n.toNat).length = n.toNat := by unfold rgD; rw [List.length_map, List.length_range]
  refine .inl ⟨_, (List.range n.toNat).map fun i : Nat => (i : Int), rfl, ?_, by rw [List.length_map, List.length_range]; omega, by rw [List.length_map, List.length_range]; omega, fun row c1 hp hc1 => ?_⟩
  · show some (rgD 0 n.toNat) = _
    unfold rgD dI
    rw [List.map_map]
    congr 1
    refine List.map_congr_left fun i _ => ?_
    simp
  have hrow := perm_low hp
  rw [List.length_map, List.length_range] at hc1
  rfl'
  refine c_take (by decide) (by decide) (by omega) fun k c2 k0 k1 hc2 => ?_
  refine sq_ ?_
  rfl'
  refine it_2 (fun hk => ?_) fun hk => ?_
  · refine lc_draw PyData.int PyData.int (fun _ y => 0 ≤ y ∧ y < n) (N := 3) row [] c2 (fun x hx m hm K hK => ?_) (by show 0 + _ ≤ _; rw [hrow.1]; omega) fun ys m hys hm => ?_
    · rfl'
      rw [hrow.1] at hm
      exact c_take h1 (by omega) (by omega) fun r c3 r0 r1 hc3 => hK _ _ r rfl ⟨r0, r1⟩ hc3
    · rfl'
      rw [hrow.1] at hm
      have hl := hys.len
      refine fin ys m ⟨by rw [hl]; exact hrow.1, fun z hz => ?_⟩ (by omega)
      obtain ⟨x, _, hp⟩ := hys.mem z hz
      omega
  refine sq_ ?_
  rfl'
  refine it_2 (fun h7 => ?_) fun h7 => ?_
  · refine .inl ⟨_, row, rfl, its_l _, by rw [hrow.1]; omega, by rw [hrow.1]; omega, fun es c3 hp3 hc3 => ?_⟩
    rfl'
    rw [hrow.1] at hc3
    exact fin es c3 ⟨by rw [hp3.length_eq]; exact hrow.1, fun z hz => hrow.2 z (hp3.mem_iff.mp hz)⟩ (by omega)
  refine sq_ ?_
  rfl'
  refine ⟨⟨by omega, by omega, show 1 * n.toNat ≤ 16777216 by omega⟩, ?_⟩
  refine ⟨⟨by decide, by decide +kernel⟩, ?_⟩
  refine sq_ ?_
  rfl'
  have hfs : (List.replicate n.toNat [PyData.int 0]).flatten = dI (List.replicate n.toNat 0) := by
    show _ = (List.replicate n.toNat (0 : Int)).map _
    rw [List.map_replicate]
    generalize n.toNat = m
    clear hrow hl0 hc1 hp q fin
    induction m with
    | zero => rfl
    | succ m ih => rw [List.replicate_succ, List.flatten_cons, ih, List.replicate_succ]; rfl
  rw [hfs, enD_dI]
  refine ⟨rfl, rs_loop h1 h2 (by omega) (by omega) (by split <;> omega) (by split <;> omega) hrow row.zipIdx _ _ _ _ c2 (fun q hq => List.mem_zipIdx_iff_getElem?.mp hq) ⟨List.length_replicate, fun z hz => by rw [List.eq_of_mem_replicate hz]; omega⟩ (by rw [List.length_zipIdx, hrow.1]; omega) fun fs c3 x4 x7 x8 h6 h8 => ?_⟩
  rfl'
  rw [List.length_zipIdx, hrow.1] at h8
  exact fin fs c3 h6 (by omega)
end Lp

namespace Lp
open PySem PySem.Spec PyProof.Rows L2
local macro_rules | `(tactic| rfl') => `(tactic| try dsimp only [dVar_, gv_sh, gv_ow, gv_bx, gv_raw, gv_st, dC, dRaw, dOp, dUn, dTest, dTruth, dAnd, dOr, dNot, dYes, dIf, dAndV, dOrV, dNotV, dNotT, dChain, dNil, dCons, dTup, dLst, dats, dCB, dNoP, dPart, dSl, dNext, dBreak, dCont, dNever, dDrop, dRet, dRetN, dIfS, dSetG, dPar, dPar3, dAppend, dAppPop, dSetIx, dExt, dAug, dSet0, dSAdd, dSNotIn, dIter_, gi_l, gi_t, gi_b, dRng1, dRng2, dName, dGNil, dGCons, dGTup, dAsg, dFor, dWhile, dCall, dCallR, dArgs_, ga_f, ga_t, argsOf, dLc, wipeE, dListRg, dIndex, dSortSet, dSortSc, dEnum, dEnA, dZip, dIsi, dIsi2, isaT, φI, φB, φC, φNeg, add_i, add_l, add_t, mul_i, mul_l, φIx, sl_l, sl_t, eq_i, eq_s, eq_l, eq_t, eq_b, eq_n, φIsN, isN_n, isN_b, isN_i, isN_s, isN_l, isN_t, φLen, φList, φTuple, φAbs, φInt, φMax, φIsB, φIsNB, its_l, its_t, rd_sh, rd_nw, rd_br, rp_sh, rp_nw, rp_br, rp_bx, rp_raw, rp_sr, rr_sh, rr_nw, rr_br, ra_sh, ra_br, ra_bx, ra_raw, va_sh, va_nt, va_nf, va_raw, hb_n, hb_sh, hb_bx, hb_raw, hb_br, sh_n, sh_c, tr_n, tr_b, tr_i, tr_l, tr_t, ty_n, ty_b, ty_i, ty_s, ty_l, ty_t, if_ff, if_tt, Env.set, List.getElem?_cons_succ, List.getElem?_cons_zero, List.set_cons_succ, List.set_cons_zero, List.reverse_cons, List.reverse_nil, List.nil_append, List.cons_append, Option.bind_some, ite_true, ite_false])
theorem route_head {gs : List Int} (h : Stt gs) {p : Int} (hp : Per gs p) : ∃ r, routeF gs p = p :: r := by
  obtain ⟨L, e, nd, hin⟩ := h.rt hp
  have l1 := (route_len h hp).1
  rw [e, itrs_len] at l1
  obtain ⟨M, rfl⟩ : ∃ M, L = M + 1 := ⟨L - 1, by omega⟩
  refine ⟨(itrs gs p (M + 1)).tail, ?_⟩
  rw [e]
  unfold itrs
  rw [List.range_succ_eq_map]; rfl
theorem cyc_route {ns : List Int} (h : Stt ns) {x : Int} (hx : Per ns x) {c : Nat} (cy : Cyc ns x c) : routeF ns x = itrs ns x c := by
  refine (h.rt hx).eq ⟨c, rfl, cy.2.2, ?_⟩
  rw [cy.2.1]
  exact itrs_mem.mpr ⟨0, cy.1, rfl⟩
theorem cyc_ring {ns : List Int} (h : Stt ns) {x : Int} (hx : Per ns x) {c : Nat} (cy : Cyc ns x c) : ringF ns x = turnF (itrs ns x c) := ring_at h.lo hx.1 hx.2 cy
theorem mem_turnF {ms : List Int} {z : Int} : z ∈ turnF ms ↔ z ∈ ms := by
  unfold turnF
  rw [List.mem_append, Or.comm, ← List.mem_append, List.take_append_drop]
theorem on_iff {ns : List Int} (h : Stt ns) {x : Int} (hx : Per ns x) : x ∈ ringF ns x ↔ ∃ c, Cyc ns x c := by
  constructor
  · intro hm
    obtain ⟨c, er, cy, _⟩ := headF_form h.lo hx.1 hx.2
    rw [er] at hm
    exact ⟨c, (cy.at hm).1⟩
  · rintro ⟨c, cy⟩
    rw [cyc_ring h hx cy, mem_turnF]
    exact itrs_mem.mpr ⟨0, cy.1, rfl⟩
/-- all new pointers lie on the old ways -/
def OnWays (ns gs : List Int) : Prop := ∀ x, Per ns x → gt gs x ∈ routeF ns (gt ns x)
theorem own_cyc {ns : List Int} (h : Stt ns) {x : Int} (hx : Per ns x) {d : Nat} (cy : Cyc ns x d) : routeF ns (gt ns x) = itrs ns (gt ns x) d ∧ Cyc ns (gt ns x) d := by
  have hm : gt ns x ∈ itrs ns x d := cy.all 1
  have c2 := (cy.at hm).1
  exact ⟨cyc_route h (h.gt hx) c2, c2⟩
/-- at one ring of the state: K is kept as a ring, the others point at earlier ones -/
def LapOk (gs lap : List Int) : Prop := ∃ K T : List Int, K.Sublist lap ∧ K ≠ [] ∧ T.Nodup ∧ (∀ y, y ∈ T ↔ y ∈ lap) ∧ K = T.take K.length ∧
  (∀ i, i < K.length → gt gs (K.getD i 0) = K.getD ((i + 1) % K.length) 0) ∧ ∀ i, K.length ≤ i → i < T.length → ∃ j, j < i ∧ gt gs (T.getD i 0) = T.getD j 0
theorem LapOk.congr {gs gs' lap : List Int} (h : LapOk gs lap) (e : ∀ x ∈ lap, gt gs' x = gt gs x) : LapOk gs' lap := by
  obtain ⟨K, T, h1, h2, h3, h4, h5, h6, h7⟩ := h
  refine ⟨K, T, h1, h2, h3, h4, h5, fun i hi => ?_, fun i hi hj => ?_⟩
  · rw [← h6 i hi]
    refine e _ (h1.subset ?_)
    rw [List.getD_eq_getElem?_getD, List.getElem?_eq_getElem hi]; exact List.getElem_mem _
  · obtain ⟨j, hj1, hj2⟩ := h7 i hi hj
    refine ⟨j, hj1, ?_⟩
    rw [← hj2]
    refine e _ ((h4 _).mp ?_)
    rw [List.getD_eq_getElem?_getD, List.getElem?_eq_getElem hj]; exact List.getElem_mem _
structure Fut (ns gs : List Int) : Prop where
  st : Stt gs
  len : gs.length = ns.length
  off : ∀ x, Per ns x → x ∉ ringF ns x → gt gs x ∈ routeF ns (gt ns x)
  on : ∀ x, Per ns x → x ∈ ringF ns x → LapOk gs (ringF ns x)
theorem ring_way {ns : List Int} (h : Stt ns) {x z : Int} (hx : Per ns x) (hm : x ∈ ringF ns x) (hz : z ∈ ringF ns x) : z ∈ routeF ns (gt ns x) := by
  obtain ⟨c, cy⟩ := (on_iff h hx).mp hm
  obtain ⟨e1, c2⟩ := own_cyc h hx cy
  rw [cyc_ring h hx cy, mem_turnF] at hz
  rw [e1]
  exact ((cy.at (cy.all 1)).2 z).mpr hz
theorem getD_mem {l : List Int} {i : Nat} (h : i < l.length) : l.getD i 0 ∈ l := by
  rw [List.getD_eq_getElem?_getD, List.getElem?_eq_getElem h]; exact List.getElem_mem _
theorem LapOk.in {gs lap : List Int} (h : LapOk gs lap) {x : Int} (hx : x ∈ lap) : gt gs x ∈ lap := by
  obtain ⟨K, T, h1, h2, h3, h4, h5, h6, h7⟩ := h
  have hT := (h4 x).mpr hx
  obtain ⟨i, hi, rfl⟩ := List.mem_iff_getElem.mp hT
  have e : T.getD i 0 = T[i] := by rw [List.getD_eq_getElem?_getD, List.getElem?_eq_getElem hi]; rfl
  by_cases hk : i < K.length
  · have ek : K.getD i 0 = T[i] := by
      rw [h5, List.getD_eq_getElem?_getD, List.getElem?_take_of_lt hk, List.getElem?_eq_getElem hi]; rfl
    rw [← ek, h6 i hk]
    exact h1.subset (getD_mem (Nat.mod_lt _ (by omega)))
  · obtain ⟨j, hj, ej⟩ := h7 i (by omega) hi
    rw [← e, ej]
    exact (h4 _).mp (getD_mem (by omega))
theorem Fut.ways {ns gs : List Int} (h : Stt ns) (f : Fut ns gs) : OnWays ns gs := fun x hx => by
  by_cases hm : x ∈ ringF ns x
  · exact ring_way h hx hm ((f.on x hx hm).in hm)
  · exact f.off x hx hm
/-- the state itself -/
theorem Fut.self {ns : List Int} (h : Stt ns) : Fut ns ns := by
  refine ⟨h, rfl, fun x hx _ => ?_, fun x hx hm => ?_⟩
  · obtain ⟨r, e⟩ := route_head h (h.gt hx)
    rw [e]; exact List.mem_cons_self
  · obtain ⟨c, er, cy, h0, h1⟩ := headF_form h.lo hx.1 hx.2
    have hl : (ringF ns x).length = c := by rw [er, itrs_len]
    have gD : ∀ i, i < c → (ringF ns x).getD i 0 = itr ns (headF ns x) i := fun i hi => by
      rw [er, List.getD_eq_getElem?_getD, itrs_get hi]; rfl
    have c0 := cy.1
    refine ⟨ringF ns x, ringF ns x, List.Sublist.refl _, ring_ne h hx, by rw [er]; exact cy.2.2, fun _ => Iff.rfl, by rw [List.take_length], fun i hi => ?_, fun i hi hj => by omega⟩
    rw [hl] at hi ⊢
    rw [gD i hi, gD _ (Nat.mod_lt _ c0)]
    show itr ns (headF ns x) (i + 1) = _
    by_cases q : i + 1 = c
    · rw [q, Nat.mod_self, cy.2.1]; rfl
    · rw [Nat.mod_eq_of_lt (by omega)]
end Lp

namespace Lp
open PySem PySem.Spec PyProof.Rows L2
local macro_rules | `(tactic| rfl') => `(tactic| try dsimp only [dVar_, gv_sh, gv_ow, gv_bx, gv_raw, gv_st, dC, dRaw, dOp, dUn, dTest, dTruth, dAnd, dOr, dNot, dYes, dIf, dAndV, dOrV, dNotV, dNotT, dChain, dNil, dCons, dTup, dLst, dats, dCB, dNoP, dPart, dSl, dNext, dBreak, dCont, dNever, dDrop, dRet, dRetN, dIfS, dSetG, dPar, dPar3, dAppend, dAppPop, dSetIx, dExt, dAug, dSet0, dSAdd, dSNotIn, dIter_, gi_l, gi_t, gi_b, dRng1, dRng2, dName, dGNil, dGCons, dGTup, dAsg, dFor, dWhile, dCall, dCallR, dArgs_, ga_f, ga_t, argsOf, dLc, wipeE, dListRg, dIndex, dSortSet, dSortSc, dEnum, dEnA, dZip, dIsi, dIsi2, isaT, φI, φB, φC, φNeg, add_i, add_l, add_t, mul_i, mul_l, φIx, sl_l, sl_t, eq_i, eq_s, eq_l, eq_t, eq_b, eq_n, φIsN, isN_n, isN_b, isN_i, isN_s, isN_l, isN_t, φLen, φList, φTuple, φAbs, φInt, φMax, φIsB, φIsNB, its_l, its_t, rd_sh, rd_nw, rd_br, rp_sh, rp_nw, rp_br, rp_bx, rp_raw, rp_sr, rr_sh, rr_nw, rr_br, ra_sh, ra_br, ra_bx, ra_raw, va_sh, va_nt, va_nf, va_raw, hb_n, hb_sh, hb_bx, hb_raw, hb_br, sh_n, sh_c, tr_n, tr_b, tr_i, tr_l, tr_t, ty_n, ty_b, ty_i, ty_s, ty_l, ty_t, if_ff, if_tt, Env.set, List.getElem?_cons_succ, List.getElem?_cons_zero, List.set_cons_succ, List.set_cons_zero, List.reverse_cons, List.reverse_nil, List.nil_append, List.cons_append, Option.bind_some, ite_true, ite_false])
end Lp

namespace Lp
open PySem PySem.Spec PyProof.Rows L2
local macro_rules | `(tactic| rfl') => `(tactic| try dsimp only [dVar_, gv_sh, gv_ow, gv_bx, gv_raw, gv_exn, gv_st, dC, dRaw, dOp, dUn, dTest, dTruth, dAnd, dOr, dNot, dYes, dIf, dAndV, dOrV, dNotV, dNotT, dChain, dNil, dCons, dTup, dLst, dats, dCB, dNoP, dPart, dSl, dNext, dBreak, dCont, dNever, dDrop, dRet, dRetN, dIfS, dSetG, dPar, dPar3, dAppend, dAppPop, dSetIx, dExt, dAug, dSet0, dSAdd, dSNotIn, dIter_, gi_l, gi_t, gi_b, dRng1, dRng2, dName, dGNil, dGCons, dGTup, dAsg, dFor, dWhile, dCall, dCallR, dArgs_, ga_f, ga_t, argsOf, dLc, wipeE, dListRg, dIndex, dSortSet, dSortSc, dEnum, dEnA, dZip, dIsi, dIsi2, isaT, φI, φB, φC, φNeg, add_i, add_l, add_t, mul_i, mul_l, φIx, sl_l, sl_t, eq_i, eq_s, eq_l, eq_t, eq_b, eq_n, φIsN, isN_n, isN_b, isN_i, isN_s, isN_l, isN_t, φLen, φList, φTuple, φAbs, φInt, φMax, φIsB, φIsNB, its_l, its_t, rd_sh, rd_nw, rd_br, rp_sh, rp_nw, rp_br, rp_bx, rp_raw, rp_sr, rr_sh, rr_nw, rr_br, ra_sh, ra_br, ra_bx, ra_raw, va_sh, va_nt, va_nf, va_raw, hb_n, hb_sh, hb_bx, hb_raw, hb_br, sh_n, sh_c, tr_n, tr_b, tr_i, tr_l, tr_t, ty_n, ty_b, ty_i, ty_s, ty_l, ty_t, if_ff, if_tt, Env.set, List.getElem?_cons_succ, List.getElem?_cons_zero, List.set_cons_succ, List.set_cons_zero, List.reverse_cons, List.reverse_nil, List.nil_append, List.cons_append, Option.bind_some, ite_true, ite_false])
end Lp

namespace Lp
open PySem PySem.Spec PyProof.Rows L2
local macro_rules | `(tactic| rfl') => `(tactic| try dsimp only [dVar_, gv_sh, gv_ow, gv_bx, gv_raw, gv_st, dC, dRaw, dOp, dUn, dTest, dTruth, dAnd, dOr, dNot, dYes, dIf, dAndV, dOrV, dNotV, dNotT, dChain, dNil, dCons, dTup, dLst, dats, dCB, dNoP, dPart, dSl, dNext, dBreak, dCont, dNever, dDrop, dRet, dRetN, dIfS, dSetG, dPar, dPar3, dAppend, dAppPop, dSetIx, dExt, dAug, dSet0, dSAdd, dSNotIn, dIter_, gi_l, gi_t, gi_b, dRng1, dRng2, dName, dGNil, dGCons, dGTup, dAsg, dFor, dWhile, dCall, dCallR, dArgs_, ga_f, ga_t, argsOf, dLc, wipeE, dListRg, dIndex, dSortSet, dSortSc, dEnum, dEnA, dZip, dIsi, dIsi2, isaT, φI, φB, φC, φNeg, add_i, add_l, add_t, mul_i, mul_l, φIx, sl_l, sl_t, eq_i, eq_s, eq_l, eq_t, eq_b, eq_n, φIsN, isN_n, isN_b, isN_i, isN_s, isN_l, isN_t, φLen, φList, φTuple, φAbs, φInt, φMax, φIsB, φIsNB, its_l, its_t, rd_sh, rd_nw, rd_br, rp_sh, rp_nw, rp_br, rp_bx, rp_raw, rp_sr, rr_sh, rr_nw, rr_br, ra_sh, ra_br, ra_bx, ra_raw, va_sh, va_nt, va_nf, va_raw, hb_n, hb_sh, hb_bx, hb_raw, hb_br, sh_n, sh_c, tr_n, tr_b, tr_i, tr_l, tr_t, ty_n, ty_b, ty_i, ty_s, ty_l, ty_t, if_ff, if_tt, Env.set, List.getElem?_cons_succ, List.getElem?_cons_zero, List.set_cons_succ, List.set_cons_zero, List.reverse_cons, List.reverse_nil, List.nil_append, List.cons_append, Option.bind_some, ite_true, ite_false])
end Lp

namespace Lp
open PySem PySem.Spec PyProof.Rows L2
local macro_rules | `(tactic| rfl') => `(tactic| try dsimp only [dVar_, gv_sh, gv_ow, gv_bx, gv_raw, gv_st, dC, dRaw, dOp, dUn, dTest, dTruth, dAnd, dOr, dNot, dYes, dIf, dAndV, dOrV, dNotV, dNotT, dChain, dNil, dCons, dTup, dLst, dats, dCB, dNoP, dPart, dSl, dNext, dBreak, dCont, dNever, dDrop, dRet, dRetN, dIfS, dSetG, dPar, dPar3, dAppend, dAppPop, dSetIx, dExt, dAug, dSet0, dSAdd, dSNotIn, dIter_, gi_l, gi_t, gi_b, dRng1, dRng2, dName, dGNil, dGCons, dGTup, dAsg, dFor, dWhile, dCall, dCallR, dArgs_, ga_f, ga_t, argsOf, dLc, wipeE, dListRg, dIndex, dSortSet, dSortSc, dEnum, dEnA, dZip, dIsi, dIsi2, isaT, φI, φB, φC, φNeg, add_i, add_l, add_t, mul_i, mul_l, φIx, sl_l, sl_t, eq_i, eq_s, eq_l, eq_t, eq_b, eq_n, φIsN, isN_n, isN_b, isN_i, isN_s, isN_l, isN_t, φLen, φList, φTuple, φAbs, φInt, φMax, φIsB, φIsNB, its_l, its_t, rd_sh, rd_nw, rd_br, rp_sh, rp_nw, rp_br, rp_bx, rp_raw, rp_sr, rr_sh, rr_nw, rr_br, ra_sh, ra_br, ra_bx, ra_raw, va_sh, va_nt, va_nf, va_raw, hb_n, hb_sh, hb_bx, hb_raw, hb_br, sh_n, sh_c, tr_n, tr_b, tr_i, tr_l, tr_t, ty_n, ty_b, ty_i, ty_s, ty_l, ty_t, if_ff, if_tt, Env.set, List.getElem?_cons_succ, List.getElem?_cons_zero, List.set_cons_succ, List.set_cons_zero, List.reverse_cons, List.reverse_nil, List.nil_append, List.cons_append, Option.bind_some, ite_true, ite_false])
theorem Stt.call {ns : List Int} (h : Stt ns) {w : Int} (hw : Per ns w) : Stt (call1 ns w) := by
  have e := call1_len ns w
  exact ⟨by rw [e]; exact call1_low h.lo rfl hw.1 hw.2, by rw [e]; exact h.le, by rw [e]; exact h.ge⟩
theorem gt_set {gs : List Int} {w x v : Int} (w0 : 0 ≤ w) (w1 : w < (gs.length : Int)) (x0 : 0 ≤ x) : gt (gs.set w.toNat v) x = if x = w then v else gt gs x := by
  unfold gt
  rw [List.getD_eq_getElem?_getD, List.getD_eq_getElem?_getD, List.getElem?_set]
  by_cases e : x = w
  · subst e
    rw [if_pos rfl, if_pos rfl, if_pos (by omega)]; rfl
  · rw [if_neg (by omega), if_neg e]
section
variable {x0 x1 x2 x3 x4 x5 x6 x7 x8 : SV} {Δ : DEnds}
/-- the others of the lap, one after another -/
structure Tied (n : Nat) (g0 gs T : List Int) (k : Nat) : Prop where
  len : gs.length = n
  lo : Low n gs
  nd : T.Nodup
  per : ∀ z ∈ T, 0 ≤ z ∧ z < (n : Int)
  kl : k ≤ T.length
  k0 : 0 < k
  hook : ∀ i, k ≤ i → i < T.length → ∃ j, j < i ∧ gt gs (T.getD i 0) = T.getD j 0
  same : ∀ x, 0 ≤ x → x ∉ T.drop k → gt gs x = gt g0 x
theorem Tied.snoc {n : Nat} {g0 gs T : List Int} {k : Nat} (h : Tied n g0 gs T k) {w v : Int} (hw : w ∉ T) (w0 : 0 ≤ w) (w1 : w < (n : Int)) (hv : v ∈ T) : Tied n g0 (gs.set w.toNat v) (T ++ [w]) k := by
  have wl : w < (gs.length : Int) := by rw [h.len]; exact w1
  have vp := h.per v hv
  refine ⟨by rw [List.length_set]; exact h.len, h.lo.set vp.1 vp.2, Nodup.snoc h.nd hw, fun z hz => ?_, by rw [List.length_append]; have := h.kl; omega, h.k0, fun i hi ht => ?_, fun x x0 hx => ?_⟩
  · rcases List.mem_append.mp hz with q | q
    · exact h.per z q
    · rw [List.mem_singleton.mp q]; exact ⟨w0, w1⟩
  · rw [List.length_append, List.length_singleton] at ht
    by_cases q : i < T.length
    · obtain ⟨j, hj, e⟩ := h.hook i hi q
      have m1 : T.getD i 0 ∈ T := getD_mem q
      have g1 : (T ++ [w]).getD i 0 = T.getD i 0 := by rw [List.getD_eq_getElem?_getD, List.getD_eq_getElem?_getD, List.getElem?_append_left q]
      have g2 : (T ++ [w]).getD j 0 = T.getD j 0 := by rw [List.getD_eq_getElem?_getD, List.getD_eq_getElem?_getD, List.getElem?_append_left (by omega)]
      refine ⟨j, hj, ?_⟩
      rw [g1, g2, gt_set w0 wl (h.per _ m1).1, if_neg (fun z => hw (by rw [← z]; exact m1)), e]
    · have e : i = T.length := by omega
      obtain ⟨j, hj, ej⟩ := List.mem_iff_getElem.mp hv
      have g1 : (T ++ [w]).getD i 0 = w := by rw [e, List.getD_eq_getElem?_getD, List.getElem?_concat_length]; rfl
      have g2 : (T ++ [w]).getD j 0 = v := by rw [List.getD_eq_getElem?_getD, List.getElem?_append_left hj, List.getElem?_eq_getElem hj, ej]; rfl
      refine ⟨j, by omega, ?_⟩
      rw [g1, g2, gt_set w0 wl w0, if_pos rfl]
  · have hk := h.kl
    rw [List.drop_append_of_le_length hk] at hx
    have hx1 : x ∉ T.drop k := fun z => hx (List.mem_append_left _ z)
    have hx2 : x ≠ w := fun z => hx (List.mem_append_right _ (by rw [z]; exact List.mem_singleton.mpr rfl))
    rw [gt_set w0 wl x0, if_neg hx2, h.same x x0 hx1]
end
end Lp

namespace Lp
open PySem PySem.Spec PyProof.Rows L2
local macro_rules | `(tactic| rfl') => `(tactic| try dsimp only [dVar_, gv_sh, gv_ow, gv_bx, gv_raw, gv_exn, gv_st, dC, dRaw, dOp, dUn, dTest, dTruth, dAnd, dOr, dNot, dYes, dIf, dAndV, dOrV, dNotV, dNotT, dChain, dNil, dCons, dTup, dLst, dats, dCB, dNoP, dPart, dSl, dNext, dBreak, dCont, dNever, dDrop, dRet, dRetN, dIfS, dSetG, dPar, dPar3, dAppend, dAppPop, dSetIx, dExt, dAug, dSet0, dSAdd, dSNotIn, dIter_, gi_l, gi_t, gi_b, dRng1, dRng2, dName, dGNil, dGCons, dGTup, dAsg, dFor, dWhile, dCall, dCallR, dArgs_, ga_f, ga_t, argsOf, dLc, wipeE, dListRg, dIndex, dSortSet, dSortSc, dEnum, dEnA, dZip, dIsi, dIsi2, isaT, φI, φB, φC, φNeg, add_i, add_l, add_t, mul_i, mul_l, φIx, sl_l, sl_t, eq_i, eq_s, eq_l, eq_t, eq_b, eq_n, φIsN, isN_n, isN_b, isN_i, isN_s, isN_l, isN_t, φLen, φList, φTuple, φAbs, φInt, φMax, φIsB, φIsNB, its_l, its_t, rd_sh, rd_nw, rd_br, rp_sh, rp_nw, rp_br, rp_bx, rp_raw, rp_sr, rr_sh, rr_nw, rr_br, ra_sh, ra_br, ra_bx, ra_raw, va_sh, va_nt, va_nf, va_raw, hb_n, hb_sh, hb_bx, hb_raw, hb_br, sh_n, sh_c, tr_n, tr_b, tr_i, tr_l, tr_t, ty_n, ty_b, ty_i, ty_s, ty_l, ty_t, if_ff, if_tt, Env.set, List.getElem?_cons_succ, List.getElem?_cons_zero, List.set_cons_succ, List.set_cons_zero, List.reverse_cons, List.reverse_nil, List.nil_append, List.cons_append, Option.bind_some, ite_true, ite_false])
end Lp

namespace Lp
open PySem PySem.Spec PyProof.Rows L2
local macro_rules | `(tactic| rfl') => `(tactic| try dsimp only [dVar_, gv_sh, gv_ow, gv_bx, gv_raw, gv_st, dC, dRaw, dOp, dUn, dTest, dTruth, dAnd, dOr, dNot, dYes, dIf, dAndV, dOrV, dNotV, dNotT, dChain, dNil, dCons, dTup, dLst, dats, dCB, dNoP, dPart, dSl, dNext, dBreak, dCont, dNever, dDrop, dRet, dRetN, dIfS, dSetG, dPar, dPar3, dAppend, dAppPop, dSetIx, dExt, dAug, dSet0, dSAdd, dSNotIn, dIter_, gi_l, gi_t, gi_b, dRng1, dRng2, dName, dGNil, dGCons, dGTup, dAsg, dFor, dWhile, dCall, dCallR, dArgs_, ga_f, ga_t, argsOf, dLc, wipeE, dListRg, dIndex, dSortSet, dSortSc, dEnum, dEnA, dZip, dIsi, dIsi2, isaT, φI, φB, φC, φNeg, add_i, add_l, add_t, mul_i, mul_l, φIx, sl_l, sl_t, eq_i, eq_s, eq_l, eq_t, eq_b, eq_n, φIsN, isN_n, isN_b, isN_i, isN_s, isN_l, isN_t, φLen, φList, φTuple, φAbs, φInt, φMax, φIsB, φIsNB, its_l, its_t, rd_sh, rd_nw, rd_br, rp_sh, rp_nw, rp_br, rp_bx, rp_raw, rp_sr, rr_sh, rr_nw, rr_br, ra_sh, ra_br, ra_bx, ra_raw, va_sh, va_nt, va_nf, va_raw, hb_n, hb_sh, hb_bx, hb_raw, hb_br, sh_n, sh_c, tr_n, tr_b, tr_i, tr_l, tr_t, ty_n, ty_b, ty_i, ty_s, ty_l, ty_t, if_ff, if_tt, Env.set, List.getElem?_cons_succ, List.getElem?_cons_zero, List.set_cons_succ, List.set_cons_zero, List.reverse_cons, List.reverse_nil, List.nil_append, List.cons_append, Option.bind_some, ite_true, ite_false])
end Lp

namespace Lp
open PySem PySem.Spec PyProof.Rows L2
end Lp

namespace Lp
open PySem PySem.Spec PyProof.Rows L2
section
variable {P : Program} {w : World} {A : Around} {E : Value → Shared → Prop} {s : Shared}
end
section
variable {X : Cx}
end
section
variable {w : Wx} {K : PySem.W.Frag} {te : TE} {f : DTE}
end
end Lp

namespace Lp
open PySem PySem.Spec PyProof.Rows L2
section
variable {X : Cx}
end
section
variable {w : Wx} {K : PySem.W.Frag} {te : TE} {f : DTE}
end
end Lp

namespace Lp
open PySem PySem.Spec PyProof.Rows L2
/-- the class at C has the one base B, and an __init__ of its own -/
structure OexB (K : PySem.W.Frag) (C : Addr) (B newId initId : String) (bm : List Value) : Prop where
  base : ExcBaseFacts B newId initId bm
  pass : ∀ self : Value, refuseLoop self "__setattr__" bm = pure ()
  obj : bm.contains (.type "object") = true
  cls : ∃ nm q N bs sn sub ab col dd k0 k1 k2 k3 k5, K.lookup C = some (excClassObj nm q C N bs bm true sn sub ab col dd k0 k1 k2 k3 k5 newId)
  sa : PySem.W.findIn K (.ref C) "__setattr__" = some (some (.builtin "object.__setattr__"))
  exC : PySem.W.subIn K (.ref C) (.type "BaseException") = some true
  tyC : PySem.W.typeIn K (.ref C) = some (.type "type")
  kC : PySem.W.keepIn K (.ref C) = true
section
variable {X : Cx} {pins : List (Addr × Obj)} {σ : L2.St} {H : Hp} {s : Shared} {a C : Addr} {B newId initId : String} {bm : List Value} {E : Value → Shared → Prop} {A : Around}
/-- B.__init__(self, ..) -/
theorem init_B {us : List Value} {Q : Value → Shared → Prop} (T : OexB X.K C B newId initId bm) (I : Inv X pins σ H s) (e : H a = some (exo a C none)) (few : us.length ≤ sizeLine) (q : ∀ s', Inv X pins σ H s' → Q .none s') :
    wpAny (model X.prog X.w) A (call (.builtin initId) (.ref a :: us)) Q E s := by
  obtain ⟨nm, qn, N, bs, sn, sub, ab, col, dd, k0, k1, k2, k3, k5, hC⟩ := T.cls
  obtain ⟨t1, ho⟩ := exo_at I.hok e
  obtain ⟨hp, g, d, t, os⟩ := s
  refine wpAny_call (PySem.HandSPX.init_base T.base (fun _ => rfl) (I.kIn _ _ hC) ho few fun h' t2 k hx => ?_)
  have J := I.write (t' := t) (x := a) (e := a) (o := exo a C none) (by rw [e]; exact True.intro) (.inl rfl) k ⟨_, hx⟩ (exo_ok hx)
  have same : upd H a (exo a C none) = H := by
    funext b
    by_cases hb : b = a
    · rw [hb, upd_same, e]
    · rw [upd_ne hb]
  rw [same] at J
  exact q _ J
end
section
open Builtin Builtin.ObjectAttr PySem.W PySem.Calls PySem.HandSPX
variable {prog : Program} {w : World} {A : Around} {R : Result → Shared → Prop} {hp : Heap} {g : Array GenState} {d : Drawn} {t : Nat} {os : OsState}
/-- the first field of an exception: its dict is made -/
theorem field_B {K : W.Frag} {name : Str} {tk : Tok} {v : Value} {x C : Addr} {fv : Array Value} {cd : ClassData} {bm : List Value}
    (X : K.In hp) (hx : hp.get? x = some { cls := .ref C, data := .fields fv }) (hcd : W.clsIn K C = some cd) (hm : cd.mro = .ref C :: bm) (pass : ∀ self : Value, refuseLoop self "__setattr__" bm = pure ()) (ob : bm.contains (.type "object") = true)
    (hh : cd.hasDict = true) (ha : W.findIn K (.ref C) name = some none)
    (hq : ∀ h' tk' dx, (∀ b o, b ≠ x → hp.get? b = some o → h'.get? b = some o) → hp.objs.size ≤ dx → dx ≠ x → h'.get? x = some { cls := .ref C, dict := some dx, data := .fields fv } →
      h'.Ns1 dx (fun y => if y = name then some v else none) → R (.ok (.ret .none)) ⟨h', g, d, tk', os⟩) :
    codeAny (model prog w) A (.call (.builtin "object.__setattr__") ⟨[.ref x, .str name tk, v], []⟩) R ⟨hp, g, d, t, os⟩ := by
  have I : W.InstAt hp x { cls := .ref C, data := .fields fv } C none := ⟨hx, rfl, rfl, trivial⟩
  have SF := F.store_object
  have hob : cd.mro.contains (.type "object") = true := by rw [hm, List.contains_cons, ob, Bool.or_true]
  have ne : cd.mro.isEmpty = false := by rw [hm]; rfl
  have far : x ≠ hp.objs.size := Nat.ne_of_lt (Heap.lt_size hx)
  have sub : W.Looks (model prog w) hp (isInstance (.ref x) (.type "object")) true := I.type.andThen (W.looks_mroIn X (by unfold W.mroIn; rw [hcd, Option.bind_some, if_neg (by rw [ne]; decide), hob]))
  have lm : W.Looks (model prog w) hp (mroOf (.ref C)) cd.mro := (W.looks_clsIn X hcd).andThen .now
  have lt : W.Looks (model prog w) hp (storeTaker? none) none := .now
  have lc : W.Looks (model prog w) hp (classData C) cd := W.looks_clsIn X hcd
  refine codeAny_call_builtin SF.slot.plain SF.entry (@W.check_slot (model prog w) _ _ ⟨hp, g, d, t, os⟩ "object.__setattr__" "object" "__setattr__" (.ref x) [.str name tk, v] [] _ SF.kind SF.split sub (SF.args (.ref x) (.str name tk) v) ?_)
  rw [W.osa_eq, refuse_eq]
  refine wpAny_bind (wpAny_bind (I.type.at (wpAny_bind (lm.at ?_))))
  rw [hm, refuseLoop_ref, pass]
  refine wpAny_pure (wpAny_bind (I.type.at (wpAny_bind ((W.looks_findIn X ha).at (wpAny_bind (lt.at ?_))))))
  show wpAny _ _ (storeInOwnDict (.ref x) (.ref C) (.str name tk) name v false) _ _ _
  obtain ⟨nm, bs, mro, ns, qn, hd, sn, sb, ab, col, del⟩ := cd
  dsimp only at hh
  subst hh
  unfold storeInOwnDict ownDictForStores
  repeat (first | with_reducible refine store_in_new ?_ ?_ | with_reducible refine wpAny_loadPart_at hx ?_ | with_reducible refine lc.at ?_ | wp_step)
  · exact ⟨_, #[], _, (Heap.get?_update_ne _ _ _ _ far.symm).trans (Heap.get?_push_at rfl rfl), rfl, fun e he => absurd he (by simp), fun _ => rfl⟩
  · intro h' tk' hn' hs
    have hx1 : (hp.push { cls := .type "dict", data := .dict #[] }).get? x = some { cls := .ref C, data := .fields fv } := Heap.get?_push_of_some _ hx
    refine hq h' tk' hp.objs.size (fun b o hb ho => ?_) (Nat.le_refl _) far.symm ?_ hn'
    · exact (hs.2 b (Nat.ne_of_lt (Heap.lt_size ho))).trans ((Heap.get?_update_ne _ _ _ _ hb).trans (Heap.get?_push_of_some _ ho))
    · exact (hs.2 x far).trans (Heap.get?_update_self _ hx1 rfl)
end
section
variable {X : Cx} {pins : List (Addr × Obj)} {σ : L2.St} {H : Hp} {s : Shared} {a C : Addr} {B newId initId : String} {bm : List Value} {E : Value → Shared → Prop} {A : Around} {f : Str} {y : V} {u : Value}
/-- self.f = y, the first field -/
theorem store_B {Q : Unit → Shared → Prop} (T : OexB X.K C B newId initId bm) (I : Inv X pins σ H s) (e : H a = some (exo a C none)) (no : PySem.W.findIn X.K (.ref C) f = some none) (ry : RelV y u)
    (q : ∀ dx s', H dx = none → dx ≠ a → Inv X pins σ (upd (upd H dx (exd dx [(f, y)])) a (exo a C (some dx))) s' → Q () s') : wpAny (model X.prog X.w) A (setAttr (.ref a) f u) Q E s := by
  obtain ⟨nm, qn, N, bs, sn, sub, ab, col, dd, k0, k1, k2, k3, k5, hC⟩ := T.cls
  have hcl : PySem.W.clsIn X.K C = some { name := nm, bases := bs, mro := .ref C :: bm, ns := N, qualname := qn, hasDict := true, slotNames := sn, subclasses := sub, abstract := ab, collection := col, hasDel := false } := by unfold PySem.W.clsIn; rw [hC] <;> rfl
  obtain ⟨t1, ho⟩ := exo_at I.hok e
  obtain ⟨hp, g, d, t, os⟩ := s
  refine PySem.W.set_plain I.kIn (ox := { cls := .ref C, dict := none, data := .fields #[.ref t1, .none, .none, .none, .bool false, .none] }) (od := none) ⟨ho, rfl, rfl, trivial⟩ T.sa ?_
  refine field_B I.kIn ho hcl rfl T.pass T.obj rfl no fun h' tk' dx keep new ne at_a at_d => ?_
  have none_ : H dx = none := I.hok.fresh new
  have old : ∀ {b : Addr} {o : Obj}, hp.get? b = some o → b ≠ dx := fun {b o} z => Nat.ne_of_lt (Nat.lt_of_lt_of_le (Heap.lt_size z) new)
  have not_a : ∀ {b : Addr}, H b = none → b ≠ a := fun {b} n z => by rw [z, e] at n; cases n
  have U : Un X.fs [] H (upd (upd H dx (exd dx [(f, y)])) a (exo a C (some dx))) hp h' := {
    keep := fun b o z n _ _ => keep b o (not_a n) z
    slot := fun b o z n _ _ => ⟨o.slots, keep b o (not_a n) z⟩
    free := fun b o z n _ => by rw [upd_ne (not_a n), upd_ne (old z)]; exact n
    there := fun b o z _ => by
      by_cases hb : b = a
      · exact ⟨_, by rw [hb]; exact at_a⟩
      · exact ⟨o, keep b o hb z⟩
    tups := fun b xs z => by rw [upd_ne (at_ne e z exo_tup), upd_ne (ne_of_none z none_)]; exact z
    frzs := fun b o v z => by rw [upd_ne (at_ne e z exo_frz), upd_ne (ne_of_none z none_)]; exact z
    tbls := fun b ps z => ⟨#[], by rw [upd_ne (at_ne e z exo_tbl), upd_ne (ne_of_none z none_), z]; simp⟩ }
  refine q dx _ none_ ne (I.un (t' := tk') U fun b o z => ?_)
  by_cases hb : b = a
  · subst hb
    rw [upd_same] at z
    cases z
    exact exo_ok at_a
  · rw [upd_ne hb] at z
    by_cases hd : b = dx
    · subst hd
      rw [upd_same] at z
      cases z
      exact exd_ok at_d (relO_put (fs := []) ry fun g => True.intro)
    · rw [upd_ne hd] at z
      refine (I.hok b o z).stay (fun c v hc z2 => keep c v ?_ z2) (fun c hc => by rw [upd_ne (at_ne e hc exo_own), upd_ne (ne_of_none hc none_)]; exact hc) (fun c xs hc => by rw [upd_ne (at_ne e hc exo_tup), upd_ne (ne_of_none hc none_)]; exact hc)
      rcases hc with hc | hc
      · rw [hc]; exact hb
      · exact at_ne e hc exo_own
end
/-- B.__init__(self, ..) -/
def tInitB (K : PySem.W.Frag) (B newId initId : String) (bm : List Value) (ta : TA) : TE := fun σ H Q => ta σ H fun vs H1 => ∃ (a C : Addr) (ws : List V), vs = .ref a :: ws ∧ ws.length ≤ 1000 ∧ OexB K C B newId initId bm ∧ H1 a = some (exo a C none) ∧ Q .non H1
/-- self.f = e -/
def tStoreB (K : PySem.W.Frag) (B newId initId : String) (bm : List Value) (f : Str) (to te : TE) : TS := fun D σ H => te σ H fun y H1 => to σ H1 fun x H2 => ∃ a C : Addr, x = .ref a ∧ OexB K C B newId initId bm ∧ PySem.W.findIn K (.ref C) f = some none ∧
  H2 a = some (exo a C none) ∧ ∀ dx, H2 dx = none → dx ≠ a → D.nx σ (upd (upd H2 dx (exd dx [(f, y)])) a (exo a C (some dx)))
section
variable {X : Cx} {o e : Expr} {es : List Expr} {to te : TE} {ta : TA} {f : Str} {p p' p1 p2 pos : Pos} {B newId initId : String} {bm : List Value}
theorem ps_storeB (ho : PE X o to) (he : PE X e te) (hs : swapsWith e (some (.Attribute o f p')) pos.line X.env = pure false := by rfl) : PS X (.Assign [.Attribute o f p'] e pos) (tStoreB X.K B newId initId bm f to te) := by
  refine ⟨fun pins s σ H D I h => ?_⟩
  refine plainObj_wpAny_Assign_Attribute (thn (he.run pins s σ H _ I h) fun v s1 ⟨y, H1, I1, r1, q1⟩ => thn (ho.run pins s1 σ H1 _ I1 q1) fun u s2 ⟨x, H2, I2, r2, a, C, ex, T, no, ea, q⟩ => ?_) hs
  subst ex
  obtain rfl : u = Value.ref a := r2
  exact store_B T I2 ea no r1 fun dx s' n ne J => ⟨σ, _, J, q dx n ne⟩
/-- C(e, ..), C's own __init__ keeping sp -/
theorem pmk_B {CX : CXT} {x : Str} {C fI : Addr} {k : Nat} {fd : FuncData} {ps : List Str} {sp : Sp} {ds : List Value} {dvs : List V} (hd : Vals dvs ds) (T : OexB X.K C B newId initId bm) (iC : PySem.W.findIn X.K (.ref C) "__init__" = some (some (.ref fI))) (tI : PySem.W.typeIn X.K (.ref fI) = some (.type "function"))
    (F1 : FnOk X.prog X.w X.K X.mg X.base CX k fI fd ps sp) (hr : Room (k + 1) X.A) (hb : Binds X.K fd ps ds) (hx : Passes CX X (fun _ _ _ => False)) (hg : Gl X x) (hm : X.mg x = some (.ref C)) (ha : PA X (e :: es) ta)
    (hdb : (x == ("__debug__" : Str)) = false := by decide) (he : starEach (e :: es) X.env = (false, eval e X.env) :: starEach es X.env := by rfl) (hpl : (backTo pos (starEach es X.env)).any (·.1) = false := by rfl) :
    PMk X (.Call (.Name x p) (e :: es) [] pos) (tMkO C sp dvs ta) := by
  intro pins s σ H Q I h
  obtain ⟨nm, qn, N, bs, sn, sub, ab, col, dd, k0, k1, k2, k3, k5, hC⟩ := T.cls
  refine wpAny_Call_Name_kw (ld_glob I hg hm ?_ hdb)
  refine PySem.W.callWith_K (h₀ := X.base) I.ok.mod.kin T.kC (thn (ha.run pos pins s σ H _ I h) fun us s1 ⟨vs, H1, I1, r1, few, q1⟩ => ⟨I1.kIn, ?_⟩) he hpl
  show wpAny _ _ (call (.ref C) us) _ _ _
  obtain ⟨hp, g, dr, tk, os⟩ := s1
  have new : hp.objs.size ≤ hp.objs.size + 1 := Nat.le_succ _
  have none_ : H1 (hp.objs.size + 1) = none := I1.hok.fresh new
  have want := q1 (hp.objs.size + 1) none_
  have keep : ∀ b o, hp.get? b = some o → ((hp.push (PySem.W.kdv_tup us)).push (PySem.HandSPX.excO C hp.objs.size)).get? b = some o := fun b o z => Heap.get?_push_of_some _ (Heap.get?_push_of_some _ z)
  have at_e : ((hp.push (PySem.W.kdv_tup us)).push (PySem.HandSPX.excO C hp.objs.size)).get? (hp.objs.size + 1) = some (PySem.HandSPX.excO C hp.objs.size) := by heap_get
  have I2 : Inv X pins σ (upd H1 (hp.objs.size + 1) (exo (hp.objs.size + 1) C none)) ⟨(hp.push (PySem.W.kdv_tup us)).push (PySem.HandSPX.excO C hp.objs.size), g, dr, tk, os⟩ :=
    I1.laid (t' := tk) (a := hp.objs.size + 1) (o := exo (hp.objs.size + 1) C none) (h' := (hp.push (PySem.W.kdv_tup us)).push (PySem.HandSPX.excO C hp.objs.size)) keep new (exo_ok at_e)
  have r2 : Vals (V.ref (hp.objs.size + 1) :: (vs ++ dvs)) (Value.ref (hp.objs.size + 1) :: (us ++ ds)) := .cons rfl (r1.append hd)
  have len : (Value.ref (hp.objs.size + 1) :: us ++ ds).length = ps.length := by
    have z := r2.length
    rw [F1.len _ _ _ _ want] at z
    exact z.symm
  have few2 : us.length ≤ sizeLine := by rw [← Paired.length r1, sizeLine_eq]; omega
  refine wpAny_call (PySem.HandSPX.call_own T.base (fun _ => rfl) (I1.kIn _ _ hC) (PySem.W.looks_findIn I1.kIn iC) (fun self => PySem.W.bind_fn I1.kIn self tI) few2
    (codeAny_mono (F1.run _ X.stack _ _ ⟨Value.ref (hp.objs.size + 1) :: us, []⟩ (Value.ref (hp.objs.size + 1) :: (us ++ ds)) _ _ (fun _ _ _ => False) (hr.make C us []) (I2.env0.make C us []) (hb _ (Value.ref (hp.objs.size + 1) :: us) I2.kIn len) r2 want) fun r s' back => ?_))
  match r, back with
  | .error er, back => exact hx pins σ _ _ er s' I2 back
  | .ok (.ret u), back =>
    obtain ⟨v, H2, os2, bare2, un2, hok2, rv, ev, d, fs, ea, ed, hd1, q2⟩ := back
    subst ev
    obtain ⟨h2, g2, d2, t2, os'⟩ := s'
    exact ⟨rv, mk_end (raises_own T.exC T.tyC) I1 new keep un2 hok2 os2 bare2 ea ed hd1 q2⟩
  | .ok .next, back => exact False.elim back
  | .ok .brk, back => exact False.elim back
  | .ok .cont, back => exact False.elim back
end
end Lp

namespace Lp
open PySem PySem.Spec PyProof.Rows L2
theorem Rep.chg {w w' : Wx} {Z : Zx} {O : Addr → Prop} {σ : L2.St} {ε : Env} {L H : Hp} (x : Rep w Z O L H σ ε) (h1 : w.w = w'.w) (h2 : w.cl = w'.cl) (h3 : w'.Φ Z) : Rep w' Z O L H σ ε := by
  obtain ⟨a, b, c, d, e⟩ := w
  obtain ⟨a', b', c', d', e'⟩ := w'
  cases h1
  cases h2
  refine ⟨x.lh, x.pn, x.ex, x.bo, x.oh, x.len, fun i y hy => ?_, x.di, h3⟩
  obtain ⟨o, q1, q2⟩ := x.sl i y hy
  refine ⟨o, q1, ?_⟩
  cases y <;> exact q2
theorem EndsOk.chg {w w' : Wx} {Z : Zx} {D : Ends} {Δ : DEnds} (E : EndsOk w Z D Δ) (h1 : w'.w = w.w) (h2 : w'.cl = w.cl) (h3 : w.Φ Z) : EndsOk w' Z D Δ :=
  ⟨fun O σ ε L H X q => E.nx O σ ε L H (X.chg h1 h2 h3) q, fun O σ ε L H v r X k q => E.rt O σ ε L H v r (X.chg h1 h2 h3) k q, fun O σ ε L H X q => E.bk O σ ε L H (X.chg h1 h2 h3) q, fun O σ ε L H X q => E.ct O σ ε L H (X.chg h1 h2 h3) q⟩
abbrev DSpX := List SV → Nat → (R → Nat → Prop) → (Xn → Nat → Prop) → Prop
def MonX (F : DSpX) : Prop := ∀ args c (A B : R → Nat → Prop) (C D : Xn → Nat → Prop), (∀ r c', A r c' → B r c') → (∀ x c', C x c' → D x c') → F args c A C → F args c B D
/-- an exception in flight -/
def XR (cl : Str → Option Addr) (L : Hp) (cls : Value) (d : Option Addr) (x : Xn) : Prop := ∃ C, cl x.cls = some C ∧ cls = .ref C ∧ XF L d x.fs
def spX (cl : Str → Option Addr) (n : Nat) (F : DSpX) : Sp := fun vs H Q E => ∃ (b : Option Addr) (L : Hp) (c : Nat) (args : List SV), vs.length = n ∧ CallZ b L H c ∧ ArgsR b L vs args ∧
  F args c (fun r c' => ∀ v L' H', CallZ b L' H' c' → Ext b L H L' H' → VR0 H L' H' v r → Q v H') (fun x c' => ∀ cls d L' H', CallZ b L' H' c' → Ext b L H L' H' → XR cl L' cls d x → E cls d H')
abbrev W1 (w : World) (cl : Str → Option Addr) : Wx := ⟨w, cl, fun _ => True, fun _ _ _ _ => trivial, fun _ _ _ _ _ _ => trivial⟩
/-- a body whose exceptions are wished for by W, as data by Ex -/
abbrev WxE (w : World) (cl : Str → Option Addr) (P0 : Hp) (W : WX) (Ex : Xn → Env → Prop) : Wx := ⟨w, cl,
  fun Z => Same P0 Z.P ∧ ∀ P O σ ε L H cls d x, Same P0 P → Rep (W1 w cl) { Z with P := P } O L H σ ε → XR cl L cls d x → Ex x ε → W cls d σ H,
  fun Z P s h => ⟨h.1.trans s, h.2⟩,
  fun Z a o h0 hb h => ⟨h.1, fun P O σ ε L H cls d x sP X => h.2 P O σ ε L H cls d x sP (Rep.thaw0 (Z := { Z with P := P }) h0 hb trivial X)⟩⟩
def dArgsX (F : DSpX) (rs : List R) (ε : Env) (Q : R → Env → Prop) (Ex : Xn → Env → Prop) : Prop := match argsOf rs with
  | some args => hasBr rs = false ∧ F args ε.c (fun r c => Q r ⟨ε.s, c⟩) (fun x c => Ex x ⟨ε.s, c⟩)
  | none => False
def dCallX (F : DSpX) (Ex : Xn → Env → Prop) (f : DTA) (ε : Env) (Q : R → Env → Prop) : Prop := f ε fun rs ε1 => dArgsX F rs ε1 Q Ex
section
variable {w : World} {cl : Str → Option Addr} {P0 : Hp} {W : WX} {Ex : Xn → Env → Prop}
theorem se_callX {n : Nat} {F : DSpX} {t : TA} {f : DTA} (hF : MonX F) (hf : SA (WxE w cl P0 W Ex) n t f) : SE (WxE w cl P0 W Ex) (tCallS (spX cl n F) (WE W) t) (dCallX F Ex f) := by
  constructor
  · intro ε A B h q
    refine hf.mono _ _ _ (fun rs ε1 q => ?_) q
    unfold dArgsX at q ⊢
    split at q
    · exact ⟨q.1, hF _ _ _ _ _ _ (fun r c q => h _ _ q) (fun _ _ q => q) q.2⟩
    · exact q.elim
  · intro Z O σ ε L H Q X q
    refine hf.run Z O σ ε L H _ X (hf.mono _ _ _ (fun rs ε1 q => ?_) q)
    intro vs L1 H1 X1 e1 r1 hl np
    unfold dArgsX at q
    split at q
    · rename_i args ha
      obtain ⟨hb, q⟩ := q
      refine ⟨Z.b, L1, ε1.c, args, by rw [r1.len, hl], ⟨X1.lh, fun b hb => ⟨(X1.bo b hb).1, (X1.bo b hb).2.1⟩⟩, args_plain r1 ha hb, hF _ _ _ _ _ _ (fun r c q => ?_) (fun x c q => ?_) q⟩
      · intro v L' H' z' e' r'
        exact q v L' H' (X1.exts e' z'.1 fun b hb => (z'.2 b hb).2) (e1.trans e') ((r'.vr X1).back e1)
      · intro cls d L' H' z' e' xr
        have X2 := X1.exts (c := c) e' z'.1 fun b hb => (z'.2 b hb).2
        exact X1.ph.2 Z.P O σ ⟨ε1.s, c⟩ L' H' cls d x X1.ph.1 (X2.chg rfl rfl trivial) xr q
    · exact q.elim
end
def defX (k : Nat) (p : (Xn → Env → Prop) → DTS) : DSpX := fun args c Q Ex => p (fun x ε => Ex x ε.c) { nx := fun ε => Q (.sh .none) ε.c, rt := fun r ε => Q r ε.c } (env0 args k c)
section
variable {P : Program} {w : World} {K : PySem.W.Frag} {mg : Str → Option Value} {base : Heap} {cl : Str → Option Addr}
theorem spX_len {n : Nat} {F : DSpX} {vs : List V} {H : Hp} {Q : VK} {E : XK} (h : spX cl n F vs H Q E) : vs.length = n := by
  obtain ⟨b, L, c, args, hn, _⟩ := h
  exact hn
theorem okDX {x qual : Str} {st : Stmt} {f : Addr} {fd : FuncData} {N ps : List Str} {k j : Nat} {p : (Xn → Env → Prop) → DTS} {F : DSpX} (G : Fun K x qual st f fd) (S : FnScope N ps (defScope st)) (hj : N.length = ps.length + j)
    (body : ∀ (cdv : Value) (A : Around) (outer : List PySem.Env) (s : Shared) (H : Hp) (E : XK), Room k (A.deeper (envOfC qual (defScope st) s.heap.objs.size f cdv)) →
      ∃ t, PSs (cxOf (L2.CX P w) P w K mg base N qual (defScope st) f cdv A outer s H E) (defBody st) t ∧ ∀ P0 Ex, SS (WxE w cl P0 (fun cls d _ H => E cls d H) Ex) t (p Ex))
    (h : ∀ args c Q Ex, F args c Q Ex → defX j p args c Q Ex) : FnOk P w K mg base (L2.CX P w) (k + 1) f fd ps (spX cl ps.length F) := by
  refine Fun.okX G S (fun vs H Q E h => spX_len h) fun cdv A outer s H vs Q E hr q => ?_
  obtain ⟨t, ht, hs⟩ := body cdv A outer s H E hr
  refine ⟨t, ht, ?_⟩
  obtain ⟨b, L, c, args, hn, z, a, q⟩ := q
  have q := h _ _ _ _ q
  refine (hs (fun _ => none) _).run _ _ _ _ L H _ _ (rep_start z a (by omega) ⟨(fun _ _ h => nomatch h), fun P O σ ε L' H' cls d x _ X xr q => ?_⟩) ?_ q
  · exact q cls d L' H' ⟨X.lh, fun a ha => ⟨(X.bo a ha).1, (X.bo a ha).2.1⟩⟩ X.ex xr
  · refine ⟨fun O σ ε L' H' X q => ?_, fun O σ ε L' H' v r X hr q => ?_, fun O σ ε L' H' X q => q.elim, fun O σ ε L' H' X q => q.elim⟩
    · exact q .non L' H' ⟨X.lh, fun a ha => ⟨(X.bo a ha).1, (X.bo a ha).2.1⟩⟩ X.ex DV.non
    · exact q v L' H' ⟨X.lh, fun a ha => ⟨(X.bo a ha).1, (X.bo a ha).2.1⟩⟩ X.ex hr
end
def okv (H : Hp) (v : V) : Prop := (∃ i, v = .int i) ∨ ∃ p xs, v = .ref p ∧ Sol H p xs
/-- an own __init__ that keeps its one argument in a field -/
def spI (K : PySem.W.Frag) (C : Addr) (fld : Str) : Sp := fun vs H Q _ => ∃ (a : Addr) (v : V), vs = [.ref a, v] ∧ H a = some (exo a C none) ∧ okv H v ∧
  ∀ dx, H dx = none → dx ≠ a → Q .non (upd (upd H dx (exd dx [(fld, v)])) a (exo a C (some dx)))
def dRaise (nm fld : Str) (f : DTE) (Ex : Xn → Env → Prop) (_ : DEnds) (ε : Env) : Prop := f ε fun r ε1 => match r with
  | .sh (.int i) => Ex ⟨nm, [(fld, .int i)]⟩ ε1
  | .sh (.tuple ds) => Ex ⟨nm, [(fld, .tuple ds)]⟩ ε1
  | _ => False
section
variable {w : World} {cl : Str → Option Addr} {P0 : Hp} {W : WX} {Ex : Xn → Env → Prop} {K : PySem.W.Frag} {C : Addr} {nm fld : Str} {te : TE} {f : DTE}
theorem raise_end {Z : Zx} {O : Addr → Prop} {σ : L2.St} {ε : Env} {L H : Hp} {v : V} {d : PyData} (hc : cl nm = some C) (X : Rep (WxE w cl P0 W Ex) Z O L H σ ε) (r : DV L v d) (ok : okv L v) (q : Ex ⟨nm, [(fld, d)]⟩ ε) (a : Addr) (na : H a = none) :
    spI K C fld [.ref a, v] (upd H a (exo a C none)) (fun v' H2 => v' = .non ∧ ∃ (d : Addr) (fs : List (Str × V)), H2 a = some (exo a C (some d)) ∧ H2 d = some (exd d fs) ∧ H d = none ∧ W (.ref C) (some d) σ (upd (del H2 a) d (.xd fs))) (fun _ _ _ => False) := by
  refine ⟨a, v, rfl, upd_same, ?_, fun dx n ne => ⟨rfl, dx, [(fld, v)], upd_same, by rw [upd_ne ne, upd_same], ?_, ?_⟩⟩
  · rcases ok with h | ⟨p, xs, e, h⟩
    · exact .inl h
    · refine .inr ⟨p, xs, e, ?_⟩
      obtain ⟨o, h1, h2⟩ := h.to X.lh
      exact ⟨o, h1, by rw [upd_ne (ne_of_none h2 na)]; exact h2⟩
  · rw [upd_ne ne] at n; exact n
  · have n' : H dx = none := by rw [upd_ne ne] at n; exact n
    have e : upd (del (upd (upd (upd H a (exo a C none)) dx (exd dx [(fld, v)])) a (exo a C (some dx))) a) dx (.xd [(fld, v)]) = upd H dx (.xd [(fld, v)]) := by
      funext b
      by_cases hb : b = dx
      · rw [hb, upd_same, upd_same]
      · rw [upd_ne hb, upd_ne hb]
        by_cases ha : b = a
        · rw [ha, del_same, na]
        · rw [del_ne ha, upd_ne ha, upd_ne hb, upd_ne ha]
    rw [e]
    have e2 : Ext none L H (upd L dx (.xd [(fld, v)])) (upd H dx (.xd [(fld, v)])) := Ext.new X.lh n'
    have X2 := X.step e2 (same_both X.lh)
    exact X.ph.2 Z.P O σ ε _ _ (.ref C) (some dx) ⟨nm, [(fld, d)]⟩ X.ph.1 (X2.chg rfl rfl trivial) ⟨C, hc, rfl, [(fld, v)], upd_same, .cons (DV.to r e2.ll) .nil⟩ q
theorem ss_raise (hc : cl nm = some C) (hf : SE (WxE w cl P0 W Ex) te f) : SS (WxE w cl P0 W Ex) (fun _ σ H => tMkO C (spI K C fld) [] (tCons te tNil) σ H fun cls d H' => W cls d σ H') (dRaise nm fld f Ex) := by
  constructor
  · intro Δ Δ' ε l z
    exact z
  · intro Z O σ ε L H D Δ X E z
    refine hf.run Z O σ ε L H _ X (hf.mono _ _ _ (fun r ε1 z => ?_) z)
    intro v L1 H1 X1 e1 r1
    split at z
    · have r2 : DV L1 v (.int _) := r1
      refine ⟨by simp, fun a na => raise_end hc X1 r2 (.inl ⟨_, by cases r2; rfl⟩) z a na⟩
    · have r2 : DV L1 v (.tuple _) := r1
      refine ⟨by simp, fun a na => raise_end hc X1 r2 (.inr ?_) z a na⟩
      cases r2 with
      | tup h1 h2 => exact ⟨_, _, rfl, h1⟩
    · exact z.elim
end
end Lp

namespace Lp
open PySem PySem.Spec PyProof.Rows L2
class Fns where
  v : Str → V
abbrev FN [Fns] (n : Str) : V := Fns.v n
def dCallV (i : Nat) (v : V) (F : DSp) (f : DTA) (ε : Env) (Q : R → Env → Prop) : Prop := match ε.s[i]? with
  | some (.raw u) => u = v ∧ dCall F f ε Q
  | _ => False
def dCallVX (i : Nat) (v : V) (F : DSpX) (Ex : Xn → Env → Prop) (f : DTA) (ε : Env) (Q : R → Env → Prop) : Prop := match ε.s[i]? with
  | some (.raw u) => u = v ∧ dCallX F Ex f ε Q
  | _ => False
section
variable {w : Wx} {t : TA} {f : DTA} {a : Addr} {v : V} {i n : Nat}
end
section
variable {w : World} {cl : Str → Option Addr} {P0 : Hp} {W : WX} {Ex : Xn → Env → Prop} {a : Addr} {v : V} {i n : Nat}
end
section
variable {X : Cx} {CX : CXT} {k i : Nat} {f : Addr} {fd : FuncData} {ps : List Str} {sp : Sp} {x : Str} {p pos : Pos} {e : Expr} {es : List Expr} {t : TA}
end
end Lp

namespace PySem.W
open PySem PySem.Spec PySem.Calls PyProof.Rows
section
variable {M : Model} {K : Frag}
end
end PySem.W
namespace Lp
open PySem PySem.Spec PyProof.Rows L2
/-- the test of an except clause -/
def TstOk (X : Cx) (t : Expr) (cs : List Value) : Prop := ∀ (a : Addr) (pn : List (Addr × Obj)) (σ : L2.St) (H : Hp) (s : Shared) (cls : Value) (b : Bool) (Q : Bool → Shared → Prop) (E : Value → Shared → Prop), Inv (X.suite a pn) [] σ H s →
  PySem.W.Looks (model X.prog X.w) s.heap (typeOf (.ref a)) cls → PySem.W.exmAny X.K cls cs = some b → (∀ h', (∀ q o, s.heap.get? q = some o → h'.get? q = some o) → Q b { s with heap := h' }) →
  wpAny (model X.prog X.w) (X.A.mark (some (.ref a))) (eval t X.env) (fun c s₁ => wpAny (model X.prog X.w) (X.A.mark (some (.ref a))) (excMatches (.ref a) c) Q E s₁) E s
section
variable {X : Cx}
theorem ld_name {a : Addr} {pn : List (Addr × Obj)} {σ : L2.St} {H : Hp} {s : Shared} {x : Str} {c : Value} {np : Pos} {Q : Value → Shared → Prop} {E : Value → Shared → Prop} (S : Inv (X.suite a pn) [] σ H s) (hc : Names X x c) (q : Q c s) :
    wpAny (model X.prog X.w) (X.A.mark (some (.ref a))) (eval (.Name x np) X.env) Q E s := by
  obtain ⟨hg, hdbg, hm | ⟨hm, hv, hnn⟩⟩ := hc
  · exact ld_glob (X := X.suite a pn) S hg hm q hdbg
  · exact ld_blt (X := X.suite a pn) S hg hm hv q hnn hdbg
end
theorem fly_keeps {B : Heap} {l : List PySem.Env} {e : Addr} {Z : Obj → Prop} {h h' : Heap} (R : HandSPX.FlyingZ B l e Z h) (k : ∀ b o, h.get? b = some o → h'.get? b = some o) : HandSPX.FlyingZ B l e Z h' := by
  obtain ⟨f1, f2, f3, oe, ws, T, oT, ts, he, hc, hd, h1, hn, hne, hT, hdT, h3⟩ := R
  exact ⟨fun b o q => k b o (f1 b o q), f2, f3.of_keeps fun b o q _ => ⟨o, k b o q, rfl⟩, oe, ws, T, oT, ts, k _ _ he, hc, hd, h1, hn, hne, k _ _ hT, hdT, h3⟩
section
variable {X : Cx} {pins : List (Addr × Obj)} {σ : L2.St} {H : Hp} {s : Shared}
theorem exc_ok {P : Program} {w : World} {H : Hp} {h : Heap} {a : Addr} {c : Value} {d : Option Addr} {oe : Obj} {vs : Array Value} (he : h.get? a = some oe) (hc : oe.cls = c) (hd : oe.dict = d) (hv : oe.data = .fields vs) : ObjOk P w H h a (exc a c d) :=
  ⟨⟨oe, vs, he, hc, hd, hv⟩, ⟨_, he⟩, fun h1 h2 z k => by
    obtain ⟨o, v, q, r⟩ := z
    exact ⟨o, v, k _ q, r⟩⟩
theorem exc_at {P : Program} {w : World} {H : Hp} {h : Heap} {a : Addr} {c : Value} {d : Option Addr} (hok : HOk P w H h) (he : H a = some (exc a c d)) : ∃ oe vs, h.get? a = some oe ∧ oe.cls = c ∧ oe.dict = d ∧ oe.data = .fields vs := by
  have x : ObjOk P w H h a (.ext fun h => ∃ oe vs, h.get? a = some oe ∧ oe.cls = c ∧ oe.dict = d ∧ oe.data = .fields vs) := hok a _ he
  exact x.1
/-- an object of ours is taken note of -/
theorem Inv.note {a : Addr} {o : HO} {oe : Obj} {vs : Array Value} (I : Inv X pins σ H s) (ha : s.heap.get? a = some oe) (hv : oe.data = .fields vs) (na : H a = none) (n0 : X.s_0.heap.get? a = none) (nL : a ≠ X.env.locals) (np : ∀ p ∈ X.pn ++ pins, p.1 ≠ a) (ok : ObjOk X.prog X.w (upd H a o) s.heap a o) : Inv X pins σ (upd H a o) s := by
  have ne : ∀ {b : Addr} {u : HO}, H b = some u → b ≠ a := fun {b u} h => ne_of_none h na
  refine ⟨I.ok, I.os, I.bare, ⟨I.base.keep, I.base.slot, fun b u h1 h2 h3 => ?_, I.base.there, fun b xs h => ?_, fun b u v h => ?_, fun b ps h => ?_⟩, I.loc, I.cell, ?_, fun x c h => ?_, fun p hp => ?_, fun b u h => ?_, I.len⟩
  · rw [upd_ne (fun z => by rw [z, n0] at h1; cases h1)]
    exact I.base.free b u h1 h2 h3
  · have q := I.base.tups b xs h
    rw [upd_ne (ne q)]; exact q
  · have q := I.base.frzs b u v h
    rw [upd_ne (ne q)]; exact q
  · obtain ⟨more, q⟩ := I.base.tbls b ps h
    exact ⟨more, by rw [upd_ne (ne q)]; exact q⟩
  · rw [upd_ne (fun z => nL z.symm)]; exact I.free
  · rw [upd_ne (fun z => ?_)]
    · exact I.freeC x c h
    · obtain ⟨v, hc⟩ := I.cell x c h
      obtain ⟨oc, h1, h2⟩ := hc
      rw [z, ha] at h1
      cases h1
      rw [hv] at h2; cases h2
  · obtain ⟨h1, h2, h3⟩ := I.pin p hp
    exact ⟨h1, by rw [upd_ne (np p hp)]; exact h2, h3⟩
  · by_cases q : b = a
    · subst q
      rw [upd_same] at h
      cases h
      exact ok
    · rw [upd_ne q] at h
      exact (I.hok b u h).stay (fun c v _ z => z) (fun c hc => by rw [upd_ne (ne hc)]; exact hc) (fun c xs hc => by rw [upd_ne (ne hc)]; exact hc)
end
/-- what the clause wishes: the exception is one of cs; behind the suite it is known -/
def wTup (K : PySem.W.Frag) (cs : List Value) (i : Nat) (ts : Addr → Value → Option Addr → TS) (D : Ends) : WX := fun cls d σ H =>
  PySem.W.exmAny K cls cs = some true ∧ ∀ a, H a = none → ts a cls d { nx := fun σ' H' => D.nx (σ'.set i none) (upd H' a (exc a cls d)), rt := fun _ _ => False } (σ.set i (some (.ref a))) H
section
variable {X : Cx} {n : Str} {cs : List Value} {te : Expr} {i : Nat} {body suite : List Stmt} {b₀ : Stmt} {pos pos' : Pos} {tb : WX → TS} {ts : Addr → Value → Option Addr → TS}
theorem ps_try_tup (hs : X.stack = X.env :: X.outer) (hf : X.env.frame = some X.env.locals) (hN : X.N.Nodup) (hi : X.N[i]? = some n) (hln : X.env.kindOf n = some .local) (hx0 : X.ex = []) (hc : TstOk X te cs)
    (hb : ∀ (W : WX) (pn : List (Addr × Obj)) (xe : Value → Shared → Prop), Takes (X.tr pn xe) W → PassesOwn (model X.prog X.w) X.A X.env xe → PSs (X.tr pn xe) body (tb W))
    (hsu : ∀ (a : Addr) (oe : Obj) (cls : Value) (d : Option Addr) (pn : List (Addr × Obj)), Zc cls d oe → (∃ vs, oe.data = .fields vs) → PSs (X.suite a ((a, oe) :: pn)) (b₀ :: suite) (ts a cls d)) :
    PS X (.Try body [.ExceptHandler (some te) (some n) (b₀ :: suite) pos'] [] [] pos) (fun D σ H => tb (wTup X.K cs i ts D) D σ H) := by
  refine ⟨fun pins s σ H D I h => ?_⟩
  have ok := I.ok
  have hfr : X.A.frames = some (X.env :: X.outer) := by rw [ok.frames, hs]
  have hloc : Loc X.env.scope n := .inl hln
  refine wpAny_Try_except ?_
  refine wpAny_mono ((hb (wTup X.K cs i ts D) (X.pn ++ pins) (fun e s₁ => wpAny (model X.prog X.w) X.A (noteFrame e X.env) (fun _ s₂ => wpAny (model X.prog X.w) X.A (setFlight e none) (fun _ s₃ =>
    wpAny (model X.prog X.w) X.A (handleBy e X.env [.ExceptHandler (some te) (some n) (b₀ :: suite) pos']) (SP X pins D) X.xe s₃) X.xe s₂) X.xe s₁) (fun u s' xx => ?_) PassesOwn.looking).run [] s σ H D (I.toTry _) h) (fun f s1 hsp => ?_) (fun e s1 he => he)
  · obtain ⟨a, B, sI, pins', σ', H', cls, d, rfl, J', nb, up, sky, na, os, ag, hb1, hyes⟩ := xx
    have J : Inv X pins σ' H' sI := J'.ofTry ok
    have sky' : Sky B (X.env :: X.outer) a (Zc cls d) X.env.locals s'.heap := by rw [← hs]; exact sky
    show wpAny (model X.prog X.w) X.A (noteFrame (.ref a) X.env) _ _ _
    refine Sky.land Zc.steady hfr hf sky' fun h3 fl3 up3 => ?_
    have J3 : Inv X pins σ' H' { s' with heap := h3 } := J.landed nb fl3.1 (up.trans up3) os ag
    obtain ⟨oe3, vs3, he3, hz3, hd3⟩ := fl3.there
    have notFr : ∀ {h : Heap} {o : Obj} {vs : Array Value}, h.FunFrames B (X.env :: X.outer) → h.get? a = some o → o.data = .fields vs → a ∉ frs (X.env :: X.outer) := fun {h o vs} ff e dd hm => by
      obtain ⟨_, o', e', hnf⟩ := ff.mem hm
      rw [e] at e'; cases e'
      exact hnf _ dd
    have nfr := notFr fl3.2.2.1 he3 hd3
    have nL : a ≠ X.env.locals := fun z => nfr (List.mem_filterMap.mpr ⟨X.env, List.mem_cons_self, by rw [hf, z]⟩)
    have nF : a ∉ X.fs := fun hm => by
      obtain ⟨e, he, q⟩ := List.mem_filterMap.mp hm
      exact nfr (List.mem_filterMap.mpr ⟨e, List.mem_cons_of_mem _ he, q⟩)
    have nB : B.get? a = none := fl3.2.1
    have nI : sI.heap.get? a = none := by
      cases q : sI.heap.get? a with
      | none => rfl
      | some o =>
        have := nb a o q (by rw [hs]; exact nfr)
        rw [nB] at this; cases this
    have n0 : X.s_0.heap.get? a = none := by
      cases q : X.s_0.heap.get? a with
      | none => rfl
      | some o =>
        obtain ⟨o', h'⟩ := J.base.there a o q (by rw [hx0]; simp)
        rw [nI] at h'; cases h'
    have np : ∀ p ∈ X.pn ++ pins, p.1 ≠ a := fun p hp z => by
      have := (J.pin p hp).1
      rw [z, nI] at this; cases this
    have S3 := J3.suite he3 hd3 na nL nF
    refine wpAny_handleBy_cons (codeAny_handlers_test ?_) (by intro q; cases q)
    have LT : PySem.W.Looks (model X.prog X.w) h3 (typeOf (.ref a)) cls := fun A Q E s k q => wpAny_typeOf_ref (k _ _ he3) (by rw [hz3.1]; exact q)
    refine hc a _ σ' H' { s' with heap := h3 } cls true _ _ S3 LT hb1 fun h3' kp => ?_
    have fl3' := fly_keeps fl3 kp
    refine codeAny_handlers_suite_as ?_
    refine HandSPX.lands_againZ fl3' fun h4 fl4 up4 => ?_
    have J4 : Inv X pins σ' H' { s' with heap := h4 } := J.landed nb fl4.1 (((up.trans up3).trans (Heap.UpToSlots.of_keeps kp)).trans up4) os ag
    obtain ⟨oe4, vs4, he4, hz4, hd4⟩ := fl4.there
    have S4 := J4.suite he4 hd4 na nL nF
    refine store_ok (X := X.suite a ((a, oe4) :: (X.pn ++ pins))) (v := .ref a) S4 hN hi hloc rfl (fun s5 S5 => ?_) (.inr hln)
    refine wpAny_mono ((hsu a oe4 cls d (X.pn ++ pins) hz4 ⟨_, hd4⟩).run [] s5 _ H' _ S5 (hyes a na)) (fun f s6 hsp => ?_) (fun _ _ z => False.elim z)
    cases f with
    | next =>
      obtain ⟨σ6, H6, S6, q6⟩ := hsp
      refine gone_ok (X := X.suite a ((a, oe4) :: (X.pn ++ pins))) S6 hN hi hln fun s7 S7 => ⟨_, _, ?_, q6⟩
      obtain ⟨p1, p2, _⟩ := S7.pin (a, oe4) (List.mem_append_left _ List.mem_cons_self)
      exact Inv.note (S7.unsuite ok) p1 hd4 p2 n0 nL np (exc_ok p1 hz4.1 hz4.2 hd4)
    | brk =>
      obtain ⟨σ6, H6, S6, q6⟩ := hsp
      exact q6.elim
    | cont =>
      obtain ⟨σ6, H6, S6, q6⟩ := hsp
      exact q6.elim
    | ret u =>
      obtain ⟨v6, σ6, H6, S6, r6, q6⟩ := hsp
      exact q6.elim
  · cases f with
    | next =>
      obtain ⟨σ', H', J', q⟩ := hsp
      exact wpAny_execs_nil ⟨σ', H', J'.ofTry ok, q⟩
    | brk =>
      obtain ⟨σ', H', J', q⟩ := hsp
      exact ⟨σ', H', J'.ofTry ok, q⟩
    | cont =>
      obtain ⟨σ', H', J', q⟩ := hsp
      exact ⟨σ', H', J'.ofTry ok, q⟩
    | ret u =>
      obtain ⟨v, σ', H', J', r, q⟩ := hsp
      exact ⟨v, σ', H', J'.ofTry ok, r, q⟩
end
end Lp

namespace Lp
open PySem PySem.Spec PyProof.Rows L2
theorem Rep.unset {w : Wx} {Z : Zx} {O : Addr → Prop} {σ : L2.St} {ε : Env} {L H : Hp} (x : Rep w Z O L H σ ε) {i : Nat} : Rep w Z O L H (σ.set i none) (ε.set i .un) := by
  refine ⟨x.lh, x.pn, x.ex, x.bo, x.oh, ?_, fun j y hy => ?_, fun j k y z a hjk hy hz oy oz hj hk => ?_, x.ph⟩
  · show (σ.set i none).length = (ε.s.set i .un).length
    rw [List.length_set, List.length_set]; exact x.len
  · rcases get_set hy with ⟨rfl, rfl, hl⟩ | ⟨ne, hy⟩
    · exact ⟨none, by rw [List.getElem?_set, if_pos rfl, if_pos (by rw [x.len]; exact hl)], trivial⟩
    · obtain ⟨o, h1, h2⟩ := x.sl j y hy
      exact ⟨o, by rw [List.getElem?_set, if_neg ne]; exact h1, h2⟩
  · rcases get_set hy with ⟨rfl, rfl, hl⟩ | ⟨ne, hy⟩
    · cases oy
    · rcases get_set hz with ⟨rfl, rfl, hl⟩ | ⟨ne', hz⟩
      · cases oz
      · rw [List.getElem?_set, if_neg ne] at hj
        rw [List.getElem?_set, if_neg ne'] at hk
        exact x.di j k y z a hjk hy hz oy oz hj hk
theorem set3 {α : Type} (l : List α) (i j : Nat) (a b c : α) : ((l.set i a).set j b).set i c = (l.set j b).set i c := by
  by_cases h : i = j
  · subst h
    simp
  · rw [List.set_comm a b h, List.set_set]
/-- try: .. except (..) as e: x = e; i is e's slot, j is x's -/
def dTry (i j : Nat) (nms : List Str) (fb : (Xn → Env → Prop) → DTS) (Δ : DEnds) (ε : Env) : Prop := ∃ Ex : Xn → Env → Prop, (∀ x ε', Ex x ε' → nms.contains x.cls = true ∧ i < ε'.s.length ∧ Δ.nx ((ε'.set j (.exn x)).set i .un)) ∧ fb Ex Δ ε
theorem ss_try {w : Wx} {K : PySem.W.Frag} {cs : List Value} {i j : Nat} {nms : List Str} {tb : WX → TS} {fb : (Xn → Env → Prop) → DTS} (hcl : ∀ nm C, nms.contains nm = true → w.cl nm = some C → PySem.W.exmAny K (.ref C) cs = some true)
    (hb : ∀ P0 W Ex, SS (WxE w.w w.cl P0 W Ex) (tb W) (fb Ex)) : SS w (fun D σ H => tb (wTup K cs i (fun _ _ _ => tAsg (tVar i) (gName j)) D) D σ H) (dTry i j nms fb) := by
  constructor
  · rintro Δ Δ' ε l ⟨Ex, h1, h2⟩
    exact ⟨Ex, fun x ε' q => ⟨(h1 x ε' q).1, (h1 x ε' q).2.1, l.nx _ (h1 x ε' q).2.2⟩, (hb (fun _ => none) (fun _ _ _ _ => True) Ex).mono _ _ _ l h2⟩
  · rintro Z O σ ε L H D Δ X E ⟨Ex, hEx, z⟩
    refine (hb Z.P _ Ex).run Z O σ ε L H D Δ (X.chg rfl rfl ⟨Same.refl _, fun P O σ ε L H cls d x sP X' xr q => ?_⟩) (E.chg rfl rfl X.ph) z
    obtain ⟨C, hC, rfl, xf⟩ := xr
    obtain ⟨hm, hi, q⟩ := hEx x ε q
    have X1 : Rep w Z O L H σ ε := (Rep.unpin (w := W1 w.w w.cl) sP trivial X').chg rfl rfl X.ph
    refine ⟨hcl _ _ hm hC, fun a na => ?_⟩
    have e2 : Ext none L H (upd L a (exc a (.ref C) d)) (upd H a (exc a (.ref C) d)) := Ext.new X1.lh na
    have X2 := X1.step e2 (same_both X1.lh)
    have X3 := ((X2.rawS (i := i) (v := .ref a)).exnS (i := j) (v := .ref a) (y := x) ⟨a, C, d, rfl, hC, upd_same, xf.to e2.ll⟩).unset (i := i)
    have e3 : (((ε.set i (.raw (.ref a))).set j (.exn x)).set i .un) = ((ε.set j (.exn x)).set i .un) := by
      show Env.mk (((ε.s.set i _).set j _).set i _) ε.c = Env.mk ((ε.s.set j _).set i _) ε.c
      rw [set3]
    rw [e3] at X3
    refine ⟨.ref a, ?_, E.nx O _ _ _ _ X3 q⟩
    rw [List.getElem?_set, if_pos rfl, if_pos (by rw [X1.len]; exact hi)]
/-- None, or a caught exception, and its class -/
def TyE (K : PySem.W.Frag) (H : Hp) (v : V) (t : Value) : Prop := (v = .non ∧ t = .type "NoneType") ∨ ∃ (a C : Addr) (d : Option Addr), v = .ref a ∧ t = .ref C ∧ H a = some (exc a (.ref C) d) ∧ (d = none ∨ ∃ dd fs, d = some dd ∧ H dd = some (.xd fs)) ∧ ExcC K C
def rIsX (K : PySem.W.Frag) : List V → Hp → VK → Prop := fun xs H Q => ∃ (x c : V) (t u : Value) (b : Bool), xs = [x, c] ∧ ClsV c u ∧ TyE K H x t ∧ PySem.W.kitOne K t u = some b ∧ Q (.bl b) H
def rIsXT (K : PySem.W.Frag) : List V → Hp → VK → Prop := fun xs H Q => ∃ (x : V) (tp : Addr) (cs : List V) (t : Value) (us : List Value) (b : Bool), xs = [x, .ref tp] ∧ H tp = some (.tup cs) ∧ Paired ClsV cs us ∧ TyE K H x t ∧ PySem.W.kitAny K t us = some b ∧ Q (.bl b) H
section
variable {X : Cx} {pins : List (Addr × Obj)} {σ : L2.St} {H : Hp} {s : Shared}
theorem inst_of {a C : Addr} {d : Option Addr} (I : Inv X pins σ H s) (ea : H a = some (exc a (.ref C) d)) (hd : d = none ∨ ∃ dd fs, d = some dd ∧ H dd = some (.xd fs)) : ∃ oe od, PySem.W.InstAt s.heap a oe C od := by
  obtain ⟨oe, vs, h1, h2, h3, h4⟩ := exc_at I.hok ea
  rcases hd with rfl | ⟨dd, fs, rfl, ed⟩
  · exact ⟨oe, none, h1, h2, by unfold PySem.W.notCls; rw [h4] <;> rfl, by rw [h3]; trivial⟩
  · have hx : ObjOk X.prog X.w H s.heap dd (.xd fs) := I.hok dd _ ed
    obtain ⟨mA, hns, hr⟩ := hx
    obtain ⟨od, ho, hl⟩ := lookIn_ns hns
    exact ⟨oe, some od, h1, h2, by unfold PySem.W.notCls; rw [h4] <;> rfl, by rw [h3]; exact ho⟩
theorem kit_ofE {v : V} {t u : Value} (I : Inv X pins σ H s) (r : RelV v u) (ty : TyE X.K H v t) : ∃ P, PySem.W.KitX X.K u t P ∧ P s.heap ∧ u ≠ .builtin "__main__.__loader__#opaque" := by
  rcases ty with ⟨rfl, rfl⟩ | ⟨a, C, d, rfl, rfl, ea, hd, T⟩
  · cases (show u = Value.none from r)
    exact ⟨_, PySem.W.kitx_none, True.intro, fun z => nomatch z⟩
  · cases (show u = Value.ref a from r)
    obtain ⟨oe, od, J⟩ := inst_of I ea hd
    exact ⟨_, PySem.W.kitx_exc (by obtain ⟨cd, hc, _⟩ := PySem.W.any_some T.hd; rw [hc]; rfl) T.hg T.hk T.hs T.ha T.hn T.ht T.hm, J, fun z => nomatch z⟩
theorem call_isX : CallR X (.builtin "isinstance") (rIsX X.K) := by
  intro pins s σ H xs us Q I r h
  obtain ⟨x, c, t, u, b, rfl, k, ty, e, q⟩ := h
  obtain ⟨u1, u2, rfl, r1, r2⟩ := vals2 r
  have e2 := k.eq r2
  subst e2
  obtain ⟨P, Z, p, hx⟩ := kit_ofE I r1 ty
  exact PySem.W.kia_one Z I.kIn p e hx fun tk => ⟨.bl b, H, I.tok tk, rfl, q⟩
theorem call_isXT : CallR X (.builtin "isinstance") (rIsXT X.K) := by
  intro pins s σ H xs us Q I r h
  obtain ⟨x, tp, cs, t, ws, b, rfl, hT, k, ty, e, q⟩ := h
  obtain ⟨u1, u2, rfl, r1, r2⟩ := vals2 r
  cases (show u2 = Value.ref tp from r2)
  obtain ⟨P, Z, p, hx⟩ := kit_ofE I r1 ty
  obtain ⟨_, its, rv, o, h1, h2, n, h3⟩ := (show ObjOk X.prog X.w H s.heap tp (.tup cs) from I.hok tp _ hT)
  have e3 := ClsV.all k rv
  subst e3
  obtain ⟨oc, od, dt, sl⟩ := o
  simp only at h2 h3
  subst h2 h3
  exact PySem.W.kia_tup Z I.kIn p h1 e hx fun tk => ⟨.bl b, H, I.tok tk, rfl, q⟩
theorem isXK {K : PySem.W.Frag} (e : X.K = K) : CallR X (.builtin "isinstance") (rIsX K) := e ▸ call_isX
theorem isXTK {K : PySem.W.Frag} (e : X.K = K) : CallR X (.builtin "isinstance") (rIsXT K) := e ▸ call_isXT
/-- e.f -/
def tXg (K : PySem.W.Frag) (f : Str) (te : TE) : TE := fun σ H Q => te σ H fun x H1 => ∃ (a C dd : Addr) (fs : List (Str × V)) (v : V), x = .ref a ∧ H1 a = some (exc a (.ref C) (some dd)) ∧ XfC K C ∧ PySem.W.findIn K (.ref C) f = some none ∧ H1 dd = some (.xd fs) ∧ fs.lookup f = some v ∧ Q v H1
theorem pe_xg {e : Expr} {te : TE} {pos : Pos} {n : Str} (he : PE X e te) (hb : attributeBase e n X.env (eval e X.env) = eval e X.env := by rfl) : PE X (.Attribute e n pos) (tXg X.K n te) := by
  refine ⟨fun pins s σ H Q I h => ?_⟩
  refine attr_of hb (thn (he.run pins s σ H _ I h) fun u s1 hh => ?_)
  obtain ⟨x, H1, I1, rx, a, C, dd, fs, v, ex, ea, T, hno, ed, l, q⟩ := hh
  subst ex
  obtain rfl : u = Value.ref a := rx
  obtain ⟨oe, vs, h1, h2, h3, h4⟩ := exc_at I1.hok ea
  have hx : ObjOk X.prog X.w H1 s1.heap dd (.xd fs) := I1.hok dd _ ed
  obtain ⟨mA, hns, hr⟩ := hx
  obtain ⟨od, ho, hl⟩ := lookIn_ns hns
  obtain ⟨u, hu, ru⟩ := RelO.some_of (v := v) (o := mA n) (by rw [← l]; exact hr n)
  have J : PySem.W.InstAt s1.heap a oe C (some od) := ⟨h1, h2, by unfold PySem.W.notCls; rw [h4] <;> rfl, by rw [h3]; exact ho⟩
  exact HandSPX.exc_get I1.kIn J T.ga T.gg T.exC (PySem.W.findObj_own T.hdC hno rfl (by rw [hl, hu])) (handed_of ru) ⟨v, H1, I1.tok _, ru, q⟩
theorem xgK {K : PySem.W.Frag} {e : Expr} {te : TE} {n : Str} (h : X.K = K) (x : PE X e (tXg X.K n te)) : PE X e (tXg K n te) := h ▸ x
end
def baseX : Str → Str
  | "NoPerson" => "LookupError" | "NoNumber" => "LookupError" | "NoDeed" => "LookupError"
  | "OtherSize" => "ValueError" | "NoRoot" => "ValueError" | "MissingRoot" => "ValueError" | "NotKin" => "ValueError" | "NotPast" => "ValueError" | "BadDeed" => "ValueError" | "BadText" => "ValueError" | "BadLine" => "ValueError"
  | "Unreachable" => "RuntimeError" | "NoCommon" => "RuntimeError" | "Denied" => "RuntimeError" | "IsRoot" => "RuntimeError"
  | "TooMany" => "OverflowError"
  | _ => ""
def subX (c n : Str) : Bool := c == n || baseX c == n
def dIsX (nms : List Str) (f : DTE) (ε : Env) (Q : R → Env → Prop) : Prop := f ε fun r ε1 => match r with
  | .exn x => Q (.sh (.bool (nms.any (subX x.cls)))) ε1
  | .sh .none => Q (.sh (.bool false)) ε1
  | _ => False
def dAttr (n : Str) (f : DTE) (ε : Env) (Q : R → Env → Prop) : Prop := f ε fun r ε1 => match r with
  | .exn x => ∃ d, x.fs.lookup n = some d ∧ Q (.sh d) ε1
  | _ => False
theorem FVs.look {H : Hp} {n : Str} {d : PyData} : ∀ {vs : List (Str × V)} {ds : List (Str × PyData)}, FVs H vs ds → ds.lookup n = some d → ∃ v, vs.lookup n = some v ∧ DV H v d
  | _, _, .nil, e => by cases e
  | _, _, .cons (f := f) a r, e => by
    unfold List.lookup at e ⊢
    split at e
    · rename_i h
      cases e
      exact ⟨_, rfl, a⟩
    · exact r.look e
section
variable {w : Wx} {K : PySem.W.Frag} {te : TE} {f : DTE}
theorem XF.dict {H : Hp} {d : Option Addr} {fs : List (Str × PyData)} (x : XF H d fs) : d = none ∨ ∃ dd vs, d = some dd ∧ H dd = some (.xd vs) := by
  cases d with
  | none => exact .inl rfl
  | some dd =>
    obtain ⟨vs, h, _⟩ := x
    exact .inr ⟨dd, vs, rfl, h⟩
theorem TyE.of {H L : Hp} {v : V} {x : Xn} {C : Addr} (h : XV w L v x) (s : Same L H) (hC : w.cl x.cls = some C) (T : ExcC K C) : TyE K H v (.ref C) := by
  obtain ⟨a, C', d, h1, h2, h3, h4⟩ := h
  rw [hC] at h2
  cases h2
  exact .inr ⟨a, C, d, h1, rfl, s _ _ h3, (h4.to s).dict, T⟩
/-- isinstance(e, C) -/
theorem se_isX {nm : Str} {c : V} {u : Value} (hT : ∀ n C, w.cl n = some C → ExcC K C) (k : ClsV c u) (hk : ∀ n C, w.cl n = some C → PySem.W.kitOne K (.ref C) u = some (subX n nm)) (h0 : PySem.W.kitOne K (.type "NoneType") u = some false) (hf : SE w te f) :
    SE w (tCB (rIsX K) (tCons te (tCons (tC c) tNil))) (dIsX [nm] f) := by
  constructor
  · intro ε A B h q
    refine hf.mono _ _ _ (fun r ε1 q => ?_) q
    split at q
    · exact h _ _ q
    · exact h _ _ q
    · exact q.elim
  · intro Z O σ ε L H Q X q
    refine hf.run Z O σ ε L H _ X (hf.mono _ _ _ (fun r ε1 q => ?_) q)
    intro v L1 H1 X1 e1 r1
    split at q
    · rename_i x
      have r2 : XV w L1 v x := r1
      obtain ⟨a, C, d, h1, h2, h3, h4⟩ := id r2
      exact ⟨v, c, .ref C, u, _, rfl, k, TyE.of r2 X1.lh h2 (hT _ _ h2), hk _ _ h2, q _ L1 H1 X1 e1 (by rw [show ([nm].any (subX x.cls)) = subX x.cls nm by simp]; exact .bl _)⟩
    · have r2 : DV L1 v .none := r1
      cases r2
      exact ⟨.non, c, .type "NoneType", u, false, rfl, k, .inl ⟨rfl, rfl⟩, h0, q _ L1 H1 X1 e1 (.bl _)⟩
    · exact q.elim
/-- e.f -/
theorem se_attr {n : Str} (hT : ∀ m C, w.cl m = some C → XfC K C ∧ PySem.W.findIn K (.ref C) n = some none) (hf : SE w te f) : SE w (tXg K n te) (dAttr n f) := by
  constructor
  · intro ε A B h q
    refine hf.mono _ _ _ (fun r ε1 q => ?_) q
    split at q
    · obtain ⟨d, h1, h2⟩ := q
      exact ⟨d, h1, h _ _ h2⟩
    · exact q.elim
  · intro Z O σ ε L H Q X q
    refine hf.run Z O σ ε L H _ X (hf.mono _ _ _ (fun r ε1 q => ?_) q)
    intro v L1 H1 X1 e1 r1
    split at q
    · rename_i x
      obtain ⟨d, hd, q⟩ := q
      have r2 : XV w L1 v x := r1
      obtain ⟨a, C, d', h1, h2, h3, h4⟩ := r2
      cases d' with
      | none =>
        have h4' : x.fs = [] := h4
        rw [h4'] at hd; cases hd
      | some dd =>
        obtain ⟨vs, g1, g2⟩ := h4
        obtain ⟨u, g3, g4⟩ := g2.look hd
        exact ⟨a, C, dd, vs, u, h1, X1.lh _ _ h3, (hT _ _ h2).1, (hT _ _ h2).2, X1.lh _ _ g1, g3, q _ L1 H1 X1 e1 g4⟩
    · exact q.elim
end
end Lp

namespace Lp
open PySem PySem.Spec PyProof.Rows L2
section
variable {X : Cx} {o e : Expr} {es : List Expr} {to te : TE} {ta : TA} {f : Str} {p p' p1 p2 pos : Pos} {B newId initId : String} {bm : List Value}
end
abbrev bm_ValueError : List Value := [.type "ValueError", .type "Exception", .type "BaseException", .type "object"]
/-- what the written part says of a class of exceptions -/
structure ClF (K : PySem.W.Frag) (C : Addr) (bm : List Value) (newId : String) : Prop where
  cls : ∃ nm q N bs sn sub ab col dd k0 k1 k2 k3 k5, K.lookup C = some (excClassObj nm q C N bs bm true sn sub ab col dd k0 k1 k2 k3 k5 newId)
  sa : PySem.W.findIn K (.ref C) "__setattr__" = some (some (.builtin "object.__setattr__"))
  tyC : PySem.W.typeIn K (.ref C) = some (.type "type")
  kC : PySem.W.keepIn K (.ref C) = true
  hg : PySem.W.findIn K (.ref C) "__getattribute__" = some (some (.builtin "BaseException.__getattribute__"))
  hk : PySem.W.findIn K (.ref C) "__getattr__" = some none
  hs : PySem.W.subIn K (.ref C) (.type "BaseException") = some true
  hd : PySem.W.hasDictIn K C = true
  ha : PySem.W.findIn K (.ref C) "__class__" = some (some (.builtin "object.__class__"))
  hn : PySem.W.specialIn K (.builtin "object.__class__") "__get__" = some (some (.builtin "getset_descriptor.__get__"))
  ht : PySem.W.takesIn K (.builtin "object.__class__") = some true
  hm : PySem.W.mroIn K C (.type "object") = some true
theorem clf_mk {K : PySem.W.Frag} {C : Addr} {bm : List Value} {newId : String} {nm q : Str} {N : Addr} {bs : List Value} {sn : _} {sub : _} {ab : _} {col : _} {dd : _} {k0 k1 k2 k3 k5 : _} (cls : K.lookup C = some (excClassObj nm q C N bs bm true sn sub ab col dd k0 k1 k2 k3 k5 newId))
    (sa : PySem.W.findIn K (.ref C) "__setattr__" = some (some (.builtin "object.__setattr__"))) (tyC : PySem.W.typeIn K (.ref C) = some (.type "type")) (kC : PySem.W.keepIn K (.ref C) = true)
    (hg : PySem.W.findIn K (.ref C) "__getattribute__" = some (some (.builtin "BaseException.__getattribute__"))) (hk : PySem.W.findIn K (.ref C) "__getattr__" = some none) (hs : PySem.W.subIn K (.ref C) (.type "BaseException") = some true)
    (hd : PySem.W.hasDictIn K C = true) (ha : PySem.W.findIn K (.ref C) "__class__" = some (some (.builtin "object.__class__"))) (hn : PySem.W.specialIn K (.builtin "object.__class__") "__get__" = some (some (.builtin "getset_descriptor.__get__")))
    (ht : PySem.W.takesIn K (.builtin "object.__class__") = some true) (hm : PySem.W.mroIn K C (.type "object") = some true) : ClF K C bm newId := ⟨⟨nm, q, N, bs, sn, sub, ab, col, dd, k0, k1, k2, k3, k5, cls⟩, sa, tyC, kC, hg, hk, hs, hd, ha, hn, ht, hm⟩
theorem ClF.xc {K : PySem.W.Frag} {C : Addr} {bm : List Value} {newId : String} (c : ClF K C bm newId) : ExcC K C := ⟨c.hg, c.hk, c.hs, c.hd, c.ha, c.hn, c.ht, c.hm⟩
theorem ClF.xf {K : PySem.W.Frag} {C : Addr} {bm : List Value} {newId : String} (c : ClF K C bm newId) : XfC K C := ⟨c.hg, c.hk, c.hs, c.hd⟩
theorem ClF.ox_ValueError {K : PySem.W.Frag} {C : Addr} (c : ClF K C bm_ValueError "ValueError.__new__") : OexB K C "ValueError" "ValueError.__new__" "ValueError.__init__" bm_ValueError := ⟨PySem.F.excBase_ValueError, fun self => PySem.F.store_ValueError.passes self, by decide, c.cls, c.sa, c.hs, c.tyC, c.kC⟩
/-- the def of a method -/
theorem funI_mk {K : PySem.W.Frag} {x qual : Str} {st : Stmt} {f : Addr} {oc : Value} {od an : Option Addr} {sl : Array (Option Value)} {kV dc pm cd ct : Value}
    (l : K.lookup f = some ⟨oc, od, .func (PySem.W.fnOf x qual (defArgs st) (defBody st) (defScope st) .none kV dc pm an cd ct), sl⟩) (c : PySem.W.codeIn K cd qual = true) (k : PySem.W.keepIn K (.ref f) = true) : ∃ fd, Fun K x qual st f fd := ⟨_, ⟨_, _, _, _, _, _, _, _, _, rfl, l, c⟩, k⟩
/-- a class that can be raised: its __init__ keeps its promise -/
structure Ini (P : Program) (w : World) (K : PySem.W.Frag) (mg : Str → Option Value) (base : Heap) (nm fld : Str) (C : Addr) (k : Nat) : Prop where
  ex : ∃ (B newId initId : String) (bm : List Value) (fI : Addr) (fd : FuncData), OexB K C B newId initId bm ∧ PySem.W.findIn K (.ref C) "__init__" = some (some (.ref fI)) ∧ PySem.W.typeIn K (.ref fI) = some (.type "function") ∧ FnOk P w K mg base CX0 k fI fd ["self", fld] (spI K C fld) ∧ Binds K fd ["self", fld] []
theorem pmkI {X : Cx} {nm fld : Str} {C : Addr} {k : Nat} {K : PySem.W.Frag} {e : Expr} {ta : TA} {p pos : Pos} (eK : X.K = K) (I : Ini X.prog X.w X.K X.mg X.base nm fld C k) (hm : X.mg nm = some (.ref C)) (hr : Room (k + 1) X.A) (hg : Gl X nm) (ha : PA X [e] ta) (hdb : (nm == ("__debug__" : Str)) = false := by decide)
    (he : starEach [e] X.env = (false, eval e X.env) :: starEach [] X.env := by rfl) : PMk X (.Call (.Name nm p) [e] [] pos) (tMkO C (spI K C fld) [] ta) := by
  subst eK
  obtain ⟨B, newId, initId, bm, fI, fd, T, iC, tI, F1, hb⟩ := I.ex
  exact pmk_B .nil T iC tI F1 hr hb pass0 hg hm ha hdb he
/-- what is said of all classes of a table -/
def AllL (p : Str → Addr → Prop) : List (Str × Addr) → Prop
  | [] => True
  | q :: r => p q.1 q.2 ∧ AllL p r
abbrev clT (l : List (Str × Addr)) : Str → Option Addr := fun x => List.lookup x l
theorem allL {p : Str → Addr → Prop} : ∀ {l : List (Str × Addr)}, AllL p l → ∀ n C, clT l n = some C → p n C
  | [], _, _, _, e => by cases e
  | (m, D) :: r, h, n, C, e => by
    unfold clT List.lookup at e
    split at e
    · rename_i q
      cases e
      rw [beq_iff_eq] at q
      subst q
      exact h.1
    · exact allL h.2 n C e
/-- a def that may raise -/
structure CalX (P : Program) (w : World) (K : PySem.W.Frag) (mg : Str → Option Value) (base : Heap) (cl : Str → Option Addr) (x : Str) (k : Nat) (ps : List Str) (F : DSpX) (f : Addr) (fd : FuncData) : Prop where
  ok : FnOk P w K mg base (L2.CX P w) k f fd ps (spX cl ps.length F)
  g : mg x = some (.ref f)
  kp : PySem.W.keepIn K (.ref f) = true
  bd : Binds K fd ps []
section
variable {P : Program} {w : World} {K : PySem.W.Frag} {mg : Str → Option Value} {base : Heap} {cl : Str → Option Addr}
/-- a def that catches -/
theorem okDC {x qual : Str} {st : Stmt} {f : Addr} {fd : FuncData} {N ps : List Str} {k j : Nat} {p : DTS} {F : DSp} (G : Fun K x qual st f fd) (S : FnScope N ps (defScope st)) (hj : N.length = ps.length + j)
    (body : ∀ (cdv : Value) (A : Around) (outer : List PySem.Env) (s : Shared) (H : Hp) (E : XK), Room k (A.deeper (envOfC qual (defScope st) s.heap.objs.size f cdv)) → ∃ t, PSs (cxOf CX0 P w K mg base N qual (defScope st) f cdv A outer s H E).nox (defBody st) t ∧ SS (W1 w cl) t p)
    (h : ∀ args c Q, F args c Q → defF j p args c Q) : FnOk P w K mg base CX0 (k + 1) f fd ps (spD ps.length F) := by
  refine G.ok S (fun vs H Q E h => spD_len h) fun cdv A outer s H vs Q E hr q => ?_
  obtain ⟨t, ht, hs⟩ := body cdv A outer s H E hr
  refine ⟨t, ht, ?_⟩
  obtain ⟨b, L, c, args, hn, z, a, q⟩ := spD_imp h q
  refine hs.run _ _ _ _ L H _ _ (rep_start (w := W1 w cl) z a (by omega) trivial) ?_ q
  refine ⟨fun O σ ε L' H' X q => ?_, fun O σ ε L' H' v r X hr q => ?_, fun O σ ε L' H' X q => q.elim, fun O σ ε L' H' X q => q.elim⟩
  · exact q .non L' H' ⟨X.lh, fun a ha => ⟨(X.bo a ha).1, (X.bo a ha).2.1⟩⟩ X.ex DV.non
  · exact q v L' H' ⟨X.lh, fun a ha => ⟨(X.bo a ha).1, (X.bo a ha).2.1⟩⟩ X.ex hr
end
def tCls : List V → TA
  | [] => tNil
  | c :: r => tCons (tC c) (tCls r)
theorem tCls_run : ∀ (cs : List V) (σ : L2.St) (H : Hp) (Q : List V → Hp → Prop), Q cs H → tCls cs σ H Q
  | [], _, _, _, q => q
  | c :: r, σ, H, Q, q => tCls_run r σ H _ q
def dIsNE (neg : Bool) (f : DTE) (ε : Env) (Q : R → Env → Prop) : Prop := f ε fun r ε1 => match r with
  | .exn _ => Q (.sh (.bool neg)) ε1
  | r => match r.dat with
    | some d => Q (.sh (.bool (if neg then !isN d else isN d))) ε1
    | none => False
section
variable {w : Wx} {K : PySem.W.Frag} {te : TE} {f : DTE}
theorem se_isXT {nms : List Str} {cs : List V} {us : List Value} (hT : ∀ n C, w.cl n = some C → ExcC K C) (k : Paired ClsV cs us) (hk : ∀ n C, w.cl n = some C → PySem.W.kitAny K (.ref C) us = some (nms.any (subX n))) (h0 : PySem.W.kitAny K (.type "NoneType") us = some false) (hf : SE w te f) (hl : cs.length ≤ sizeLine := by decide) :
    SE w (tCB (rIsXT K) (tCons te (tCons (tTup (tCls cs)) tNil))) (dIsX nms f) := by
  constructor
  · intro ε A B h q
    refine hf.mono _ _ _ (fun r ε1 q => ?_) q
    split at q
    · exact h _ _ q
    · exact h _ _ q
    · exact q.elim
  · intro Z O σ ε L H Q X q
    refine hf.run Z O σ ε L H _ X (hf.mono _ _ _ (fun r ε1 q => ?_) q)
    intro v L1 H1 X1 e1 r1
    refine tCls_run cs σ H1 _ ⟨hl, fun p np => ?_⟩
    have e2 : Ext none L1 H1 L1 (upd H1 p (.tup cs)) := Ext.own np
    have X2 := X1.step e2 (same_own X1.lh (X1.lh.free np))
    split at q
    · rename_i x
      have r2 : XV w L1 v x := r1
      obtain ⟨a, C, d, h1, h2, h3, h4⟩ := id r2
      exact ⟨v, p, cs, .ref C, us, _, rfl, upd_same, k, TyE.of r2 X2.lh h2 (hT _ _ h2), hk _ _ h2, q _ L1 _ X2 (e1.trans e2.any) (.bl _)⟩
    · have r2 : DV L1 v .none := r1
      cases r2
      exact ⟨.non, p, cs, .type "NoneType", us, false, rfl, upd_same, k, .inl ⟨rfl, rfl⟩, h0, q _ L1 _ X2 (e1.trans e2.any) (.bl _)⟩
    · exact q.elim
end
def gx (F : DSpX) (o : Option (List SV)) (b : Bool) (ε : Env) (Q : R → Env → Prop) (Ex : Xn → Env → Prop) : Prop := match o with
  | some args => b = false ∧ F args ε.c (fun r c => Q r ⟨ε.s, c⟩) (fun x c => Ex x ⟨ε.s, c⟩)
  | none => False
theorem dArgsX_ (F : DSpX) (rs : List R) (ε : Env) (Q : R → Env → Prop) (Ex : Xn → Env → Prop) : dArgsX F rs ε Q Ex = gx F (argsOf rs) (hasBr rs) ε Q Ex := rfl
theorem gx_s (F : DSpX) (args : List SV) (b : Bool) (ε : Env) (Q : R → Env → Prop) (Ex : Xn → Env → Prop) : gx F (some args) b ε Q Ex = (b = false ∧ F args ε.c (fun r c => Q r ⟨ε.s, c⟩) (fun x c => Ex x ⟨ε.s, c⟩)) := rfl
end Lp

namespace Lp
open PySem PySem.Spec PyProof.Rows L2
def tNames (fs : List (Addr × Sp)) : TA := fun _ H Q => Q (fs.map fun q => V.ref q.1) H
def PkOk (X : Cx) (CX : CXT) (q : Addr × Sp) : Prop := ∃ (k : Nat) (fd : FuncData) (ps : List Str), FnOk X.prog X.w X.K X.mg X.base CX k q.1 fd ps q.2 ∧ Room k X.A ∧ PySem.W.keepIn X.K (.ref q.1) = true ∧ Binds X.K fd ps []
structure Pks (X : Cx) (CX : CXT) (es : List Expr) (fs : List (Addr × Sp)) : Prop where
  pa : PA X es (tNames fs)
  ok : ∀ q ∈ fs, PkOk X CX q
def tPick (K : PySem.W.Frag) (fs : List (Addr × Sp)) (tb : TE) (E : L2.St → XK) (t : TA) : TE := fun σ H Q => tOp (rIx K) (tLst (tNames fs)) tb σ H fun v H1 => ∃ q ∈ fs, v = .ref q.1 ∧ t σ H1 fun vs H2 => q.2 vs H2 Q (E σ)
section
variable {X : Cx} {CX : CXT} {k : Nat} {f : Addr} {fd : FuncData} {ps : List Str} {sp : Sp} {x : Str} {p p1 p2 pos : Pos} {e b : Expr} {es as : List Expr} {tb : TE} {t : TA} {fs : List (Addr × Sp)} {K : PySem.W.Frag}
theorem pks_nil : Pks X CX [] [] := ⟨pa_nil, fun _ h => nomatch h⟩
theorem pks_cons (F : FnOk X.prog X.w X.K X.mg X.base CX k f fd ps sp) (hr : Room k X.A) (hg : Gl X x) (hm : X.mg x = some (.ref f)) (hk : PySem.W.keepIn X.K (.ref f) = true) (hb : Binds X.K fd ps []) (r : Pks X CX es fs)
    (hd : (x == ("__debug__" : Str)) = false := by decide) (hs : starEach (.Name x p :: es) X.env = (false, eval (.Name x p) X.env) :: starEach es X.env := by rfl) : Pks X CX (.Name x p :: es) ((f, sp) :: fs) := by
  refine ⟨pa_cons (te := tC (.ref f)) (pe_glob hg hm rfl hd) r.pa hs, fun q h => ?_⟩
  rcases List.mem_cons.mp h with rfl | h
  · exact ⟨k, fd, ps, F, hr, hk, hb⟩
  · exact r.ok q h
theorem arm_pick (ls : List Expr) (p1 : Pos) (b : Expr) (p2 : Pos) (args : List Expr) (keywords : List Keyword) (pos : Pos) (env : PySem.Env) : eval (.Call (.Subscript (.List ls p1) b p2) args keywords pos) env = (do
    callWith pos (← eval (.Subscript (.List ls p1) b p2) env) [] (backTo pos (starEach args env)) (backToKw pos (keywordEach keywords env))) := rfl
theorem pe_pick {E : L2.St → XK} (ix : IxR X (rIx K)) (hx : ∀ σ, PassesAt CX X σ (E σ)) (P : Pks X CX es fs) (hb : PE X b tb) (hs : PlainIx b) (ha : PA X (e :: as) t)
    (he : starEach (e :: as) X.env = (false, eval e X.env) :: starEach as X.env := by rfl) (plain : (backTo pos (starEach as X.env)).any (·.1) = false := by rfl) :
    PE X (.Call (.Subscript (.List es p1) b p2) (e :: as) [] pos) (tPick K fs tb E t) := by
  refine ⟨fun pins s σ H Q I h => ?_⟩
  rw [arm_pick]
  refine wpAny_bind (thn ((pe_ix ix (pe_lst (pos := p1) P.pa) hb hs (pos := p2)).run pins s σ H _ I h) fun u s1 got => ?_)
  obtain ⟨v, H1, I1, r1, ⟨f, sp⟩, hq, rfl, q⟩ := got
  cases r1
  obtain ⟨k, fd, ps, F, hr, hk, hb'⟩ := P.ok _ hq
  refine PySem.W.callWith_K (h₀ := X.base) I1.ok.mod.kin hk (thn (ha.run pos pins s1 σ _ _ I1 q) fun us s2 got => ?_) he plain
  obtain ⟨vs, H2, I2, r, q⟩ := got
  exact ⟨I2.kIn, run_fnS F hr hb' (hx σ) I2 r q⟩
end
def dPickX (Fs : List DSpX) (Ex : Xn → Env → Prop) (g : DTE) (f : DTA) (ε : Env) (Q : R → Env → Prop) : Prop := g ε fun y ε1 => match y.dat with
  | some (.int i) => ∃ F, atI Fs i = some F ∧ dCallX F Ex f ε1 Q
  | _ => False
def AllX (cl : Str → Option Addr) (n : Nat) : List (Addr × Sp) → List DSpX → Prop
  | [], [] => True
  | q :: fs, F :: Fs => q.2 = spX cl n F ∧ MonX F ∧ AllX cl n fs Fs
  | _, _ => False
theorem axn {cl : Str → Option Addr} {n : Nat} : AllX cl n [] [] := trivial
theorem axc {cl : Str → Option Addr} {n : Nat} {a : Addr} {F : DSpX} {fs : List (Addr × Sp)} {Fs : List DSpX} (h : MonX F) (r : AllX cl n fs Fs) : AllX cl n ((a, spX cl n F) :: fs) (F :: Fs) := ⟨rfl, h, r⟩
theorem AllX.len {cl : Str → Option Addr} {n : Nat} : ∀ {fs : List (Addr × Sp)} {Fs : List DSpX}, AllX cl n fs Fs → fs.length = Fs.length
  | [], [], _ => rfl
  | _ :: _, _ :: _, h => by rw [List.length_cons, List.length_cons, h.2.2.len]
  | [], _ :: _, h => False.elim h
  | _ :: _, [], h => False.elim h
theorem AllX.get {cl : Str → Option Addr} {n : Nat} : ∀ {fs : List (Addr × Sp)} {Fs : List DSpX}, AllX cl n fs Fs → ∀ {i : Nat} {F : DSpX}, Fs[i]? = some F → ∃ q, fs[i]? = some q ∧ q.2 = spX cl n F ∧ MonX F
  | q :: _, _ :: _, h, 0, _, e => by cases e; exact ⟨q, rfl, h.1, h.2.1⟩
  | _ :: _, _ :: _, h, i + 1, _, e => by
    have := h.2.2.get (i := i) (by simpa using e)
    simpa using this
  | [], [], _, i, _, e => by simp at e
  | [], _ :: _, h, _, _, _ => False.elim h
  | _ :: _, [], h, _, _, _ => False.elim h
theorem AllX.mem {cl : Str → Option Addr} {n : Nat} : ∀ {fs : List (Addr × Sp)} {Fs : List DSpX}, AllX cl n fs Fs → ∀ F ∈ Fs, MonX F
  | _ :: _, _ :: _, h, F, m => by
    rcases List.mem_cons.mp m with rfl | m
    · exact h.2.1
    · exact h.2.2.mem F m
  | [], [], _, F, m => by simp at m
  | [], _ :: _, h, _, _ => False.elim h
  | _ :: _, [], h, _, _ => False.elim h
theorem atI_mem {α : Type} {xs : List α} {i : Int} {x : α} (h : atI xs i = some x) : x ∈ xs := by
  unfold atI at h
  cases hx : ixN xs.length i with
  | none => rw [hx] at h; cases h
  | some j => rw [hx] at h; exact List.mem_of_getElem? h
section
variable {w : World} {cl : Str → Option Addr} {P0 : Hp} {W : WX} {Ex : Xn → Env → Prop} {n : Nat} {K : PySem.W.Frag}
theorem se_pickX {fs : List (Addr × Sp)} {Fs : List DSpX} {tb : TE} {g : DTE} {t : TA} {f : DTA} (h : AllX cl n fs Fs) (hg : SE (WxE w cl P0 W Ex) tb g) (hf : SA (WxE w cl P0 W Ex) n t f) (hl : Fs.length ≤ sizeLine := by decide) :
    SE (WxE w cl P0 W Ex) (tPick K fs tb (WE W) t) (dPickX Fs Ex g f) := by
  constructor
  · intro ε A B hAB q
    refine hg.mono _ _ _ (fun y ε1 q => ?_) q
    split at q
    · obtain ⟨F, hF, q⟩ := q
      exact ⟨F, hF, (se_callX (h.mem F (atI_mem hF)) hf).mono _ _ _ hAB q⟩
    · exact q.elim
  · intro Z O σ ε L H Q X q
    show tOp (rIx K) (tLst (tNames fs)) tb σ H _
    show (fs.map fun q => V.ref q.1).length ≤ sizeLine ∧ _
    refine ⟨by rw [List.length_map, h.len]; exact hl, fun p np => ?_⟩
    have e1 : Ext none L H L (upd H p (.lst (fs.map fun q => V.ref q.1))) := Ext.own np
    have X1 := X.step e1 (same_own X.lh (X.lh.free np))
    refine hg.run Z O σ ε L _ _ X1 (hg.mono _ _ _ (fun y ε1 q => ?_) q)
    intro u L2 H2 X2 e2 r2
    split at q
    · rename_i i ey
      obtain ⟨F, hF, q⟩ := q
      have hi := (r2.vl ey).int
      subst hi
      have hF' := hF
      unfold atI at hF'
      cases hx : ixN Fs.length i with
      | none => rw [hx] at hF'; cases hF'
      | some j =>
        rw [hx] at hF'
        obtain ⟨q0, h0, h1, h2⟩ := h.get hF'
        have at0 : atI (fs.map fun q => V.ref q.1) i = some (.ref q0.1) := by
          unfold atI
          rw [List.length_map, h.len, hx]
          show (fs.map _)[j]? = _
          rw [List.getElem?_map, h0]
          rfl
        have hp : Z.b ≠ some p := fun hb => (X.bo p hb).2.1.there np
        refine .inl ⟨p, _, i, .ref q0.1, rfl, rfl, SqL.of (e2.hh p _ upd_same hp), at0, q0, List.mem_of_getElem? h0, rfl, ?_⟩
        rw [h1]
        refine (se_callX h2 hf).run Z O σ ε1 L2 H2 Q X2 ((se_callX h2 hf).mono _ _ _ (fun r ε2 k => ?_) q)
        intro v L3 H3 X3 e3 r3
        exact k v L3 H3 X3 ((e1.any.trans e2).trans e3) (r3.back (e1.any.trans e2))
    · exact q.elim
end
end Lp

namespace Lp
open PySem PySem.Spec PyProof.Rows L2
/-- the fields of a circle: la its states, le its log -/
def cf (la le : Addr) : List (Str × V) := putF "entries" (.ref le) (putF "along" (.ref la) [])
theorem cf_al {la le : Addr} : (cf la le).lookup ("along" : Str) = some (.ref la) := by
  unfold cf
  rw [lookup_putF, if_neg (by decide +kernel), lookup_putF, if_pos rfl]
theorem cf_no {la le : Addr} {m : Str} (h1 : ¬ m = "entries") (h2 : ¬ m = "along") : (cf la le).lookup m = none := by
  unfold cf
  rw [lookup_putF, if_neg h1, lookup_putF, if_neg h2]
  rfl
/-- at v: a circle in the state d to which nothing was done -/
def CirS (C : Addr) (d : PyData) (L : Hp) (v : V) : Prop := ∃ a dx la le x, v = .ref a ∧ L a = some (.ins C dx (cf la le)) ∧ L la = some (.lst [x]) ∧ DV L x d ∧ L le = some (.lst [])
theorem CirS.to {C : Addr} {d : PyData} {L L' : Hp} {v : V} (s : Same L L') (h : CirS C d L v) : CirS C d L' v := by
  obtain ⟨a, dx, la, le, x, e, h1, h2, h3, h4⟩ := h
  exact ⟨a, dx, la, le, x, e, s _ _ h1, s _ _ h2, h3.to s, s _ _ h4⟩
def cirG [Fns] (d : PyData) : Gn := ⟨fun L v => ∃ C, FN "Circle" = .ref C ∧ CirS C d L v, fun s ⟨C, h1, h2⟩ => ⟨C, h1, h2.to s⟩⟩
/-- what the class must have -/
structure CirT (K : PySem.W.Frag) (C : Addr) : Prop where
  cl : Cls K C
  nA : NoAttr K C "along"
  nE : NoAttr K C "entries"
/-- __init__ -/
def spCI (C : Addr) : Sp := fun vs H Q _ => ∃ (x dx p : Addr) (xs : List V), vs = [.ref x, .ref p] ∧ H x = some (.ins C dx []) ∧ Sol H p xs ∧
  ∀ la, H la = none → ∀ le, upd (upd H la (.lst [.ref p])) x (.ins C dx (putF "along" (.ref la) [])) le = none →
    Q .non (upd (upd (upd (upd H la (.lst [.ref p])) x (.ins C dx (putF "along" (.ref la) []))) le (.lst [])) x (.ins C dx (cf la le)))
def dMkCir [Fns] (f : DTE) (ε : Env) (Q : R → Env → Prop) : Prop := f ε fun r ε1 => match r.pub with
  | .sh (.tuple ds) => Q (.gen (cirG (.tuple ds))) ε1
  | _ => False
section
variable [Fns] {w : Wx} {C : Addr} {te : TE} {f : DTE} {E : XK}
theorem se_mkCir (hC : FN "Circle" = .ref C) (hf : SE w te f) : SE w (tMake C (spCI C) [] E (tCons te tNil)) (dMkCir f) := by
  constructor
  · intro ε A B h q
    refine hf.mono _ _ _ (fun r ε1 q => ?_) q
    split at q
    · exact h _ _ q
    · exact q.elim
  · intro Z O σ ε L H Q X q
    refine hf.run Z O σ ε L H _ X (hf.mono _ _ _ (fun r ε1 q => ?_) q)
    intro v L1 H1 X1 e1 r1
    obtain ⟨L2, X2, e2, r2⟩ := publ X1 e1 r1
    split at q
    · rename_i ds hd
      rw [hd] at r2
      cases (show DV L2 v (.tuple ds) from r2) with
      | @tup p xs _ h1 h2 =>
        intro x dx nx ndx nex
        have hp : ∀ b, H1 b = none → p ≠ b := fun b nb z => by
          obtain ⟨o, ho, h3⟩ := h1.to X2.lh
          rw [z, nb] at h3
          cases h3
        refine ⟨x, dx, p, xs, rfl, upd_same, ?_, fun la nla le nle => ?_⟩
        · obtain ⟨o, ho, h3⟩ := h1.to X2.lh
          exact ⟨o, ho, by rw [upd_ne (hp x nx), upd_ne (hp dx ndx)]; exact h3⟩
        have lx : la ≠ x := fun z => by rw [z, upd_same] at nla; cases nla
        rw [upd_ne lx] at nla
        have ld : la ≠ dx := fun z => by rw [z, upd_same] at nla; cases nla
        rw [upd_ne ld] at nla
        have ex : le ≠ x := fun z => by rw [z, upd_same] at nle; cases nle
        rw [upd_ne ex] at nle
        have el : le ≠ la := fun z => by rw [z, upd_same] at nle; cases nle
        rw [upd_ne el, upd_ne ex] at nle
        have ed : le ≠ dx := fun z => by rw [z, upd_same] at nle; cases nle
        rw [upd_ne ed] at nle
        refine ⟨rfl, ?_⟩
        have s0 := X2.lh
        have x1 : Ext none L2 H1 (upd L2 dx (.own x)) (upd H1 dx (.own x)) := Ext.new s0 ndx
        have s1 : Same (upd L2 dx (.own x)) (upd H1 dx (.own x)) := same_both s0
        have n1 : upd H1 dx (.own x) la = none := by rw [upd_ne ld]; exact nla
        have x2 := Ext.new (b := none) (o := .lst [.ref p]) s1 n1
        have s2 := same_both (p := la) (o := .lst [.ref p]) s1
        have n2 : upd (upd H1 dx (.own x)) la (.lst [.ref p]) le = none := by rw [upd_ne el, upd_ne ed]; exact nle
        have x3 := Ext.new (b := none) (o := .lst []) s2 n2
        have s3 := same_both (p := le) (o := .lst []) s2
        have n3 : upd (upd (upd H1 dx (.own x)) la (.lst [.ref p])) le (.lst []) x = none := by rw [upd_ne ex.symm, upd_ne lx.symm, upd_ne nex.symm]; exact nx
        have x4 := Ext.new (b := none) (o := .ins C dx (cf la le)) s3 n3
        have s4 := same_both (p := x) (o := .ins C dx (cf la le)) s3
        have eH : upd (upd (upd (upd (upd (upd H1 dx (.own x)) x (.ins C dx [])) la (.lst [.ref p])) x (.ins C dx (putF "along" (.ref la) []))) le (.lst [])) x (.ins C dx (cf la le)) = upd (upd (upd (upd H1 dx (.own x)) la (.lst [.ref p])) le (.lst [])) x (.ins C dx (cf la le)) := by
          funext b
          by_cases bx : b = x
          · rw [bx, upd_same, upd_same]
          · rw [upd_ne bx, upd_ne bx]
            by_cases be : b = le
            · rw [be, upd_same, upd_same]
            · rw [upd_ne be, upd_ne be, upd_ne bx]
              by_cases bl : b = la
              · rw [bl, upd_same, upd_same]
              · rw [upd_ne bl, upd_ne bl, upd_ne bx]
        rw [eH]
        have xt := ((x1.trans x2).trans x3).trans x4
        refine q _ _ _ (X2.step xt s4) (e2.trans xt.any) ⟨C, hC, x, dx, la, le, .ref p, rfl, upd_same, ?_, ?_, ?_⟩
        · rw [upd_ne lx, upd_ne el.symm, upd_same]
        · exact DV.to (.tup h1 h2) xt.ll
        · rw [upd_ne ex, upd_same]
    · exact q.elim
end
/-- o.m(..), which may raise -/
def tMethX (C : Addr) (m : Str) (sp : Sp) (E : L2.St → XK) (ta : TE) (t : TA) : TE := fun σ H Q => ta σ H fun x H1 => ∃ a dx fs, x = .ref a ∧ H1 a = some (.ins C dx fs) ∧ fs.lookup m = none ∧ t σ H1 fun vs H2 => sp (x :: vs) H2 Q (E σ)
section
variable {X : Cx} {CX : CXT} {k : Nat} {f g C : Addr} {fd : FuncData} {ps : List Str} {sp : Sp} {E : L2.St → XK} {x m : Str} {p pos apos : Pos} {e o : Expr} {es : List Expr} {ta : TE} {t : TA}
theorem pe_methX {pl : Sem Bool} (he : PE X o ta) (c : Cls X.K C) (hm : Meth X.K C m f) (F : FnOk X.prog X.w X.K X.mg X.base CX k f fd ps sp) (hr : Room k X.A) (hb : Binds X.K fd ps []) (hx : ∀ σ, PassesAt CX X σ (E σ)) (ha : PA X (e :: es) t)
    (hst : starEach (e :: es) X.env = (false, eval e X.env) :: starEach es X.env := by rfl) (hpl : (backTo pos (starEach es X.env)).any (·.1) = false := by rfl)
    (ht : eval (.Call (.Attribute o m apos) (e :: es) [] pos) X.env = (do
      let ov ← eval o X.env
      standAt apos.atName
      let (f, first) ← holding [ov] (getMethod ov m pl)
      callWith pos f first (backTo pos (starEach (e :: es) X.env)) (backToKw pos (keywordEach [] X.env))) := by rfl) :
    PE X (.Call (.Attribute o m apos) (e :: es) [] pos) (tMethX C m sp E ta t) := by
  refine ⟨fun pins s σ H Q I h => ?_⟩
  refine PySem.W.methodCall_KW (pl := pl) (thn (he.run pins s σ H _ I h) fun u s1 ⟨x, H1, I1, rx, a, dx, fs, ex, ea, l, q⟩ => ?_) ht
  subst ex
  obtain rfl : u = Value.ref a := rx
  refine getmeth_ok I1 ea c hm l ?_
  refine PySem.W.callWith_K (first := [.ref a]) (h₀ := X.base) I.ok.mod.kin hm.kp (thn (ha.run pos pins s1 σ H1 _ I1 q) fun us s2 ⟨vs, H2, I2, r, q2⟩ => ⟨I2.kIn, ?_⟩) hst hpl
  exact run_fnS (us := .ref a :: us) (vs := .ref a :: vs) F hr hb (hx σ) I2 (.cons rfl r) q2
theorem run_fnRS {pins : List (Addr × Obj)} {σ : L2.St} {H : Hp} {s : Shared} {E : XK} {Q : VK} {us : List Value} {vs : List V} (F : FnR X.prog X.w X.K X.mg X.base CX k f sp) (hr : Room k X.A) (hx : PassesAt CX X σ E) (I : Inv X pins σ H s) (r : Vals vs us) (h : sp vs H Q E) :
    codeAny (model X.prog X.w) X.A (.call (.ref f) ⟨us, []⟩) (fun r s' => match r with | .ok (.ret v) => EP X pins σ Q v s' | .ok _ => False | .error e => X.xe e s') s := by
  refine codeAny_mono (F X.A X.stack s H us vs Q E hr I.env0 r h) fun r s' hq => ?_
  cases r with
  | error e => exact hx pins H s e s' I hq
  | ok fl =>
    cases fl with
    | ret u => exact I.after hq
    | next => exact False.elim hq
    | brk => exact False.elim hq
    | cont => exact False.elim hq
theorem pe_methRX {pl : Sem Bool} (he : PE X o ta) (c : Cls X.K C) (hm : Meth X.K C m f) (F : FnR X.prog X.w X.K X.mg X.base CX k f sp) (hr : Room k X.A) (hx : ∀ σ, PassesAt CX X σ (E σ)) (ha : PA X (e :: es) t)
    (hst : starEach (e :: es) X.env = (false, eval e X.env) :: starEach es X.env := by rfl) (hpl : (backTo pos (starEach es X.env)).any (·.1) = false := by rfl)
    (ht : eval (.Call (.Attribute o m apos) (e :: es) [] pos) X.env = (do
      let ov ← eval o X.env
      standAt apos.atName
      let (f, first) ← holding [ov] (getMethod ov m pl)
      callWith pos f first (backTo pos (starEach (e :: es) X.env)) (backToKw pos (keywordEach [] X.env))) := by rfl) :
    PE X (.Call (.Attribute o m apos) (e :: es) [] pos) (tMethX C m sp E ta t) := by
  refine ⟨fun pins s σ H Q I h => ?_⟩
  refine PySem.W.methodCall_KW (pl := pl) (thn (he.run pins s σ H _ I h) fun u s1 ⟨x, H1, I1, rx, a, dx, fs, ex, ea, l, q⟩ => ?_) ht
  subst ex
  obtain rfl : u = Value.ref a := rx
  refine getmeth_ok I1 ea c hm l ?_
  refine PySem.W.callWith_K (first := [.ref a]) (h₀ := X.base) I.ok.mod.kin hm.kp (thn (ha.run pos pins s1 σ H1 _ I1 q) fun us s2 ⟨vs, H2, I2, r, q2⟩ => ⟨I2.kIn, ?_⟩) hst hpl
  exact wpAny_call (run_fnRS (us := .ref a :: us) (vs := .ref a :: vs) F hr (hx σ) I2 (.cons rfl r) q2)
/-- x(e, *y), x a local name that holds a def -/
def tDeed (X : Cx) (CX : CXT) (i : Nat) (E : L2.St → XK) (t : TA) : TE := fun σ H Q => ∃ q : Addr × Sp, σ[i]? = some (some (.ref q.1)) ∧ PkOk X CX q ∧ t σ H fun vs H1 => q.2 vs H1 Q (E σ)
theorem pe_deed {i : Nat} (hN : X.N[i]? = some x) (hv : Vis X.env.scope x) (hx : ∀ σ, PassesAt CX X σ (E σ)) (ha : PA X (e :: es) t)
    (nd : (x == ("__debug__" : Str)) = false := by decide) (nc : (x == ("__classdict__" : Str)) = false := by decide)
    (he : starEach (e :: es) X.env = (false, eval e X.env) :: starEach es X.env := by rfl) (hst : (backTo pos (starEach es X.env)).any (·.1) = true := by rfl) : PE X (.Call (.Name x p) (e :: es) [] pos) (tDeed X CX i E t) := by
  constructor
  rintro pins s σ H Q I ⟨⟨f, sp⟩, hs, ⟨k, fd, ps, F, hr, hk, hb⟩, ht⟩
  refine wpAny_Call_Name_kw (thn ((pe_var (pos := p) hN hv nd nc).run pins s σ H (fun v H1 => v = .ref f ∧ H1 = H) I ⟨.ref f, hs, rfl, rfl⟩) fun u s1 got => ?_)
  obtain ⟨v, H1, I1, r1, rfl, rfl⟩ := got
  cases r1
  refine PySem.W.callWith_S2 (h₀ := X.base) I1.ok.mod.kin hk (thn (ha.run pos pins s1 σ _ _ I1 ht) fun us s2 got => ?_) he hst
  obtain ⟨vs, H2, I2, r, q⟩ := got
  exact ⟨I2.kIn, run_fnS F hr hb (hx σ) I2 r q⟩
end
def isCir [Fns] : R → Prop
  | .gen g => ∃ d, g = cirG d
  | _ => False
def dMethX [Fns] (F : DSpX) (Ex : Xn → Env → Prop) (f : DTE) (g : DTA) (ε : Env) (Q : R → Env → Prop) : Prop := f ε fun r ε1 => isCir r ∧ g ε1 fun rs ε2 => dArgsX F (r :: rs) ε2 Q Ex
def dMeth [Fns] (F : DSp) (f : DTE) (ε : Env) (Q : R → Env → Prop) : Prop := f ε fun r ε1 => isCir r ∧ dArgs F [r] ε1 Q
theorem cir_at [Fns] {w : Wx} {Z : Zx} {O : Addr → Prop} {σ : L2.St} {Hs L H : Hp} {v : V} {r : R} {C : Addr} (hC : FN "Circle" = .ref C) (h : isCir r) (s : Same L H) (x : VR w Z O σ Hs L H v r) : ∃ a dx la le, v = .ref a ∧ H a = some (.ins C dx (cf la le)) := by
  cases r with
  | gen g =>
    obtain ⟨d, rfl⟩ := h
    obtain ⟨C', e, a, dx, la, le, x, rfl, h1, _⟩ := x
    rw [hC] at e
    cases e
    exact ⟨a, dx, la, le, rfl, s _ _ h1⟩
  | _ => exact h.elim
section
variable [Fns] {w : World} {cl : Str → Option Addr} {P0 : Hp} {W : WX} {Ex : Xn → Env → Prop} {C : Addr} {m : Str} {te : TE} {f : DTE} {t : TA} {g : DTA} {n : Nat}
theorem se_methX {F : DSpX} (hC : FN "Circle" = .ref C) (h1 : ¬ m = "entries") (h2 : ¬ m = "along") (hF : MonX F) (hf : SE (WxE w cl P0 W Ex) te f) (hg : SA (WxE w cl P0 W Ex) n t g) : SE (WxE w cl P0 W Ex) (tMethX C m (spX cl (n + 1) F) (WE W) te t) (dMethX F Ex f g) := by
  have mon : ∀ rs ε (A B : R → Env → Prop), (∀ r ε', A r ε' → B r ε') → dArgsX F rs ε A Ex → dArgsX F rs ε B Ex := by
    intro rs ε A B h q
    unfold dArgsX at q ⊢
    split at q
    · exact ⟨q.1, hF _ _ _ _ _ _ (fun r c q => h _ _ q) (fun _ _ q => q) q.2⟩
    · exact q.elim
  constructor
  · intro ε A B h q
    exact hf.mono _ _ _ (fun r ε1 q => ⟨q.1, hg.mono _ _ _ (fun rs ε2 q => mon _ _ _ _ h q) q.2⟩) q
  · intro Z O σ ε L H Q X q
    refine hf.run Z O σ ε L H _ X (hf.mono _ _ _ (fun r ε1 q => ?_) q)
    obtain ⟨ic, q⟩ := q
    intro v L1 H1 X1 e1 r1
    obtain ⟨a, dx, la, le, ev, ea⟩ := cir_at hC ic X1.lh r1
    refine ⟨a, dx, _, ev, ea, cf_no h1 h2, ?_⟩
    refine hg.run Z O σ ε1 L1 H1 _ X1 (hg.mono _ _ _ (fun rs ε2 q => ?_) q)
    intro vs L2 H2 X2 e2 r2 hl np
    unfold dArgsX at q
    split at q
    · rename_i args ha
      obtain ⟨hb, q⟩ := q
      have r2' : VRs _ Z O σ H L2 H2 (v :: vs) (r :: rs) := .cons (r1.mono X1 e2) (r2.back e1)
      have et := e1.trans e2
      refine ⟨Z.b, L2, ε2.c, args, by rw [r2'.len, List.length_cons, hl], ⟨X2.lh, fun b hb => ⟨(X2.bo b hb).1, (X2.bo b hb).2.1⟩⟩, args_plain r2' ha hb, hF _ _ _ _ _ _ (fun r c q => ?_) (fun x c q => ?_) q⟩
      · intro v L' H' z' e' r'
        exact q v L' H' (X2.exts e' z'.1 fun b hb => (z'.2 b hb).2) (et.trans e') ((r'.vr X2).back et)
      · intro cls d L' H' z' e' xr
        have X3 := X2.exts (c := c) e' z'.1 fun b hb => (z'.2 b hb).2
        exact X2.ph.2 Z.P O σ ⟨ε2.s, c⟩ L' H' cls d x X2.ph.1 (X3.chg rfl rfl trivial) xr q
    · exact q.elim
end
section
variable [Fns] {w : Wx} {C : Addr} {m : Str} {te : TE} {f : DTE} {E : XK}
end
/-- a deed that is refused -/
def q_ci [Fns] (F : DSpX) : DSpX := fun args c Q E => ∃ d rest, args = .gen (cirG d) :: rest ∧ F (.sh d :: rest) c (fun _ _ => False) E
theorem monx_ci [Fns] {F : DSpX} (h : MonX F) : MonX (q_ci F) := by
  rintro args c A B C D hA hC ⟨d, rest, e, q⟩
  exact ⟨d, rest, e, h _ _ _ _ _ _ (fun _ _ z => z) hC q⟩
def p_ci_state [Fns] : DSp := fun args c Q => ∃ d, args = [.gen (cirG d)] ∧ Q (.sh d) c
/-- a deed by its name -/
structure DeedAt (P : Program) (w : World) (K : PySem.W.Frag) (mg : Str → Option Value) (base : Heap) (cl : Str → Option Addr) (D : Addr) (nm : Str) (n k : Nat) (F : DSpX) : Prop where
  ex : ∃ f fd ps, KDct K w D nm (.ref f) ∧ ps.length = n ∧ FnOk P w K mg base (L2.CX P w) k f fd ps (spX cl n F) ∧ PySem.W.keepIn K (.ref f) = true ∧ Binds K fd ps []
/-- act, where the deed is refused -/
def spAct (P : Program) (w : World) (K : PySem.W.Frag) (mg : Str → Option Value) (base : Heap) (cl : Str → Option Addr) (C D : Addr) (k : Nat) : Sp := fun vs H Q E =>
  ∃ (b : Option Addr) (L : Hp) (c : Nat) (nm : Str) (n : Nat) (F : DSpX) (d : PyData) (v : V) (rest : List V) (args : List SV), vs = [v, .str nm] ++ rest ∧ DeedAt P w K mg base cl D nm n k F ∧ rest.length + 1 = n ∧ rest.length ≤ 5 ∧
  CallZ b L H c ∧ CirS C d L v ∧ ArgsR b L rest args ∧ MonX F ∧
  F (.sh d :: args) c (fun _ _ => False) (fun x c' => ∀ cls dd L' H', CallZ b L' H' c' → Ext b L H L' H' → XR cl L' cls dd x → E cls dd H')
/-- .. with the tuple of what is left over at p -/
def spAct1 (P : Program) (w : World) (K : PySem.W.Frag) (mg : Str → Option Value) (base : Heap) (cl : Str → Option Addr) (C D : Addr) (k : Nat) : Sp := fun vs H Q E =>
  ∃ (b : Option Addr) (L : Hp) (c : Nat) (nm : Str) (n : Nat) (F : DSpX) (d : PyData) (v : V) (p : Addr) (rest : List V) (args : List SV), vs = [v, .str nm, .ref p] ∧ H p = some (.tup rest) ∧ DeedAt P w K mg base cl D nm n k F ∧ rest.length + 1 = n ∧ rest.length ≤ 5 ∧
  CallZ b L H c ∧ CirS C d L v ∧ ArgsR b L rest args ∧ MonX F ∧
  F (.sh d :: args) c (fun _ _ => False) (fun x c' => ∀ cls dd L' H', CallZ b L' H' c' → Ext b L H L' H' → XR cl L' cls dd x → E cls dd H')
theorem act_imp {P : Program} {w : World} {K : PySem.W.Frag} {mg : Str → Option Value} {base : Heap} {cl : Str → Option Addr} {C D : Addr} {k : Nat} {vs : List V} {H : Hp} {Q : VK} {E : XK} (h : spAct P w K mg base cl C D k vs H Q E) :
    ∃ ws rest, vs = ws ++ rest ∧ ws.length = ["self", "name"].length ∧ rest.length ≤ sizeLine ∧ ∀ p, H p = Option.none → spAct1 P w K mg base cl C D k (ws ++ [V.ref p]) (upd H p (.tup rest)) Q E := by
  obtain ⟨b, L, c, nm, n, F, d, v, rest, args, e, dd, hn, h5, z, cs, ar, mF, q⟩ := h
  have s5 : (5 : Nat) ≤ sizeLine := by decide +kernel
  refine ⟨[v, .str nm], rest, e, rfl, Nat.le_trans h5 s5, fun p np => ?_⟩
  have nL : L p = none := z.1.free np
  refine ⟨b, L, c, nm, n, F, d, v, p, rest, args, rfl, upd_same, dd, hn, h5, ⟨same_own z.1 nL, fun a ha => ⟨(z.2 a ha).1, ((z.2 a ha).2).keep (upd_ne (ne_at (z.2 a ha).2.there np))⟩⟩, cs, ar, mF, mF _ _ _ _ _ _ (fun _ _ z => z) (fun x c' q => ?_) q⟩
  intro cls dd L' H' z' e' xr
  exact q cls dd L' H' z' ((Ext.own np).trans e') xr
end Lp
namespace Lp
open PySem PySem.Spec PyProof.Rows L2
structure CirI (P : Program) (w : World) (K : PySem.W.Frag) (mg : Str → Option Value) (base : Heap) (C fI : Addr) (fd : FuncData) : Prop where
  mkr : Mk K C fI
  ok : FnOk P w K mg base CX0 1 fI fd ["self", "state"] (spCI C)
  g : mg "Circle" = some (.ref C)
  bd : Binds K fd ["self", "state"] []
structure CirM (P : Program) (w : World) (K : PySem.W.Frag) (mg : Str → Option Value) (base : Heap) (cl : Str → Option Addr) (C : Addr) (nm : Str) (k : Nat) (ps : List Str) (F : DSpX) (f : Addr) (fd : FuncData) : Prop where
  ok : FnOk P w K mg base (L2.CX P w) k f fd ps (spX cl ps.length F)
  mt : Meth K C nm f
  bd : Binds K fd ps []
  T : CirT K C
structure CirP (P : Program) (w : World) (K : PySem.W.Frag) (mg : Str → Option Value) (base : Heap) (C : Addr) (nm : Str) (F : DSp) (f : Addr) (fd : FuncData) : Prop where
  ok : FnOk P w K mg base CX0 1 f fd ["self"] (spD 1 F)
  mt : Meth K C nm f
  bd : Binds K fd ["self"] []
  T : CirT K C
end Lp
namespace Lp
open PySem PySem.Spec PyProof.Rows L2
theorem args_to {b : Option Addr} {L L' : Hp} (s : Same L L') : ∀ {vs : List V} {xs : List SV}, ArgsR b L vs xs → ArgsR b L' vs xs
  | _, _, .nil => .nil
  | _, _, .cons (x := x) a r => .cons (by
    cases x with
    | sh d => exact DV.to a s
    | bx => exact a
    | raw u => exact a
    | dsh xs => exact DVd.to s a
    | gen g => exact g.mono s a
    | _ => exact a.elim) (args_to s r)
theorem args_cons {b : Option Addr} {L : Hp} {v : V} {vs : List V} {x : SV} {xs : List SV} (h : ArgsR b L (v :: vs) (x :: xs)) : ArgR b L v x ∧ ArgsR b L vs xs := by
  cases h with
  | cons a r => exact ⟨a, r⟩
theorem args_cons2 {b : Option Addr} {L : Hp} {v : V} {vs : List V} {xs : List SV} (h : ArgsR b L (v :: vs) xs) : ∃ y ys, xs = y :: ys ∧ ArgR b L v y ∧ ArgsR b L vs ys := by
  cases h with
  | cons a r => exact ⟨_, _, rfl, a, r⟩
end Lp
namespace Lp
open PySem PySem.Spec PyProof.Rows L2
def fnG (vs : List V) : Gn := ⟨fun L v => ∃ a, v = .ref a ∧ L a = some (.lst vs), fun s ⟨a, h1, h2⟩ => ⟨a, h1, s _ _ h2⟩⟩
def dFnL (vs : List V) (ε : Env) (Q : R → Env → Prop) : Prop := Q (.gen (fnG vs)) ε
theorem se_fnL {w : Wx} {fs : List (Addr × Sp)} {vs : List V} (h : vs = fs.map fun q => .ref q.1) (hl : fs.length ≤ sizeLine := by decide) : SE w (tLst (tNames fs)) (dFnL vs) := by
  constructor
  · intro ε A B h q
    exact h _ _ q
  · intro Z O σ ε L H Q X q
    refine ⟨by rw [List.length_map]; exact hl, fun p np => ?_⟩
    have e1 : Ext none L H (upd L p (.lst (fs.map fun q => V.ref q.1))) (upd H p (.lst (fs.map fun q => V.ref q.1))) := Ext.new X.lh np
    exact q _ _ _ (X.step e1 (same_both X.lh)) e1.any ⟨p, rfl, by rw [h]; exact upd_same⟩
def tPickN (K : PySem.W.Frag) (i : Nat) (fs : List (Addr × Sp)) (tb : TE) (E : L2.St → XK) (t : TA) : TE := fun σ H Q => tOp (rIx K) (tVar i) tb σ H fun v H1 => ∃ q ∈ fs, v = .ref q.1 ∧ t σ H1 fun vs H2 => q.2 vs H2 Q (E σ)
section
variable {X : Cx} {CX : CXT} {p p1 p2 pos : Pos} {e b : Expr} {as : List Expr} {tb : TE} {t : TA} {fs : List (Addr × Sp)} {K : PySem.W.Frag} {x : Str} {i : Nat}
theorem arm_pickN (x : Str) (p1 : Pos) (b : Expr) (p2 : Pos) (args : List Expr) (keywords : List Keyword) (pos : Pos) (env : PySem.Env) : eval (.Call (.Subscript (.Name x p1) b p2) args keywords pos) env = (do
    callWith pos (← eval (.Subscript (.Name x p1) b p2) env) [] (backTo pos (starEach args env)) (backToKw pos (keywordEach keywords env))) := rfl
theorem pe_pickN {E : L2.St → XK} (ix : IxR X (rIx K)) (hx : ∀ σ, PassesAt CX X σ (E σ)) (hn : PE X (.Name x p1) (tVar i)) (P : ∀ q ∈ fs, PkOk X CX q) (hb : PE X b tb) (hs : PlainIx b) (ha : PA X (e :: as) t)
    (he : starEach (e :: as) X.env = (false, eval e X.env) :: starEach as X.env := by rfl) (plain : (backTo pos (starEach as X.env)).any (·.1) = false := by rfl) :
    PE X (.Call (.Subscript (.Name x p1) b p2) (e :: as) [] pos) (tPickN K i fs tb E t) := by
  refine ⟨fun pins s σ H Q I h => ?_⟩
  rw [arm_pickN]
  refine wpAny_bind (thn ((pe_ix ix hn hb hs (pos := p2)).run pins s σ H _ I h) fun u s1 got => ?_)
  obtain ⟨v, H1, I1, r1, ⟨f, sp⟩, hq, rfl, q⟩ := got
  cases r1
  obtain ⟨k, fd, ps, F, hr, hk, hb'⟩ := P _ hq
  refine PySem.W.callWith_K (h₀ := X.base) I1.ok.mod.kin hk (thn (ha.run pos pins s1 σ _ _ I1 q) fun us s2 got => ?_) he plain
  obtain ⟨vs, H2, I2, r, q⟩ := got
  exact ⟨I2.kIn, run_fnS F hr hb' (hx σ) I2 r q⟩
theorem pkl_nil : ∀ q ∈ ([] : List (Addr × Sp)), PkOk X CX q := fun _ h => nomatch h
theorem pkl_cons {k : Nat} {f : Addr} {fd : FuncData} {ps : List Str} {sp : Sp} (F : FnOk X.prog X.w X.K X.mg X.base CX k f fd ps sp) (hr : Room k X.A) (hk : PySem.W.keepIn X.K (.ref f) = true) (hb : Binds X.K fd ps []) (r : ∀ q ∈ fs, PkOk X CX q) : ∀ q ∈ (f, sp) :: fs, PkOk X CX q := fun q h => by
  rcases List.mem_cons.mp h with rfl | h
  · exact ⟨k, fd, ps, F, hr, hk, hb⟩
  · exact r q h
end
def dPickN (i : Nat) (vs : List V) (Fs : List DSpX) (Ex : Xn → Env → Prop) (g : DTE) (f : DTA) (ε : Env) (Q : R → Env → Prop) : Prop := ε.s[i]? = some (.gen (fnG vs)) ∧ g ε fun y ε1 => match y.dat with
  | some (.int k) => ∃ F, atI Fs k = some F ∧ dCallX F Ex f ε1 Q
  | _ => False
section
variable {w : World} {cl : Str → Option Addr} {P0 : Hp} {W : WX} {Ex : Xn → Env → Prop} {n : Nat} {K : PySem.W.Frag}
theorem se_pickN {i : Nat} {vs : List V} {fs : List (Addr × Sp)} {Fs : List DSpX} {tb : TE} {g : DTE} {t : TA} {f : DTA} (hv : vs = fs.map fun q => .ref q.1) (h : AllX cl n fs Fs) (hg : SE (WxE w cl P0 W Ex) tb g) (hf : SA (WxE w cl P0 W Ex) n t f) :
    SE (WxE w cl P0 W Ex) (tPickN K i fs tb (WE W) t) (dPickN i vs Fs Ex g f) := by
  constructor
  · intro ε A B hAB q
    refine ⟨q.1, hg.mono _ _ _ (fun y ε1 q => ?_) q.2⟩
    split at q
    · obtain ⟨F, hF, q⟩ := q
      exact ⟨F, hF, (se_callX (h.mem F (atI_mem hF)) hf).mono _ _ _ hAB q⟩
    · exact q.elim
  · intro Z O σ ε L H Q X q
    obtain ⟨hs, q⟩ := q
    obtain ⟨o, h1, v, h2, a, h3, h4⟩ := X.sl i _ hs
    subst h2
    subst h3
    refine ⟨.ref a, h1, ?_⟩
    refine hg.run Z O σ ε L _ _ X (hg.mono _ _ _ (fun y ε1 q => ?_) q)
    intro u L2 H2 X2 e2 r2
    split at q
    · rename_i k ey
      obtain ⟨F, hF, q⟩ := q
      have hi := (r2.vl ey).int
      subst hi
      have hF' := hF
      unfold atI at hF'
      cases hx : ixN Fs.length k with
      | none => rw [hx] at hF'; cases hF'
      | some j =>
        rw [hx] at hF'
        obtain ⟨q0, h0, g1, g2⟩ := h.get hF'
        have at0 : atI vs k = some (.ref q0.1) := by
          rw [hv]
          unfold atI
          rw [List.length_map, h.len, hx]
          show (fs.map _)[j]? = _
          rw [List.getElem?_map, h0]
          rfl
        refine .inl ⟨a, _, k, .ref q0.1, rfl, rfl, SqL.of (X2.lh _ _ (e2.ll _ _ h4)), at0, q0, List.mem_of_getElem? h0, rfl, ?_⟩
        rw [g1]
        refine (se_callX g2 hf).run Z O σ ε1 L2 H2 Q X2 ((se_callX g2 hf).mono _ _ _ (fun r ε2 k => ?_) q)
        intro v L3 H3 X3 e3 r3
        exact k v L3 H3 X3 (e2.trans e3) (r3.back e2)
    · exact q.elim
end
end Lp
namespace Lp
open PySem PySem.Spec PyProof.Rows L2
section
variable (g : Gn) (rs : List R)
theorem ra_gen : R.arg (.gen g) = some (.gen g) := rfl
theorem hb_gen : hasBr (.gen g :: rs) = hasBr rs := rfl
theorem rp_gen : R.pub (.gen g) = .gen g := rfl
theorem va_gen (o : Bool) : val o (.gen g) = some (.gen g) := rfl
theorem rr_gen : R.ret (.gen g) = some (.gen g) := rfl
end
end Lp
namespace Lp
open PySem PySem.Spec PyProof.Rows L2
theorem ckd_mk {K : PySem.W.Frag} {x m : Str} {D f : Addr} (a : PySem.W.nsIn K mainGlobals x = some (some (.ref f))) (b : PySem.W.nsIn K D m = some (some (.ref f))) : ∃ f, PySem.W.nsIn K mainGlobals x = some (some (.ref f)) ∧ PySem.W.nsIn K D m = some (some (.ref f)) := ⟨f, a, b⟩
end Lp
namespace Lp
open PySem PySem.Spec PyProof.Rows L2
theorem pe_fnL {X : Cx} {CX : CXT} {es : List Expr} {fs : List (Addr × Sp)} {pos : Pos} (P : Pks X CX es fs) : PE X (.List es pos) (tLst (tNames fs)) := pe_lst P.pa
end Lp

namespace Lp
open PySem PySem.Spec PyProof.Rows L2
section
variable {X : Cx}
end
section
variable {w : Wx} {K : PySem.W.Frag} {ta te : TE} {f g : DTE}
def dCount (f g : DTE) (ε : Env) (Q : R → Env → Prop) : Prop := f ε fun x ε1 => match x.dat.bind PyData.its with
  | some ds => g ε1 fun y ε2 => match y.dat, intsD ds with
    | some (.int k), some ns => Q (.sh (.int (ns.count k : Nat))) ε2
    | _, _ => False
  | none => False
end
section
variable {X : Cx} {K : PySem.W.Frag}
end
section
variable {X : Cx}
end
section
variable {w : Wx} {K : PySem.W.Frag} {te : TE} {f : DTE}
def dSortSetA (f : DTE) (ε : Env) (Q : R → Env → Prop) : Prop := f ε fun r ε1 => match r.dat.bind PyData.its with
  | some ds => match intsD ds with
    | some ns => ns.length < 64 ∧ ∀ ms : List Int, ms.Pairwise (· < ·) → (∀ k, k ∈ ms ↔ k ∈ ns) → Q (.nw (dI ms)) ε1
    | none => False
  | none => False
end
end Lp

namespace PySem.W
open PySem PySem.Spec PySem.Calls PyProof.Rows
section
variable {M : Model} {K : Frag} {A : Around} {E : Value → Shared → Prop} {s : Shared} {α β : Type}
theorem forIn_walk {f : α → β → Sem (ForInStep β)} {b : β} {R : β → Shared → Prop} : ∀ cs : List α, (∀ c ∈ cs, ∀ R' : ForInStep β → Shared → Prop, R' (.yield b) s → wpAny M A (f c b) R' E s) → R b s → wpAny M A (forIn cs b f) R E s
  | [], _, r => by
    rw [List.forIn_nil]
    exact wpAny_pure r
  | c :: cs, st, r => by
    rw [List.forIn_cons]
    exact wpAny_bind (st c List.mem_cons_self _ (forIn_walk cs (fun d hd => st d (List.mem_cons_of_mem _ hd)) r))
theorem forIn_any {f : α → β → Sem (ForInStep β)} {i d : β} {v : α → Bool} {R : β → Shared → Prop} : ∀ cs : List α, (∀ c ∈ cs, ∀ R' : ForInStep β → Shared → Prop, R' (if v c = true then .done d else .yield i) s → wpAny M A (f c i) R' E s) → R (if cs.any v = true then d else i) s → wpAny M A (forIn cs i f) R E s
  | [], _, r => by
    rw [List.forIn_nil]
    exact wpAny_pure r
  | c :: cs, st, r => by
    rw [List.forIn_cons]
    refine wpAny_bind (st c List.mem_cons_self _ ?_)
    rw [List.any_cons] at r
    cases h : v c with
    | true =>
      rw [if_pos rfl]
      rw [h, Bool.true_or, if_pos rfl] at r
      exact wpAny_pure r
    | false =>
      rw [if_neg Bool.false_ne_true]
      rw [h, Bool.false_or] at r
      exact forIn_any cs (fun d hd => st d (List.mem_cons_of_mem _ hd)) r
theorem exmAny_all {K : Frag} {cls : Value} : ∀ {cs : List Value} {b : Bool}, exmAny K cls cs = some b → ∃ v : Value → Bool, (∀ c ∈ cs, exmOne K cls c = some (v c)) ∧ cs.any v = b
  | [], b, e => ⟨fun _ => false, (fun _ z => nomatch z), Option.some.inj e⟩
  | c :: cs, b, e => by
    refine ⟨fun c => (exmOne K cls c).getD false, ?_⟩
    have key : ∀ (cs : List Value) (b : Bool), exmAny K cls cs = some b → (∀ c ∈ cs, exmOne K cls c = some ((exmOne K cls c).getD false)) ∧ cs.any (fun c => (exmOne K cls c).getD false) = b := by
      intro cs
      induction cs with
      | nil => intro b e; exact ⟨(fun _ z => nomatch z), Option.some.inj e⟩
      | cons x xs ih =>
        intro b e
        obtain ⟨b1, d1, h1, h2, rfl⟩ := exmAny_cons e
        obtain ⟨i1, i2⟩ := ih d1 h2
        refine ⟨fun y hy => ?_, ?_⟩
        · rcases List.mem_cons.mp hy with rfl | hy
          · rw [h1]; rfl
          · exact i1 y hy
        · rw [List.any_cons, i2, h1]; rfl
    exact key _ _ e
theorem exm_tupN {cs : List Value} {cls : Value} {tp e : Addr} {b : Bool} {h : Heap} (X : K.In h) (LT : Looks M h (typeOf (.ref e)) cls) (hp : h.get? tp = some { cls := .type "tuple", data := .seq cs.toArray }) (hx : exmAny K cls cs = some b) :
    Looks M h (excMatches (.ref e) (.ref tp)) b := by
  intro A Q E s k₀ q
  obtain ⟨hh, g, d, tk, os⟩ := s
  have k : ∀ b o, h.get? b = some o → hh.get? b = some o := k₀
  have isT : Looks M h (isInstance (.ref tp) (.type "tuple")) true := ((Looks.ld hp).andThen .now).andThen (Looks.of_pure isSubtype_tuple_tuple)
  obtain ⟨v, hv, rfl⟩ := exmAny_all hx
  have isT := isT.keeps k
  have LT := LT.keeps k
  have hp' := k _ _ hp
  unfold excMatches
  refine wpAny_bind (isT.at ?_)
  dsimp only
  rw [if_pos rfl]
  first
    | refine wpAny_bind (wpAny_seqItems hp' rfl ?_)
    | refine wpAny_bind (wpAny_bind (wpAny_seqItems hp' rfl (wpAny_pure ?_)))
  dsimp only [Option.getD_some, Option.getD]
  refine wpAny_bind (wpAny_pure ?_)
  refine wpAny_bind (forIn_walk cs (fun c hc R' hR => ?_) ?_)
  · have e1 := (exm_cls (M := M) X (hv c hc)).1.keeps k
    refine wpAny_bind (e1.at ?_)
    simp only [Bool.not_true, Bool.false_eq_true, if_false]
    exact wpAny_pure hR
  refine wpAny_bind (LT.at ?_)
  refine wpAny_bind (forIn_any (v := v) (d := (some true, ())) cs (fun c hc R' hR => ?_) ?_)
  · have s1 := (exm_cls (M := M) X (hv c hc)).2.keeps k
    refine wpAny_bind (s1.at ?_)
    cases z : v c with
    | true =>
      rw [z, if_pos rfl] at hR
      simp only [if_true]
      exact wpAny_pure hR
    | false =>
      rw [z, if_neg Bool.false_ne_true] at hR
      simp only [Bool.false_eq_true, if_false]
      exact wpAny_pure hR
  cases z : cs.any v with
  | true =>
    rw [z] at q
    simp only [if_true]
    exact wpAny_pure q
  | false =>
    rw [z] at q
    simp only [Bool.false_eq_true, if_false]
    exact wpAny_pure q
end
end PySem.W
namespace Lp
open PySem PySem.Spec PyProof.Rows L2
section
variable {X : Cx}
theorem tst_6 {x1 x2 x3 x4 x5 x6 : Str} {c1 c2 c3 c4 c5 c6 : Value} {p1 p2 p3 p4 p5 p6 tpos : Pos} {kk : Nat} (n1 : Names X x1 c1) (n2 : Names X x2 c2) (n3 : Names X x3 c3) (n4 : Names X x4 c4) (n5 : Names X x5 c5) (n6 : Names X x6 c6) : TstOk X (.Tuple [.Name x1 p1, .Name x2 p2, .Name x3 p3, .Name x4 p4, .Name x5 p5, .Name x6 p6] kk tpos) [c1, c2, c3, c4, c5, c6] := by
  intro a pn σ H s cls b Q E S LT he q
  refine wpAny_Tuple ?_
  refine wpAny_items_cons (ld_name S n1 ?_)
  refine wpAny_items_cons (ld_name S n2 ?_)
  refine wpAny_items_cons (ld_name S n3 ?_)
  refine wpAny_items_cons (ld_name S n4 ?_)
  refine wpAny_items_cons (ld_name S n5 ?_)
  refine wpAny_items_cons (ld_name S n6 ?_)
  refine wpAny_items_nil ⟨by size_fits, ?_⟩
  have kp : ∀ q o, s.heap.get? q = some o → (s.heap.push { cls := .type "tuple", data := .seq [c1, c2, c3, c4, c5, c6].toArray }).get? q = some o := fun _ _ z => Heap.get?_push_of_some _ z
  exact (PySem.W.exm_tupN (S.kIn.keeps kp) (LT.keeps kp) (Heap.get?_push_size s.heap rfl) he).here (q _ kp)
end
end Lp

namespace Lp
open PySem PySem.Spec PyProof.Rows L2
local macro_rules | `(tactic| rfl') => `(tactic| try dsimp only [dVar_, gv_sh, gv_ow, gv_bx, gv_raw, gv_exn, gv_st, dC, dRaw, dOp, dUn, dTest, dTruth, dAnd, dOr, dNot, dYes, dIf, dAndV, dOrV, dNotV, dNotT, dChain, dNil, dCons, dTup, dLst, dats, dCB, dNoP, dPart, dSl, dNext, dBreak, dCont, dNever, dDrop, dRet, dRetN, dIfS, dSetG, dPar, dPar3, dAppend, dAppPop, dSetIx, dExt, dAug, dSet0, dSAdd, dSNotIn, dIter_, gi_l, gi_t, gi_b, dRng1, dRng2, dName, dGNil, dGCons, dGTup, dAsg, dFor, dWhile, dCall, dCallR, dArgs_, ga_f, ga_t, argsOf, dLc, wipeE, dListRg, dIndex, dSortSet, dSortSc, dEnum, dEnA, dZip, dIsi, dIsi2, isaT, φI, φB, φC, φNeg, add_i, add_l, add_t, mul_i, mul_l, φIx, sl_l, sl_t, eq_i, eq_s, eq_l, eq_t, eq_b, eq_n, φIsN, isN_n, isN_b, isN_i, isN_s, isN_l, isN_t, φLen, φList, φTuple, φAbs, φInt, φMax, φIsB, φIsNB, its_l, its_t, rd_sh, rd_nw, rd_br, rp_sh, rp_nw, rp_br, rp_bx, rp_raw, rp_sr, rr_sh, rr_nw, rr_br, ra_sh, ra_br, ra_bx, ra_raw, va_sh, va_nt, va_nf, va_raw, hb_n, hb_sh, hb_bx, hb_raw, hb_br, sh_n, sh_c, tr_n, tr_b, tr_i, tr_l, tr_t, ty_n, ty_b, ty_i, ty_s, ty_l, ty_t, if_ff, if_tt, Env.set, List.getElem?_cons_succ, List.getElem?_cons_zero, List.set_cons_succ, List.set_cons_zero, List.reverse_cons, List.reverse_nil, List.nil_append, List.cons_append, Option.bind_some, ite_true, ite_false, dCallX, dArgsX_, gx_s, dRaise, dIsX, dAttr, dIsNE, dCount, dSortSetA, dPickX, dMethX, dMeth, dMkCir, dFnL, dPickN, ra_gen, hb_gen, rp_gen, va_gen, rr_gen, dCallV, dCallVX])
abbrev xSizeS (n : Nat) : Xn := ⟨"OtherSize", [("size", .int n)]⟩
/-- two states (or a state and a wish) of unlike sizes -/
def qS (k : Nat) : DSpX := fun args c Q E => ∃ (xs ys : List PyData) (rest : List SV), args = .sh (.tuple xs) :: .sh (.tuple ys) :: rest ∧ rest.length = k ∧ ys.length ≠ xs.length ∧ E (xSizeS ys.length) c
theorem monx_qS (k : Nat) : MonX (qS k) := fun args c A B C D h g ⟨xs, ys, rest, e, h1, h2, q⟩ => ⟨xs, ys, rest, e, h1, h2, g _ _ q⟩
/-- check_size, raising: state, other -/
def bx_check_sizeS [Fns] (Ex : Xn → Env → Prop) : DTS := (dIfS (dTest (dOp (φEq true) (dCB φLen (dCons (dVar 1) dNil)) (dCB φLen (dCons (dVar 0) dNil)))) (dRaise "OtherSize" "size" (dCB φLen (dCons (dVar 1) dNil)) Ex) dNext)
abbrev kx_check_sizeS : Nat := 0
abbrev q_check_sizeS : DSpX := qS 0
theorem monx_check_sizeS : MonX q_check_sizeS := monx_qS 0
theorem mx_check_sizeS [Fns] : ∀ args c Q Ex, q_check_sizeS args c Q Ex → defX kx_check_sizeS bx_check_sizeS args c Q Ex := by
  rintro _ c Q Ex ⟨xs, ys, rest, rfl, hk, hne, q⟩
  obtain rfl : rest = [] := List.length_eq_zero_iff.mp hk
  show bx_check_sizeS _ _ ⟨[.sh (.tuple xs), .sh (.tuple ys)], c⟩
  unfold bx_check_sizeS
  rfl'
  exact in_t (by omega) q
/-- obstacle, raising: state, goal -/
def bx_obstacleS [Fns] (Ex : Xn → Env → Prop) : DTS := (dSeq (dDrop (dCallX q_check_sizeS Ex (dCons (dVar 0) (dCons (dVar 1) dNil))))
  dNever)
abbrev kx_obstacleS : Nat := 0
abbrev q_obstacleS : DSpX := qS 0
theorem monx_obstacleS : MonX q_obstacleS := monx_qS 0
theorem mx_obstacleS [Fns] : ∀ args c Q Ex, q_obstacleS args c Q Ex → defX kx_obstacleS bx_obstacleS args c Q Ex := by
  rintro _ c Q Ex ⟨xs, ys, rest, rfl, hk, hne, q⟩
  obtain rfl : rest = [] := List.length_eq_zero_iff.mp hk
  show bx_obstacleS _ _ ⟨[.sh (.tuple xs), .sh (.tuple ys)], c⟩
  unfold bx_obstacleS
  refine sq_ ?_
  rfl'
  exact ⟨rfl, xs, ys, [], rfl, rfl, hne, q⟩
/-- check_future, raising: state, goal, found -/
def bx_check_futureS [Fns] (Ex : Xn → Env → Prop) : DTS := (dSeq (dSetG false 2 (dCallX q_obstacleS Ex (dCons (dVar 0) (dCons (dVar 1) dNil))))
  dNever)
abbrev kx_check_futureS : Nat := 1
abbrev q_check_futureS : DSpX := qS 0
theorem monx_check_futureS : MonX q_check_futureS := monx_qS 0
theorem mx_check_futureS [Fns] : ∀ args c Q Ex, q_check_futureS args c Q Ex → defX kx_check_futureS bx_check_futureS args c Q Ex := by
  rintro _ c Q Ex ⟨xs, ys, rest, rfl, hk, hne, q⟩
  obtain rfl : rest = [] := List.length_eq_zero_iff.mp hk
  show bx_check_futureS _ _ ⟨[.sh (.tuple xs), .sh (.tuple ys), .un], c⟩
  unfold bx_check_futureS
  refine sq_ ?_
  rfl'
  exact ⟨rfl, xs, ys, [], rfl, rfl, hne, q⟩
/-- leads, raising: state, goal -/
def bx_leadsS [Fns] (Ex : Xn → Env → Prop) : DTS := (dRet (dOp (φIsN false) (dCallX q_obstacleS Ex (dCons (dVar 0) (dCons (dVar 1) dNil))) (dC .none)))
abbrev kx_leadsS : Nat := 0
abbrev q_leadsS : DSpX := qS 0
theorem monx_leadsS : MonX q_leadsS := monx_qS 0
theorem mx_leadsS [Fns] : ∀ args c Q Ex, q_leadsS args c Q Ex → defX kx_leadsS bx_leadsS args c Q Ex := by
  rintro _ c Q Ex ⟨xs, ys, rest, rfl, hk, hne, q⟩
  obtain rfl : rest = [] := List.length_eq_zero_iff.mp hk
  show bx_leadsS _ _ ⟨[.sh (.tuple xs), .sh (.tuple ys)], c⟩
  unfold bx_leadsS
  rfl'
  exact ⟨rfl, xs, ys, [], rfl, rfl, hne, q⟩
/-- is_obstacle, raising: state, goal, value, kind, people, item -/
def bx_is_obstacleS [Fns] (Ex : Xn → Env → Prop) : DTS := (dSeq (dDrop (dCallX q_check_sizeS Ex (dCons (dVar 0) (dCons (dVar 1) dNil))))
  dNever)
abbrev kx_is_obstacleS : Nat := 3
abbrev q_is_obstacleS : DSpX := qS 1
theorem monx_is_obstacleS : MonX q_is_obstacleS := monx_qS 1
theorem mx_is_obstacleS [Fns] : ∀ args c Q Ex, q_is_obstacleS args c Q Ex → defX kx_is_obstacleS bx_is_obstacleS args c Q Ex := by
  rintro _ c Q Ex ⟨xs, ys, rest, rfl, hk, hne, q⟩
  obtain ⟨z, rfl⟩ := List.length_eq_one_iff.mp hk
  show bx_is_obstacleS _ _ ⟨[.sh (.tuple xs), .sh (.tuple ys), z, .un, .un, .un], c⟩
  unfold bx_is_obstacleS
  refine sq_ ?_
  rfl'
  exact ⟨rfl, xs, ys, [], rfl, rfl, hne, q⟩
/-- word_to, raising: state, goal, word, ring -/
def bx_word_toS [Fns] (Ex : Xn → Env → Prop) : DTS := (dSeq (dDrop (dCallX q_check_futureS Ex (dCons (dVar 0) (dCons (dVar 1) dNil))))
  dNever)
abbrev kx_word_toS : Nat := 2
abbrev q_word_toS : DSpX := qS 0
theorem monx_word_toS : MonX q_word_toS := monx_qS 0
theorem mx_word_toS [Fns] : ∀ args c Q Ex, q_word_toS args c Q Ex → defX kx_word_toS bx_word_toS args c Q Ex := by
  rintro _ c Q Ex ⟨xs, ys, rest, rfl, hk, hne, q⟩
  obtain rfl : rest = [] := List.length_eq_zero_iff.mp hk
  show bx_word_toS _ _ ⟨[.sh (.tuple xs), .sh (.tuple ys), .un, .un], c⟩
  unfold bx_word_toS
  refine sq_ ?_
  rfl'
  exact ⟨rfl, xs, ys, [], rfl, rfl, hne, q⟩
/-- is_word_to, raising: state, goal, value, item -/
def bx_is_word_toS [Fns] (Ex : Xn → Env → Prop) : DTS := (dSeq (dDrop (dCallX q_check_sizeS Ex (dCons (dVar 0) (dCons (dVar 1) dNil))))
  dNever)
abbrev kx_is_word_toS : Nat := 1
abbrev q_is_word_toS : DSpX := qS 1
theorem monx_is_word_toS : MonX q_is_word_toS := monx_qS 1
theorem mx_is_word_toS [Fns] : ∀ args c Q Ex, q_is_word_toS args c Q Ex → defX kx_is_word_toS bx_is_word_toS args c Q Ex := by
  rintro _ c Q Ex ⟨xs, ys, rest, rfl, hk, hne, q⟩
  obtain ⟨z, rfl⟩ := List.length_eq_one_iff.mp hk
  show bx_is_word_toS _ _ ⟨[.sh (.tuple xs), .sh (.tuple ys), z, .un], c⟩
  unfold bx_is_word_toS
  refine sq_ ?_
  rfl'
  exact ⟨rfl, xs, ys, [], rfl, rfl, hne, q⟩
/-- ring_past_number, raising: state, past, order, group -/
def bx_ring_past_numberS [Fns] (Ex : Xn → Env → Prop) : DTS := (dSeq (dDrop (dCallX q_check_sizeS Ex (dCons (dVar 0) (dCons (dVar 1) dNil))))
  dNever)
abbrev kx_ring_past_numberS : Nat := 2
abbrev q_ring_past_numberS : DSpX := qS 0
theorem monx_ring_past_numberS : MonX q_ring_past_numberS := monx_qS 0
theorem mx_ring_past_numberS [Fns] : ∀ args c Q Ex, q_ring_past_numberS args c Q Ex → defX kx_ring_past_numberS bx_ring_past_numberS args c Q Ex := by
  rintro _ c Q Ex ⟨xs, ys, rest, rfl, hk, hne, q⟩
  obtain rfl : rest = [] := List.length_eq_zero_iff.mp hk
  show bx_ring_past_numberS _ _ ⟨[.sh (.tuple xs), .sh (.tuple ys), .un, .un], c⟩
  unfold bx_ring_past_numberS
  refine sq_ ?_
  rfl'
  exact ⟨rfl, xs, ys, [], rfl, rfl, hne, q⟩
/-- line_past_number, raising: state, past, order, group, steps, person, step -/
def bx_line_past_numberS [Fns] (Ex : Xn → Env → Prop) : DTS := (dSeq (dDrop (dCallX q_check_sizeS Ex (dCons (dVar 0) (dCons (dVar 1) dNil))))
  dNever)
abbrev kx_line_past_numberS : Nat := 5
abbrev q_line_past_numberS : DSpX := qS 0
theorem monx_line_past_numberS : MonX q_line_past_numberS := monx_qS 0
theorem mx_line_past_numberS [Fns] : ∀ args c Q Ex, q_line_past_numberS args c Q Ex → defX kx_line_past_numberS bx_line_past_numberS args c Q Ex := by
  rintro _ c Q Ex ⟨xs, ys, rest, rfl, hk, hne, q⟩
  obtain rfl : rest = [] := List.length_eq_zero_iff.mp hk
  show bx_line_past_numberS _ _ ⟨[.sh (.tuple xs), .sh (.tuple ys), .un, .un, .un, .un, .un], c⟩
  unfold bx_line_past_numberS
  refine sq_ ?_
  rfl'
  exact ⟨rfl, xs, ys, [], rfl, rfl, hne, q⟩
/-- future_bar, raising: one, other, bar, group -/
def bx_future_barS [Fns] (Ex : Xn → Env → Prop) : DTS := (dSeq (dDrop (dCallX q_check_sizeS Ex (dCons (dVar 0) (dCons (dVar 1) dNil))))
  dNever)
abbrev kx_future_barS : Nat := 2
abbrev q_future_barS : DSpX := qS 0
theorem monx_future_barS : MonX q_future_barS := monx_qS 0
theorem mx_future_barS [Fns] : ∀ args c Q Ex, q_future_barS args c Q Ex → defX kx_future_barS bx_future_barS args c Q Ex := by
  rintro _ c Q Ex ⟨xs, ys, rest, rfl, hk, hne, q⟩
  obtain rfl : rest = [] := List.length_eq_zero_iff.mp hk
  show bx_future_barS _ _ ⟨[.sh (.tuple xs), .sh (.tuple ys), .un, .un], c⟩
  unfold bx_future_barS
  refine sq_ ?_
  rfl'
  exact ⟨rfl, xs, ys, [], rfl, rfl, hne, q⟩
/-- common_future, raising: one, other, bar, group -/
def bx_common_futureS [Fns] (Ex : Xn → Env → Prop) : DTS := (dSeq (dSetG false 2 (dCallX q_future_barS Ex (dCons (dVar 0) (dCons (dVar 1) dNil))))
  dNever)
abbrev kx_common_futureS : Nat := 2
abbrev q_common_futureS : DSpX := qS 0
theorem monx_common_futureS : MonX q_common_futureS := monx_qS 0
theorem mx_common_futureS [Fns] : ∀ args c Q Ex, q_common_futureS args c Q Ex → defX kx_common_futureS bx_common_futureS args c Q Ex := by
  rintro _ c Q Ex ⟨xs, ys, rest, rfl, hk, hne, q⟩
  obtain rfl : rest = [] := List.length_eq_zero_iff.mp hk
  show bx_common_futureS _ _ ⟨[.sh (.tuple xs), .sh (.tuple ys), .un, .un], c⟩
  unfold bx_common_futureS
  refine sq_ ?_
  rfl'
  exact ⟨rfl, xs, ys, [], rfl, rfl, hne, q⟩
/-- past_bar, raising: one, other, bar, group, broken -/
def bx_past_barS [Fns] (Ex : Xn → Env → Prop) : DTS := (dSeq (dDrop (dCallX q_check_sizeS Ex (dCons (dVar 0) (dCons (dVar 1) dNil))))
  dNever)
abbrev kx_past_barS : Nat := 3
abbrev q_past_barS : DSpX := qS 0
theorem monx_past_barS : MonX q_past_barS := monx_qS 0
theorem mx_past_barS [Fns] : ∀ args c Q Ex, q_past_barS args c Q Ex → defX kx_past_barS bx_past_barS args c Q Ex := by
  rintro _ c Q Ex ⟨xs, ys, rest, rfl, hk, hne, q⟩
  obtain rfl : rest = [] := List.length_eq_zero_iff.mp hk
  show bx_past_barS _ _ ⟨[.sh (.tuple xs), .sh (.tuple ys), .un, .un, .un], c⟩
  unfold bx_past_barS
  refine sq_ ?_
  rfl'
  exact ⟨rfl, xs, ys, [], rfl, rfl, hne, q⟩
/-- common_past, raising: one, other, bar, group -/
def bx_common_pastS [Fns] (Ex : Xn → Env → Prop) : DTS := (dSeq (dSetG false 2 (dCallX q_past_barS Ex (dCons (dVar 0) (dCons (dVar 1) dNil))))
  dNever)
abbrev kx_common_pastS : Nat := 2
abbrev q_common_pastS : DSpX := qS 0
theorem monx_common_pastS : MonX q_common_pastS := monx_qS 0
theorem mx_common_pastS [Fns] : ∀ args c Q Ex, q_common_pastS args c Q Ex → defX kx_common_pastS bx_common_pastS args c Q Ex := by
  rintro _ c Q Ex ⟨xs, ys, rest, rfl, hk, hne, q⟩
  obtain rfl : rest = [] := List.length_eq_zero_iff.mp hk
  show bx_common_pastS _ _ ⟨[.sh (.tuple xs), .sh (.tuple ys), .un, .un], c⟩
  unfold bx_common_pastS
  refine sq_ ?_
  rfl'
  exact ⟨rfl, xs, ys, [], rfl, rfl, hne, q⟩
/-- callers, raising: state, later, person -/
def bx_callersS [Fns] (Ex : Xn → Env → Prop) : DTS := (dSeq (dDrop (dCallX q_check_sizeS Ex (dCons (dVar 0) (dCons (dVar 1) dNil))))
  dNever)
abbrev kx_callersS : Nat := 1
abbrev q_callersS : DSpX := qS 0
theorem monx_callersS : MonX q_callersS := monx_qS 0
theorem mx_callersS [Fns] : ∀ args c Q Ex, q_callersS args c Q Ex → defX kx_callersS bx_callersS args c Q Ex := by
  rintro _ c Q Ex ⟨xs, ys, rest, rfl, hk, hne, q⟩
  obtain rfl : rest = [] := List.length_eq_zero_iff.mp hk
  show bx_callersS _ _ ⟨[.sh (.tuple xs), .sh (.tuple ys), .un], c⟩
  unfold bx_callersS
  refine sq_ ?_
  rfl'
  exact ⟨rfl, xs, ys, [], rfl, rfl, hne, q⟩
/-- number_of, raising: state, goal -/
def bx_number_ofS [Fns] (Ex : Xn → Env → Prop) : DTS := (dSeq (dDrop (dCallX q_check_futureS Ex (dCons (dVar 0) (dCons (dVar 1) dNil))))
  dNever)
abbrev kx_number_ofS : Nat := 0
abbrev q_number_ofS : DSpX := qS 0
theorem monx_number_ofS : MonX q_number_ofS := monx_qS 0
theorem mx_number_ofS [Fns] : ∀ args c Q Ex, q_number_ofS args c Q Ex → defX kx_number_ofS bx_number_ofS args c Q Ex := by
  rintro _ c Q Ex ⟨xs, ys, rest, rfl, hk, hne, q⟩
  obtain rfl : rest = [] := List.length_eq_zero_iff.mp hk
  show bx_number_ofS _ _ ⟨[.sh (.tuple xs), .sh (.tuple ys)], c⟩
  unfold bx_number_ofS
  refine sq_ ?_
  rfl'
  exact ⟨rfl, xs, ys, [], rfl, rfl, hne, q⟩
/-- are_kin, raising: one, other -/
def bx_are_kinS [Fns] (Ex : Xn → Env → Prop) : DTS := (dRet (dAndV (dCallX q_leadsS Ex (dCons (dVar 0) (dCons (dVar 1) dNil))) (dCallX q_leadsS Ex (dCons (dVar 1) (dCons (dVar 0) dNil)))))
abbrev kx_are_kinS : Nat := 0
abbrev q_are_kinS : DSpX := qS 0
theorem monx_are_kinS : MonX q_are_kinS := monx_qS 0
theorem mx_are_kinS [Fns] : ∀ args c Q Ex, q_are_kinS args c Q Ex → defX kx_are_kinS bx_are_kinS args c Q Ex := by
  rintro _ c Q Ex ⟨xs, ys, rest, rfl, hk, hne, q⟩
  obtain rfl : rest = [] := List.length_eq_zero_iff.mp hk
  show bx_are_kinS _ _ ⟨[.sh (.tuple xs), .sh (.tuple ys)], c⟩
  unfold bx_are_kinS
  rfl'
  exact ⟨rfl, xs, ys, [], rfl, rfl, hne, q⟩
/-- kin_number, raising: state, other -/
def bx_kin_numberS [Fns] (Ex : Xn → Env → Prop) : DTS := (dSeq (dIfS (dNot (dTruth (dCallX q_are_kinS Ex (dCons (dVar 0) (dCons (dVar 1) dNil))))) dNever dNever)
  dNever)
abbrev kx_kin_numberS : Nat := 0
abbrev q_kin_numberS : DSpX := qS 0
theorem monx_kin_numberS : MonX q_kin_numberS := monx_qS 0
theorem mx_kin_numberS [Fns] : ∀ args c Q Ex, q_kin_numberS args c Q Ex → defX kx_kin_numberS bx_kin_numberS args c Q Ex := by
  rintro _ c Q Ex ⟨xs, ys, rest, rfl, hk, hne, q⟩
  obtain rfl : rest = [] := List.length_eq_zero_iff.mp hk
  show bx_kin_numberS _ _ ⟨[.sh (.tuple xs), .sh (.tuple ys)], c⟩
  unfold bx_kin_numberS
  refine sq_ ?_
  rfl'
  exact ⟨rfl, xs, ys, [], rfl, rfl, hne, q⟩
/-- first_word, raising: state, goal -/
def bx_first_wordS [Fns] (Ex : Xn → Env → Prop) : DTS := (dSeq (dDrop (dCallX q_check_sizeS Ex (dCons (dVar 0) (dCons (dVar 1) dNil))))
  dNever)
abbrev kx_first_wordS : Nat := 0
abbrev q_first_wordS : DSpX := qS 0
theorem monx_first_wordS : MonX q_first_wordS := monx_qS 0
theorem mx_first_wordS [Fns] : ∀ args c Q Ex, q_first_wordS args c Q Ex → defX kx_first_wordS bx_first_wordS args c Q Ex := by
  rintro _ c Q Ex ⟨xs, ys, rest, rfl, hk, hne, q⟩
  obtain rfl : rest = [] := List.length_eq_zero_iff.mp hk
  show bx_first_wordS _ _ ⟨[.sh (.tuple xs), .sh (.tuple ys)], c⟩
  unfold bx_first_wordS
  refine sq_ ?_
  rfl'
  exact ⟨rfl, xs, ys, [], rfl, rfl, hne, q⟩
/-- distance, raising: state, goal, word -/
def bx_distanceS [Fns] (Ex : Xn → Env → Prop) : DTS := (dSeq (dSetG false 2 (dCallX q_first_wordS Ex (dCons (dVar 0) (dCons (dVar 1) dNil))))
  dNever)
abbrev kx_distanceS : Nat := 1
abbrev q_distanceS : DSpX := qS 0
theorem monx_distanceS : MonX q_distanceS := monx_qS 0
theorem mx_distanceS [Fns] : ∀ args c Q Ex, q_distanceS args c Q Ex → defX kx_distanceS bx_distanceS args c Q Ex := by
  rintro _ c Q Ex ⟨xs, ys, rest, rfl, hk, hne, q⟩
  obtain rfl : rest = [] := List.length_eq_zero_iff.mp hk
  show bx_distanceS _ _ ⟨[.sh (.tuple xs), .sh (.tuple ys), .un], c⟩
  unfold bx_distanceS
  refine sq_ ?_
  rfl'
  exact ⟨rfl, xs, ys, [], rfl, rfl, hne, q⟩
/-- words_many, raising: state, goal, size, moves_from, future, many, unused -/
def bx_words_manyS [Fns] (Ex : Xn → Env → Prop) : DTS := (dSeq (dDrop (dCallX q_check_sizeS Ex (dCons (dVar 0) (dCons (dVar 1) dNil))))
  dNever)
abbrev kx_words_manyS : Nat := 4
abbrev q_words_manyS : DSpX := qS 1
theorem monx_words_manyS : MonX q_words_manyS := monx_qS 1
theorem mx_words_manyS [Fns] : ∀ args c Q Ex, q_words_manyS args c Q Ex → defX kx_words_manyS bx_words_manyS args c Q Ex := by
  rintro _ c Q Ex ⟨xs, ys, rest, rfl, hk, hne, q⟩
  obtain ⟨z, rfl⟩ := List.length_eq_one_iff.mp hk
  show bx_words_manyS _ _ ⟨[.sh (.tuple xs), .sh (.tuple ys), z, .un, .un, .un, .un], c⟩
  unfold bx_words_manyS
  refine sq_ ?_
  rfl'
  exact ⟨rfl, xs, ys, [], rfl, rfl, hne, q⟩
/-- meets, raising: state, wish, target, item -/
def bx_meetsS [Fns] (Ex : Xn → Env → Prop) : DTS := (dSeq (dDrop (dCallX q_check_sizeS Ex (dCons (dVar 0) (dCons (dVar 1) dNil))))
  dNever)
abbrev kx_meetsS : Nat := 2
abbrev q_meetsS : DSpX := qS 0
theorem monx_meetsS : MonX q_meetsS := monx_qS 0
theorem mx_meetsS [Fns] : ∀ args c Q Ex, q_meetsS args c Q Ex → defX kx_meetsS bx_meetsS args c Q Ex := by
  rintro _ c Q Ex ⟨xs, ys, rest, rfl, hk, hne, q⟩
  obtain rfl : rest = [] := List.length_eq_zero_iff.mp hk
  show bx_meetsS _ _ ⟨[.sh (.tuple xs), .sh (.tuple ys), .un, .un], c⟩
  unfold bx_meetsS
  refine sq_ ?_
  rfl'
  exact ⟨rfl, xs, ys, [], rfl, rfl, hne, q⟩
/-- wish_obstacle, raising: state, wish -/
def bx_wish_obstacleS [Fns] (Ex : Xn → Env → Prop) : DTS := (dSeq (dDrop (dCallX q_check_sizeS Ex (dCons (dVar 0) (dCons (dVar 1) dNil))))
  dNever)
abbrev kx_wish_obstacleS : Nat := 0
abbrev q_wish_obstacleS : DSpX := qS 0
theorem monx_wish_obstacleS : MonX q_wish_obstacleS := monx_qS 0
theorem mx_wish_obstacleS [Fns] : ∀ args c Q Ex, q_wish_obstacleS args c Q Ex → defX kx_wish_obstacleS bx_wish_obstacleS args c Q Ex := by
  rintro _ c Q Ex ⟨xs, ys, rest, rfl, hk, hne, q⟩
  obtain rfl : rest = [] := List.length_eq_zero_iff.mp hk
  show bx_wish_obstacleS _ _ ⟨[.sh (.tuple xs), .sh (.tuple ys)], c⟩
  unfold bx_wish_obstacleS
  refine sq_ ?_
  rfl'
  exact ⟨rfl, xs, ys, [], rfl, rfl, hne, q⟩
/-- check_wish, raising: state, wish, found -/
def bx_check_wishS [Fns] (Ex : Xn → Env → Prop) : DTS := (dSeq (dSetG false 2 (dCallX q_wish_obstacleS Ex (dCons (dVar 0) (dCons (dVar 1) dNil))))
  dNever)
abbrev kx_check_wishS : Nat := 1
abbrev q_check_wishS : DSpX := qS 0
theorem monx_check_wishS : MonX q_check_wishS := monx_qS 0
theorem mx_check_wishS [Fns] : ∀ args c Q Ex, q_check_wishS args c Q Ex → defX kx_check_wishS bx_check_wishS args c Q Ex := by
  rintro _ c Q Ex ⟨xs, ys, rest, rfl, hk, hne, q⟩
  obtain rfl : rest = [] := List.length_eq_zero_iff.mp hk
  show bx_check_wishS _ _ ⟨[.sh (.tuple xs), .sh (.tuple ys), .un], c⟩
  unfold bx_check_wishS
  refine sq_ ?_
  rfl'
  exact ⟨rfl, xs, ys, [], rfl, rfl, hne, q⟩
/-- granted, raising: state, wish, pointers, person, is_outside -/
def bx_grantedS [Fns] (Ex : Xn → Env → Prop) : DTS := (dSeq (dDrop (dCallX q_check_wishS Ex (dCons (dVar 0) (dCons (dVar 1) dNil))))
  dNever)
abbrev kx_grantedS : Nat := 3
abbrev q_grantedS : DSpX := qS 0
theorem monx_grantedS : MonX q_grantedS := monx_qS 0
theorem mx_grantedS [Fns] : ∀ args c Q Ex, q_grantedS args c Q Ex → defX kx_grantedS bx_grantedS args c Q Ex := by
  rintro _ c Q Ex ⟨xs, ys, rest, rfl, hk, hne, q⟩
  obtain rfl : rest = [] := List.length_eq_zero_iff.mp hk
  show bx_grantedS _ _ ⟨[.sh (.tuple xs), .sh (.tuple ys), .un, .un, .un], c⟩
  unfold bx_grantedS
  refine sq_ ?_
  rfl'
  exact ⟨rfl, xs, ys, [], rfl, rfl, hne, q⟩
/-- forced, raising: state, wish, targets, person, people -/
def bx_forcedS [Fns] (Ex : Xn → Env → Prop) : DTS := (dSeq (dDrop (dCallX q_check_wishS Ex (dCons (dVar 0) (dCons (dVar 1) dNil))))
  dNever)
abbrev kx_forcedS : Nat := 3
abbrev q_forcedS : DSpX := qS 0
theorem monx_forcedS : MonX q_forcedS := monx_qS 0
theorem mx_forcedS [Fns] : ∀ args c Q Ex, q_forcedS args c Q Ex → defX kx_forcedS bx_forcedS args c Q Ex := by
  rintro _ c Q Ex ⟨xs, ys, rest, rfl, hk, hne, q⟩
  obtain rfl : rest = [] := List.length_eq_zero_iff.mp hk
  show bx_forcedS _ _ ⟨[.sh (.tuple xs), .sh (.tuple ys), .un, .un, .un], c⟩
  unfold bx_forcedS
  refine sq_ ?_
  rfl'
  exact ⟨rfl, xs, ys, [], rfl, rfl, hne, q⟩
/-- pointers_for, raising: state, wish, person, target -/
def bx_pointers_forS [Fns] (Ex : Xn → Env → Prop) : DTS := (dSeq (dDrop (dCallX q_check_sizeS Ex (dCons (dVar 0) (dCons (dVar 1) dNil))))
  dNever)
abbrev kx_pointers_forS : Nat := 1
abbrev q_pointers_forS : DSpX := qS 1
theorem monx_pointers_forS : MonX q_pointers_forS := monx_qS 1
theorem mx_pointers_forS [Fns] : ∀ args c Q Ex, q_pointers_forS args c Q Ex → defX kx_pointers_forS bx_pointers_forS args c Q Ex := by
  rintro _ c Q Ex ⟨xs, ys, rest, rfl, hk, hne, q⟩
  obtain ⟨z, rfl⟩ := List.length_eq_one_iff.mp hk
  show bx_pointers_forS _ _ ⟨[.sh (.tuple xs), .sh (.tuple ys), z, .un], c⟩
  unfold bx_pointers_forS
  refine sq_ ?_
  rfl'
  exact ⟨rfl, xs, ys, [], rfl, rfl, hne, q⟩
/-- become_deed, raising: state, goal -/
def bx_become_deedS [Fns] (Ex : Xn → Env → Prop) : DTS := (dSeq (dDrop (dCallX q_check_futureS Ex (dCons (dVar 0) (dCons (dVar 1) dNil))))
  dNever)
abbrev kx_become_deedS : Nat := 0
abbrev q_become_deedS : DSpX := qS 0
theorem monx_become_deedS : MonX q_become_deedS := monx_qS 0
theorem mx_become_deedS [Fns] : ∀ args c Q Ex, q_become_deedS args c Q Ex → defX kx_become_deedS bx_become_deedS args c Q Ex := by
  rintro _ c Q Ex ⟨xs, ys, rest, rfl, hk, hne, q⟩
  obtain rfl : rest = [] := List.length_eq_zero_iff.mp hk
  show bx_become_deedS _ _ ⟨[.sh (.tuple xs), .sh (.tuple ys)], c⟩
  unfold bx_become_deedS
  refine sq_ ?_
  rfl'
  exact ⟨rfl, xs, ys, [], rfl, rfl, hne, q⟩
theorem at6 {F : DSpX} {k : Int} (h0 : 0 ≤ k) (h1 : k < 6) : atI [F, F, F, F, F, F] k = some F := by
  rcases (by omega : k = 0 ∨ k = 1 ∨ k = 2 ∨ k = 3 ∨ k = 4 ∨ k = 5) with rfl | rfl | rfl | rfl | rfl | rfl <;> rfl
theorem at4 {F : DSpX} {k : Int} (h0 : 0 ≤ k) (h1 : k < 4) : atI [F, F, F, F] k = some F := by
  rcases (by omega : k = 0 ∨ k = 1 ∨ k = 2 ∨ k = 3) with rfl | rfl | rfl | rfl <;> rfl
theorem at3 {F : DSpX} {k : Int} (h0 : 0 ≤ k) (h1 : k < 3) : atI [F, F, F] k = some F := by
  rcases (by omega : k = 0 ∨ k = 1 ∨ k = 2) with rfl | rfl | rfl <;> rfl
theorem at2 {F : DSpX} {k : Int} (h0 : 0 ≤ k) (h1 : k < 2) : atI [F, F] k = some F := by
  rcases (by omega : k = 0 ∨ k = 1) with rfl | rfl <;> rfl
/-- _law_two, raising: _law_door, _law_start, _law_mate, _law_some -/
def bx_law_two [Fns] (Ex : Xn → Env → Prop) : DTS := (dSeq (dIfS (dTest (dOp (φB fun i j => decide (i < j)) (dVar 0) (dC (.int 6)))) (dRet (dPickX [q_leadsS, q_obstacleS, q_word_toS, q_number_ofS, q_are_kinS, q_kin_numberS] Ex (dVar 0) (dCons (dVar 1) (dCons (dVar 2) dNil)))) dNext)
  (dSeq (dIfS (dTest (dOp (φB fun i j => decide (i < j)) (dVar 0) (dC (.int 12)))) (dSeq (dSetG false 3 (dFnL [FN "future_bar", FN "common_future", FN "past_bar", FN "common_past", FN "ring_past_number", FN "line_past_number"]))
  (dRet (dPickN 3 [FN "future_bar", FN "common_future", FN "past_bar", FN "common_past", FN "ring_past_number", FN "line_past_number"] [q_future_barS, q_common_futureS, q_past_barS, q_common_pastS, q_ring_past_numberS, q_line_past_numberS] Ex (dOp (φI fun i j => i - j) (dVar 0) (dC (.int 6))) (dCons (dVar 1) (dCons (dVar 2) dNil))))) dNext)
  (dSeq (dIfS (dTest (dOp (φB fun i j => decide (i < j)) (dVar 0) (dC (.int 15)))) (dRet (dPickX [q_callersS, q_distanceS, q_first_wordS] Ex (dOp (φI fun i j => i - j) (dVar 0) (dC (.int 12))) (dCons (dVar 1) (dCons (dVar 2) dNil)))) dNext)
  (dSeq (dIfS (dTest (dOp (φB fun i j => decide (i < j)) (dVar 0) (dC (.int 17)))) (dRet (dPickX [q_is_obstacleS, q_is_word_toS] Ex (dOp (φI fun i j => i - j) (dVar 0) (dC (.int 15))) (dCons (dVar 1) (dCons (dVar 2) (dCons (dC .none) dNil))))) dNext)
  (dRet (dIf (dTest (dOp (φEq false) (dVar 0) (dC (.int 17)))) (dCallX q_words_manyS Ex (dCons (dVar 1) (dCons (dVar 2) (dCons (dC (.int 0)) dNil)))) (dMethX (q_ci q_become_deedS) Ex (dMkCir (dVar 1)) (dCons (dVar 2) dNil))))))))
abbrev kx_law_two : Nat := 1
def q_law_two : DSpX := fun args c Q E => ∃ (k : Int) (xs ys : List PyData), args = [.sh (.int k), .sh (.tuple xs), .sh (.tuple ys)] ∧ 0 ≤ k ∧ k < 19 ∧ ys.length ≠ xs.length ∧ E (xSizeS ys.length) c
theorem monx_law_two : MonX q_law_two := fun args c A B C D h g ⟨k, xs, ys, e, h1, h2, h3, q⟩ => ⟨k, xs, ys, e, h1, h2, h3, g _ _ q⟩
theorem mx_law_two [Fns] : ∀ args c Q Ex, q_law_two args c Q Ex → defX kx_law_two bx_law_two args c Q Ex := by
  rintro _ c Q Ex ⟨k, xs, ys, rfl, k0, k1, hne, q⟩
  show bx_law_two _ _ ⟨[.sh (.int k), .sh (.tuple xs), .sh (.tuple ys), .un], c⟩
  unfold bx_law_two
  refine sq_ ?_
  rfl'
  refine it_2 (fun e => ?_) fun e1 => ?_
  · exact ⟨_, at6 k0 e, rfl, xs, ys, [], rfl, rfl, hne, q⟩
  refine sq_ ?_
  rfl'
  refine it_2 (fun e => ?_) fun e2 => ?_
  · refine sq_ ?_
    rfl'
    exact ⟨rfl, _, at6 (k := k - 6) (by omega) (by omega), rfl, xs, ys, [], rfl, rfl, hne, q⟩
  refine sq_ ?_
  rfl'
  refine it_2 (fun e => ?_) fun e3 => ?_
  · exact ⟨_, at3 (k := k - 12) (by omega) (by omega), rfl, xs, ys, [], rfl, rfl, hne, q⟩
  refine sq_ ?_
  rfl'
  refine it_2 (fun e => ?_) fun e4 => ?_
  · exact ⟨_, at2 (k := k - 15) (by omega) (by omega), rfl, xs, ys, [.sh .none], rfl, rfl, hne, q⟩
  rfl'
  refine it_2 (fun e => ?_) fun e5 => ?_
  · exact ⟨rfl, xs, ys, [.sh (.int 0)], rfl, rfl, hne, q⟩
  · exact ⟨⟨_, rfl⟩, rfl, _, _, rfl, xs, ys, [], rfl, rfl, hne, q⟩
/-- _law_hope, raising: _law_door, _law_start, _law_hope_here -/
def bx_law_hope_2 [Fns] (Ex : Xn → Env → Prop) : DTS := (dSeq (dIfS (dTest (dOp (φB fun i j => decide (i < j)) (dVar 0) (dC (.int 4)))) (dRet (dPickX [q_meetsS, q_wish_obstacleS, q_grantedS, q_forcedS] Ex (dVar 0) (dCons (dVar 1) (dCons (dVar 2) dNil)))) dNext)
  (dRet (dCallX q_pointers_forS Ex (dCons (dVar 1) (dCons (dVar 2) (dCons (dUn φNeg (dC (.int 1))) dNil))))))
abbrev kx_law_hope_2 : Nat := 0
def q_law_hope_2 : DSpX := fun args c Q E => ∃ (k : Int) (xs ys : List PyData), args = [.sh (.int k), .sh (.tuple xs), .sh (.tuple ys)] ∧ 0 ≤ k ∧ k < 5 ∧ ys.length ≠ xs.length ∧ E (xSizeS ys.length) c
theorem monx_law_hope_2 : MonX q_law_hope_2 := fun args c A B C D h g ⟨k, xs, ys, e, h1, h2, h3, q⟩ => ⟨k, xs, ys, e, h1, h2, h3, g _ _ q⟩
theorem mx_law_hope_2 [Fns] : ∀ args c Q Ex, q_law_hope_2 args c Q Ex → defX kx_law_hope_2 bx_law_hope_2 args c Q Ex := by
  rintro _ c Q Ex ⟨k, xs, ys, rfl, k0, k1, hne, q⟩
  show bx_law_hope_2 _ _ ⟨[.sh (.int k), .sh (.tuple xs), .sh (.tuple ys)], c⟩
  unfold bx_law_hope_2
  refine sq_ ?_
  rfl'
  refine it_2 (fun e => ?_) fun e1 => ?_
  · exact ⟨_, at4 k0 e, rfl, xs, ys, [], rfl, rfl, hne, q⟩
  rfl'
  exact ⟨rfl, xs, ys, [.sh (.int (-1))], rfl, rfl, hne, q⟩
/-- _law_refused: _law_kind, _law_door, _law_start, _law_thing, _law_caught, error -/
def b_law_refused_8 [Fns] : DTS := (dSeq (dSetG false 4 (dC .none))
  (dSeq (dTry 5 4 ["BadText", "NoCommon", "NotKin", "NotPast", "OtherSize", "Unreachable"] (fun Ex1 => (dIfS (dTest (dOp (φEq false) (dVar 0) (dC (.int 0)))) (dDrop (dCallX q_law_two Ex1 (dCons (dVar 1) (dCons (dVar 2) (dCons (dVar 3) dNil))))) (dDrop (dCallX q_law_hope_2 Ex1 (dCons (dVar 1) (dCons (dVar 2) (dCons (dVar 3) dNil))))))))
  (dSeq (dIfS (dOr (dNot (dTruth (dIsX ["OtherSize"] (dVar 4)))) (dTruth (dIsX ["BadText", "NotKin", "NotPast"] (dVar 4)))) (dRet (dC .none)) dNext)
  (dRet (dIf (dTruth (dIsX ["ValueError"] (dVar 4))) (dAttr "size" (dVar 4)) (dC .none))))))
abbrev k_law_refused_8 : Nat := 2
def p_law_refused_8 : DSp := fun args c Q => ∃ (z k : Int) (xs ys : List PyData), args = [.sh (.int z), .sh (.int k), .sh (.tuple xs), .sh (.tuple ys)] ∧ 0 ≤ k ∧ (z = 0 ∧ k < 19 ∨ z = 1 ∧ k < 5) ∧ ys.length ≠ xs.length ∧ Q (.sh (.int (ys.length : Int))) c
theorem mon_law_refused_8 : MonF p_law_refused_8 := fun args c A B h ⟨z, k, xs, ys, e, h1, h2, h3, q⟩ => ⟨z, k, xs, ys, e, h1, h2, h3, h _ _ q⟩
theorem m_law_refused_8 [Fns] : ∀ args c Q, p_law_refused_8 args c Q → defF k_law_refused_8 b_law_refused_8 args c Q := by
  rintro _ c Q ⟨z, k, xs, ys, rfl, k0, hz, hne, q⟩
  show b_law_refused_8 _ ⟨[.sh (.int z), .sh (.int k), .sh (.tuple xs), .sh (.tuple ys), .un, .un], c⟩
  unfold b_law_refused_8
  refine sq_ ?_
  rfl'
  refine sq_ ?_
  refine ⟨_, fun x ε' h => h, ?_⟩
  rfl'
  rcases hz with ⟨rfl, h1⟩ | ⟨rfl, h1⟩
  · refine it_t rfl ?_
    refine ⟨rfl, k, xs, ys, rfl, k0, h1, hne, rfl, by simp, ?_⟩
    refine sq_ ?_
    rfl'
    have f1 : ([Str.ofString "OtherSize"].any (subX (Str.ofString "OtherSize"))) = true := by decide
    have f2 : ([Str.ofString "BadText", Str.ofString "NotKin", Str.ofString "NotPast"].any (subX (Str.ofString "OtherSize"))) = false := by decide
    have f3 : ([Str.ofString "ValueError"].any (subX (Str.ofString "OtherSize"))) = true := by decide
    rw [f1, f2, f3]
    refine if_f (by decide) ?_
    refine if_f (by decide) ?_
    exact if_t rfl ⟨_, rfl, q⟩
  · refine it_f (by decide) ?_
    refine ⟨rfl, k, xs, ys, rfl, k0, h1, hne, rfl, by simp, ?_⟩
    refine sq_ ?_
    rfl'
    have f1 : ([Str.ofString "OtherSize"].any (subX (Str.ofString "OtherSize"))) = true := by decide
    have f2 : ([Str.ofString "BadText", Str.ofString "NotKin", Str.ofString "NotPast"].any (subX (Str.ofString "OtherSize"))) = false := by decide
    have f3 : ([Str.ofString "ValueError"].any (subX (Str.ofString "OtherSize"))) = true := by decide
    rw [f1, f2, f3]
    refine if_f (by decide) ?_
    refine if_f (by decide) ?_
    exact if_t rfl ⟨_, rfl, q⟩
theorem c_same97 {k : Nat} {a : PyData} {c : Nat} {Q : R → Nat → Prop} (h : dep k a = true) (q : Q (.sh (.bool true)) c) : p_law_same_3 k [.sh a, .sh a] c Q := ⟨a, a, rfl, rfl, h, q⟩
abbrev k97_door (z : Int) (j : Nat) : DTS := (dIfS (dNot (dTruth (dCall (p_law_same_3 3) (dCons (dCall p_law_refused_8 (dCons (dC (.int z)) (dCons (dVar 5) (dCons (dVar 3) (dCons (dVar j) dNil))))) (dCons (dCB φLen (dCons (dVar 4) dNil)) dNil))))) (dRet (dC (.bool false))) dNext)
theorem k97_doors {xs ys : List PyData} {c : Nat} {Δ : DEnds} {x1 x2 x6 x7 : SV} (hne : ys.length ≠ xs.length) : ∀ (ks : List Int) (x5 : SV), (∀ k ∈ ks, 0 ≤ k ∧ k < 19) →
    (∀ x5, Δ.nx ⟨[.bx, x1, x2, .sh (.tuple xs), .sh (.tuple ys), x5, x6, x7], c⟩) → forD (dName 5) (k97_door 0 4) Δ (dI ks) ⟨[.bx, x1, x2, .sh (.tuple xs), .sh (.tuple ys), x5, x6, x7], c⟩
  | [], x5, _, q => q x5
  | k :: ks, x5, hk, q => by
    have h1 := hk k List.mem_cons_self
    show forD _ _ _ (.int k :: dI ks) _
    refine for_cons ?_
    rfl'
    refine ⟨0, k, xs, ys, rfl, h1.1, .inl ⟨rfl, h1.2⟩, hne, ?_⟩
    rfl'
    refine c_same97 rfl ?_
    rfl'
    refine if_f rfl ?_
    exact k97_doors hne ks _ (fun z hz => hk z (List.mem_cons_of_mem _ hz)) q
theorem k97_hopes {xs ys zs : List PyData} {c : Nat} {Δ : DEnds} {x1 x2 x7 : SV} (hne : ys.length ≠ xs.length) (hz : zs.length = ys.length) : ∀ (ks : List Int) (x5 : SV), (∀ k ∈ ks, 0 ≤ k ∧ k < 5) →
    (∀ x5, Δ.nx ⟨[.bx, x1, x2, .sh (.tuple xs), .sh (.tuple ys), x5, .sh (.tuple zs), x7], c⟩) → forD (dName 5) (k97_door 1 6) Δ (dI ks) ⟨[.bx, x1, x2, .sh (.tuple xs), .sh (.tuple ys), x5, .sh (.tuple zs), x7], c⟩
  | [], x5, _, q => q x5
  | k :: ks, x5, hk, q => by
    have h1 := hk k List.mem_cons_self
    show forD _ _ _ (.int k :: dI ks) _
    refine for_cons ?_
    rfl'
    refine ⟨1, k, xs, zs, rfl, h1.1, .inr ⟨rfl, h1.2⟩, by rw [hz]; exact hne, ?_⟩
    rw [hz]
    rfl'
    refine c_same97 rfl ?_
    rfl'
    refine if_f rfl ?_
    exact k97_hopes hne hz ks _ (fun z hz => hk z (List.mem_cons_of_mem _ hz)) q
abbrev k97_pair : DTS := (dSeq (dFor (dRng1 (dCons (dC (.int 19)) dNil)) (dName 5) (k97_door 0 4))
  (dSeq (dSetG false 6 (dCB φTuple (dCons (dLc (dIter (dVar 4)) (dName 7) dYes (dCall p_law_pick (dCons (dVar 0) (dCons (dLst (dCons (dC .none) (dCons (dC (.int 0)) (dCons (dVar 7) dNil)))) dNil))) [7]) dNil)))
  (dFor (dRng1 (dCons (dC (.int 5)) dNil)) (dName 5) (k97_door 1 6))))
theorem k97_two {ns gs : List Int} {c : Nat} {Δ : DEnds} {x1 x2 x5 x6 x7 : SV} (hne : gs.length ≠ ns.length) (hl : gs.length ≤ 1000) (hc : c ≤ 800000000) (q : ∀ c' x5 x6 x7, c' ≤ c + 3000 → Δ.nx ⟨[.bx, x1, x2, .sh (.tuple (dI ns)), .sh (.tuple (dI gs)), x5, x6, x7], c'⟩) :
    k97_pair Δ ⟨[.bx, x1, x2, .sh (.tuple (dI ns)), .sh (.tuple (dI gs)), x5, x6, x7], c⟩ := by
  have hne' : (dI gs).length ≠ (dI ns).length := by rw [dI_len, dI_len]; exact hne
  refine sq_ ?_
  rfl'
  refine ⟨⟨by decide, by decide⟩, rfl, ?_⟩
  refine k97_doors hne' [0, 1, 2, 3, 4, 5, 6, 7, 8, 9, 10, 11, 12, 13, 14, 15, 16, 17, 18] _ (by decide) fun x5 => ?_
  refine sq_ ?_
  rfl'
  refine lc_draw (α := Int) (β := PyData) (N := 3) PyData.int (fun d => d) (fun _ _ => True) gs [] c (fun y hy m hm K hK => ?_) (by show 0 + _ ≤ _; omega) (fun ys m hys hm => ?_)
  · rfl'
    refine ⟨_, _, rfl, its_l _, by simp, (show 3 ≤ 1000000 by decide), by omega, fun e c' he hc' => ?_⟩
    rfl'
    exact hK _ _ e rfl trivial hc'
  · rw [List.nil_append, List.map_id']
    rfl'
    have hl2 : ys.length = (dI gs).length := by rw [dI_len]; exact hys.len
    refine ⟨⟨by decide, by decide⟩, rfl, ?_⟩
    refine k97_hopes hne' hl2 [0, 1, 2, 3, 4] _ (by decide) fun x5 => q m _ _ _ ?_
    omega
/-- _law_right: _law_source, _law_start, _law_mate, _law_one_now, _law_its, _law_door, _law_hope_here, _law_spot -/
def b_k97_law_right [Fns] : DTS := (dSeq (dSetG false 1 (dCall p_law_random_state (dCons (dVar 0) (dCons (dOp φAdd (dC (.int 2)) (dCall p_law_take (dCons (dVar 0) (dCons (dC (.int 8)) dNil)))) dNil))))
  (dSeq (dSetG false 2 (dCall p_law_random_state (dCons (dVar 0) (dCons (dCall p_law_pick (dCons (dVar 0) (dCons (dLst (dCons (dC (.int 1)) (dCons (dOp (φI fun i j => i - j) (dCB φLen (dCons (dVar 1) dNil)) (dC (.int 1))) (dCons (dOp φAdd (dCB φLen (dCons (dVar 1) dNil)) (dC (.int 1))) (dCons (dOp φAdd (dCB φLen (dCons (dVar 1) dNil)) (dC (.int 6))) dNil))))) dNil))) dNil))))
  (dSeq (dFor (dIter (dTup (dCons (dTup (dCons (dVar 1) (dCons (dVar 2) dNil))) (dCons (dTup (dCons (dVar 2) (dCons (dVar 1) dNil))) dNil)))) (dGTup 2 (dGCons (dName 3) (dGCons (dName 4) dGNil))) (dSeq (dFor (dRng1 (dCons (dC (.int 19)) dNil)) (dName 5) (dIfS (dNot (dTruth (dCall (p_law_same_3 3) (dCons (dCall p_law_refused_8 (dCons (dC (.int 0)) (dCons (dVar 5) (dCons (dVar 3) (dCons (dVar 4) dNil))))) (dCons (dCB φLen (dCons (dVar 4) dNil)) dNil))))) (dRet (dC (.bool false))) dNext))
  (dSeq (dSetG false 6 (dCB φTuple (dCons (dLc (dIter (dVar 4)) (dName 7) dYes (dCall p_law_pick (dCons (dVar 0) (dCons (dLst (dCons (dC .none) (dCons (dC (.int 0)) (dCons (dVar 7) dNil)))) dNil))) [7]) dNil)))
  (dFor (dRng1 (dCons (dC (.int 5)) dNil)) (dName 5) (dIfS (dNot (dTruth (dCall (p_law_same_3 3) (dCons (dCall p_law_refused_8 (dCons (dC (.int 1)) (dCons (dVar 5) (dCons (dVar 3) (dCons (dVar 6) dNil))))) (dCons (dCB φLen (dCons (dVar 4) dNil)) dNil))))) (dRet (dC (.bool false))) dNext)))))
  (dRet (dC (.bool true))))))
abbrev k_k97_law_right : Nat := 7
def p_k97_law_right : DSp := fun args c Q => args = [.bx] ∧ c ≤ 3000000 ∧ ∀ c', c' ≤ c + 1000000 → Q (.sh (.bool true)) c'
theorem m_k97_law_right [Fns] : ∀ args c Q, p_k97_law_right args c Q → defF k_k97_law_right b_k97_law_right args c Q := by
  rintro _ c Q ⟨rfl, hc, q⟩
  show b_k97_law_right _ ⟨[.bx, .un, .un, .un, .un, .un, .un, .un], c⟩
  unfold b_k97_law_right
  refine sq_ ?_
  rfl'
  refine c_take (by decide) (by decide) (by omega) fun r c1 r0 r1 hc1 => ?_
  rfl'
  refine ⟨_, rfl, by omega, by omega, by omega, fun ns c2 hs hl hc2 => ?_⟩
  rfl'
  refine sq_ ?_
  rfl'
  rw [dI_len]
  refine ⟨_, _, rfl, its_l _, by simp, (show 4 ≤ 1000000 by decide), by omega, fun e c3 he hc3 => ?_⟩
  have hle := hs.le
  obtain ⟨m, rfl, m1, m2, m3⟩ : ∃ m : Int, e = .int m ∧ 1 ≤ m ∧ m ≤ 20 ∧ m ≠ (ns.length : Int) := by
    rcases List.mem_cons.mp he with rfl | he
    · exact ⟨_, rfl, by omega, by omega, by omega⟩
    rcases List.mem_cons.mp he with rfl | he
    · exact ⟨_, rfl, by omega, by omega, by omega⟩
    rcases List.mem_cons.mp he with rfl | he
    · exact ⟨_, rfl, by omega, by omega, by omega⟩
    rcases List.mem_cons.mp he with rfl | he
    · exact ⟨_, rfl, by omega, by omega, by omega⟩
    · cases he
  rfl'
  refine ⟨_, rfl, by omega, by omega, by omega, fun gs c4 hs' hl' hc4 => ?_⟩
  rfl'
  refine sq_ ?_
  rfl'
  refine ⟨rfl, ?_⟩
  refine for_cons ?_
  rfl'
  refine ⟨rfl, ?_⟩
  refine k97_two (by omega) (by omega) (by omega) fun c5 x5 x6 x7 hc5 => ?_
  rfl'
  refine for_cons ?_
  rfl'
  refine ⟨rfl, ?_⟩
  refine k97_two (by omega) (by omega) (by omega) fun c6 x5 x6 x7 hc6 => ?_
  exact q c6 (by omega)
end Lp

namespace Lp
open PySem PySem.Spec PyProof.Rows L2
local macro_rules | `(tactic| rfl') => `(tactic| try dsimp only [dVar_, gv_sh, gv_ow, gv_bx, gv_raw, gv_st, dC, dRaw, dOp, dUn, dTest, dTruth, dAnd, dOr, dNot, dYes, dIf, dAndV, dOrV, dNotV, dNotT, dChain, dNil, dCons, dTup, dLst, dats, dCB, dNoP, dPart, dSl, dNext, dBreak, dCont, dNever, dDrop, dRet, dRetN, dIfS, dSetG, dPar, dPar3, dAppend, dAppPop, dSetIx, dExt, dAug, dSet0, dSAdd, dSNotIn, dIter_, gi_l, gi_t, gi_b, dRng1, dRng2, dName, dGNil, dGCons, dGTup, dAsg, dFor, dWhile, dCall, dCallR, dArgs_, ga_f, ga_t, argsOf, dLc, wipeE, dListRg, dIndex, dSortSet, dSortSc, dEnum, dEnA, dZip, dIsi, dIsi2, isaT, φI, φB, φC, φNeg, add_i, add_l, add_t, mul_i, mul_l, φIx, sl_l, sl_t, eq_i, eq_s, eq_l, eq_t, eq_b, eq_n, φIsN, isN_n, isN_b, isN_i, isN_s, isN_l, isN_t, φLen, φList, φTuple, φAbs, φInt, φMax, φIsB, φIsNB, its_l, its_t, rd_sh, rd_nw, rd_br, rp_sh, rp_nw, rp_br, rp_bx, rp_raw, rp_sr, rr_sh, rr_nw, rr_br, ra_sh, ra_br, ra_bx, ra_raw, va_sh, va_nt, va_nf, va_raw, hb_n, hb_sh, hb_bx, hb_raw, hb_br, sh_n, sh_c, tr_n, tr_b, tr_i, tr_l, tr_t, ty_n, ty_b, ty_i, ty_s, ty_l, ty_t, if_ff, if_tt, Env.set, List.getElem?_cons_succ, List.getElem?_cons_zero, List.set_cons_succ, List.set_cons_zero, List.reverse_cons, List.reverse_nil, List.nil_append, List.cons_append, Option.bind_some, ite_true, ite_false])
/-- all but b stand as they stood -/
def Sb (b : Addr) (H H' : Hp) : Prop := ∀ a o, a ≠ b → H a = some o → H' a = some o
theorem Sb.refl (b : Addr) (H : Hp) : Sb b H H := fun _ _ _ h => h
theorem Sb.trans {b : Addr} {H H1 H2 : Hp} (x : Sb b H H1) (y : Sb b H1 H2) : Sb b H H2 := fun a o n h => y a o n (x a o n h)
theorem Sb.upd {b : Addr} {H H1 : Hp} {o : HO} (x : Sb b H H1) : Sb b H (upd H1 b o) := fun a u n h => by
  rw [upd_ne n]; exact x a u n h
theorem same_new {H : Hp} {p : Addr} {o : HO} (h : H p = none) : Same H (upd H p o) := fun a u e => by
  rw [upd_ne (ne_of_none e h)]; exact e
def spTake : Sp := fun vs H Q _ => ∃ (b : Addr) (span : Int) (c : Nat), vs = [.ref b, .int span] ∧ Box H b c ∧ c ≤ 1000000000 ∧ 1 ≤ span ∧ span ≤ 10000000 ∧
  ∀ H' (r : Int), Sb b H H' → Box H' b (c + 1) → 0 ≤ r → r < span → Q (.int r) H'
def spTakeW : Sp := fun vs H Q _ => ∃ (b : Addr) (span : Int) (c : Nat), vs = [.ref b, .int span] ∧ Box H b c ∧ c ≤ 900000000 ∧ 1 ≤ span ∧ span ≤ 10000000000000 ∧
  ∀ H' (r : Int), Sb b H H' → Box H' b (c + 2) → 0 ≤ r → r < span → Q (.int r) H'
def spTakeB : Sp := fun vs H Q _ => ∃ (b : Addr) (span : Int) (c : Nat), vs = [.ref b, .int span] ∧ Box H b c ∧ c ≤ 900000000 ∧ 10000000 < span ∧ span ≤ 10000000000000 ∧
  ∀ H' (r : Int), Sb b H H' → Box H' b (c + 2) → 0 ≤ r → r < span → Q (.int r) H'
theorem take_imp {vs : List V} {H : Hp} {Q : VK} {E : XK} (h : spD 2 p_law_take vs H Q E) : spTakeW vs H Q E := by
  obtain ⟨b, L, c, args, hl, cz, ar, span, rfl, h1, h2, h3, q⟩ := h
  cases ar with
  | cons a0 r0 =>
    cases r0 with
    | cons a1 r1 =>
      cases r1
      obtain ⟨a, rfl, rfl⟩ := a0
      cases a1
      obtain ⟨sl, hb⟩ := cz
      obtain ⟨nl, bx⟩ := hb a rfl
      refine ⟨a, span, c, rfl, bx, h3, h1, h2, fun H' r sb bx' r0 r1 => ?_⟩
      have keep : Same L H' := fun x o e => sb x o (fun z => by rw [z, nl] at e; cases e) (sl x o e)
      refine q r (c + 2) r0 r1 (by omega) (.int r) L H' ⟨keep, fun x e => by cases e; exact ⟨nl, bx'⟩⟩ ⟨Same.refl L, fun x o e n => sb x o (fun z => n (by rw [z])) e, fun x hx => ?_, fun x n _ => n⟩ (.int r)
      by_cases z : x = a
      · rw [z]; exact bx'.there
      · cases e : H x with
        | none => exact absurd e hx
        | some o => rw [sb x o z e]; exact fun z => nomatch z
def spBox (K : PySem.W.Frag) : Sp := fun vs H Q _ => ∃ (a : Addr) (k : Int) (ns : List Int), vs = [.ref a, .int k] ∧ SqL K H a (IL ns) ∧ 0 ≤ k ∧ k ≤ 62 ∧
  ∀ H' p, Same H H' → H p = none → Box H' p 0 → Q (.ref p) H'
def spLaw (K : PySem.W.Frag) : Sp := fun vs H Q _ => ∃ (a : Addr) (ns : List Int), vs = [.ref a] ∧ SqL K H a (IL ns) ∧ ns.length ≤ 63 ∧ ∀ H', Q (.bl true) H'
theorem fn_none {P : Program} {w : World} {K : PySem.W.Frag} {mg : Str → Option Value} {base : Heap} {k : Nat} {f : Addr} {fd : FuncData} {ps : List Str} {sp : Sp} (h : ∀ vs H Q E, ¬ sp vs H Q E) : FnOk P w K mg base CX0 k f fd ps sp :=
  ⟨fun vs H Q E z => absurd z (h vs H Q E), fun A outer s H args us vs Q E hr he hb hv z => absurd z (h vs H Q E)⟩
theorem fn_or {P : Program} {w : World} {K : PySem.W.Frag} {mg : Str → Option Value} {base : Heap} {k : Nat} {f : Addr} {fd : FuncData} {ps : List Str} {s1 s2 : Sp} (F1 : FnOk P w K mg base CX0 k f fd ps s1) (F2 : FnOk P w K mg base CX0 k f fd ps s2) : FnOk P w K mg base CX0 k f fd ps (fun vs H Q E => s1 vs H Q E ∨ s2 vs H Q E) :=
  ⟨fun vs H Q E h => h.elim (F1.len vs H Q E) (F2.len vs H Q E), fun A outer s H args us vs Q E hr he hb hv hs => hs.elim (F1.run A outer s H args us vs Q E hr he hb hv) (F2.run A outer s H args us vs Q E hr he hb hv)⟩
theorem spD_none {n : Nat} {F : DSp} (h : ∀ args c Q, ¬ F args c Q) : ∀ vs H Q E, ¬ spD n F vs H Q E := fun vs H Q E ⟨b, L, c, args, _, _, _, z⟩ => h _ _ _ z
theorem yes_ok {te : TE} {σ : L2.St} {H : Hp} {R : V → Hp → Prop} {S : Hp → Prop} (h : te σ H R) : tYes σ H fun b H3 => if b = true then te σ H3 R else S H3 :=
  iteT (B := S H) h
theorem rep_bl (n : Nat) : (List.replicate n true).map V.bl = List.replicate n (.bl true) := by rw [List.map_replicate]
theorem rep_app (n : Nat) (x : V) : List.replicate n x ++ [x] = List.replicate (n + 1) x := by
  rw [List.replicate_succ']
theorem rep_all (n : Nat) : (List.replicate n true).all id = true := by
  rw [List.all_replicate]; split <;> rfl
/-- a list stands where its object stands -/
theorem SqL.keep {K : PySem.W.Frag} {H H' : Hp} {a : Addr} {xs : List V} (h : SqL K H a xs) (k : ∀ o, H a = some o → H' a = some o) : SqL K H' a xs := by
  rcases h with h | h
  · refine .inl ?_
    rcases h with h | ⟨o, h⟩
    · exact .inl (k _ h)
    · exact .inr ⟨o, k _ h⟩
  · exact .inr h
theorem at_lt {ns : List Int} {i : Int} (h0 : 0 ≤ i) (h1 : i < (ns.length : Int)) : ∃ z, atI (IL ns) i = some (.int z) := by
  refine ⟨gt ns i, ?_⟩
  rw [atI_nat h0 (by rw [List.length_map]; exact h1), List.getElem?_map, gt_get h0 h1]; rfl
def Stay (K : PySem.W.Frag) (D a : Addr) (xs : List V) (H : Hp) : Prop := (∃ o, H a = some o ∧ a ≠ D ∧ ∀ H', H' a = some o → SqL K H' a xs) ∨ ∀ H', SqL K H' a xs
theorem Stay.of {K : PySem.W.Frag} {D a : Addr} {xs : List V} {H : Hp} {u : HO} (h : SqL K H a xs) (n : H D = none) : Stay K D a xs (upd H D u) := by
  rcases h with h | h
  · refine .inl ?_
    rcases h with h | ⟨o, h⟩
    · have z : a ≠ D := ne_of_none h n
      exact ⟨_, by rw [upd_ne z]; exact h, z, fun H' e => .inl (.inl e)⟩
    · have z : a ≠ D := ne_of_none h n
      exact ⟨_, by rw [upd_ne z]; exact h, z, fun H' e => .inl (.inr ⟨o, e⟩)⟩
  · exact .inr fun H' => .inr h
theorem Stay.step {K : PySem.W.Frag} {D a b : Addr} {xs : List V} {H H6 H7 : Hp} {u : HO} (h : Stay K D a xs H) (s : Same H H6) (n : H b = none) (sb : Sb b H6 H7) : Stay K D a xs (upd H7 D u) := by
  rcases h with ⟨o, e, z, h⟩ | h
  · exact .inl ⟨o, by rw [upd_ne z]; exact sb a o (ne_of_none e n) (s a o e), z, h⟩
  · exact .inr h
end Lp

namespace Lp
open PySem PySem.Spec PyProof.Rows L2
local macro_rules | `(tactic| rfl') => `(tactic| try dsimp only [dVar_, gv_sh, gv_ow, gv_bx, gv_raw, gv_st, dC, dRaw, dOp, dUn, dTest, dTruth, dAnd, dOr, dNot, dYes, dIf, dAndV, dOrV, dNotV, dNotT, dChain, dNil, dCons, dTup, dLst, dats, dCB, dNoP, dPart, dSl, dNext, dBreak, dCont, dNever, dDrop, dRet, dRetN, dIfS, dSetG, dPar, dPar3, dAppend, dAppPop, dSetIx, dExt, dAug, dSet0, dSAdd, dSNotIn, dIter_, gi_l, gi_t, gi_b, dRng1, dRng2, dName, dGNil, dGCons, dGTup, dAsg, dFor, dWhile, dCall, dCallR, dArgs_, ga_f, ga_t, argsOf, dLc, wipeE, dListRg, dIndex, dSortSet, dSortSc, dEnum, dEnA, dZip, dIsi, dIsi2, isaT, φI, φB, φC, φNeg, add_i, add_l, add_t, mul_i, mul_l, φIx, sl_l, sl_t, eq_i, eq_s, eq_l, eq_t, eq_b, eq_n, φIsN, isN_n, isN_b, isN_i, isN_s, isN_l, isN_t, φLen, φList, φTuple, φAbs, φInt, φMax, φIsB, φIsNB, its_l, its_t, rd_sh, rd_nw, rd_br, rp_sh, rp_nw, rp_br, rp_bx, rp_raw, rp_sr, rr_sh, rr_nw, rr_br, ra_sh, ra_br, ra_bx, ra_raw, va_sh, va_nt, va_nf, va_raw, hb_n, hb_sh, hb_bx, hb_raw, hb_br, sh_n, sh_c, tr_n, tr_b, tr_i, tr_l, tr_t, ty_n, ty_b, ty_i, ty_s, ty_l, ty_t, if_ff, if_tt, Env.set, List.getElem?_cons_succ, List.getElem?_cons_zero, List.set_cons_succ, List.set_cons_zero, List.reverse_cons, List.reverse_nil, List.nil_append, List.cons_append, Option.bind_some, ite_true, ite_false])
theorem IL_at {es : List Int} {i : Nat} {x : V} (h : (IL es)[i]? = some x) (hi : i < es.length) : x = .int es[i] := by
  rw [IL_get (List.getElem?_eq_getElem hi)] at h
  exact (Option.some.inj h).symm
theorem IL_set (ns : List Int) (i : Nat) (z : Int) : (IL ns).set i (.int z) = IL (ns.set i z) := by
  show (ns.map V.int).set i (V.int z) = (ns.set i z).map V.int
  rw [List.map_set]
theorem same_mut {H H' : Hp} {p : Addr} {o : HO} (s : Same H H') (h : H p = none) : Same H (upd H' p o) := fun a u e => by
  rw [upd_ne (ne_of_none e h)]; exact s a u e
theorem cut_IL (ns : List Int) (lo hi : Option Int) : cutV (IL ns) lo hi = IL ((ns.drop (HT.sIx ns.length 0 lo)).take (HT.sIx ns.length ns.length hi - HT.sIx ns.length 0 lo)) := by
  unfold cutV
  show ((ns.map V.int).drop (HT.sIx (ns.map V.int).length 0 lo)).take (HT.sIx (ns.map V.int).length (ns.map V.int).length hi - HT.sIx (ns.map V.int).length 0 lo) = List.map V.int _
  rw [List.length_map, List.map_take, List.map_drop]
def spCells (K : PySem.W.Frag) : Sp := fun vs H Q _ => ∃ (a : Addr) (m : Int) (ns : List Int), vs = [.ref a, .int m] ∧ SqL K H a (IL ns) ∧ 1 ≤ m ∧ m ≤ 60 ∧
  ∀ H' p (ms : List Int), Same H H' → H p = none → H' p = some (.lst (IL ms)) → 1 ≤ ms.length → (ms.length : Int) ≤ m → Q (.ref p) H'
/-- a call of what draws from a box alone and answers True, with a count -/
theorem right_do2 {F : DSp} {H : Hp} {b : Addr} {c N : Nat} {Q : VK} {E : XK} (bx : Box H b c) (h : ∀ Q : R → Nat → Prop, (∀ c', c' ≤ c + N → Q (.sh (.bool true)) c') → F [.bx] c Q) (q : ∀ H', Sb b H H' → Box H' b (c + N) → Q (.bl true) H') : spD 1 F [.ref b] H Q E := by
  refine ⟨some b, fun _ => none, c, [.bx], rfl, ⟨(fun _ _ h => nomatch h), fun a e => by cases e; exact ⟨rfl, bx⟩⟩, .cons ⟨b, rfl, rfl⟩ .nil, h _ fun c' hc v L' H' cz ex vr => ?_⟩
  cases vr
  exact q H' (fun a o n e => ex.hh a o e fun z => n (by cases z; rfl)) ((cz.2 b rfl).2.le hc)
theorem Box.ne {H : Hp} {b D : Addr} {c : Nat} (x : Box H b c) (n : H D = none) : b ≠ D := fun z => x.there (by rw [z]; exact n)
theorem Box.new {H : Hp} {b D : Addr} {c : Nat} {o : HO} (x : Box H b c) (n : H D = none) : Box (upd H D o) b c := x.keep (upd_ne (x.ne n))
theorem Box.put {H : Hp} {b D : Addr} {c : Nat} {o : HO} (x : Box H b c) (n : b ≠ D) : Box (upd H D o) b c := x.keep (upd_ne n)
theorem upd_keep {H : Hp} {a p : Addr} {o u : HO} (h : H a = some o) (n : H p = none) : (upd H p u) a = some o := by rw [upd_ne (ne_of_none h n)]; exact h
end Lp

namespace Lp
open PySem PySem.Spec PyProof.Rows L2
section
variable {X : Cx} {o e : Expr} {es : List Expr} {to te : TE} {ta : TA} {f : Str} {p p' p1 p2 pos : Pos} {B newId initId : String} {bm : List Value}
theorem pe_initValueError {pl : Sem Bool} (hg : Gl X "ValueError") (hm : X.mg "ValueError" = none) (vV : PySem.W.findCls X.K (.type "ValueError") (.type "type") "__init__" = some (.val (.builtin "ValueError.__init__"))) (ha : PA X (e :: es) ta)
    (hc : eval (.Call (.Attribute (.Name "ValueError" p1) "__init__" p2) (e :: es) [] pos) X.env = (do
      let ov ← eval (.Name "ValueError" p1) X.env
      standAt p2.atName
      let (f, first) ← holding [ov] (getMethod ov "__init__" pl)
      callWith pos f first (backTo pos (starEach (e :: es) X.env)) (backToKw pos (keywordEach [] X.env))) := by rfl)
    (he : starEach (e :: es) X.env = (false, eval e X.env) :: starEach es X.env := by rfl) (hpl : (backTo pos (starEach es X.env)).any (·.1) = false := by rfl) :
    PE X (.Call (.Attribute (.Name "ValueError" p1) "__init__" p2) (e :: es) [] pos) (tInitB X.K "ValueError" newId "ValueError.__init__" bm ta) := by
  refine ⟨fun pins s σ H Q I h => ?_⟩
  refine PySem.W.methodCall_KW (ld_blt I hg hm PyProof.Rows.Boot.«ValueError» ?_ (by decide) (by decide)) hc
  obtain ⟨m, fr⟩ := I.fr
  refine PySem.W.method_type fr I.ok.mod.kin (show typeOf (.type "ValueError") = pure (.type "type") by kernel_rfl) (by decide +kernel) vV (by decide +kernel) ?_
  show wpAny _ _ (callWith pos (Value.builtin "ValueError.__init__") [] (backTo pos (starEach (e :: es) X.env)) []) _ _ _
  refine PyProof.Rows.callWith_method1 (thn (ha.run pos pins _ σ H _ (I.tok _) h) fun us s1 ⟨vs, H1, I1, r1, a, C, ws, ev, few, T, ea, q⟩ => ?_) he hpl
  subst ev
  cases r1 with
  | @cons _ u0 _ ur ra rw' =>
    obtain rfl : u0 = Value.ref a := ra
    exact init_B T I1 ea (by rw [← Paired.length rw', sizeLine_eq]; omega) fun s' J => ⟨.non, H1, J, rfl, q⟩
end
end Lp

namespace Lp
open PySem PySem.Spec PyProof.Rows L2
section
variable {X : Cx}
variable {x : Str} {C fI : Addr} {k : Nat} {fd : FuncData} {sp : Sp} {p pos : Pos} {B newId initId : String} {bm : List Value} {CX : CXT}
end
theorem truK {X : Cx} {K : PySem.W.Frag} {a : Expr} {ta : TE} (h : X.K = K) (x : PT X a (fun σ H Q => ta σ H fun x H' => ∃ k, TruV X.K x H' k ∧ Q k H')) : PT X a (fun σ H Q => ta σ H fun x H' => ∃ k, TruV K x H' k ∧ Q k H') := h ▸ x
end Lp

namespace Lp
open PySem PySem.Spec PyProof.Rows L2
def topS (i : Nat) : Stmt := PySem.Challenge.pw_lookpast_k97_other_sizes.main.body.getD i (.Pass ⟨0, 0, 0, 0⟩)
section
variable [Fns]
variable {P : Program} {w : World} {K : PySem.W.Frag} {mg : Str → Option Value} {base : Heap}
abbrev sTake : Stmt := topS 142
theorem scTake : FnScope ["_law_source", "_law_bound", "_law_found", "_law_once", "_law_twice"] ["_law_source", "_law_bound"] (defScope sTake) := ⟨rfl, rfl, rfl, by decide +kernel, rfl, by decide +kernel, by decide +kernel⟩
theorem ok_take {f : Addr} {fd : FuncData} {k : Nat} (F : Fun K "_law_draw" "_law_draw" sTake f fd) : FnOk P w K mg base CX0 (k + 1) f fd ["_law_source", "_law_bound"] spTake := by
  refine F.ok scTake (fun vs H Q E h => ?_) (fun cdv A outer s H vs Q E hr h => ?_)
  · obtain ⟨b, span, c, rfl, _⟩ := h
    rfl
  · obtain ⟨b, span, c, rfl, ⟨x0, x1, x2, hb, h0, h1, h2, h3, h4⟩, hc, hs1, hs2, q⟩ := h
    refine ⟨_, pss_cons (ps_if (pt_cmpR op_gt (pe_ix ix_list (pv 0) pe_int (fun _ _ => rfl)) pe_int (nomark _))
        (pss_cons (ps_set (i := 2) scTake.nd rfl (.inl rfl) (pe_op op_mod (pe_ix ix_list (pv 0) pe_int (fun _ _ => rfl)) (pv 1)))
        (pss_cons (ps_asg (pe_op op_fdiv (pe_ix ix_list (pv 0) pe_int (fun _ _ => rfl)) (pv 1)) (pg_sub (pv 0) pe_int set_list))
        (pss_one (ps_ret (pv 2))))) pss_nil)
      (pss_cons (ps_if (pt_cmpR op_gt (pv 1) (pe_op op_pow pe_int pe_int) (nomark _)) pss_never pss_nil)
      (pss_cons (ps_asg (pe_op op_add (pe_ix ix_list (pv 0) pe_int (fun _ _ => rfl)) pe_int) (pg_sub (pv 0) pe_int set_list))
      (pss_cons (ps_set (i := 3) scTake.nd rfl (.inl rfl) (pe_op op_mod (pe_op op_mul (pe_op op_add (pe_ix ix_list (pv 0) pe_int (fun _ _ => rfl)) (pe_op op_mul pe_int (pe_ix ix_list (pv 0) pe_int (fun _ _ => rfl)))) (pe_op op_add pe_int (pe_ix ix_list (pv 0) pe_int (fun _ _ => rfl)))) pe_int))
      (pss_cons (ps_set (i := 4) scTake.nd rfl (.inl rfl) (pe_op op_mod (pe_op op_mul (pe_op op_add (pe_op op_add (pv 3) (pe_ix ix_list (pv 0) pe_int (fun _ _ => rfl))) (pe_op op_fdiv (pe_ix ix_list (pv 0) pe_int (fun _ _ => rfl)) pe_int)) (pe_op op_add (pe_op op_mod (pv 3) pe_int) pe_int)) pe_int))
      (pss_one (ps_ret (pe_op op_mod (pe_op op_fdiv (pe_op op_mod (pe_op op_add (pe_op op_mul (pv 4) pe_int) (pv 3)) pe_int) pe_int) (pv 1)))))))), ?_⟩
    have ix : SqL K H b [.int x0, .int x1, .int x2] := SqL.of hb
    refine ⟨.ref b, rfl, b, _, 0, .int x0, rfl, rfl, ix, rfl, x0, 0, rfl, rfl, _, rfl, ite2 (fun e => ?_) (fun e => ?_)⟩
    · have e0 : 0 < x0 := of_decide_eq_true e
      refine ⟨.ref b, rfl, b, _, 0, .int x0, rfl, rfl, ix, rfl, .int span, rfl, x0, span, rfl, rfl, (by show (0 : Int) < span; omega), ?_⟩
      refine ⟨.ref b, rfl, b, _, 0, .int x0, rfl, rfl, ix, rfl, .int span, rfl, x0, span, rfl, rfl, ⟨by omega, by omega⟩, ?_⟩
      refine ⟨.ref b, rfl, b, _, 0, 0, rfl, rfl, hb, rfl, ?_⟩
      refine ⟨.int (x0 % span), rfl, q _ _ (Sb.upd (Sb.refl b H)) ⟨x0 / span, x1, x2, upd_same, ?_, h1, h2, h3, by omega⟩ (Int.emod_nonneg _ (by omega)) (Int.emod_lt_of_pos _ (by omega))⟩
      exact Int.ediv_nonneg h0 (by omega)
    · refine ⟨.int span, rfl, 10, 7, rfl, rfl, ⟨by decide, by decide, by decide⟩, span, _, rfl, rfl, _, rfl, ?_⟩
      have e1 : ¬ ((10 : Int) ^ (7 : Int).toNat < span) := by
        show ¬ ((10000000 : Int) < span)
        omega
      rw [decide_eq_false e1]
      refine iteF ?_
      refine ⟨.ref b, rfl, b, _, 2, .int x2, rfl, rfl, ix, rfl, x2, 1, rfl, rfl, ?_⟩
      refine ⟨.ref b, rfl, b, _, 2, 2, rfl, rfl, hb, rfl, ?_⟩
      have ix2 : SqL K (upd H b (.lst [.int x0, .int x1, .int (x2 + 1)])) b [.int x0, .int x1, .int (x2 + 1)] := SqL.of upd_same
      refine ⟨.ref b, rfl, b, _, 1, .int x1, rfl, rfl, ix2, rfl, .ref b, rfl, b, _, 2, .int (x2 + 1), rfl, rfl, ix2, rfl, 48271, x2 + 1, rfl, rfl, .inl ⟨by decide, by decide⟩, x1, _, rfl, rfl, .ref b, rfl, b, _, 2, .int (x2 + 1), rfl, rfl, ix2, rfl, 39373, x2 + 1, rfl, rfl, _, _, rfl, rfl, .inr ⟨by omega, by omega⟩, _, 2147483647, rfl, rfl, (by show (0 : Int) < 2147483647; decide), ?_⟩
      dsimp only
      generalize hg : (x1 + 48271 * (x2 + 1)) * (39373 + (x2 + 1)) % 2147483647 = once
      have o1 : 0 ≤ once := by rw [← hg]; exact Int.emod_nonneg _ (by decide)
      have o2 : once < 2147483647 := by rw [← hg]; exact Int.emod_lt_of_pos _ (by decide)
      refine ⟨.int once, rfl, .ref b, rfl, b, _, 2, .int (x2 + 1), rfl, rfl, ix2, rfl, once, x2 + 1, rfl, rfl, .ref b, rfl, b, _, 1, .int x1, rfl, rfl, ix2, rfl, x1, 1000003, rfl, rfl, ⟨by decide, by decide⟩, _, _, rfl, rfl, .int once, rfl, once, 40009, rfl, rfl, (by show (0 : Int) < 40009; decide), _, 7, rfl, rfl, _, _, rfl, rfl, .inr ⟨by omega, by omega⟩, _, 2147483629, rfl, rfl, (by show (0 : Int) < 2147483629; decide), ?_⟩
      dsimp only
      generalize hg2 : (once + (x2 + 1) + x1 / 1000003) * (once % 40009 + 7) % 2147483629 = twice
      refine ⟨.int twice, rfl, twice, 48271, rfl, rfl, .inr ⟨by decide, by decide⟩, .int once, rfl, _, once, rfl, rfl, _, 2147483587, rfl, rfl, (by show (0 : Int) < 2147483587; decide), _, 64, rfl, rfl, ⟨by decide, by decide⟩, .int span, rfl, _, span, rfl, rfl, (by show (0 : Int) < span; omega), ?_⟩
      exact q _ _ (Sb.upd (Sb.refl b H)) ⟨x0, x1, x2 + 1, upd_same, h0, h1, h2, by omega, by omega⟩ (Int.emod_nonneg _ (by omega)) (Int.emod_lt_of_pos _ (by omega))
theorem ok_takeB {f : Addr} {fd : FuncData} {k : Nat} (F : Fun K "_law_draw" "_law_draw" sTake f fd) (T : Cal P w K mg base "_law_draw" (k + 1) ["_law_source", "_law_bound"] spTake f fd) : FnOk P w K mg base CX0 (k + 2) f fd ["_law_source", "_law_bound"] spTakeB := by
  refine F.ok scTake (fun vs H Q E h => ?_) (fun cdv A outer s H vs Q E hr h => ?_)
  · obtain ⟨b, span, c, rfl, _⟩ := h
    rfl
  · obtain ⟨b, span, c, rfl, hB, hc, hs1, hs2, q⟩ := h
    obtain ⟨x0, x1, x2, hb, h0, h1, h2, h3, h4⟩ := id hB
    refine ⟨_, pss_cons (ps_if (pt_cmpR op_gt (pe_ix ix_list (pv 0) pe_int (fun _ _ => rfl)) pe_int (nomark _))
        (pss_cons (ps_set (i := 2) scTake.nd rfl (.inl rfl) (pe_op op_mod (pe_ix ix_list (pv 0) pe_int (fun _ _ => rfl)) (pv 1)))
        (pss_cons (ps_asg (pe_op op_fdivW (pe_ix ix_list (pv 0) pe_int (fun _ _ => rfl)) (pv 1)) (pg_sub (pv 0) pe_int set_list))
        (pss_one (ps_ret (pv 2))))) pss_nil)
      (pss_cons (ps_if (pt_cmpR op_gt (pv 1) (pe_op op_pow pe_int pe_int) (nomark _))
        (pss_one (ps_ret (pe_op op_mod (pe_op op_add (pe_call T.ok hr (by rfl) T.g T.kp T.bd .nil pass0 (pa_cons (pv 0) (pa_cons (pe_op op_pow pe_int pe_int) pa_nil))) (pe_op op_mul (pe_op op_pow pe_int pe_int) (pe_call T.ok hr (by rfl) T.g T.kp T.bd .nil pass0 (pa_cons (pv 0) (pa_cons (pe_op op_add (pe_op op_fdiv (pe_op op_sub (pv 1) pe_int) (pe_op op_pow pe_int pe_int)) pe_int) pa_nil))))) (pv 1)))) pss_nil)
      pss_never), ?_⟩
    have ix : SqL K H b [.int x0, .int x1, .int x2] := SqL.of hb
    refine ⟨.ref b, rfl, b, _, 0, .int x0, rfl, rfl, ix, rfl, x0, 0, rfl, rfl, _, rfl, ite2 (fun e => ?_) (fun e => ?_)⟩
    · have e0 : 0 < x0 := of_decide_eq_true e
      refine ⟨.ref b, rfl, b, _, 0, .int x0, rfl, rfl, ix, rfl, .int span, rfl, x0, span, rfl, rfl, (by show (0 : Int) < span; omega), ?_⟩
      refine ⟨.ref b, rfl, b, _, 0, .int x0, rfl, rfl, ix, rfl, .int span, rfl, x0, span, rfl, rfl, wide_div (b := 64) (by omega) (by omega) (by decide) (by decide), ?_⟩
      refine ⟨.ref b, rfl, b, _, 0, 0, rfl, rfl, hb, rfl, ?_⟩
      refine ⟨.int (x0 % span), rfl, q _ _ (Sb.upd (Sb.refl b H)) ⟨x0 / span, x1, x2, upd_same, ?_, h1, h2, h3, by omega⟩ (Int.emod_nonneg _ (by omega)) (Int.emod_lt_of_pos _ (by omega))⟩
      exact Int.ediv_nonneg h0 (by omega)
    · have p7 : (10 : Int) ^ (7 : Int).toNat = 10000000 := by decide
      refine ⟨.int span, rfl, 10, 7, rfl, rfl, ⟨by decide, by decide, by decide⟩, span, _, rfl, rfl, _, rfl, ?_⟩
      have e1 : (10 : Int) ^ (7 : Int).toNat < span := by rw [p7]; omega
      rw [decide_eq_true e1]
      refine iteT ?_
      refine ⟨.ref b, rfl, 10, 7, rfl, rfl, ⟨by decide, by decide, by decide⟩, b, _, c, rfl, hB, by omega, by decide, by decide, fun H1 r1 sb1 hB1 r10 r11 => ?_⟩
      refine ⟨10, 7, rfl, rfl, ⟨by decide, by decide, by decide⟩, .ref b, rfl, .int span, rfl, span, 1, rfl, rfl, 10, 7, rfl, rfl, ⟨by decide, by decide, by decide⟩, _, _, rfl, rfl, ⟨by decide, by decide⟩, _, 1, rfl, rfl, b, _, c + 1, rfl, hB1, by omega, ?_, ?_, fun H2 r2 sb2 hB2 r20 r21 => ?_⟩
      · show 1 ≤ (span - 1) / (10 : Int) ^ (7 : Int).toNat + 1
        rw [p7]; omega
      · show (span - 1) / (10 : Int) ^ (7 : Int).toNat + 1 ≤ 10000000
        rw [p7]; omega
      · refine ⟨_, r2, rfl, rfl, .inl ⟨by decide, by decide⟩, r1, _, rfl, rfl, .int span, rfl, _, span, rfl, rfl, (by show (0 : Int) < span; omega), ?_⟩
        exact q H2 _ (sb1.trans sb2) (hB2.le (by omega)) (Int.emod_nonneg _ (by omega)) (Int.emod_lt_of_pos _ (by omega))
theorem ok_takeW {f : Addr} {fd : FuncData} {k : Nat} (F : Fun K "_law_draw" "_law_draw" sTake f fd) (T : Cal P w K mg base "_law_draw" (k + 1) ["_law_source", "_law_bound"] spTake f fd) : FnOk P w K mg base CX0 (k + 2) f fd ["_law_source", "_law_bound"] spTakeW :=
  FnOk.imp (fn_or (ok_take F) (ok_takeB F T)) fun vs H Q E h => by
    obtain ⟨b, span, c, rfl, hB, hc, h1, h2, q⟩ := h
    by_cases hs : span ≤ 10000000
    · exact .inl ⟨b, span, c, rfl, hB, by omega, h1, hs, fun H' r sb hB' => q H' r sb (hB'.le (by omega))⟩
    · exact .inr ⟨b, span, c, rfl, hB, hc, by omega, h2, q⟩
abbrev sBox : Stmt := topS 141
theorem scBox : FnScope ["_law_script", "_law_k", "_law_cell"] ["_law_script", "_law_k"] (defScope sBox) := ⟨rfl, rfl, rfl, by decide +kernel, rfl, by decide +kernel, by decide +kernel⟩
theorem ok_box {f : Addr} {fd : FuncData} {k : Nat} (F : Fun K "_law_stream" "_law_stream" sBox f fd) (B : Bi mg) : FnOk P w K mg base CX0 (k + 1) f fd ["_law_script", "_law_k"] (spBox K) := by
  refine F.ok scBox (fun vs H Q E h => ?_) (fun cdv A outer s H vs Q E hr h => ?_)
  · obtain ⟨a, k, ns, rfl, _⟩ := h
    rfl
  · obtain ⟨a, k, ns, rfl, hS, h0, h1, q⟩ := h
    refine ⟨_, pss_cons (ps_set (i := 2) scBox.nd rfl (.inl rfl) pe_int)
      (pss_cons (ps_if (pt_cmpR op_lt (pv 1) (pe_callB call_len_seq (by rfl) B.len PySem.boot_len (pa_cons (pv 0) pa_nil)) (nomark _)) (pss_one (ps_set (i := 2) scBox.nd rfl (.inl rfl) (pe_ix ix_list (pv 0) (pv 1) (fun _ _ => rfl)))) pss_nil)
      (pss_one (ps_ret (pe_lst (pa_cons (pe_op op_mul (pe_callB call_abs (by rfl) B.abs (by decide +kernel) (pa_cons (pv 2) pa_nil)) (pe_callTy call_int1 (by rfl) B.int (by decide +kernel) (pa_cons (pe_cmpR op_ge (pe_callB call_abs (by rfl) B.abs (by decide +kernel) (pa_cons (pv 2) pa_nil)) (pe_op op_pow pe_int pe_int) (nomark _)) pa_nil)))
        (pa_cons (pe_op op_add (pe_op op_add (pe_op op_mod (pv 2) pe_int) (pe_op op_mul pe_int (pv 1))) pe_int) (pa_cons pe_int pa_nil))))))), ?_⟩
    have fin : ∀ z : Int, tRet (tLst (tCons (tOp (rI CMul fun i j => .int (i * j)) (tCB (fun xs H Q => ∃ i, xs = [.int i] ∧ Q (.int (if i < 0 then -i else i)) H) (tCons (tVar 2) tNil)) (tCB (fun xs H Q => (∃ i, xs = [.int i] ∧ Q (.int i) H) ∨ ∃ k, xs = [.bl k] ∧ Q (.int (if k then 1 else 0)) H) (tCons (tOp (rI0 fun i j => .bl (decide (j ≤ i))) (tCB (fun xs H Q => ∃ i, xs = [.int i] ∧ Q (.int (if i < 0 then -i else i)) H) (tCons (tVar 2) tNil)) (tOp (rI CPow fun i j => .int (i ^ j.toNat)) (tC (.int 10)) (tC (.int 18)))) tNil)))
        (tCons (tOp (rI0 fun i j => .int (i + j)) (tOp (rI0 fun i j => .int (i + j)) (tOp (rI (fun _ j => 0 < j) fun i j => .int (i % j)) (tVar 2) (tC (.int 2305843009213693951))) (tOp (rI CMul fun i j => .int (i * j)) (tC (.int 39373)) (tVar 1))) (tC (.int 29))) (tCons (tC (.int 0)) tNil)))) { nx := fun _ H' => Q .non H', rt := Q } [some (.ref a), some (.int k), some (.int z)] H := by
      intro z
      refine ⟨.int z, rfl, z, rfl, .int z, rfl, z, rfl, 10, 18, rfl, rfl, ⟨by decide, by decide, by decide⟩, _, _, rfl, rfl, .inr ⟨_, rfl, _, _, rfl, rfl, .inr ?_, ?_⟩⟩
      · split <;> (split <;> exact ⟨by decide, by decide⟩)
      · refine ⟨.int z, rfl, z, _, rfl, rfl, (by show (0 : Int) < 2305843009213693951; decide), .int k, rfl, 39373, k, rfl, rfl, .inl ⟨by decide, by decide⟩, _, _, rfl, rfl, _, 29, rfl, rfl, (by show 3 ≤ sizeLine; decide), fun p hp => ?_⟩
        refine q _ p (same_new hp) hp ⟨_, _, _, upd_same, ?_, ?_, ?_, by decide, by decide⟩
        · have h1 : (0 : Int) ≤ (if z < 0 then -z else z) := by split <;> omega
          refine Int.mul_nonneg h1 ?_
          split <;> (split <;> decide)
        · have := Int.emod_nonneg z (show (2305843009213693951 : Int) ≠ 0 by decide)
          omega
        · have := Int.emod_lt_of_pos z (show (0 : Int) < 2305843009213693951 by decide)
          omega
    refine ⟨.int k, rfl, .ref a, rfl, a, _, rfl, .inl hS, k, _, rfl, rfl, _, rfl, ite2 (fun e => ?_) (fun e => ?_)⟩
    · have e1 : k < ((IL ns).length : Int) := of_decide_eq_true e
      rw [List.length_map] at e1
      obtain ⟨z, hz⟩ := at_lt h0 e1
      refine ⟨.ref a, rfl, .int k, rfl, a, _, k, .int z, rfl, rfl, hS, hz, ?_⟩
      exact fin z
    · exact fin 0
abbrev sCells : Stmt := topS 143
theorem scCells : FnScope ["_law_script", "_law_most", "_law_cells", "_law_k", "_law_cell"] ["_law_script", "_law_most"] (defScope sCells) := ⟨rfl, rfl, rfl, by decide +kernel, rfl, by decide +kernel, by decide +kernel⟩
theorem ok_cells {f : Addr} {fd : FuncData} {k : Nat} (F : Fun K "_law_folded" "_law_folded" sCells f fd) (B : Bi mg) : FnOk P w K mg base CX0 (k + 1) f fd ["_law_script", "_law_most"] (spCells K) := by
  refine F.ok scCells (fun vs H Q E h => ?_) (fun cdv A outer s H vs Q E hr h => ?_)
  · obtain ⟨a, m, ns, rfl, _⟩ := h
    rfl
  · obtain ⟨a, m, ns, rfl, hS, m1, m2, q⟩ := h
    refine ⟨_, pss_cons (ps_set (i := 2) scCells.nd rfl (.inl rfl) (pe_orT (pe_callTy call_list_of (by rfl) B.list (by decide +kernel) (pa_cons (pe_slice sl_list (pv 0) po_none (po_some (pv 1))) pa_nil)) (pe_one (pe_lst (pa_cons pe_int pa_nil)))))
      (pss_cons (ps_for PassesOwn.never rfl (pi_enum (by rfl) B.enumerate (pa_cons (pe_slice sl_list (pv 0) (po_some (pv 1)) (po_some pe_int)) pa_nil))
          (pg_tup rfl (pgs_cons (pg_name (i := 3) scCells.nd rfl (.inl rfl)) (pgs_cons (pg_name (i := 4) scCells.nd rfl (.inl rfl)) pgs_nil)))
        (pss_one (ps_asg (pe_op op_add (pe_ix ix_list (pv 2) (pe_op op_mod (pv 3) (pv 1)) (fun _ _ => rfl)) (pe_op op_mul (pv 4) (pe_op op_add (pv 3) pe_int))) (pg_sub (pv 2) (pe_op op_mod (pv 3) (pv 1)) set_list))))
      (pss_one (ps_ret (pv 2)))), ?_⟩
    refine ⟨.ref a, rfl, .int m, rfl, m, rfl, a, _, rfl, hS, fun c nc => ?_⟩
    rw [cut_IL]
    generalize hms : (ns.drop (HT.sIx ns.length 0 none)).take (HT.sIx ns.length ns.length (some m) - HT.sIx ns.length 0 none) = ms0
    have hl0 : ms0.length = min m.toNat ns.length := by
      rw [← hms, List.length_take, List.length_drop, HT.sIx_none, sIx_int _ _ _ (by omega)]
      omega
    have s1 := same_new (o := HO.lst (IL ms0)) nc
    refine ⟨c, _, rfl, .inl (SqL.of upd_same), fun o no => ?_⟩
    have s2 := s1.trans (same_new (o := HO.lst (IL ms0)) no)
    have n0 : H o = none := s1.free no
    have go : ∀ (ms1 : List Int) (o : Addr) (H2 : Hp), Same H H2 → H o = none → H2 o = some (.lst (IL ms1)) → 1 ≤ ms1.length → (ms1.length : Int) ≤ m → (m.toNat < ns.length → (ms1.length : Int) = m) →
        tSeq (tFor (iEnum K (tCons (tSl (rSlL K) (tVar 0) (tPart (tVar 1)) (tPart (tC (.int 63)))) tNil)) (gTup K 2 (gCons (gName 3) (gCons (gName 4) gNil))) (tAsg (tOp (rI0 fun i j => .int (i + j)) (tOp (rIxL K) (tVar 2) (tOp (rI (fun _ j => 0 < j) fun i j => .int (i % j)) (tVar 3) (tVar 1))) (tOp (rI CMul fun i j => .int (i * j)) (tVar 4) (tOp (rI0 fun i j => .int (i + j)) (tVar 3) (tC (.int 2))))) (gSub (tVar 2) (tOp (rI (fun _ j => 0 < j) fun i j => .int (i % j)) (tVar 3) (tVar 1)) rSetL))) (tRet (tVar 2))
          { nx := fun _ H' => Q .non H', rt := Q } [some (.ref a), some (.int m), some (.ref o), none, none] H2 := by
      intro ms1 o H2 s2 n0 ho2 l1 l2 l3
      refine ⟨.ref a, rfl, .int m, rfl, m, rfl, 63, rfl, a, _, rfl, s2.seq hS, fun e ne => ?_⟩
      rw [cut_IL]
      generalize hes : (ns.drop (HT.sIx ns.length 0 (some m))).take (HT.sIx ns.length ns.length (some 63) - HT.sIx ns.length 0 (some m)) = es
      have hle : 0 < es.length → m.toNat < ns.length := by
        rw [← hes, List.length_take, List.length_drop, sIx_int _ _ m (by omega), sIx_int _ _ 63 (by omega)]
        omega
      have nee : o ≠ e := ne_of_none ho2 ne
      have s3 := s2.trans (same_new (o := HO.lst (IL es)) ne)
      refine ⟨e, _, rfl, SqL.of upd_same, ?_⟩
      refine for_it (walk_enum (K := K) (a := e) (xs := IL es)) (fun _ σ H3 => ∃ y3 y4 ms, σ = [some (.ref a), some (.int m), some (.ref o), y3, y4] ∧ Same H H3 ∧ H3 e = some (.lst (IL es)) ∧ H3 o = some (.lst (IL ms)) ∧ ms.length = ms1.length) ?_ ?_ ?_ ?_
      · refine ⟨none, none, ms1, rfl, s3, upd_same, ?_, rfl⟩
        rw [upd_ne nee]; exact ho2
      · rintro i σ H3 _ ⟨y3, y4, ms, rfl, _, he, _⟩
        exact SqL.of he
      · rintro i x σ H3 H4 hi ⟨y3, y4, ms, rfl, sm, he, ho, hl⟩ ⟨T, x1, x2, rfl, nT, rfl, hx1, hx2⟩
        cases hx1
        have hi' : i < es.length := by rw [List.length_map] at hi; exact hi
        have hx2' : x2 = .int es[i] := IL_at hx2 hi'
        subst hx2'
        have hml : (ms.length : Int) = m := by have := l3 (hle (by omega)); omega
        have ho' : (upd H3 T (.tup [.int (i : Nat), .int es[i]])) o = some (.lst (IL ms)) := by rw [upd_ne (ne_of_none ho nT)]; exact ho
        have r0 : 0 ≤ (i : Int) % m := Int.emod_nonneg _ (by omega)
        have r1 : (i : Int) % m < (ms.length : Int) := by rw [hml]; exact Int.emod_lt_of_pos _ (by omega)
        obtain ⟨z, hz⟩ := at_lt r0 r1
        refine ⟨T, _, rfl, SqT.of upd_same, rfl, _, _, rfl, _, _, rfl, rfl, ?_⟩
        refine ⟨.ref o, rfl, .int i, rfl, .int m, rfl, i, m, rfl, rfl, (by show (0 : Int) < m; omega), o, _, _, .int z, rfl, rfl, SqL.of ho', hz, .int es[i], rfl, .int i, rfl, i, 2, rfl, rfl, es[i], _, rfl, rfl, .inr ⟨by omega, ?_⟩, z, _, rfl, rfl, ?_⟩
        · show (i : Int) + 2 < 2 ^ 64
          have : (es.length : Int) ≤ 63 := by
            have : es.length ≤ 63 := by rw [← hes, List.length_take, List.length_drop, sIx_int _ _ m (by omega), sIx_int _ _ 63 (by omega)]; omega
            omega
          omega
        · refine ⟨.ref o, rfl, .int i, rfl, .int m, rfl, i, m, rfl, rfl, (by show (0 : Int) < m; omega), o, _, _, ((i : Int) % m).toNat, rfl, rfl, ho', ?_, ?_⟩
          · rw [List.length_map]; exact ixN_ok r0 r1
          · rw [IL_set]
            refine ⟨_, _, _, rfl, ?_, ?_, upd_same, ?_⟩
            · exact same_mut (sm.trans (same_new nT)) n0
            · rw [upd_ne (Ne.symm nee), upd_ne (ne_of_none he nT)]; exact he
            · rw [List.length_set]; exact hl
      · rintro σ H3 ⟨y3, y4, ms, rfl, sm, he, ho, hl⟩
        exact ⟨.ref o, rfl, q _ o ms sm n0 ho (by omega) (by omega)⟩
    refine ⟨!(IL ms0).isEmpty, .inl ⟨_, SqL.of upd_same, rfl⟩, ?_⟩
    cases ms0 with
    | nil =>
      refine iteF ⟨by show 1 ≤ sizeLine; decide, fun p np => ?_⟩
      refine go [0] p _ (s2.trans (same_new np)) (s2.free np) upd_same (by decide) (by show (1 : Int) ≤ m; omega) (fun h => ?_)
      have : ([] : List Int).length = 0 := rfl
      omega
    | cons x r =>
      refine iteT (go (x :: r) o _ s2 n0 upd_same (by show 1 ≤ r.length + 1; omega) (by omega) (fun h => ?_))
      omega
abbrev s_kept : Stmt := topS 2
abbrev n_kept : List Str := ["value"]
theorem sc_kept : FnScope n_kept ["value"] (defScope s_kept) := ⟨rfl, rfl, rfl, by decide +kernel, rfl, by decide +kernel, by decide +kernel⟩
def spKept : Sp := fun vs H Q _ => ∃ v, vs = [v] ∧ okv H v ∧ Q v H
theorem okX_kept {f : Addr} {fd : FuncData} (F : Fun K "kept" "kept" s_kept f fd) (B : Bi mg) : FnOk P w K mg base CX0 1 f fd ["value"] spKept := by
  refine Fun.ok (k := 0) F sc_kept (fun vs H Q E h => ?_) (fun cdv A outer s H vs Q E hr h => ?_)
  · obtain ⟨v, rfl, _⟩ := h
    rfl
  · obtain ⟨v, rfl, ov, q⟩ := h
    refine ⟨_, (pss_one (ps_ret (pe_ifExp (pt_truth (pe_callB (isiK (K := K) rfl) (by rfl) B.isinstance (by decide +kernel) (pa_cons (pv 0) (pa_cons (pe_bltn (v := .ty "list") (by rfl) B.list (by decide +kernel) rfl) pa_nil))) (by intro _; rfl)) (pe_callTy (tupleK (K := K) rfl) (by rfl) B.tuple (by decide +kernel) (pa_cons (pv 0) pa_nil)) (pv 0)))), ?_⟩
    refine ⟨v, rfl, ?_⟩
    rcases ov with ⟨i, rfl⟩ | ⟨p, xs, rfl, o, _, e⟩
    · exact ⟨.int i, .ty "list", .type "int", .type "list", false, rfl, .ty "list", .inl (.base (.int i)), kit_ty (show kitB "int" "list" = some false by decide +kernel), false, rfl, ⟨.int i, rfl, q⟩⟩
    · exact ⟨.ref p, .ty "list", .type "tuple", .type "list", false, rfl, .ty "list", .inl (.fTuple e), kit_ty (show kitB "tuple" "list" = some false by decide +kernel), false, rfl, ⟨.ref p, rfl, q⟩⟩
abbrev s_init_OtherSize : Stmt := match topS 4 with
  | .ClassDef _ _ _ (b :: _) _ _ _ _ _ _ _ => b
  | _ => .Pass ⟨0, 0, 0, 0⟩
theorem sc_init_OtherSize : FnScope ["self", "size"] ["self", "size"] (defScope s_init_OtherSize) := ⟨rfl, rfl, rfl, by decide +kernel, rfl, by decide +kernel, by decide +kernel⟩
theorem ok_init_OtherSize {f C : Addr} {fd : FuncData} (F : Fun K "__init__" "OtherSize.__init__" s_init_OtherSize f fd) (B : Bi mg) (hR : mg "ValueError" = none) (vR : PySem.W.findCls K (.type "ValueError") (.type "type") "__init__" = some (.val (.builtin "ValueError.__init__")))
    (T : OexB K C "ValueError" "ValueError.__new__" "ValueError.__init__" bm_ValueError) (no : PySem.W.findIn K (.ref C) "size" = some none)  : FnOk P w K mg base CX0 1 f fd ["self", "size"] (spI K C "size") := by
  refine Fun.ok (k := 0) F sc_init_OtherSize (fun vs H Q E h => ?_) (fun cdv A outer s H vs Q E hr h => ?_)
  · obtain ⟨a, v, rfl, _⟩ := h
    rfl
  · obtain ⟨a, v, rfl, ea, ov, q⟩ := h
    refine ⟨_, pss_cons (ps_expr (pe_initValueError (bm := bm_ValueError) (newId := "ValueError.__new__") (by rfl) hR vR (pa_cons (pv 0) (pa_cons pe_str pa_nil))))
      (pss_one (ps_storeB (B := "ValueError") (newId := "ValueError.__new__") (initId := "ValueError.__init__") (bm := bm_ValueError) (pv 0) (pv 1))), ?_⟩
    refine ⟨.ref a, rfl, a, C, [_], rfl, by simp, T, ea, ?_⟩
    refine ⟨v, rfl, ?_⟩
    exact ⟨.ref a, rfl, a, C, rfl, T, no, ea, fun dx n ne => q dx n ne⟩
abbrev s_ci_init : Stmt := inClass (topS 73) 0
abbrev s_ci_act : Stmt := inClass (topS 73) 1
abbrev s_ci_become : Stmt := inClass (topS 73) 5
abbrev s_ci_state : Stmt := inClass (topS 73) 11
theorem sc_ci_init : FnScope ["self", "state"] ["self", "state"] (defScope s_ci_init) := ⟨rfl, rfl, rfl, by decide +kernel, rfl, by decide +kernel, by decide +kernel⟩
theorem ok_ci_init {f C : Addr} {fd : FuncData} (F : Fun K "__init__" "Circle.__init__" s_ci_init f fd) (B : Bi mg) (T : CirT K C) : FnOk P w K mg base CX0 1 f fd ["self", "state"] (spCI C) := by
  refine Fun.ok (k := 0) F sc_ci_init (fun vs H Q E h => ?_) (fun cdv A outer s H vs Q E hr h => ?_)
  · obtain ⟨x, dx, p, xs, rfl, _⟩ := h
    rfl
  · obtain ⟨x, dx, p, xs, rfl, hx, hp, q⟩ := h
    refine ⟨_, pss_cons (ps_fld (pv 0) (pe_lst (pa_cons (pe_callTy (tupleK (K := K) rfl) (by rfl) B.tuple (by decide +kernel) (pa_cons (pv 1) pa_nil)) pa_nil)) rfl) (pss_one (ps_fld (pv 0) (pe_lst pa_nil) rfl)), ?_⟩
    refine ⟨.ref p, rfl, p, xs, rfl, .inr ⟨hp.seq, (by decide : 1 ≤ sizeLine), fun la nla => ?_⟩⟩
    have lx : x ≠ la := ne_of_none hx nla
    refine ⟨.ref x, rfl, x, C, dx, [], rfl, (by rw [upd_ne lx]; exact hx), T.cl, T.nA, (by show 0 < 1000; decide), Nat.zero_le _, fun le nle => ?_⟩
    have ex : x ≠ le := fun z => by rw [← z, upd_same] at nle; cases nle
    exact ⟨.ref x, rfl, x, C, dx, _, rfl, (by rw [upd_ne ex, upd_same]), T.cl, T.nE, (by show 1 < 1000; decide), q la nla le nle⟩
theorem sc_ci_state : FnScope ["self"] ["self"] (defScope s_ci_state) := ⟨rfl, rfl, rfl, by decide +kernel, rfl, by decide +kernel, by decide +kernel⟩
theorem ok_ci_state {f C : Addr} {fd : FuncData} (F : Fun K "state" "Circle.state" s_ci_state f fd) (T : CirT K C) (hC : FN "Circle" = .ref C) : FnOk P w K mg base CX0 1 f fd ["self"] (spD 1 p_ci_state) := by
  refine Fun.ok (k := 0) F sc_ci_state (fun vs H Q E h => ?_) (fun cdv A outer s H vs Q E hr h => ?_)
  · obtain ⟨_, _, _, _, h, _⟩ := h
    exact h
  · obtain ⟨b, L, c, args, hn, z, ar, d, rfl, q⟩ := h
    cases ar with
    | cons a1 ar =>
      cases ar
      obtain ⟨C', e, a, dx, la, le, x, rfl, h1, h2, h3, h4⟩ := a1
      rw [hC] at e
      cases e
      refine ⟨_, pss_one (ps_ret (pe_ix (ixK (K := K) rfl) (pe_fld (pv 0) rfl) (pe_un un_neg pe_int) (fun _ _ => rfl))), ?_⟩
      refine ⟨.ref a, rfl, a, C, dx, _, .ref la, rfl, z.1 _ _ h1, T.cl, T.nA, cf_al, 1, rfl, ?_⟩
      exact .inl ⟨la, [x], -1, x, rfl, rfl, SqL.of (z.1 _ _ h2), rfl, q x L H z (Ext.refl _ _ _) h3⟩
abbrev n_ci_act : List Str := ["self", "name", "arguments", "deed", "before", "after", "result"]
theorem sc_ci_act : FnScope n_ci_act ((["self", "name"] : List Str) ++ (["arguments"] : List Str)) (defScope s_ci_act) := ⟨rfl, rfl, rfl, by decide +kernel, rfl, by decide +kernel, by decide +kernel⟩
theorem ok_ci_act {f C D fs : Addr} {fd fds : FuncData} {cl : Str → Option Addr} {k : Nat} (F : Fun K "act" "Circle.act" s_ci_act f fd) (gD : mg "DEEDS" = some (.ref D)) (p_state : CirP P w K mg base C "state" p_ci_state fs fds) (hk : 1 ≤ k) (hC : FN "Circle" = .ref C) :
    FnR P w K mg base (L2.CX P w) (k + 1) f (spAct P w K mg base cl C D k) := by
  obtain ⟨oc, od, kV, doc, pm, an, cdv, ct, osl, rfl, lk, hcd⟩ := F.ex
  have T := p_state.T
  refine (StX.fn_star (k := k) (ps := ["self", "name"]) (pv := "arguments") (sp := spAct1 P w K mg base cl C D k) lk hcd sc_ci_act StX.cxUp (StX.bind_star2 (B := fun us => bindArgs (PySem.W.fnOf "act" "Circle.act" (defArgs s_ci_act) (defBody s_ci_act) (defScope s_ci_act) .none kV doc pm an cdv ct) ⟨us, []⟩) (p1 := "self") (p2 := "name") (pv := "arguments") (fun _ _ => rfl) (fun _ _ _ _ => rfl)) (fun A outer s H vs Q E hr h => ?_)).imp (fun vs H Q E h => act_imp h)
  obtain ⟨b, L, c, nm, n, G, d, v, p, rest, args, rfl, hp, ⟨f', fd', ps', kd, hn, ok, kp, bd⟩, hl, h5, z, cs, ar, mF, q⟩ := h
  obtain ⟨a, dx, la, le, x, rfl, h1, h2, h3, h4⟩ := cs
  refine ⟨_, pss_cons (ps_set (i := 3) sc_ci_act.nd rfl (by first | exact Or.inl rfl | exact Or.inr rfl) (pe_ix ix_kdict (pe_glob (v := .ref D) (by rfl) gD rfl) (pv 1) (fun _ _ => rfl)))
    (pss_cons (ps_set (i := 4) sc_ci_act.nd rfl (by first | exact Or.inl rfl | exact Or.inr rfl) (pe_meth0 (pv 0) T.cl p_state.mt p_state.ok (hr.mono hk) p_state.bd .nil pass0))
    (pss_cons (ps_asg (pe_deed (i := 3) rfl (by first | exact Or.inl rfl | exact Or.inr (Or.inl rfl) | exact Or.inr (Or.inr rfl)) (fun σ => passAt (takes_of rfl rfl rfl rfl) σ) (pa_cons (pv 4) (StX.pa_star (pv 2) pa_nil))) (pg_tup rfl (pgs_cons (pg_name (i := 5) sc_ci_act.nd rfl (by first | exact Or.inl rfl | exact Or.inr rfl)) (pgs_cons (pg_name (i := 6) sc_ci_act.nd rfl (by first | exact Or.inl rfl | exact Or.inr rfl)) pgs_nil))))
    pss_never)), ?_⟩
  refine ⟨.str nm, rfl, D, nm, .ref f', rfl, rfl, kd, ?_⟩
  refine ⟨.ref a, rfl, a, dx, _, rfl, z.1 _ _ h1, cf_no (by decide +kernel) (by decide +kernel), ?_⟩
  refine ⟨b, L, c, [.gen (cirG d)], rfl, z, .cons ⟨C, hC, a, dx, la, le, x, rfl, h1, h2, h3, h4⟩ .nil, d, rfl, fun v' L' H' z' e' r' => ?_⟩
  have hp' : H' p = some (.tup rest) := e'.hh _ _ hp (fun hb => by
    have := (z.2 p hb).2
    obtain ⟨_, _, _, e, _⟩ := this
    rw [hp] at e
    cases e)
  refine ⟨(f', spX cl n G), rfl, ⟨k, fd', ps', ok, hr, kp, bd⟩, v', rfl, .ref p, rfl, p, rest, rfl, .inl (SqT.of hp'), ?_⟩
  show spX cl n G (v' :: (rest ++ [])) H' _ _
  rw [List.append_nil]
  refine ⟨b, L', c, .sh d :: args, ?_, z', .cons r' (args_to e'.ll ar), mF _ _ _ _ _ _ (fun _ _ z => z.elim) (fun y c' q => ?_) q⟩
  · rw [List.length_cons]; exact hl
  · intro cls dd L2 H2 z2 e2 xr
    exact q cls dd L2 H2 z2 (e'.trans e2) xr
theorem sc_ci_become : FnScope ["self", "goal"] ["self", "goal"] (defScope s_ci_become) := ⟨rfl, rfl, rfl, by decide +kernel, rfl, by decide +kernel, by decide +kernel⟩
theorem ok_ci_become {f C D fA : Addr} {fd : FuncData} {cl : Str → Option Addr} {k : Nat} {G : DSpX} (F : Fun K "become" "Circle.become" s_ci_become f fd) (T : CirT K C) (ma : Meth K C "act" fA) (ac : FnR P w K mg base (L2.CX P w) (k + 1) fA (spAct P w K mg base cl C D k)) (dd : DeedAt P w K mg base cl D "become" 2 k G) (mG : MonX G) (hC : FN "Circle" = .ref C) :
    FnOk P w K mg base (L2.CX P w) (k + 2) f fd ["self", "goal"] (spX cl 2 (q_ci G)) := by
  refine Fun.okX (k := k + 1) F sc_ci_become (fun vs H Q E h => spX_len h) (fun cdv A outer s H vs Q E hr h => ?_)
  obtain ⟨b, L, c, args, hn, z, ar, d, rest, rfl, q⟩ := h
  obtain ⟨v1, v2, rfl⟩ : ∃ v1 v2, vs = [v1, v2] := by
    match vs, hn with
    | [v1, v2], _ => exact ⟨v1, v2, rfl⟩
  obtain ⟨a1, ar⟩ := args_cons ar
  obtain ⟨x2, rest, rfl, a2, ar⟩ := args_cons2 ar
  cases ar
  obtain ⟨C', e, cs⟩ := a1
  rw [hC] at e
  cases e
  have cs' := cs
  obtain ⟨a, dx, la, le, x, rfl, h1, _⟩ := cs'
  refine ⟨_, pss_one (ps_ret (pe_methRX (pv 0) T.cl ma ac hr (fun σ => passAt (takes_of rfl rfl rfl rfl) σ) (pa_cons pe_str (pa_cons (pv 1) pa_nil)))), ?_⟩
  exact ⟨.ref a, rfl, a, dx, _, rfl, z.1 _ _ h1, cf_no (by decide +kernel) (by decide +kernel), v2, rfl, b, L, c, "become", 2, G, d, .ref a, [v2], _, rfl, dd, rfl, by simp, z, cs, .cons a2 .nil, mG, q⟩
abbrev s_law_pick : Stmt := topS 144
abbrev n_law_pick : List Str := ["_law_source", "_law_some"]
theorem sc_law_pick : FnScope n_law_pick ["_law_source", "_law_some"] (defScope s_law_pick) := ⟨rfl, rfl, rfl, by decide +kernel, rfl, by decide +kernel, by decide +kernel⟩
theorem ok_law_pick {f : Addr} {fd : FuncData} (F : Fun K "_law_pick" "_law_pick" s_law_pick f fd) (B : Bi mg) {f_law_draw : Addr} {e_law_draw : FuncData} (c_law_draw : Cal P w K mg base "_law_draw" 2 ["_law_source", "_law_bound"] (spD 2 p_law_take) f_law_draw e_law_draw)    : FnOk P w K mg base CX0 3 f fd ["_law_source", "_law_some"] (spD 2 p_law_pick) := by
  refine okD (k := 2) F sc_law_pick rfl (fun cdv A outer s H E hr => ?_) m_law_pick
  exact ⟨_, (pss_one (ps_ret (pe_ix (ixK (K := K) rfl) (pv 1) (pe_call c_law_draw.ok (hr.mono (by decide)) (by rfl) c_law_draw.g c_law_draw.kp c_law_draw.bd .nil pass0 (pa_cons (pv 0) (pa_cons (pe_callB (lenK (K := K) rfl) (by rfl) B.len (by decide +kernel) (pa_cons (pv 1) pa_nil)) pa_nil))) (fun _ _ => rfl)))),
    (ss_ret (se_op r2_ix se_var (se_call mon_law_take (sa_cons se_var (sa_cons (se_cb rc_len (sa_cons se_var sa_nil)) sa_nil)))))⟩
abbrev s_law_same : Stmt := topS 145
abbrev n_law_same : List Str := ["_law_found", "_law_due", "_law_mine", "_law_its"]
theorem sc_law_same : FnScope n_law_same ["_law_found", "_law_due"] (defScope s_law_same) := ⟨rfl, rfl, rfl, by decide +kernel, rfl, by decide +kernel, by decide +kernel⟩
theorem ok_law_same {f : Addr} {fd : FuncData} (F : Fun K "_law_same" "_law_same" s_law_same f fd) (B : Bi mg) (g : mg "_law_same" = some (.ref f)) (bd : Binds K fd ["_law_found", "_law_due"] []) : ∀ d, FnOk P w K mg base CX0 (d + 1) f fd ["_law_found", "_law_due"] (spD 2 (p_law_same_3 d))
  | 0 => fn_none (spD_none fun args c Q ⟨a, b, _, _, h, _⟩ => by unfold dep at h; cases h)
  | d + 1 => by
    have c_law_same : Cal P w K mg base "_law_same" (d + 1) ["_law_found", "_law_due"] (spD 2 (p_law_same_3 d)) f fd := ⟨ok_law_same F B g bd d, g, F.kp, bd⟩
    refine okD (k := d + 1) F sc_law_same rfl (fun cdv A outer s H E hr => ?_) m_law_same_3
    exact ⟨_, (pss_cons (ps_if (pt_truth (pe_callB (isiTK (K := K) rfl) (by rfl) B.isinstance (by decide +kernel) (pa_cons (pv 1) (pa_cons (pe_tup (pa_cons (pe_bltn (v := .ty "list") (by rfl) B.list (by decide +kernel) rfl) (pa_cons (pe_bltn (v := .ty "tuple") (by rfl) B.tuple (by decide +kernel) rfl) pa_nil))) pa_nil))) (by intro _; rfl)) (pss_cons (ps_if (PW.pt (pw_or (pt_cmpR (neK (K := K) rfl hr.units) (pe_callB (isiK (K := K) rfl) (by rfl) B.isinstance (by decide +kernel) (pa_cons (pv 0) (pa_cons (pe_bltn (v := .ty "list") (by rfl) B.list (by decide +kernel) rfl) pa_nil))) (pe_callB (isiK (K := K) rfl) (by rfl) B.isinstance (by decide +kernel) (pa_cons (pv 1) (pa_cons (pe_bltn (v := .ty "list") (by rfl) B.list (by decide +kernel) rfl) pa_nil))) (nomark _)) (pw_or1 (pt_cmpR (neK (K := K) rfl hr.units) (pe_callB (isiK (K := K) rfl) (by rfl) B.isinstance (by decide +kernel) (pa_cons (pv 0) (pa_cons (pe_bltn (v := .ty "tuple") (by rfl) B.tuple (by decide +kernel) rfl) pa_nil))) (pe_callB (isiK (K := K) rfl) (by rfl) B.isinstance (by decide +kernel) (pa_cons (pv 1) (pa_cons (pe_bltn (v := .ty "tuple") (by rfl) B.tuple (by decide +kernel) rfl) pa_nil))) (nomark _))))) (pss_one (ps_ret pe_bl)) pss_nil)
      (pss_one (ps_ret (pe_and (pe_cmpR (eqK (K := K) rfl hr.units) (pe_callB (lenK (K := K) rfl) (by rfl) B.len (by decide +kernel) (pa_cons (pv 0) pa_nil)) (pe_callB (lenK (K := K) rfl) (by rfl) B.len (by decide +kernel) (pa_cons (pv 1) pa_nil)) (nomark _)) (pe_one (pe_callB (allK (K := K) rfl rfl) (by rfl) B.all (by decide +kernel) (pa_cons (pe_lc (own := [("_law_mine", 2), ("_law_its", 3)]) (by rfl) sc_law_same.nd (zipA (K := K) rfl (by rfl) B.zip (pa_cons (pv 0) (pa_cons (pv 1) pa_nil))) (blkOk_by (own := [("_law_mine", 2), ("_law_its", 3)]) (N := n_law_same) (sc := (defScope s_law_same)) (by decide +kernel)) (fun _ _ _ _ _ => (gtupK (K := K) rfl (pg_tup rfl (pgs_cons (pg_name (i := 2) sc_law_same.nd rfl (by first | exact Or.inl rfl | exact Or.inr rfl)) (pgs_cons (pg_name (i := 3) sc_law_same.nd rfl (by first | exact Or.inl rfl | exact Or.inr rfl)) pgs_nil))))) (fun _ _ _ _ _ => pts_nil) (fun _ _ _ _ _ => (pe_call c_law_same.ok hr (by rfl) c_law_same.g c_law_same.kp c_law_same.bd .nil pass0 (pa_cons (pv 2) (pa_cons (pv 3) pa_nil))))) pa_nil))))))) pss_nil)
      (pss_cons (ps_if (PW.pt (pw_or (pt_cmpR op_isN (pv 1) pe_non (nomark _)) (pw_or1 (pt_truth (pe_callB (isiTK (K := K) rfl) (by rfl) B.isinstance (by decide +kernel) (pa_cons (pv 1) (pa_cons (pe_tup (pa_cons (pe_bltn (v := .ty "bool") (by rfl) B.bool (by decide +kernel) rfl) (pa_cons (pe_bltn (v := .ty "str") (by rfl) B.str (by decide +kernel) rfl) pa_nil))) pa_nil))) (by intro _; rfl))))) (pss_one (ps_ret (pe_and (pe_cmpR (eqK (K := K) rfl hr.units) (pv 0) (pv 1) (nomark _)) (pe_and (pe_cmpR (eqK (K := K) rfl hr.units) (pe_callB (isiK (K := K) rfl) (by rfl) B.isinstance (by decide +kernel) (pa_cons (pv 0) (pa_cons (pe_bltn (v := .ty "bool") (by rfl) B.bool (by decide +kernel) rfl) pa_nil))) (pe_callB (isiK (K := K) rfl) (by rfl) B.isinstance (by decide +kernel) (pa_cons (pv 1) (pa_cons (pe_bltn (v := .ty "bool") (by rfl) B.bool (by decide +kernel) rfl) pa_nil))) (nomark _)) (pe_one (pe_cmpR (eqK (K := K) rfl hr.units) (pe_cmpR op_isN (pv 0) pe_non (nomark _)) (pe_cmpR op_isN (pv 1) pe_non (nomark _)) (nomark _))))))) pss_nil)
      (pss_one (ps_ret (pe_and (pe_callB (isiK (K := K) rfl) (by rfl) B.isinstance (by decide +kernel) (pa_cons (pv 0) (pa_cons (pe_bltn (v := .ty "int") (by rfl) B.int (by decide +kernel) rfl) pa_nil))) (pe_and (pe_not (pe_callB (isiK (K := K) rfl) (by rfl) B.isinstance (by decide +kernel) (pa_cons (pv 0) (pa_cons (pe_bltn (v := .ty "bool") (by rfl) B.bool (by decide +kernel) rfl) pa_nil)))) (pe_one (pe_cmpR (eqK (K := K) rfl hr.units) (pv 0) (pv 1) (nomark _))))))))),
      (ss_seq (ss_if (st_truth (se_isi2 (.inr (.inr (.inr (.inl rfl)))) (.inr (.inr (.inr (.inr rfl)))) se_var)) (ss_seq (ss_if (st_or (st_test (se_op r2_ne (se_isi (.inr (.inr (.inr (.inl rfl)))) se_var) (se_isi (.inr (.inr (.inr (.inl rfl)))) se_var))) (st_test (se_op r2_ne (se_isi (.inr (.inr (.inr (.inr rfl)))) se_var) (se_isi (.inr (.inr (.inr (.inr rfl)))) se_var)))) (ss_ret se_bl) ss_next)
      (ss_ret (se_andV (se_op r2_eq (se_cb rc_len (sa_cons se_var sa_nil)) (se_cb rc_len (sa_cons se_var sa_nil))) (se_cb rc_all (sa_cons (se_lc (si_zip (sa_cons se_var (sa_cons se_var sa_nil))) (sg_tup (sgs_cons sg_name (sgs_cons sg_name sgs_nil))) st_yes (se_call (mon_law_same_3 d) (sa_cons se_var (sa_cons se_var sa_nil)))) sa_nil))))) ss_next)
      (ss_seq (ss_if (st_or (st_test (se_op r2_isN se_var se_non)) (st_truth (se_isi2 (.inr (.inl rfl)) (.inr (.inr (.inl rfl))) se_var))) (ss_ret (se_andV (se_op r2_eq se_var se_var) (se_andV (se_op r2_eq (se_isi (.inr (.inl rfl)) se_var) (se_isi (.inr (.inl rfl)) se_var)) (se_op r2_eq (se_op r2_isN se_var se_non) (se_op r2_isN se_var se_non))))) ss_next)
      (ss_ret (se_andV (se_isi (.inl rfl) se_var) (se_andV (se_notV (se_isi (.inr (.inl rfl)) se_var)) (se_op r2_eq se_var se_var))))))⟩
abbrev s_law_shuffled : Stmt := topS 146
abbrev n_law_shuffled : List Str := ["_law_source", "_law_some", "_law_left", "_law_found"]
theorem sc_law_shuffled : FnScope n_law_shuffled ["_law_source", "_law_some"] (defScope s_law_shuffled) := ⟨rfl, rfl, rfl, by decide +kernel, rfl, by decide +kernel, by decide +kernel⟩
theorem ok_law_shuffled {f : Addr} {fd : FuncData} (F : Fun K "_law_shuffled" "_law_shuffled" s_law_shuffled f fd) (B : Bi mg) {f_law_draw : Addr} {e_law_draw : FuncData} (c_law_draw : Cal P w K mg base "_law_draw" 2 ["_law_source", "_law_bound"] (spD 2 p_law_take) f_law_draw e_law_draw)    : FnOk P w K mg base CX0 3 f fd ["_law_source", "_law_some"] (spD 2 p_law_strewn_2) := by
  refine okD (k := 2) F sc_law_shuffled rfl (fun cdv A outer s H E hr => ?_) m_law_strewn_2
  exact ⟨_, (pss_cons (ps_par (i := 2) (j := 3) (by rfl) sc_law_shuffled.nd rfl rfl (by decide) rfl rfl (pa_cons (pe_callTy (listK (K := K) rfl) (by rfl) B.list (by decide +kernel) (pa_cons (pv 1) pa_nil)) (pa_cons (pe_lst pa_nil) pa_nil)) (by rfl))
      (pss_cons (ps_while PassesOwn.never (pt_cmpR (neK (K := K) rfl hr.units) (pv 2) (pe_lst pa_nil) (nomark _)) (pss_one (ps_expr (bmK (K := K) rfl (pe_bm PySem.F.plainAttrs_list PySem.F.slot_list_append PySem.F.type_list_append mt_append (pv 3) (pa_cons (bmK (K := K) rfl (pe_bm PySem.F.plainAttrs_list PySem.F.slot_list_pop PySem.F.type_list_pop mt_popAt (pv 2) (pa_cons (pe_call c_law_draw.ok (hr.mono (by decide)) (by rfl) c_law_draw.g c_law_draw.kp c_law_draw.bd .nil pass0 (pa_cons (pv 0) (pa_cons (pe_callB (lenK (K := K) rfl) (by rfl) B.len (by decide +kernel) (pa_cons (pv 2) pa_nil)) pa_nil))) pa_nil))) pa_nil))))))
      (pss_one (ps_ret (pv 3))))),
    (ss_seq (ss_par (se_cb rc_list (sa_cons se_var sa_nil)) (se_lst sa_nil))
      (ss_seq (ss_while (st_test (se_op r2_ne se_var (se_lst sa_nil))) (ss_appPop (by decide) (se_call mon_law_take (sa_cons se_var (sa_cons (se_cb rc_len (sa_cons se_var sa_nil)) sa_nil)))))
      (ss_ret se_var)))⟩
abbrev s_law_random_state : Stmt := topS 147
abbrev n_law_random_state : List Str := ["_law_source", "_law_size", "_law_order", "_law_kind", "_law_spot", "_law_found", "_law_half", "_law_at", "_law_some"]
theorem sc_law_random_state : FnScope n_law_random_state ["_law_source", "_law_size"] (defScope s_law_random_state) := ⟨rfl, rfl, rfl, by decide +kernel, rfl, by decide +kernel, by decide +kernel⟩
theorem ok_law_random_state {f : Addr} {fd : FuncData} (F : Fun K "_law_random_state" "_law_random_state" s_law_random_state f fd) (B : Bi mg) {f_law_shuffled : Addr} {e_law_shuffled : FuncData} (c_law_shuffled : Cal P w K mg base "_law_shuffled" 3 ["_law_source", "_law_some"] (spD 2 p_law_strewn_2) f_law_shuffled e_law_shuffled) {f_law_draw : Addr} {e_law_draw : FuncData} (c_law_draw : Cal P w K mg base "_law_draw" 2 ["_law_source", "_law_bound"] (spD 2 p_law_take) f_law_draw e_law_draw)    : FnOk P w K mg base CX0 4 f fd ["_law_source", "_law_size"] (spD 2 p_law_random_state) := by
  refine okD (k := 3) F sc_law_random_state rfl (fun cdv A outer s H E hr => ?_) m_law_random_state
  exact ⟨_, (pss_cons (ps_par (i := 2) (j := 3) (by rfl) sc_law_random_state.nd rfl rfl (by decide) rfl rfl (pa_cons (pe_call c_law_shuffled.ok (hr.mono (by decide)) (by rfl) c_law_shuffled.g c_law_shuffled.kp c_law_shuffled.bd .nil pass0 (pa_cons (pv 0) (pa_cons (pe_listRg rfl (by rfl) B.list (prg_1 (by rfl) B.range (pv 1))) pa_nil))) (pa_cons (pe_call c_law_draw.ok (hr.mono (by decide)) (by rfl) c_law_draw.g c_law_draw.kp c_law_draw.bd .nil pass0 (pa_cons (pv 0) (pa_cons pe_int pa_nil))) pa_nil)) (by rfl))
      (pss_cons (ps_if (pt_cmpR op_lt (pv 3) pe_int (nomark _)) (pss_one (ps_ret (pe_callTy (tupleK (K := K) rfl) (by rfl) B.tuple (by decide +kernel) (pa_cons (pe_lc (own := [("_law_spot", 4)]) (by rfl) sc_law_random_state.nd (seqK (K := K) rfl (pv 2)) (blkOk_by (own := [("_law_spot", 4)]) (N := n_law_random_state) (sc := (defScope s_law_random_state)) (by decide +kernel)) (fun _ _ _ _ _ => (pg_name (i := 4) sc_law_random_state.nd rfl (by first | exact Or.inl rfl | exact Or.inr rfl))) (fun _ _ _ _ _ => pts_nil) (fun _ _ _ _ _ => (pe_call c_law_draw.ok (hr.mono (by decide)) (by rfl) c_law_draw.g c_law_draw.kp c_law_draw.bd .nil pass0 (pa_cons (pv 0) (pa_cons (pv 1) pa_nil))))) pa_nil)))) pss_nil)
      (pss_cons (ps_if (pt_cmpR (eqK (K := K) rfl hr.units) (pv 3) pe_int (nomark _)) (pss_one (ps_ret (pe_callTy (tupleK (K := K) rfl) (by rfl) B.tuple (by decide +kernel) (pa_cons (pe_call c_law_shuffled.ok (hr.mono (by decide)) (by rfl) c_law_shuffled.g c_law_shuffled.kp c_law_shuffled.bd .nil pass0 (pa_cons (pv 0) (pa_cons (pv 2) pa_nil))) pa_nil)))) pss_nil)
      (pss_cons (ps_par (i := 5) (j := 6) (by rfl) sc_law_random_state.nd rfl rfl (by decide) rfl rfl (pa_cons (pe_op op_mulA (pe_lst (pa_cons pe_int pa_nil)) (pv 1)) (pa_cons (pe_callB (call_max2 rfl) (by rfl) B.max (by decide +kernel) (pa_cons pe_int (pa_cons (pe_op op_fdivW (pv 1) pe_int) pa_nil))) pa_nil)) (by rfl))
      (pss_cons (ps_for PassesOwn.never rfl (enumA2 (K := K) rfl (by rfl) B.enumerate (pa_cons (pv 2) pa_nil)) (gtupK (K := K) rfl (pg_tup rfl (pgs_cons (pg_name (i := 7) sc_law_random_state.nd rfl (by first | exact Or.inl rfl | exact Or.inr rfl)) (pgs_cons (pg_name (i := 4) sc_law_random_state.nd rfl (by first | exact Or.inl rfl | exact Or.inr rfl)) pgs_nil)))) (pss_cons (ps_set (i := 8) sc_law_random_state.nd rfl (by first | exact Or.inl rfl | exact Or.inr rfl) (pe_lst (pa_cons (pe_ix (ixK (K := K) rfl) (pv 2) (pe_op op_mod (pe_op (addK (K := K) rfl) (pv 7) pe_int) (pv 1)) (fun _ _ => rfl)) (pa_cons (pe_ix (ixK (K := K) rfl) (pv 2) (pe_callB (call_max2 rfl) (by rfl) B.max (by decide +kernel) (pa_cons pe_int (pa_cons (pe_op op_sub (pv 7) pe_int) pa_nil))) (fun _ _ => rfl)) (pa_cons (pe_ix (ixK (K := K) rfl) (pv 2) (pe_callB (call_max2 rfl) (by rfl) B.max (by decide +kernel) (pa_cons pe_int (pa_cons (pe_op op_sub (pe_op op_sub (pv 7) pe_int) (pe_call c_law_draw.ok (hr.mono (by decide)) (by rfl) c_law_draw.g c_law_draw.kp c_law_draw.bd .nil pass0 (pa_cons (pv 0) (pa_cons pe_int pa_nil)))) pa_nil))) (fun _ _ => rfl)) pa_nil)))))
      (pss_cons (ps_expr (bmK (K := K) rfl (pe_bm PySem.F.plainAttrs_list PySem.F.slot_list_append PySem.F.type_list_append mt_append (pv 8) (pa_cons (pe_ix (ixK (K := K) rfl) (pv 2) (pe_call c_law_draw.ok (hr.mono (by decide)) (by rfl) c_law_draw.g c_law_draw.kp c_law_draw.bd .nil pass0 (pa_cons (pv 0) (pa_cons (pe_op (addK (K := K) rfl) pe_int (pe_op op_fdivW (pv 1) pe_int)) pa_nil))) (fun _ _ => rfl)) pa_nil))))
      (pss_cons (ps_expr (bmK (K := K) rfl (pe_bm PySem.F.plainAttrs_list PySem.F.slot_list_append PySem.F.type_list_append mt_append (pv 8) (pa_cons (pe_ifExp (pt_cmpR op_lt (pv 7) (pv 6) (nomark _)) (pe_ix (ixK (K := K) rfl) (pv 2) (pe_op op_mod (pe_op (addK (K := K) rfl) (pv 7) pe_int) (pv 6)) (fun _ _ => rfl)) (pe_ix (ixK (K := K) rfl) (pv 2) (pe_call c_law_draw.ok (hr.mono (by decide)) (by rfl) c_law_draw.g c_law_draw.kp c_law_draw.bd .nil pass0 (pa_cons (pv 0) (pa_cons (pv 7) pa_nil))) (fun _ _ => rfl))) pa_nil))))
      (pss_one (ps_asg (pe_ix (ixK (K := K) rfl) (pv 8) (pe_op op_sub (pv 3) pe_int) (fun _ _ => rfl)) (pg_sub (pv 5) (pv 4) set_list)))))))
      (pss_one (ps_ret (pe_callTy (tupleK (K := K) rfl) (by rfl) B.tuple (by decide +kernel) (pa_cons (pv 5) pa_nil))))))))),
    (ss_seq (ss_par (se_call mon_law_strewn_2 (sa_cons se_var (sa_cons (se_listRg se_var) sa_nil))) (se_call mon_law_take (sa_cons se_var (sa_cons se_int sa_nil))))
      (ss_seq (ss_if (st_test (se_op r2_B se_var se_int)) (ss_ret (se_cb rc_tuple (sa_cons (se_lc (si_seq se_var) sg_name st_yes (se_call mon_law_take (sa_cons se_var (sa_cons se_var sa_nil)))) sa_nil))) ss_next)
      (ss_seq (ss_if (st_test (se_op r2_eq se_var se_int)) (ss_ret (se_cb rc_tuple (sa_cons (se_call mon_law_strewn_2 (sa_cons se_var (sa_cons se_var sa_nil))) sa_nil))) ss_next)
      (ss_seq (ss_par (se_op r2_mul (se_lst (sa_cons se_int sa_nil)) se_var) (se_cb rc_max (sa_cons se_int (sa_cons (se_op r2_C se_var se_int) sa_nil))))
      (ss_seq (ss_for (si_enA (sa_cons se_var sa_nil)) (sg_tup (sgs_cons sg_name (sgs_cons sg_name sgs_nil))) (ss_seq (ss_set true (se_lst (sa_cons (se_op r2_ix se_var (se_op r2_C (se_op r2_add se_var se_int) se_var)) (sa_cons (se_op r2_ix se_var (se_cb rc_max (sa_cons se_int (sa_cons (se_op r2_I se_var se_int) sa_nil)))) (sa_cons (se_op r2_ix se_var (se_cb rc_max (sa_cons se_int (sa_cons (se_op r2_I (se_op r2_I se_var se_int) (se_call mon_law_take (sa_cons se_var (sa_cons se_int sa_nil)))) sa_nil)))) sa_nil)))))
      (ss_seq (ss_append (se_op r2_ix se_var (se_call mon_law_take (sa_cons se_var (sa_cons (se_op r2_add se_int (se_op r2_C se_var se_int)) sa_nil)))))
      (ss_seq (ss_append (se_if (st_test (se_op r2_B se_var se_var)) (se_op r2_ix se_var (se_op r2_C (se_op r2_add se_var se_int) se_var)) (se_op r2_ix se_var (se_call mon_law_take (sa_cons se_var (sa_cons se_var sa_nil))))))
      (ss_setIx (se_op r2_ix se_var (se_op r2_I se_var se_int)) se_var)))))
      (ss_ret (se_cb rc_tuple (sa_cons se_var sa_nil))))))))⟩
abbrev s_check_size : Stmt := topS 36
abbrev n_check_size : List Str := ["state", "other"]
theorem sc_check_size : FnScope n_check_size ["state", "other"] (defScope s_check_size) := ⟨rfl, rfl, rfl, by decide +kernel, rfl, by decide +kernel, by decide +kernel⟩
theorem okx_check_size {f : Addr} {fd : FuncData} (F : Fun K "check_size" "check_size" s_check_size f fd) (B : Bi mg)   {C_OtherSize : Addr} (r_OtherSize : Ini P w K mg base "OtherSize" "size" C_OtherSize 1) (g_OtherSize : mg "OtherSize" = some (.ref C_OtherSize))  : FnOk P w K mg base (L2.CX P w) 3 f fd ["state", "other"] (spX (clT [("OtherSize", C_OtherSize)]) 2 q_check_sizeS) := by
  refine okDX (k := 2) (cl := (clT [("OtherSize", C_OtherSize)])) F sc_check_size rfl (fun cdv A outer s H E hr => ?_) mx_check_sizeS
  exact ⟨_, (pss_one (ps_if (pt_cmpR (neK (K := K) rfl hr.units) (pe_callB (lenK (K := K) rfl) (by rfl) B.len (by decide +kernel) (pa_cons (pv 1) pa_nil)) (pe_callB (lenK (K := K) rfl) (by rfl) B.len (by decide +kernel) (pa_cons (pv 0) pa_nil)) (nomark _)) (pss_one (ps_raise rfl (takes_of rfl rfl rfl rfl) (pmkI (K := K) rfl r_OtherSize g_OtherSize (hr.mono (by decide)) (by rfl) (pa_cons (pe_callB (lenK (K := K) rfl) (by rfl) B.len (by decide +kernel) (pa_cons (pv 1) pa_nil)) pa_nil)))) pss_nil)),
    fun P0 Ex => (ss_if (st_test (se_op r2_ne (se_cb rc_len (sa_cons se_var sa_nil)) (se_cb rc_len (sa_cons se_var sa_nil)))) (ss_raise (by rfl) (se_cb rc_len (sa_cons se_var sa_nil))) ss_next)⟩
abbrev s_pointers_for : Stmt := topS 138
abbrev n_pointers_for : List Str := ["state", "wish", "person", "target"]
theorem sc_pointers_for : FnScope n_pointers_for ["state", "wish", "person"] (defScope s_pointers_for) := ⟨rfl, rfl, rfl, by decide +kernel, rfl, by decide +kernel, by decide +kernel⟩
theorem okx_pointers_for {f : Addr} {fd : FuncData} (F : Fun K "pointers_for" "pointers_for" s_pointers_for f fd) (B : Bi mg)   {C_OtherSize : Addr} {fx_check_size : Addr} {ex_check_size : FuncData} (x_check_size : CalX P w K mg base (clT [("OtherSize", C_OtherSize)]) "check_size" 3 ["state", "other"] q_check_sizeS fx_check_size ex_check_size)  : FnOk P w K mg base (L2.CX P w) 4 f fd ["state", "wish", "person"] (spX (clT [("OtherSize", C_OtherSize)]) 3 q_pointers_forS) := by
  refine okDX (k := 3) (cl := (clT [("OtherSize", C_OtherSize)])) F sc_pointers_for rfl (fun cdv A outer s H E hr => ?_) mx_pointers_forS
  exact ⟨_, (pss_cons (ps_expr (pe_callS x_check_size.ok (hr.mono (by decide)) (by rfl) x_check_size.g x_check_size.kp x_check_size.bd (fun σ => passAt (takes_of rfl rfl rfl rfl) σ) (pa_cons (pv 0) (pa_cons (pv 1) pa_nil))))
      pss_never),
    fun P0 Ex => (ss_seq (ss_drop (se_callX monx_check_sizeS (sa_cons se_var (sa_cons se_var sa_nil))))
      ss_never)⟩
abbrev s_wish_obstacle : Stmt := topS 133
abbrev n_wish_obstacle : List Str := ["state", "wish"]
theorem sc_wish_obstacle : FnScope n_wish_obstacle ["state", "wish"] (defScope s_wish_obstacle) := ⟨rfl, rfl, rfl, by decide +kernel, rfl, by decide +kernel, by decide +kernel⟩
theorem okx_wish_obstacle {f : Addr} {fd : FuncData} (F : Fun K "wish_obstacle" "wish_obstacle" s_wish_obstacle f fd) (B : Bi mg)   {C_OtherSize : Addr} {fx_check_size : Addr} {ex_check_size : FuncData} (x_check_size : CalX P w K mg base (clT [("OtherSize", C_OtherSize)]) "check_size" 3 ["state", "other"] q_check_sizeS fx_check_size ex_check_size)  : FnOk P w K mg base (L2.CX P w) 4 f fd ["state", "wish"] (spX (clT [("OtherSize", C_OtherSize)]) 2 q_wish_obstacleS) := by
  refine okDX (k := 3) (cl := (clT [("OtherSize", C_OtherSize)])) F sc_wish_obstacle rfl (fun cdv A outer s H E hr => ?_) mx_wish_obstacleS
  exact ⟨_, (pss_cons (ps_expr (pe_callS x_check_size.ok (hr.mono (by decide)) (by rfl) x_check_size.g x_check_size.kp x_check_size.bd (fun σ => passAt (takes_of rfl rfl rfl rfl) σ) (pa_cons (pv 0) (pa_cons (pv 1) pa_nil))))
      pss_never),
    fun P0 Ex => (ss_seq (ss_drop (se_callX monx_check_sizeS (sa_cons se_var (sa_cons se_var sa_nil))))
      ss_never)⟩
abbrev s_check_wish : Stmt := topS 134
abbrev n_check_wish : List Str := ["state", "wish", "found"]
theorem sc_check_wish : FnScope n_check_wish ["state", "wish"] (defScope s_check_wish) := ⟨rfl, rfl, rfl, by decide +kernel, rfl, by decide +kernel, by decide +kernel⟩
theorem okx_check_wish {f : Addr} {fd : FuncData} (F : Fun K "check_wish" "check_wish" s_check_wish f fd) (B : Bi mg)   {C_OtherSize : Addr} {fx_wish_obstacle : Addr} {ex_wish_obstacle : FuncData} (x_wish_obstacle : CalX P w K mg base (clT [("OtherSize", C_OtherSize)]) "wish_obstacle" 4 ["state", "wish"] q_wish_obstacleS fx_wish_obstacle ex_wish_obstacle)  : FnOk P w K mg base (L2.CX P w) 5 f fd ["state", "wish"] (spX (clT [("OtherSize", C_OtherSize)]) 2 q_check_wishS) := by
  refine okDX (k := 4) (cl := (clT [("OtherSize", C_OtherSize)])) F sc_check_wish rfl (fun cdv A outer s H E hr => ?_) mx_check_wishS
  exact ⟨_, (pss_cons (ps_set (i := 2) sc_check_wish.nd rfl (by first | exact Or.inl rfl | exact Or.inr rfl) (pe_callS x_wish_obstacle.ok (hr.mono (by decide)) (by rfl) x_wish_obstacle.g x_wish_obstacle.kp x_wish_obstacle.bd (fun σ => passAt (takes_of rfl rfl rfl rfl) σ) (pa_cons (pv 0) (pa_cons (pv 1) pa_nil))))
      pss_never),
    fun P0 Ex => (ss_seq (ss_set false (se_callX monx_wish_obstacleS (sa_cons se_var (sa_cons se_var sa_nil))))
      ss_never)⟩
abbrev s_forced : Stmt := topS 139
abbrev n_forced : List Str := ["state", "wish", "targets", "person", "people"]
theorem sc_forced : FnScope n_forced ["state", "wish"] (defScope s_forced) := ⟨rfl, rfl, rfl, by decide +kernel, rfl, by decide +kernel, by decide +kernel⟩
theorem okx_forced {f : Addr} {fd : FuncData} (F : Fun K "forced" "forced" s_forced f fd) (B : Bi mg)   {C_OtherSize : Addr} {fx_check_wish : Addr} {ex_check_wish : FuncData} (x_check_wish : CalX P w K mg base (clT [("OtherSize", C_OtherSize)]) "check_wish" 5 ["state", "wish"] q_check_wishS fx_check_wish ex_check_wish)  : FnOk P w K mg base (L2.CX P w) 6 f fd ["state", "wish"] (spX (clT [("OtherSize", C_OtherSize)]) 2 q_forcedS) := by
  refine okDX (k := 5) (cl := (clT [("OtherSize", C_OtherSize)])) F sc_forced rfl (fun cdv A outer s H E hr => ?_) mx_forcedS
  exact ⟨_, (pss_cons (ps_expr (pe_callS x_check_wish.ok (hr.mono (by decide)) (by rfl) x_check_wish.g x_check_wish.kp x_check_wish.bd (fun σ => passAt (takes_of rfl rfl rfl rfl) σ) (pa_cons (pv 0) (pa_cons (pv 1) pa_nil))))
      pss_never),
    fun P0 Ex => (ss_seq (ss_drop (se_callX monx_check_wishS (sa_cons se_var (sa_cons se_var sa_nil))))
      ss_never)⟩
abbrev s_granted : Stmt := topS 136
abbrev n_granted : List Str := ["state", "wish", "pointers", "person", "is_outside"]
theorem sc_granted : FnScope n_granted ["state", "wish"] (defScope s_granted) := ⟨rfl, rfl, rfl, by decide +kernel, rfl, by decide +kernel, by decide +kernel⟩
theorem okx_granted {f : Addr} {fd : FuncData} (F : Fun K "granted" "granted" s_granted f fd) (B : Bi mg)   {C_OtherSize : Addr} {fx_check_wish : Addr} {ex_check_wish : FuncData} (x_check_wish : CalX P w K mg base (clT [("OtherSize", C_OtherSize)]) "check_wish" 5 ["state", "wish"] q_check_wishS fx_check_wish ex_check_wish)  : FnOk P w K mg base (L2.CX P w) 6 f fd ["state", "wish"] (spX (clT [("OtherSize", C_OtherSize)]) 2 q_grantedS) := by
  refine okDX (k := 5) (cl := (clT [("OtherSize", C_OtherSize)])) F sc_granted rfl (fun cdv A outer s H E hr => ?_) mx_grantedS
  exact ⟨_, (pss_cons (ps_expr (pe_callS x_check_wish.ok (hr.mono (by decide)) (by rfl) x_check_wish.g x_check_wish.kp x_check_wish.bd (fun σ => passAt (takes_of rfl rfl rfl rfl) σ) (pa_cons (pv 0) (pa_cons (pv 1) pa_nil))))
      pss_never),
    fun P0 Ex => (ss_seq (ss_drop (se_callX monx_check_wishS (sa_cons se_var (sa_cons se_var sa_nil))))
      ss_never)⟩
abbrev s_meets : Stmt := topS 132
abbrev n_meets : List Str := ["state", "wish", "target", "item"]
theorem sc_meets : FnScope n_meets ["state", "wish"] (defScope s_meets) := ⟨rfl, rfl, rfl, by decide +kernel, rfl, by decide +kernel, by decide +kernel⟩
theorem okx_meets {f : Addr} {fd : FuncData} (F : Fun K "meets" "meets" s_meets f fd) (B : Bi mg)   {C_OtherSize : Addr} {fx_check_size : Addr} {ex_check_size : FuncData} (x_check_size : CalX P w K mg base (clT [("OtherSize", C_OtherSize)]) "check_size" 3 ["state", "other"] q_check_sizeS fx_check_size ex_check_size)  : FnOk P w K mg base (L2.CX P w) 4 f fd ["state", "wish"] (spX (clT [("OtherSize", C_OtherSize)]) 2 q_meetsS) := by
  refine okDX (k := 3) (cl := (clT [("OtherSize", C_OtherSize)])) F sc_meets rfl (fun cdv A outer s H E hr => ?_) mx_meetsS
  exact ⟨_, (pss_cons (ps_expr (pe_callS x_check_size.ok (hr.mono (by decide)) (by rfl) x_check_size.g x_check_size.kp x_check_size.bd (fun σ => passAt (takes_of rfl rfl rfl rfl) σ) (pa_cons (pv 0) (pa_cons (pv 1) pa_nil))))
      pss_never),
    fun P0 Ex => (ss_seq (ss_drop (se_callX monx_check_sizeS (sa_cons se_var (sa_cons se_var sa_nil))))
      ss_never)⟩
abbrev s_law_hope : Stmt := topS 149
abbrev n_law_hope : List Str := ["_law_door", "_law_start", "_law_hope_here"]
theorem sc_law_hope : FnScope n_law_hope ["_law_door", "_law_start", "_law_hope_here"] (defScope s_law_hope) := ⟨rfl, rfl, rfl, by decide +kernel, rfl, by decide +kernel, by decide +kernel⟩
theorem okx_law_hope {f : Addr} {fd : FuncData} (F : Fun K "_law_hope" "_law_hope" s_law_hope f fd) (B : Bi mg)   {C_OtherSize : Addr} {fx_meets : Addr} {ex_meets : FuncData} (x_meets : CalX P w K mg base (clT [("OtherSize", C_OtherSize)]) "meets" 4 ["state", "wish"] q_meetsS fx_meets ex_meets) {fx_wish_obstacle : Addr} {ex_wish_obstacle : FuncData} (x_wish_obstacle : CalX P w K mg base (clT [("OtherSize", C_OtherSize)]) "wish_obstacle" 4 ["state", "wish"] q_wish_obstacleS fx_wish_obstacle ex_wish_obstacle) {fx_granted : Addr} {ex_granted : FuncData} (x_granted : CalX P w K mg base (clT [("OtherSize", C_OtherSize)]) "granted" 6 ["state", "wish"] q_grantedS fx_granted ex_granted) {fx_forced : Addr} {ex_forced : FuncData} (x_forced : CalX P w K mg base (clT [("OtherSize", C_OtherSize)]) "forced" 6 ["state", "wish"] q_forcedS fx_forced ex_forced) {fx_pointers_for : Addr} {ex_pointers_for : FuncData} (x_pointers_for : CalX P w K mg base (clT [("OtherSize", C_OtherSize)]) "pointers_for" 4 ["state", "wish", "person"] q_pointers_forS fx_pointers_for ex_pointers_for)  : FnOk P w K mg base (L2.CX P w) 7 f fd ["_law_door", "_law_start", "_law_hope_here"] (spX (clT [("OtherSize", C_OtherSize)]) 3 q_law_hope_2) := by
  refine okDX (k := 6) (cl := (clT [("OtherSize", C_OtherSize)])) F sc_law_hope rfl (fun cdv A outer s H E hr => ?_) mx_law_hope_2
  exact ⟨_, (pss_cons (ps_if (pt_cmpR op_lt (pv 0) pe_int (nomark _)) (pss_one (ps_ret (pe_pick (K := K) (ixK (K := K) rfl) (fun σ => passAt (takes_of rfl rfl rfl rfl) σ) (pks_cons x_meets.ok (hr.mono (by decide)) (by rfl) x_meets.g x_meets.kp x_meets.bd (pks_cons x_wish_obstacle.ok (hr.mono (by decide)) (by rfl) x_wish_obstacle.g x_wish_obstacle.kp x_wish_obstacle.bd (pks_cons x_granted.ok (hr.mono (by decide)) (by rfl) x_granted.g x_granted.kp x_granted.bd (pks_cons x_forced.ok (hr.mono (by decide)) (by rfl) x_forced.g x_forced.kp x_forced.bd pks_nil)))) (pv 0) (fun _ _ => rfl) (pa_cons (pv 1) (pa_cons (pv 2) pa_nil))))) pss_nil)
      (pss_one (ps_ret (pe_callS x_pointers_for.ok (hr.mono (by decide)) (by rfl) x_pointers_for.g x_pointers_for.kp x_pointers_for.bd (fun σ => passAt (takes_of rfl rfl rfl rfl) σ) (pa_cons (pv 1) (pa_cons (pv 2) (pa_cons (pe_un un_neg pe_int) pa_nil))))))),
    fun P0 Ex => (ss_seq (ss_if (st_test (se_op r2_B se_var se_int)) (ss_ret (se_pickX (axc monx_meetsS (axc monx_wish_obstacleS (axc monx_grantedS (axc monx_forcedS axn)))) se_var (sa_cons se_var (sa_cons se_var sa_nil)))) ss_next)
      (ss_ret (se_callX monx_pointers_forS (sa_cons se_var (sa_cons se_var (sa_cons (se_un ru_neg se_int) sa_nil))))))⟩
abbrev s_obstacle : Stmt := topS 44
abbrev n_obstacle : List Str := ["state", "goal"]
theorem sc_obstacle : FnScope n_obstacle ["state", "goal"] (defScope s_obstacle) := ⟨rfl, rfl, rfl, by decide +kernel, rfl, by decide +kernel, by decide +kernel⟩
theorem okx_obstacle {f : Addr} {fd : FuncData} (F : Fun K "obstacle" "obstacle" s_obstacle f fd) (B : Bi mg)   {C_OtherSize : Addr} {fx_check_size : Addr} {ex_check_size : FuncData} (x_check_size : CalX P w K mg base (clT [("OtherSize", C_OtherSize)]) "check_size" 3 ["state", "other"] q_check_sizeS fx_check_size ex_check_size)  : FnOk P w K mg base (L2.CX P w) 4 f fd ["state", "goal"] (spX (clT [("OtherSize", C_OtherSize)]) 2 q_obstacleS) := by
  refine okDX (k := 3) (cl := (clT [("OtherSize", C_OtherSize)])) F sc_obstacle rfl (fun cdv A outer s H E hr => ?_) mx_obstacleS
  exact ⟨_, (pss_cons (ps_expr (pe_callS x_check_size.ok (hr.mono (by decide)) (by rfl) x_check_size.g x_check_size.kp x_check_size.bd (fun σ => passAt (takes_of rfl rfl rfl rfl) σ) (pa_cons (pv 0) (pa_cons (pv 1) pa_nil))))
      pss_never),
    fun P0 Ex => (ss_seq (ss_drop (se_callX monx_check_sizeS (sa_cons se_var (sa_cons se_var sa_nil))))
      ss_never)⟩
abbrev s_check_future : Stmt := topS 37
abbrev n_check_future : List Str := ["state", "goal", "found"]
theorem sc_check_future : FnScope n_check_future ["state", "goal"] (defScope s_check_future) := ⟨rfl, rfl, rfl, by decide +kernel, rfl, by decide +kernel, by decide +kernel⟩
theorem okx_check_future {f : Addr} {fd : FuncData} (F : Fun K "check_future" "check_future" s_check_future f fd) (B : Bi mg)   {C_OtherSize : Addr} {fx_obstacle : Addr} {ex_obstacle : FuncData} (x_obstacle : CalX P w K mg base (clT [("OtherSize", C_OtherSize)]) "obstacle" 4 ["state", "goal"] q_obstacleS fx_obstacle ex_obstacle)  : FnOk P w K mg base (L2.CX P w) 5 f fd ["state", "goal"] (spX (clT [("OtherSize", C_OtherSize)]) 2 q_check_futureS) := by
  refine okDX (k := 4) (cl := (clT [("OtherSize", C_OtherSize)])) F sc_check_future rfl (fun cdv A outer s H E hr => ?_) mx_check_futureS
  exact ⟨_, (pss_cons (ps_set (i := 2) sc_check_future.nd rfl (by first | exact Or.inl rfl | exact Or.inr rfl) (pe_callS x_obstacle.ok (hr.mono (by decide)) (by rfl) x_obstacle.g x_obstacle.kp x_obstacle.bd (fun σ => passAt (takes_of rfl rfl rfl rfl) σ) (pa_cons (pv 0) (pa_cons (pv 1) pa_nil))))
      pss_never),
    fun P0 Ex => (ss_seq (ss_set false (se_callX monx_obstacleS (sa_cons se_var (sa_cons se_var sa_nil))))
      ss_never)⟩
abbrev s_become_deed : Stmt := topS 66
abbrev n_become_deed : List Str := ["state", "goal"]
theorem sc_become_deed : FnScope n_become_deed ["state", "goal"] (defScope s_become_deed) := ⟨rfl, rfl, rfl, by decide +kernel, rfl, by decide +kernel, by decide +kernel⟩
theorem okx_become_deed {f : Addr} {fd : FuncData} (F : Fun K "become_deed" "become_deed" s_become_deed f fd) (B : Bi mg)   {C_OtherSize : Addr} {fx_check_future : Addr} {ex_check_future : FuncData} (x_check_future : CalX P w K mg base (clT [("OtherSize", C_OtherSize)]) "check_future" 5 ["state", "goal"] q_check_futureS fx_check_future ex_check_future)  : FnOk P w K mg base (L2.CX P w) 6 f fd ["state", "goal"] (spX (clT [("OtherSize", C_OtherSize)]) 2 q_become_deedS) := by
  refine okDX (k := 5) (cl := (clT [("OtherSize", C_OtherSize)])) F sc_become_deed rfl (fun cdv A outer s H E hr => ?_) mx_become_deedS
  exact ⟨_, (pss_cons (ps_expr (pe_callS x_check_future.ok (hr.mono (by decide)) (by rfl) x_check_future.g x_check_future.kp x_check_future.bd (fun σ => passAt (takes_of rfl rfl rfl rfl) σ) (pa_cons (pv 0) (pa_cons (pv 1) pa_nil))))
      pss_never),
    fun P0 Ex => (ss_seq (ss_drop (se_callX monx_check_futureS (sa_cons se_var (sa_cons se_var sa_nil))))
      ss_never)⟩
abbrev s_words_many : Stmt := topS 130
abbrev n_words_many : List Str := ["state", "goal", "size", "moves_from", "future", "many", "unused"]
theorem sc_words_many : FnScope n_words_many ["state", "goal", "size"] (defScope s_words_many) := ⟨rfl, rfl, rfl, by decide +kernel, rfl, by decide +kernel, by decide +kernel⟩
theorem okx_words_many {f : Addr} {fd : FuncData} (F : Fun K "words_many" "words_many" s_words_many f fd) (B : Bi mg)   {C_OtherSize : Addr} {fx_check_size : Addr} {ex_check_size : FuncData} (x_check_size : CalX P w K mg base (clT [("OtherSize", C_OtherSize)]) "check_size" 3 ["state", "other"] q_check_sizeS fx_check_size ex_check_size)  : FnOk P w K mg base (L2.CX P w) 4 f fd ["state", "goal", "size"] (spX (clT [("OtherSize", C_OtherSize)]) 3 q_words_manyS) := by
  refine okDX (k := 3) (cl := (clT [("OtherSize", C_OtherSize)])) F sc_words_many rfl (fun cdv A outer s H E hr => ?_) mx_words_manyS
  exact ⟨_, (pss_cons (ps_expr (pe_callS x_check_size.ok (hr.mono (by decide)) (by rfl) x_check_size.g x_check_size.kp x_check_size.bd (fun σ => passAt (takes_of rfl rfl rfl rfl) σ) (pa_cons (pv 0) (pa_cons (pv 1) pa_nil))))
      pss_never),
    fun P0 Ex => (ss_seq (ss_drop (se_callX monx_check_sizeS (sa_cons se_var (sa_cons se_var sa_nil))))
      ss_never)⟩
abbrev s_is_word_to : Stmt := topS 52
abbrev n_is_word_to : List Str := ["state", "goal", "value", "item"]
theorem sc_is_word_to : FnScope n_is_word_to ["state", "goal", "value"] (defScope s_is_word_to) := ⟨rfl, rfl, rfl, by decide +kernel, rfl, by decide +kernel, by decide +kernel⟩
theorem okx_is_word_to {f : Addr} {fd : FuncData} (F : Fun K "is_word_to" "is_word_to" s_is_word_to f fd) (B : Bi mg)   {C_OtherSize : Addr} {fx_check_size : Addr} {ex_check_size : FuncData} (x_check_size : CalX P w K mg base (clT [("OtherSize", C_OtherSize)]) "check_size" 3 ["state", "other"] q_check_sizeS fx_check_size ex_check_size)  : FnOk P w K mg base (L2.CX P w) 4 f fd ["state", "goal", "value"] (spX (clT [("OtherSize", C_OtherSize)]) 3 q_is_word_toS) := by
  refine okDX (k := 3) (cl := (clT [("OtherSize", C_OtherSize)])) F sc_is_word_to rfl (fun cdv A outer s H E hr => ?_) mx_is_word_toS
  exact ⟨_, (pss_cons (ps_expr (pe_callS x_check_size.ok (hr.mono (by decide)) (by rfl) x_check_size.g x_check_size.kp x_check_size.bd (fun σ => passAt (takes_of rfl rfl rfl rfl) σ) (pa_cons (pv 0) (pa_cons (pv 1) pa_nil))))
      pss_never),
    fun P0 Ex => (ss_seq (ss_drop (se_callX monx_check_sizeS (sa_cons se_var (sa_cons se_var sa_nil))))
      ss_never)⟩
abbrev s_is_obstacle : Stmt := topS 48
abbrev n_is_obstacle : List Str := ["state", "goal", "value", "kind", "people", "item"]
theorem sc_is_obstacle : FnScope n_is_obstacle ["state", "goal", "value"] (defScope s_is_obstacle) := ⟨rfl, rfl, rfl, by decide +kernel, rfl, by decide +kernel, by decide +kernel⟩
theorem okx_is_obstacle {f : Addr} {fd : FuncData} (F : Fun K "is_obstacle" "is_obstacle" s_is_obstacle f fd) (B : Bi mg)   {C_OtherSize : Addr} {fx_check_size : Addr} {ex_check_size : FuncData} (x_check_size : CalX P w K mg base (clT [("OtherSize", C_OtherSize)]) "check_size" 3 ["state", "other"] q_check_sizeS fx_check_size ex_check_size)  : FnOk P w K mg base (L2.CX P w) 4 f fd ["state", "goal", "value"] (spX (clT [("OtherSize", C_OtherSize)]) 3 q_is_obstacleS) := by
  refine okDX (k := 3) (cl := (clT [("OtherSize", C_OtherSize)])) F sc_is_obstacle rfl (fun cdv A outer s H E hr => ?_) mx_is_obstacleS
  exact ⟨_, (pss_cons (ps_expr (pe_callS x_check_size.ok (hr.mono (by decide)) (by rfl) x_check_size.g x_check_size.kp x_check_size.bd (fun σ => passAt (takes_of rfl rfl rfl rfl) σ) (pa_cons (pv 0) (pa_cons (pv 1) pa_nil))))
      pss_never),
    fun P0 Ex => (ss_seq (ss_drop (se_callX monx_check_sizeS (sa_cons se_var (sa_cons se_var sa_nil))))
      ss_never)⟩
abbrev s_first_word : Stmt := topS 127
abbrev n_first_word : List Str := ["state", "goal"]
theorem sc_first_word : FnScope n_first_word ["state", "goal"] (defScope s_first_word) := ⟨rfl, rfl, rfl, by decide +kernel, rfl, by decide +kernel, by decide +kernel⟩
theorem okx_first_word {f : Addr} {fd : FuncData} (F : Fun K "first_word" "first_word" s_first_word f fd) (B : Bi mg)   {C_OtherSize : Addr} {fx_check_size : Addr} {ex_check_size : FuncData} (x_check_size : CalX P w K mg base (clT [("OtherSize", C_OtherSize)]) "check_size" 3 ["state", "other"] q_check_sizeS fx_check_size ex_check_size)  : FnOk P w K mg base (L2.CX P w) 4 f fd ["state", "goal"] (spX (clT [("OtherSize", C_OtherSize)]) 2 q_first_wordS) := by
  refine okDX (k := 3) (cl := (clT [("OtherSize", C_OtherSize)])) F sc_first_word rfl (fun cdv A outer s H E hr => ?_) mx_first_wordS
  exact ⟨_, (pss_cons (ps_expr (pe_callS x_check_size.ok (hr.mono (by decide)) (by rfl) x_check_size.g x_check_size.kp x_check_size.bd (fun σ => passAt (takes_of rfl rfl rfl rfl) σ) (pa_cons (pv 0) (pa_cons (pv 1) pa_nil))))
      pss_never),
    fun P0 Ex => (ss_seq (ss_drop (se_callX monx_check_sizeS (sa_cons se_var (sa_cons se_var sa_nil))))
      ss_never)⟩
abbrev s_distance : Stmt := topS 128
abbrev n_distance : List Str := ["state", "goal", "word"]
theorem sc_distance : FnScope n_distance ["state", "goal"] (defScope s_distance) := ⟨rfl, rfl, rfl, by decide +kernel, rfl, by decide +kernel, by decide +kernel⟩
theorem okx_distance {f : Addr} {fd : FuncData} (F : Fun K "distance" "distance" s_distance f fd) (B : Bi mg)   {C_OtherSize : Addr} {fx_first_word : Addr} {ex_first_word : FuncData} (x_first_word : CalX P w K mg base (clT [("OtherSize", C_OtherSize)]) "first_word" 4 ["state", "goal"] q_first_wordS fx_first_word ex_first_word)  : FnOk P w K mg base (L2.CX P w) 5 f fd ["state", "goal"] (spX (clT [("OtherSize", C_OtherSize)]) 2 q_distanceS) := by
  refine okDX (k := 4) (cl := (clT [("OtherSize", C_OtherSize)])) F sc_distance rfl (fun cdv A outer s H E hr => ?_) mx_distanceS
  exact ⟨_, (pss_cons (ps_set (i := 2) sc_distance.nd rfl (by first | exact Or.inl rfl | exact Or.inr rfl) (pe_callS x_first_word.ok (hr.mono (by decide)) (by rfl) x_first_word.g x_first_word.kp x_first_word.bd (fun σ => passAt (takes_of rfl rfl rfl rfl) σ) (pa_cons (pv 0) (pa_cons (pv 1) pa_nil))))
      pss_never),
    fun P0 Ex => (ss_seq (ss_set false (se_callX monx_first_wordS (sa_cons se_var (sa_cons se_var sa_nil))))
      ss_never)⟩
abbrev s_callers : Stmt := topS 106
abbrev n_callers : List Str := ["state", "later", "person"]
theorem sc_callers : FnScope n_callers ["state", "later"] (defScope s_callers) := ⟨rfl, rfl, rfl, by decide +kernel, rfl, by decide +kernel, by decide +kernel⟩
theorem okx_callers {f : Addr} {fd : FuncData} (F : Fun K "callers" "callers" s_callers f fd) (B : Bi mg)   {C_OtherSize : Addr} {fx_check_size : Addr} {ex_check_size : FuncData} (x_check_size : CalX P w K mg base (clT [("OtherSize", C_OtherSize)]) "check_size" 3 ["state", "other"] q_check_sizeS fx_check_size ex_check_size)  : FnOk P w K mg base (L2.CX P w) 4 f fd ["state", "later"] (spX (clT [("OtherSize", C_OtherSize)]) 2 q_callersS) := by
  refine okDX (k := 3) (cl := (clT [("OtherSize", C_OtherSize)])) F sc_callers rfl (fun cdv A outer s H E hr => ?_) mx_callersS
  exact ⟨_, (pss_cons (ps_expr (pe_callS x_check_size.ok (hr.mono (by decide)) (by rfl) x_check_size.g x_check_size.kp x_check_size.bd (fun σ => passAt (takes_of rfl rfl rfl rfl) σ) (pa_cons (pv 0) (pa_cons (pv 1) pa_nil))))
      pss_never),
    fun P0 Ex => (ss_seq (ss_drop (se_callX monx_check_sizeS (sa_cons se_var (sa_cons se_var sa_nil))))
      ss_never)⟩
abbrev s_line_past_number : Stmt := topS 92
abbrev n_line_past_number : List Str := ["state", "past", "order", "group", "steps", "person", "step"]
theorem sc_line_past_number : FnScope n_line_past_number ["state", "past"] (defScope s_line_past_number) := ⟨rfl, rfl, rfl, by decide +kernel, rfl, by decide +kernel, by decide +kernel⟩
theorem okx_line_past_number {f : Addr} {fd : FuncData} (F : Fun K "line_past_number" "line_past_number" s_line_past_number f fd) (B : Bi mg)   {C_OtherSize : Addr} {fx_check_size : Addr} {ex_check_size : FuncData} (x_check_size : CalX P w K mg base (clT [("OtherSize", C_OtherSize)]) "check_size" 3 ["state", "other"] q_check_sizeS fx_check_size ex_check_size)  : FnOk P w K mg base (L2.CX P w) 4 f fd ["state", "past"] (spX (clT [("OtherSize", C_OtherSize)]) 2 q_line_past_numberS) := by
  refine okDX (k := 3) (cl := (clT [("OtherSize", C_OtherSize)])) F sc_line_past_number rfl (fun cdv A outer s H E hr => ?_) mx_line_past_numberS
  exact ⟨_, (pss_cons (ps_expr (pe_callS x_check_size.ok (hr.mono (by decide)) (by rfl) x_check_size.g x_check_size.kp x_check_size.bd (fun σ => passAt (takes_of rfl rfl rfl rfl) σ) (pa_cons (pv 0) (pa_cons (pv 1) pa_nil))))
      pss_never),
    fun P0 Ex => (ss_seq (ss_drop (se_callX monx_check_sizeS (sa_cons se_var (sa_cons se_var sa_nil))))
      ss_never)⟩
abbrev s_ring_past_number : Stmt := topS 85
abbrev n_ring_past_number : List Str := ["state", "past", "order", "group"]
theorem sc_ring_past_number : FnScope n_ring_past_number ["state", "past"] (defScope s_ring_past_number) := ⟨rfl, rfl, rfl, by decide +kernel, rfl, by decide +kernel, by decide +kernel⟩
theorem okx_ring_past_number {f : Addr} {fd : FuncData} (F : Fun K "ring_past_number" "ring_past_number" s_ring_past_number f fd) (B : Bi mg)   {C_OtherSize : Addr} {fx_check_size : Addr} {ex_check_size : FuncData} (x_check_size : CalX P w K mg base (clT [("OtherSize", C_OtherSize)]) "check_size" 3 ["state", "other"] q_check_sizeS fx_check_size ex_check_size)  : FnOk P w K mg base (L2.CX P w) 4 f fd ["state", "past"] (spX (clT [("OtherSize", C_OtherSize)]) 2 q_ring_past_numberS) := by
  refine okDX (k := 3) (cl := (clT [("OtherSize", C_OtherSize)])) F sc_ring_past_number rfl (fun cdv A outer s H E hr => ?_) mx_ring_past_numberS
  exact ⟨_, (pss_cons (ps_expr (pe_callS x_check_size.ok (hr.mono (by decide)) (by rfl) x_check_size.g x_check_size.kp x_check_size.bd (fun σ => passAt (takes_of rfl rfl rfl rfl) σ) (pa_cons (pv 0) (pa_cons (pv 1) pa_nil))))
      pss_never),
    fun P0 Ex => (ss_seq (ss_drop (se_callX monx_check_sizeS (sa_cons se_var (sa_cons se_var sa_nil))))
      ss_never)⟩
abbrev s_past_bar : Stmt := topS 101
abbrev n_past_bar : List Str := ["one", "other", "bar", "group", "broken"]
theorem sc_past_bar : FnScope n_past_bar ["one", "other"] (defScope s_past_bar) := ⟨rfl, rfl, rfl, by decide +kernel, rfl, by decide +kernel, by decide +kernel⟩
theorem okx_past_bar {f : Addr} {fd : FuncData} (F : Fun K "past_bar" "past_bar" s_past_bar f fd) (B : Bi mg)   {C_OtherSize : Addr} {fx_check_size : Addr} {ex_check_size : FuncData} (x_check_size : CalX P w K mg base (clT [("OtherSize", C_OtherSize)]) "check_size" 3 ["state", "other"] q_check_sizeS fx_check_size ex_check_size)  : FnOk P w K mg base (L2.CX P w) 4 f fd ["one", "other"] (spX (clT [("OtherSize", C_OtherSize)]) 2 q_past_barS) := by
  refine okDX (k := 3) (cl := (clT [("OtherSize", C_OtherSize)])) F sc_past_bar rfl (fun cdv A outer s H E hr => ?_) mx_past_barS
  exact ⟨_, (pss_cons (ps_expr (pe_callS x_check_size.ok (hr.mono (by decide)) (by rfl) x_check_size.g x_check_size.kp x_check_size.bd (fun σ => passAt (takes_of rfl rfl rfl rfl) σ) (pa_cons (pv 0) (pa_cons (pv 1) pa_nil))))
      pss_never),
    fun P0 Ex => (ss_seq (ss_drop (se_callX monx_check_sizeS (sa_cons se_var (sa_cons se_var sa_nil))))
      ss_never)⟩
abbrev s_common_past : Stmt := topS 104
abbrev n_common_past : List Str := ["one", "other", "bar", "group"]
theorem sc_common_past : FnScope n_common_past ["one", "other"] (defScope s_common_past) := ⟨rfl, rfl, rfl, by decide +kernel, rfl, by decide +kernel, by decide +kernel⟩
theorem okx_common_past {f : Addr} {fd : FuncData} (F : Fun K "common_past" "common_past" s_common_past f fd) (B : Bi mg)   {C_OtherSize : Addr} {fx_past_bar : Addr} {ex_past_bar : FuncData} (x_past_bar : CalX P w K mg base (clT [("OtherSize", C_OtherSize)]) "past_bar" 4 ["one", "other"] q_past_barS fx_past_bar ex_past_bar)  : FnOk P w K mg base (L2.CX P w) 5 f fd ["one", "other"] (spX (clT [("OtherSize", C_OtherSize)]) 2 q_common_pastS) := by
  refine okDX (k := 4) (cl := (clT [("OtherSize", C_OtherSize)])) F sc_common_past rfl (fun cdv A outer s H E hr => ?_) mx_common_pastS
  exact ⟨_, (pss_cons (ps_set (i := 2) sc_common_past.nd rfl (by first | exact Or.inl rfl | exact Or.inr rfl) (pe_callS x_past_bar.ok (hr.mono (by decide)) (by rfl) x_past_bar.g x_past_bar.kp x_past_bar.bd (fun σ => passAt (takes_of rfl rfl rfl rfl) σ) (pa_cons (pv 0) (pa_cons (pv 1) pa_nil))))
      pss_never),
    fun P0 Ex => (ss_seq (ss_set false (se_callX monx_past_barS (sa_cons se_var (sa_cons se_var sa_nil))))
      ss_never)⟩
abbrev s_future_bar : Stmt := topS 99
abbrev n_future_bar : List Str := ["one", "other", "bar", "group"]
theorem sc_future_bar : FnScope n_future_bar ["one", "other"] (defScope s_future_bar) := ⟨rfl, rfl, rfl, by decide +kernel, rfl, by decide +kernel, by decide +kernel⟩
theorem okx_future_bar {f : Addr} {fd : FuncData} (F : Fun K "future_bar" "future_bar" s_future_bar f fd) (B : Bi mg)   {C_OtherSize : Addr} {fx_check_size : Addr} {ex_check_size : FuncData} (x_check_size : CalX P w K mg base (clT [("OtherSize", C_OtherSize)]) "check_size" 3 ["state", "other"] q_check_sizeS fx_check_size ex_check_size)  : FnOk P w K mg base (L2.CX P w) 4 f fd ["one", "other"] (spX (clT [("OtherSize", C_OtherSize)]) 2 q_future_barS) := by
  refine okDX (k := 3) (cl := (clT [("OtherSize", C_OtherSize)])) F sc_future_bar rfl (fun cdv A outer s H E hr => ?_) mx_future_barS
  exact ⟨_, (pss_cons (ps_expr (pe_callS x_check_size.ok (hr.mono (by decide)) (by rfl) x_check_size.g x_check_size.kp x_check_size.bd (fun σ => passAt (takes_of rfl rfl rfl rfl) σ) (pa_cons (pv 0) (pa_cons (pv 1) pa_nil))))
      pss_never),
    fun P0 Ex => (ss_seq (ss_drop (se_callX monx_check_sizeS (sa_cons se_var (sa_cons se_var sa_nil))))
      ss_never)⟩
abbrev s_common_future : Stmt := topS 100
abbrev n_common_future : List Str := ["one", "other", "bar", "group"]
theorem sc_common_future : FnScope n_common_future ["one", "other"] (defScope s_common_future) := ⟨rfl, rfl, rfl, by decide +kernel, rfl, by decide +kernel, by decide +kernel⟩
theorem okx_common_future {f : Addr} {fd : FuncData} (F : Fun K "common_future" "common_future" s_common_future f fd) (B : Bi mg)   {C_OtherSize : Addr} {fx_future_bar : Addr} {ex_future_bar : FuncData} (x_future_bar : CalX P w K mg base (clT [("OtherSize", C_OtherSize)]) "future_bar" 4 ["one", "other"] q_future_barS fx_future_bar ex_future_bar)  : FnOk P w K mg base (L2.CX P w) 5 f fd ["one", "other"] (spX (clT [("OtherSize", C_OtherSize)]) 2 q_common_futureS) := by
  refine okDX (k := 4) (cl := (clT [("OtherSize", C_OtherSize)])) F sc_common_future rfl (fun cdv A outer s H E hr => ?_) mx_common_futureS
  exact ⟨_, (pss_cons (ps_set (i := 2) sc_common_future.nd rfl (by first | exact Or.inl rfl | exact Or.inr rfl) (pe_callS x_future_bar.ok (hr.mono (by decide)) (by rfl) x_future_bar.g x_future_bar.kp x_future_bar.bd (fun σ => passAt (takes_of rfl rfl rfl rfl) σ) (pa_cons (pv 0) (pa_cons (pv 1) pa_nil))))
      pss_never),
    fun P0 Ex => (ss_seq (ss_set false (se_callX monx_future_barS (sa_cons se_var (sa_cons se_var sa_nil))))
      ss_never)⟩
abbrev s_leads : Stmt := topS 45
abbrev n_leads : List Str := ["state", "goal"]
theorem sc_leads : FnScope n_leads ["state", "goal"] (defScope s_leads) := ⟨rfl, rfl, rfl, by decide +kernel, rfl, by decide +kernel, by decide +kernel⟩
theorem okx_leads {f : Addr} {fd : FuncData} (F : Fun K "leads" "leads" s_leads f fd) (B : Bi mg)   {C_OtherSize : Addr} {fx_obstacle : Addr} {ex_obstacle : FuncData} (x_obstacle : CalX P w K mg base (clT [("OtherSize", C_OtherSize)]) "obstacle" 4 ["state", "goal"] q_obstacleS fx_obstacle ex_obstacle)  : FnOk P w K mg base (L2.CX P w) 5 f fd ["state", "goal"] (spX (clT [("OtherSize", C_OtherSize)]) 2 q_leadsS) := by
  refine okDX (k := 4) (cl := (clT [("OtherSize", C_OtherSize)])) F sc_leads rfl (fun cdv A outer s H E hr => ?_) mx_leadsS
  exact ⟨_, (pss_one (ps_ret (pe_cmpR op_isN (pe_callS x_obstacle.ok (hr.mono (by decide)) (by rfl) x_obstacle.g x_obstacle.kp x_obstacle.bd (fun σ => passAt (takes_of rfl rfl rfl rfl) σ) (pa_cons (pv 0) (pa_cons (pv 1) pa_nil))) pe_non (nomark _)))),
    fun P0 Ex => (ss_ret (se_op r2_isN (se_callX monx_obstacleS (sa_cons se_var (sa_cons se_var sa_nil))) se_non))⟩
abbrev s_are_kin : Stmt := topS 116
abbrev n_are_kin : List Str := ["one", "other"]
theorem sc_are_kin : FnScope n_are_kin ["one", "other"] (defScope s_are_kin) := ⟨rfl, rfl, rfl, by decide +kernel, rfl, by decide +kernel, by decide +kernel⟩
theorem okx_are_kin {f : Addr} {fd : FuncData} (F : Fun K "are_kin" "are_kin" s_are_kin f fd) (B : Bi mg)   {C_OtherSize : Addr} {fx_leads : Addr} {ex_leads : FuncData} (x_leads : CalX P w K mg base (clT [("OtherSize", C_OtherSize)]) "leads" 5 ["state", "goal"] q_leadsS fx_leads ex_leads)  : FnOk P w K mg base (L2.CX P w) 6 f fd ["one", "other"] (spX (clT [("OtherSize", C_OtherSize)]) 2 q_are_kinS) := by
  refine okDX (k := 5) (cl := (clT [("OtherSize", C_OtherSize)])) F sc_are_kin rfl (fun cdv A outer s H E hr => ?_) mx_are_kinS
  exact ⟨_, (pss_one (ps_ret (pe_and (pe_callS x_leads.ok (hr.mono (by decide)) (by rfl) x_leads.g x_leads.kp x_leads.bd (fun σ => passAt (takes_of rfl rfl rfl rfl) σ) (pa_cons (pv 0) (pa_cons (pv 1) pa_nil))) (pe_one (pe_callS x_leads.ok (hr.mono (by decide)) (by rfl) x_leads.g x_leads.kp x_leads.bd (fun σ => passAt (takes_of rfl rfl rfl rfl) σ) (pa_cons (pv 1) (pa_cons (pv 0) pa_nil))))))),
    fun P0 Ex => (ss_ret (se_andV (se_callX monx_leadsS (sa_cons se_var (sa_cons se_var sa_nil))) (se_callX monx_leadsS (sa_cons se_var (sa_cons se_var sa_nil)))))⟩
abbrev s_kin_number : Stmt := topS 120
abbrev n_kin_number : List Str := ["state", "other"]
theorem sc_kin_number : FnScope n_kin_number ["state", "other"] (defScope s_kin_number) := ⟨rfl, rfl, rfl, by decide +kernel, rfl, by decide +kernel, by decide +kernel⟩
theorem okx_kin_number {f : Addr} {fd : FuncData} (F : Fun K "kin_number" "kin_number" s_kin_number f fd) (B : Bi mg)   {C_OtherSize : Addr} {fx_are_kin : Addr} {ex_are_kin : FuncData} (x_are_kin : CalX P w K mg base (clT [("OtherSize", C_OtherSize)]) "are_kin" 6 ["one", "other"] q_are_kinS fx_are_kin ex_are_kin)  : FnOk P w K mg base (L2.CX P w) 7 f fd ["state", "other"] (spX (clT [("OtherSize", C_OtherSize)]) 2 q_kin_numberS) := by
  refine okDX (k := 6) (cl := (clT [("OtherSize", C_OtherSize)])) F sc_kin_number rfl (fun cdv A outer s H E hr => ?_) mx_kin_numberS
  exact ⟨_, (pss_cons (ps_if (pt_not (truK (K := K) rfl (pt_truth (pe_callS x_are_kin.ok (hr.mono (by decide)) (by rfl) x_are_kin.g x_are_kin.kp x_are_kin.bd (fun σ => passAt (takes_of rfl rfl rfl rfl) σ) (pa_cons (pv 0) (pa_cons (pv 1) pa_nil))) (by intro _; rfl)))) pss_never pss_never)
      pss_never),
    fun P0 Ex => (ss_seq (ss_if (st_not (st_truth (se_callX monx_are_kinS (sa_cons se_var (sa_cons se_var sa_nil))))) ss_never ss_never)
      ss_never)⟩
abbrev s_number_of : Stmt := topS 114
abbrev n_number_of : List Str := ["state", "goal"]
theorem sc_number_of : FnScope n_number_of ["state", "goal"] (defScope s_number_of) := ⟨rfl, rfl, rfl, by decide +kernel, rfl, by decide +kernel, by decide +kernel⟩
theorem okx_number_of {f : Addr} {fd : FuncData} (F : Fun K "number_of" "number_of" s_number_of f fd) (B : Bi mg)   {C_OtherSize : Addr} {fx_check_future : Addr} {ex_check_future : FuncData} (x_check_future : CalX P w K mg base (clT [("OtherSize", C_OtherSize)]) "check_future" 5 ["state", "goal"] q_check_futureS fx_check_future ex_check_future)  : FnOk P w K mg base (L2.CX P w) 6 f fd ["state", "goal"] (spX (clT [("OtherSize", C_OtherSize)]) 2 q_number_ofS) := by
  refine okDX (k := 5) (cl := (clT [("OtherSize", C_OtherSize)])) F sc_number_of rfl (fun cdv A outer s H E hr => ?_) mx_number_ofS
  exact ⟨_, (pss_cons (ps_expr (pe_callS x_check_future.ok (hr.mono (by decide)) (by rfl) x_check_future.g x_check_future.kp x_check_future.bd (fun σ => passAt (takes_of rfl rfl rfl rfl) σ) (pa_cons (pv 0) (pa_cons (pv 1) pa_nil))))
      pss_never),
    fun P0 Ex => (ss_seq (ss_drop (se_callX monx_check_futureS (sa_cons se_var (sa_cons se_var sa_nil))))
      ss_never)⟩
abbrev s_word_to : Stmt := topS 51
abbrev n_word_to : List Str := ["state", "goal", "word", "ring"]
theorem sc_word_to : FnScope n_word_to ["state", "goal"] (defScope s_word_to) := ⟨rfl, rfl, rfl, by decide +kernel, rfl, by decide +kernel, by decide +kernel⟩
theorem okx_word_to {f : Addr} {fd : FuncData} (F : Fun K "word_to" "word_to" s_word_to f fd) (B : Bi mg)   {C_OtherSize : Addr} {fx_check_future : Addr} {ex_check_future : FuncData} (x_check_future : CalX P w K mg base (clT [("OtherSize", C_OtherSize)]) "check_future" 5 ["state", "goal"] q_check_futureS fx_check_future ex_check_future)  : FnOk P w K mg base (L2.CX P w) 6 f fd ["state", "goal"] (spX (clT [("OtherSize", C_OtherSize)]) 2 q_word_toS) := by
  refine okDX (k := 5) (cl := (clT [("OtherSize", C_OtherSize)])) F sc_word_to rfl (fun cdv A outer s H E hr => ?_) mx_word_toS
  exact ⟨_, (pss_cons (ps_expr (pe_callS x_check_future.ok (hr.mono (by decide)) (by rfl) x_check_future.g x_check_future.kp x_check_future.bd (fun σ => passAt (takes_of rfl rfl rfl rfl) σ) (pa_cons (pv 0) (pa_cons (pv 1) pa_nil))))
      pss_never),
    fun P0 Ex => (ss_seq (ss_drop (se_callX monx_check_futureS (sa_cons se_var (sa_cons se_var sa_nil))))
      ss_never)⟩
abbrev s_law_two : Stmt := topS 148
abbrev n_law_two : List Str := ["_law_door", "_law_start", "_law_mate", "_law_some"]
theorem sc_law_two : FnScope n_law_two ["_law_door", "_law_start", "_law_mate"] (defScope s_law_two) := ⟨rfl, rfl, rfl, by decide +kernel, rfl, by decide +kernel, by decide +kernel⟩
theorem okx_law_two {f : Addr} {fd : FuncData} (F : Fun K "_law_two" "_law_two" s_law_two f fd) (B : Bi mg)   {fx_future_bar : Addr} (hF_future_bar : FN "future_bar" = .ref fx_future_bar) {fx_common_future : Addr} (hF_common_future : FN "common_future" = .ref fx_common_future) {fx_past_bar : Addr} (hF_past_bar : FN "past_bar" = .ref fx_past_bar) {fx_common_past : Addr} (hF_common_past : FN "common_past" = .ref fx_common_past) {fx_ring_past_number : Addr} (hF_ring_past_number : FN "ring_past_number" = .ref fx_ring_past_number) {fx_line_past_number : Addr} (hF_line_past_number : FN "line_past_number" = .ref fx_line_past_number) {C_OtherSize : Addr} {CiC : Addr} (hF_Circle : FN "Circle" = .ref CiC) {fx_leads : Addr} {ex_leads : FuncData} (x_leads : CalX P w K mg base (clT [("OtherSize", C_OtherSize)]) "leads" 5 ["state", "goal"] q_leadsS fx_leads ex_leads) {fx_obstacle : Addr} {ex_obstacle : FuncData} (x_obstacle : CalX P w K mg base (clT [("OtherSize", C_OtherSize)]) "obstacle" 4 ["state", "goal"] q_obstacleS fx_obstacle ex_obstacle) {fx_word_to : Addr} {ex_word_to : FuncData} (x_word_to : CalX P w K mg base (clT [("OtherSize", C_OtherSize)]) "word_to" 6 ["state", "goal"] q_word_toS fx_word_to ex_word_to) {fx_number_of : Addr} {ex_number_of : FuncData} (x_number_of : CalX P w K mg base (clT [("OtherSize", C_OtherSize)]) "number_of" 6 ["state", "goal"] q_number_ofS fx_number_of ex_number_of) {fx_are_kin : Addr} {ex_are_kin : FuncData} (x_are_kin : CalX P w K mg base (clT [("OtherSize", C_OtherSize)]) "are_kin" 6 ["one", "other"] q_are_kinS fx_are_kin ex_are_kin) {fx_kin_number : Addr} {ex_kin_number : FuncData} (x_kin_number : CalX P w K mg base (clT [("OtherSize", C_OtherSize)]) "kin_number" 7 ["state", "other"] q_kin_numberS fx_kin_number ex_kin_number) {ex_future_bar : FuncData} (x_future_bar : CalX P w K mg base (clT [("OtherSize", C_OtherSize)]) "future_bar" 4 ["one", "other"] q_future_barS fx_future_bar ex_future_bar) {ex_common_future : FuncData} (x_common_future : CalX P w K mg base (clT [("OtherSize", C_OtherSize)]) "common_future" 5 ["one", "other"] q_common_futureS fx_common_future ex_common_future) {ex_past_bar : FuncData} (x_past_bar : CalX P w K mg base (clT [("OtherSize", C_OtherSize)]) "past_bar" 4 ["one", "other"] q_past_barS fx_past_bar ex_past_bar) {ex_common_past : FuncData} (x_common_past : CalX P w K mg base (clT [("OtherSize", C_OtherSize)]) "common_past" 5 ["one", "other"] q_common_pastS fx_common_past ex_common_past) {ex_ring_past_number : FuncData} (x_ring_past_number : CalX P w K mg base (clT [("OtherSize", C_OtherSize)]) "ring_past_number" 4 ["state", "past"] q_ring_past_numberS fx_ring_past_number ex_ring_past_number) {ex_line_past_number : FuncData} (x_line_past_number : CalX P w K mg base (clT [("OtherSize", C_OtherSize)]) "line_past_number" 4 ["state", "past"] q_line_past_numberS fx_line_past_number ex_line_past_number) {fx_callers : Addr} {ex_callers : FuncData} (x_callers : CalX P w K mg base (clT [("OtherSize", C_OtherSize)]) "callers" 4 ["state", "later"] q_callersS fx_callers ex_callers) {fx_distance : Addr} {ex_distance : FuncData} (x_distance : CalX P w K mg base (clT [("OtherSize", C_OtherSize)]) "distance" 5 ["state", "goal"] q_distanceS fx_distance ex_distance) {fx_first_word : Addr} {ex_first_word : FuncData} (x_first_word : CalX P w K mg base (clT [("OtherSize", C_OtherSize)]) "first_word" 4 ["state", "goal"] q_first_wordS fx_first_word ex_first_word) {fx_is_obstacle : Addr} {ex_is_obstacle : FuncData} (x_is_obstacle : CalX P w K mg base (clT [("OtherSize", C_OtherSize)]) "is_obstacle" 4 ["state", "goal", "value"] q_is_obstacleS fx_is_obstacle ex_is_obstacle) {fx_is_word_to : Addr} {ex_is_word_to : FuncData} (x_is_word_to : CalX P w K mg base (clT [("OtherSize", C_OtherSize)]) "is_word_to" 4 ["state", "goal", "value"] q_is_word_toS fx_is_word_to ex_is_word_to) {fx_words_many : Addr} {ex_words_many : FuncData} (x_words_many : CalX P w K mg base (clT [("OtherSize", C_OtherSize)]) "words_many" 4 ["state", "goal", "size"] q_words_manyS fx_words_many ex_words_many) {fCi : Addr} {eCi : FuncData} (ci : CirI P w K mg base CiC fCi eCi) {fx_become_deed : Addr} {ex_become_deed : FuncData} (x_become_deed : CalX P w K mg base (clT [("OtherSize", C_OtherSize)]) "become_deed" 6 ["state", "goal"] q_become_deedS fx_become_deed ex_become_deed) {fm_become : Addr} {em_become : FuncData} (m_become : CirM P w K mg base (clT [("OtherSize", C_OtherSize)]) CiC "become" 8 ["self", "goal"] (q_ci q_become_deedS) fm_become em_become)  : FnOk P w K mg base (L2.CX P w) 9 f fd ["_law_door", "_law_start", "_law_mate"] (spX (clT [("OtherSize", C_OtherSize)]) 3 q_law_two) := by
  refine okDX (k := 8) (cl := (clT [("OtherSize", C_OtherSize)])) F sc_law_two rfl (fun cdv A outer s H E hr => ?_) mx_law_two
  exact ⟨_, (pss_cons (ps_if (pt_cmpR op_lt (pv 0) pe_int (nomark _)) (pss_one (ps_ret (pe_pick (K := K) (ixK (K := K) rfl) (fun σ => passAt (takes_of rfl rfl rfl rfl) σ) (pks_cons x_leads.ok (hr.mono (by decide)) (by rfl) x_leads.g x_leads.kp x_leads.bd (pks_cons x_obstacle.ok (hr.mono (by decide)) (by rfl) x_obstacle.g x_obstacle.kp x_obstacle.bd (pks_cons x_word_to.ok (hr.mono (by decide)) (by rfl) x_word_to.g x_word_to.kp x_word_to.bd (pks_cons x_number_of.ok (hr.mono (by decide)) (by rfl) x_number_of.g x_number_of.kp x_number_of.bd (pks_cons x_are_kin.ok (hr.mono (by decide)) (by rfl) x_are_kin.g x_are_kin.kp x_are_kin.bd (pks_cons x_kin_number.ok (hr.mono (by decide)) (by rfl) x_kin_number.g x_kin_number.kp x_kin_number.bd pks_nil)))))) (pv 0) (fun _ _ => rfl) (pa_cons (pv 1) (pa_cons (pv 2) pa_nil))))) pss_nil)
      (pss_cons (ps_if (pt_cmpR op_lt (pv 0) pe_int (nomark _)) (pss_cons (ps_set (i := 3) sc_law_two.nd rfl (by first | exact Or.inl rfl | exact Or.inr rfl) (pe_fnL (CX := L2.CX P w) (pks_cons x_future_bar.ok (hr.mono (by decide)) (by rfl) x_future_bar.g x_future_bar.kp x_future_bar.bd (pks_cons x_common_future.ok (hr.mono (by decide)) (by rfl) x_common_future.g x_common_future.kp x_common_future.bd (pks_cons x_past_bar.ok (hr.mono (by decide)) (by rfl) x_past_bar.g x_past_bar.kp x_past_bar.bd (pks_cons x_common_past.ok (hr.mono (by decide)) (by rfl) x_common_past.g x_common_past.kp x_common_past.bd (pks_cons x_ring_past_number.ok (hr.mono (by decide)) (by rfl) x_ring_past_number.g x_ring_past_number.kp x_ring_past_number.bd (pks_cons x_line_past_number.ok (hr.mono (by decide)) (by rfl) x_line_past_number.g x_line_past_number.kp x_line_past_number.bd pks_nil))))))))
      (pss_one (ps_ret (pe_pickN (K := K) (ixK (K := K) rfl) (fun σ => passAt (takes_of rfl rfl rfl rfl) σ) (pv 3) (pkl_cons x_future_bar.ok (hr.mono (by decide)) x_future_bar.kp x_future_bar.bd (pkl_cons x_common_future.ok (hr.mono (by decide)) x_common_future.kp x_common_future.bd (pkl_cons x_past_bar.ok (hr.mono (by decide)) x_past_bar.kp x_past_bar.bd (pkl_cons x_common_past.ok (hr.mono (by decide)) x_common_past.kp x_common_past.bd (pkl_cons x_ring_past_number.ok (hr.mono (by decide)) x_ring_past_number.kp x_ring_past_number.bd (pkl_cons x_line_past_number.ok (hr.mono (by decide)) x_line_past_number.kp x_line_past_number.bd pkl_nil)))))) (pe_op op_sub (pv 0) pe_int) (fun _ _ => rfl) (pa_cons (pv 1) (pa_cons (pv 2) pa_nil)))))) pss_nil)
      (pss_cons (ps_if (pt_cmpR op_lt (pv 0) pe_int (nomark _)) (pss_one (ps_ret (pe_pick (K := K) (ixK (K := K) rfl) (fun σ => passAt (takes_of rfl rfl rfl rfl) σ) (pks_cons x_callers.ok (hr.mono (by decide)) (by rfl) x_callers.g x_callers.kp x_callers.bd (pks_cons x_distance.ok (hr.mono (by decide)) (by rfl) x_distance.g x_distance.kp x_distance.bd (pks_cons x_first_word.ok (hr.mono (by decide)) (by rfl) x_first_word.g x_first_word.kp x_first_word.bd pks_nil))) (pe_op op_sub (pv 0) pe_int) (fun _ _ => rfl) (pa_cons (pv 1) (pa_cons (pv 2) pa_nil))))) pss_nil)
      (pss_cons (ps_if (pt_cmpR op_lt (pv 0) pe_int (nomark _)) (pss_one (ps_ret (pe_pick (K := K) (ixK (K := K) rfl) (fun σ => passAt (takes_of rfl rfl rfl rfl) σ) (pks_cons x_is_obstacle.ok (hr.mono (by decide)) (by rfl) x_is_obstacle.g x_is_obstacle.kp x_is_obstacle.bd (pks_cons x_is_word_to.ok (hr.mono (by decide)) (by rfl) x_is_word_to.g x_is_word_to.kp x_is_word_to.bd pks_nil)) (pe_op op_sub (pv 0) pe_int) (fun _ _ => rfl) (pa_cons (pv 1) (pa_cons (pv 2) (pa_cons pe_non pa_nil)))))) pss_nil)
      (pss_one (ps_ret (pe_ifExp (pt_cmpR (eqK (K := K) rfl hr.units) (pv 0) pe_int (nomark _)) (pe_callS x_words_many.ok (hr.mono (by decide)) (by rfl) x_words_many.g x_words_many.kp x_words_many.bd (fun σ => passAt (takes_of rfl rfl rfl rfl) σ) (pa_cons (pv 1) (pa_cons (pv 2) (pa_cons pe_int pa_nil)))) (pe_methX (pe_make ci.mkr ci.ok (hr.mono (by decide)) (by rfl) ci.g ci.bd .nil pass0 (pa_cons (pv 1) pa_nil)) m_become.T.cl m_become.mt m_become.ok (hr.mono (by decide)) m_become.bd (fun σ => passAt (takes_of rfl rfl rfl rfl) σ) (pa_cons (pv 2) pa_nil))))))))),
    fun P0 Ex => (ss_seq (ss_if (st_test (se_op r2_B se_var se_int)) (ss_ret (se_pickX (axc monx_leadsS (axc monx_obstacleS (axc monx_word_toS (axc monx_number_ofS (axc monx_are_kinS (axc monx_kin_numberS axn)))))) se_var (sa_cons se_var (sa_cons se_var sa_nil)))) ss_next)
      (ss_seq (ss_if (st_test (se_op r2_B se_var se_int)) (ss_seq (ss_set false (se_fnL (by rw [hF_future_bar, hF_common_future, hF_past_bar, hF_common_past, hF_ring_past_number, hF_line_past_number]; rfl) (show 6 ≤ sizeLine by decide)))
      (ss_ret (se_pickN (by rw [hF_future_bar, hF_common_future, hF_past_bar, hF_common_past, hF_ring_past_number, hF_line_past_number]; rfl) (axc monx_future_barS (axc monx_common_futureS (axc monx_past_barS (axc monx_common_pastS (axc monx_ring_past_numberS (axc monx_line_past_numberS axn)))))) (se_op r2_I se_var se_int) (sa_cons se_var (sa_cons se_var sa_nil))))) ss_next)
      (ss_seq (ss_if (st_test (se_op r2_B se_var se_int)) (ss_ret (se_pickX (axc monx_callersS (axc monx_distanceS (axc monx_first_wordS axn))) (se_op r2_I se_var se_int) (sa_cons se_var (sa_cons se_var sa_nil)))) ss_next)
      (ss_seq (ss_if (st_test (se_op r2_B se_var se_int)) (ss_ret (se_pickX (axc monx_is_obstacleS (axc monx_is_word_toS axn)) (se_op r2_I se_var se_int) (sa_cons se_var (sa_cons se_var (sa_cons se_non sa_nil))))) ss_next)
      (ss_ret (se_if (st_test (se_op r2_eq se_var se_int)) (se_callX monx_words_manyS (sa_cons se_var (sa_cons se_var (sa_cons se_int sa_nil)))) (se_methX hF_Circle (by decide +kernel) (by decide +kernel) (monx_ci monx_become_deedS) (se_mkCir hF_Circle se_var) (sa_cons se_var sa_nil))))))))⟩
abbrev s_law_refused : Stmt := topS 150
abbrev n_law_refused : List Str := ["_law_kind", "_law_door", "_law_start", "_law_thing", "_law_caught", "error"]
theorem sc_law_refused : FnScope n_law_refused ["_law_kind", "_law_door", "_law_start", "_law_thing"] (defScope s_law_refused) := ⟨rfl, rfl, rfl, by decide +kernel, rfl, by decide +kernel, by decide +kernel⟩
theorem ok_law_refused {f : Addr} {fd : FuncData} (F : Fun K "_law_refused" "_law_refused" s_law_refused f fd) (B : Bi mg)   {C_BadText C_NoCommon C_NotKin C_NotPast C_OtherSize C_Unreachable : Addr} (xcs : AllL (fun _ C => ExcC K C) [("OtherSize", C_OtherSize)]) (g_BadText : mg "BadText" = some (.ref C_BadText)) (g_NoCommon : mg "NoCommon" = some (.ref C_NoCommon)) (g_NotKin : mg "NotKin" = some (.ref C_NotKin)) (g_NotPast : mg "NotPast" = some (.ref C_NotPast)) (g_OtherSize : mg "OtherSize" = some (.ref C_OtherSize)) (g_Unreachable : mg "Unreachable" = some (.ref C_Unreachable)) (e_BadText_NoCommon_NotKin_NotPast_OtherSize_Unreachable : AllL (fun n C => (["BadText", "NoCommon", "NotKin", "NotPast", "OtherSize", "Unreachable"] : List Str).contains n = true → PySem.W.exmAny K (.ref C) [.ref C_BadText, .ref C_NoCommon, .ref C_NotKin, .ref C_NotPast, .ref C_OtherSize, .ref C_Unreachable] = some true) [("OtherSize", C_OtherSize)]) {fx_law_two : Addr} {ex_law_two : FuncData} (x_law_two : CalX P w K mg base (clT [("OtherSize", C_OtherSize)]) "_law_two" 9 ["_law_door", "_law_start", "_law_mate"] q_law_two fx_law_two ex_law_two) {fx_law_hope : Addr} {ex_law_hope : FuncData} (x_law_hope : CalX P w K mg base (clT [("OtherSize", C_OtherSize)]) "_law_hope" 7 ["_law_door", "_law_start", "_law_hope_here"] q_law_hope_2 fx_law_hope ex_law_hope) (i_OtherSize : AllL (fun n C => PySem.W.kitOne K (.ref C) (.ref C_OtherSize) = some (subX n "OtherSize")) [("OtherSize", C_OtherSize)]) (j_OtherSize : PySem.W.kitOne K (.type "NoneType") (.ref C_OtherSize) = some false) (i_BadText_NotKin_NotPast : AllL (fun n C => PySem.W.kitAny K (.ref C) [.ref C_BadText, .ref C_NotKin, .ref C_NotPast] = some ((["BadText", "NotKin", "NotPast"] : List Str).any (subX n))) [("OtherSize", C_OtherSize)]) (j_BadText_NotKin_NotPast : PySem.W.kitAny K (.type "NoneType") [.ref C_BadText, .ref C_NotKin, .ref C_NotPast] = some false) (i_ValueError : AllL (fun n C => PySem.W.kitOne K (.ref C) (.type "ValueError") = some (subX n "ValueError")) [("OtherSize", C_OtherSize)]) (j_ValueError : PySem.W.kitOne K (.type "NoneType") (.type "ValueError") = some false) (z_ValueError : mg "ValueError" = none) (at_size : AllL (fun _ C => XfC K C ∧ PySem.W.findIn K (.ref C) "size" = some none) [("OtherSize", C_OtherSize)])  : FnOk P w K mg base CX0 10 f fd ["_law_kind", "_law_door", "_law_start", "_law_thing"] (spD 4 p_law_refused_8) := by
  refine okDC (cl := (clT [("OtherSize", C_OtherSize)])) (k := 9) F sc_law_refused rfl (fun cdv A outer s H E hr => ?_) m_law_refused_8
  exact ⟨_, (pss_cons (ps_set (i := 4) sc_law_refused.nd rfl (by first | exact Or.inl rfl | exact Or.inr rfl) pe_non)
      (pss_cons (ps_try_tup (i := 5) (ts := fun _ _ _ => tAsg (tVar 5) (gName 4)) rfl rfl sc_law_refused.nd rfl rfl rfl (tst_6 ⟨by rfl, by decide, .inl g_BadText⟩ ⟨by rfl, by decide, .inl g_NoCommon⟩ ⟨by rfl, by decide, .inl g_NotKin⟩ ⟨by rfl, by decide, .inl g_NotPast⟩ ⟨by rfl, by decide, .inl g_OtherSize⟩ ⟨by rfl, by decide, .inl g_Unreachable⟩) (fun W pn xe tk1 pw1 => (pss_one (ps_if (pt_cmpR (eqK (K := K) rfl hr.units) (pv 0) pe_int (nomark _)) (pss_one (ps_expr (pe_callS x_law_two.ok (hr.mono (by decide)) (by rfl) x_law_two.g x_law_two.kp x_law_two.bd (fun σ => passAt tk1 σ) (pa_cons (pv 1) (pa_cons (pv 2) (pa_cons (pv 3) pa_nil)))))) (pss_one (ps_expr (pe_callS x_law_hope.ok (hr.mono (by decide)) (by rfl) x_law_hope.g x_law_hope.kp x_law_hope.bd (fun σ => passAt tk1 σ) (pa_cons (pv 1) (pa_cons (pv 2) (pa_cons (pv 3) pa_nil))))))))) (fun a oe cls d pn hz hf => pss_one (ps_set (i := 4) sc_law_refused.nd rfl (by first | exact Or.inl rfl | exact Or.inr rfl) (pv 5))))
      (pss_cons (ps_if (PW.pt (pw_or (pt_not (pt_truth (pe_callB (isXK (K := K) rfl) (by rfl) B.isinstance (by decide +kernel) (pa_cons (pv 4) (pa_cons (pe_glob (v := .ref C_OtherSize) (by rfl) g_OtherSize rfl) pa_nil))) (by intro _; rfl))) (pw_or1 (pt_truth (pe_callB (isXTK (K := K) rfl) (by rfl) B.isinstance (by decide +kernel) (pa_cons (pv 4) (pa_cons (pe_tup (pa_cons (pe_glob (v := .ref C_BadText) (by rfl) g_BadText rfl) (pa_cons (pe_glob (v := .ref C_NotKin) (by rfl) g_NotKin rfl) (pa_cons (pe_glob (v := .ref C_NotPast) (by rfl) g_NotPast rfl) pa_nil)))) pa_nil))) (by intro _; rfl))))) (pss_one (ps_ret pe_non)) pss_nil)
      (pss_one (ps_ret (pe_ifExp (pt_truth (pe_callB (isXK (K := K) rfl) (by rfl) B.isinstance (by decide +kernel) (pa_cons (pv 4) (pa_cons (pe_bltn (v := .ty "ValueError") (by rfl) z_ValueError (by decide +kernel) rfl) pa_nil))) (by intro _; rfl)) (xgK (K := K) rfl (pe_xg (pv 4))) pe_non)))))),
    (ss_seq (ss_set false se_non)
      (ss_seq (ss_try (fun nm C h1 h2 => allL e_BadText_NoCommon_NotKin_NotPast_OtherSize_Unreachable nm C h2 h1) (fun P0 W Ex1 => (ss_if (st_test (se_op r2_eq se_var se_int)) (ss_drop (se_callX monx_law_two (sa_cons se_var (sa_cons se_var (sa_cons se_var sa_nil))))) (ss_drop (se_callX monx_law_hope_2 (sa_cons se_var (sa_cons se_var (sa_cons se_var sa_nil))))))))
      (ss_seq (ss_if (st_or (st_not (st_truth (se_isX (allL xcs) (.own C_OtherSize) (allL i_OtherSize) j_OtherSize se_var))) (st_truth (se_isXT (cs := [.ref C_BadText, .ref C_NotKin, .ref C_NotPast]) (allL xcs) (.cons (.own C_BadText) (.cons (.own C_NotKin) (.cons (.own C_NotPast) .nil))) (allL i_BadText_NotKin_NotPast) j_BadText_NotKin_NotPast se_var (hl := (by decide : 3 ≤ PySem.sizeLine))))) (ss_ret se_non) ss_next)
      (ss_ret (se_if (st_truth (se_isX (allL xcs) (.ty "ValueError") (allL i_ValueError) j_ValueError se_var)) (se_attr (allL at_size) se_var) se_non)))))⟩
abbrev s_law_right : Stmt := topS 151
abbrev n_law_right : List Str := ["_law_source", "_law_start", "_law_mate", "_law_one_now", "_law_its", "_law_door", "_law_hope_here", "_law_spot"]
theorem sc_law_right : FnScope n_law_right ["_law_source"] (defScope s_law_right) := ⟨rfl, rfl, rfl, by decide +kernel, rfl, by decide +kernel, by decide +kernel⟩
theorem ok_law_right {f : Addr} {fd : FuncData} (F : Fun K "_law_right" "_law_right" s_law_right f fd) (B : Bi mg) {f_law_random_state : Addr} {e_law_random_state : FuncData} (c_law_random_state : Cal P w K mg base "_law_random_state" 4 ["_law_source", "_law_size"] (spD 2 p_law_random_state) f_law_random_state e_law_random_state) {f_law_draw : Addr} {e_law_draw : FuncData} (c_law_draw : Cal P w K mg base "_law_draw" 2 ["_law_source", "_law_bound"] (spD 2 p_law_take) f_law_draw e_law_draw) {f_law_pick : Addr} {e_law_pick : FuncData} (c_law_pick : Cal P w K mg base "_law_pick" 3 ["_law_source", "_law_some"] (spD 2 p_law_pick) f_law_pick e_law_pick) {f_law_same : Addr} {e_law_same : FuncData} (c_law_same : Cal P w K mg base "_law_same" 4 ["_law_found", "_law_due"] (spD 2 (p_law_same_3 3)) f_law_same e_law_same) {f_law_refused : Addr} {e_law_refused : FuncData} (c_law_refused : Cal P w K mg base "_law_refused" 10 ["_law_kind", "_law_door", "_law_start", "_law_thing"] (spD 4 p_law_refused_8) f_law_refused e_law_refused)    : FnOk P w K mg base CX0 11 f fd ["_law_source"] (spD 1 p_k97_law_right) := by
  refine okD (k := 10) F sc_law_right rfl (fun cdv A outer s H E hr => ?_) m_k97_law_right
  exact ⟨_, (pss_cons (ps_set (i := 1) sc_law_right.nd rfl (by first | exact Or.inl rfl | exact Or.inr rfl) (pe_call c_law_random_state.ok (hr.mono (by decide)) (by rfl) c_law_random_state.g c_law_random_state.kp c_law_random_state.bd .nil pass0 (pa_cons (pv 0) (pa_cons (pe_op (addK (K := K) rfl) pe_int (pe_call c_law_draw.ok (hr.mono (by decide)) (by rfl) c_law_draw.g c_law_draw.kp c_law_draw.bd .nil pass0 (pa_cons (pv 0) (pa_cons pe_int pa_nil)))) pa_nil))))
      (pss_cons (ps_set (i := 2) sc_law_right.nd rfl (by first | exact Or.inl rfl | exact Or.inr rfl) (pe_call c_law_random_state.ok (hr.mono (by decide)) (by rfl) c_law_random_state.g c_law_random_state.kp c_law_random_state.bd .nil pass0 (pa_cons (pv 0) (pa_cons (pe_call c_law_pick.ok (hr.mono (by decide)) (by rfl) c_law_pick.g c_law_pick.kp c_law_pick.bd .nil pass0 (pa_cons (pv 0) (pa_cons (pe_lst (pa_cons pe_int (pa_cons (pe_op op_sub (pe_callB (lenK (K := K) rfl) (by rfl) B.len (by decide +kernel) (pa_cons (pv 1) pa_nil)) pe_int) (pa_cons (pe_op (addK (K := K) rfl) (pe_callB (lenK (K := K) rfl) (by rfl) B.len (by decide +kernel) (pa_cons (pv 1) pa_nil)) pe_int) (pa_cons (pe_op (addK (K := K) rfl) (pe_callB (lenK (K := K) rfl) (by rfl) B.len (by decide +kernel) (pa_cons (pv 1) pa_nil)) pe_int) pa_nil))))) pa_nil))) pa_nil))))
      (pss_cons (ps_for PassesOwn.never rfl (seqK (K := K) rfl (pe_tupS (pa_cons (pe_tupS (pa_cons (pv 1) (pa_cons (pv 2) pa_nil))) (pa_cons (pe_tupS (pa_cons (pv 2) (pa_cons (pv 1) pa_nil))) pa_nil)))) (gtupK (K := K) rfl (pg_tup rfl (pgs_cons (pg_name (i := 3) sc_law_right.nd rfl (by first | exact Or.inl rfl | exact Or.inr rfl)) (pgs_cons (pg_name (i := 4) sc_law_right.nd rfl (by first | exact Or.inl rfl | exact Or.inr rfl)) pgs_nil)))) (pss_cons (ps_for PassesOwn.never rfl (pi_range1 (by rfl) B.range (pa_cons pe_int pa_nil)) (pg_name (i := 5) sc_law_right.nd rfl (by first | exact Or.inl rfl | exact Or.inr rfl)) (pss_one (ps_if (pt_not (pt_truth (pe_call c_law_same.ok (hr.mono (by decide)) (by rfl) c_law_same.g c_law_same.kp c_law_same.bd .nil pass0 (pa_cons (pe_call c_law_refused.ok (hr.mono (by decide)) (by rfl) c_law_refused.g c_law_refused.kp c_law_refused.bd .nil pass0 (pa_cons pe_int (pa_cons (pv 5) (pa_cons (pv 3) (pa_cons (pv 4) pa_nil))))) (pa_cons (pe_callB (lenK (K := K) rfl) (by rfl) B.len (by decide +kernel) (pa_cons (pv 4) pa_nil)) pa_nil))) (by intro _; rfl))) (pss_one (ps_ret pe_bl)) pss_nil)))
      (pss_cons (ps_set (i := 6) sc_law_right.nd rfl (by first | exact Or.inl rfl | exact Or.inr rfl) (pe_callTy (tupleK (K := K) rfl) (by rfl) B.tuple (by decide +kernel) (pa_cons (pe_lc (own := [("_law_spot", 7)]) (by rfl) sc_law_right.nd (seqK (K := K) rfl (pv 4)) (blkOk_by (own := [("_law_spot", 7)]) (N := n_law_right) (sc := (defScope s_law_right)) (by decide +kernel)) (fun _ _ _ _ _ => (pg_name (i := 7) sc_law_right.nd rfl (by first | exact Or.inl rfl | exact Or.inr rfl))) (fun _ _ _ _ _ => pts_nil) (fun _ _ _ _ _ => (pe_call c_law_pick.ok (hr.mono (by decide)) (by rfl) c_law_pick.g c_law_pick.kp c_law_pick.bd .nil pass0 (pa_cons (pv 0) (pa_cons (pe_lst (pa_cons pe_non (pa_cons pe_int (pa_cons (pv 7) pa_nil)))) pa_nil))))) pa_nil)))
      (pss_one (ps_for PassesOwn.never rfl (pi_range1 (by rfl) B.range (pa_cons pe_int pa_nil)) (pg_name (i := 5) sc_law_right.nd rfl (by first | exact Or.inl rfl | exact Or.inr rfl)) (pss_one (ps_if (pt_not (pt_truth (pe_call c_law_same.ok (hr.mono (by decide)) (by rfl) c_law_same.g c_law_same.kp c_law_same.bd .nil pass0 (pa_cons (pe_call c_law_refused.ok (hr.mono (by decide)) (by rfl) c_law_refused.g c_law_refused.kp c_law_refused.bd .nil pass0 (pa_cons pe_int (pa_cons (pv 5) (pa_cons (pv 3) (pa_cons (pv 6) pa_nil))))) (pa_cons (pe_callB (lenK (K := K) rfl) (by rfl) B.len (by decide +kernel) (pa_cons (pv 4) pa_nil)) pa_nil))) (by intro _; rfl))) (pss_one (ps_ret pe_bl)) pss_nil)))))))
      (pss_one (ps_ret pe_bl))))),
    (ss_seq (ss_set false (se_call mon_law_random_state (sa_cons se_var (sa_cons (se_op r2_add se_int (se_call mon_law_take (sa_cons se_var (sa_cons se_int sa_nil)))) sa_nil))))
      (ss_seq (ss_set false (se_call mon_law_random_state (sa_cons se_var (sa_cons (se_call mon_law_pick (sa_cons se_var (sa_cons (se_lst (sa_cons se_int (sa_cons (se_op r2_I (se_cb rc_len (sa_cons se_var sa_nil)) se_int) (sa_cons (se_op r2_add (se_cb rc_len (sa_cons se_var sa_nil)) se_int) (sa_cons (se_op r2_add (se_cb rc_len (sa_cons se_var sa_nil)) se_int) sa_nil))))) sa_nil))) sa_nil))))
      (ss_seq (ss_for (si_seq (se_tup (sa_cons (se_tup (sa_cons se_var (sa_cons se_var sa_nil))) (sa_cons (se_tup (sa_cons se_var (sa_cons se_var sa_nil))) sa_nil)))) (sg_tup (sgs_cons sg_name (sgs_cons sg_name sgs_nil))) (ss_seq (ss_for (si_rng1 (sa_cons se_int sa_nil)) sg_name (ss_if (st_not (st_truth (se_call (mon_law_same_3 3) (sa_cons (se_call mon_law_refused_8 (sa_cons se_int (sa_cons se_var (sa_cons se_var (sa_cons se_var sa_nil))))) (sa_cons (se_cb rc_len (sa_cons se_var sa_nil)) sa_nil))))) (ss_ret se_bl) ss_next))
      (ss_seq (ss_set false (se_cb rc_tuple (sa_cons (se_lc (si_seq se_var) sg_name st_yes (se_call mon_law_pick (sa_cons se_var (sa_cons (se_lst (sa_cons se_non (sa_cons se_int (sa_cons se_var sa_nil)))) sa_nil)))) sa_nil)))
      (ss_for (si_rng1 (sa_cons se_int sa_nil)) sg_name (ss_if (st_not (st_truth (se_call (mon_law_same_3 3) (sa_cons (se_call mon_law_refused_8 (sa_cons se_int (sa_cons se_var (sa_cons se_var (sa_cons se_var sa_nil))))) (sa_cons (se_cb rc_len (sa_cons se_var sa_nil)) sa_nil))))) (ss_ret se_bl) ss_next)))))
      (ss_ret se_bl))))⟩
abbrev s_law : Stmt := topS 152
abbrev nLaw : List Str := ["_law_script", "_law_cells", "_law_k", "_law_source", "_law_turn"]
theorem scLaw : FnScope nLaw ["_law_script"] (defScope s_law) := ⟨rfl, rfl, rfl, by decide +kernel, rfl, by decide +kernel, by decide +kernel⟩
theorem ok_law {f fC fB fR : Addr} {fd fdC fdB fdR : FuncData} (F : Fun K "law" "law" s_law f fd) (B : Bi mg) (C : Cal P w K mg base "_law_folded" 1 ["_law_script", "_law_most"] (spCells K) fC fdC)
    (X : Cal P w K mg base "_law_stream" 1 ["_law_script", "_law_k"] (spBox K) fB fdB) (R : Cal P w K mg base "_law_right" 11 ["_law_source"] (spD 1 p_k97_law_right) fR fdR) : FnOk P w K mg base CX0 12 f fd ["_law_script"] (spLaw K) := by
  refine Fun.ok (k := 11) F scLaw (fun vs H Q E h => ?_) (fun cdv A outer s H vs Q E hr h => ?_)
  · obtain ⟨a, ns, rfl, _⟩ := h
    rfl
  · obtain ⟨a, ns, rfl, hS, hl, q⟩ := h
    refine ⟨_, pss_cons (ps_set (i := 1) scLaw.nd rfl (.inl rfl) (pe_call C.ok (hr.mono (by decide)) (by rfl) C.g C.kp C.bd .nil pass0 (pa_cons (pv 0) (pa_cons pe_int pa_nil))))
      (pss_cons (ps_for PassesOwn.never rfl (pi_range1 (by rfl) B.range (pa_cons (pe_callB call_len_seq (by rfl) B.len PySem.boot_len (pa_cons (pv 1) pa_nil)) pa_nil)) (pg_name (i := 2) scLaw.nd rfl (.inl rfl))
        (pss_cons (ps_set (i := 3) scLaw.nd rfl (.inr rfl) (pe_call X.ok (hr.mono (by decide)) (by rfl) X.g X.kp X.bd .nil pass0 (pa_cons (pv 1) (pa_cons (pv 2) pa_nil))))
        (pss_one (ps_if (pt_not (pt_val (pe_callB (cr_all rfl) (by rfl) B.all (by decide +kernel) (pa_cons (pe_lc (own := [("_law_turn", 4)]) (g := gName 4) (tt := tYes) (by rfl) scLaw.nd (pi_range1 (by rfl) B.range (pa_cons pe_int pa_nil)) (blkOk_by (own := [("_law_turn", 4)]) (N := nLaw) (sc := defScope s_law) (by decide +kernel))
          (fun _ _ _ _ _ => pg_name (i := 4) scLaw.nd rfl (Or.inl rfl)) (fun _ _ _ _ _ => pts_nil) (fun _ _ _ _ _ => pe_call R.ok hr (by rfl) R.g R.kp R.bd .nil pass0 (pa_cons (pv 3) pa_nil))) pa_nil)))) pss_never pss_nil))))
      (pss_one (ps_ret pe_bl))), ?_⟩
    refine ⟨.ref a, rfl, a, _, ns, rfl, hS, by decide, by decide, fun H1 cA ms s1 nc hc l1 l2 => ?_⟩
    refine ⟨.ref cA, rfl, cA, _, rfl, .inl (SqL.of hc), _, rfl, ?_, ?_, ?_⟩
    · rw [List.length_map]; omega
    · rw [List.length_map]; omega
    refine for_it (walk_range (lo := 0)) (fun _ σ H3 => ∃ y2 y3, σ = [some (.ref a), some (.ref cA), y2, y3, none] ∧ H3 cA = some (.lst (IL ms))) ?_ ?_ ?_ ?_
    · exact ⟨none, none, rfl, hc⟩
    · intros; trivial
    · rintro i x σ H0 G hi ⟨y2, y3, rfl, hcG⟩ ⟨rfl, rfl⟩
      rw [List.length_map] at hi
      refine ⟨.ref cA, rfl, .int (0 + i), rfl, cA, _, ms, rfl, SqL.of hcG, by omega, by omega, fun H4 b s4 nb hB => ?_⟩
      have hc4 := s4 _ _ hcG
      have cb : cA ≠ b := ne_of_none hcG nb
      refine ⟨_, rfl, by decide, by decide, fun D nD => ?_⟩
      have bD : b ≠ D := hB.ne nD
      have cD : cA ≠ D := ne_of_none hc4 nD
      refine lc_range (lo := 0) (fun j H5 => H5 D = some (.lst (List.replicate j (.bl true))) ∧ Box H5 b (1000000 * j) ∧ H5 cA = some (.lst (IL ms))) ⟨upd_same, (hB.new nD).le (by omega), upd_keep hc4 nD⟩ ?_ ?_
      · rintro j H5 hj ⟨hD, hB5, hc5⟩
        have hj' : j < 2 := hj
        refine ⟨rfl, yes_ok ⟨.ref b, rfl, right_do2 (E := fun _ _ _ => False) (N := 1000000) hB5 (fun Q hQ => ⟨rfl, by omega, hQ⟩) fun H6 sb6 hB6 => ?_⟩⟩
        have hD6 := sb6 D _ (Ne.symm bD) hD
        refine ⟨_, hD6, ?_, ?_, ?_, ?_⟩
        · rw [List.length_replicate]; exact szl (by omega)
        · rw [upd_same, rep_app]
        · exact (hB6.put bD).le (by omega)
        · rw [upd_ne cD]; exact sb6 cA _ cb hc5
      · rintro H5 ⟨hD, hB5, hc5⟩
        refine ⟨D, List.replicate 2 true, rfl, ?_, true, ?_, iteF ⟨_, _, rfl, hc5⟩⟩
        · rw [rep_bl]; exact SqL.of hD
        · rw [rep_all]
    · rintro σ H3 ⟨y2, y3, rfl, _⟩
      exact q _

abbrev s_wall : Stmt := topS 0
abbrev s_is_person : Stmt := topS 17
abbrev s_state_of : Stmt := topS 18
abbrev s_check_person : Stmt := topS 19
abbrev s_route_from : Stmt := topS 20
abbrev s_turned : Stmt := topS 21
abbrev s_ring_begin : Stmt := topS 22
abbrev s_way : Stmt := topS 23
abbrev s_person_after : Stmt := topS 24
abbrev s_ring_of : Stmt := topS 25
abbrev s_rings : Stmt := topS 26
abbrev s_height : Stmt := topS 27
abbrev s_components : Stmt := topS 28
abbrev s_check_word : Stmt := topS 30
abbrev s_called : Stmt := topS 31
abbrev s_called_all : Stmt := topS 32
abbrev s_states_along : Stmt := topS 33
abbrev s_idle_calls : Stmt := topS 34
abbrev s_closed_rings : Stmt := topS 38
abbrev s_missed_way : Stmt := topS 39
abbrev s_second_ring : Stmt := topS 40
abbrev s_meets_first : Stmt := topS 41
abbrev s_order_broken : Stmt := topS 42
abbrev s_first_obstacle : Stmt := topS 43
abbrev s_are_apart : Stmt := topS 46
abbrev s_are_reversed : Stmt := topS 47
abbrev s_outside_calls : Stmt := topS 49
abbrev s_ring_calls : Stmt := topS 50
abbrev s_number_without : Stmt := topS 54
abbrev s_bypassed : Stmt := topS 55
abbrev s_is_settled : Stmt := topS 57
abbrev s_states_until_settled : Stmt := topS 58
abbrev s_pointer_later : Stmt := topS 59
abbrev s_repeated : Stmt := topS 60
abbrev s_changes_many : Stmt := topS 62
abbrev s_call_deed : Stmt := topS 63
abbrev s_run_deed : Stmt := topS 64
abbrev s_repeat_deed : Stmt := topS 65
abbrev s_leave_deed : Stmt := topS 68
abbrev s_is_deed : Stmt := topS 71
abbrev s_check_deeds : Stmt := topS 72
abbrev s_product : Stmt := topS 75
abbrev s_factorial : Stmt := topS 76
abbrev s_groups_of : Stmt := topS 77
abbrev s_number_in : Stmt := topS 78
abbrev s_ring_state : Stmt := topS 80
abbrev s_people_left : Stmt := topS 81
abbrev s_ring_pasts_many : Stmt := topS 82
abbrev s_lap_shares : Stmt := topS 83
abbrev s_is_ring_past : Stmt := topS 84
abbrev s_orders_many : Stmt := topS 86
abbrev s_has_only_roots : Stmt := topS 87
abbrev s_line_pasts_many : Stmt := topS 88
abbrev s_points_among : Stmt := topS 89
abbrev s_line_shares : Stmt := topS 90
abbrev s_is_line_past : Stmt := topS 91
abbrev s_check_roots : Stmt := topS 94
abbrev s_rest_with : Stmt := topS 95
abbrev s_people_bar : Stmt := topS 97
abbrev s_shared_members : Stmt := topS 98
abbrev s_merged : Stmt := topS 102
abbrev s_common_lap : Stmt := topS 103
abbrev s_code_of : Stmt := topS 109
abbrev s_futures_many : Stmt := topS 110
abbrev s_ends_in : Stmt := topS 111
abbrev s_member_shares : Stmt := topS 112
abbrev s_code_shares : Stmt := topS 113
abbrev s_kin_targets : Stmt := topS 117
abbrev s_kin_many : Stmt := topS 118
abbrev s_kin_shares : Stmt := topS 119
abbrev s_check_many : Stmt := topS 123
abbrev s_moves : Stmt := topS 124
abbrev s_first_words : Stmt := topS 125
abbrev s_all_futures : Stmt := topS 126
abbrev s_one_call_more : Stmt := topS 129
abbrev s_hub_of : Stmt := topS 135
abbrev s_can_point : Stmt := topS 137
end
theorem all_mk {l : PySem.W.OpenLaw} {w : World} {K : PySem.W.Frag} {h : Heap} {mg : Str → Option Value} {fa : Addr} (X : K.In h) (G : h.Ns mainGlobals mg) (hfa : mg "law" = some (.ref fa)) (Z : Zs K)
    (d0 : Dx K "_wall" s_wall) (d2 : Dx K "kept" s_kept) (d17 : Dx K "is_person" s_is_person) (d18 : Dx K "state_of" s_state_of) (d19 : Dx K "check_person" s_check_person) (d20 : Dx K "route_from" s_route_from) (d21 : Dx K "turned" s_turned) (d22 : Dx K "ring_begin" s_ring_begin) (d23 : Dx K "way" s_way) (d24 : Dx K "person_after" s_person_after) (d25 : Dx K "ring_of" s_ring_of) (d26 : Dx K "rings" s_rings) (d27 : Dx K "height" s_height) (d28 : Dx K "components" s_components) (d30 : Dx K "check_word" s_check_word) (d31 : Dx K "called" s_called) (d32 : Dx K "called_all" s_called_all) (d33 : Dx K "states_along" s_states_along) (d34 : Dx K "idle_calls" s_idle_calls) (d36 : Dx K "check_size" s_check_size) (d37 : Dx K "check_future" s_check_future) (d38 : Dx K "closed_rings" s_closed_rings) (d39 : Dx K "missed_way" s_missed_way) (d40 : Dx K "second_ring" s_second_ring) (d41 : Dx K "meets_first" s_meets_first) (d42 : Dx K "order_broken" s_order_broken) (d43 : Dx K "first_obstacle" s_first_obstacle) (d44 : Dx K "obstacle" s_obstacle) (d45 : Dx K "leads" s_leads) (d46 : Dx K "are_apart" s_are_apart) (d47 : Dx K "are_reversed" s_are_reversed) (d48 : Dx K "is_obstacle" s_is_obstacle) (d49 : Dx K "outside_calls" s_outside_calls) (d50 : Dx K "ring_calls" s_ring_calls) (d51 : Dx K "word_to" s_word_to) (d52 : Dx K "is_word_to" s_is_word_to) (d54 : Dx K "number_without" s_number_without) (d55 : Dx K "bypassed" s_bypassed) (d57 : Dx K "is_settled" s_is_settled) (d58 : Dx K "states_until_settled" s_states_until_settled) (d59 : Dx K "pointer_later" s_pointer_later) (d60 : Dx K "repeated" s_repeated) (d62 : Dx K "changes_many" s_changes_many) (d63 : Dx K "call_deed" s_call_deed) (d64 : Dx K "run_deed" s_run_deed) (d65 : Dx K "repeat_deed" s_repeat_deed) (d66 : Dx K "become_deed" s_become_deed) (d68 : Dx K "leave_deed" s_leave_deed) (d71 : Dx K "is_deed" s_is_deed) (d72 : Dx K "check_deeds" s_check_deeds) (d75 : Dx K "product" s_product) (d76 : Dx K "factorial" s_factorial) (d77 : Dx K "groups_of" s_groups_of) (d78 : Dx K "number_in" s_number_in) (d80 : Dx K "ring_state" s_ring_state) (d81 : Dx K "people_left" s_people_left) (d82 : Dx K "ring_pasts_many" s_ring_pasts_many) (d83 : Dx K "lap_shares" s_lap_shares) (d84 : Dx K "is_ring_past" s_is_ring_past) (d85 : Dx K "ring_past_number" s_ring_past_number) (d86 : Dx K "orders_many" s_orders_many) (d87 : Dx K "has_only_roots" s_has_only_roots) (d88 : Dx K "line_pasts_many" s_line_pasts_many) (d89 : Dx K "points_among" s_points_among) (d90 : Dx K "line_shares" s_line_shares) (d91 : Dx K "is_line_past" s_is_line_past) (d92 : Dx K "line_past_number" s_line_past_number) (d94 : Dx K "check_roots" s_check_roots) (d95 : Dx K "rest_with" s_rest_with) (d97 : Dx K "people_bar" s_people_bar) (d98 : Dx K "shared_members" s_shared_members) (d99 : Dx K "future_bar" s_future_bar) (d100 : Dx K "common_future" s_common_future) (d101 : Dx K "past_bar" s_past_bar) (d102 : Dx K "merged" s_merged) (d103 : Dx K "common_lap" s_common_lap) (d104 : Dx K "common_past" s_common_past) (d106 : Dx K "callers" s_callers) (d109 : Dx K "code_of" s_code_of) (d110 : Dx K "futures_many" s_futures_many) (d111 : Dx K "ends_in" s_ends_in) (d112 : Dx K "member_shares" s_member_shares) (d113 : Dx K "code_shares" s_code_shares) (d114 : Dx K "number_of" s_number_of) (d116 : Dx K "are_kin" s_are_kin) (d117 : Dx K "kin_targets" s_kin_targets) (d118 : Dx K "kin_many" s_kin_many) (d119 : Dx K "kin_shares" s_kin_shares) (d120 : Dx K "kin_number" s_kin_number) (d123 : Dx K "check_many" s_check_many) (d124 : Dx K "moves" s_moves) (d125 : Dx K "first_words" s_first_words) (d126 : Dx K "all_futures" s_all_futures) (d127 : Dx K "first_word" s_first_word) (d128 : Dx K "distance" s_distance) (d129 : Dx K "one_call_more" s_one_call_more) (d130 : Dx K "words_many" s_words_many) (d132 : Dx K "meets" s_meets) (d133 : Dx K "wish_obstacle" s_wish_obstacle) (d134 : Dx K "check_wish" s_check_wish) (d135 : Dx K "hub_of" s_hub_of) (d136 : Dx K "granted" s_granted) (d137 : Dx K "can_point" s_can_point) (d138 : Dx K "pointers_for" s_pointers_for) (d139 : Dx K "forced" s_forced) (d141 : Dx K "_law_stream" sBox) (d142 : Dx K "_law_draw" sTake) (d143 : Dx K "_law_folded" sCells) (d144 : Dx K "_law_pick" s_law_pick) (d145 : Dx K "_law_same" s_law_same) (d146 : Dx K "_law_shuffled" s_law_shuffled) (d147 : Dx K "_law_random_state" s_law_random_state) (d148 : Dx K "_law_two" s_law_two) (d149 : Dx K "_law_hope" s_law_hope) (d150 : Dx K "_law_refused" s_law_refused) (d151 : Dx K "_law_right" s_law_right) (d152 : Dx K "law" s_law) {C_BadText C_NoCommon C_NotKin C_NotPast C_OtherSize C_Unreachable : Addr} {fI_OtherSize : Addr} {CiC CiD fCi : Addr} {fm_act fm_state fm_become : Addr}  (cg_BadText : PySem.W.nsIn K mainGlobals "BadText" = some (some (.ref C_BadText))) (cg_NoCommon : PySem.W.nsIn K mainGlobals "NoCommon" = some (some (.ref C_NoCommon))) (cg_NotKin : PySem.W.nsIn K mainGlobals "NotKin" = some (some (.ref C_NotKin))) (cg_NotPast : PySem.W.nsIn K mainGlobals "NotPast" = some (some (.ref C_NotPast))) (cg_OtherSize : PySem.W.nsIn K mainGlobals "OtherSize" = some (some (.ref C_OtherSize))) (cg_Unreachable : PySem.W.nsIn K mainGlobals "Unreachable" = some (some (.ref C_Unreachable))) (cf_OtherSize : ClF K C_OtherSize bm_ValueError "ValueError.__new__") (ci_OtherSize : PySem.W.findIn K (.ref C_OtherSize) "__init__" = some (some (.ref fI_OtherSize))) (ct_OtherSize : PySem.W.typeIn K (.ref fI_OtherSize) = some (.type "function")) (cn_OtherSize : PySem.W.findIn K (.ref C_OtherSize) "size" = some none) (ce_OtherSize : ∃ fd, Fun K "__init__" "OtherSize.__init__" s_init_OtherSize fI_OtherSize fd) (ca_OtherSize_size : PySem.W.findIn K (.ref C_OtherSize) "size" = some none) (cz_ValueError : PySem.W.nsIn K mainGlobals "ValueError" = some none) (cv_ValueError : PySem.W.findCls K (.type "ValueError") (.type "type") "__init__" = some (.val (.builtin "ValueError.__init__"))) (e_BadText_NoCommon_NotKin_NotPast_OtherSize_Unreachable : AllL (fun n C => (["BadText", "NoCommon", "NotKin", "NotPast", "OtherSize", "Unreachable"] : List Str).contains n = true → PySem.W.exmAny K (.ref C) [.ref C_BadText, .ref C_NoCommon, .ref C_NotKin, .ref C_NotPast, .ref C_OtherSize, .ref C_Unreachable] = some true) [("OtherSize", C_OtherSize)]) (i_OtherSize : AllL (fun n C => PySem.W.kitOne K (.ref C) (.ref C_OtherSize) = some (subX n "OtherSize")) [("OtherSize", C_OtherSize)]) (j_OtherSize : PySem.W.kitOne K (.type "NoneType") (.ref C_OtherSize) = some false) (i_BadText_NotKin_NotPast : AllL (fun n C => PySem.W.kitAny K (.ref C) [.ref C_BadText, .ref C_NotKin, .ref C_NotPast] = some ((["BadText", "NotKin", "NotPast"] : List Str).any (subX n))) [("OtherSize", C_OtherSize)]) (j_BadText_NotKin_NotPast : PySem.W.kitAny K (.type "NoneType") [.ref C_BadText, .ref C_NotKin, .ref C_NotPast] = some false) (i_ValueError : AllL (fun n C => PySem.W.kitOne K (.ref C) (.type "ValueError") = some (subX n "ValueError")) [("OtherSize", C_OtherSize)]) (j_ValueError : PySem.W.kitOne K (.type "NoneType") (.type "ValueError") = some false) (cgCi : PySem.W.nsIn K mainGlobals "Circle" = some (some (.ref CiC))) (cdCi : PySem.W.nsIn K mainGlobals "DEEDS" = some (some (.ref CiD))) (cx0 : PySem.W.makesIn K CiC = true) (cx1 : PySem.W.findIn K (.ref CiC) "__init__" = some (some (.ref fCi))) (cx2 : PySem.W.isFn K (.ref fCi) = true) (cx3 : PySem.W.keepIn K (.ref CiC) = true) (cx4 : PySem.W.plainGet K CiC Str.empty = true) (cx5 : PySem.W.hasDictIn K CiC = true) (cx6 : PySem.W.plainOver K CiC = true) (cx7 : PySem.W.findIn K (.ref CiC) "__setattr__" = some (some (.builtin "object.__setattr__"))) (cx8 : PySem.W.findIn K (.ref CiC) "along" = some none) (cx9 : PySem.W.findIn K (.ref CiC) "entries" = some none) (ceI : ∃ fd, Fun K "__init__" "Circle.__init__" s_ci_init fCi fd) (cfm_act : PySem.W.findIn K (.ref CiC) "act" = some (some (.ref fm_act))) (cim_act : PySem.W.isFn K (.ref fm_act) = true) (ckm_act : PySem.W.keepIn K (.ref fm_act) = true) (cem_act : ∃ fd, Fun K "act" "Circle.act" s_ci_act fm_act fd) (cfm_state : PySem.W.findIn K (.ref CiC) "state" = some (some (.ref fm_state))) (cim_state : PySem.W.isFn K (.ref fm_state) = true) (ckm_state : PySem.W.keepIn K (.ref fm_state) = true) (cem_state : ∃ fd, Fun K "state" "Circle.state" s_ci_state fm_state fd) (cfm_become : PySem.W.findIn K (.ref CiC) "become" = some (some (.ref fm_become))) (cim_become : PySem.W.isFn K (.ref fm_become) = true) (ckm_become : PySem.W.keepIn K (.ref fm_become) = true) (cem_become : ∃ fd, Fun K "become" "Circle.become" s_ci_become fm_become fd) (cDD : ∃ es n, KDict K w CiD es n) (ckd_become : ∃ f, PySem.W.nsIn K mainGlobals "become_deed" = some (some (.ref f)) ∧ PySem.W.nsIn K CiD "become" = some (some (.ref f))) :
    ∃ fd : FuncData, (∀ (s : Shared) (v : Value), BindsTo s fd ⟨[v], []⟩ [("_law_script", v)]) ∧ ∀ base : Heap, K.In base → base.Ns mainGlobals mg → FnOk l.prog w K mg base CX0 12 fa fd ["_law_script"] (spLaw K) := by
  have B := Z.bi X G
  obtain ⟨f0, e0, F0, g0⟩ := d0.fn X G
  obtain ⟨f2, e2, F2, g2⟩ := d2.fn X G
  obtain ⟨f17, e17, F17, g17⟩ := d17.fn X G
  obtain ⟨f18, e18, F18, g18⟩ := d18.fn X G
  obtain ⟨f19, e19, F19, g19⟩ := d19.fn X G
  obtain ⟨f20, e20, F20, g20⟩ := d20.fn X G
  obtain ⟨f21, e21, F21, g21⟩ := d21.fn X G
  obtain ⟨f22, e22, F22, g22⟩ := d22.fn X G
  obtain ⟨f23, e23, F23, g23⟩ := d23.fn X G
  obtain ⟨f24, e24, F24, g24⟩ := d24.fn X G
  obtain ⟨f25, e25, F25, g25⟩ := d25.fn X G
  obtain ⟨f26, e26, F26, g26⟩ := d26.fn X G
  obtain ⟨f27, e27, F27, g27⟩ := d27.fn X G
  obtain ⟨f28, e28, F28, g28⟩ := d28.fn X G
  obtain ⟨f30, e30, F30, g30⟩ := d30.fn X G
  obtain ⟨f31, e31, F31, g31⟩ := d31.fn X G
  obtain ⟨f32, e32, F32, g32⟩ := d32.fn X G
  obtain ⟨f33, e33, F33, g33⟩ := d33.fn X G
  obtain ⟨f34, e34, F34, g34⟩ := d34.fn X G
  obtain ⟨f36, e36, F36, g36⟩ := d36.fn X G
  obtain ⟨f37, e37, F37, g37⟩ := d37.fn X G
  obtain ⟨f38, e38, F38, g38⟩ := d38.fn X G
  obtain ⟨f39, e39, F39, g39⟩ := d39.fn X G
  obtain ⟨f40, e40, F40, g40⟩ := d40.fn X G
  obtain ⟨f41, e41, F41, g41⟩ := d41.fn X G
  obtain ⟨f42, e42, F42, g42⟩ := d42.fn X G
  obtain ⟨f43, e43, F43, g43⟩ := d43.fn X G
  obtain ⟨f44, e44, F44, g44⟩ := d44.fn X G
  obtain ⟨f45, e45, F45, g45⟩ := d45.fn X G
  obtain ⟨f46, e46, F46, g46⟩ := d46.fn X G
  obtain ⟨f47, e47, F47, g47⟩ := d47.fn X G
  obtain ⟨f48, e48, F48, g48⟩ := d48.fn X G
  obtain ⟨f49, e49, F49, g49⟩ := d49.fn X G
  obtain ⟨f50, e50, F50, g50⟩ := d50.fn X G
  obtain ⟨f51, e51, F51, g51⟩ := d51.fn X G
  obtain ⟨f52, e52, F52, g52⟩ := d52.fn X G
  obtain ⟨f54, e54, F54, g54⟩ := d54.fn X G
  obtain ⟨f55, e55, F55, g55⟩ := d55.fn X G
  obtain ⟨f57, e57, F57, g57⟩ := d57.fn X G
  obtain ⟨f58, e58, F58, g58⟩ := d58.fn X G
  obtain ⟨f59, e59, F59, g59⟩ := d59.fn X G
  obtain ⟨f60, e60, F60, g60⟩ := d60.fn X G
  obtain ⟨f62, e62, F62, g62⟩ := d62.fn X G
  obtain ⟨f63, e63, F63, g63⟩ := d63.fn X G
  obtain ⟨f64, e64, F64, g64⟩ := d64.fn X G
  obtain ⟨f65, e65, F65, g65⟩ := d65.fn X G
  obtain ⟨f66, e66, F66, g66⟩ := d66.fn X G
  obtain ⟨f68, e68, F68, g68⟩ := d68.fn X G
  obtain ⟨f71, e71, F71, g71⟩ := d71.fn X G
  obtain ⟨f72, e72, F72, g72⟩ := d72.fn X G
  obtain ⟨f75, e75, F75, g75⟩ := d75.fn X G
  obtain ⟨f76, e76, F76, g76⟩ := d76.fn X G
  obtain ⟨f77, e77, F77, g77⟩ := d77.fn X G
  obtain ⟨f78, e78, F78, g78⟩ := d78.fn X G
  obtain ⟨f80, e80, F80, g80⟩ := d80.fn X G
  obtain ⟨f81, e81, F81, g81⟩ := d81.fn X G
  obtain ⟨f82, e82, F82, g82⟩ := d82.fn X G
  obtain ⟨f83, e83, F83, g83⟩ := d83.fn X G
  obtain ⟨f84, e84, F84, g84⟩ := d84.fn X G
  obtain ⟨f85, e85, F85, g85⟩ := d85.fn X G
  obtain ⟨f86, e86, F86, g86⟩ := d86.fn X G
  obtain ⟨f87, e87, F87, g87⟩ := d87.fn X G
  obtain ⟨f88, e88, F88, g88⟩ := d88.fn X G
  obtain ⟨f89, e89, F89, g89⟩ := d89.fn X G
  obtain ⟨f90, e90, F90, g90⟩ := d90.fn X G
  obtain ⟨f91, e91, F91, g91⟩ := d91.fn X G
  obtain ⟨f92, e92, F92, g92⟩ := d92.fn X G
  obtain ⟨f94, e94, F94, g94⟩ := d94.fn X G
  obtain ⟨f95, e95, F95, g95⟩ := d95.fn X G
  obtain ⟨f97, e97, F97, g97⟩ := d97.fn X G
  obtain ⟨f98, e98, F98, g98⟩ := d98.fn X G
  obtain ⟨f99, e99, F99, g99⟩ := d99.fn X G
  obtain ⟨f100, e100, F100, g100⟩ := d100.fn X G
  obtain ⟨f101, e101, F101, g101⟩ := d101.fn X G
  obtain ⟨f102, e102, F102, g102⟩ := d102.fn X G
  obtain ⟨f103, e103, F103, g103⟩ := d103.fn X G
  obtain ⟨f104, e104, F104, g104⟩ := d104.fn X G
  obtain ⟨f106, e106, F106, g106⟩ := d106.fn X G
  obtain ⟨f109, e109, F109, g109⟩ := d109.fn X G
  obtain ⟨f110, e110, F110, g110⟩ := d110.fn X G
  obtain ⟨f111, e111, F111, g111⟩ := d111.fn X G
  obtain ⟨f112, e112, F112, g112⟩ := d112.fn X G
  obtain ⟨f113, e113, F113, g113⟩ := d113.fn X G
  obtain ⟨f114, e114, F114, g114⟩ := d114.fn X G
  obtain ⟨f116, e116, F116, g116⟩ := d116.fn X G
  obtain ⟨f117, e117, F117, g117⟩ := d117.fn X G
  obtain ⟨f118, e118, F118, g118⟩ := d118.fn X G
  obtain ⟨f119, e119, F119, g119⟩ := d119.fn X G
  obtain ⟨f120, e120, F120, g120⟩ := d120.fn X G
  obtain ⟨f123, e123, F123, g123⟩ := d123.fn X G
  obtain ⟨f124, e124, F124, g124⟩ := d124.fn X G
  obtain ⟨f125, e125, F125, g125⟩ := d125.fn X G
  obtain ⟨f126, e126, F126, g126⟩ := d126.fn X G
  obtain ⟨f127, e127, F127, g127⟩ := d127.fn X G
  obtain ⟨f128, e128, F128, g128⟩ := d128.fn X G
  obtain ⟨f129, e129, F129, g129⟩ := d129.fn X G
  obtain ⟨f130, e130, F130, g130⟩ := d130.fn X G
  obtain ⟨f132, e132, F132, g132⟩ := d132.fn X G
  obtain ⟨f133, e133, F133, g133⟩ := d133.fn X G
  obtain ⟨f134, e134, F134, g134⟩ := d134.fn X G
  obtain ⟨f135, e135, F135, g135⟩ := d135.fn X G
  obtain ⟨f136, e136, F136, g136⟩ := d136.fn X G
  obtain ⟨f137, e137, F137, g137⟩ := d137.fn X G
  obtain ⟨f138, e138, F138, g138⟩ := d138.fn X G
  obtain ⟨f139, e139, F139, g139⟩ := d139.fn X G
  obtain ⟨f141, e141, F141, g141⟩ := d141.fn X G
  obtain ⟨f142, e142, F142, g142⟩ := d142.fn X G
  obtain ⟨f143, e143, F143, g143⟩ := d143.fn X G
  obtain ⟨f144, e144, F144, g144⟩ := d144.fn X G
  obtain ⟨f145, e145, F145, g145⟩ := d145.fn X G
  obtain ⟨f146, e146, F146, g146⟩ := d146.fn X G
  obtain ⟨f147, e147, F147, g147⟩ := d147.fn X G
  obtain ⟨f148, e148, F148, g148⟩ := d148.fn X G
  obtain ⟨f149, e149, F149, g149⟩ := d149.fn X G
  obtain ⟨f150, e150, F150, g150⟩ := d150.fn X G
  obtain ⟨f151, e151, F151, g151⟩ := d151.fn X G
  obtain ⟨f152, e152, F152, g152⟩ := d152.fn X G
  have g_BadText := PySem.W.mg_of X G cg_BadText
  have g_NoCommon := PySem.W.mg_of X G cg_NoCommon
  have g_NotKin := PySem.W.mg_of X G cg_NotKin
  have g_NotPast := PySem.W.mg_of X G cg_NotPast
  have g_OtherSize := PySem.W.mg_of X G cg_OtherSize
  have g_Unreachable := PySem.W.mg_of X G cg_Unreachable
  have gCi := PySem.W.mg_of X G cgCi
  have gCD := PySem.W.mg_of X G cdCi
  obtain ⟨edI, FiI⟩ := ceI
  obtain ⟨eDD, nDD, KDD⟩ := cDD
  obtain ⟨ed_act, Fm_act⟩ := cem_act
  obtain ⟨ed_state, Fm_state⟩ := cem_state
  obtain ⟨ed_become, Fm_become⟩ := cem_become
  have z_ValueError := PySem.W.mg_none_of X G cz_ValueError
  obtain ⟨ed_OtherSize, Fi_OtherSize⟩ := ce_OtherSize
  have xcs : AllL (fun _ C => ExcC K C) [("OtherSize", C_OtherSize)] := ⟨cf_OtherSize.xc, trivial⟩
  have at_size : AllL (fun _ C => XfC K C ∧ PySem.W.findIn K (.ref C) "size" = some none) [("OtherSize", C_OtherSize)] := ⟨⟨cf_OtherSize.xf, ca_OtherSize_size⟩, trivial⟩
  cases hfa.symm.trans g152
  refine ⟨e152, fun s v => ?_, fun base _ _ => ?_⟩
  · obtain ⟨oc, od, kV, doc, pm, an, cdv, ct, osl, rfl, lk, hcd⟩ := F152.ex
    exact .of_eq rfl
  · letI : Fns := ⟨fun n => if n = ("Circle" : Str) then .ref CiC else if n = ("future_bar" : Str) then .ref f99 else if n = ("common_future" : Str) then .ref f100 else if n = ("past_bar" : Str) then .ref f101 else if n = ("common_past" : Str) then .ref f104 else if n = ("ring_past_number" : Str) then .ref f85 else if n = ("line_past_number" : Str) then .ref f92 else .non⟩
    have hF_Circle : FN "Circle" = .ref CiC := by first | rfl | (show (if _ then _ else _) = _; simp) | simp [FN, Fns.v]
    have hF_future_bar : FN "future_bar" = .ref f99 := by first | rfl | (show (if _ then _ else _) = _; simp) | simp [FN, Fns.v]
    have hF_common_future : FN "common_future" = .ref f100 := by first | rfl | (show (if _ then _ else _) = _; simp) | simp [FN, Fns.v]
    have hF_past_bar : FN "past_bar" = .ref f101 := by first | rfl | (show (if _ then _ else _) = _; simp) | simp [FN, Fns.v]
    have hF_common_past : FN "common_past" = .ref f104 := by first | rfl | (show (if _ then _ else _) = _; simp) | simp [FN, Fns.v]
    have hF_ring_past_number : FN "ring_past_number" = .ref f85 := by first | rfl | (show (if _ then _ else _) = _; simp) | simp [FN, Fns.v]
    have hF_line_past_number : FN "line_past_number" = .ref f92 := by first | rfl | (show (if _ then _ else _) = _; simp) | simp [FN, Fns.v]
    have bd142 : Binds K e142 ["_law_source", "_law_bound"] [] := b2 F142 fun _ _ _ _ _ _ _ _ => rfl
    have u142 : Cal l.prog w K mg base "_law_draw" 1 ["_law_source", "_law_bound"] spTake f142 e142 := ⟨ok_take F142, g142, F142.kp, bd142⟩
    have t142 : Cal l.prog w K mg base "_law_draw" 2 ["_law_source", "_law_bound"] (spD 2 p_law_take) f142 e142 := ⟨FnOk.imp (ok_takeW F142 u142) fun _ _ _ _ h => take_imp h, g142, F142.kp, bd142⟩
    have bd141 : Binds K e141 ["_law_script", "_law_k"] [] := b2 F141 fun _ _ _ _ _ _ _ _ => rfl
    have t141 : Cal l.prog w K mg base "_law_stream" 1 ["_law_script", "_law_k"] (spBox K) f141 e141 := ⟨ok_box F141 B, g141, F141.kp, bd141⟩
    have bd2 : Binds K e2 ["value"] [] := b1 F2 fun _ _ _ _ _ _ _ => rfl
    have t2 : Cal l.prog w K mg base "kept" 1 ["value"] spKept f2 e2 := ⟨okX_kept F2 B, g2, F2.kp, bd2⟩
    have r_OtherSize : Ini l.prog w K mg base "OtherSize" "size" C_OtherSize 1 := ⟨_, _, _, _, fI_OtherSize, ed_OtherSize, cf_OtherSize.ox_ValueError, ci_OtherSize, ct_OtherSize, ok_init_OtherSize Fi_OtherSize B z_ValueError cv_ValueError cf_OtherSize.ox_ValueError cn_OtherSize, Fi_OtherSize.binds fun kV doc pm an cdv ct us hl => match us, hl with | [u, v], _ => rfl⟩
    have T_ci : CirT K CiC := ⟨⟨cx4, cx5, cx6, cx7⟩, cx8, cx9⟩
    have t_ci : CirI l.prog w K mg base CiC fCi edI := ⟨⟨cx0, cx1, cx2, cx3⟩, ok_ci_init FiI B T_ci, gCi, FiI.binds fun kV doc pm an cdv ct us hl => match us, hl with | [u0, u1], _ => rfl⟩
    have tp_state : CirP l.prog w K mg base CiC "state" p_ci_state fm_state ed_state := ⟨ok_ci_state Fm_state T_ci hF_Circle, ⟨cfm_state, cim_state, ckm_state⟩, Fm_state.binds fun kV doc pm an cdv ct us hl => match us, hl with | [u0], _ => rfl, T_ci⟩
    have bd144 : Binds K e144 ["_law_source", "_law_some"] [] := b2 F144 fun _ _ _ _ _ _ _ _ => rfl
    have t144 : Cal l.prog w K mg base "_law_pick" 3 ["_law_source", "_law_some"] (spD 2 p_law_pick) f144 e144 := ⟨ok_law_pick F144 B t142    , g144, F144.kp, bd144⟩
    have bd145 : Binds K e145 ["_law_found", "_law_due"] [] := b2 F145 fun _ _ _ _ _ _ _ _ => rfl
    have t145 : Cal l.prog w K mg base "_law_same" 4 ["_law_found", "_law_due"] (spD 2 (p_law_same_3 3)) f145 e145 := ⟨ok_law_same F145 B g145 bd145 3, g145, F145.kp, bd145⟩
    have bd146 : Binds K e146 ["_law_source", "_law_some"] [] := b2 F146 fun _ _ _ _ _ _ _ _ => rfl
    have t146 : Cal l.prog w K mg base "_law_shuffled" 3 ["_law_source", "_law_some"] (spD 2 p_law_strewn_2) f146 e146 := ⟨ok_law_shuffled F146 B t142    , g146, F146.kp, bd146⟩
    have bd147 : Binds K e147 ["_law_source", "_law_size"] [] := b2 F147 fun _ _ _ _ _ _ _ _ => rfl
    have t147 : Cal l.prog w K mg base "_law_random_state" 4 ["_law_source", "_law_size"] (spD 2 p_law_random_state) f147 e147 := ⟨ok_law_random_state F147 B t146 t142    , g147, F147.kp, bd147⟩
    have bd36 : Binds K e36 ["state", "other"] [] := b2 F36 fun _ _ _ _ _ _ _ _ => rfl
    have tx36 : CalX l.prog w K mg base (clT [("OtherSize", C_OtherSize)]) "check_size" 3 ["state", "other"] q_check_sizeS f36 e36 := ⟨okx_check_size F36 B    r_OtherSize g_OtherSize , g36, F36.kp, bd36⟩
    have bd138 : Binds K e138 ["state", "wish", "person"] [] := b3 F138 fun _ _ _ _ _ _ _ _ _ => rfl
    have tx138 : CalX l.prog w K mg base (clT [("OtherSize", C_OtherSize)]) "pointers_for" 4 ["state", "wish", "person"] q_pointers_forS f138 e138 := ⟨okx_pointers_for F138 B    tx36 , g138, F138.kp, bd138⟩
    have bd133 : Binds K e133 ["state", "wish"] [] := b2 F133 fun _ _ _ _ _ _ _ _ => rfl
    have tx133 : CalX l.prog w K mg base (clT [("OtherSize", C_OtherSize)]) "wish_obstacle" 4 ["state", "wish"] q_wish_obstacleS f133 e133 := ⟨okx_wish_obstacle F133 B    tx36 , g133, F133.kp, bd133⟩
    have bd134 : Binds K e134 ["state", "wish"] [] := b2 F134 fun _ _ _ _ _ _ _ _ => rfl
    have tx134 : CalX l.prog w K mg base (clT [("OtherSize", C_OtherSize)]) "check_wish" 5 ["state", "wish"] q_check_wishS f134 e134 := ⟨okx_check_wish F134 B    tx133 , g134, F134.kp, bd134⟩
    have bd139 : Binds K e139 ["state", "wish"] [] := b2 F139 fun _ _ _ _ _ _ _ _ => rfl
    have tx139 : CalX l.prog w K mg base (clT [("OtherSize", C_OtherSize)]) "forced" 6 ["state", "wish"] q_forcedS f139 e139 := ⟨okx_forced F139 B    tx134 , g139, F139.kp, bd139⟩
    have bd136 : Binds K e136 ["state", "wish"] [] := b2 F136 fun _ _ _ _ _ _ _ _ => rfl
    have tx136 : CalX l.prog w K mg base (clT [("OtherSize", C_OtherSize)]) "granted" 6 ["state", "wish"] q_grantedS f136 e136 := ⟨okx_granted F136 B    tx134 , g136, F136.kp, bd136⟩
    have bd132 : Binds K e132 ["state", "wish"] [] := b2 F132 fun _ _ _ _ _ _ _ _ => rfl
    have tx132 : CalX l.prog w K mg base (clT [("OtherSize", C_OtherSize)]) "meets" 4 ["state", "wish"] q_meetsS f132 e132 := ⟨okx_meets F132 B    tx36 , g132, F132.kp, bd132⟩
    have bd149 : Binds K e149 ["_law_door", "_law_start", "_law_hope_here"] [] := b3 F149 fun _ _ _ _ _ _ _ _ _ => rfl
    have tx149 : CalX l.prog w K mg base (clT [("OtherSize", C_OtherSize)]) "_law_hope" 7 ["_law_door", "_law_start", "_law_hope_here"] q_law_hope_2 f149 e149 := ⟨okx_law_hope F149 B    tx132 tx133 tx136 tx139 tx138 , g149, F149.kp, bd149⟩
    have bd44 : Binds K e44 ["state", "goal"] [] := b2 F44 fun _ _ _ _ _ _ _ _ => rfl
    have tx44 : CalX l.prog w K mg base (clT [("OtherSize", C_OtherSize)]) "obstacle" 4 ["state", "goal"] q_obstacleS f44 e44 := ⟨okx_obstacle F44 B    tx36 , g44, F44.kp, bd44⟩
    have bd37 : Binds K e37 ["state", "goal"] [] := b2 F37 fun _ _ _ _ _ _ _ _ => rfl
    have tx37 : CalX l.prog w K mg base (clT [("OtherSize", C_OtherSize)]) "check_future" 5 ["state", "goal"] q_check_futureS f37 e37 := ⟨okx_check_future F37 B    tx44 , g37, F37.kp, bd37⟩
    have bd66 : Binds K e66 ["state", "goal"] [] := b2 F66 fun _ _ _ _ _ _ _ _ => rfl
    have tx66 : CalX l.prog w K mg base (clT [("OtherSize", C_OtherSize)]) "become_deed" 6 ["state", "goal"] q_become_deedS f66 e66 := ⟨okx_become_deed F66 B    tx37 , g66, F66.kp, bd66⟩
    have kd_become : KDct K w CiD "become" (.ref f66) := by
      obtain ⟨fk, ka, kb⟩ := ckd_become
      cases (PySem.W.mg_of X G ka).symm.trans g66
      exact ⟨eDD, nDD, _, KDD.at_, KDD.lit, kb, rfl⟩
    have tm_become : CirM l.prog w K mg base (clT [("OtherSize", C_OtherSize)]) CiC "become" 8 ["self", "goal"] (q_ci q_become_deedS) fm_become ed_become := ⟨ok_ci_become Fm_become T_ci ⟨cfm_act, cim_act, ckm_act⟩ (ok_ci_act (cl := (clT [("OtherSize", C_OtherSize)])) (k := 6) Fm_act gCD tp_state (by decide) hF_Circle) ⟨_, _, _, kd_become, rfl, tx66.ok, tx66.kp, tx66.bd⟩ monx_become_deedS hF_Circle, ⟨cfm_become, cim_become, ckm_become⟩, Fm_become.binds fun kV doc pm an cdv ct us hl => match us, hl with | [u0, u1], _ => rfl, T_ci⟩
    have bd130 : Binds K e130 ["state", "goal", "size"] [] := b3 F130 fun _ _ _ _ _ _ _ _ _ => rfl
    have tx130 : CalX l.prog w K mg base (clT [("OtherSize", C_OtherSize)]) "words_many" 4 ["state", "goal", "size"] q_words_manyS f130 e130 := ⟨okx_words_many F130 B    tx36 , g130, F130.kp, bd130⟩
    have bd52 : Binds K e52 ["state", "goal", "value"] [] := b3 F52 fun _ _ _ _ _ _ _ _ _ => rfl
    have tx52 : CalX l.prog w K mg base (clT [("OtherSize", C_OtherSize)]) "is_word_to" 4 ["state", "goal", "value"] q_is_word_toS f52 e52 := ⟨okx_is_word_to F52 B    tx36 , g52, F52.kp, bd52⟩
    have bd48 : Binds K e48 ["state", "goal", "value"] [] := b3 F48 fun _ _ _ _ _ _ _ _ _ => rfl
    have tx48 : CalX l.prog w K mg base (clT [("OtherSize", C_OtherSize)]) "is_obstacle" 4 ["state", "goal", "value"] q_is_obstacleS f48 e48 := ⟨okx_is_obstacle F48 B    tx36 , g48, F48.kp, bd48⟩
    have bd127 : Binds K e127 ["state", "goal"] [] := b2 F127 fun _ _ _ _ _ _ _ _ => rfl
    have tx127 : CalX l.prog w K mg base (clT [("OtherSize", C_OtherSize)]) "first_word" 4 ["state", "goal"] q_first_wordS f127 e127 := ⟨okx_first_word F127 B    tx36 , g127, F127.kp, bd127⟩
    have bd128 : Binds K e128 ["state", "goal"] [] := b2 F128 fun _ _ _ _ _ _ _ _ => rfl
    have tx128 : CalX l.prog w K mg base (clT [("OtherSize", C_OtherSize)]) "distance" 5 ["state", "goal"] q_distanceS f128 e128 := ⟨okx_distance F128 B    tx127 , g128, F128.kp, bd128⟩
    have bd106 : Binds K e106 ["state", "later"] [] := b2 F106 fun _ _ _ _ _ _ _ _ => rfl
    have tx106 : CalX l.prog w K mg base (clT [("OtherSize", C_OtherSize)]) "callers" 4 ["state", "later"] q_callersS f106 e106 := ⟨okx_callers F106 B    tx36 , g106, F106.kp, bd106⟩
    have bd92 : Binds K e92 ["state", "past"] [] := b2 F92 fun _ _ _ _ _ _ _ _ => rfl
    have tx92 : CalX l.prog w K mg base (clT [("OtherSize", C_OtherSize)]) "line_past_number" 4 ["state", "past"] q_line_past_numberS f92 e92 := ⟨okx_line_past_number F92 B    tx36 , g92, F92.kp, bd92⟩
    have bd85 : Binds K e85 ["state", "past"] [] := b2 F85 fun _ _ _ _ _ _ _ _ => rfl
    have tx85 : CalX l.prog w K mg base (clT [("OtherSize", C_OtherSize)]) "ring_past_number" 4 ["state", "past"] q_ring_past_numberS f85 e85 := ⟨okx_ring_past_number F85 B    tx36 , g85, F85.kp, bd85⟩
    have bd101 : Binds K e101 ["one", "other"] [] := b2 F101 fun _ _ _ _ _ _ _ _ => rfl
    have tx101 : CalX l.prog w K mg base (clT [("OtherSize", C_OtherSize)]) "past_bar" 4 ["one", "other"] q_past_barS f101 e101 := ⟨okx_past_bar F101 B    tx36 , g101, F101.kp, bd101⟩
    have bd104 : Binds K e104 ["one", "other"] [] := b2 F104 fun _ _ _ _ _ _ _ _ => rfl
    have tx104 : CalX l.prog w K mg base (clT [("OtherSize", C_OtherSize)]) "common_past" 5 ["one", "other"] q_common_pastS f104 e104 := ⟨okx_common_past F104 B    tx101 , g104, F104.kp, bd104⟩
    have bd99 : Binds K e99 ["one", "other"] [] := b2 F99 fun _ _ _ _ _ _ _ _ => rfl
    have tx99 : CalX l.prog w K mg base (clT [("OtherSize", C_OtherSize)]) "future_bar" 4 ["one", "other"] q_future_barS f99 e99 := ⟨okx_future_bar F99 B    tx36 , g99, F99.kp, bd99⟩
    have bd100 : Binds K e100 ["one", "other"] [] := b2 F100 fun _ _ _ _ _ _ _ _ => rfl
    have tx100 : CalX l.prog w K mg base (clT [("OtherSize", C_OtherSize)]) "common_future" 5 ["one", "other"] q_common_futureS f100 e100 := ⟨okx_common_future F100 B    tx99 , g100, F100.kp, bd100⟩
    have bd45 : Binds K e45 ["state", "goal"] [] := b2 F45 fun _ _ _ _ _ _ _ _ => rfl
    have tx45 : CalX l.prog w K mg base (clT [("OtherSize", C_OtherSize)]) "leads" 5 ["state", "goal"] q_leadsS f45 e45 := ⟨okx_leads F45 B    tx44 , g45, F45.kp, bd45⟩
    have bd116 : Binds K e116 ["one", "other"] [] := b2 F116 fun _ _ _ _ _ _ _ _ => rfl
    have tx116 : CalX l.prog w K mg base (clT [("OtherSize", C_OtherSize)]) "are_kin" 6 ["one", "other"] q_are_kinS f116 e116 := ⟨okx_are_kin F116 B    tx45 , g116, F116.kp, bd116⟩
    have bd120 : Binds K e120 ["state", "other"] [] := b2 F120 fun _ _ _ _ _ _ _ _ => rfl
    have tx120 : CalX l.prog w K mg base (clT [("OtherSize", C_OtherSize)]) "kin_number" 7 ["state", "other"] q_kin_numberS f120 e120 := ⟨okx_kin_number F120 B    tx116 , g120, F120.kp, bd120⟩
    have bd114 : Binds K e114 ["state", "goal"] [] := b2 F114 fun _ _ _ _ _ _ _ _ => rfl
    have tx114 : CalX l.prog w K mg base (clT [("OtherSize", C_OtherSize)]) "number_of" 6 ["state", "goal"] q_number_ofS f114 e114 := ⟨okx_number_of F114 B    tx37 , g114, F114.kp, bd114⟩
    have bd51 : Binds K e51 ["state", "goal"] [] := b2 F51 fun _ _ _ _ _ _ _ _ => rfl
    have tx51 : CalX l.prog w K mg base (clT [("OtherSize", C_OtherSize)]) "word_to" 6 ["state", "goal"] q_word_toS f51 e51 := ⟨okx_word_to F51 B    tx37 , g51, F51.kp, bd51⟩
    have bd148 : Binds K e148 ["_law_door", "_law_start", "_law_mate"] [] := b3 F148 fun _ _ _ _ _ _ _ _ _ => rfl
    have tx148 : CalX l.prog w K mg base (clT [("OtherSize", C_OtherSize)]) "_law_two" 9 ["_law_door", "_law_start", "_law_mate"] q_law_two f148 e148 := ⟨okx_law_two F148 B   hF_future_bar hF_common_future hF_past_bar hF_common_past hF_ring_past_number hF_line_past_number hF_Circle tx45 tx44 tx51 tx114 tx116 tx120 tx99 tx100 tx101 tx104 tx85 tx92 tx106 tx128 tx127 tx48 tx52 tx130 t_ci tx66 tm_become , g148, F148.kp, bd148⟩
    have bd150 : Binds K e150 ["_law_kind", "_law_door", "_law_start", "_law_thing"] [] := b4 F150 fun _ _ _ _ _ _ _ _ _ _ => rfl
    have t150 : Cal l.prog w K mg base "_law_refused" 10 ["_law_kind", "_law_door", "_law_start", "_law_thing"] (spD 4 p_law_refused_8) f150 e150 := ⟨ok_law_refused F150 B    xcs g_BadText g_NoCommon g_NotKin g_NotPast g_OtherSize g_Unreachable e_BadText_NoCommon_NotKin_NotPast_OtherSize_Unreachable tx148 tx149 i_OtherSize j_OtherSize i_BadText_NotKin_NotPast j_BadText_NotKin_NotPast i_ValueError j_ValueError z_ValueError at_size , g150, F150.kp, bd150⟩
    have bd151 : Binds K e151 ["_law_source"] [] := b1 F151 fun _ _ _ _ _ _ _ => rfl
    have t151 : Cal l.prog w K mg base "_law_right" 11 ["_law_source"] (spD 1 p_k97_law_right) f151 e151 := ⟨ok_law_right F151 B t147 t142 t144 t145 t150    , g151, F151.kp, bd151⟩
    have bd143 : Binds K e143 ["_law_script", "_law_most"] [] := b2 F143 fun _ _ _ _ _ _ _ _ => rfl
    have t143 : Cal l.prog w K mg base "_law_folded" 1 ["_law_script", "_law_most"] (spCells K) f143 e143 := ⟨ok_cells F143 B, g143, F143.kp, bd143⟩
    exact ok_law F152 B t143 t141 t151
end Lp

open PySem PySem.W PyProof.Rows
set_option maxHeartbeats 0 in
theorem PySem.Challenge.cw_lookpast_k97_other_sizes_holds : PySem.Challenge.rw_lookpast_k97_other_sizes.Holds := by
  refine head97 ?_
  k_fill
  refine L2.walk_of (l := PySem.Challenge.rw_lookpast_k97_other_sizes) (n := 63) (k := 12) (x := "_law_script") (CX := fun _ => L2.CX0) (sp := fun w => Lp.spLaw _) rfl (by decide) rfl ⟨rfl, by decide, by decide⟩ (fun w h Y => PySem.W.kIn_of Y) ?F (fun _ _ a ns hl _ hS => ⟨a, ns, rfl, hS, hl, fun _ => rfl⟩) (fun _ _ _ _ _ h => h)
  case F =>
    intro w mg fa h KX G hmg
    refine' Lp.all_mk KX G hmg ?z ?d0 ?d2 ?d17 ?d18 ?d19 ?d20 ?d21 ?d22 ?d23 ?d24 ?d25 ?d26 ?d27 ?d28 ?d30 ?d31 ?d32 ?d33 ?d34 ?d36 ?d37 ?d38 ?d39 ?d40 ?d41 ?d42 ?d43 ?d44 ?d45 ?d46 ?d47 ?d48 ?d49 ?d50 ?d51 ?d52 ?d54 ?d55 ?d57 ?d58 ?d59 ?d60 ?d62 ?d63 ?d64 ?d65 ?d66 ?d68 ?d71 ?d72 ?d75 ?d76 ?d77 ?d78 ?d80 ?d81 ?d82 ?d83 ?d84 ?d85 ?d86 ?d87 ?d88 ?d89 ?d90 ?d91 ?d92 ?d94 ?d95 ?d97 ?d98 ?d99 ?d100 ?d101 ?d102 ?d103 ?d104 ?d106 ?d109 ?d110 ?d111 ?d112 ?d113 ?d114 ?d116 ?d117 ?d118 ?d119 ?d120 ?d123 ?d124 ?d125 ?d126 ?d127 ?d128 ?d129 ?d130 ?d132 ?d133 ?d134 ?d135 ?d136 ?d137 ?d138 ?d139 ?d141 ?d142 ?d143 ?d144 ?d145 ?d146 ?d147 ?d148 ?d149 ?d150 ?d151 ?d152  ?cg_BadText ?cg_NoCommon ?cg_NotKin ?cg_NotPast ?cg_OtherSize ?cg_Unreachable ?cf_OtherSize ?ci_OtherSize ?ct_OtherSize ?cn_OtherSize ?ce_OtherSize ?ca_OtherSize_size ?cz_ValueError ?cv_ValueError ?e_BadText_NoCommon_NotKin_NotPast_OtherSize_Unreachable ?i_OtherSize ?j_OtherSize ?i_BadText_NotKin_NotPast ?j_BadText_NotKin_NotPast ?i_ValueError ?j_ValueError ?cgCi ?cdCi ?cx0 ?cx1 ?cx2 ?cx3 ?cx4 ?cx5 ?cx6 ?cx7 ?cx8 ?cx9 ?ceI ?cfm_act ?cim_act ?ckm_act ?cem_act ?cfm_state ?cim_state ?ckm_state ?cem_state ?cfm_become ?cim_become ?ckm_become ?cem_become ?cDD ?ckd_become
    (case z => refine' ⟨?_, ?_, ?_, ?_, ?_, ?_, ?_, ?_, ?_, ?_, ?_, ?_, ?_, ?_, ?_, ?_, ?_, ?_, ?_⟩ <;> k_is)
    (case d0 => refine' Lp.dx_mk ?a ?l ?c ?k; (case a => k_is); (case l => k_is); (case c => k_is); (case k => k_is))
    (case d2 => refine' Lp.dx_mk ?a ?l ?c ?k; (case a => k_is); (case l => k_is); (case c => k_is); (case k => k_is))
    (case d17 => refine' Lp.dx_mk ?a ?l ?c ?k; (case a => k_is); (case l => k_is); (case c => k_is); (case k => k_is))
    (case d18 => refine' Lp.dx_mk ?a ?l ?c ?k; (case a => k_is); (case l => k_is); (case c => k_is); (case k => k_is))
    (case d19 => refine' Lp.dx_mk ?a ?l ?c ?k; (case a => k_is); (case l => k_is); (case c => k_is); (case k => k_is))
    (case d20 => refine' Lp.dx_mk ?a ?l ?c ?k; (case a => k_is); (case l => k_is); (case c => k_is); (case k => k_is))
    (case d21 => refine' Lp.dx_mk ?a ?l ?c ?k; (case a => k_is); (case l => k_is); (case c => k_is); (case k => k_is))
    (case d22 => refine' Lp.dx_mk ?a ?l ?c ?k; (case a => k_is); (case l => k_is); (case c => k_is); (case k => k_is))
    (case d23 => refine' Lp.dx_mk ?a ?l ?c ?k; (case a => k_is); (case l => k_is); (case c => k_is); (case k => k_is))
    (case d24 => refine' Lp.dx_mk ?a ?l ?c ?k; (case a => k_is); (case l => k_is); (case c => k_is); (case k => k_is))
    (case d25 => refine' Lp.dx_mk ?a ?l ?c ?k; (case a => k_is); (case l => k_is); (case c => k_is); (case k => k_is))
    (case d26 => refine' Lp.dx_mk ?a ?l ?c ?k; (case a => k_is); (case l => k_is); (case c => k_is); (case k => k_is))
    (case d27 => refine' Lp.dx_mk ?a ?l ?c ?k; (case a => k_is); (case l => k_is); (case c => k_is); (case k => k_is))
    (case d28 => refine' Lp.dx_mk ?a ?l ?c ?k; (case a => k_is); (case l => k_is); (case c => k_is); (case k => k_is))
    (case d30 => refine' Lp.dx_mk ?a ?l ?c ?k; (case a => k_is); (case l => k_is); (case c => k_is); (case k => k_is))
    (case d31 => refine' Lp.dx_mk ?a ?l ?c ?k; (case a => k_is); (case l => k_is); (case c => k_is); (case k => k_is))
    (case d32 => refine' Lp.dx_mk ?a ?l ?c ?k; (case a => k_is); (case l => k_is); (case c => k_is); (case k => k_is))
    (case d33 => refine' Lp.dx_mk ?a ?l ?c ?k; (case a => k_is); (case l => k_is); (case c => k_is); (case k => k_is))
    (case d34 => refine' Lp.dx_mk ?a ?l ?c ?k; (case a => k_is); (case l => k_is); (case c => k_is); (case k => k_is))
    (case d36 => refine' Lp.dx_mk ?a ?l ?c ?k; (case a => k_is); (case l => k_is); (case c => k_is); (case k => k_is))
    (case d37 => refine' Lp.dx_mk ?a ?l ?c ?k; (case a => k_is); (case l => k_is); (case c => k_is); (case k => k_is))
    (case d38 => refine' Lp.dx_mk ?a ?l ?c ?k; (case a => k_is); (case l => k_is); (case c => k_is); (case k => k_is))
    (case d39 => refine' Lp.dx_mk ?a ?l ?c ?k; (case a => k_is); (case l => k_is); (case c => k_is); (case k => k_is))
    (case d40 => refine' Lp.dx_mk ?a ?l ?c ?k; (case a => k_is); (case l => k_is); (case c => k_is); (case k => k_is))
    (case d41 => refine' Lp.dx_mk ?a ?l ?c ?k; (case a => k_is); (case l => k_is); (case c => k_is); (case k => k_is))
    (case d42 => refine' Lp.dx_mk ?a ?l ?c ?k; (case a => k_is); (case l => k_is); (case c => k_is); (case k => k_is))
    (case d43 => refine' Lp.dx_mk ?a ?l ?c ?k; (case a => k_is); (case l => k_is); (case c => k_is); (case k => k_is))
    (case d44 => refine' Lp.dx_mk ?a ?l ?c ?k; (case a => k_is); (case l => k_is); (case c => k_is); (case k => k_is))
    (case d45 => refine' Lp.dx_mk ?a ?l ?c ?k; (case a => k_is); (case l => k_is); (case c => k_is); (case k => k_is))
    (case d46 => refine' Lp.dx_mk ?a ?l ?c ?k; (case a => k_is); (case l => k_is); (case c => k_is); (case k => k_is))
    (case d47 => refine' Lp.dx_mk ?a ?l ?c ?k; (case a => k_is); (case l => k_is); (case c => k_is); (case k => k_is))
    (case d48 => refine' Lp.dx_mk ?a ?l ?c ?k; (case a => k_is); (case l => k_is); (case c => k_is); (case k => k_is))
    (case d49 => refine' Lp.dx_mk ?a ?l ?c ?k; (case a => k_is); (case l => k_is); (case c => k_is); (case k => k_is))
    (case d50 => refine' Lp.dx_mk ?a ?l ?c ?k; (case a => k_is); (case l => k_is); (case c => k_is); (case k => k_is))
    (case d51 => refine' Lp.dx_mk ?a ?l ?c ?k; (case a => k_is); (case l => k_is); (case c => k_is); (case k => k_is))
    (case d52 => refine' Lp.dx_mk ?a ?l ?c ?k; (case a => k_is); (case l => k_is); (case c => k_is); (case k => k_is))
    (case d54 => refine' Lp.dx_mk ?a ?l ?c ?k; (case a => k_is); (case l => k_is); (case c => k_is); (case k => k_is))
    (case d55 => refine' Lp.dx_mk ?a ?l ?c ?k; (case a => k_is); (case l => k_is); (case c => k_is); (case k => k_is))
    (case d57 => refine' Lp.dx_mk ?a ?l ?c ?k; (case a => k_is); (case l => k_is); (case c => k_is); (case k => k_is))
    (case d58 => refine' Lp.dx_mk ?a ?l ?c ?k; (case a => k_is); (case l => k_is); (case c => k_is); (case k => k_is))
    (case d59 => refine' Lp.dx_mk ?a ?l ?c ?k; (case a => k_is); (case l => k_is); (case c => k_is); (case k => k_is))
    (case d60 => refine' Lp.dx_mk ?a ?l ?c ?k; (case a => k_is); (case l => k_is); (case c => k_is); (case k => k_is))
    (case d62 => refine' Lp.dx_mk ?a ?l ?c ?k; (case a => k_is); (case l => k_is); (case c => k_is); (case k => k_is))
    (case d63 => refine' Lp.dx_mk ?a ?l ?c ?k; (case a => k_is); (case l => k_is); (case c => k_is); (case k => k_is))
    (case d64 => refine' Lp.dx_mk ?a ?l ?c ?k; (case a => k_is); (case l => k_is); (case c => k_is); (case k => k_is))
    (case d65 => refine' Lp.dx_mk ?a ?l ?c ?k; (case a => k_is); (case l => k_is); (case c => k_is); (case k => k_is))
    (case d66 => refine' Lp.dx_mk ?a ?l ?c ?k; (case a => k_is); (case l => k_is); (case c => k_is); (case k => k_is))
    (case d68 => refine' Lp.dx_mk ?a ?l ?c ?k; (case a => k_is); (case l => k_is); (case c => k_is); (case k => k_is))
    (case d71 => refine' Lp.dx_mk ?a ?l ?c ?k; (case a => k_is); (case l => k_is); (case c => k_is); (case k => k_is))
    (case d72 => refine' Lp.dx_mk ?a ?l ?c ?k; (case a => k_is); (case l => k_is); (case c => k_is); (case k => k_is))
    (case d75 => refine' Lp.dx_mk ?a ?l ?c ?k; (case a => k_is); (case l => k_is); (case c => k_is); (case k => k_is))
    (case d76 => refine' Lp.dx_mk ?a ?l ?c ?k; (case a => k_is); (case l => k_is); (case c => k_is); (case k => k_is))
    (case d77 => refine' Lp.dx_mk ?a ?l ?c ?k; (case a => k_is); (case l => k_is); (case c => k_is); (case k => k_is))
    (case d78 => refine' Lp.dx_mk ?a ?l ?c ?k; (case a => k_is); (case l => k_is); (case c => k_is); (case k => k_is))
    (case d80 => refine' Lp.dx_mk ?a ?l ?c ?k; (case a => k_is); (case l => k_is); (case c => k_is); (case k => k_is))
    (case d81 => refine' Lp.dx_mk ?a ?l ?c ?k; (case a => k_is); (case l => k_is); (case c => k_is); (case k => k_is))
    (case d82 => refine' Lp.dx_mk ?a ?l ?c ?k; (case a => k_is); (case l => k_is); (case c => k_is); (case k => k_is))
    (case d83 => refine' Lp.dx_mk ?a ?l ?c ?k; (case a => k_is); (case l => k_is); (case c => k_is); (case k => k_is))
    (case d84 => refine' Lp.dx_mk ?a ?l ?c ?k; (case a => k_is); (case l => k_is); (case c => k_is); (case k => k_is))
    (case d85 => refine' Lp.dx_mk ?a ?l ?c ?k; (case a => k_is); (case l => k_is); (case c => k_is); (case k => k_is))
    (case d86 => refine' Lp.dx_mk ?a ?l ?c ?k; (case a => k_is); (case l => k_is); (case c => k_is); (case k => k_is))
    (case d87 => refine' Lp.dx_mk ?a ?l ?c ?k; (case a => k_is); (case l => k_is); (case c => k_is); (case k => k_is))
    (case d88 => refine' Lp.dx_mk ?a ?l ?c ?k; (case a => k_is); (case l => k_is); (case c => k_is); (case k => k_is))
    (case d89 => refine' Lp.dx_mk ?a ?l ?c ?k; (case a => k_is); (case l => k_is); (case c => k_is); (case k => k_is))
    (case d90 => refine' Lp.dx_mk ?a ?l ?c ?k; (case a => k_is); (case l => k_is); (case c => k_is); (case k => k_is))
    (case d91 => refine' Lp.dx_mk ?a ?l ?c ?k; (case a => k_is); (case l => k_is); (case c => k_is); (case k => k_is))
    (case d92 => refine' Lp.dx_mk ?a ?l ?c ?k; (case a => k_is); (case l => k_is); (case c => k_is); (case k => k_is))
    (case d94 => refine' Lp.dx_mk ?a ?l ?c ?k; (case a => k_is); (case l => k_is); (case c => k_is); (case k => k_is))
    (case d95 => refine' Lp.dx_mk ?a ?l ?c ?k; (case a => k_is); (case l => k_is); (case c => k_is); (case k => k_is))
    (case d97 => refine' Lp.dx_mk ?a ?l ?c ?k; (case a => k_is); (case l => k_is); (case c => k_is); (case k => k_is))
    (case d98 => refine' Lp.dx_mk ?a ?l ?c ?k; (case a => k_is); (case l => k_is); (case c => k_is); (case k => k_is))
    (case d99 => refine' Lp.dx_mk ?a ?l ?c ?k; (case a => k_is); (case l => k_is); (case c => k_is); (case k => k_is))
    (case d100 => refine' Lp.dx_mk ?a ?l ?c ?k; (case a => k_is); (case l => k_is); (case c => k_is); (case k => k_is))
    (case d101 => refine' Lp.dx_mk ?a ?l ?c ?k; (case a => k_is); (case l => k_is); (case c => k_is); (case k => k_is))
    (case d102 => refine' Lp.dx_mk ?a ?l ?c ?k; (case a => k_is); (case l => k_is); (case c => k_is); (case k => k_is))
    (case d103 => refine' Lp.dx_mk ?a ?l ?c ?k; (case a => k_is); (case l => k_is); (case c => k_is); (case k => k_is))
    (case d104 => refine' Lp.dx_mk ?a ?l ?c ?k; (case a => k_is); (case l => k_is); (case c => k_is); (case k => k_is))
    (case d106 => refine' Lp.dx_mk ?a ?l ?c ?k; (case a => k_is); (case l => k_is); (case c => k_is); (case k => k_is))
    (case d109 => refine' Lp.dx_mk ?a ?l ?c ?k; (case a => k_is); (case l => k_is); (case c => k_is); (case k => k_is))
    (case d110 => refine' Lp.dx_mk ?a ?l ?c ?k; (case a => k_is); (case l => k_is); (case c => k_is); (case k => k_is))
    (case d111 => refine' Lp.dx_mk ?a ?l ?c ?k; (case a => k_is); (case l => k_is); (case c => k_is); (case k => k_is))
    (case d112 => refine' Lp.dx_mk ?a ?l ?c ?k; (case a => k_is); (case l => k_is); (case c => k_is); (case k => k_is))
    (case d113 => refine' Lp.dx_mk ?a ?l ?c ?k; (case a => k_is); (case l => k_is); (case c => k_is); (case k => k_is))
    (case d114 => refine' Lp.dx_mk ?a ?l ?c ?k; (case a => k_is); (case l => k_is); (case c => k_is); (case k => k_is))
    (case d116 => refine' Lp.dx_mk ?a ?l ?c ?k; (case a => k_is); (case l => k_is); (case c => k_is); (case k => k_is))
    (case d117 => refine' Lp.dx_mk ?a ?l ?c ?k; (case a => k_is); (case l => k_is); (case c => k_is); (case k => k_is))
    (case d118 => refine' Lp.dx_mk ?a ?l ?c ?k; (case a => k_is); (case l => k_is); (case c => k_is); (case k => k_is))
    (case d119 => refine' Lp.dx_mk ?a ?l ?c ?k; (case a => k_is); (case l => k_is); (case c => k_is); (case k => k_is))
    (case d120 => refine' Lp.dx_mk ?a ?l ?c ?k; (case a => k_is); (case l => k_is); (case c => k_is); (case k => k_is))
    (case d123 => refine' Lp.dx_mk ?a ?l ?c ?k; (case a => k_is); (case l => k_is); (case c => k_is); (case k => k_is))
    (case d124 => refine' Lp.dx_mk ?a ?l ?c ?k; (case a => k_is); (case l => k_is); (case c => k_is); (case k => k_is))
    (case d125 => refine' Lp.dx_mk ?a ?l ?c ?k; (case a => k_is); (case l => k_is); (case c => k_is); (case k => k_is))
    (case d126 => refine' Lp.dx_mk ?a ?l ?c ?k; (case a => k_is); (case l => k_is); (case c => k_is); (case k => k_is))
    (case d127 => refine' Lp.dx_mk ?a ?l ?c ?k; (case a => k_is); (case l => k_is); (case c => k_is); (case k => k_is))
    (case d128 => refine' Lp.dx_mk ?a ?l ?c ?k; (case a => k_is); (case l => k_is); (case c => k_is); (case k => k_is))
    (case d129 => refine' Lp.dx_mk ?a ?l ?c ?k; (case a => k_is); (case l => k_is); (case c => k_is); (case k => k_is))
    (case d130 => refine' Lp.dx_mk ?a ?l ?c ?k; (case a => k_is); (case l => k_is); (case c => k_is); (case k => k_is))
    (case d132 => refine' Lp.dx_mk ?a ?l ?c ?k; (case a => k_is); (case l => k_is); (case c => k_is); (case k => k_is))
    (case d133 => refine' Lp.dx_mk ?a ?l ?c ?k; (case a => k_is); (case l => k_is); (case c => k_is); (case k => k_is))
    (case d134 => refine' Lp.dx_mk ?a ?l ?c ?k; (case a => k_is); (case l => k_is); (case c => k_is); (case k => k_is))
    (case d135 => refine' Lp.dx_mk ?a ?l ?c ?k; (case a => k_is); (case l => k_is); (case c => k_is); (case k => k_is))
    (case d136 => refine' Lp.dx_mk ?a ?l ?c ?k; (case a => k_is); (case l => k_is); (case c => k_is); (case k => k_is))
    (case d137 => refine' Lp.dx_mk ?a ?l ?c ?k; (case a => k_is); (case l => k_is); (case c => k_is); (case k => k_is))
    (case d138 => refine' Lp.dx_mk ?a ?l ?c ?k; (case a => k_is); (case l => k_is); (case c => k_is); (case k => k_is))
    (case d139 => refine' Lp.dx_mk ?a ?l ?c ?k; (case a => k_is); (case l => k_is); (case c => k_is); (case k => k_is))
    (case d141 => refine' Lp.dx_mk ?a ?l ?c ?k; (case a => k_is); (case l => k_is); (case c => k_is); (case k => k_is))
    (case d142 => refine' Lp.dx_mk ?a ?l ?c ?k; (case a => k_is); (case l => k_is); (case c => k_is); (case k => k_is))
    (case d143 => refine' Lp.dx_mk ?a ?l ?c ?k; (case a => k_is); (case l => k_is); (case c => k_is); (case k => k_is))
    (case d144 => refine' Lp.dx_mk ?a ?l ?c ?k; (case a => k_is); (case l => k_is); (case c => k_is); (case k => k_is))
    (case d145 => refine' Lp.dx_mk ?a ?l ?c ?k; (case a => k_is); (case l => k_is); (case c => k_is); (case k => k_is))
    (case d146 => refine' Lp.dx_mk ?a ?l ?c ?k; (case a => k_is); (case l => k_is); (case c => k_is); (case k => k_is))
    (case d147 => refine' Lp.dx_mk ?a ?l ?c ?k; (case a => k_is); (case l => k_is); (case c => k_is); (case k => k_is))
    (case d148 => refine' Lp.dx_mk ?a ?l ?c ?k; (case a => k_is); (case l => k_is); (case c => k_is); (case k => k_is))
    (case d149 => refine' Lp.dx_mk ?a ?l ?c ?k; (case a => k_is); (case l => k_is); (case c => k_is); (case k => k_is))
    (case d150 => refine' Lp.dx_mk ?a ?l ?c ?k; (case a => k_is); (case l => k_is); (case c => k_is); (case k => k_is))
    (case d151 => refine' Lp.dx_mk ?a ?l ?c ?k; (case a => k_is); (case l => k_is); (case c => k_is); (case k => k_is))
    (case d152 => refine' Lp.dx_mk ?a ?l ?c ?k; (case a => k_is); (case l => k_is); (case c => k_is); (case k => k_is))
    (case cg_BadText => k_is)
    (case cg_NoCommon => k_is)
    (case cg_NotKin => k_is)
    (case cg_NotPast => k_is)
    (case cg_OtherSize => k_is)
    (case cg_Unreachable => k_is)
    (case cf_OtherSize => refine' Lp.clf_mk ?c1 ?c2 ?c3 ?c4 ?c5 ?c6 ?c7 ?c8 ?c9 ?c10 ?c11 ?c12; (case c1 => k_is); (case c2 => k_is); (case c3 => k_is); (case c4 => k_is); (case c5 => k_is); (case c6 => k_is); (case c7 => k_is); (case c8 => k_is); (case c9 => k_is); (case c10 => k_is); (case c11 => k_is); (case c12 => k_is))
    (case ci_OtherSize => k_is)
    (case ct_OtherSize => k_is)
    (case cn_OtherSize => k_is)
    (case ce_OtherSize => refine' Lp.funI_mk ?l ?c ?k; (case l => k_is); (case c => k_is); (case k => k_is))
    (case ca_OtherSize_size => k_is)
    (case cz_ValueError => k_is)
    (case cv_ValueError => k_is)
    (case e_BadText_NoCommon_NotKin_NotPast_OtherSize_Unreachable => refine' ⟨fun _ => ?_, trivial⟩ <;> first | exact rfl | kernel_rfl | k_is)
    (case i_OtherSize => refine' ⟨?_, trivial⟩ <;> first | exact rfl | kernel_rfl | k_is)
    (case j_OtherSize => first | exact rfl | kernel_rfl | k_is)
    (case i_BadText_NotKin_NotPast => refine' ⟨?_, trivial⟩ <;> first | exact rfl | kernel_rfl | k_is)
    (case j_BadText_NotKin_NotPast => first | exact rfl | kernel_rfl | k_is)
    (case i_ValueError => refine' ⟨?_, trivial⟩ <;> first | exact rfl | kernel_rfl | k_is)
    (case j_ValueError => first | exact rfl | kernel_rfl | k_is)
    (case cgCi => k_is)
    (case cdCi => k_is)
    (case cx0 => k_is)
    (case cx1 => k_is)
    (case cx2 => k_is)
    (case cx3 => k_is)
    (case cx4 => k_is)
    (case cx5 => k_is)
    (case cx6 => k_is)
    (case cx7 => k_is)
    (case cx8 => k_is)
    (case cx9 => k_is)
    (case ceI => refine' Lp.funI_mk ?l ?c ?k; (case l => k_is); (case c => k_is); (case k => k_is))
    (case cfm_act => k_is)
    (case cim_act => k_is)
    (case ckm_act => k_is)
    (case cem_act => refine' Lp.funI_mk ?l ?c ?k; (case l => k_is); (case c => k_is); (case k => k_is))
    (case cfm_state => k_is)
    (case cim_state => k_is)
    (case ckm_state => k_is)
    (case cem_state => refine' Lp.funI_mk ?l ?c ?k; (case l => k_is); (case c => k_is); (case k => k_is))
    (case cfm_become => k_is)
    (case cim_become => k_is)
    (case ckm_become => k_is)
    (case cem_become => refine' Lp.funI_mk ?l ?c ?k; (case l => k_is); (case c => k_is); (case k => k_is))
    (case cDD => exact He.dicW_ok (ks := ["call", "run", "repeat", "become", "come", "leave"]) (by first | rfl | kernel_rfl | k_is))
    (case ckd_become => refine' Lp.ckd_mk ?a ?b; (case a => k_is); (case b => k_is))


