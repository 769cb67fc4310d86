import PyProof.Rows.All
import Wide.All
import OpenK.AllK
import Wide.FinOn
import KE.KStateDown
import HandS.Base
import HandS.Call
import HandS.Ends
import HandS.More
import HandS.Words
import HandS.WordsExc
import HandS.Defaults
import HandS.Head0
import HandS.Head1
import HandS.Head2
import HandS.HeadEnd
import HandS.HeadHook1
import HandS.HeadHook2
import HandS.HeadNt
import HandS.ForMost
import HandS.Evl
import HandS.Walk
import HandS.Conv
import HandS.Star
import HandS.IsInst
import HandS.TupAny
import HandS.Wide
import KE.GoesEnum
import HandS.ClsMeth
import KE.KDictZip
import KE.KTurns
import PySem.Challenge.RW_lastingshares_k25_push_behind_a_change
set_option Elab.async false
set_option linter.all false
set_option maxRecDepth 1000000
set_option maxHeartbeats 0
namespace LH
open PySem PySem.Spec PyProof.Rows L2 He
/-- a def of the text: where it stands, what it is made of -/
structure DefY where
  spot : PySem.W.Frag → Addr
  nm : Str
  qn : Str
  prm : Arguments
  bd : List Stmt
  scp : Scope
  dfs : PySem.W.Frag → List V
def fnAt (K : PySem.W.Frag) (p : Addr) : FnW := match K.lookup p with
  | some ⟨_, _, .func g, _⟩ => some (g.name, g.qualname, g.params, g.body, g.scope, g.globals, g.closure, g.builtins)
  | _ => none
def DefY.told (y : DefY) : FnW := some (y.nm, y.qn, y.prm, .stmts y.bd, y.scp, mainGlobals, [], builtinsNs)
def DefY.fine (K : PySem.W.Frag) (y : DefY) : Bool := match K.lookup (y.spot K) with
  | some ⟨_, _, .func g, _⟩ => PySem.W.keepIn K (.ref (y.spot K)) && (PySem.W.codeIn K g.code y.qn && dflB K g.defaults (y.dfs K))
  | _ => false
theorem DefY.is {K : PySem.W.Frag} {y : DefY} (e : fnAt K (y.spot K) = y.told) (c : y.fine K = true) : ∃ g, FunD K y.nm y.qn y.prm y.bd y.scp (y.dfs K) [] (y.spot K) g := by
  revert e c
  unfold DefY.fine fnAt DefY.told
  generalize hq : K.lookup (y.spot K) = w
  intro e c
  match w, hq, e, c with
  | some ⟨oc, od, .func ⟨m1, m2, m3, m4, m5, m6, m7, m8, m9, m10, m11, m12, m13, m14, m15⟩, sl⟩, hq, e, c =>
    injection e with e
    injection e with e1 e
    injection e with e2 e
    injection e with e3 e
    injection e with e4 e
    injection e with e5 e
    injection e with e6 e
    injection e with e7 e8
    dsimp only at e1 e2 e3 e4 e5 e6 e7 e8
    subst e1 e2 e3 e4 e5 e6 e7 e8
    have c1 := ba c
    have c2 := ba c1.2
    exact ⟨_, ⟨oc, od, m8, m9, m10, m11, m12, m13, m14, sl, rfl, hq, c2.1, dflB_ok c2.2, Or.inl rfl⟩, c1.1⟩
def seenX (fB : PySem.W.Frag → Bool) (ys : List DefY) (K : PySem.W.Frag) : AlD := (fB K && ys.all (DefY.fine K), ys.map fun y => fnAt K (y.spot K))
def wantX (ys : List DefY) : AlD := (true, ys.map DefY.told)
def SaysX (fB : PySem.W.Frag → Bool) (ys : List DefY) (K : PySem.W.Frag) : Prop := seenX fB ys K = wantX ys
/-- what is read of a heap: only the objects at the addresses as -/
def seenG (as : List Addr) (fB : PySem.W.Frag → Bool) (ys : List DefY) (g : Addr → Option Obj) : AlD := seenX fB ys (frG g as)
def hookX (as : List Addr) (fB : PySem.W.Frag → Bool) (ys : List DefY) : PySem.W.Hook :=
  { α := AlD, obs := fun s => seenG as fB ys s.heap.get?, val := fun _ => wantX ys, says := fun _ h => ∃ K : PySem.W.Frag, K.In h ∧ SaysX fB ys K,
    of := fun _ _ e => ⟨_, frG_in, e⟩, keeps := fun _ _ _ z k => z.elim fun K q => ⟨K, PySem.W.Frag.In.keeps q.1 k, q.2⟩ }
theorem seenG_eq {as : List Addr} {fB : PySem.W.Frag → Bool} {ys : List DefY} {g : Addr → Option Obj} {s : Shared} (h : ∀ a, g a = s.heap.get? a) : seenG as fB ys g = (hookX as fB ys).obs s := by
  rw [show g = s.heap.get? from funext h] <;> rfl
section
variable {fB : PySem.W.Frag → Bool} {ys : List DefY} {K : PySem.W.Frag}
theorem SaysX.facts (c : SaysX fB ys K) : fB K = true := (ba (congrArg Prod.fst c)).1
theorem SaysX.fn (c : SaysX fB ys K) (i : Nat) {y : DefY} (h : ys[i]? = some y := by rfl) : ∃ g, FunD K y.nm y.qn y.prm y.bd y.scp (y.dfs K) [] (y.spot K) g := by
  have q := List.all_eq_true.mp (ba (congrArg Prod.fst c)).2 y (List.mem_of_getElem? h)
  have e : (ys.map fun y => fnAt K (y.spot K))[i]? = (ys.map DefY.told)[i]? := congrArg (fun z => z[i]?) (congrArg Prod.snd c)
  simp only [List.getElem?_map, h, Option.map_some] at e
  exact DefY.is (Option.some.inj e) q
end
/-- where a staticmethod's own def stands -/
def smAt (x m : Str) (K : PySem.W.Frag) : Addr := He5.wf K (ga K x) "staticmethod" m
/-- where a method's def stands, a module's def -/
def mtAt (x m : Str) (K : PySem.W.Frag) : Addr := ma K (ga K x) m
def glAt (x : Str) (K : PySem.W.Frag) : Addr := ga K x
end LH
namespace Hd
open PySem PySem.Spec
      PyProof.Rows L2
def top (i : Nat) : Stmt := PySem.Challenge.pw_lastingshares_k25_push_behind_a_change.main.body.getD i (.Pass ⟨0, 0, 0, 0⟩)
def names0 : List PySem.Str := ["_wall", "ChainError", "BadNumber", "BadState", "SameState", "BadSet", "BadTable", "OtherSize", "LEAST_SIZE", "MOST_SIZE", "is_int", "is_list", "is_size", "is_state", "is_pair", "check_number", "states_of", "check_states", "forest_row", "determinant"]
def names1 : List PySem.Str := ["reduced", "replaced_determinants", "out_rows", "sum_over", "sum_within", "coming_row", "pair_sum", "Table", "checked_rows", "checked_row", "rows_multiplied", "scaled_rows", "rows_added", "rows_turned", "push", "push_rows", "_law_draws", "_law_take", "_law_empty", "_law_copy"]
def names2 : List PySem.Str := ["_law_rate", "_law_ring_grid", "_law_hung_grid", "_law_lots_grid", "_law_cross_grid", "_law_moved", "_law_grid", "_law_loose", "_law_pair", "_law_int", "_law_ints", "_law_lead", "_law_forests", "_law_weight", "_law_sum", "_law_push", "_law_rows_kind", "_law_changed", "_law_behind_right", "_law_one_right"]
def names : List PySem.Str := names0 ++ names1 ++ names2
abbrev s_is_int : Stmt := top 12
def y_is_int : LH.DefY := ⟨LH.glAt "is_int", "is_int", "is_int", defArgs s_is_int, defBody s_is_int, defScope s_is_int, fun _ => []⟩
abbrev s_is_list : Stmt := top 13
def y_is_list : LH.DefY := ⟨LH.glAt "is_list", "is_list", "is_list", defArgs s_is_list, defBody s_is_list, defScope s_is_list, fun _ => []⟩
abbrev s_is_size : Stmt := top 14
def y_is_size : LH.DefY := ⟨LH.glAt "is_size", "is_size", "is_size", defArgs s_is_size, defBody s_is_size, defScope s_is_size, fun _ => []⟩
abbrev s_is_state : Stmt := top 15
def y_is_state : LH.DefY := ⟨LH.glAt "is_state", "is_state", "is_state", defArgs s_is_state, defBody s_is_state, defScope s_is_state, fun _ => []⟩
abbrev s_is_pair : Stmt := top 16
def y_is_pair : LH.DefY := ⟨LH.glAt "is_pair", "is_pair", "is_pair", defArgs s_is_pair, defBody s_is_pair, defScope s_is_pair, fun _ => []⟩
abbrev s_check_number : Stmt := top 17
def y_check_number : LH.DefY := ⟨LH.glAt "check_number", "check_number", "check_number", defArgs s_check_number, defBody s_check_number, defScope s_check_number, fun _ => []⟩
abbrev s_states_of : Stmt := top 18
def y_states_of : LH.DefY := ⟨LH.glAt "states_of", "states_of", "states_of", defArgs s_states_of, defBody s_states_of, defScope s_states_of, fun _ => []⟩
abbrev s_check_states : Stmt := top 19
def y_check_states : LH.DefY := ⟨LH.glAt "check_states", "check_states", "check_states", defArgs s_check_states, defBody s_check_states, defScope s_check_states, fun K => [.ref (He.dflAt ("check_states", none) 0 K)]⟩
abbrev s_forest_row : Stmt := top 21
def y_forest_row : LH.DefY := ⟨LH.glAt "forest_row", "forest_row", "forest_row", defArgs s_forest_row, defBody s_forest_row, defScope s_forest_row, fun K => [.ref (He.dflAt ("forest_row", none) 0 K)]⟩
abbrev s_determinant : Stmt := top 22
def y_determinant : LH.DefY := ⟨LH.glAt "determinant", "determinant", "determinant", defArgs s_determinant, defBody s_determinant, defScope s_determinant, fun _ => []⟩
abbrev s_reduced : Stmt := top 23
def y_reduced : LH.DefY := ⟨LH.glAt "reduced", "reduced", "reduced", defArgs s_reduced, defBody s_reduced, defScope s_reduced, fun _ => []⟩
abbrev s_replaced_determinants : Stmt := top 24
def y_replaced_determinants : LH.DefY := ⟨LH.glAt "replaced_determinants", "replaced_determinants", "replaced_determinants", defArgs s_replaced_determinants, defBody s_replaced_determinants, defScope s_replaced_determinants, fun _ => []⟩
abbrev s_out_rows : Stmt := top 25
def y_out_rows : LH.DefY := ⟨LH.glAt "out_rows", "out_rows", "out_rows", defArgs s_out_rows, defBody s_out_rows, defScope s_out_rows, fun _ => []⟩
abbrev s_sum_over : Stmt := top 26
def y_sum_over : LH.DefY := ⟨LH.glAt "sum_over", "sum_over", "sum_over", defArgs s_sum_over, defBody s_sum_over, defScope s_sum_over, fun _ => []⟩
abbrev s_sum_within : Stmt := top 27
def y_sum_within : LH.DefY := ⟨LH.glAt "sum_within", "sum_within", "sum_within", defArgs s_sum_within, defBody s_sum_within, defScope s_sum_within, fun _ => []⟩
abbrev s_coming_row : Stmt := top 29
def y_coming_row : LH.DefY := ⟨LH.glAt "coming_row", "coming_row", "coming_row", defArgs s_coming_row, defBody s_coming_row, defScope s_coming_row, fun _ => []⟩
abbrev s_pair_sum : Stmt := top 30
def y_pair_sum : LH.DefY := ⟨LH.glAt "pair_sum", "pair_sum", "pair_sum", defArgs s_pair_sum, defBody s_pair_sum, defScope s_pair_sum, fun _ => []⟩
abbrev s_Table_init : Stmt := inClass (top 32) 1
def y_Table_init : LH.DefY := ⟨LH.mtAt "Table" "__init__", "__init__", "Table.__init__", defArgs s_Table_init, defBody s_Table_init, defScope s_Table_init, fun _ => []⟩
abbrev s_Table_pairs_of : Stmt := inClass (top 32) 3
def y_Table_pairs_of : LH.DefY := ⟨LH.smAt "Table" "pairs_of", "pairs_of", "Table.pairs_of", defArgs s_Table_pairs_of, defBody s_Table_pairs_of, defScope s_Table_pairs_of, fun _ => []⟩
abbrev s_checked_rows : Stmt := top 33
def y_checked_rows : LH.DefY := ⟨LH.glAt "checked_rows", "checked_rows", "checked_rows", defArgs s_checked_rows, defBody s_checked_rows, defScope s_checked_rows, fun _ => []⟩
abbrev s_checked_row : Stmt := top 34
def y_checked_row : LH.DefY := ⟨LH.glAt "checked_row", "checked_row", "checked_row", defArgs s_checked_row, defBody s_checked_row, defScope s_checked_row, fun _ => []⟩
abbrev s_rows_multiplied : Stmt := top 35
def y_rows_multiplied : LH.DefY := ⟨LH.glAt "rows_multiplied", "rows_multiplied", "rows_multiplied", defArgs s_rows_multiplied, defBody s_rows_multiplied, defScope s_rows_multiplied, fun _ => []⟩
abbrev s_scaled_rows : Stmt := top 36
def y_scaled_rows : LH.DefY := ⟨LH.glAt "scaled_rows", "scaled_rows", "scaled_rows", defArgs s_scaled_rows, defBody s_scaled_rows, defScope s_scaled_rows, fun _ => []⟩
abbrev s_rows_added : Stmt := top 37
def y_rows_added : LH.DefY := ⟨LH.glAt "rows_added", "rows_added", "rows_added", defArgs s_rows_added, defBody s_rows_added, defScope s_rows_added, fun _ => []⟩
abbrev s_rows_turned : Stmt := top 38
def y_rows_turned : LH.DefY := ⟨LH.glAt "rows_turned", "rows_turned", "rows_turned", defArgs s_rows_turned, defBody s_rows_turned, defScope s_rows_turned, fun _ => []⟩
abbrev s_push : Stmt := top 40
def y_push : LH.DefY := ⟨LH.glAt "push", "push", "push", defArgs s_push, defBody s_push, defScope s_push, fun _ => []⟩
abbrev s_push_rows : Stmt := top 41
def y_push_rows : LH.DefY := ⟨LH.glAt "push_rows", "push_rows", "push_rows", defArgs s_push_rows, defBody s_push_rows, defScope s_push_rows, fun _ => []⟩
abbrev s_law_draws : Stmt := top 43
def y_law_draws : LH.DefY := ⟨LH.glAt "_law_draws", "_law_draws", "_law_draws", defArgs s_law_draws, defBody s_law_draws, defScope s_law_draws, fun _ => []⟩
abbrev s_law_take : Stmt := top 44
def y_law_take : LH.DefY := ⟨LH.glAt "_law_take", "_law_take", "_law_take", defArgs s_law_take, defBody s_law_take, defScope s_law_take, fun _ => []⟩
abbrev s_law_empty : Stmt := top 45
def y_law_empty : LH.DefY := ⟨LH.glAt "_law_empty", "_law_empty", "_law_empty", defArgs s_law_empty, defBody s_law_empty, defScope s_law_empty, fun _ => []⟩
abbrev s_law_copy : Stmt := top 46
def y_law_copy : LH.DefY := ⟨LH.glAt "_law_copy", "_law_copy", "_law_copy", defArgs s_law_copy, defBody s_law_copy, defScope s_law_copy, fun _ => []⟩
abbrev s_law_rate : Stmt := top 47
def y_law_rate : LH.DefY := ⟨LH.glAt "_law_rate", "_law_rate", "_law_rate", defArgs s_law_rate, defBody s_law_rate, defScope s_law_rate, fun _ => []⟩
abbrev s_law_ring_grid : Stmt := top 48
def y_law_ring_grid : LH.DefY := ⟨LH.glAt "_law_ring_grid", "_law_ring_grid", "_law_ring_grid", defArgs s_law_ring_grid, defBody s_law_ring_grid, defScope s_law_ring_grid, fun _ => []⟩
abbrev s_law_hung_grid : Stmt := top 49
def y_law_hung_grid : LH.DefY := ⟨LH.glAt "_law_hung_grid", "_law_hung_grid", "_law_hung_grid", defArgs s_law_hung_grid, defBody s_law_hung_grid, defScope s_law_hung_grid, fun _ => []⟩
abbrev s_law_lots_grid : Stmt := top 50
def y_law_lots_grid : LH.DefY := ⟨LH.glAt "_law_lots_grid", "_law_lots_grid", "_law_lots_grid", defArgs s_law_lots_grid, defBody s_law_lots_grid, defScope s_law_lots_grid, fun _ => []⟩
abbrev s_law_cross_grid : Stmt := top 51
def y_law_cross_grid : LH.DefY := ⟨LH.glAt "_law_cross_grid", "_law_cross_grid", "_law_cross_grid", defArgs s_law_cross_grid, defBody s_law_cross_grid, defScope s_law_cross_grid, fun _ => []⟩
abbrev s_law_moved : Stmt := top 52
def y_law_moved : LH.DefY := ⟨LH.glAt "_law_moved", "_law_moved", "_law_moved", defArgs s_law_moved, defBody s_law_moved, defScope s_law_moved, fun _ => []⟩
abbrev s_law_grid : Stmt := top 53
def y_law_grid : LH.DefY := ⟨LH.glAt "_law_grid", "_law_grid", "_law_grid", defArgs s_law_grid, defBody s_law_grid, defScope s_law_grid, fun _ => []⟩
abbrev s_law_loose : Stmt := top 54
def y_law_loose : LH.DefY := ⟨LH.glAt "_law_loose", "_law_loose", "_law_loose", defArgs s_law_loose, defBody s_law_loose, defScope s_law_loose, fun _ => []⟩
abbrev s_law_pair : Stmt := top 55
def y_law_pair : LH.DefY := ⟨LH.glAt "_law_pair", "_law_pair", "_law_pair", defArgs s_law_pair, defBody s_law_pair, defScope s_law_pair, fun _ => []⟩
abbrev s_law_int : Stmt := top 56
def y_law_int : LH.DefY := ⟨LH.glAt "_law_int", "_law_int", "_law_int", defArgs s_law_int, defBody s_law_int, defScope s_law_int, fun _ => []⟩
abbrev s_law_ints : Stmt := top 57
def y_law_ints : LH.DefY := ⟨LH.glAt "_law_ints", "_law_ints", "_law_ints", defArgs s_law_ints, defBody s_law_ints, defScope s_law_ints, fun _ => []⟩
abbrev s_law_lead : Stmt := top 58
def y_law_lead : LH.DefY := ⟨LH.glAt "_law_lead", "_law_lead", "_law_lead", defArgs s_law_lead, defBody s_law_lead, defScope s_law_lead, fun _ => []⟩
abbrev s_law_forests : Stmt := top 59
def y_law_forests : LH.DefY := ⟨LH.glAt "_law_forests", "_law_forests", "_law_forests", defArgs s_law_forests, defBody s_law_forests, defScope s_law_forests, fun _ => []⟩
abbrev s_law_weight : Stmt := top 60
def y_law_weight : LH.DefY := ⟨LH.glAt "_law_weight", "_law_weight", "_law_weight", defArgs s_law_weight, defBody s_law_weight, defScope s_law_weight, fun _ => []⟩
abbrev s_law_sum : Stmt := top 61
def y_law_sum : LH.DefY := ⟨LH.glAt "_law_sum", "_law_sum", "_law_sum", defArgs s_law_sum, defBody s_law_sum, defScope s_law_sum, fun _ => []⟩
abbrev s_law_push : Stmt := top 62
def y_law_push : LH.DefY := ⟨LH.glAt "_law_push", "_law_push", "_law_push", defArgs s_law_push, defBody s_law_push, defScope s_law_push, fun _ => []⟩
abbrev s_law_rows_kind : Stmt := top 63
def y_law_rows_kind : LH.DefY := ⟨LH.glAt "_law_rows_kind", "_law_rows_kind", "_law_rows_kind", defArgs s_law_rows_kind, defBody s_law_rows_kind, defScope s_law_rows_kind, fun _ => []⟩
abbrev s_law_changed : Stmt := top 64
def y_law_changed : LH.DefY := ⟨LH.glAt "_law_changed", "_law_changed", "_law_changed", defArgs s_law_changed, defBody s_law_changed, defScope s_law_changed, fun _ => []⟩
abbrev s_law_behind_right : Stmt := top 65
def y_law_behind_right : LH.DefY := ⟨LH.glAt "_law_behind_right", "_law_behind_right", "_law_behind_right", defArgs s_law_behind_right, defBody s_law_behind_right, defScope s_law_behind_right, fun _ => []⟩
abbrev s_law_one_right : Stmt := top 66
def y_law_one_right : LH.DefY := ⟨LH.glAt "_law_one_right", "_law_one_right", "_law_one_right", defArgs s_law_one_right, defBody s_law_one_right, defScope s_law_one_right, fun _ => []⟩
abbrev s_law : Stmt := top 67
def y_law : LH.DefY := ⟨LH.glAt "law", "law", "law", defArgs s_law, defBody s_law, defScope s_law, fun _ => []⟩
def fns : List LH.DefY := [y_is_int, y_is_list, y_is_size, y_is_state, y_is_pair, y_check_number, y_states_of, y_check_states, y_forest_row, y_determinant, y_reduced, y_replaced_determinants, y_out_rows, y_sum_over, y_sum_within, y_coming_row, y_pair_sum, y_Table_init, y_Table_pairs_of, y_checked_rows, y_checked_row, y_rows_multiplied, y_scaled_rows, y_rows_added, y_rows_turned, y_push, y_push_rows, y_law_draws, y_law_take, y_law_empty, y_law_copy, y_law_rate, y_law_ring_grid, y_law_hung_grid, y_law_lots_grid, y_law_cross_grid, y_law_moved, y_law_grid, y_law_loose, y_law_pair, y_law_int, y_law_ints, y_law_lead, y_law_forests, y_law_weight, y_law_sum, y_law_push, y_law_rows_kind, y_law_changed, y_law_behind_right, y_law_one_right, y_law]
end Hd
namespace Hd
open PySem PySem.Spec
      PyProof.Rows L2
def blt : List PySem.Str := ["len", "range", "list", "tuple", "int", "bool", "isinstance", "enumerate", "zip", "sum", "sorted", "all", "any", "max", "min", "dict"]
def emptyT (K : PySem.W.Frag) (p : Addr) : Bool := match K.lookup p with
  | some o => decide (o.cls = .type "tuple") && (match o.data with
    | .seq its _ => its.size == 0
    | _ => false)
  | none => false
def fB (K : PySem.W.Frag) : Bool :=
  (names.all fun x => decide (x = "LEAST_SIZE") || (decide (x = "MOST_SIZE") || (He.Fa.glo x).ok K)) && ((He.Fa.glo "law").ok K &&
  (blt.all (fun x => (He.Fa.free x).ok K) && ((He.Fa.int "LEAST_SIZE" 2).ok K && ((He.Fa.int "MOST_SIZE" 8).ok K &&
  ((He.Fa.cls "Table").ok K && ((He.Fa.mkr "Table").ok K && ((He.Fa.noat "Table" "rows").ok K && ((He.Fa.noat "Table" "size").ok K && ((He.Fa.noat "Table" "_arrow_pairs").ok K &&
  (He5.wrapB K (He.ga K "Table") "staticmethod" "staticmethod.__get__" "pairs_of" && (PySem.W.readsIn K (He.ga K "Table") (.type "type") && (decide (PySem.W.typeIn K (.ref (He.ga K "Table")) = some (.type "type")) && (He.eqO (PySem.W.specialIn K (.ref (He.ga K "Table")) "__getattribute__") (some (some (.builtin "type.__getattribute__"))) &&
  emptyT K (He.dflAt ("check_states", none) 0 K))))))))))))))
abbrev R : PySem.W.OpenRow := PySem.W.OpenLaw.row PySem.Challenge.rw_lastingshares_k25_push_behind_a_change
def adrs : List Addr := [2, 3, 6, 4, 21, 31, 51, 70, 89, 108, 127, 146, 155, 162, 169, 176, 183, 190, 197, 206, 213, 218, 223, 228, 233, 240, 245, 252, 259, 395, 404, 411, 418, 423, 428, 433, 440, 445, 452, 459, 464, 469, 476, 483, 490, 497, 504, 511, 518, 525, 532, 539, 544, 551, 556, 563, 568, 575, 580, 587, 592, 599, 606, 20, 154, 161, 168, 175, 182, 189, 196, 205, 199, 198, 212, 208, 207, 217, 222, 227, 232, 239, 244, 251, 258, 403, 410, 417, 422, 427, 432, 439, 444, 451, 458, 463, 468, 475, 482, 489, 496, 503, 510, 517, 524, 531, 538, 543, 550, 555, 562, 567, 574, 579, 586, 591, 598, 605, 394, 271, 279, 286, 294, 301, 308, 315, 322, 329, 336, 343, 350, 357, 364, 371, 378, 385, 392, 396, 397, 270, 278, 284, 285, 293, 300, 307, 314, 321, 328, 335, 342, 349, 356, 363, 370, 377, 384, 391, 267, 268, 269, 277, 283, 287, 288, 289, 291, 292, 295, 296, 298, 299, 302, 303, 305, 306, 309, 310, 312, 313, 316, 317, 319, 320, 323, 324, 326, 327, 330, 331, 333, 334, 337, 338, 340, 341, 344, 345, 347, 348, 351, 352, 354, 355, 358, 359, 361, 362, 365, 366, 368, 369, 372, 373, 375, 376, 379, 380, 382, 383, 386, 387, 389, 390, 272, 273, 275, 276, 280, 281, 282]
abbrev hk : PySem.W.Hook := LH.hookX adrs fB fns
def ob (s : PySem.W.SharedT) : He.AlD := LH.seenG adrs fB fns (HandSHeadRun.getT s)
theorem ob_eq (s : PySem.W.SharedT) : ob s = hk.obs s.abs := LH.seenG_eq (HandSHeadRun.getT_eq s)
end Hd
namespace Hd
open PySem PySem.Spec
      PyProof.Rows L2
theorem run (w : World) : HandSHeadRun.RunEq R (PySem.W.view R.prog [67]) hk ob 20000 names w := by
  intro os
  kernel_rfl
end Hd
namespace LS
open PySem PySem.Spec PyProof.Rows L2 Evl

inductive Pz.{u, v} {A : Type u} {B : Type v} (F : A → B → Prop) : List A → List B → Prop where
  | nil : Pz F [] []
  | cons {a : A} {b : B} {l : List A} {m : List B} : F a b → Pz F l m → Pz F (a :: l) (b :: m)
section
universe u v
variable {A : Type u} {B : Type v} {F G : A → B → Prop}
theorem pr_len : ∀ {xs : List A} {ys : List B}, Pz F xs ys → xs.length = ys.length
  | _, _, .nil => rfl
  | _, _, .cons _ t => congrArg Nat.succ (pr_len t)
theorem pr_get : ∀ {xs : List A} {ys : List B}, Pz F xs ys → ∀ {i : Nat} {y : B}, ys[i]? = some y → ∃ x, xs[i]? = some x ∧ F x y
  | _, _, .nil, _, _, h => by simp at h
  | _, _, .cons r t, 0, y, h => by
    simp only [List.getElem?_cons_zero,
          Option.some.injEq] at h
    exact ⟨_, rfl, h ▸ r⟩
  | _, _, .cons r t, i + 1, y, h => by
    simp only
          [List.getElem?_cons_succ] at h ⊢
    exact pr_get t h
theorem pr_getl : ∀ {xs : List A} {ys : List B}, Pz F xs ys → ∀ {i : Nat} {x : A}, xs[i]? = some x → ∃ y, ys[i]? = some y ∧ F x y
  | _, _, .nil, _, _, h => by simp at h
  | _, _, .cons r t, 0, y, h => by
    simp only [List.getElem?_cons_zero,
          Option.some.injEq] at h
    exact ⟨_, rfl, h ▸ r⟩
  | _, _, .cons r t, i + 1, y, h => by
    simp only
          [List.getElem?_cons_succ] at h ⊢
    exact pr_getl t h
theorem pr_imp (g : ∀ a b, F a b → G a b) : ∀ {xs : List A} {ys : List B}, Pz F xs ys → Pz G xs ys
  | _, _, .nil => .nil
  | _, _, .cons r t => .cons (g _ _ r) (pr_imp g t)
theorem pr_set {a : A} {b : B} (r : F a b) : ∀ {xs : List A} {ys : List B} (i : Nat), Pz F xs ys → Pz F (xs.set i a) (ys.set i b)
  | _, _, _, .nil => .nil
  | _, _, 0, .cons
        _ t => .cons r t
  | _, _, i + 1, .cons q t => .cons q (pr_set r i t)
theorem pr_app : ∀ {xs zs : List A} {ys ws : List B}, Pz F xs ys → Pz F zs ws → Pz F (xs ++ zs) (ys ++ ws)
  | _, _, _, _, .nil, s => s
  | _, _, _, _, .cons r t, s => .cons r (pr_app t s)
theorem pr_map {C : Type} {f : C → A} {g : C → B} (h : ∀ c, F (f c) (g c)) : ∀ zs : List C, Pz F (zs.map f) (zs.map g)
  | [] => .nil
  | c :: r => .cons (h c) (pr_map h r)
theorem pr_take : ∀ {xs : List A} {ys : List B} (n : Nat), Pz F xs ys → Pz F (xs.take n) (ys.take n)
  | _, _, 0, _ => .nil
  | _, _, _ + 1, .nil => .nil
  | _, _, n + 1, .cons r t => .cons r (pr_take n t)
theorem pr_drop : ∀ {xs : List A} {ys : List B} (n : Nat), Pz F xs ys → Pz F (xs.drop n) (ys.drop n)
  | _, _, 0, h => h
  | _, _, _ + 1, .nil => .nil
  | _, _, n + 1, .cons _ t => pr_drop n t
theorem pr_rep {a : A} {b : B} (h : F a b) : ∀ n : Nat, Pz F (List.replicate n a) (List.replicate n b)
  | 0 => .nil
  | n + 1 => .cons h (pr_rep h n)
theorem pr_mem : ∀ {xs : List A} {ys : List B}, Pz F xs ys → ∀ x ∈ xs, ∃ y, y ∈ ys ∧ F x y
  | _, _, .nil,
        _, h => nomatch h
  | _, _, .cons r t, x, h => by
    rcases List.mem_cons.mp
          h with e | e
    · exact ⟨_, List.mem_cons_self, e ▸ r⟩
    · obtain ⟨y, hy, q⟩ := pr_mem t x e
      exact ⟨y, List.mem_cons_of_mem _ hy, q⟩
end

def Nw (F H1 H2 : Hp) : Hp := fun p => match F p with
  | some o => some o
  | none => match H1 p with
    | none => H2 p
    | some _ => none
section
variable {F G H0 H1 H2 H3 : Hp}
theorem ex_none (e : Ex H1 H2) {p : Addr} (h : H2 p = none) : H1 p = none := fresh_back e h
theorem nw_some {p : Addr} {o : HO} (h : F p = some o) : Nw F H1 H2 p = some o := by
  unfold Nw
  rw [h]
theorem nw_new {p : Addr} (h0 : F p = none) (h1 : H1 p = none) : Nw F H1 H2 p = H2 p := by
  unfold Nw
  rw [h0, h1]
theorem nw_old {p : Addr} {o : HO} (h0 : F p = none) (h1 : H1 p = some o) : Nw F H1 H2 p = none := by
  unfold Nw
  rw [h0, h1]
theorem nw_f : Ex F (Nw F H1 H2) := fun _ _ h => nw_some h
theorem nw_in (e1 : Ex F H1) (e2 : Ex H1 H2) : Ex (Nw F H1 H2) H2 := fun p o h => by
  cases q : F p with
  | some u =>
    rw [nw_some q] at h
    rw [← h]
    exact e2 p u (e1 p u q)
  | none =>
    cases q1 : H1 p with
    | none =>
      rw [nw_new q q1] at h
      exact h
    | some u =>
      rw [nw_old q q1] at h
      cases h
theorem nw_to (e : Ex H2 H3) : Ex (Nw F H1 H2) (Nw F H1 H3) := fun p o h => by
  cases q : F p with
  | some u =>
    rw [nw_some q] at h
    rw [nw_some q]
    exact h
  | none =>
    cases q1 : H1 p with
    | none =>
      rw [nw_new q q1] at h
      rw [nw_new q q1]
      exact e p o h
    | some u =>
      rw [nw_old q q1] at h
      cases h
/-- a frame within the new part, then new since later: new since earlier -/
theorem nw_base (e1 : Ex F H1) (e2 : Ex H1 H2) (e3 : Ex H2 H3) (g : Ex G (Nw F H1 H2)) : Ex (Nw G H2 H3) (Nw F H1 H3) := fun p o h => by
  cases q : G p with
  | some u =>
    rw [nw_some q] at h
    rw [← h]
    exact nw_to e3 p u (g p u q)
  | none =>
    cases q2 : H2 p with
    | some u =>
      rw [nw_old q q2] at h
      cases h
    | none =>
      rw [nw_new q q2] at h
      have h1 := ex_none e2 q2
      rw [nw_new (ex_none e1 h1) h1]
      exact h
theorem nw_from (e1 : Ex F H1) (e2 : Ex H1 H2) (e3 : Ex H2 H3) : Ex (Nw F H2 H3) (Nw F H1 H3) := nw_base e1 e2 e3 nw_f
end

class Rep (α : Type) where
  rep : PySem.W.Frag → Hp → V → α → Prop
  mono : ∀ {K : PySem.W.Frag} {H H' : Hp} {v : V} {a : α}, Ex H H' → rep K H v a → rep K H' v a
instance : Rep Int := ⟨fun _ _ v a => v = .int a, fun _ h => h⟩
instance : Rep Bool := ⟨fun _ _ v a => v = .bl a, fun _ h => h⟩
instance : Rep Unit := ⟨fun _ _ v _ => v = .non, fun _ h => h⟩
/-- a list's value -/
def repL {α : Type} [Rep α] (K : PySem.W.Frag) (H : Hp) (v : V) (xs : List α) : Prop := ∃ p vs, v = .ref p ∧ H p = some (.lst vs) ∧ Pz (Rep.rep K H) vs xs
instance {α : Type} [Rep α] : Rep (List α) := ⟨repL, fun {K H H' v xs} e h => by
  obtain ⟨p, vs, h1, h2, h3⟩ := h
  exact ⟨p, vs, h1, e p _ h2, pr_imp (fun _ _ q => Rep.mono e q) h3⟩⟩
/-- a tuple of one kind -/
structure Tp (α : Type) where
  l : List α
instance {α : Type} [Rep α] : Rep (Tp α) := ⟨fun K H v t => ∃ p vs, v = .ref p ∧ SqT K H p vs ∧ Pz (Rep.rep K H) vs t.l, fun {K H H' v xs} e h => by
  obtain ⟨p, vs, h1, h2, h3⟩ := h
  exact ⟨p, vs, h1, ex_t e h2, pr_imp (fun _ _ q => Rep.mono e q) h3⟩⟩
instance {α β : Type} [Rep α] [Rep β] : Rep (α × β) := ⟨fun K H v t => ∃ p x y, v = .ref p ∧ SqT K H p [x, y] ∧ Rep.rep K H x t.1 ∧ Rep.rep K H y t.2, fun {K H H' v t} e h => by
  obtain ⟨p, x, y, h1, h2, h3, h4⟩ := h
  exact ⟨p, x, y, h1, ex_t e h2, Rep.mono e h3, Rep.mono e h4⟩⟩
section
variable {K : PySem.W.Frag} {H : Hp} {v : V}
theorem rep_int {i : Int} (h : Rep.rep K H v i) : v = .int i := h
theorem rep_bl {i : Bool} (h : Rep.rep K H v i) : v = .bl i := h
theorem rep_l {α : Type} [Rep α] {xs : List α} (h : Rep.rep K H v xs) : ∃ p vs, v = .ref p ∧ H p = some (.lst vs) ∧ Pz (Rep.rep K H) vs xs := h
theorem rep_t {α : Type} [Rep α] {xs : Tp α} (h : Rep.rep K H v xs) : ∃ p vs, v = .ref p ∧ SqT K H p vs ∧ Pz (Rep.rep K H) vs xs.l := h
theorem ints_l : ∀ {vs : List V} {xs : List Int}, Pz (Rep.rep K H) vs xs → vs = xs.map V.int
  | _, _, .nil => rfl
  | _, _, .cons r t => by
    rw [List.map_cons, ← ints_l t, rep_int r]
theorem bls_l : ∀ {vs : List V} {xs : List Bool}, Pz (Rep.rep K H) vs xs → vs = xs.map V.bl
  | _, _, .nil => rfl
  | _, _, .cons r t => by
    rw [List.map_cons, ← bls_l t, rep_bl r]
theorem pr_ints : ∀ (xs : List Int), Pz (Rep.rep K H) (xs.map V.int) xs
  | [] => .nil
  | _ :: r => .cons rfl (pr_ints r)
end

inductive Sl : Type 1 where
  | no
  | is {α : Type} [Rep α] (a : α)
  /-- a list that this def alone holds and changes -/
  | own {α : Type} [Rep α] (xs : List α)
def slOk (K : PySem.W.Frag) (F : Hp) (o : Option V) (s : Sl) : Prop := match s with
  | .no => True
  | @Sl.is _ i a => ∃ v, o = some v ∧ i.rep K F v a
  | @Sl.own _ _ _ => True
abbrev Slots (K : PySem.W.Frag) (F : Hp) (σ : L2.St) (sp : List Sl) : Prop := Pz (slOk K F) σ sp
abbrev Args (K : PySem.W.Frag) (F : Hp) (vs : List V) (sp : List Sl) : Prop := Pz (fun v s => slOk K F (some v) s) vs sp
section
variable {K : PySem.W.Frag} {F G : Hp} {σ : L2.St} {sp : List Sl}
theorem slOk.mono (e : Ex F G) : ∀ {o : Option V} {s : Sl}, slOk K F o s → slOk K G o s
  | _, .no, _ => True.intro
  | _, @Sl.own _ _ _, _ => True.intro
  | _, @Sl.is _ i _, h => by
    obtain ⟨v, h1, h2⟩ := h
    exact ⟨v, h1, i.mono e h2⟩
theorem slots_mono (e : Ex F G) (h : Slots K F σ sp) : Slots K G σ sp := pr_imp (fun _ _ q => q.mono e) h
theorem args_mono {vs : List V} (e : Ex F G) (h : Args K F vs sp) : Args K G vs sp := pr_imp (fun _ _ q => slOk.mono e q) h
theorem slots_get {α : Type} [Rep α] {i : Nat} {a : α} (h : Slots K F σ sp) (e : sp[i]? = some (.is a)) : ∃ v, σ[i]? = some (some v) ∧ Rep.rep K F v a := by
  obtain ⟨o, h1, h2⟩ := pr_get h e
  obtain ⟨v, rfl, r⟩ := h2
  exact ⟨v, h1, r⟩
theorem slots_set {α : Type} [Rep α] {a : α} {v : V} (i : Nat) (h : Slots K F σ sp) (r : Rep.rep K F v a) : Slots K F (σ.set i (some v)) (sp.set i (.is a)) :=
  pr_set (F := slOk K F) (a := some v) (b := .is a) ⟨v, rfl, r⟩ i h
theorem slots_no {v : Option V} (i : Nat) (h : Slots K F σ sp) : Slots K F (σ.set i v) (sp.set i .no) :=
  pr_set (F := slOk K F) (a := v) (b := .no) True.intro i h
def wipeS (sp : List Sl) : List Nat → List Sl
  | [] => sp
  | v :: vs => (wipeS sp vs).set v .no
theorem slots_wipe (h : Slots K F σ sp) : ∀ vs : List Nat, Slots K F (wipe σ vs) (wipeS sp vs)
  | [] => h
  | v :: vs => slots_no v (slots_wipe h vs)
theorem args_len {vs : List V} (h : Args K F vs sp) : vs.length = sp.length := pr_len h
theorem slots_args : ∀ {vs : List V} {sp : List Sl}, Args K F vs sp → Slots K F (vs.map some) sp
  | _, _, .nil => .nil
  | _, _, .cons r t => .cons r (slots_args t)
theorem slots_start {N : List Str} {vs : List V} {sq : List Sl} (h : Args K F vs sq) : Slots K F (L2.start N vs) (sq ++ List.replicate (N.length - sq.length) .no) := by
  unfold L2.start
  rw [args_len h]
  exact pr_app (slots_args h) (pr_rep (F := slOk K F) (a := none) (b := .no) True.intro _)
end

def EX {α : Type} [Rep α] (K : PySem.W.Frag) (te : TE) (sp : List Sl) (a : α) : Prop :=
  ∀ F σ, Slots K F σ sp → ∀ H1, Ex F H1 → ∀ Q : VK, (∀ v H2, Ex H1 H2 → Rep.rep K (Nw F H1 H2) v a → Q v H2) → te σ H1 Q
def ET (K : PySem.W.Frag) (tt : TT) (sp : List Sl) (b : Bool) : Prop :=
  ∀ F σ, Slots K F σ sp → ∀ H1, Ex F H1 → ∀ Q : Bool → Hp → Prop, (∀ H2, Ex H1 H2 → Q b H2) → tt σ H1 Q
def EA (K : PySem.W.Frag) (ta : TA) (sp : List Sl) (as : List Sl) : Prop :=
  ∀ F σ, Slots K F σ sp → ∀ H1, Ex F H1 → ∀ Q : List V → Hp → Prop, (∀ vs H2, Ex H1 H2 → Args K (Nw F H1 H2) vs as → Q vs H2) → ta σ H1 Q
/-- arguments of one kind -/
def EL {α : Type} [Rep α] (K : PySem.W.Frag) (ta : TA) (sp : List Sl) (as : List α) : Prop :=
  ∀ F σ, Slots K F σ sp → ∀ H1, Ex F H1 → ∀ Q : List V → Hp → Prop, (∀ vs H2, Ex H1 H2 → Pz (Rep.rep K (Nw F H1 H2)) vs as → Q vs H2) → ta σ H1 Q
/-- a part of a slice -/
def EO (K : PySem.W.Frag) (t : TO) (sp : List Sl) (o : Option Int) : Prop :=
  ∀ F σ, Slots K F σ sp → ∀ H1, Ex F H1 → ∀ Q : Option Int → Hp → Prop, (∀ H2, Ex H1 H2 → Q o H2) → t σ H1 Q

section
variable {K : PySem.W.Frag} {sp : List Sl} {ta tb tc te : TE} {t u : TT}
variable {α β γ : Type} [Rep α] [Rep β] [Rep γ]
theorem ex_var {i : Nat} {a : α} (e : sp[i]? = some (.is a)) : EX K (tVar i) sp a := fun F σ hs H1 h1 Q q => by
  obtain ⟨v, hv, r⟩ := slots_get hs e
  exact ⟨v, hv, q v H1 (Ex.refl _) (Rep.mono nw_f r)⟩
theorem ex_ci {i : Int} : EX K (tC (.int i)) sp i := fun F σ hs H1 h1 Q q => q _ H1 (Ex.refl _) rfl
theorem ex_cb {i : Bool} : EX K (tC (.bl i)) sp i := fun F σ hs H1 h1 Q q => q _ H1 (Ex.refl _) rfl
theorem ex_cn : EX K (tC .non) sp () := fun F σ hs H1 h1 Q q => q _ H1 (Ex.refl _) rfl
theorem ex_is {a b : α} (h : EX K te sp a) (e : a = b) : EX K te sp b := e ▸ h
/-- two parts, then a rule on ints -/
theorem ex_rI {C : Int → Int → Prop} {g : Int → Int → V} {f : Int → Int → γ} (hg : ∀ i j (G : Hp), Rep.rep K G (g i j) (f i j)) {i j : Int} (h1 : EX K ta sp i) (h2 : EX K tb sp j) (hc : C i j) : EX K (tOp (rI C g) ta tb) sp (f i j) :=
  fun F σ hs H1 e1 Q q => h1 F σ hs H1 e1 _ fun v H2 e2 r => h2 F σ hs H2 (e1.trans e2) _ fun w H3 e3 r2 =>
    ⟨i, j, rep_int r, rep_int r2, hc, q _ H3 (e2.trans e3) (hg i j _)⟩
theorem ex_rI0 {g : Int → Int → V} {f : Int → Int → γ} (hg : ∀ i j (G : Hp), Rep.rep K G (g i j) (f i j)) {i j : Int} (h1 : EX K ta sp i) (h2 : EX K tb sp j) : EX K (tOp (rI0 g) ta tb) sp (f i j) :=
  fun F σ hs H1 e1 Q q => h1 F σ hs H1 e1 _ fun v H2 e2 r => h2 F σ hs H2 (e1.trans e2) _ fun w H3 e3 r2 =>
    ⟨i, j, rep_int r, rep_int r2, q _ H3 (e2.trans e3) (hg i j _)⟩
theorem ex_add {i j : Int} (h1 : EX K ta sp i) (h2 : EX K tb sp j) : EX K (tOp (rI0 fun i j => .int (i + j)) ta tb) sp (i + j) := ex_rI0 (f := fun i j => i + j) (fun _ _ _ => rfl) h1 h2
theorem ex_sub {i j : Int} (h1 : EX K ta sp i) (h2 : EX K tb sp j) : EX K (tOp (rI0 fun i j => .int (i - j)) ta tb) sp (i - j) := ex_rI0 (f := fun i j => i - j) (fun _ _ _ => rfl) h1 h2
theorem ex_mul {i j : Int} (h1 : EX K ta sp i) (h2 : EX K tb sp j) (hc : CMul i j) : EX K (tOp (rI CMul fun i j => .int (i * j)) ta tb) sp (i * j) := ex_rI (f := fun i j => i * j) (fun _ _ _ => rfl) h1 h2 hc
theorem ex_mulW {i j : Int} (h1 : EX K ta sp i) (h2 : EX K tb sp j) (hc : CMulW i j) : EX K (tOp (rI CMulW fun i j => .int (i * j)) ta tb) sp (i * j) := ex_rI (f := fun i j => i * j) (fun _ _ _ => rfl) h1 h2 hc
theorem ex_fdivN {i j : Int} (h1 : EX K ta sp i) (h2 : EX K tb sp j) (hc : CDivN i j) : EX K (tOp (rI CDivN fun i j => .int (i.fdiv j)) ta tb) sp (i.fdiv j) := ex_rI (f := fun i j => i.fdiv j) (fun _ _ _ => rfl) h1 h2 hc
theorem ex_mod {i j : Int} (h1 : EX K ta sp i) (h2 : EX K tb sp j) (hc : 0 < j) : EX K (tOp (rI (fun _ j => 0 < j) fun i j => .int (i % j)) ta tb) sp (i % j) := ex_rI (f := fun i j => i % j) (fun _ _ _ => rfl) h1 h2 hc
theorem ex_neg {i : Int} (h1 : EX K ta sp i) : EX K (tUn (rU fun i => .int (-i)) ta) sp (-i) :=
  fun F σ hs H1 e1 Q q => h1 F σ hs H1 e1 _ fun v H2 e2 r => ⟨i, rep_int r, q _ H2 e2 rfl⟩
theorem ex_lt {i j : Int} (h1 : EX K ta sp i) (h2 : EX K tb sp j) : EX K (tOp (rI0 fun i j => .bl (decide (i < j))) ta tb) sp (decide (i < j)) := ex_rI0 (f := fun i j => decide (i < j)) (fun _ _ _ => rfl) h1 h2
theorem ex_le {i j : Int} (h1 : EX K ta sp i) (h2 : EX K tb sp j) : EX K (tOp (rI0 fun i j => .bl (decide (i ≤ j))) ta tb) sp (decide (i ≤ j)) := ex_rI0 (f := fun i j => decide (i ≤ j)) (fun _ _ _ => rfl) h1 h2
theorem ex_gt {i j : Int} (h1 : EX K ta sp i) (h2 : EX K tb sp j) : EX K (tOp (rI0 fun i j => .bl (decide (j < i))) ta tb) sp (decide (j < i)) := ex_rI0 (f := fun i j => decide (j < i)) (fun _ _ _ => rfl) h1 h2
theorem ex_ge {i j : Int} (h1 : EX K ta sp i) (h2 : EX K tb sp j) : EX K (tOp (rI0 fun i j => .bl (decide (j ≤ i))) ta tb) sp (decide (j ≤ i)) := ex_rI0 (f := fun i j => decide (j ≤ i)) (fun _ _ _ => rfl) h1 h2
theorem dec_int {i j : Int} : decide (V.int i = V.int j) = decide (i = j) := by
  by_cases h : i = j
  · rw [h, decide_eq_true rfl, decide_eq_true rfl]
  · rw [decide_eq_false h, decide_eq_false fun z => h (V.int.inj z)]
theorem dec_bl {i j : Bool} : decide (V.bl i = V.bl j) = decide (i = j) := by
  by_cases h : i = j
  · rw [h, decide_eq_true rfl, decide_eq_true rfl]
  · rw [decide_eq_false h, decide_eq_false fun z => h (V.bl.inj z)]
theorem ex_eq {i j : Int} (h1 : EX K ta sp i) (h2 : EX K tb sp j) : EX K (tOp rEq ta tb) sp (decide (i = j)) :=
  fun F σ hs H1 e1 Q q => h1 F σ hs H1 e1 _ fun v H2 e2 r => h2 F σ hs H2 (e1.trans e2) _ fun w H3 e3 r2 => by
    cases rep_int r
    cases rep_int r2
    refine ⟨rfl, q _ H3 (e2.trans e3) ?_⟩
    rw [dec_int]
    rfl
theorem ex_ne {i j : Int} (h1 : EX K ta sp i) (h2 : EX K tb sp j) : EX K (tOp rNe ta tb) sp (!decide (i = j)) :=
  fun F σ hs H1 e1 Q q => h1 F σ hs H1 e1 _ fun v H2 e2 r => h2 F σ hs H2 (e1.trans e2) _ fun w H3 e3 r2 => by
    cases rep_int r
    cases rep_int r2
    refine ⟨rfl, q _ H3 (e2.trans e3) ?_⟩
    rw [dec_int]
    rfl
theorem ex_eqb {i j : Bool} (h1 : EX K ta sp i) (h2 : EX K tb sp j) : EX K (tOp rEq ta tb) sp (decide (i = j)) :=
  fun F σ hs H1 e1 Q q => h1 F σ hs H1 e1 _ fun v H2 e2 r => h2 F σ hs H2 (e1.trans e2) _ fun w H3 e3 r2 => by
    cases rep_bl r
    cases rep_bl r2
    refine ⟨rfl, q _ H3 (e2.trans e3) ?_⟩
    rw [dec_bl]
    rfl
theorem et_test {b : Bool} (h : EX K te sp b) : ET K (tTest te) sp b := fun F σ hs H1 e1 Q q => h F σ hs H1 e1 _ fun v H2 e2 r => ⟨b, rep_bl r, q H2 e2⟩
theorem et_b {b : Bool} (h : EX K te sp b) : ET K (tB te) sp b := fun F σ hs H1 e1 Q q => h F σ hs H1 e1 _ fun v H2 e2 r => ⟨b, rep_bl r, q H2 e2⟩
theorem et_and {a b : Bool} (h1 : ET K t sp a) (h2 : a = true → ET K u sp b) : ET K (tAnd t u) sp (a && b) := fun F σ hs H1 e1 Q q => h1 F σ hs H1 e1 _ fun H2 e2 => by
  cases a with
  | true => exact h2 rfl F σ hs H2 (e1.trans e2) Q fun H3 e3 => q H3 (e2.trans e3)
  | false => exact q H2 e2
theorem et_or {a b : Bool} (h1 : ET K t sp a) (h2 : a = false → ET K u sp b) : ET K (tOr t u) sp (a || b) := fun F σ hs H1 e1 Q q => h1 F σ hs H1 e1 _ fun H2 e2 => by
  cases a with
  | true => exact q H2 e2
  | false => exact h2 rfl F σ hs H2 (e1.trans e2) Q fun H3 e3 => q H3 (e2.trans e3)
theorem et_not {a : Bool} (h1 : ET K t sp a) : ET K (tNot t) sp (!a) := fun F σ hs H1 e1 Q q => h1 F σ hs H1 e1 _ fun H2 e2 => q H2 e2
theorem et_is {a b : Bool} (h : ET K t sp a) (e : a = b) : ET K t sp b := e ▸ h
theorem ex_andV {a b : Bool} (h1 : EX K ta sp a) (h2 : a = true → EX K tb sp b) : EX K (tAndV ta tb) sp (a && b) := fun F σ hs H1 e1 Q q => h1 F σ hs H1 e1 _ fun v H2 e2 r => by
  refine ⟨a, rep_bl r, ?_⟩
  cases a with
  | true => exact h2 rfl F σ hs H2 (e1.trans e2) Q fun w H3 e3 r3 => q w H3 (e2.trans e3) (Rep.mono (nw_from e1 e2 e3) r3)
  | false => exact q _ H2 e2 rfl
theorem ex_orV {a b : Bool} (h1 : EX K ta sp a) (h2 : a = false → EX K tb sp b) : EX K (tOrV ta tb) sp (a || b) := fun F σ hs H1 e1 Q q => h1 F σ hs H1 e1 _ fun v H2 e2 r => by
  refine ⟨a, rep_bl r, ?_⟩
  cases a with
  | true => exact q _ H2 e2 rfl
  | false => exact h2 rfl F σ hs H2 (e1.trans e2) Q fun w H3 e3 r3 => q w H3 (e2.trans e3) (Rep.mono (nw_from e1 e2 e3) r3)
theorem ex_notV {a : Bool} (h1 : EX K ta sp a) : EX K (tNotV ta) sp (!a) := fun F σ hs H1 e1 Q q => h1 F σ hs H1 e1 _ fun v H2 e2 r => ⟨a, rep_bl r, q _ H2 e2 rfl⟩
theorem ex_if {b : Bool} {x y : α} (h : ET K t sp b) (h1 : b = true → EX K ta sp x) (h2 : b = false → EX K tb sp y) : EX K (tIf t ta tb) sp (if b = true then x else y) := fun F σ hs H1 e1 Q q => h F σ hs H1 e1 _ fun H2 e2 => by
  cases b with
  | true => exact h1 rfl F σ hs H2 (e1.trans e2) Q fun w H3 e3 r3 => q w H3 (e2.trans e3) (Rep.mono (nw_from e1 e2 e3) r3)
  | false => exact h2 rfl F σ hs H2 (e1.trans e2) Q fun w H3 e3 r3 => q w H3 (e2.trans e3) (Rep.mono (nw_from e1 e2 e3) r3)
/-- a <= b < c -/
theorem ex_chain {p r : Int → Int → Bool} {i j k : Int} (h1 : EX K ta sp i) (h2 : EX K tb sp j) (h3 : EX K tc sp k) : EX K (tChain (rI0 fun i j => .bl (p i j)) (rI0 fun i j => .bl (r i j)) ta tb tc) sp (p i j && r j k) :=
  fun F σ hs H1 e1 Q q => h1 F σ hs H1 e1 _ fun v H2 e2 r1 => h2 F σ hs H2 (e1.trans e2) _ fun w H3 e3 r2 => by
    refine ⟨i, j, rep_int r1, rep_int r2, p i j, rfl, ?_⟩
    cases hp : p i j with
    | true =>
      show tc σ H3 fun z H4 => rI0 (fun i j => .bl (r i j)) w z H4 Q
      exact h3 F σ hs H3 (e1.trans (e2.trans e3)) _ fun z H4 e4 r4 => ⟨j, k, rep_int r2, rep_int r4, q _ H4 (e2.trans (e3.trans e4)) (by rw [hp]; rfl)⟩
    | false =>
      show Q (.bl false) H3
      exact q _ H3 (e2.trans e3) (by rw [hp]; rfl)
end
end LS
namespace LS
open PySem PySem.Spec PyProof.Rows L2 Evl
theorem nw_mono {F G H1 H2 : Hp} (g : Ex G F) (e : Ex F H1) : Ex (Nw G H1 H2) (Nw F H1 H2) := fun p o h => by
  cases q : G p with
  | some u =>
    rw [nw_some q] at h
    rw [nw_some (g p u q)]
    exact h
  | none =>
    cases q1 : H1 p with
    | some u =>
      rw [nw_old q q1] at h
      cases h
    | none =>
      rw [nw_new q q1] at h
      rw [nw_new (ex_none e q1) q1]
      exact h
theorem nw_upd {F H : Hp} {p : Addr} {o : HO} (e : Ex F H) (h : H p = none) : Nw F H (upd H p o) p = some o := by
  rw [nw_new (ex_none e h) h, upd_same]

section
variable {K : PySem.W.Frag} {sp : List Sl} {ta tb tc te tl : TE} {t u : TT} {tr : TA}
variable {α β γ δ : Type} [Rep α] [Rep β] [Rep γ] [Rep δ]
theorem atI_of {vs : List V} {i : Int} {v : V} (h0 : 0 ≤ i) (h : vs[i.toNat]? = some v) : atI vs i = some v := at_of (j := i.toNat) (by omega) h
theorem ex_ixL {xs : List α} {i : Int} {a : α} (h1 : EX K ta sp xs) (h2 : EX K tb sp i) (h0 : 0 ≤ i) (ha : xs[i.toNat]? = some a) : EX K (tOp (rIxL K) ta tb) sp a :=
  fun F σ hs H1 e1 Q q => h1 F σ hs H1 e1 _ fun v H2 e2 r => h2 F σ hs H2 (e1.trans e2) _ fun w H3 e3 r2 => by
    obtain ⟨p, vs, rfl, hp, hv⟩ := rep_l r
    obtain ⟨x, hx, rx⟩ := pr_get hv ha
    exact ⟨p, vs, i, x, rfl, rep_int r2, sq_of (e3 p _ (nw_in e1 e2 p _ hp)), atI_of h0 hx, q x H3 (e2.trans e3) (Rep.mono (nw_to e3) rx)⟩
theorem ex_ixT {xs : Tp α} {i : Int} {a : α} (h1 : EX K ta sp xs) (h2 : EX K tb sp i) (h0 : 0 ≤ i) (ha : xs.l[i.toNat]? = some a) : EX K (tOp (rIxT K) ta tb) sp a :=
  fun F σ hs H1 e1 Q q => h1 F σ hs H1 e1 _ fun v H2 e2 r => h2 F σ hs H2 (e1.trans e2) _ fun w H3 e3 r2 => by
    obtain ⟨p, vs, rfl, hp, hv⟩ := rep_t r
    obtain ⟨x, hx, rx⟩ := pr_get hv ha
    exact ⟨p, vs, i, x, rfl, rep_int r2, ex_t e3 (ex_t (nw_in e1 e2) hp), atI_of h0 hx, q x H3 (e2.trans e3) (Rep.mono (nw_to e3) rx)⟩
theorem ex_fst {xs : α × β} (h1 : EX K ta sp xs) : EX K (tOp (rIxT K) ta (tC (.int 0))) sp xs.1 :=
  fun F σ hs H1 e1 Q q => h1 F σ hs H1 e1 _ fun v H2 e2 r => by
    obtain ⟨p, x, y, rfl, hp, hx, hy⟩ := (show ∃ p x y, v = .ref p ∧ SqT K (Nw F H1 H2) p [x, y] ∧ Rep.rep K (Nw F H1 H2) x xs.1 ∧ Rep.rep K (Nw F H1 H2) y xs.2 from r)
    exact ⟨p, [x, y], 0, x, rfl, rfl, ex_t (nw_in e1 e2) hp, rfl, q x H2 e2 hx⟩
theorem ex_snd {xs : α × β} (h1 : EX K ta sp xs) : EX K (tOp (rIxT K) ta (tC (.int 1))) sp xs.2 :=
  fun F σ hs H1 e1 Q q => h1 F σ hs H1 e1 _ fun v H2 e2 r => by
    obtain ⟨p, x, y, rfl, hp, hx, hy⟩ := (show ∃ p x y, v = .ref p ∧ SqT K (Nw F H1 H2) p [x, y] ∧ Rep.rep K (Nw F H1 H2) x xs.1 ∧ Rep.rep K (Nw F H1 H2) y xs.2 from r)
    exact ⟨p, [x, y], 1, y, rfl, rfl, ex_t (nw_in e1 e2) hp, rfl, q y H2 e2 hy⟩
theorem ea_nil : EA K tNil sp [] := fun F σ hs H1 e1 Q q => q [] H1 (Ex.refl _) .nil
theorem ea_cons {a : α} {as : List Sl} (h1 : EX K ta sp a) (h2 : EA K tr sp as) : EA K (tCons ta tr) sp (.is a :: as) :=
  fun F σ hs H1 e1 Q q => h1 F σ hs H1 e1 _ fun v H2 e2 r => h2 F σ hs H2 (e1.trans e2) _ fun vs H3 e3 rs =>
    q _ H3 (e2.trans e3) (.cons ⟨v, rfl, Rep.mono (nw_to e3) r⟩ (args_mono (nw_from e1 e2 e3) rs))
theorem el_nil : EL K tNil sp ([] : List α) := fun F σ hs H1 e1 Q q => q [] H1 (Ex.refl _) .nil
theorem el_cons {a : α} {as : List α} (h1 : EX K ta sp a) (h2 : EL K tr sp as) : EL K (tCons ta tr) sp (a :: as) :=
  fun F σ hs H1 e1 Q q => h1 F σ hs H1 e1 _ fun v H2 e2 r => h2 F σ hs H2 (e1.trans e2) _ fun vs H3 e3 rs =>
    q _ H3 (e2.trans e3) (.cons (Rep.mono (nw_to e3) r) (pr_imp (fun _ _ z => Rep.mono (nw_from e1 e2 e3) z) rs))
theorem ex_lst {as : List α} (h : EL K tr sp as) (hl : as.length ≤ 100000) : EX K (tLst tr) sp as :=
  fun F σ hs H1 e1 Q q => h F σ hs H1 e1 _ fun vs H2 e2 rs => ⟨sz_of (by rw [pr_len rs]; exact hl), fun p hp =>
    have e3 : Ex H2 (upd H2 p (.lst vs)) := Ex.new hp
    q _ _ (e2.trans e3) ⟨p, vs, rfl, by rw [nw_new (ex_none e1 (ex_none e2 hp)) (ex_none e2 hp), upd_same], pr_imp (fun _ _ z => Rep.mono (nw_to e3) z) rs⟩⟩
theorem ex_tup {as : List α} (h : EL K tr sp as) (hl : as.length ≤ 100000) : EX K (tTup tr) sp (Tp.mk as) :=
  fun F σ hs H1 e1 Q q => h F σ hs H1 e1 _ fun vs H2 e2 rs => ⟨sz_of (by rw [pr_len rs]; exact hl), fun p hp =>
    have e3 : Ex H2 (upd H2 p (.tup vs)) := Ex.new hp
    q _ _ (e2.trans e3) ⟨p, vs, rfl, st_of (by rw [nw_new (ex_none e1 (ex_none e2 hp)) (ex_none e2 hp), upd_same]), pr_imp (fun _ _ z => Rep.mono (nw_to e3) z) rs⟩⟩
theorem ex_pair {a : α} {b : β} (h1 : EX K ta sp a) (h2 : EX K tb sp b) : EX K (tTup (tCons ta (tCons tb tNil))) sp (a, b) :=
  fun F σ hs H1 e1 Q q => h1 F σ hs H1 e1 _ fun v H2 e2 r => h2 F σ hs H2 (e1.trans e2) _ fun w H3 e3 r2 => ⟨sz_of (by show 2 ≤ 100000; omega), fun p hp =>
    have e4 : Ex H3 (upd H3 p (.tup [v, w])) := Ex.new hp
    q _ _ ((e2.trans e3).trans e4) ⟨p, v, w, rfl, st_of (by rw [nw_new (ex_none e1 (ex_none e2 (ex_none e3 hp))) (ex_none e2 (ex_none e3 hp)), upd_same]), Rep.mono (nw_to (e3.trans e4)) r, Rep.mono (nw_base e1 e2 (e3.trans e4) (F := F) (G := F) nw_f) (Rep.mono (nw_to e4) r2)⟩⟩
theorem eo_none : EO K tNoPart sp none := fun F σ hs H1 e1 Q q => q H1 (Ex.refl _)
theorem eo_some {i : Int} (h : EX K te sp i) : EO K (tPart te) sp (some i) := fun F σ hs H1 e1 Q q => h F σ hs H1 e1 _ fun v H2 e2 r => ⟨i, rep_int r, q H2 e2⟩
def cutA (xs : List α) (lo hi : Option Int) : List α := (xs.drop (HT.sIx xs.length 0 lo)).take (HT.sIx xs.length xs.length hi - HT.sIx xs.length 0 lo)
theorem cut_pr {G : Hp} {vs : List V} {xs : List α} (h : Pz (Rep.rep K G) vs xs) (lo hi : Option Int) : Pz (Rep.rep K G) (cutV vs lo hi) (cutA xs lo hi) := by
  unfold cutV cutA
  rw [pr_len h]
  exact pr_take _ (pr_drop _ h)
theorem ex_slL {tlo thi : TO} {xs : List α} {lo hi : Option Int} (h1 : EX K te sp xs) (h2 : EO K tlo sp lo) (h3 : EO K thi sp hi) : EX K (tSl (rSlL K) te tlo thi) sp (cutA xs lo hi) :=
  fun F σ hs H1 e1 Q q => h1 F σ hs H1 e1 _ fun v H2 e2 r => h2 F σ hs H2 (e1.trans e2) _ fun H3 e3 => h3 F σ hs H3 ((e1.trans e2).trans e3) _ fun H4 e4 => by
    obtain ⟨p, vs, rfl, hp, hv⟩ := rep_l r
    have e34 : Ex H2 H4 := e3.trans e4
    refine ⟨p, vs, rfl, sq_of (e34 p _ (nw_in e1 e2 p _ hp)), fun p2 hp2 => ?_⟩
    have e5 : Ex H4 (upd H4 p2 (.lst (cutV vs lo hi))) := Ex.new hp2
    refine q _ _ ((e2.trans e34).trans e5) ⟨p2, cutV vs lo hi, rfl, ?_, pr_imp (fun _ _ z => Rep.mono (nw_to (e34.trans e5)) z) (cut_pr hv lo hi)⟩
    rw [nw_new (ex_none e1 (ex_none e2 (ex_none e34 hp2))) (ex_none e2 (ex_none e34 hp2)), upd_same]
def sp1 (K : PySem.W.Frag) (pre : α → Prop) (f : α → δ) : Sp := fun vs H Q _ => ∃ F a, Ex F H ∧ Args K F vs [.is a] ∧ pre a ∧ ∀ v H', Ex H H' → Rep.rep K (Nw F H H') v (f a) → Q v H'
def sp2 (K : PySem.W.Frag) (pre : α → β → Prop) (f : α → β → δ) : Sp := fun vs H Q _ => ∃ F a b, Ex F H ∧ Args K F vs [.is a, .is b] ∧ pre a b ∧ ∀ v H', Ex H H' → Rep.rep K (Nw F H H') v (f a b) → Q v H'
def sp3 (K : PySem.W.Frag) (pre : α → β → γ → Prop) (f : α → β → γ → δ) : Sp := fun vs H Q _ => ∃ F a b c, Ex F H ∧ Args K F vs [.is a, .is b, .is c] ∧ pre a b c ∧ ∀ v H', Ex H H' → Rep.rep K (Nw F H H') v (f a b c) → Q v H'
def sp5 {ε ζ : Type} [Rep ε] [Rep ζ] (K : PySem.W.Frag) (pre : α → β → γ → ε → ζ → Prop) (f : α → β → γ → ε → ζ → δ) : Sp := fun vs H Q _ => ∃ F a b c d e, Ex F H ∧ Args K F vs [.is a, .is b, .is c, .is d, .is e] ∧ pre a b c d e ∧ ∀ v H', Ex H H' → Rep.rep K (Nw F H H') v (f a b c d e) → Q v H'
theorem sp_len1 {pre : α → Prop} {f : α → δ} (vs : List V) (H : Hp) (Q : VK) (E : XK) (h : sp1 K pre f vs H Q E) : vs.length = 1 := by
  obtain ⟨F, a, _, h, _⟩ := h
  exact args_len h
theorem sp_len2 {pre : α → β → Prop} {f : α → β → δ} (vs : List V) (H : Hp) (Q : VK) (E : XK) (h : sp2 K pre f vs H Q E) : vs.length = 2 := by
  obtain ⟨F, a, b, _, h, _⟩ := h
  exact args_len h
theorem sp_len3 {pre : α → β → γ → Prop} {f : α → β → γ → δ} (vs : List V) (H : Hp) (Q : VK) (E : XK) (h : sp3 K pre f vs H Q E) : vs.length = 3 := by
  obtain ⟨F, a, b, c, _, h, _⟩ := h
  exact args_len h
theorem ex_callA {sq : Sp} {dvs : List V} {E : XK} {as : List Sl} {r : δ} (h : EA K tr sp as)
    (hs : ∀ G vs H Q, Ex G H → Args K G vs as → (∀ v H', Ex H H' → Rep.rep K (Nw G H H') v r → Q v H') → sq (vs ++ dvs) H Q E) : EX K (tCall sq dvs E tr) sp r :=
  fun F σ ss H1 e1 Q q => h F σ ss H1 e1 _ fun vs H2 e2 rs => hs (Nw F H1 H2) vs H2 Q (nw_in e1 e2) rs fun v H3 e3 r3 => q v H3 (e2.trans e3) (Rep.mono (nw_base e1 e2 e3 (Ex.refl _)) r3)
theorem ex_call1 {pre : α → Prop} {f : α → δ} {E : XK} {a : α} (h1 : EX K ta sp a) (hp : pre a) : EX K (tCall (sp1 K pre f) [] E (tCons ta tNil)) sp (f a) :=
  ex_callA (ea_cons h1 ea_nil) fun G vs H Q g rs k => ⟨G, a, g, by rw [List.append_nil]; exact rs, hp, k⟩
theorem ex_call2 {pre : α → β → Prop} {f : α → β → δ} {E : XK} {a : α} {b : β} (h1 : EX K ta sp a) (h2 : EX K tb sp b) (hp : pre a b) : EX K (tCall (sp2 K pre f) [] E (tCons ta (tCons tb tNil))) sp (f a b) :=
  ex_callA (ea_cons h1 (ea_cons h2 ea_nil)) fun G vs H Q g rs k => ⟨G, a, b, g, by rw [List.append_nil]; exact rs, hp, k⟩
theorem ex_call3 {pre : α → β → γ → Prop} {f : α → β → γ → δ} {E : XK} {a : α} {b : β} {c : γ} (h1 : EX K ta sp a) (h2 : EX K tb sp b) (h3 : EX K tc sp c) (hp : pre a b c) :
    EX K (tCall (sp3 K pre f) [] E (tCons ta (tCons tb (tCons tc tNil)))) sp (f a b c) :=
  ex_callA (ea_cons h1 (ea_cons h2 (ea_cons h3 ea_nil))) fun G vs H Q g rs k => ⟨G, a, b, c, g, by rw [List.append_nil]; exact rs, hp, k⟩
/-- the third by its default -/
theorem ex_call3d {pre : α → β → γ → Prop} {f : α → β → γ → δ} {E : XK} {a : α} {b : β} {c : γ} {dv : V} (hd : ∀ G : Hp, Rep.rep K G dv c) (h1 : EX K ta sp a) (h2 : EX K tb sp b) (hp : pre a b c) :
    EX K (tCall (sp3 K pre f) [dv] E (tCons ta (tCons tb tNil))) sp (f a b c) :=
  ex_callA (ea_cons h1 (ea_cons h2 ea_nil)) fun G vs H Q g rs k => ⟨G, a, b, c, g, pr_app rs (.cons ⟨dv, rfl, hd G⟩ .nil), hp, k⟩
/-- a third argument given where a default stands -/
theorem ex_callCong {sq : Sp} {dvs : List V} {E : XK} {r s : δ} (h : EX K (tCall sq dvs E tr) sp r) (e : r = s) : EX K (tCall sq dvs E tr) sp s := e ▸ h
end
end LS
namespace LS
open PySem PySem.Spec PyProof.Rows L2 Evl
section
variable {K : PySem.W.Frag} {sp : List Sl} {ta tb tc te tl : TE} {t u : TT} {tr : TA}
variable {α β γ δ : Type} [Rep α] [Rep β] [Rep γ] [Rep δ]
/-- J goes over xs while the frame G stands -/
structure Wk (K : PySem.W.Frag) (J : It) (G : Hp) (xs : List α) : Prop where
  go : ∀ i H, Ex G H → i < xs.length → J.go i H
  stop : ∀ H, Ex G H → J.stop xs.length H
  yld : ∀ i H x H' a, Ex G H → xs[i]? = some a → J.yld i H x H' → Ex H H' ∧ Rep.rep K (Nw G H H') x a
def EI (K : PySem.W.Frag) (wi : TI) (sp : List Sl) (xs : List α) : Prop :=
  ∀ F σ, Slots K F σ sp → ∀ H1, Ex F H1 → ∀ R : It → Hp → Prop, (∀ J H2, Ex H1 H2 → Wk K J (Nw F H1 H2) xs → R J H2) → wi σ H1 R
theorem nw_refl {F H : Hp} (e : Ex F H) : Ex (Nw F H H) F := fun p o h => by
  cases q : F p with
  | some u =>
    rw [nw_some q] at h
    exact h
  | none =>
    cases q1 : H p with
    | some u =>
      rw [nw_old q q1] at h
      cases h
    | none =>
      rw [nw_new q q1, q1] at h
      cases h
theorem ei_list {xs : List α} (h : EX K tl sp xs) : EI K (iList K tl) sp xs := fun F σ hs H1 e1 R q => h F σ hs H1 e1 _ fun v H2 e2 r => by
  obtain ⟨p, vs, rfl, hp, hv⟩ := rep_l r
  refine ⟨p, rfl, ⟨vs, sq_of (nw_in e1 e2 p _ hp)⟩, q _ H2 e2 ⟨fun i H e hi => ?_, fun H e => ?_, fun i H x H' a e ha y => ?_⟩⟩
  · exact ⟨vs, vs[i]'(by rw [pr_len hv]; exact hi), sq_of (e p _ hp), by simp [pr_len hv, hi]⟩
  · exact ⟨vs, sq_of (e p _ hp), by rw [pr_len hv]; exact Nat.le_refl _⟩
  · obtain ⟨rfl, y2⟩ := y
    obtain ⟨w, hw, rw2⟩ := pr_get hv ha
    have := y2 vs (sq_of (e p _ hp))
    rw [hw] at this
    cases this
    exact ⟨Ex.refl _, Rep.mono nw_f rw2⟩
theorem ei_tup {xs : Tp α} (h : EX K tl sp xs) : EI K (iTup K tl) sp xs.l := fun F σ hs H1 e1 R q => h F σ hs H1 e1 _ fun v H2 e2 r => by
  obtain ⟨p, vs, rfl, hp, hv⟩ := rep_t r
  refine ⟨p, rfl, ⟨vs, ex_t (nw_in e1 e2) hp⟩, q _ H2 e2 ⟨fun i H e hi => ?_, fun H e => ?_, fun i H x H' a e ha y => ?_⟩⟩
  · exact ⟨vs, vs[i]'(by rw [pr_len hv]; exact hi), ex_t e hp, by simp [pr_len hv, hi]⟩
  · exact ⟨vs, ex_t e hp, by rw [pr_len hv]; exact Nat.le_refl _⟩
  · obtain ⟨rfl, y2⟩ := y
    obtain ⟨w, hw, rw2⟩ := pr_get hv ha
    have := y2 vs (ex_t e hp)
    rw [hw] at this
    cases this
    exact ⟨Ex.refl _, Rep.mono nw_f rw2⟩
def rng (n : Int) : List Int := (List.range n.toNat).map fun i : Nat => (i : Int)
theorem rng_len (n : Int) : (rng n).length = n.toNat := by simp [rng]
theorem rng_get {n : Int} {i : Nat} {a : Int} (h : (rng n)[i]? = some a) : a = i ∧ i < n.toNat := by
  unfold rng at h
  rw [List.getElem?_map] at h
  by_cases hi : i < n.toNat
  · rw [List.getElem?_range hi] at h
    simp at h
    exact ⟨h.symm, hi⟩
  · rw [List.getElem?_eq_none (by simpa using hi)] at h
    cases h
theorem rng_mem {n a : Int} (h : a ∈ rng n) : 0 ≤ a ∧ a < n := by
  unfold rng at h
  obtain ⟨i, hi, rfl⟩
        := List.mem_map.mp h
  have := List.mem_range.mp hi
  omega
theorem ei_rng1 {n : Int} (h : EX K te sp n) (hn : -(2 ^ 62) ≤ n ∧ n < 2 ^ 62) : EI K (iRng1 (tCons te tNil)) sp (rng n) := fun F σ hs H1 e1 R q => h F σ hs H1 e1 _ fun v H2 e2 r => by
  cases rep_int r
  refine ⟨n, rfl, hn.1, hn.2, q _ H2 e2 ⟨fun i H e hi => ?_, fun H e => ?_, fun i H x H' a e ha y => ?_⟩⟩
  · rw [rng_len] at hi
    exact hi
  · rw [rng_len]
    exact Nat.le_refl _
  · obtain ⟨rfl, rfl⟩ := y
    refine ⟨Ex.refl _, ?_⟩
    show V.int (0 + (i : Int)) = V.int a
    rw [(rng_get ha).1, Int.zero_add]
def enumI (xs : List α) : List (Int × α) := xs.zipIdx.map fun p => ((p.2 : Int), p.1)
theorem enumI_get {xs : List α} {i : Nat} {a : Int × α} (h : (enumI xs)[i]? = some a) : a.1 = i ∧ xs[i]? = some a.2 := by
  unfold enumI at h
  rw [List.getElem?_map, List.getElem?_zipIdx] at h
  cases q : xs[i]? with
  | none =>
    rw [q] at h
    cases h
  | some x =>
    rw [q] at h
    simp at h
    rw [← h]
    exact ⟨rfl, rfl⟩
theorem enumI_len {xs : List α} : (enumI xs).length = xs.length := by simp [enumI]
theorem ei_enum {xs : List α} (h : EX K te sp xs) : EI K (iEnum K (tCons te tNil)) sp (enumI xs) := fun F σ hs H1 e1 R q => h F σ hs H1 e1 _ fun v H2 e2 r => by
  obtain ⟨p, vs, rfl, hp, hv⟩ := rep_l r
  refine ⟨p, vs, rfl, sq_of (nw_in e1 e2 p _ hp), q _ H2 e2 ⟨fun i H e hi => ?_, fun H e => ?_, fun i H x H' a e ha y => ?_⟩⟩
  · rw [enumI_len] at hi
    exact ⟨vs, vs[i]'(by rw [pr_len hv]; exact hi), sq_of (e p _ hp), by simp [pr_len hv, hi]⟩
  · rw [enumI_len]
    exact ⟨vs, sq_of (e p _ hp), by rw [pr_len hv]; exact Nat.le_refl _⟩
  · obtain ⟨T, w, rfl, hT, rfl, y2⟩ := y
    obtain ⟨ha1, ha2⟩ := enumI_get ha
    obtain ⟨z, hz, rz⟩ := pr_get hv ha2
    have hzw : z = w := Option.some.inj (hz.symm.trans (y2 vs (sq_of (e p _ hp))))
    rw [hzw] at rz
    refine ⟨Ex.new hT, T, .int i, w, rfl, st_of (nw_upd e hT), ?_, Rep.mono nw_f rz⟩
    show V.int i = V.int a.1
    rw [ha1]
theorem zip_get {xs : List α} {ys : List β} {i : Nat} {a : α × β} (h : (xs.zip ys)[i]? = some a) : xs[i]? = some a.1 ∧ ys[i]? = some a.2 := by
  rw [List.getElem?_zip_eq_some] at h
  exact h
theorem ei_zip {xs : List α} {ys : List β} (h1 : EX K ta sp xs) (h2 : EX K tb sp ys) : EI K (iZip K (tCons ta (tCons tb tNil))) sp (xs.zip ys) :=
  fun F σ hs H1 e1 R q => h1 F σ hs H1 e1 _ fun v H2 e2 r => h2 F σ hs H2 (e1.trans e2) _ fun w H3 e3 r2 => by
  obtain ⟨p, vs, rfl, hp, hv⟩ := rep_l r
  obtain ⟨p2, ws, rfl, hp2, hw⟩ := rep_l r2
  have hp' := nw_to (F := F) (H1 := H1) e3 p _ hp
  have hp2' := nw_from e1 e2 e3 p2 _ hp2
  refine ⟨p, p2, vs, ws, rfl, sq_of (nw_in e1 (e2.trans e3) p _ hp'), sq_of (nw_in e1 (e2.trans e3) p2 _ hp2'), q _ H3 (e2.trans e3) ⟨fun i H e hi => ?_, fun H e => ?_, fun i H x H' a e ha y => ?_⟩⟩
  · rw [List.length_zip] at hi
    have l1 : i < vs.length := by rw [pr_len hv]; omega
    have l2 : i < ws.length := by rw [pr_len hw]; omega
    exact ⟨vs, ws, vs[i], ws[i], sq_of (e p _ hp'), sq_of (e p2 _ hp2'), by simp [l1], by simp [l2]⟩
  · refine ⟨vs, ws, sq_of (e p _ hp'), sq_of (e p2 _ hp2'), ?_⟩
    rw [List.length_zip, pr_len hv, pr_len hw]
    omega
  · obtain ⟨T, x1, x2, rfl, hT, rfl, y1, y2⟩ := y
    obtain ⟨ha1, ha2⟩ := zip_get ha
    obtain ⟨z1, hz1, rz1⟩ := pr_get hv ha1
    obtain ⟨z2, hz2, rz2⟩ := pr_get hw ha2
    have q1 : z1 = x1 := Option.some.inj (hz1.symm.trans (y1 vs (sq_of (e p _ hp'))))
    have q2 : z2 = x2 := Option.some.inj (hz2.symm.trans (y2 ws (sq_of (e p2 _ hp2'))))
    rw [q1] at rz1
    rw [q2] at rz2
    exact ⟨Ex.new hT, T, x1, x2, rfl, st_of (nw_upd e hT), Rep.mono nw_f (Rep.mono (nw_to e3) rz1), Rep.mono nw_f (Rep.mono (nw_from e1 e2 e3) rz2)⟩
theorem walk_of_wk {J : It} {G : Hp} {xs : List α} (w : Wk K J G xs) : Walk J xs.length (fun H => Ex G H) (fun i H x H' => ∃ a, xs[i]? = some a ∧ Ex H H' ∧ Rep.rep K (Nw G H H') x a) :=
  ⟨fun i H hi e => w.go i H e hi, fun H e => w.stop H e, fun i H x H' hi e y => ⟨xs[i], by simp [hi], w.yld i H x H' _ e (by simp [hi]) y⟩⟩
theorem wipe_at (σ : L2.St) : ∀ (vs : List Nat) (i : Nat), (wipe σ vs)[i]? = if i ∈ vs then (σ[i]?).map (fun _ => none) else σ[i]?
  | [], i => by simp [wipe]
  | v :: vs, i => by
    unfold wipe
    by_cases h : v = i
    · subst h
      rw [if_pos List.mem_cons_self]
      by_cases hl : v < σ.length
      · rw [List.getElem?_set_self (by rw [wipe_length]; exact hl), List.getElem?_eq_getElem hl]
        rfl
      · rw [List.getElem?_eq_none (by rw [List.length_set, wipe_length]; omega), List.getElem?_eq_none (by omega)]
        rfl
    · rw [List.getElem?_set_ne h, wipe_at σ vs i]
      have e : (i ∈ v :: vs) = (i ∈ vs) := by
        rw [List.mem_cons]
        exact propext ⟨fun z => z.elim (fun y => absurd y.symm h) id, Or.inr⟩
      simp only [e]
theorem wipe_set {σ : L2.St} {j : Nat} {x : Option V} {vs : List Nat} (h : j ∈ vs) : wipe (σ.set j x) vs = wipe σ vs := by
  apply List.ext_getElem?
  intro i
  rw [wipe_at, wipe_at]
  by_cases hi : i ∈ vs
  · rw [if_pos hi, if_pos hi]
    by_cases e : j = i
    · subst e
      by_cases hl : j < σ.length
      · rw [List.getElem?_set_self hl, List.getElem?_eq_getElem hl]
        rfl
      · rw [List.getElem?_eq_none (by rw [List.length_set]; omega), List.getElem?_eq_none (by omega)]
    · rw [List.getElem?_set_ne e]
  · rw [if_neg hi, if_neg hi]
    have e : j ≠ i := fun z => hi (z ▸ h)
    rw [List.getElem?_set_ne e]
theorem wipe_idem (σ : L2.St) (vs : List Nat) : wipe (wipe σ vs) vs = wipe σ vs := by
  apply List.ext_getElem?
  intro i
  rw [wipe_at, wipe_at]
  by_cases hi : i ∈ vs
  · rw [if_pos hi, if_pos hi, Option.map_map]
    rfl
  · rw [if_neg hi, if_neg hi]
/-- what a target does to the slots -/
def Tgt (K : PySem.W.Frag) (g : TG) (js : List Nat) (S : α → List Sl → List Sl) : Prop :=
  ∀ (G : Hp) (v : V) (a : α) (σ : L2.St) (H : Hp) (sp : List Sl) (Q : L2.St → Hp → Prop), Ex G H → Slots K G σ sp → Rep.rep K G v a →
    (∀ σ', Slots K G σ' (S a sp) → (∀ vs : List Nat, (∀ j ∈ js, j ∈ vs) → wipe σ' vs = wipe σ vs) → (∀ i, i ∉ js → σ'[i]? = σ[i]?) → Q σ' H) → g v σ H Q
def S1 (j : Nat) (a : α) (sp : List Sl) : List Sl := sp.set j (.is a)
def S2 (i j : Nat) (a : α × β) (sp : List Sl) : List Sl := (sp.set i (.is a.1)).set j (.is a.2)
theorem tg_name {j : Nat} : Tgt K (gName j) [j] (S1 (α := α) j) := fun G v a σ H sp Q e hs r q =>
  q _ (slots_set j hs r) (fun vs h => wipe_set (h j List.mem_cons_self)) fun i hi => List.getElem?_set_ne fun z => hi (by simp [z])
theorem tg_pair {i j : Nat} : Tgt K (gTup K 2 (gCons (gName i) (gCons (gName j) gNil))) [i, j] (S2 (α := α) (β := β) i j) := fun G v a σ H sp Q e hs r q => by
  obtain ⟨p, x, y, rfl, hp, hx, hy⟩ := (show ∃ p x y, v = .ref p ∧ SqT K G p [x, y] ∧ Rep.rep K G x a.1 ∧ Rep.rep K G y a.2 from r)
  refine ⟨p, [x, y], rfl, ex_t e hp, rfl, x, [y], rfl, y, [], rfl, rfl, q _ (slots_set j (slots_set i hs hx) hy) (fun vs h => ?_) fun k hk => ?_⟩
  · rw [wipe_set (h j (by simp)), wipe_set (h i (by simp))]
  · rw [List.getElem?_set_ne fun z => hk (by simp [z]), List.getElem?_set_ne fun z => hk (by simp [z])]
theorem nw_glue {B HD H H' H2 : Hp} (d : ∀ p, H p = none → HD p = none) (e1 : Ex H H') (e2 : Ex H' H2) : Ex (Nw (Nw B H H') H' H2) (Nw B HD H2) := fun p o h => by
  cases q : B p with
  | some u =>
    rw [nw_some (nw_some q)] at h
    rw [nw_some q]
    exact h
  | none =>
    cases q1 : H p with
    | none =>
      rw [nw_new q (d p q1)]
      cases q2 : H' p with
      | none =>
        rw [nw_new (by rw [nw_new q q1]; exact q2) q2] at h
        exact h
      | some u =>
        rw [nw_some (show Nw B H H' p = some u by rw [nw_new q q1]; exact q2)] at h
        rw [← h]
        exact e2 p u q2
    | some u =>
      rw [nw_old (nw_old q q1) (e1 p u q1)] at h
      cases h
theorem nw_mut {B HD H : Hp} {D : Addr} {o u : HO} (h : HD D = some u) : Nw B HD (upd H D o) = Nw B HD H := by
  funext p
  cases q : B p with
  | some u => rw [nw_some q, nw_some q]
  | none =>
    cases q1 : HD p with
    | some u => rw [nw_old q q1, nw_old q q1]
    | none =>
      have ne : p ≠ D := fun z => by
        rw [z, h] at q1
        cases q1
      rw [nw_new q q1, nw_new q q1, upd_ne ne]
theorem ex_lcf {wi : TI} {g : TG} {js vs : List Nat} {S : α → List Sl → List Sl} {xs : List α} {p : α → Bool} {f : α → γ} (hi : EI K wi sp xs) (hg : Tgt K g js S) (hj : ∀ j ∈ js, j ∈ vs) (hn : xs.length ≤ 40000)
    (ht : ∀ a ∈ xs, ET K t (S a (wipeS sp vs)) (p a)) (he : ∀ a ∈ xs, p a = true → EX K te (S a (wipeS sp vs)) (f a)) : EX K (tLc wi g t te vs) sp ((xs.filter p).map f) :=
  fun F σ hs H0 e0 Q q => hi F σ hs H0 e0 _ fun J H1 e1 wk D hD => by
    have eB : Ex (Nw F H0 H1) H1 := nw_in e0 e1
    have hsB : Slots K (Nw F H0 H1) (wipe σ vs) (wipeS sp vs) := slots_mono nw_f (slots_wipe hs vs)
    have hDD : (upd H1 D (.lst [])) D = some (.lst []) := upd_same
    refine lc_it (walk_of_wk wk) (D := D) (fun i H => Ex H1 H ∧ ∃ ws, H D = some (.lst ws) ∧ Pz (Rep.rep K (Nw (Nw F H0 H1) (upd H1 D (.lst [])) H)) ws (((xs.take i).filter p).map f)) ?_ (fun i H _ z => eB.trans z.1) ?_ ?_
    · exact ⟨Ex.new hD, [], upd_same, .nil⟩
    · rintro i x H H' hlt ⟨h1, ws, hw, hz⟩ ⟨a, ha, e2, rx⟩
      have eBH : Ex (Nw F H0 H1) H := eB.trans h1
      have dom : ∀ p, H p = none → (upd H1 D (.lst [])) p = none := fun p hp => by
        have ne : p ≠ D := fun z => by
          rw [z, hw] at hp
          cases hp
        rw [upd_ne ne]
        exact ex_none h1 hp
      have hmem : a ∈ xs := List.mem_of_getElem? ha
      refine hg (Nw (Nw F H0 H1) H H') x a (wipe σ vs) H' _ _ (nw_in eBH e2) (slots_mono nw_f hsB) rx fun σ' hs' hwp _ => ⟨by rw [hwp vs hj, wipe_idem], ?_⟩
      have htk : (xs.take (i + 1)) = xs.take i ++ [a] := by rw [List.take_add_one, ha]; rfl
      refine ht a hmem (Nw (Nw F H0 H1) H H') σ' hs' H' (nw_in eBH e2) _ fun H2 e3 => ?_
      cases hp : p a with
      | true =>
        refine he a hmem hp (Nw (Nw F H0 H1) H H') σ' hs' H2 ((nw_in eBH e2).trans e3) _ fun v H3 e4 r => ?_
        have hw3 : H3 D = some (.lst ws) := e4 D _ (e3 D _ (e2 D _ hw))
        have hlen : ws.length ≤ i := by
          rw [pr_len hz, List.length_map]
          exact Nat.le_trans (List.length_filter_le _ _) (by rw [List.length_take]; omega)
        refine ⟨ws, hw3, sz_lt (by omega), Ex.mut (h1.trans (e2.trans (e3.trans e4))) hD, ws ++ [v], upd_same, ?_⟩
        rw [nw_mut hDD, htk, List.filter_append, List.map_append]
        have e24 : Ex H' H3 := e3.trans e4
        refine pr_app (pr_imp (fun _ _ z => Rep.mono (nw_to (e2.trans e24)) z) hz) ?_
        rw [List.filter_cons, if_pos hp]
        exact .cons (Rep.mono (nw_glue dom e2 e24) (Rep.mono (nw_from (nw_in eBH e2) e3 e4) r)) .nil
      | false =>
        refine ⟨h1.trans (e2.trans e3), ws, e3 D _ (e2 D _ hw), ?_⟩
        rw [htk, List.filter_append, List.filter_cons, if_neg (by rw [hp]; decide)]
        rw [show List.filter p [] = [] from rfl, List.append_nil]
        exact pr_imp (fun _ _ z => Rep.mono (nw_to (e2.trans e3)) z) hz
    · rintro H ⟨h1, ws, hw, hz⟩
      rw [List.take_length] at hz
      refine q _ H (e1.trans h1) ⟨D, ws, rfl, ?_, pr_imp (fun _ _ z => Rep.mono (fun p o hp => ?_) z) hz⟩
      · rw [nw_new (ex_none e0 (ex_none e1 hD)) (ex_none e1 hD)]
        exact hw
      · cases q1 : Nw F H0 H1 p with
        | some u =>
          rw [nw_some q1] at hp
          rw [← hp]
          exact nw_to h1 p u q1
        | none =>
          cases q2 : (upd H1 D (.lst [])) p with
          | some u =>
            rw [nw_old q1 q2] at hp
            cases hp
          | none =>
            have ne : p ≠ D := fun z => by
              rw [z, upd_same] at q2
              cases q2
            rw [upd_ne ne] at q2
            rw [nw_new q1 (by rw [upd_ne ne]; exact q2)] at hp
            rw [nw_new (ex_none e0 (ex_none e1 q2)) (ex_none e1 q2)]
            exact hp
theorem et_yes : ET K tYes sp true := fun F σ hs H1 e1 Q q => q H1 (Ex.refl _)
theorem ex_lc {wi : TI} {g : TG} {js vs : List Nat} {S : α → List Sl → List Sl} {xs : List α} {f : α → γ} (hi : EI K wi sp xs) (hg : Tgt K g js S) (hj : ∀ j ∈ js, j ∈ vs) (hn : xs.length ≤ 40000)
    (he : ∀ a ∈ xs, EX K te (S a (wipeS sp vs)) (f a)) : EX K (tLc wi g tYes te vs) sp (xs.map f) := by
  have z := ex_lcf (p := fun _ => true) hi hg hj hn (fun _ _ => et_yes) fun a ha _ => he a ha
  rw [List.filter_eq_self.mpr fun _ _ => rfl] at z
  exact z
end
end LS
namespace LS
open PySem PySem.Spec PyProof.Rows L2 Evl
section
variable {K : PySem.W.Frag} {sp : List Sl} {ta tb tc te tl : TE} {t u : TT} {tr : TA}
variable {α β γ δ : Type} [Rep α] [Rep β] [Rep γ] [Rep δ]
theorem ex_lenL {xs : List α} (h : EX K te sp xs) : EX K (tCB (fun xs H Q => ∃ p ys, xs = [.ref p] ∧ (SqL K H p ys ∨ SqT K H p ys) ∧ Q (.int ys.length) H) (tCons te tNil)) sp (xs.length : Int) :=
  fun F σ hs H1 e1 Q q => h F σ hs H1 e1 _ fun v H2 e2 r => by
    obtain ⟨p, vs, rfl, hp, hv⟩ := rep_l r
    exact ⟨p, vs, rfl, .inl (sq_of (nw_in e1 e2 p _ hp)), q _ H2 e2 (by rw [pr_len hv]; rfl)⟩
theorem ex_lenT {xs : Tp α} (h : EX K te sp xs) : EX K (tCB (fun xs H Q => ∃ p ys, xs = [.ref p] ∧ (SqL K H p ys ∨ SqT K H p ys) ∧ Q (.int ys.length) H) (tCons te tNil)) sp (xs.l.length : Int) :=
  fun F σ hs H1 e1 Q q => h F σ hs H1 e1 _ fun v H2 e2 r => by
    obtain ⟨p, vs, rfl, hp, hv⟩ := rep_t r
    exact ⟨p, vs, rfl, .inr (ex_t (nw_in e1 e2) hp), q _ H2 e2 (by rw [pr_len hv]; rfl)⟩
theorem ex_listL {xs : List α} (h : EX K te sp xs) : EX K (tCB (fun xs H Q => ∃ p ys, xs = [.ref p] ∧ (SqL K H p ys ∨ SqT K H p ys) ∧ ∀ l, H l = none → Q (.ref l) (upd H l (.lst ys))) (tCons te tNil)) sp xs :=
  fun F σ hs H1 e1 Q q => h F σ hs H1 e1 _ fun v H2 e2 r => by
    obtain ⟨p, vs, rfl, hp, hv⟩ := rep_l r
    refine ⟨p, vs, rfl, .inl (sq_of (nw_in e1 e2 p _ hp)), fun l hl => ?_⟩
    have e3 : Ex H2 (upd H2 l (.lst vs)) := Ex.new hl
    exact q _ _ (e2.trans e3) ⟨l, vs, rfl, by rw [nw_new (ex_none e1 (ex_none e2 hl)) (ex_none e2 hl), upd_same], pr_imp (fun _ _ z => Rep.mono (nw_to e3) z) hv⟩
theorem ex_listT {xs : Tp α} (h : EX K te sp xs) : EX K (tCB (fun xs H Q => ∃ p ys, xs = [.ref p] ∧ (SqL K H p ys ∨ SqT K H p ys) ∧ ∀ l, H l = none → Q (.ref l) (upd H l (.lst ys))) (tCons te tNil)) sp xs.l :=
  fun F σ hs H1 e1 Q q => h F σ hs H1 e1 _ fun v H2 e2 r => by
    obtain ⟨p, vs, rfl, hp, hv⟩ := rep_t r
    refine ⟨p, vs, rfl, .inr (ex_t (nw_in e1 e2) hp), fun l hl => ?_⟩
    have e3 : Ex H2 (upd H2 l (.lst vs)) := Ex.new hl
    exact q _ _ (e2.trans e3) ⟨l, vs, rfl, by rw [nw_new (ex_none e1 (ex_none e2 hl)) (ex_none e2 hl), upd_same], pr_imp (fun _ _ z => Rep.mono (nw_to e3) z) hv⟩
theorem ex_tupL {xs : List α} (h : EX K te sp xs) : EX K (tCB (fun xs H Q => ∃ p ys, xs = [.ref p] ∧ ((SqL K H p ys ∧ ∀ l, H l = none → Q (.ref l) (upd H l (.tup ys))) ∨ (SqT K H p ys ∧ Q (.ref p) H))) (tCons te tNil)) sp (Tp.mk xs) :=
  fun F σ hs H1 e1 Q q => h F σ hs H1 e1 _ fun v H2 e2 r => by
    obtain ⟨p, vs, rfl, hp, hv⟩ := rep_l r
    refine ⟨p, vs, rfl, .inl ⟨sq_of (nw_in e1 e2 p _ hp), fun l hl => ?_⟩⟩
    have e3 : Ex H2 (upd H2 l (.tup vs)) := Ex.new hl
    exact q _ _ (e2.trans e3) ⟨l, vs, rfl, st_of (by rw [nw_new (ex_none e1 (ex_none e2 hl)) (ex_none e2 hl), upd_same]), pr_imp (fun _ _ z => Rep.mono (nw_to e3) z) hv⟩
theorem ex_sum {xs : List Int} (h : EX K te sp xs) : EX K (tCB (rSum K) (tCons te tNil)) sp xs.sum :=
  fun F σ hs H1 e1 Q q => h F σ hs H1 e1 _ fun v H2 e2 r => by
    obtain ⟨p, vs, rfl, hp, hv⟩ := rep_l r
    rw [ints_l hv] at hp
    exact ⟨p, xs, rfl, sq_of (nw_in e1 e2 p _ hp), q _ H2 e2 rfl⟩
theorem ex_all {xs : List Bool} (h : EX K te sp xs) : EX K (tCB (rAll K) (tCons te tNil)) sp (xs.all id) :=
  fun F σ hs H1 e1 Q q => h F σ hs H1 e1 _ fun v H2 e2 r => by
    obtain ⟨p, vs, rfl, hp, hv⟩ := rep_l r
    rw [bls_l hv] at hp
    exact ⟨p, xs, rfl, sq_of (nw_in e1 e2 p _ hp), q _ H2 e2 rfl⟩
theorem ex_any {xs : List Bool} (h : EX K te sp xs) : EX K (tCB (rAny K) (tCons te tNil)) sp (xs.any id) :=
  fun F σ hs H1 e1 Q q => h F σ hs H1 e1 _ fun v H2 e2 r => by
    obtain ⟨p, vs, rfl, hp, hv⟩ := rep_l r
    rw [bls_l hv] at hp
    exact ⟨p, xs, rfl, sq_of (nw_in e1 e2 p _ hp), q _ H2 e2 rfl⟩
theorem ex_int {i : Int} (h : EX K te sp i) : EX K (tCB (fun xs H Q => (∃ i, xs = [.int i] ∧ Q (.int i) H) ∨ ∃ k, xs = [.bl k] ∧ Q (.int (if k then 1 else 0)) H) (tCons te tNil)) sp i :=
  fun F σ hs H1 e1 Q q => h F σ hs H1 e1 _ fun v H2 e2 r => by
    cases rep_int r
    exact .inl ⟨i, rfl, q _ H2 e2 rfl⟩
theorem ex_intb {b : Bool} (h : EX K te sp b) : EX K (tCB (fun xs H Q => (∃ i, xs = [.int i] ∧ Q (.int i) H) ∨ ∃ k, xs = [.bl k] ∧ Q (.int (if k then 1 else 0)) H) (tCons te tNil)) sp (if b then (1 : Int) else 0) :=
  fun F σ hs H1 e1 Q q => h F σ hs H1 e1 _ fun v H2 e2 r => by
    cases rep_bl r
    exact .inr ⟨b, rfl, q _ H2 e2 rfl⟩
theorem flat_ints : ∀ xs : List Int, (xs.map V.int).all flatV = true
  | [] => rfl
  | _ :: r => by
    rw [List.map_cons, List.all_cons, flat_ints r]
    rfl
theorem in_ints (x : Int) : ∀ xs : List Int, inV (.int x) (xs.map V.int) = xs.contains x
  | [] => rfl
  | y :: r => by
    have ih := in_ints x r
    unfold inV at ih ⊢
    rw [List.map_cons, List.any_cons, ih, List.contains_cons]
    show ((y == x) || _) = ((x == y) || _)
    rw [Bool.beq_comm]
theorem ex_inL {neg : Bool} {x : Int} {xs : List Int} (h1 : EX K ta sp x) (h2 : EX K tb sp xs) : EX K (tOp (rIn K neg) ta tb) sp (if neg then !xs.contains x else xs.contains x) :=
  fun F σ hs H1 e1 Q q => h1 F σ hs H1 e1 _ fun v H2 e2 r => h2 F σ hs H2 (e1.trans e2) _ fun w H3 e3 r2 => by
    cases rep_int r
    obtain ⟨p, vs, rfl, hp, hv⟩ := rep_l r2
    rw [ints_l hv] at hp
    refine ⟨p, _, rfl, .inl (sq_of (nw_in (e1.trans e2) e3 p _ hp)), rfl, flat_ints xs, ?_⟩
    rw [in_ints]
    exact q _ H3 (e2.trans e3) rfl
theorem ex_inT {neg : Bool} {x : Int} {xs : Tp Int} (h1 : EX K ta sp x) (h2 : EX K tb sp xs) : EX K (tOp (rIn K neg) ta tb) sp (if neg then !xs.l.contains x else xs.l.contains x) :=
  fun F σ hs H1 e1 Q q => h1 F σ hs H1 e1 _ fun v H2 e2 r => h2 F σ hs H2 (e1.trans e2) _ fun w H3 e3 r2 => by
    cases rep_int r
    obtain ⟨p, vs, rfl, hp, hv⟩ := rep_t r2
    rw [ints_l hv] at hp
    refine ⟨p, _, rfl, .inr (ex_t (nw_in (e1.trans e2) e3) hp), rfl, flat_ints xs.l, ?_⟩
    rw [in_ints]
    exact q _ H3 (e2.trans e3) rfl
/-- t + u of tuples, of lists -/
theorem ex_catT {xs ys : Tp α} (h1 : EX K ta sp xs) (h2 : EX K tb sp ys) (hn : xs.l ≠ []) (hl : xs.l.length + ys.l.length ≤ 100000) : EX K (tOp (rCatT K) ta tb) sp (Tp.mk (xs.l ++ ys.l)) :=
  fun F σ hs H1 e1 Q q => h1 F σ hs H1 e1 _ fun v H2 e2 r => h2 F σ hs H2 (e1.trans e2) _ fun w H3 e3 r2 => by
    obtain ⟨p, vs, rfl, hp, hv⟩ := rep_t r
    obtain ⟨p2, ws, rfl, hp2, hw⟩ := rep_t r2
    have r2' : Pz (Rep.rep K (Nw F H1 H3)) ws ys.l := pr_imp (fun _ _ z => Rep.mono (nw_from e1 e2 e3) z) hw
    have r1' : Pz (Rep.rep K (Nw F H1 H3)) vs xs.l := pr_imp (fun _ _ z => Rep.mono (nw_to e3) z) hv
    refine ⟨p, p2, vs, ws, rfl, rfl, ex_t e3 (ex_t (nw_in e1 e2) hp), ex_t (nw_in (e1.trans e2) e3) hp2, fun z => ?_, sz_of (by rw [pr_len hv, pr_len hw]; exact hl), fun z => ?_, fun _ p3 hp3 => ?_⟩
    · apply hn
      have l := pr_len hv
      rw [z] at l
      exact List.eq_nil_of_length_eq_zero l.symm
    · subst z
      have l := pr_len hw
      refine q _ H3 (e2.trans e3) ⟨p, vs, rfl, ex_t (nw_to e3) hp, ?_⟩
      show Pz _ vs (xs.l ++ ys.l)
      rw [List.eq_nil_of_length_eq_zero l.symm, List.append_nil]
      exact r1'
    · have e4 : Ex H3 (upd H3 p3 (.tup (vs ++ ws))) := Ex.new hp3
      have n1 := ex_none e2 (ex_none e3 hp3)
      exact q _ _ ((e2.trans e3).trans e4) ⟨p3, vs ++ ws, rfl, st_of (by rw [nw_new (ex_none e1 n1) n1, upd_same]), pr_app (pr_imp (fun _ _ z => Rep.mono (nw_to e4) z) r1') (pr_imp (fun _ _ z => Rep.mono (nw_to e4) z) r2')⟩
theorem ex_catL {xs ys : List α} (h1 : EX K ta sp xs) (h2 : EX K tb sp ys) (hl : xs.length + ys.length ≤ 100000) : EX K (tOp rCat ta tb) sp (xs ++ ys) :=
  fun F σ hs H1 e1 Q q => h1 F σ hs H1 e1 _ fun v H2 e2 r => h2 F σ hs H2 (e1.trans e2) _ fun w H3 e3 r2 => by
    obtain ⟨p, vs, rfl, hp, hv⟩ := rep_l r
    obtain ⟨p2, ws, rfl, hp2, hw⟩ := rep_l r2
    have r2' : Pz (Rep.rep K (Nw F H1 H3)) ws ys := pr_imp (fun _ _ z => Rep.mono (nw_from e1 e2 e3) z) hw
    have r1' : Pz (Rep.rep K (Nw F H1 H3)) vs xs := pr_imp (fun _ _ z => Rep.mono (nw_to e3) z) hv
    refine ⟨p, p2, vs, ws, rfl, rfl, e3 p _ (nw_in e1 e2 p _ hp), nw_in (e1.trans e2) e3 p2 _ hp2, sz_of (by rw [pr_len hv, pr_len hw]; exact hl), fun p3 hp3 => ?_⟩
    have e4 : Ex H3 (upd H3 p3 (.lst (vs ++ ws))) := Ex.new hp3
    have n1 := ex_none e2 (ex_none e3 hp3)
    exact q _ _ ((e2.trans e3).trans e4) ⟨p3, vs ++ ws, rfl, by rw [nw_new (ex_none e1 n1) n1, upd_same], pr_app (pr_imp (fun _ _ z => Rep.mono (nw_to e4) z) r1') (pr_imp (fun _ _ z => Rep.mono (nw_to e4) z) r2')⟩
theorem ex_max2 {i j : Int} (h1 : EX K ta sp i) (h2 : EX K tb sp j) : EX K (tCB (fun xs H Q => ∃ i j, xs = [.int i, .int j] ∧ Q (.int (if j > i then j else i)) H) (tCons ta (tCons tb tNil))) sp (if j > i then j else i) :=
  fun F σ hs H1 e1 Q q => h1 F σ hs H1 e1 _ fun v H2 e2 r => h2 F σ hs H2 (e1.trans e2) _ fun w H3 e3 r2 => by
    cases rep_int r
    cases rep_int r2
    exact ⟨i, j, rfl, q _ H3 (e2.trans e3) rfl⟩
theorem isi_int {n : String} {b : Bool} {i : Int} (h : EX K te sp i) (hk : kitB "int" n = some b) : EX K (tCB (rIsi K) (tCons te (tCons (tC (.ty n)) tNil))) sp b :=
  fun F σ hs H1 e1 Q q => h F σ hs H1 e1 _ fun v H2 e2 r => by
    cases rep_int r
    exact ⟨_, _, _, _, b, rfl, .ty n, .base (.int i), kit_ty hk, q _ H2 e2 rfl⟩
theorem sqt_ty {H : Hp} {p : Addr} {vs : List V} (h : SqT K H p vs) : TyX K H (.ref p) (.type "tuple") := by
  rcases h with (h | ⟨o, h⟩) | ⟨o, its, n, h1, h2, _⟩
  · exact .base (.tup h)
  · exact .fTuple h
  · exact .kTuple h1 h2
theorem isi_tup {n : String} {b : Bool} {xs : Tp α} (h : EX K te sp xs) (hk : kitB "tuple" n = some b) : EX K (tCB (rIsi K) (tCons te (tCons (tC (.ty n)) tNil))) sp b :=
  fun F σ hs H1 e1 Q q => h F σ hs H1 e1 _ fun v H2 e2 r => by
    obtain ⟨p, vs, rfl, hp, hv⟩ := rep_t r
    exact ⟨_, _, _, _, b, rfl, .ty n, sqt_ty (ex_t (nw_in e1 e2) hp), kit_ty hk, q _ H2 e2 rfl⟩
/-- isinstance(x, (m, n)) of a list, a tuple -/
theorem isi2 {m n : String} {b c : Bool} {ty : String} {a : α} (h : EX K te sp a) (hty : ∀ (G : Hp) (v : V), Rep.rep K G v a → TyX K G v (.type ty))
    (h1 : kitB ty m = some b) (h2 : kitB ty n = some c) : EX K (tCB (rIsiT K) (tCons te (tCons (tTup (tCons (tC (.ty m)) (tCons (tC (.ty n)) tNil))) tNil))) sp (b || c) :=
  fun F σ hs H1 e1 Q q => h F σ hs H1 e1 _ fun v H2 e2 r => ⟨by show 2 ≤ sizeLine; decide, fun p hp => by
    have e3 : Ex H2 (upd H2 p (.tup [.ty m, .ty n])) := Ex.new hp
    refine ⟨v, p, [.ty m, .ty n], .type ty, [.type m, .type n], (b || c), rfl, upd_same, .cons (.ty m) (.cons (.ty n) .nil), hty _ _ (Rep.mono e3 (Rep.mono (nw_in e1 e2) r)), kitAny_cons (kit_ty h1) (fun hb => kitAny_cons (kit_ty h2) (fun hc => ?_) fun hc => ?_) fun hb => ?_, q _ _ (e2.trans e3) rfl⟩
    · rw [hb, hc]
      exact kitAny_nil
    · rw [hc, Bool.or_true]
    · rw [hb, Bool.true_or]⟩
theorem ty_l {G : Hp} {v : V} {xs : List α} (h : Rep.rep K G v xs) : TyX K G v (.type "list") := by
  obtain ⟨p, vs, rfl, hp, _⟩ := rep_l h
  exact .base (.lst hp)
theorem ty_t {G : Hp} {v : V} {xs : Tp α} (h : Rep.rep K G v xs) : TyX K G v (.type "tuple") := by
  obtain ⟨p, vs, rfl, hp, _⟩ := rep_t h
  exact sqt_ty hp
end
end LS
namespace LS
open PySem PySem.Spec PyProof.Rows L2 Evl
structure At (F0 H0 F H : Hp) : Prop where
  b : Ex F0 H0
  h : Ex H0 H
  f : Ex F (Nw F0 H0 H)
theorem At.in_ {F0 H0 F H : Hp} (a : At F0 H0 F H) : Ex F H := a.f.trans (nw_in a.b a.h)
theorem At.step {F0 H0 F H H2 : Hp} (a : At F0 H0 F H) (e : Ex H H2) : At F0 H0 (Nw F H H2) H2 := ⟨a.b, a.h.trans e, nw_base a.b a.h e a.f⟩
def isOwn (s : Option Sl) : Prop := match s with
  | some (@Sl.own _ _ _) => True
  | _ => False
def ownOk (K : PySem.W.Frag) (H0 F H : Hp) (o : Option (Option V)) (s : Option Sl) : Prop := match s with
  | some (@Sl.own _ i xs) => ∃ l vs, o = some (some (.ref l)) ∧ H0 l = none ∧ F l = none ∧ H l = some (.lst vs) ∧ Pz (i.rep K F) vs xs
  | _ => True
structure Sx (K : PySem.W.Frag) (F0 H0 B : Hp) (sp : List Sl) (σ : L2.St) (H F : Hp) : Prop where
  at_ : At F0 H0 F H
  fl : Ex B F
  sl : Slots K F σ sp
  ow : ∀ j : Nat, ownOk K H0 F H σ[j]? sp[j]?
  inj : ∀ j k : Nat, isOwn sp[j]? → isOwn sp[k]? → σ[j]? = σ[k]? → j = k
def St (K : PySem.W.Frag) (F0 H0 B : Hp) (sp : List Sl) (σ : L2.St) (H : Hp) : Prop := ∃ F, Sx K F0 H0 B sp σ H F
section
variable {K : PySem.W.Frag} {F0 H0 B F H H2 : Hp} {sp : List Sl} {σ : L2.St}
theorem ownOk.grow {o : Option (Option V)} {s : Option Sl} (h : ownOk K H0 F H o s) (e : Ex H H2) : ownOk K H0 (Nw F H H2) H2 o s := by
  match s with
  | none => exact True.intro
  | some .no => exact True.intro
  | some (@Sl.is _ _ _) => exact True.intro
  | some (@Sl.own _ i xs) =>
    obtain ⟨l, vs, h1, h2, h3, h4, h5⟩ := h
    exact ⟨l, vs, h1, h2, nw_old h3 h4, e l _ h4, pr_imp (fun _ _ z => i.mono nw_f z) h5⟩
theorem Sx.grow (x : Sx K F0 H0 B sp σ H F) (e : Ex H H2) : Sx K F0 H0 B sp σ H2 (Nw F H H2) :=
  ⟨x.at_.step e, x.fl.trans nw_f, slots_mono nw_f x.sl, fun j => (x.ow j).grow e, x.inj⟩
theorem set_is_no {α : Type} [Rep α] {a : α} {i : Nat} (sp : List Sl) : ¬ isOwn (sp.set i (.is a))[i]? := fun h => by
  rw [List.getElem?_set_self'] at h
  cases q : sp[i]? with
  | none =>
    rw [q] at h
    exact h
  | some s =>
    rw [q] at h
    exact h
theorem ownOk_of_not {K : PySem.W.Frag} {H0 F H : Hp} {o : Option (Option V)} {s : Option Sl} (h : ¬ isOwn s) : ownOk K H0 F H o s := by
  match s, h with
  | none, _ => exact True.intro
  | some .no, _ => exact True.intro
  | some (@Sl.is _ _ _), _ => exact True.intro
  | some (@Sl.own _ q2 ys), h => exact absurd True.intro h
theorem Sx.is {α : Type} [Rep α] {a : α} {v : V} (i : Nat) (x : Sx K F0 H0 B sp σ H F) (r : Rep.rep K F v a) : Sx K F0 H0 B (sp.set i (.is a)) (σ.set i (some v)) H F := by
  have key : ∀ j : Nat, isOwn (sp.set i (.is a))[j]? → i ≠ j := fun j h z => by
    subst z
    rw [List.getElem?_set_self'] at h
    cases q : sp[i]? with
    | none =>
      rw [q] at h
      exact h
    | some s =>
      rw [q] at h
      exact h
  refine ⟨x.at_, x.fl, slots_set i x.sl r, fun j => ?_, fun j k hj hk e => ?_⟩
  · by_cases h : i = j
    · subst h
      exact ownOk_of_not (set_is_no sp)
    · rw [List.getElem?_set_ne h, List.getElem?_set_ne h]
      exact x.ow j
  · have n1 := key j hj
    have n2 := key k hk
    rw [List.getElem?_set_ne n1] at hj e
    rw [List.getElem?_set_ne n2] at hk e
    exact x.inj j k hj hk e
theorem St.low {B' : Hp} (h : St K F0 H0 B' sp σ H) (e : Ex B B') : St K F0 H0 B sp σ H := by
  obtain ⟨F, x⟩ := h
  exact ⟨F, x.at_, e.trans x.fl, x.sl, x.ow, x.inj⟩
theorem start_st {F H : Hp} {sq : List Sl} {vs : List V} {N : List Str} (e : Ex F H) (h : Args K F vs sq) (hn : ∀ j : Nat, ¬ isOwn sq[j]?) : St K F H F (sq ++ List.replicate (N.length - sq.length) .no) (L2.start N vs) H := by
  have no : ∀ j : Nat, ¬ isOwn (sq ++ List.replicate (N.length - sq.length) Sl.no)[j]? := fun j z => by
    by_cases hj : j < sq.length
    · rw [List.getElem?_append_left hj] at z
      exact hn j z
    · rw [List.getElem?_append_right (by omega), List.getElem?_replicate] at z
      by_cases hq : j - sq.length < N.length - sq.length
      · rw [if_pos hq] at z
        exact z
      · rw [if_neg hq] at z
        exact z
  refine ⟨F, ⟨e, Ex.refl _, nw_f⟩, Ex.refl _, slots_start h, fun j => ?_, fun j k hj => absurd hj (no j)⟩
  have z := no j
  revert z
  generalize (sq ++ List.replicate (N.length - sq.length) Sl.no)[j]? = s
  intro z
  match s with
  | none => exact True.intro
  | some .no => exact True.intro
  | some (@Sl.is _ _ _) => exact True.intro
  | some (@Sl.own _ i xs) => exact absurd True.intro z
end
def Go (K : PySem.W.Frag) (F0 H0 B : Hp) (D : Ends) (t : TS) (sp : List Sl) : Prop := ∀ σ H, St K F0 H0 B sp σ H → t D σ H
def Nx (K : PySem.W.Frag) (F0 H0 B : Hp) (P : L2.St → Hp → Prop) (sp : List Sl) : Prop := ∀ σ H, St K F0 H0 B sp σ H → P σ H
def Rt {γ : Type} [Rep γ] (K : PySem.W.Frag) (F0 H0 : Hp) (P : VK) (r : γ) : Prop := ∀ v H', Ex H0 H' → Rep.rep K (Nw F0 H0 H') v r → P v H'
section
variable {K : PySem.W.Frag} {F0 H0 B : Hp} {sp : List Sl} {D : Ends} {ta tb te : TE} {t : TT} {tu tw tx : TS}
variable {α β γ δ : Type} [Rep α] [Rep β] [Rep γ] [Rep δ]
theorem go_seq (h : Go K F0 H0 B { D with nx := tw D } tu sp) : Go K F0 H0 B D (tSeq tu tw) sp := h
theorem go_next (h : Nx K F0 H0 B D.nx sp) : Go K F0 H0 B D tNext sp := h
theorem go_asg {i : Nat} {a : α} (h : EX K te sp a) (k : Nx K F0 H0 B D.nx (sp.set i (.is a))) : Go K F0 H0 B D (tAsg te (gName i)) sp := fun σ H s => by
  obtain ⟨F, x⟩ := s
  exact h F σ x.sl H x.at_.in_ _ fun v H2 e r => k _ H2 ⟨_, (x.grow e).is i r⟩
theorem go_asg2 {i j : Nat} {a : α × β} (h : EX K te sp a) (k : Nx K F0 H0 B D.nx ((sp.set i (.is a.1)).set j (.is a.2))) : Go K F0 H0 B D (tAsg te (gTup K 2 (gCons (gName i) (gCons (gName j) gNil)))) sp := fun σ H s => by
  obtain ⟨F, z⟩ := s
  refine h F σ z.sl H z.at_.in_ _ fun v H2 e r => ?_
  obtain ⟨p, x, y, rfl, hp, hx, hy⟩ := (show ∃ p x y, v = .ref p ∧ SqT K (Nw F H H2) p [x, y] ∧ Rep.rep K (Nw F H H2) x a.1 ∧ Rep.rep K (Nw F H H2) y a.2 from r)
  exact ⟨p, [x, y], rfl, ex_t (z.grow e).at_.in_ hp, rfl, x, [y], rfl, y, [], rfl, rfl, k _ H2 ⟨_, ((z.grow e).is i hx).is j hy⟩⟩
theorem go_ret {r : γ} (h : EX K te sp r) (k : Rt K F0 H0 D.rt r) : Go K F0 H0 B D (tRet te) sp := fun σ H s => by
  obtain ⟨F, x⟩ := s
  exact h F σ x.sl H x.at_.in_ _ fun v H2 e q => k v H2 (x.at_.h.trans e) (Rep.mono (x.at_.step e).f q)
theorem go_retN (k : Rt K F0 H0 D.rt ()) : Go K F0 H0 B D tRetN sp := fun σ H s => by
  obtain ⟨F, x⟩ := s
  exact k .non H x.at_.h rfl
theorem go_if {b : Bool} (h : ET K t sp b) (h1 : b = true → Go K F0 H0 B D tu sp) (h2 : b = false → Go K F0 H0 B D tw sp) : Go K F0 H0 B D (tIfS t tu tw) sp := fun σ H s => by
  obtain ⟨F, x⟩ := s
  refine h F σ x.sl H x.at_.in_ _ fun H2 e => ?_
  cases b with
  | true => exact h1 rfl σ H2 ⟨_, x.grow e⟩
  | false => exact h2 rfl σ H2 ⟨_, x.grow e⟩
theorem go_drop {a : α} (h : EX K te sp a) (k : Nx K F0 H0 B D.nx sp) : Go K F0 H0 B D (tDrop te) sp := fun σ H s => by
  obtain ⟨F, x⟩ := s
  exact h F σ x.sl H x.at_.in_ _ fun v H2 e r => k _ H2 ⟨_, x.grow e⟩
theorem go_aug {i : Nat} {f : Int → Int → Int} {a b : Int} (e : sp[i]? = some (.is a)) (h : EX K te sp b) (k : Nx K F0 H0 B D.nx (sp.set i (.is (f a b)))) : Go K F0 H0 B D (tAug i te (ipI f)) sp := fun σ H s => by
  obtain ⟨F, x⟩ := s
  obtain ⟨v, hv, r⟩ := slots_get x.sl e
  cases rep_int r
  refine ⟨_, hv, h F σ x.sl H x.at_.in_ _ fun w H2 e2 r2 => ?_⟩
  cases rep_int r2
  exact ⟨a, b, rfl, rfl, k _ H2 ⟨_, (x.grow e2).is i (a := f a b) rfl⟩⟩
/-- x = [] -/
theorem go_own {i : Nat} (hi : i < sp.length) (k : Nx K F0 H0 B D.nx (sp.set i (.own ([] : List α)))) : Go K F0 H0 B D (tAsg (tLst tNil) (gName i)) sp := fun σ H s => by
  obtain ⟨F, x⟩ := s
  refine ⟨Nat.zero_le _, fun l hl => k _ _ ⟨F, ⟨x.at_.b, x.at_.h.trans (Ex.new hl), x.at_.f.trans (nw_to (Ex.new hl))⟩, x.fl, pr_set (F := slOk K F) (a := some (.ref l)) (b := .own ([] : List α)) True.intro i x.sl, fun j => ?_, fun j m hj hm e => ?_⟩⟩
  · by_cases h : i = j
    · subst h
      rw [List.getElem?_set_self hi, List.getElem?_set_self (by rw [pr_len x.sl]; exact hi)]
      exact ⟨l, [], rfl, ex_none x.at_.h hl, ex_none x.at_.in_ hl, upd_same, .nil⟩
    · rw [List.getElem?_set_ne h, List.getElem?_set_ne h]
      have z := x.ow j
      revert z
      generalize sp[j]? = s
      intro z
      match s, z with
      | none, _ => exact True.intro
      | some .no, _ => exact True.intro
      | some (@Sl.is _ _ _), _ => exact True.intro
      | some (@Sl.own _ q xs), ⟨l2, vs, h1, h2, h3, h4, h5⟩ =>
        exact ⟨l2, vs, h1, h2, h3, by rw [upd_ne (ne_of_none h4 hl)]; exact h4, h5⟩
  · have key : ∀ (u : Nat), i ≠ u → isOwn sp[u]? → σ[u]? ≠ some (some (.ref l)) := fun u _ hu z => by
      have y := x.ow u
      revert y hu
      generalize sp[u]? = s
      intro hu y
      match s, hu, y with
      | some (@Sl.own _ q xs), _, ⟨l2, vs, h1, h2, h3, h4, h5⟩ =>
        rw [z] at h1
        have e2 : l = l2 := by
          injection h1 with h1
          injection h1 with h1
          injection h1
        rw [← e2, hl] at h4
        cases h4
    by_cases h1 : i = j
    · by_cases h2 : i = m
      · exact h1.symm.trans h2
      · subst h1
        rw [List.getElem?_set_ne h2] at hm e
        rw [List.getElem?_set_self (by rw [pr_len x.sl]; exact hi)] at e
        exact absurd e.symm (key m h2 hm)
    · by_cases h2 : i = m
      · subst h2
        rw [List.getElem?_set_ne h1] at hj e
        rw [List.getElem?_set_self (by rw [pr_len x.sl]; exact hi)] at e
        exact absurd e (key j h1 hj)
      · rw [List.getElem?_set_ne h1] at hj e
        rw [List.getElem?_set_ne h2] at hm e
        exact x.inj j m hj hm e
theorem own_get {F H : Hp} {σ : L2.St} {j : Nat} {xs : List α} (x : Sx K F0 H0 B sp σ H F) (e : sp[j]? = some (.own xs)) : ∃ l vs, σ[j]? = some (some (.ref l)) ∧ H0 l = none ∧ F l = none ∧ H l = some (.lst vs) ∧ Pz (Rep.rep K F) vs xs := by
  have z := x.ow j
  rw [e] at z
  exact z
/-- xs.append(e) -/
theorem go_app {j : Nat} {xs : List α} {a : α} (e : sp[j]? = some (.own xs)) (h : EX K te sp a) (hl : xs.length < 100000) (k : Nx K F0 H0 B D.nx (sp.set j (.own (xs ++ [a])))) :
    Go K F0 H0 B D (tDrop (tBM K "list" rAppend (tVar j) (tCons te tNil))) sp := fun σ H s => by
  obtain ⟨F, x⟩ := s
  obtain ⟨l, vs, h1, h2, h3, h4, h5⟩ := own_get x e
  refine ⟨_, h1, .inl ⟨rfl, vs, sq_of h4⟩, h F σ x.sl H x.at_.in_ _ fun v H2 e2 r => ⟨l, vs, v, rfl, rfl, e2 l _ h4, sz_lt (by rw [pr_len h5]; exact hl), k _ _ ?_⟩⟩
  have y := x.grow e2
  have hjl : j < sp.length := by
    by_cases q : j < sp.length
    · exact q
    · rw [List.getElem?_eq_none (by omega)] at e
      cases e
  have hF2 : (Nw F H H2) l = none := nw_old h3 h4
  refine ⟨Nw F H H2, ⟨y.at_.b, Ex.mut y.at_.h h2, fun p o hp => ?_⟩, y.fl, ?_, fun i => ?_, fun i m hi hm e3 => ?_⟩
  · have hne : p ≠ l := fun z => by
      rw [z, hF2] at hp
      cases hp
    have q := y.at_.f p o hp
    cases q0 : F0 p with
    | some u =>
      rw [nw_some q0] at q ⊢
      exact q
    | none =>
      cases q1 : H0 p with
      | some u =>
        rw [nw_old q0 q1] at q
        cases q
      | none =>
        rw [nw_new q0 q1] at q ⊢
        rw [upd_ne hne]
        exact q
  · have z := pr_set (F := slOk K (Nw F H H2)) (a := some (.ref l)) (b := .own (xs ++ [a])) True.intro j y.sl
    have e4 : σ.set j (some (.ref l)) = σ := by
      apply List.ext_getElem?
      intro i
      by_cases q : j = i
      · subst q
        rw [List.getElem?_set_self (by rw [pr_len x.sl]; exact hjl), h1]
      · rw [List.getElem?_set_ne q]
    rw [e4] at z
    exact z
  · by_cases q : j = i
    · subst q
      rw [List.getElem?_set_self hjl]
      exact ⟨l, vs ++ [v], h1, h2, hF2, upd_same, pr_app (pr_imp (fun _ _ z => Rep.mono nw_f z) h5) (.cons r .nil)⟩
    · rw [List.getElem?_set_ne q]
      have z := y.ow i
      have ji := x.inj j i (by rw [e]; exact True.intro)
      revert z ji
      generalize sp[i]? = s
      intro z ji
      match s, z, ji with
      | none, _, _ => exact True.intro
      | some .no, _, _ => exact True.intro
      | some (@Sl.is _ _ _), _, _ => exact True.intro
      | some (@Sl.own _ q2 ys), ⟨l2, ws, g1, g2, g3, g4, g5⟩, ji =>
        have ne : l2 ≠ l := fun w => q (ji True.intro (by rw [h1, g1, w]))
        exact ⟨l2, ws, g1, g2, g3, by rw [upd_ne ne]; exact g4, g5⟩
  · have key : ∀ u : Nat, isOwn (sp.set j (.own (xs ++ [a])))[u]? → isOwn sp[u]? := fun u hu => by
      by_cases q : j = u
      · subst q
        rw [e]
        exact True.intro
      · rw [List.getElem?_set_ne q] at hu
        exact hu
    exact x.inj i m (key i hi) (key m hm) e3
/-- from here on it stands still -/
theorem go_frz {j : Nat} {xs : List α} (e : sp[j]? = some (.own xs)) (h : Go K F0 H0 B D tu (sp.set j (.is xs))) : Go K F0 H0 B D tu sp := fun σ H s => by
  obtain ⟨F, x⟩ := s
  obtain ⟨l, vs, h1, h2, h3, h4, h5⟩ := own_get x e
  have hF : Ex F (fun p => if p = l then H l else F p) := fun p o hp => by
    have ne : p ≠ l := fun z => by
      rw [z, h3] at hp
      cases hp
    show (if p = l then H l else F p) = some o
    rw [if_neg ne]
    exact hp
  have hjl : j < sp.length := by
    by_cases q : j < sp.length
    · exact q
    · rw [List.getElem?_eq_none (by omega)] at e
      cases e
  refine h σ H ⟨fun p => if p = l then H l else F p, ⟨x.at_.b, x.at_.h, fun p o hp => ?_⟩, x.fl.trans hF, ?_, fun i => ?_, fun i m hi hm e3 => ?_⟩
  · have hp : (if p = l then H l else F p) = some o := hp
    by_cases q : p = l
    · rw [if_pos q] at hp
      rw [q, nw_new (ex_none x.at_.b h2) h2]
      exact hp
    · rw [if_neg q] at hp
      exact x.at_.f p o hp
  · have z := pr_set (F := slOk K (fun p => if p = l then H l else F p)) (a := some (.ref l)) (b := .is xs) ⟨_, rfl, l, vs, rfl, by show (if l = l then H l else F l) = _; rw [if_pos rfl]; exact h4, pr_imp (fun _ _ z => Rep.mono hF z) h5⟩ j (slots_mono hF x.sl)
    have e4 : σ.set j (some (.ref l)) = σ := by
      apply List.ext_getElem?
      intro i
      by_cases q : j = i
      · subst q
        rw [List.getElem?_set_self (by rw [pr_len x.sl]; exact hjl), h1]
      · rw [List.getElem?_set_ne q]
    rw [e4] at z
    exact z
  · by_cases q : j = i
    · subst q
      rw [List.getElem?_set_self hjl]
      exact True.intro
    · rw [List.getElem?_set_ne q]
      have z := x.ow i
      have ji := x.inj j i (by rw [e]; exact True.intro)
      revert z ji
      generalize sp[i]? = s
      intro z ji
      match s, z, ji with
      | none, _, _ => exact True.intro
      | some .no, _, _ => exact True.intro
      | some (@Sl.is _ _ _), _, _ => exact True.intro
      | some (@Sl.own _ q2 ys), ⟨l2, ws, g1, g2, g3, g4, g5⟩, ji =>
        have ne : l2 ≠ l := fun w => q (ji True.intro (by rw [h1, g1, w]))
        exact ⟨l2, ws, g1, g2, by show (if l2 = l then H l else F l2) = none; rw [if_neg ne]; exact g3, g4, pr_imp (fun _ _ z => q2.mono hF z) g5⟩
  · have key : ∀ u : Nat, isOwn (sp.set j (.is xs))[u]? → isOwn sp[u]? := fun u hu => by
      by_cases q : j = u
      · subst q
        rw [e]
        exact True.intro
      · rw [List.getElem?_set_ne q] at hu
        exact hu
    exact x.inj i m (key i hi) (key m hm) e3
/-- what a target leaves of what is held alone -/
def TgS (js : List Nat) (S : α → List Sl → List Sl) : Prop := ∀ a (sp : List Sl) (i : Nat), (i ∈ js → ¬ isOwn (S a sp)[i]?) ∧ (i ∉ js → (S a sp)[i]? = sp[i]?)
theorem ts_1 {j : Nat} : TgS [j] (S1 (α := α) j) := fun a sp i => ⟨fun h => by
  cases List.mem_singleton.mp h
  exact set_is_no sp, fun h => List.getElem?_set_ne fun z => h (by simp [z])⟩
theorem ts_2 {i j : Nat} : TgS [i, j] (S2 (α := α) (β := β) i j) := fun a sp u => ⟨fun h => by
  by_cases q : u = j
  · subst q
    exact set_is_no _
  · have hi : u = i := by
      simp at h
      rcases h with h | h
      · exact h
      · exact absurd h q
    subst hi
    unfold S2
    rw [List.getElem?_set_ne fun z => q z.symm]
    exact set_is_no _, fun h => by
  unfold S2
  rw [List.getElem?_set_ne fun z => h (by simp [z]), List.getElem?_set_ne fun z => h (by simp [z])]⟩
theorem go_for {wi : TI} {g : TG} {js : List Nat} {S : α → List Sl → List Sl} {xs : List α} (hi : EI K wi sp xs) (hg : Tgt K g js S) (hS : TgS js S) (I : Nat → List Sl) (h0 : I 0 = sp)
    (hb : ∀ B' i a, xs[i]? = some a → Ex B B' → Go K F0 H0 B' { D with nx := St K F0 H0 B' (I (i + 1)), ct := St K F0 H0 B' (I (i + 1)), bk := D.nx } tu (S a (I i))) (hd : Nx K F0 H0 B D.nx (I xs.length)) :
    Go K F0 H0 B D (tFor wi g tu) sp := fun σ H s => by
  obtain ⟨F, x⟩ := s
  refine hi F σ x.sl H x.at_.in_ _ fun J H1 e1 wk => ?_
  have y := x.grow e1
  have eF := x.at_.in_
  refine for_it (walk_of_wk wk) (fun i σ H' => St K F0 H0 (Nw F H H1) (I i) σ H') ?_ (fun i σ H' _ z => ?_) ?_ ?_
  · exact ⟨Nw F H H1, y.at_, Ex.refl _, by rw [h0]; exact y.sl, by rw [h0]; exact y.ow, by rw [h0]; exact y.inj⟩
  · obtain ⟨F2, z⟩ := z
    exact z.fl.trans z.at_.in_
  · rintro i v σ2 H2 H3 hlt ⟨F2, z⟩ ⟨a, ha, e3, r⟩
    have w := z.grow e3
    refine hg (Nw F2 H2 H3) v a σ2 H3 (I i) _ w.at_.in_ w.sl (Rep.mono (nw_mono z.fl z.at_.in_) r) fun σ' hs _ hk => ?_
    refine hb (Nw F H H1) i a ha (x.fl.trans nw_f) σ' H3 ⟨Nw F2 H2 H3, w.at_, w.fl, hs, fun j => ?_, fun j k hj hk2 e => ?_⟩
    · obtain ⟨q1, q2⟩ := hS a (I i) j
      by_cases hj : j ∈ js
      · exact ownOk_of_not (q1 hj)
      · rw [q2 hj, hk j hj]
        exact w.ow j
    · obtain ⟨q1, q2⟩ := hS a (I i) j
      obtain ⟨q3, q4⟩ := hS a (I i) k
      have nj : j ∉ js := fun u => q1 u hj
      have nk : k ∉ js := fun u => q3 u hk2
      rw [q2 nj] at hj
      rw [q4 nk] at hk2
      rw [hk j nj, hk k nk] at e
      exact w.inj j k hj hk2 e
  · intro σ2 H2 z
    exact hd σ2 H2 (z.low (x.fl.trans nw_f))
end
end LS
namespace PySem
open Sem (wp)
theorem lsx_meets {v : Value} {o : Obj} {Z : Heap → Prop} (B : Begins v o Z) :
    Meets (Builtin.«enumerate.__new__» ⟨[.type "enumerate", v], []⟩) (fun _ R s => Z s.heap ∧
      R (.ok (.ret (.ref (s.heap.push o).objs.size))) { s with heap := (s.heap.push o).push { cls := .type "enumerate", data := .fields #[.none, .bool false, .ref s.heap.objs.size, rawInt 0, .none, .none] } }) :=
  .of_wp fun prog
        w A R s h => by
    obtain ⟨hp, g,
          d, tk, os⟩ := s
    obtain ⟨hz, h⟩ := h
    have hsub := sub_enumerate
    have begun : ∀ {A' : Around} {E : Value → Shared → Prop} {Q : Value → Shared → Prop}, Q (.ref hp.objs.size) ⟨hp.push o, g, d, tk, os⟩ → wpAny (model prog w) A' (pyIter v) Q E ⟨hp, g, d, tk, os⟩ :=
      fun q => B.iter prog w _ _ ⟨hp, g, d, tk, os⟩ _ hz q
    wp_walk using begun
    refine wpAny_stack_any
          fun st => wpAny_pure ?_
    split
    · rename_i c _ _ _ _ _
      cases (c == Value.type "enumerate") <;> (wp_walk using begun; exact ⟨_, rfl, h⟩)
    · wp_walk using begun
      exact ⟨_, rfl, h⟩
theorem lsx_begins {prog : Program} {w : World} {A : Around} {E : Value → Shared → Prop} {s : Shared} {v : Value} {o : Obj} {Z : Heap → Prop} {Q : Value → Shared → Prop} (B : Begins v o Z) (hz : Z s.heap)
    (h : ∀ h', IsEnum h' (s.heap.objs.size + 1) s.heap.objs.size 0 .none → h'.get? s.heap.objs.size = some o → (∀ b u, s.heap.get? b = some u → h'.get? b = some u) → Q (.ref (s.heap.objs.size + 1)) { s with heap := h' }) :
    wpAny (model prog w) A (call (.type "enumerate") [v]) Q E s := by
  refine callType_new F.called_enumerate (by decide) (F.typeCall_enumerate_1 _) (F.newCall_enumerate_1 _) (fun obj => F.args_object_init_2 obj _) F.entry_enumerate_new (lsx_meets B) ⟨hz, ?_⟩
  have n1 : (s.heap.push o).objs.size = s.heap.objs.size + 1 := Heap.size_push ..
  show _ ∧ _
  rw [n1]
  have g1 := Heap.get?_push_size (s.heap.push o) (o := { cls := .type "enumerate", data := .fields #[.none, .bool false, .ref s.heap.objs.size, rawInt 0, .none, .none] }) rfl
  rw [n1] at g1
  exact ⟨⟨_, g1, rfl⟩, h _ g1 (Heap.get?_push_of_some _ (Heap.get?_push_size _ B.free)) fun b u x => Heap.get?_push_of_some _ (Heap.get?_push_of_some _ x)⟩
end PySem
namespace LS
open PySem PySem.Spec PyProof.Rows L2 Evl
/-- the tuple at a, each item in a new pair with its place -/
def IteT (K : PySem.W.Frag) (a : Addr) : It where
  go := fun i H => ∃ (xs : List V) (x : V), SqT K H a xs ∧ xs[i]? = some x
  yld := fun i H v H' => ∃ T x, v = .ref T ∧ H T = none ∧ H' = upd H T (.tup [.int (i : Nat), x]) ∧ ∀ xs, SqT K H a xs → xs[i]? = some x
  stop := fun i H => ∃ xs : List V, SqT K H a xs ∧ xs.length = i
theorem turn_enumT {P : Program} {w : World} {K : PySem.W.Frag} {elts : List Expr} {kk : Nat} {tpos : Pos} (a e it : Addr) :
    Turn P w K (.Tuple elts kk tpos) (IteT K a) [e, it] e (fun i h => (∃ old, IsEnum h e it ((i : Nat) : Int) old) ∧ h.IsTupleIter it a i ∧ e ≠ it ∧ a ≠ it ∧ a ≠ e) where
  mem := by simp
  obj := fun i h st b hb => by
    obtain ⟨⟨old, he⟩,
          ⟨o, ho, hc, hd⟩, _⟩ := st
    rcases (show b = e ∨ b = it by simpa using hb) with rfl | rfl
    · exact ⟨_, he, fun v q => nomatch q⟩
    · exact ⟨o, ho, fun v q => by rw [hd] at q; cases q⟩
  keep := fun i h h' st k => ⟨st.1.elim fun old he => ⟨old, k e (by simp) _ he⟩, st.2.1.at fun o q => k it (by simp) o q, st.2.2⟩
  item := by
    intro X hP hw hK hc
          i pins s σ H E I hf st hg
    subst hP hw hK
    obtain ⟨⟨old, he⟩, hit, hne, hai, hae⟩ := st
    obtain ⟨xs, x, hq, hx⟩ := hg
    obtain ⟨its, rv,
          p, hz⟩ := I.tuple hq
    obtain ⟨u, hu,
          ru⟩ := rv.get hx
    have hu2 : its.toArray[i]? = some u := by simpa using hu
    have hil : i < its.toArray.size := by
      rcases Nat.lt_or_ge i its.toArray.size with q | q
      · exact q
      · rw [Array.getElem?_eq_none q] at hu2
        cases hu2
    have hel : e < s.heap.objs.size
          := Heap.lt_size he
    have hitl : it < s.heap.objs.size := by obtain ⟨_, q, _⟩ := hit; exact Heap.lt_size q
    refine wpAny_pyNext_enum_itemD (Draws.tuple (A := X.A.in1) (I.ok.hd hc) it a hai its.toArray) he ⟨hit, p⟩ hil hne (by simp; exact ⟨hne, fun z => hae z.symm⟩) fun x' h' tk hx' ho hit' hT hsz hk => ?_
    obtain rfl : u = x' := Option.some.inj (hu2.symm.trans hx')
    refine ⟨_, rfl, wpAny_letOwnedTupleGo_enum (s := { s with heap := h', toks := tk + 1 }) ho fun h2 he' sb => ?_⟩
    have hT2 : h2.get? s.heap.objs.size = some { cls := .type "tuple", data := .seq #[.int i tk, u] } := (sb.2 _ (Nat.ne_of_gt hel)).trans hT
    have new : ObjOk X.prog X.w (upd H s.heap.objs.size (.tup [.int (i : Nat), x])) h2 s.heap.objs.size (.tup [.int (i : Nat), x]) :=
      ⟨by show 2 ≤ sizeLine; decide, [.int i tk, u], .cons ⟨_, rfl⟩ (.cons ru .nil), ⟨_, hT2, rfl, _, rfl⟩⟩
    have ne2 : ∀ b, b ∉ [e, it] → b ≠ e ∧ b ≠ it := fun b hb => by simpa using hb
    have I1 : Inv X pins σ (upd H s.heap.objs.size (.tup [.int (i : Nat), x])) { s with heap := h2, toks := tk + 1 } :=
      I.turnedNew (ch := [e, it]) (fun b ob hb q => (sb.2 b (ne2 b hb).1).trans (hk b ob (ne2 b hb).1 (ne2 b hb).2 q)) hf (Nat.le_refl _) new
    refine ⟨.ref s.heap.objs.size, _, I1, rfl, ⟨_, x, rfl, I.hok.fresh (Nat.le_refl _), rfl, fun ys hy => by rw [I.tuple_inj hy hq]; exact hx⟩, ⟨⟨u, ?_⟩, hit'.1.at fun o q => (sb.2 it (Ne.symm hne)).trans q, hne, hai, hae⟩, fun b hb => ?_⟩
    · rw [show ((i + 1 : Nat) : Int) = (i : Int) + 1 by omega]
      exact he'
    · have hb' : b <
          s.heap.objs.size := by
        rcases (show b = e ∨ b = it by simpa using hb) with rfl | rfl
        · exact hel
        · exact hitl
      rw [upd_ne
            (Nat.ne_of_lt hb')]
      exact (hf b hb).1
  done := by
    intro X hP hw hK hc
          i pins s σ H E I hf st hg
    subst hP hw hK
    obtain ⟨⟨old, he⟩, hit, hne, hai, hae⟩ := st
    obtain ⟨xs, hq, hx⟩ := hg
    obtain ⟨its, rv,
          p, hz⟩ := I.tuple hq
    obtain ⟨f0, f1, f2, f3,
          f4, f5⟩ := hf it (by simp)
    have hl : its.toArray.size = i := by rw [List.size_toArray, ← rv.length]; exact hx
    exact wpAny_pyNext_enum_endD (Draws.tuple (A := X.A.in1) (I.ok.hd hc) it a hai its.toArray) he (by rw [hl]; exact ⟨hit, p⟩) fun h' eb => ⟨rfl, I.turned (t' := s.toks) (fun b o hb q => eb b o hb q) f0 f1 f3 f4 f5⟩
  self := fun A i s Q E st h => st.1.elim fun _ he => wpAny_pyIter_enum he h
def iEnumT (K : PySem.W.Frag) (ta : TA) : TI := fun σ H R => ta σ H fun vs H1 => ∃ a xs, vs = [.ref a] ∧ SqT K H1 a xs ∧ R (IteT K a) H1
theorem pi_enumT {X : Cx} {e : Expr} {ta : TA} {p pos tpos : Pos} {elts : List Expr} {kk : Nat} (hg : Gl X "enumerate") (hm : X.mg "enumerate" = none) (ha : PA X [e] ta) (hs : starEach [e] X.env = [(false, eval e X.env)] := by rfl) :
    PI X (.Tuple elts kk tpos) (.Call (.Name "enumerate" p) [e] [] pos) (iEnumT X.K ta) := by
  refine ⟨fun pins
        s σ H R I h => ?_⟩
  refine Call_ (ld_blt I hg hm boot_enumerate (PyProof.Rows.callWith_type1 (thn
        (ha.run pos pins s σ H _ I h) fun us s1 ⟨vs, H1, I1, r1, q1⟩ => ?_) hs rfl))
  obtain ⟨a, xs,
        ex, hq, q⟩ := q1
  subst ex
  obtain ⟨u, rfl, ru⟩ : ∃ u, us = [u] ∧ RelV (.ref a) u := by
    cases r1 with
    | cons r rr =>
      cases rr
      exact ⟨_, rfl, r⟩
  obtain rfl : u =
        Value.ref a := ru
  obtain ⟨its, rv, p', hz⟩ := I1.tuple hq
  have hal : a < s1.heap.objs.size := by obtain ⟨o, q, _⟩ := p'; exact Heap.lt_size q
  refine lsx_begins (begins_tuple a its.toArray) p' fun h' he hit hk => wpAny_pyIter_enum he ?_
  have I2 : Inv X pins σ H1 { s1 with heap
        := h' } := I1.kept (t' := s1.toks) hk
  refine ⟨s1.heap.objs.size + 1, [s1.heap.objs.size + 1, s1.heap.objs.size], _, _, H1, rfl, I2, turn_enumT a (s1.heap.objs.size + 1) s1.heap.objs.size, ⟨⟨.none, he⟩, ⟨_, hit, rfl, rfl⟩, Nat.succ_ne_self _, Nat.ne_of_lt hal, Nat.ne_of_lt (Nat.lt_succ_of_lt hal)⟩, fun b hb => ?_, q⟩
  have hle :
        s1.heap.objs.size ≤ b := by
    rcases (show b = s1.heap.objs.size + 1 ∨ b = s1.heap.objs.size by simpa using hb) with rfl | rfl
    · exact Nat.le_add_right _ _
    · exact Nat.le_refl _
  exact I1.fpOk hle
        (I1.hok.fresh hle)
theorem ei_enumT {K : PySem.W.Frag} {sp : List Sl} {te : TE} {α : Type} [Rep α] {xs : Tp α} (h : EX K te sp xs) : EI K (iEnumT K (tCons te tNil)) sp (enumI xs.l) := fun F σ hs H1 e1 R q => h F σ hs H1 e1 _ fun v H2 e2 r => by
  obtain ⟨p, vs, rfl, hp, hv⟩ := rep_t r
  refine ⟨p, vs, rfl, ex_t (nw_in e1 e2) hp, q _ H2 e2 ⟨fun i H e hi => ?_, fun H e => ?_, fun i H x H' a e ha y => ?_⟩⟩
  · rw [enumI_len] at hi
    exact ⟨vs, vs[i]'(by rw [pr_len hv]; exact hi), ex_t e hp, by simp [pr_len hv, hi]⟩
  · rw [enumI_len]
    exact ⟨vs, ex_t e hp, pr_len hv⟩
  · obtain ⟨T, w, rfl, hT, rfl, y2⟩ := y
    obtain ⟨ha1, ha2⟩ := enumI_get ha
    obtain ⟨z, hz, rz⟩ := pr_get hv ha2
    have hzw : z = w := Option.some.inj (hz.symm.trans (y2 vs (ex_t e hp)))
    rw [hzw] at rz
    refine ⟨Ex.new hT, T, .int i, w, rfl, st_of (nw_upd e hT), ?_, Rep.mono nw_f rz⟩
    show V.int i = V.int a.1
    rw [ha1]
structure Cf (P : Program) (w : World) (K : PySem.W.Frag) (mg : Str → Option Value) (base : Heap) (k : Nat) (x : Str) (ps : List Str) (dvs : List V) (sq : Sp) : Prop where
  ex : ∃ f fd ds, FnOk P w K mg base CX0 k f fd ps sq ∧ mg x = some (.ref f) ∧ PySem.W.keepIn K (.ref f) = true ∧ Binds K fd ps ds ∧ Vals dvs ds
theorem pe_cf {X : Cx} {k : Nat} {x : Str} {ps : List Str} {dvs : List V} {sq : Sp} {e : Expr} {es : List Expr} {t : TA} {p pos : Pos} (c : Cf X.prog X.w X.K X.mg X.base k x ps dvs sq) (hr : Room k X.A) (hg : Gl X x) (ha : PA X (e :: es) t)
    (hdb : (x == ("__debug__" : Str)) = false := by decide) (he : starEach (e :: es) X.env = (false, eval e
          X.env) :: starEach es X.env := by rfl) (hpl : (backTo pos (starEach es X.env)).any (·.1) = false := by rfl) :
    PE X (.Call (.Name x p) (e :: es) [] pos) (tCall sq dvs E0 t) := by
  obtain ⟨f, fd, ds, F, hm, hk, hb, hd⟩ := c.ex
  exact pe_call F hr hg hm hk hb hd pass0 ha hdb he hpl
/-- what the text must have for C.m, m a staticmethod -/
structure SMet (K : PySem.W.Frag) (C : Addr) (m : Str) (g : Addr) : Prop where
  rd : ClX.CRead K C (.type "type")
  at_ : ∃ p, PySem.W.findCls K (.ref C) (.type "type") m = some (.get (.builtin "staticmethod.__get__") (.ref p) .none (.ref C)) ∧ ∃ rest, PySem.W.recIn K p "staticmethod" = some (.ref g :: rest)
  kp : PySem.W.keepIn K (.ref g) = true
structure Cs (P : Program) (w : World) (K : PySem.W.Frag) (mg : Str → Option Value) (base : Heap) (k : Nat) (x m : Str) (ps : List Str) (sq : Sp) : Prop where
  ex : ∃ C g fd, FnOk P w K mg base CX0 k g fd ps sq ∧ mg x = some (.ref C) ∧ SMet K C m g ∧ Binds K fd ps []
theorem pe_sm {X : Cx} {k : Nat} {x m : Str} {ps : List Str} {sq : Sp} {e : Expr} {es : List Expr} {t : TA} {p pos apos : Pos} {pl : Sem Bool} (c : Cs X.prog X.w X.K X.mg X.base k x m ps sq) (hr : Room k X.A) (hg : Gl X x) (ha : PA X (e :: es) t)
    (hdb : (x == ("__debug__" : Str)) = false := by decide) (he : starEach (e :: es) X.env = (false, eval e X.env) :: starEach es X.env := by rfl) (hpl : (backTo pos (starEach es X.env)).any (·.1) = false := by rfl)
    (ht : eval (.Call (.Attribute (.Name x p) m apos) (e :: es) [] pos) X.env = (do
      let ov ← eval (.Name x p) X.env
      standAt apos.atName
      let (f, first) ← holding
            [ov] (getMethod ov m pl)
      callWith pos f first (backTo pos (starEach (e :: es)
            X.env)) (backToKw pos (keywordEach [] X.env))) := by rfl) :
    PE X (.Call (.Attribute (.Name x p) m apos) (e :: es) [] pos) (tCall sq [] E0 t) := by
  obtain ⟨C, g, fd, F, hm, S, hb⟩ := c.ex
  obtain ⟨q, hf, rest, hrec⟩ := S.at_
  refine ⟨fun pins
        s σ H Q I h => ?_⟩
  refine PySem.W.methodCall_KW (pl := pl) (ld_glob I hg hm ?_ hdb) ht
  refine PySem.W.method_cls I.kIn S.rd.ga ?_
  refine PySem.W.cls_bind I.kIn S.rd.rd hf ?_
  refine wpAny_call (PySem.W.sm_get (s := { s with toks := s.toks + 1 }) I.kIn hrec (PySem.W.handed_on rfl ?_))
  have I2 := I.tok (s.toks + 1)
  exact PySem.W.callWith_K (h₀ := X.base) I.ok.mod.kin S.kp (thn (ha.run pos pins _ σ H _ I2 h) fun us s1 z => by
    obtain ⟨vs, H1, I1, r, q⟩ := z
    exact ⟨I1.kIn, run_fn F hr hb .nil pass0 I1 r q⟩) he hpl
end LS
namespace LS
open PySem PySem.Spec PyProof.Rows L2 Evl
/-- the module's names that are built-ins, its constants -/
structure Bt (mg : Str → Option Value) : Prop where
  len : mg "len" = none
  range : mg "range" = none
  list : mg "list" = none
  tuple : mg "tuple" = none
  int : mg "int" = none
  bool : mg "bool" = none
  isinstance : mg "isinstance" = none
  enumerate : mg "enumerate" = none
  zip : mg "zip" = none
  sum : mg "sum" = none
  sorted : mg "sorted" = none
  all : mg "all" = none
  any : mg "any" = none
  max : mg "max" = none
  min : mg "min" = none
  dict : mg "dict" = none
  c_LEAST_SIZE : ∃ t, mg "LEAST_SIZE" = some (.int 2 t)
  c_MOST_SIZE : ∃ t, mg "MOST_SIZE" = some (.int 8 t)
def weakS (s s' : Sl) : Prop := s' = s ∨ s' = .no
theorem St.weak {K : PySem.W.Frag} {F0 H0 B : Hp} {sp sq : List Sl} {σ : L2.St} {H : Hp} (h : St K F0 H0 B sp σ H) (w : Pz weakS sp sq) : St K F0 H0 B sq σ H := by
  obtain ⟨F, x⟩ := h
  have hl := pr_len w
  have key : ∀ j : Nat, sq[j]? = sp[j]? ∨ sq[j]? = some .no := fun j => by
    cases q : sp[j]? with
    | none =>
      rw [List.getElem?_eq_none_iff] at q
      exact .inl (List.getElem?_eq_none (by omega))
    | some s =>
      obtain ⟨s', h1, h2⟩ := pr_getl w q
      rw [h1]
      rcases h2 with rfl | rfl
      · exact .inl rfl
      · exact .inr rfl
  refine ⟨F, x.at_, x.fl, ?_, fun j => ?_, fun j k hj hk e => ?_⟩
  · have := x.sl
    clear key hl x
    revert sq
    generalize hs : (σ : List (Option V)) = τ at this
    intro sq w
    revert sq
    clear hs
    induction this with
    | nil =>
      intro sq w
      cases w
      exact .nil
    | cons r t ih =>
      intro sq w
      cases w with
      | cons r2 t2 =>
        refine .cons ?_ (ih t2)
        rcases r2 with rfl | rfl
        · exact r
        · exact True.intro
  · rcases key j with e | e
    · rw [e]
      exact x.ow j
    · rw [e]
      exact True.intro
  · rcases key j with e1 | e1
    · rcases key k with e2 | e2
      · rw [e1] at hj
        rw [e2] at hk
        exact x.inj j k hj hk e
      · rw [e2] at hk
        exact False.elim hk
    · rw [e1] at hj
      exact False.elim hj
section
variable {K : PySem.W.Frag} {N : List Str} {t : TS} {sp : List Sl} {vs : List V} {H : Hp} {Q : VK} {E : XK}
variable {α β γ δ ε ζ : Type} [Rep α] [Rep β] [Rep γ] [Rep δ] [Rep ε] [Rep ζ]
theorem no_own_is {sq : List Sl} (h : ∀ s ∈ sq, ¬ isOwn (some s)) (j : Nat) : ¬ isOwn sq[j]? := fun z => by
  cases q : sq[j]? with
  | none =>
    rw [q] at z
    exact z
  | some s =>
    rw [q] at z
    exact h s (List.mem_of_getElem? q) z
theorem body {F : Hp} {sq : List Sl} {r : δ} (e : Ex F H) (ha : Args K F vs sq) (hn : ∀ s ∈ sq, ¬ isOwn (some s)) (hs : sq ++ List.replicate (N.length - sq.length) .no = sp)
    (k : ∀ v H', Ex H H' → Rep.rep K (Nw F H H') v r → Q v H') (g : Rt K F H Q r → Go K F H F { nx := fun _ H' => Q .non H', rt := Q } t sp) : t { nx := fun _ H' => Q .non H', rt := Q } (L2.start N vs) H := by
  have s := start_st (N := N) e ha (no_own_is hn)
  rw [hs] at s
  exact g k _ H s
theorem own_cons {α : Type} [Rep α] {a : α} {sq : List Sl} (h : ∀ s ∈ sq, ¬ isOwn (some s)) : ∀ s ∈ (Sl.is a :: sq), ¬ isOwn (some s) := fun s hs => by
  rcases List.mem_cons.mp hs with e | e
  · rw [e]
    exact id
  · exact h s e
theorem own_nil : ∀ s ∈ ([] : List Sl), ¬ isOwn (some s) := fun s hs => nomatch hs
theorem body1 {spf : α → List Sl} {pre : α → Prop} {f : α → δ} (h : sp1 K pre f vs H Q E) (hsp : ∀ a : α, [Sl.is a] ++ List.replicate (N.length - 1) Sl.no = spf a) (g : ∀ F a, pre a → Rt K F H Q (f a) → Go K F H F { nx := fun _ H' => Q .non H', rt := Q } t (spf a)) :
    t { nx := fun _ H' => Q .non H', rt := Q } (L2.start N vs) H := by
  obtain ⟨F, a, e, ha, hp, k⟩ := h
  exact body e ha (own_cons own_nil) (hsp a) k (g F a hp)
theorem body2 {spf : α → β → List Sl} {pre : α → β → Prop} {f : α → β → δ} (h : sp2 K pre f vs H Q E) (hsp : ∀ (a : α) (b : β), [Sl.is a, Sl.is b] ++ List.replicate (N.length - 2) Sl.no = spf a b) (g : ∀ F a b, pre a b → Rt K F H Q (f a b) → Go K F H F { nx := fun _ H' => Q .non H', rt := Q } t (spf a b)) :
    t { nx := fun _ H' => Q .non H', rt := Q } (L2.start N vs) H := by
  obtain ⟨F, a, b, e, ha, hp, k⟩ := h
  exact body e ha (own_cons (own_cons own_nil)) (hsp a b) k (g F a b hp)
theorem body3 {spf : α → β → γ → List Sl} {pre : α → β → γ → Prop} {f : α → β → γ → δ} (h : sp3 K pre f vs H Q E) (hsp : ∀ (a : α) (b : β) (c : γ), [Sl.is a, Sl.is b, Sl.is c] ++ List.replicate (N.length - 3) Sl.no = spf a b c) (g : ∀ F a b c, pre a b c → Rt K F H Q (f a b c) → Go K F H F { nx := fun _ H' => Q .non H', rt := Q } t (spf a b c)) :
    t { nx := fun _ H' => Q .non H', rt := Q } (L2.start N vs) H := by
  obtain ⟨F, a, b, c, e, ha, hp, k⟩ := h
  exact body e ha (own_cons (own_cons (own_cons own_nil))) (hsp a b c) k (g F a b c hp)
theorem body5 {spf : α → β → γ → ε → ζ → List Sl} {pre : α → β → γ → ε → ζ → Prop} {f : α → β → γ → ε → ζ → δ} (h : sp5 K pre f vs H Q E) (hsp : ∀ (a : α) (b : β) (c : γ) (d : ε) (e : ζ), [Sl.is a, Sl.is b, Sl.is c, Sl.is d, Sl.is e] ++ List.replicate (N.length - 5) Sl.no = spf a b c d e)
    (g : ∀ F a b c d e, pre a b c d e → Rt K F H Q (f a b c d e) → Go K F H F { nx := fun _ H' => Q .non H', rt := Q } t (spf a b c d e)) : t { nx := fun _ H' => Q .non H', rt := Q } (L2.start N vs) H := by
  obtain ⟨F, a, b, c, d, e, e0, ha, hp, k⟩ := h
  exact body e0 ha (own_cons (own_cons (own_cons (own_cons (own_cons own_nil))))) (hsp a b c d e) k (g F a b c d e hp)
theorem sp_len5 {pre : α → β → γ → ε → ζ → Prop} {f : α → β → γ → ε → ζ → δ} (vs : List V) (H : Hp) (Q : VK) (E : XK) (h : sp5 K pre f vs H Q E) : vs.length = 5 := by
  obtain ⟨F, a, b, c, d, e, _, h, _⟩ := h
  exact args_len h
theorem nx_non {F0 H0 B : Hp} {sq : List Sl} (k : Rt K F0 H0 Q ()) : Nx K F0 H0 B (fun _ H' => Q .non H') sq := fun σ H s => by
  obtain ⟨F, x⟩ := s
  exact k .non H x.at_.h rfl
theorem nx_st {F0 H0 B : Hp} {sq sr : List Sl} (w : Pz weakS sq sr) : Nx K F0 H0 B (St K F0 H0 B sr) sq := fun σ H s => s.weak w
theorem nx_go {F0 H0 B : Hp} {D : Ends} {u : TS} {sq : List Sl} (h : Go K F0 H0 B D u sq) : Nx K F0 H0 B (u D) sq := h
theorem go_weak {F0 H0 B : Hp} {D : Ends} {u : TS} {sq sr : List Sl} (w : Pz weakS sq sr) (h : Go K F0 H0 B D u sr) : Go K F0 H0 B D u sq := fun σ H s => h σ H (s.weak w)
end
end LS
local macro_rules | `(tactic| walk_at "ls one") => `(tactic| first
  | with_reducible exact LS.ex_ci
  | with_reducible exact LS.ex_cb
  | with_reducible exact LS.ex_cn
  | (with_reducible refine LS.ex_var ?_; rfl))
namespace LS
open PySem PySem.Spec PyProof.Rows L2 Evl
theorem go_retE {K : PySem.W.Frag} {F0 H0 B : Hp} {sp : List Sl} {D : Ends} {te : TE} {γ : Type} [Rep γ] {a r : γ} (h : EX K te sp a) (e : a = r) (k : Rt K F0 H0 D.rt r) : Go K F0 H0 B D (tRet te) sp := go_ret (e ▸ h) k
end LS
namespace LS
open PySem PySem.Spec PyProof.Rows L2 Evl
theorem nw_dom {B G HD H H2 : Hp} (b : Ex B HD) (d : ∀ p, H p = none → HD p = none) (e : Ex H H2) (g : Ex G (Nw B HD H)) : Ex (Nw G H H2) (Nw B HD H2) := fun p o h => by
  cases q : G p with
  | some u =>
    rw [nw_some q] at h
    rw [← h]
    exact nw_to e p u (g p u q)
  | none =>
    cases q2 : H p with
    | some u =>
      rw [nw_old q q2] at h
      cases h
    | none =>
      rw [nw_new q q2] at h
      rw [nw_new (ex_none b (d p q2)) (d p q2)]
      exact h
section
variable {K : PySem.W.Frag} {sp : List Sl} {ta tb tc te tl : TE} {t u : TT} {tr : TA}
variable {α β γ δ : Type} [Rep α] [Rep β] [Rep γ] [Rep δ]
theorem mem_take {A : Type} {a : A} {n : Nat} {xs : List A} (h : a ∈ xs.take n) : a ∈ xs := List.mem_of_mem_take h
theorem filter_len {A B : Type} (p : A → Bool) (f : A → B) (xs : List A) : ((xs.filter p).map f).length ≤ xs.length := by
  rw [List.length_map]
  exact List.length_filter_le _ _
theorem ex_lc2f {wi wi1 : TI} {g g1 : TG} {js js1 vs vs1 : List Nat} {S : α → List Sl → List Sl} {S1 : β → List Sl → List Sl} {xs : List α} {ys : α → List β} {p : α → β → Bool} {f : α → β → γ} (hi : EI K wi sp xs) (hg : Tgt K g js S) (hj : ∀ j ∈ js, j ∈ vs)
    (hi1 : ∀ a ∈ xs, EI K wi1 (S a (wipeS sp vs)) (ys a)) (hg1 : Tgt K g1 js1 S1) (hj1 : ∀ j ∈ js1, j ∈ vs1) (hv : ∀ j ∈ js1, j ∈ vs) (hn : (xs.flatMap ys).length ≤ 40000)
    (ht : ∀ a ∈ xs, ∀ b ∈ ys a, ET K t (S1 b (wipeS (S a (wipeS sp vs)) vs1)) (p a b)) (he : ∀ a ∈ xs, ∀ b ∈ ys a, p a b = true → EX K te (S1 b (wipeS (S a (wipeS sp vs)) vs1)) (f a b)) :
    EX K (tLc2 wi g tYes wi1 g1 t te vs vs1) sp (xs.flatMap fun a => ((ys a).filter (p a)).map (f a)) :=
  fun F σ hs H0 e0 Q q => hi F σ hs H0 e0 _ fun J H1 e1 wk D hD => by
    have eB : Ex (Nw F H0 H1) H1 := nw_in e0 e1
    generalize hB : Nw F H0 H1 = B at eB wk
    have hsB : Slots K B (wipe σ vs) (wipeS sp vs) := by
      rw [← hB]
      exact slots_mono nw_f (slots_wipe hs vs)
    have hDD : (upd H1 D (.lst [])) D = some (.lst []) := upd_same
    have bHD : Ex B (upd H1 D (.lst [])) := eB.trans (Ex.new hD)
    have bD : B D = none := ex_none eB hD
    have dom : ∀ {H : Hp} {o : HO}, Ex H1 H → H D = some o → ∀ p, H p = none → (upd H1 D (.lst [])) p = none := fun {H o} h1 hw p hp => by
      have ne : p ≠ D := fun z => by
        rw [z, hw] at hp
        cases hp
      rw [upd_ne ne]
      exact ex_none h1 hp
    have w0 := walk_of_wk wk
    have fin : ∀ H, Ex H1 H → (∃ ws, H D = some (.lst ws) ∧ Pz (Rep.rep K (Nw B (upd H1 D (.lst [])) H)) ws ((xs.take xs.length).flatMap fun a => ((ys a).filter (p a)).map (f a))) → Q (.ref D) H := ?fin
    refine ⟨fun i m H => m = xs.length - i ∧ i ≤ xs.length ∧ Ex H1 H ∧ ∃ ws, H D = some (.lst ws) ∧ Pz (Rep.rep K (Nw B (upd H1 D (.lst [])) H)) ws ((xs.take i).flatMap fun a => ((ys a).filter (p a)).map (f a)), ⟨xs.length, by simp, Nat.zero_le _, Ex.new hD, [], upd_same, .nil⟩, ?_⟩
    · rintro i m0 H ⟨rfl, hle, h1, ws, hw, hz⟩
      by_cases hlt : i < xs.length
      case neg =>
        have e : i = xs.length := by omega
        subst e
        exact .inl ⟨w0.stops H (eB.trans h1), fin H h1 ⟨ws, hw, hz⟩⟩
      refine .inr ⟨w0.goes i H hlt (eB.trans h1), fun H => Ex H1 H ∧ ∃ ws, H D = some (.lst ws) ∧ Pz (Rep.rep K (Nw B (upd H1 D (.lst [])) H)) ws ((xs.take (i + 1)).flatMap fun a => ((ys a).filter (p a)).map (f a)), fun H' z => ⟨xs.length - (i + 1), by omega, rfl, hlt, z⟩, fun x H' y0 => ?_⟩
      obtain ⟨a, ha, e2, rx⟩ := w0.yields i H x H' hlt (eB.trans h1) y0
      have hmem : a ∈ xs := List.mem_of_getElem? ha
      have htk : (xs.take (i + 1)) = xs.take i ++ [a] := by rw [List.take_add_one, ha]; rfl
      have eBH : Ex B H := eB.trans h1
      have g1B : Ex (Nw B H H') (Nw B (upd H1 D (.lst [])) H') := nw_dom bHD (dom h1 hw) e2 nw_f
      have g1H : Ex (Nw B H H') H' := nw_in eBH e2
      refine hg (Nw B H H') x a (wipe σ vs) H' _ _ g1H (slots_mono nw_f hsB) rx fun σ' hs' hwp _ => ⟨by rw [hwp vs hj, wipe_idem], ?_⟩
      show wi1 σ' H' _
      refine hi1 a hmem _ σ' hs' H' g1H _ fun J1 H4 e4 wk1 => ?_
      have hw4 : H4 D = some (.lst ws) := e4 D _ (e2 D _ hw)
      have h14 : Ex H1 H4 := h1.trans (e2.trans e4)
      generalize hG2 : Nw (Nw B H H') H' H4 = G2 at wk1
      have g2H : Ex G2 H4 := by rw [← hG2]; exact nw_in g1H e4
      have g2B : Ex G2 (Nw B (upd H1 D (.lst [])) H4) := by rw [← hG2]; exact nw_dom bHD (dom (h1.trans e2) (e2 D _ hw)) e4 g1B
      have g2D : G2 D = none := by rw [← hG2]; exact nw_old (nw_old bD hw) (e2 D _ hw)
      have hs2 : Slots K G2 σ' (S a (wipeS sp vs)) := by rw [← hG2]; exact slots_mono nw_f hs'
      have w1 := walk_of_wk wk1
      refine ⟨fun j m H => m = (ys a).length - j ∧ j ≤ (ys a).length ∧ Ex G2 H ∧ Ex H1 H ∧ ∃ ws, H D = some (.lst ws) ∧ Ex G2 (Nw B (upd H1 D (.lst [])) H) ∧ Pz (Rep.rep K (Nw B (upd H1 D (.lst [])) H)) ws (((xs.take i).flatMap fun a => ((ys a).filter (p a)).map (f a)) ++ (((ys a).take j).filter (p a)).map (f a)), ⟨(ys a).length, by simp, Nat.zero_le _, g2H, h14, ws, hw4, g2B, ?_⟩, ?_⟩
      · rw [List.take_zero, List.filter_nil, List.map_nil, List.append_nil]
        exact pr_imp (fun _ _ z => Rep.mono (nw_to (e2.trans e4)) z) hz
      · rintro j m H5 ⟨rfl, hjl, gH5, h15, vs5, hD5, gB5, hz5⟩
        by_cases hlt1 : j < (ys a).length
        · refine .inr ⟨w1.goes j H5 hlt1 gH5, fun H => Ex G2 H ∧ Ex H1 H ∧ ∃ ws, H D = some (.lst ws) ∧ Ex G2 (Nw B (upd H1 D (.lst [])) H) ∧ Pz (Rep.rep K (Nw B (upd H1 D (.lst [])) H)) ws (((xs.take i).flatMap fun a => ((ys a).filter (p a)).map (f a)) ++ (((ys a).take (j + 1)).filter (p a)).map (f a)), fun H' z => ⟨(ys a).length - (j + 1), by omega, rfl, hlt1, z⟩, fun x1 H6 y1 => ?_⟩
          obtain ⟨b, hb, e6, rx1⟩ := w1.yields j H5 x1 H6 hlt1 gH5 y1
          have hmb : b ∈ ys a := List.mem_of_getElem? hb
          have htk1 : ((ys a).take (j + 1)) = (ys a).take j ++ [b] := by rw [List.take_add_one, hb]; rfl
          have g3H : Ex (Nw G2 H5 H6) H6 := nw_in gH5 e6
          have g3B : Ex (Nw G2 H5 H6) (Nw B (upd H1 D (.lst [])) H6) := nw_dom bHD (dom h15 hD5) e6 gB5
          have hD6 := e6 D _ hD5
          refine hg1 (Nw G2 H5 H6) x1 b (wipe σ' vs1) H6 _ _ g3H (slots_mono nw_f (slots_wipe hs2 vs1)) rx1 fun σ3 hs3 hwp3 _ => ⟨by rw [hwp3 vs1 hj1, wipe_idem], ?_⟩
          refine ht a hmem b hmb _ σ3 hs3 H6 g3H _ fun H7 e7 => ?_
          have hD7 := e7 D _ hD6
          cases hp : p a b with
          | true =>
            refine he a hmem b hmb hp _ σ3 hs3 H7 (g3H.trans e7) _ fun v H8 e8 r => ?_
            have hD8 := e8 D _ hD7
            have e58 : Ex H5 H8 := e6.trans (e7.trans e8)
            have hlen : vs5.length ≤ 40000 := by
              refine Nat.le_trans ?_ hn
              rw [pr_len hz5, List.length_append]
              have l1 : ((xs.take i).flatMap fun a => ((ys a).filter (p a)).map (f a)).length ≤ ((xs.take i).flatMap ys).length := by
                generalize xs.take i = zs
                induction zs with
                | nil => exact Nat.le_refl _
                | cons z r ih =>
                  rw [List.flatMap_cons, List.flatMap_cons, List.length_append, List.length_append]
                  exact Nat.add_le_add (filter_len _ _ _) ih
              have l2 : ((((ys a).take j).filter (p a)).map (f a)).length ≤ (ys a).length := Nat.le_trans (filter_len _ _ _) (by rw [List.length_take]; omega)
              have l3 : ((xs.take i).flatMap ys).length + (ys a).length ≤ (xs.flatMap ys).length := by
                have e9 : (xs.flatMap ys).length = ((xs.take (i + 1)).flatMap ys).length + ((xs.drop (i + 1)).flatMap ys).length := by
                  rw [← List.length_append, ← List.flatMap_append, List.take_append_drop]
                rw [e9, htk, List.flatMap_append, List.length_append, List.flatMap_singleton]
                omega
              omega
            refine ⟨vs5, hD8, sz_lt (by omega), Ex.mut (gH5.trans e58) g2D, Ex.mut (h15.trans e58) hD, vs5 ++ [v], upd_same, ?_, ?_⟩
            · rw [nw_mut hDD]
              exact gB5.trans (nw_to e58)
            · rw [nw_mut hDD, htk1, List.filter_append, List.map_append, ← List.append_assoc]
              refine pr_app (pr_imp (fun _ _ z => Rep.mono (nw_to e58) z) hz5) ?_
              rw [List.filter_cons, if_pos hp]
              exact .cons (Rep.mono (nw_dom bHD (dom (h15.trans (e6.trans e7)) hD7) e8 (g3B.trans (nw_to e7))) r) .nil
          | false =>
            have e57 : Ex H5 H7 := e6.trans e7
            refine ⟨gH5.trans e57, h15.trans e57, vs5, hD7, gB5.trans (nw_to e57), ?_⟩
            rw [htk1, List.filter_append, List.filter_cons, if_neg (by rw [hp]; decide), show List.filter (p a) [] = [] from rfl, List.append_nil]
            exact pr_imp (fun _ _ z => Rep.mono (nw_to e57) z) hz5
        · have hje : j = (ys a).length := by omega
          subst hje
          rw [List.take_length] at hz5
          refine .inl ⟨w1.stops H5 gH5, h15, vs5, hD5, ?_⟩
          rw [htk, List.flatMap_append, List.flatMap_singleton]
          exact hz5
    case fin =>
      rintro H h1 ⟨ws, hw, hz⟩
      rw [List.take_length] at hz
      refine q _ H (e1.trans h1) ⟨D, ws, rfl, ?_, pr_imp (fun _ _ z => Rep.mono (fun p o hp => ?_) z) hz⟩
      · rw [nw_new (ex_none e0 (ex_none e1 hD)) (ex_none e1 hD)]
        exact hw
      · cases q1 : B p with
        | some u =>
          rw [nw_some q1] at hp
          rw [← hp]
          rw [← hB] at q1
          exact nw_to h1 p u q1
        | none =>
          cases q2 : (upd H1 D (.lst [])) p with
          | some u =>
            rw [nw_old q1 q2] at hp
            cases hp
          | none =>
            have ne : p ≠ D := fun z => by
              rw [z, upd_same] at q2
              cases q2
            rw [nw_new q1 q2] at hp
            rw [upd_ne ne] at q2
            rw [nw_new (ex_none e0 (ex_none e1 q2)) (ex_none e1 q2)]
            exact hp
theorem ex_ixLd [Inhabited α] {xs : List α} {i : Int} (h1 : EX K ta sp xs) (h2 : EX K tb sp i) (h0 : 0 ≤ i) (hl : i < xs.length) : EX K (tOp (rIxL K) ta tb) sp (xs.getD i.toNat default) :=
  ex_ixL h1 h2 h0 (by rw [List.getD_eq_getElem?_getD, List.getElem?_eq_getElem (show i.toNat < xs.length by omega)]; rfl)
theorem ex_ixTd [Inhabited α] {xs : Tp α} {i : Int} (h1 : EX K ta sp xs) (h2 : EX K tb sp i) (h0 : 0 ≤ i) (hl : i < xs.l.length) : EX K (tOp (rIxT K) ta tb) sp (xs.l.getD i.toNat default) :=
  ex_ixT h1 h2 h0 (by rw [List.getD_eq_getElem?_getD, List.getElem?_eq_getElem (show i.toNat < xs.l.length by omega)]; rfl)
instance {α : Type} : Inhabited (Tp α) := ⟨⟨[]⟩⟩
theorem ex_pow {i j : Int} (h1 : EX K ta sp i) (h2 : EX K tb sp j) (hc : CPow i j) : EX K (tOp (rI CPow fun i j => .int (i ^ j.toNat)) ta tb) sp (i ^ j.toNat) := ex_rI (f := fun i j => i ^ j.toNat) (fun _ _ _ => rfl) h1 h2 hc
theorem rg_rng {n : Int} : rgV 0 n = (rng n).map V.int := by
  unfold rgV rng
  rw [List.map_map, show n - 0 = n by omega]
  refine List.map_congr_left
        fun i _ => ?_
  show V.int (0 + (i : Int)) = V.int (i : Int)
  rw [Int.zero_add]
theorem ex_listRg {n : Int} (h : EX K te sp n) (hn : 0 ≤ n ∧ n ≤ 100000) : EX K (tLstRg (tRg1 te)) sp (rng n) := fun F σ hs H1 e1 Q q => h F σ hs H1 e1 _ fun v H2 e2 r => by
  cases rep_int r
  refine ⟨n, rfl, RgOk.of_le (by omega) (by omega) (by omega) (by omega), fun p hp => ?_⟩
  have e3 : Ex H2 (upd H2 p (.lst (rgV 0 n))) := Ex.new hp
  exact q _ _ (e2.trans e3) ⟨p, rgV 0 n, rfl, by rw [nw_new (ex_none e1 (ex_none e2 hp)) (ex_none e2 hp), upd_same], by rw [rg_rng]; exact pr_ints _⟩
def rng2 (a b : Int) : List Int := (List.range (b - a).toNat).map fun i : Nat => a + (i : Int)
theorem ei_rng2 {a b : Int} (h1 : EX K ta sp a) (h2 : EX K tb sp b) (hn : -(2 ^ 62) ≤ a ∧ a < 2 ^ 62 ∧ -(2 ^ 62) ≤ b ∧ b < 2 ^ 62) : EI K (iRng2 (tCons ta (tCons tb tNil))) sp (rng2 a b) :=
  fun F σ hs H1 e1 R q => h1 F σ hs H1 e1 _ fun v H2 e2 r => h2 F σ hs H2 (e1.trans e2) _ fun w H3 e3 r2 => by
  cases rep_int r
  cases rep_int r2
  refine ⟨a, b, rfl, hn, q _ H3 (e2.trans e3) ⟨fun i H e hi => ?_, fun H e => ?_, fun i H x H' u e ha y => ?_⟩⟩
  · rw [show (rng2 a b).length = (b - a).toNat by simp [rng2]] at hi
    exact hi
  · rw [show (rng2 a b).length = (b - a).toNat by simp [rng2]]
    exact Nat.le_refl _
  · obtain ⟨rfl, rfl⟩ := y
    refine ⟨Ex.refl _, ?_⟩
    show V.int (a + (i : Int)) = V.int u
    unfold rng2 at ha
    rw [List.getElem?_map] at ha
    by_cases hi : i < (b - a).toNat
    · rw [List.getElem?_range hi] at ha
      simp at ha
      rw [ha]
    · rw [List.getElem?_eq_none (by simpa using hi)] at ha
      cases ha
end
instance {α : Type} [DecidableEq α] : DecidableEq (Tp α) := fun a b => if h : a.l = b.l then .isTrue (by cases a; cases b; cases h; rfl) else .isFalse fun z => h (by rw [z])
class DR (α : Type) [Rep α] [DecidableEq α] where
  d : α → PyData
  dp : ∀ {K : PySem.W.Frag} {H : Hp} {v : V} {a : α}, Rep.rep K H v a → Dp K H v (d a)
  lay : ∀ a : α, (d a).canLay0 = true
  deep : Nat
  hd : ∀ a : α, (d a).depth ≤ deep
  eqv : ∀ a b : α, PyData.eqv (d a) (d b) = decide (a = b)
instance : DR Int := ⟨.int, fun h => by cases rep_int h; exact .int _, fun _ => by simp [PyData.canLay0], 1, fun _ => by simp [PyData.depth], fun a b => by simp [PyData.eqv]; by_cases h : a = b <;> simp [h]⟩
instance : DR Bool := ⟨.bool, fun h => by cases rep_bl h; exact .bl _, fun _ => by simp [PyData.canLay0], 1, fun _ => by simp [PyData.depth], fun a b => by simp [PyData.eqv]; cases a <;> cases b <;> simp⟩
section
variable {α β : Type} [Rep α] [DecidableEq α] [DR α] [Rep β] [DecidableEq β] [DR β]
theorem dr_all {K : PySem.W.Frag} {H : Hp} : ∀ {vs : List V} {xs : List α}, Pz (Rep.rep K H) vs xs → DpAll K H vs (xs.map DR.d)
  | _, _, .nil => .nil
  | _, _, .cons r t => .cons (DR.dp r) (dr_all t)
theorem dr_lay : ∀ xs : List α, PyData.canLayAll0 (xs.map DR.d) = true
  | [] => by simp
        [PyData.canLayAll0]
  | x :: r => by simp [PyData.canLayAll0, DR.lay x, dr_lay r]
theorem dr_deep : ∀ xs : List α, PyData.depthAll (xs.map DR.d) ≤ DR.deep α
  | [] => by simp
        [PyData.depthAll]
  | x :: r => by
    have h1 := dr_deep r
    have h2 := DR.hd x
    simp only [List.map_cons,
          PyData.depthAll]
    omega
theorem dr_eqv : ∀ xs ys : List α, PyData.eqvAll (xs.map DR.d) (ys.map DR.d) = decide (xs = ys)
  | [], [] => rfl
  | [], _ :: _ => rfl
  | _ :: _, [] => rfl
  | x :: xs, y :: ys => by
    show (PyData.eqv (DR.d x) (DR.d y) && PyData.eqvAll (xs.map DR.d) (ys.map DR.d)) = _
    rw [dr_eqv xs ys, DR.eqv]
    by_cases h : x = y
    · subst h
      by_cases h2 : xs = ys
      · subst h2
        simp
      · simp [h2]
    · simp [h]
instance : DR (List α) := ⟨fun xs => .list (xs.map DR.d), fun h => by
  obtain ⟨p, vs, rfl, hp, hv⟩ := rep_l h
  exact .lst (sq_of hp) (dr_all hv), fun xs => by simp [PyData.canLay0, dr_lay], DR.deep α + 1, fun xs => by
  have := dr_deep xs
  simp only [PyData.depth]
  omega, fun xs ys => by
  show PyData.eqvAll _ _ = _
  exact dr_eqv xs ys⟩
instance : DR (Tp α) := ⟨fun xs => .tuple (xs.l.map DR.d), fun h => by
  obtain ⟨p, vs, rfl, hp, hv⟩ := rep_t h
  exact .tup hp (dr_all hv), fun xs => by simp [PyData.canLay0, dr_lay], DR.deep α + 1, fun xs => by
  have := dr_deep xs.l
  simp only [PyData.depth]
  omega, fun xs ys => by
  show PyData.eqvAll _ _ = _
  rw [dr_eqv xs.l ys.l]
  by_cases h : xs.l = ys.l
  · rw [decide_eq_true h, decide_eq_true]
    cases xs
    cases ys
    cases h
    rfl
  · rw [decide_eq_false h, decide_eq_false fun z => h (by rw [z])]⟩
theorem ex_eqD {K : PySem.W.Frag} {sp : List Sl} {ta tb : TE} {a b : α} (h1 : EX K ta sp a) (h2 : EX K tb sp b) (hd : DR.deep α ≤ 64) : EX K (tOp (rEqD K) ta tb) sp (decide (a = b)) :=
  fun F σ hs H1 e1 Q q => h1 F σ hs H1 e1 _ fun v H2 e2 r => h2 F σ hs H2 (e1.trans e2) _ fun w H3 e3 r2 =>
    have hl : ∀ c : α, SeqAt.shaped (DR.d c) = true := fun c => by
      have := DR.hd c
      show ((DR.d c).canLay0 && decide ((DR.d c).depth ≤ 64)) = true
      rw [DR.lay c, decide_eq_true (by omega)]
      rfl
    ⟨DR.d a, DR.d b, DR.dp (Rep.mono e3 (Rep.mono (nw_in e1 e2) r)), DR.dp (Rep.mono (nw_in (e1.trans e2) e3) r2), hl a, hl b, q _ H3 (e2.trans e3) (by rw [DR.eqv]; rfl)⟩
theorem ex_neD {K : PySem.W.Frag} {sp : List Sl} {ta tb : TE} {a b : α} (h1 : EX K ta sp a) (h2 : EX K tb sp b) (hd : DR.deep α ≤ 64) : EX K (tOp (rNeD K) ta tb) sp (!decide (a = b)) :=
  fun F σ hs H1 e1 Q q => h1 F σ hs H1 e1 _ fun v H2 e2 r => h2 F σ hs H2 (e1.trans e2) _ fun w H3 e3 r2 =>
    have hl : ∀ c : α, SeqAt.shaped (DR.d c) = true := fun c => by
      have := DR.hd c
      show ((DR.d c).canLay0 && decide ((DR.d c).depth ≤ 64)) = true
      rw [DR.lay c, decide_eq_true (by omega)]
      rfl
    ⟨DR.d a, DR.d b, DR.dp (Rep.mono e3 (Rep.mono (nw_in e1 e2) r)), DR.dp (Rep.mono (nw_in (e1.trans e2) e3) r2), hl a, hl b, q _ H3 (e2.trans e3) (by rw [DR.eqv]; rfl)⟩
end
structure Tbl where
  rows : List (List Int)
def tOf (g : List (List Int)) : Tp (Tp Int) := ⟨g.map Tp.mk⟩
def tblF (vr vs va : V) : List (Str × V) := [("rows", vr), ("size", vs), ("_arrow_pairs", va)]
def arrowsOf (g : List (List Int)) : List (Int × Int) := (((rng g.length).flatMap fun x => ((rng g.length).filter fun y => !decide (x = y)).map fun y => (x, y)).filter fun p => decide (0 < (g.getD p.1.toNat default).getD p.2.toNat default))
instance : Rep Tbl := ⟨fun K H v t => ∃ p dx vr va, v = .ref p ∧ H p = some (.ins (He.ga K "Table") dx (tblF vr (.int t.rows.length) va)) ∧ Rep.rep K H vr (tOf t.rows) ∧ Rep.rep K H va (Tp.mk (arrowsOf t.rows)), fun {K H H' v t} e h => by
  obtain ⟨p, dx, vr, va, h1, h2, h3, h4⟩ := h
  exact ⟨p, dx, vr, va, h1, e p _ h2, Rep.mono e h3, Rep.mono e h4⟩⟩
/-- what the text must have for a table's attributes -/
structure TbK (K : PySem.W.Frag) : Prop where
  cl : Cls K (He.ga K "Table")
  nR : NoAttr K (He.ga K "Table") "rows"
  nS : NoAttr K (He.ga K "Table") "size"
  nA : NoAttr K (He.ga K "Table") "_arrow_pairs"
theorem str_sr : ¬ (("size" : Str) = "rows") := by decide +kernel
section
variable {K : PySem.W.Frag} {sp : List Sl} {te : TE}
theorem look_r {vr vs va : V} : (tblF vr vs va).lookup ("rows" : Str) = some vr := by
  unfold tblF
  rw [List.lookup_cons, beq_self_eq_true]
theorem look_s {vr vs va : V} : (tblF vr vs va).lookup ("size" : Str) = some vs := by
  unfold tblF
  rw [List.lookup_cons, show (("size" : Str) == "rows") = false by decide +kernel, List.lookup_cons, beq_self_eq_true]
theorem ex_rows {t : Tbl} (k : TbK K) (h : EX K te sp t) : EX K (tFld K te "rows") sp (tOf t.rows) := fun F σ hs H1 e1 Q q => h F σ hs H1 e1 _ fun v H2 e2 r => by
  obtain ⟨p, dx, vr, va, rfl, hp, h3, h4⟩ := r
  exact ⟨p, _, dx, _, vr, rfl, nw_in e1 e2 p _ hp, k.cl, k.nR, look_r, q vr H2 e2 h3⟩
theorem ex_size {t : Tbl} (k : TbK K) (h : EX K te sp t) : EX K (tFld K te "size") sp (t.rows.length : Int) := fun F σ hs H1 e1 Q q => h F σ hs H1 e1 _ fun v H2 e2 r => by
  obtain ⟨p, dx, vr, va, rfl, hp, h3, h4⟩ := r
  exact ⟨p, _, dx, _, _, rfl, nw_in e1 e2 p _ hp, k.cl, k.nS, look_s, q _ H2 e2 rfl⟩
end
end LS
namespace LS
open PySem PySem.Spec PyProof.Rows L2 Evl
section
variable {X : Cx} {K : PySem.W.Frag}
theorem k_ixL (h : X.K = K) : IxR X (rIxL K) := by subst h; exact ix_list
theorem k_ixT (h : X.K = K) : IxR X (rIxT K) := by subst h; exact ix_tup
theorem k_slL (h : X.K = K) : SlR X (rSlL K) := by subst h; exact sl_list
theorem k_slA (h : X.K = K) : SlR X (rSlA K) := by subst h; exact sl_tupA
theorem k_in (h : X.K = K) : OpR X (compareOp .In) (rIn K false) := by subst h; exact op_in_seq
theorem k_notIn (h : X.K = K) : OpR X (compareOp .NotIn) (rIn K true) := by subst h; exact op_notIn_seq
theorem k_catT (h : X.K = K) : OpR X (binaryOp .Add) (rCatT K) := by subst h; exact op_catT
theorem k_eqD (h : X.K = K) (hu : X.A.units + 64 < cLine) : OpR X (compareOp .Eq) (rEqD K) := by subst h; exact op_eqD hu
theorem k_neD (h : X.K = K) (hu : X.A.units + 64 < cLine) : OpR X (compareOp .NotEq) (rNeD K) := by subst h; exact op_neD hu
theorem k_len (h : X.K = K) : CallR X (.builtin "len") (fun xs H Q => ∃ p ys, xs = [.ref p] ∧ (SqL K H p ys ∨ SqT K H p ys) ∧ Q (.int ys.length) H) := by subst h; exact call_len_seq
theorem k_sum (h : X.K = K) (hc : X.calm = true) : CallR X (.builtin "sum") (rSum K) := by subst h; exact cr_sum hc
theorem k_all (h : X.K = K) (hc : X.calm = true) : CallR X (.builtin "all") (rAll K) := by subst h; exact cr_all hc
theorem k_any (h : X.K = K) (hc : X.calm = true) : CallR X (.builtin "any") (rAny K) := by subst h; exact cr_any hc
theorem k_sorted (h : X.K = K) : CallR X (.builtin "sorted") (rSorted K) := by subst h; exact cr_sorted
theorem k_isi (h : X.K = K) : CallR X (.builtin "isinstance") (rIsi K) := by subst h; exact call_isi
theorem k_isiT (h : X.K = K) : CallR X (.builtin "isinstance") (rIsiT K) := by subst h; exact call_isiT
theorem k_listOf (h : X.K = K) : CallR X (.type "list") (fun xs H Q => ∃ p ys, xs = [.ref p] ∧ (SqL K H p ys ∨ SqT K H p ys) ∧ ∀ l, H l = none → Q (.ref l) (upd H l (.lst ys))) := by subst h; exact call_list_of
theorem k_tupOf (h : X.K = K) : CallR X (.type "tuple") (fun xs H Q => ∃ p ys, xs = [.ref p] ∧ ((SqL K H p ys ∧ ∀ l, H l = none → Q (.ref l) (upd H l (.tup ys))) ∨ (SqT K H p ys ∧ Q (.ref p) H))) := by subst h; exact call_tuple_of
theorem k_list {tg l : Expr} {tl : TE} (h : X.K = K) (hl : PE X l tl) : PI X tg l (iList K tl) := by subst h; exact pi_list hl
theorem k_tup {tg l : Expr} {tl : TE} (h : X.K = K) (hl : PE X l tl) : PI X tg l (iTup K tl) := by subst h; exact pi_tup hl
theorem k_enum {e : Expr} {ta : TA} {p pos tpos : Pos} {elts : List Expr} {kk : Nat} (h : X.K = K) (hg : Gl X "enumerate") (hm : X.mg "enumerate" = none) (ha : PA X [e] ta) (hs : starEach [e] X.env = [(false, eval e X.env)] := by rfl) :
    PI X (.Tuple elts kk tpos) (.Call (.Name "enumerate" p) [e] [] pos) (iEnum K ta) := by subst h; exact pi_enum hg hm ha hs
theorem k_enumT {e : Expr} {ta : TA} {p pos tpos : Pos} {elts : List Expr} {kk : Nat} (h : X.K = K) (hg : Gl X "enumerate") (hm : X.mg "enumerate" = none) (ha : PA X [e] ta) (hs : starEach [e] X.env = [(false, eval e X.env)] := by rfl) :
    PI X (.Tuple elts kk tpos) (.Call (.Name "enumerate" p) [e] [] pos) (iEnumT K ta) := by subst h; exact pi_enumT hg hm ha hs
theorem k_zip {e e2 : Expr} {ta : TA} {p pos tpos : Pos} {elts : List Expr} {kk : Nat} (h : X.K = K) (hg : Gl X "zip") (hm : X.mg "zip" = none) (ha : PA X [e, e2] ta)
    (hs : starEach [e, e2] X.env = (false, eval e X.env) :: starEach [e2] X.env :=
          by rfl) (hpl : (backTo pos (starEach [e2] X.env)).any (·.1) = false := by rfl) :
    PI X (.Tuple elts kk tpos) (.Call (.Name "zip" p) [e, e2] [] pos) (iZip K ta) := by subst h; exact pi_zip hg hm ha hs hpl
theorem k_pgt {es : List Expr} {k : Nat} {t : TGs} {n : Nat} {pos : Pos} (h : X.K = K) (hc : X.calm = true) (hp : PGs X es t) (hn : (assignEach es X.env).length = n := by rfl) (hst : (assignEach es X.env).findIdx? (·.1) = none := by rfl) :
    PG X (.Tuple es k pos) (gTup K n t) := by subst h; exact pg_tup hc hp hn hst
theorem k_fld {e : Expr} {f : Str} {ta : TE} {pos : Pos} (h : X.K = K) (he : PE X e ta) (hb : attributeBase e f X.env (eval e X.env) = eval e X.env := by rfl) : PE X (.Attribute e f pos) (tFld K ta f) := by subst h; exact pe_fld he hb
theorem k_star {e : Expr} {es : List Expr} {te : TE} {t : TA} {p : Pos} (h : X.K = K) (he : PE X e te) (hr : PA X es t) (hs : starEach (.Starred e p :: es) X.env = (true, eval e X.env) :: starEach es X.env := by rfl) : PA X (.Starred e p :: es) (StX.tStar K te t) := by subst h; exact StX.pa_star he hr hs
theorem k_bm {T : String} {id : String} {name : Str} {r : V → List V → Hp → VK → Prop} {o e : Expr} {es : List Expr} {to : TE} {t : TA} {apos cpos : Pos} (h : X.K = K) (pa : PlainAttrs T) (slot : Slot T name id) (hty : typeOf (.builtin id) = pure (.type "method_descriptor")) (hm : MtR X id r) (ho : PE X o to) (ha : PA X (e :: es) t)
    (hbase : attributeBase o name X.env
          (eval o X.env) = eval o X.env := by rfl)
    (hfew : ((backTo cpos (starEach (e :: es) X.env)).all (fun x => !x.1) && (backToKw cpos (keywordEach [] X.env)).all (fun x => x.1.isSome) && decide ((e :: es).length + ([] : List Keyword).length + (if ([] : List Keyword).isEmpty then 0 else 1) < 30)) = true := by rfl)
    (hline : (apos.endLine == cpos.line) = true := by rfl) (hs : starEach (e :: es) X.env = (false, eval e X.env)
          :: starEach es X.env := by rfl) (hplain : (backTo cpos (starEach es X.env)).any (·.1) = false := by rfl) :
    PE X (.Call (.Attribute o name apos) (e :: es) [] cpos) (tBM K T r to t) := by subst h; exact pe_bm pa slot hty hm ho ha hbase hfew hline hs hplain
theorem k_bm0 {T : String} {id : String} {name : Str} {r : V → List V → Hp → VK → Prop} {o : Expr} {to : TE} {apos cpos : Pos} (h : X.K = K) (pa : PlainAttrs T) (slot : Slot T name id) (hty : typeOf (.builtin id) = pure (.type "method_descriptor")) (hm : MtR X id r) (ho : PE X o to)
    (hbase : attributeBase o name X.env (eval o X.env) = eval o X.env := by rfl) (hline : (apos.endLine == cpos.line) = true := by rfl) : PE X (.Call (.Attribute o name apos) [] [] cpos) (tBM0 K T r to) := by subst h; exact pe_bm0 pa slot hty hm ho hbase hline
end
end LS
namespace PyProof.Rows
open PySem
section
variable {prog : Program} {w : World} {A :
      Around} {E : Value → Shared → Prop} {s : Shared}
theorem gather_tup {a : Addr} {us : List Value} {R : List Value → Shared → Prop} (ht : IsTup s.heap a us.toArray) (hn : us.length ≤ sizeLine)
    (q : R us { s with heap := (s.heap.push (seqObj "list" #[] 0)).update s.heap.objs.size (Obj.mapSeq (· ++ us.toArray)) }) : wpAny (model prog w) A (collect (.ref a)) R E s := by
  have new : (s.heap.push (seqObj "list" #[] 0)).get? s.heap.objs.size = some (seqObj "list" #[] 0) := Heap.get?_push_size _ rfl
  obtain ⟨ob, hob, hcls, k, hdat⟩ := ht
  have hob2 : (s.heap.push (seqObj "list" #[] 0)).get? a = some ob := Heap.get?_push_of_some _ hob
  unfold collect
  apply wpAny_bind
  apply wpAny_runValue
  apply codeAny_builtin entry_proto_collect'
  show wpAny _ _ (do again (.builtin "list.__iadd__" ⟨[← newList [], .ref a], []⟩)) _ _ s
  apply wpAny_bind
  refine wpAny_newList ?_
  apply wpAny_pure
  refine ⟨Code.quiet_builtin _ (by decide +kernel), ?_⟩
  apply codeAny_builtin entry_list_iadd'
  show wpAny _ _ (Builtin.List.listExtendWith (.ref s.heap.objs.size) (.ref a) (.ref s.heap.objs.size)) _ _ { s with heap := s.heap.push (seqObj "list" #[] 0) }
  unfold
        Builtin.List.listExtendWith
  apply wpAny_bind
  refine wpAny_typeOf (T := "tuple") ⟨ob, hob2, hcls⟩ ?_
  have same : (Value.type "tuple" == Value.type "tuple") = true := rfl
  rw [same, Bool.or_true, if_pos rfl]
  apply wpAny_bind
  refine listItems_at hob2 hdat ?_
  apply wpAny_bind
  refine listItems_at (xs := #[]) (n := 0) new rfl ?_
  rw [if_neg (by simp)]
  apply wpAny_bind
  refine listUpdate_at (xs := #[]) (n := 0) new rfl ?_ (Nat.zero_le _) (by show (#[] ++ us.toArray).size ≤ sizeLine + 1; simp; omega)
  apply wpAny_pure
  show wpAny (model
        prog w) A (do
      let o ← load s.heap.objs.size
      match o.data with
      | .seq xs _ => pure xs.toList
      | _ => unsupported "internal:collect") R E { s with heap := (s.heap.push (seqObj "list" #[] 0)).update s.heap.objs.size (Obj.mapSeq (· ++ us.toArray)) }
  apply wpAny_bind
  refine wpAny_load (get?_update_seq new _) ?_
  show wpAny _ _ (pure ((#[] : Array Value) ++ us.toArray).toList) R E _
  have e : ((#[] : Array Value) ++ us.toArray).toList = us := by simp
  rw [e]
  exact wpAny_pure q
theorem sorted_tupI {a : Addr} {us : List Value} {ms : List Int} {R : Value → Shared → Prop} (ht : IsTup s.heap a us.toArray) (hi : IntsAre us ms) (hn : us.length < 64)
    (q : ∀ (res : Array Value) (ms' : List Int), IntsAre res.toList ms' → ms'.Perm ms → ms'.Pairwise (· ≤ ·) → R (.ref (s.heap.objs.size + 1)) { s with heap := sortedAll s.heap us res }) :
    wpAny (model prog w) A (call (.builtin "sorted") [.ref a]) R E s := by
  have few : us.length ≤ sizeLine := by rw [sizeLine_eq]; omega
  apply Calls.call_function_entry kind_sorted plain_sorted entry_sorted (args_sorted1 _)
  unfold Builtin.«sorted»
  refine wpAny_bind (m := checkCount
        "sorted" 1 1 _) (wpAny_pure ?_)
  apply wpAny_bind
  refine gather_tup ht few ?_
  apply wpAny_bind
  refine wpAny_newList ?_
  have size : ((s.heap.push (seqObj "list" #[] 0)).update s.heap.objs.size (Obj.mapSeq (· ++ us.toArray))).objs.size = s.heap.objs.size + 1 := (Heap.size_update ..).trans (size_push' ..)
  have there : (((s.heap.push (seqObj "list" #[] 0)).update s.heap.objs.size (Obj.mapSeq (· ++ us.toArray))).push (seqObj "list" us.toArray 0)).get? (s.heap.objs.size + 1) = some (seqObj "list" us.toArray 0) := size ▸ Heap.get?_push_size _ rfl
  show wpAny _ _ _ _ _ { s with heap := ((s.heap.push (seqObj "list" #[] 0)).update s.heap.objs.size (Obj.mapSeq (· ++ us.toArray))).push (seqObj "list" us.toArray 0) }
  rw [size]
  apply wpAny_bind
  apply wpAny_holding
  refine wpAny_call_entry slot_list_sort ⟨_, there, rfl⟩ entry_list_sort (list_sort_tree there hi hn fun res ms' b1 b2 b3 => ⟨_, rfl, ?_⟩) (args_list_sort _)
  exact wpAny_pure ⟨_, rfl, q res ms' b1 b2 b3⟩
end
end PyProof.Rows
namespace LS
open PySem PySem.Spec PyProof.Rows L2 Evl
def rSortedT (K : PySem.W.Frag) : List V → Hp → VK → Prop := fun vs H Q => ∃ (a : Addr) (ms : List Int), vs = [V.ref a] ∧ SqT K H a (ms.map V.int) ∧ ms.length < 64 ∧
  ∀ (ms' : List Int) (p : Addr), ms'.Perm ms → ms'.Pairwise (· ≤ ·) → H p = none → Q (.ref p) (upd H p (.lst (ms'.map V.int)))
theorem cr_sortedT {X : Cx} : CallR X (.builtin "sorted") (rSortedT X.K) := by
  intro pins s σ
        H vs us Q I r h
  obtain ⟨a, ms, rfl, hs, h64, q⟩ := h
  obtain ⟨its, rv, ht, _⟩ := I.tuple hs
  rw [Vals.ref1 r]
  have hi := rv.ints
  refine sorted_tupI ht hi (by rw [hi.length]; exact h64) fun res ms' h1 h2 h3 => ?_
  obtain ⟨ep, he'⟩ := sortedAll_at s.heap its res
  have few : (ms'.map V.int).length ≤ sizeLine := by rw [List.length_map, h2.length_eq, sizeLine_eq]; omega
  have fresh := I.hok.fresh (Nat.le_succ s.heap.objs.size)
  exact ⟨.ref _, upd H (s.heap.objs.size + 1) (.lst (ms'.map V.int)), I.laid (t' := s.toks) (fun _ _ => sortedAll_old) (Nat.le_succ _) ⟨few, res.toList, ep, vals_of_ints h1, he'⟩, rfl, q ms' _ h2 h3 fresh⟩
theorem k_sortedT {X : Cx} {K : PySem.W.Frag} (h : X.K = K) : CallR X (.builtin "sorted") (rSortedT K) := by subst h; exact cr_sortedT
def srt (xs : List Int) : List Int := xs.mergeSort (fun a b => decide (a ≤ b))
theorem srt_eq {xs ys : List Int} (hp : ys.Perm xs) (hs : ys.Pairwise (· ≤ ·)) : ys = srt xs := by
  unfold srt
  have h1 : (xs.mergeSort (fun a b => decide (a ≤ b))).Perm xs := List.mergeSort_perm ..
  have h2 : (xs.mergeSort (fun a b => decide (a ≤ b))).Pairwise (· ≤ ·) := by
    have := List.pairwise_mergeSort (le := fun a b : Int => decide (a ≤ b)) (fun a b c h h' => by simp at *; omega) (fun a b => by simp; omega) xs
    exact this.imp fun h => by simpa using h
  exact List.Perm.eq_of_pairwise (le := (· ≤ ·)) (fun a b _ _ h h' => Int.le_antisymm h h') hs h2 (hp.trans h1.symm)
section
variable {K : PySem.W.Frag} {sp : List Sl} {te : TE} {α : Type} [Rep α]
theorem ex_sortedT {xs : Tp Int} (h : EX K te sp xs) (hn : xs.l.length < 64) : EX K (tCB (rSortedT K) (tCons te tNil)) sp (srt xs.l) := fun F σ hs H1 e1 Q q => h F σ hs H1 e1 _ fun v H2 e2 r => by
  obtain ⟨p, vs, rfl, hp, hv⟩ := rep_t r
  refine ⟨p, xs.l, rfl, by rw [← ints_l hv]; exact ex_t (nw_in e1 e2) hp, hn, fun ms' l h1 h2 hl => ?_⟩
  have e3 : Ex H2 (upd H2 l (.lst (ms'.map V.int))) := Ex.new hl
  refine q _ _ (e2.trans e3) ?_
  rw [← srt_eq h1 h2]
  have hl1 := ex_none e2 hl
  exact ⟨l, _, rfl, by rw [nw_new (ex_none e1 hl1) hl1, upd_same], pr_ints _⟩
theorem sIx_bound (n : Nat) (o : Option Int) (d : Nat) (hd : d ≤ n) : HT.sIx n d o ≤ n := by
  unfold HT.sIx
  cases o with
  | none => exact hd
  | some i => simp only []; split <;> omega
theorem ex_slT {tlo thi : TO} {xs : Tp α} {lo hi : Option Int} (h1 : EX K te sp xs) (h2 : EO K tlo sp lo) (h3 : EO K thi sp hi) : EX K (tSl (rSlA K) te tlo thi) sp (Tp.mk (cutA xs.l lo hi)) :=
  fun F σ hs H1 e1 Q q => h1 F σ hs H1 e1 _ fun v H2 e2 r => h2 F σ hs H2 (e1.trans e2) _ fun H3 e3 => h3 F σ hs H3 ((e1.trans e2).trans e3) _ fun H4 e4 => by
  obtain ⟨p, vs, rfl, hp, hv⟩ := rep_t r
  have e14 := (e2.trans e3).trans e4
  have hn : Ex (Nw F H1 H2) (Nw F H1 H4) := nw_to (e3.trans e4)
  have hL := pr_len hv
  refine ⟨p, vs, rfl, ex_t (nw_in e1 e14) (ex_t hn hp), fun hw => q _ _ e14 ⟨p, vs, rfl, ex_t hn hp, ?_⟩, fun hw l hl => ?_⟩
  · rw [hL] at hw
    have : cutA xs.l lo hi = xs.l := by
      unfold cutA
      rw [hw.1, hw.2]
      simp
    show Pz _ vs (cutA xs.l lo hi)
    rw [this]
    exact pr_imp (fun _ _ z => Rep.mono hn z) hv
  · have e5 : Ex H4 (upd H4 l (.tup (cutV vs lo hi))) := Ex.new hl
    have hl1 := ex_none e14 hl
    exact q _ _ (e14.trans e5) ⟨l, _, rfl, st_of (by rw [nw_new (ex_none e1 hl1) hl1, upd_same]), cut_pr (pr_imp (fun _ _ z => Rep.mono (hn.trans (nw_to e5)) z) hv) lo hi⟩
end
end LS
namespace LS
open PySem PySem.Spec PyProof.Rows L2 Evl
def CDivV (_ j : Int) : Prop := j ≠ 0 ∧ j.natAbs.log2 < 9000
theorem op_fdivV {X : Cx} : OpR X (binaryOp .FloorDiv) (rI CDivV fun i j => .int (i.fdiv j)) := opI fun _ _ _ _ _ _ _ hc q => floordiv_int hc.1 q (.inl (PyProof.noPylong_of_log2 hc.2))
section
variable {K : PySem.W.Frag} {sp : List Sl} {ta tb tc te tl : TE} {α β γ δ : Type} [Rep α] [Rep β] [Rep γ] [Rep δ]
theorem ex_fdivV {i j : Int} (h1 : EX K ta sp i) (h2 : EX K tb sp j) (hc : CDivV i j) : EX K (tOp (rI CDivV fun i j => .int (i.fdiv j)) ta tb) sp (i.fdiv j) := ex_rI (f := fun i j => i.fdiv j) (fun _ _ _ => rfl) h1 h2 hc
theorem pr_flat {A : Type} {B : Type} {F : A → B → Prop} {xs : List A} {ys : List B} (h : Pz F xs ys) : ∀ n : Nat, Pz F (List.replicate n xs).flatten (List.replicate n ys).flatten
  | 0 => .nil
  | n + 1 => by
    rw [List.replicate_succ, List.replicate_succ,
          List.flatten_cons, List.flatten_cons]
    exact pr_app h (pr_flat h n)
theorem ex_rep {xs : List α} {n : Int} (h1 : EX K ta sp xs) (h2 : EX K tb sp n) (hn : -(2 ^ 62) ≤ n ∧ n < 2 ^ 62) (hl : xs.length * n.toNat ≤ 100000) : EX K (tOp rRep ta tb) sp (List.replicate n.toNat xs).flatten :=
  fun F σ hs H1 e1 Q q => h1 F σ hs H1 e1 _ fun v H2 e2 r => h2 F σ hs H2 (e1.trans e2) _ fun w H3 e3 r2 => by
    obtain ⟨p, vs, rfl, hp, hv⟩ := rep_l r
    cases rep_int r2
    have r1' : Pz (Rep.rep K (Nw F H1 H3)) vs xs := pr_imp (fun _ _ z => Rep.mono (nw_to e3) z) hv
    refine ⟨p, n, vs, rfl, rfl, e3 p _ (nw_in e1 e2 p _ hp), by omega, by omega, sz_of (by rw [pr_len hv]; exact hl), fun p3 hp3 => ?_⟩
    have e4 : Ex H3 (upd H3 p3 (.lst (List.replicate n.toNat vs).flatten)) := Ex.new hp3
    have n1 := ex_none e2 (ex_none e3 hp3)
    exact q _ _ ((e2.trans e3).trans e4) ⟨p3, _, rfl, by rw [nw_new (ex_none e1 n1) n1, upd_same], pr_flat (pr_imp (fun _ _ z => Rep.mono (nw_to e4) z) r1') _⟩
end
end LS
namespace LS
open PySem PySem.Spec PyProof.Rows L2 Evl
def cut (l : Addr) (F : Hp) : Hp := fun p => if p = l then none else F p
theorem cut_at {l : Addr} {F : Hp} : cut l F l = none := if_pos rfl
theorem cut_ne {l p : Addr} {F : Hp} (h : p ≠ l) : cut l F p = F p := if_neg h
theorem cut_in {l : Addr} {F : Hp} : Ex (cut l F) F := fun p o h => by
  by_cases q : p = l
  · rw [q, cut_at] at h
    cases h
  · rw [cut_ne q] at h
    exact h
theorem cut_ex {l : Addr} {F G : Hp} (e : Ex F G) (h : F l = none) : Ex F (cut l G) := fun p o q => by
  have ne : p ≠ l := fun z => by
    rw [z, h] at q
    cases q
  rw [cut_ne ne]
  exact e p o q
section
universe u v
variable {A : Type u} {B : Type v} {F : A → B → Prop}
theorem pr_erase : ∀ {xs : List A} {ys : List B} (i : Nat), Pz F xs ys → Pz F (xs.eraseIdx i) (ys.eraseIdx i)
  | _, _, _, .nil => .nil
  | _, _, 0, .cons _ t => t
  | _, _, i + 1, .cons r t => .cons r (pr_erase i t)
end
section
variable {K : PySem.W.Frag} {F0 H0 B : Hp} {sp : List Sl} {D : Ends} {ta tb te : TE} {t : TT} {tu tw tx : TS}
variable {α β γ δ : Type} [Rep α] [Rep β] [Rep γ] [Rep δ]
/-- reads to a list that is nobody else's -/
def EXo (K : PySem.W.Frag) (te : TE) (sp : List Sl) (xs : List α) : Prop :=
  ∀ F σ, Slots K F σ sp → ∀ H1, Ex F H1 → ∀ Q : VK, (∀ l vs H2, Ex H1 H2 → H1 l = none → H2 l = some (.lst vs) → Pz (Rep.rep K (cut l (Nw F H1 H2))) vs xs → Q (.ref l) H2) → te σ H1 Q
theorem EXo.is {xs ys : List α} (h : EXo K te sp xs) (e : xs = ys) : EXo K te sp ys := e ▸ h
theorem exo_lcf {wi : TI} {g : TG} {js vs : List Nat} {S : α → List Sl → List Sl} {xs : List α} {p : α → Bool} {f : α → γ} (hi : EI K wi sp xs) (hg : Tgt K g js S) (hj : ∀ j ∈ js, j ∈ vs) (hn : xs.length ≤ 40000)
    (ht : ∀ a ∈ xs, ET K t (S a (wipeS sp vs)) (p a)) (he : ∀ a ∈ xs, p a = true → EX K te (S a (wipeS sp vs)) (f a)) : EXo K (tLc wi g t te vs) sp ((xs.filter p).map f) :=
  fun F σ hs H0 e0 Q q => hi F σ hs H0 e0 _ fun J H1 e1 wk D hD => by
    have eB : Ex (Nw F H0 H1) H1 := nw_in e0 e1
    have hsB : Slots K (Nw F H0 H1) (wipe σ vs) (wipeS sp vs) := slots_mono nw_f (slots_wipe hs vs)
    have hDD : (upd H1 D (.lst [])) D = some (.lst []) := upd_same
    refine lc_it (walk_of_wk wk) (D := D) (fun i H => Ex H1 H ∧ ∃ ws, H D = some (.lst ws) ∧ Pz (Rep.rep K (Nw (Nw F H0 H1) (upd H1 D (.lst [])) H)) ws (((xs.take i).filter p).map f)) ?_ (fun i H _ z => eB.trans z.1) ?_ ?_
    · exact ⟨Ex.new hD, [], upd_same, .nil⟩
    · rintro i x H H' hlt ⟨h1, ws, hw, hz⟩ ⟨a, ha, e2, rx⟩
      have eBH : Ex (Nw F H0 H1) H := eB.trans h1
      have dom : ∀ p, H p = none → (upd H1 D (.lst [])) p = none := fun p hp => by
        have ne : p ≠ D := fun z => by
          rw [z, hw] at hp
          cases hp
        rw [upd_ne ne]
        exact ex_none h1 hp
      have hmem : a ∈ xs := List.mem_of_getElem? ha
      refine hg (Nw (Nw F H0 H1) H H') x a (wipe σ vs) H' _ _ (nw_in eBH e2) (slots_mono nw_f hsB) rx fun σ' hs' hwp _ => ⟨by rw [hwp vs hj, wipe_idem], ?_⟩
      have htk : (xs.take (i + 1)) = xs.take i ++ [a] := by rw [List.take_add_one, ha]; rfl
      refine ht a hmem (Nw (Nw F H0 H1) H H') σ' hs' H' (nw_in eBH e2) _ fun H2 e3 => ?_
      cases hp : p a with
      | true =>
        refine he a hmem hp (Nw (Nw F H0 H1) H H') σ' hs' H2 ((nw_in eBH e2).trans e3) _ fun v H3 e4 r => ?_
        have hw3 : H3 D = some (.lst ws) := e4 D _ (e3 D _ (e2 D _ hw))
        have hlen : ws.length ≤ i := by
          rw [pr_len hz, List.length_map]
          exact Nat.le_trans (List.length_filter_le _ _) (by rw [List.length_take]; omega)
        refine ⟨ws, hw3, sz_lt (by omega), Ex.mut (h1.trans (e2.trans (e3.trans e4))) hD, ws ++ [v], upd_same, ?_⟩
        rw [nw_mut hDD, htk, List.filter_append, List.map_append]
        have e24 : Ex H' H3 := e3.trans e4
        refine pr_app (pr_imp (fun _ _ z => Rep.mono (nw_to (e2.trans e24)) z) hz) ?_
        rw [List.filter_cons, if_pos hp]
        exact .cons (Rep.mono (nw_glue dom e2 e24) (Rep.mono (nw_from (nw_in eBH e2) e3 e4) r)) .nil
      | false =>
        refine ⟨h1.trans (e2.trans e3), ws, e3 D _ (e2 D _ hw), ?_⟩
        rw [htk, List.filter_append, List.filter_cons, if_neg (by rw [hp]; decide)]
        rw [show List.filter p [] = [] from rfl, List.append_nil]
        exact pr_imp (fun _ _ z => Rep.mono (nw_to (e2.trans e3)) z) hz
    · rintro H ⟨h1, ws, hw, hz⟩
      rw [List.take_length] at hz
      refine q D ws H (e1.trans h1) (ex_none e1 hD) hw (pr_imp (fun _ _ z => Rep.mono (fun p o hp => ?_) z) hz)
      have ne : p ≠ D := fun z => by
        rw [z] at hp
        cases q1 : Nw F H0 H1 D with
        | some u =>
          have := eB D u q1
          rw [hD] at this
          cases this
        | none =>
          rw [nw_old q1 hDD] at hp
          cases hp
      rw [cut_ne ne]
      cases q1 : Nw F H0 H1 p with
      | some u =>
        rw [nw_some q1] at hp
        rw [← hp]
        exact nw_to h1 p u q1
      | none =>
        cases q2 : (upd H1 D (.lst [])) p with
        | some u =>
          rw [nw_old q1 q2] at hp
          cases hp
        | none =>
          rw [upd_ne ne] at q2
          rw [nw_new q1 (by rw [upd_ne ne]; exact q2)] at hp
          rw [nw_new (ex_none e0 (ex_none e1 q2)) (ex_none e1 q2)]
          exact hp
theorem exo_lc {wi : TI} {g : TG} {js vs : List Nat} {S : α → List Sl → List Sl} {xs : List α} {f : α → γ} (hi : EI K wi sp xs) (hg : Tgt K g js S) (hj : ∀ j ∈ js, j ∈ vs) (hn : xs.length ≤ 40000)
    (he : ∀ a ∈ xs, EX K te (S a (wipeS sp vs)) (f a)) : EXo K (tLc wi g tYes te vs) sp (xs.map f) := by
  have z := exo_lcf (p := fun _ => true) hi hg hj hn (fun _ _ => et_yes) fun a ha _ => he a ha
  rw [List.filter_eq_self.mpr fun _ _ => rfl] at z
  exact z
theorem own_lt {j : Nat} {s : Sl} (e : sp[j]? = some s) : j < sp.length := by
  by_cases q : j < sp.length
  · exact q
  · rw [List.getElem?_eq_none (by omega)] at e
    cases e
theorem set_same {σ : L2.St} {j : Nat} {v : Option V} (h : σ[j]? = some v) : σ.set j v = σ := by
  apply List.ext_getElem?
  intro i
  by_cases q : j = i
  · subst q
    by_cases hl : j < σ.length
    · rw [List.getElem?_set_self hl, h]
    · rw [List.getElem?_eq_none (by omega)] at h
      cases h
  · rw [List.getElem?_set_ne q]
/-- a fresh list goes into a place -/
theorem Sx.put {F H H2 : Hp} {σ : L2.St} {l : Addr} {vs : List V} {xs : List α} {i : Nat} (x : Sx K F0 H0 B sp σ H F) (e : Ex H H2) (hl : H l = none) (h2 : H2 l = some (.lst vs)) (hv : Pz (Rep.rep K (cut l (Nw F H H2))) vs xs) (hi : i < sp.length) :
    Sx K F0 H0 B (sp.set i (.own xs)) (σ.set i (some (.ref l))) H2 (cut l (Nw F H H2)) := by
  have y := x.grow e
  have hF : F l = none := ex_none x.at_.in_ hl
  have eF : Ex F (cut l (Nw F H H2)) := cut_ex nw_f hF
  have old : ∀ u : Nat, isOwn sp[u]? → σ[u]? ≠ some (some (.ref l)) := fun u hu z => by
    have w := x.ow u
    revert w hu
    generalize sp[u]? = s
    intro hu w
    match s, hu, w with
    | some (@Sl.own _ q ys), _, ⟨l2, ws, h1, g2, g3, g4, g5⟩ =>
      rw [z] at h1
      have e2 : l = l2 := by
        injection h1 with h1
        injection h1 with h1
        injection h1
      rw [← e2, hl] at g4
      cases g4
  refine ⟨⟨y.at_.b, y.at_.h, cut_in.trans y.at_.f⟩, x.fl.trans eF, pr_set (F := slOk K (cut l (Nw F H H2))) (a := some (.ref l)) (b := .own xs) True.intro i (slots_mono eF x.sl), fun j => ?_, fun j m hj hm e1 => ?_⟩
  · by_cases h : i = j
    · subst h
      rw [List.getElem?_set_self hi, List.getElem?_set_self (by rw [pr_len x.sl]; exact hi)]
      exact ⟨l, vs, rfl, ex_none x.at_.h hl, cut_at, h2, hv⟩
    · rw [List.getElem?_set_ne h, List.getElem?_set_ne h]
      have z := x.ow j
      revert z
      generalize sp[j]? = s
      intro z
      match s, z with
      | none, _ => exact True.intro
      | some .no, _ => exact True.intro
      | some (@Sl.is _ _ _), _ => exact True.intro
      | some (@Sl.own _ q ys), ⟨l2, ws, g1, g2, g3, g4, g5⟩ =>
        have ne : l2 ≠ l := fun w => by
          rw [w, hl] at g4
          cases g4
        exact ⟨l2, ws, g1, g2, by rw [cut_ne ne]; exact nw_old g3 g4, e l2 _ g4, pr_imp (fun _ _ z => q.mono eF z) g5⟩
  · by_cases h1 : i = j
    · by_cases h2 : i = m
      · exact h1.symm.trans h2
      · subst h1
        rw [List.getElem?_set_ne h2] at hm e1
        rw [List.getElem?_set_self (by rw [pr_len x.sl]; exact hi)] at e1
        exact absurd e1.symm (old m hm)
    · by_cases h2 : i = m
      · subst h2
        rw [List.getElem?_set_ne h1] at hj e1
        rw [List.getElem?_set_self (by rw [pr_len x.sl]; exact hi)] at e1
        exact absurd e1 (old j hj)
      · rw [List.getElem?_set_ne h1] at hj e1
        rw [List.getElem?_set_ne h2] at hm e1
        exact x.inj j m hj hm e1
theorem go_asgO {i : Nat} {xs : List α} (h : EXo K te sp xs) (hi : i < sp.length) (k : Nx K F0 H0 B D.nx (sp.set i (.own xs))) : Go K F0 H0 B D (tAsg te (gName i)) sp := fun σ H s => by
  obtain ⟨F, x⟩ := s
  exact h F σ x.sl H x.at_.in_ _ fun l vs H2 e hl h2 hv => k _ H2 ⟨_, x.put e hl h2 hv hi⟩
/-- the frame with a list that is held -/
def wth (l : Addr) (H F : Hp) : Hp := fun p => if p = l then H l else F p
theorem wth_f {l : Addr} {H F : Hp} (h : F l = none) : Ex F (wth l H F) := fun p o hp => by
  have ne : p ≠ l := fun z => by
    rw [z, h] at hp
    cases hp
  show (if p = l then H l else F p) = some o
  rw [if_neg ne]
  exact hp
theorem wth_in {l : Addr} {H F : Hp} (e : Ex F H) : Ex (wth l H F) H := fun p o hp => by
  have hp : (if p = l then H l else F p) = some o := hp
  by_cases q : p = l
  · rw [if_pos q] at hp
    rw [q]
    exact hp
  · rw [if_neg q] at hp
    exact e p o hp
theorem wth_at {l : Addr} {H F : Hp} : wth l H F l = H l := if_pos rfl
theorem slots_view {F H : Hp} {σ : L2.St} {j : Nat} {ys : List β} {l : Addr} {vs : List V} (hs : Slots K F σ sp) (h1 : σ[j]? = some (some (.ref l))) (h3 : F l = none) (h4 : H l = some (.lst vs)) (h5 : Pz (Rep.rep K F) vs ys) : Slots K (wth l H F) σ (sp.set j (.is ys)) := by
  have hF := wth_f (H := H) h3
  have z := pr_set (F := slOk K (wth l H F)) (a := some (.ref l)) (b := .is ys) ⟨_, rfl, l, vs, rfl, by rw [wth_at]; exact h4, pr_imp (fun _ _ z => Rep.mono hF z) h5⟩ j (slots_mono hF hs)
  rw [set_same h1] at z
  exact z
/-- a fresh list of ints, told while ys is held -/
theorem go_asgV {i j : Nat} {ys : List β} {zs : List Int} (e : sp[j]? = some (.own ys)) (h : EXo K te (sp.set j (.is ys)) zs) (k : Nx K F0 H0 B D.nx (sp.set i (.is zs))) : Go K F0 H0 B D (tAsg te (gName i)) sp := fun σ H s => by
  obtain ⟨F, x⟩ := s
  obtain ⟨l, vs, h1, h2, h3, h4, h5⟩ := own_get x e
  refine h _ σ (slots_view (H := H) x.sl h1 h3 h4 h5) H (wth_in x.at_.in_) _ fun l2 ws H2 e2 hl2 g2 hv => ?_
  refine k _ H2 ⟨_, (x.grow e2).is i (a := zs) ⟨l2, ws, rfl, ?_, ?_⟩⟩
  · rw [nw_new (ex_none x.at_.in_ hl2) hl2]
    exact g2
  · rw [ints_l hv]
    exact pr_ints _
/-- top = xs.pop(k) -/
theorem go_popI {i j : Nat} {xs : List α} {n : Int} {a : α} (e : sp[j]? = some (.own xs)) (h : EX K te sp n) (hn : 0 ≤ n ∧ n < 2 ^ 62) (ha : xs[n.toNat]? = some a) (hij : i ≠ j) (k : Nx K F0 H0 B D.nx ((sp.set j (.own (xs.eraseIdx n.toNat))).set i (.is a))) :
    Go K F0 H0 B D (tAsg (tBM K "list" rPopAt (tVar j) (tCons te tNil)) (gName i)) sp := fun σ H s => by
  obtain ⟨F, x⟩ := s
  obtain ⟨l, vs, h1, h2, h3, h4, h5⟩ := own_get x e
  refine ⟨_, h1, .inl ⟨rfl, vs, sq_of h4⟩, h F σ x.sl H x.at_.in_ _ fun v H2 e2 r => ?_⟩
  cases rep_int r
  obtain ⟨w, hw, rw_⟩ := pr_get h5 ha
  have hlt : n.toNat < vs.length := by
    by_cases q : n.toNat < vs.length
    · exact q
    · rw [List.getElem?_eq_none (by omega)] at hw
      cases hw
  refine ⟨l, vs, n, n.toNat, w, rfl, rfl, e2 l _ h4, by omega, by omega, ?_, hw, k _ _ ?_⟩
  · unfold seqIndex?
    simp only []
    rw [if_neg (show ¬ n < 0 by omega)]
    first
      | rw [if_pos (show 0 ≤ n ∧ n < (vs.length : Int) by omega)]
      | rw [if_neg (show ¬ (n < 0 ∨ n ≥ (vs.length : Int)) by omega)]
      | simp; omega
  have y := x.grow e2
  have hjl : j < sp.length := own_lt e
  have hF2 : (Nw F H H2) l = none := nw_old h3 h4
  have y2 : Sx K F0 H0 B (sp.set j (.own (xs.eraseIdx n.toNat))) σ (upd H2 l (.lst (vs.eraseIdx n.toNat))) (Nw F H H2) := by
    refine ⟨⟨y.at_.b, Ex.mut y.at_.h h2, fun p o hp => ?_⟩, y.fl, ?_, fun i => ?_, fun i m hi hm e3 => ?_⟩
    · have hne : p ≠ l := fun z => by
        rw [z, hF2] at hp
        cases hp
      have q := y.at_.f p o hp
      cases q0 : F0 p with
      | some u =>
        rw [nw_some q0] at q ⊢
        exact q
      | none =>
        cases q1 : H0 p with
        | some u =>
          rw [nw_old q0 q1] at q
          cases q
        | none =>
          rw [nw_new q0 q1] at q ⊢
          rw [upd_ne hne]
          exact q
    · have z := pr_set (F := slOk K (Nw F H H2)) (a := some (.ref l)) (b := .own (xs.eraseIdx n.toNat)) True.intro j y.sl
      rw [set_same h1] at z
      exact z
    · by_cases q : j = i
      · subst q
        rw [List.getElem?_set_self hjl]
        exact ⟨l, vs.eraseIdx n.toNat, h1, h2, hF2, upd_same, pr_erase n.toNat (pr_imp (fun _ _ z => Rep.mono nw_f z) h5)⟩
      · rw [List.getElem?_set_ne q]
        have z := y.ow i
        have ji := x.inj j i (by rw [e]; exact True.intro)
        revert z ji
        generalize sp[i]? = s
        intro z ji
        match s, z, ji with
        | none, _, _ => exact True.intro
        | some .no, _, _ => exact True.intro
        | some (@Sl.is _ _ _), _, _ => exact True.intro
        | some (@Sl.own _ q2 ys), ⟨l2, ws, g1, g2, g3, g4, g5⟩, ji =>
          have ne : l2 ≠ l := fun w => q (ji True.intro (by rw [h1, g1, w]))
          exact ⟨l2, ws, g1, g2, g3, by rw [upd_ne ne]; exact g4, g5⟩
    · have key : ∀ u : Nat, isOwn (sp.set j (.own (xs.eraseIdx n.toNat)))[u]? → isOwn sp[u]? := fun u hu => by
        by_cases q : j = u
        · subst q
          rw [e]
          exact True.intro
        · rw [List.getElem?_set_ne q] at hu
          exact hu
      exact x.inj i m (key i hi) (key m hm) e3
  exact ⟨_, y2.is i (Rep.mono nw_f rw_)⟩
theorem et_truL {xs : List α} (h : EX K te sp xs) : ET K (fun σ H Q => te σ H fun x H' => ∃ k, TruV K x H' k ∧ Q k H') sp (!xs.isEmpty) := fun F σ hs H1 e1 Q q => h F σ hs H1 e1 _ fun v H2 e2 r => by
  obtain ⟨p, vs, rfl, hp, hv⟩ := rep_l r
  refine ⟨_, .inl ⟨vs, sq_of (nw_in e1 e2 p _ hp), ?_⟩, q H2 e2⟩
  cases hv <;> rfl
theorem tru_own {σ : L2.St} {H : Hp} {j : Nat} {xs : List α} {Q : Bool → Hp → Prop} (s : St K F0 H0 B sp σ H) (e : sp[j]? = some (.own xs)) (q : Q (!xs.isEmpty) H) : (tVar j) σ H fun x H' => ∃ k, TruV K x H' k ∧ Q k H' := by
  obtain ⟨F, x⟩ := s
  obtain ⟨l, vs, h1, h2, h3, h4, h5⟩ := own_get x e
  refine ⟨_, h1, _, .inl ⟨vs, sq_of h4, ?_⟩, q⟩
  cases h5 <;> rfl
theorem go_while {ι : Type} (I : ι → List Sl) (P : ι → Prop) (μ : ι → Nat) (c : ι → Bool) (i0 : ι) (h0 : I i0 = sp) (p0 : P i0)
    (ht : ∀ i, P i → ∀ σ H (Q : Bool → Hp → Prop), St K F0 H0 B (I i) σ H → Q (c i) H → t σ H Q)
    (hb : ∀ i, P i → c i = true → Go K F0 H0 B { D with nx := fun σ' H' => ∃ i', P i' ∧ μ i' < μ i ∧ St K F0 H0 B (I i') σ' H', ct := fun σ' H' => ∃ i', P i' ∧ μ i' < μ i ∧ St K F0 H0 B (I i') σ' H', bk := D.nx } tu (I i))
    (hd : ∀ i, P i → c i = false → Nx K F0 H0 B D.nx (I i)) : Go K F0 H0 B D (tWhile t tu) sp := fun σ H s => by
  subst h0
  refine ⟨fun m σ' H' => ∃ i, P i ∧ μ i = m ∧ St K F0 H0 B (I i) σ' H', ⟨_, i0, p0, rfl, s⟩, ?_⟩
  rintro m σ1 H1 ⟨i, pi, rfl, s1⟩
  refine ht i pi σ1 H1 _ s1 ?_
  cases hc : c i with
  | false =>
    rw [if_neg
          Bool.false_ne_true]
    exact hd i pi hc σ1 H1 s1
  | true =>
    rw [if_pos rfl]
    refine ⟨fun σ' H' => ∃ i', P i' ∧ μ i' < μ i ∧ St K F0 H0 B (I i') σ' H', ?_, hb i pi hc σ1 H1 s1⟩
    rintro σ' H' ⟨i', p', hm, s'⟩
    exact ⟨μ i', hm, i', p', rfl, s'⟩
end
end LS
namespace LS
open PySem PySem.Spec PyProof.Rows L2 Evl
theorem nx_ex {K : PySem.W.Frag} {F0 H0 B : Hp} {sq : List Sl} {ι : Type} {I : ι → List Sl} {P : ι → Prop} {μ : ι → Nat} {m : Nat} {i : ι} (hp : P i) (hm : μ i < m) (w : Pz weakS sq (I i)) : Nx K F0 H0 B (fun σ' H' => ∃ i', P i' ∧ μ i' < m ∧ St K F0 H0 B (I i') σ' H') sq :=
  fun σ H s => ⟨i, hp, hm, s.weak w⟩
end LS
namespace LS
open PySem PySem.Spec PyProof.Rows L2 Evl
section
variable {K : PySem.W.Frag} {F0 H0 B : Hp} {sp : List Sl} {D : Ends} {ta tb te : TE} {t : TT} {tu tw tx : TS}
variable {α β γ δ : Type} [Rep α] [Rep β] [Rep γ] [Rep δ]
theorem s_asg {i : Nat} {a : α} (h : EX K te sp a) (k : Go K F0 H0 B D tw (sp.set i (.is a))) : Go K F0 H0 B D (tSeq (tAsg te (gName i)) tw) sp := go_seq (go_asg h k)
theorem s_asg2 {i j : Nat} {a : α × β} (h : EX K te sp a) (k : Go K F0 H0 B D tw ((sp.set i (.is a.1)).set j (.is a.2))) : Go K F0 H0 B D (tSeq (tAsg te (gTup K 2 (gCons (gName i) (gCons (gName j) gNil)))) tw) sp := go_seq (go_asg2 h k)
theorem s_asgO {i : Nat} {xs : List α} (h : EXo K te sp xs) (hi : i < sp.length) (k : Go K F0 H0 B D tw (sp.set i (.own xs))) : Go K F0 H0 B D (tSeq (tAsg te (gName i)) tw) sp := go_seq (go_asgO h hi k)
theorem s_asgV {i j : Nat} {ys : List β} {zs : List Int} (e : sp[j]? = some (.own ys)) (h : EXo K te (sp.set j (.is ys)) zs) (k : Go K F0 H0 B D tw (sp.set i (.is zs))) : Go K F0 H0 B D (tSeq (tAsg te (gName i)) tw) sp := go_seq (go_asgV e h k)
theorem s_popI {i j : Nat} {xs : List α} {n : Int} {a : α} (e : sp[j]? = some (.own xs)) (h : EX K te sp n) (hn : 0 ≤ n ∧ n < 2 ^ 62) (ha : xs[n.toNat]? = some a) (hij : i ≠ j) (k : Go K F0 H0 B D tw ((sp.set j (.own (xs.eraseIdx n.toNat))).set i (.is a))) :
    Go K F0 H0 B D (tSeq (tAsg (tBM K "list" rPopAt (tVar j) (tCons te tNil)) (gName i)) tw) sp := go_seq (go_popI e h hn ha hij k)
theorem s_drop {a : α} (h : EX K te sp a) (k : Go K F0 H0 B D tw sp) : Go K F0 H0 B D (tSeq (tDrop te) tw) sp := go_seq (go_drop h k)
theorem s_own {i : Nat} (hi : i < sp.length) (k : Go K F0 H0 B D tw (sp.set i (.own ([] : List α)))) : Go K F0 H0 B D (tSeq (tAsg (tLst tNil) (gName i)) tw) sp := go_seq (go_own hi k)
theorem s_app {j : Nat} {xs : List α} {a : α} (e : sp[j]? = some (.own xs)) (h : EX K te sp a) (hl : xs.length < 100000) (k : Go K F0 H0 B D tw (sp.set j (.own (xs ++ [a])))) :
    Go K F0 H0 B D (tSeq (tDrop (tBM K "list" rAppend (tVar j) (tCons te tNil))) tw) sp := go_seq (go_app e h hl k)
theorem s_if {b : Bool} (h : ET K t sp b) (h1 : b = true → Go K F0 H0 B { D with nx := tw D } tu sp) (h2 : b = false → Go K F0 H0 B { D with nx := tw D } tx sp) : Go K F0 H0 B D (tSeq (tIfS t tu tx) tw) sp := go_seq (go_if h h1 h2)
/-- an if with no else, then the rest -/
theorem s_ifn {b : Bool} (h : ET K t sp b) (h1 : b = true → Go K F0 H0 B { D with nx := tw D } tu sp) (h2 : b = false → Go K F0 H0 B D tw sp) : Go K F0 H0 B D (tSeq (tIfS t tu tNext) tw) sp := go_seq (go_if h h1 h2)
theorem s_for {wi : TI} {g : TG} {js : List Nat} {S : α → List Sl → List Sl} {xs : List α} (hi : EI K wi sp xs) (hg : Tgt K g js S) (hS : TgS js S) (I : Nat → List Sl) (h0 : I 0 = sp)
    (hb : ∀ B' i a, xs[i]? = some a → Ex B B' → Go K F0 H0 B' { nx := St K F0 H0 B' (I (i + 1)), rt := D.rt, ct := St K F0 H0 B' (I (i + 1)), bk := tw D } tu (S a (I i))) (hd : Go K F0 H0 B D tw (I xs.length)) :
    Go K F0 H0 B D (tSeq (tFor wi g tu) tw) sp := go_seq (go_for hi hg hS I h0 hb hd)
theorem s_while {ι : Type} (I : ι → List Sl) (P : ι → Prop) (μ : ι → Nat) (c : ι → Bool) (i0 : ι) (h0 : I i0 = sp) (p0 : P i0)
    (ht : ∀ i, P i → ∀ σ H (Q : Bool → Hp → Prop), St K F0 H0 B (I i) σ H → Q (c i) H → t σ H Q)
    (hb : ∀ i, P i → c i = true → Go K F0 H0 B { nx := fun σ' H' => ∃ i', P i' ∧ μ i' < μ i ∧ St K F0 H0 B (I i') σ' H', rt := D.rt, ct := fun σ' H' => ∃ i', P i' ∧ μ i' < μ i ∧ St K F0 H0 B (I i') σ' H', bk := tw D } tu (I i))
    (hd : ∀ i, P i → c i = false → Go K F0 H0 B D tw (I i)) : Go K F0 H0 B D (tSeq (tWhile t tu) tw) sp := go_seq (go_while I P μ c i0 h0 p0 ht hb hd)
end
end LS
namespace LS
open PySem PySem.Spec PyProof.Rows L2 Evl
/-- range(0, n) -/
structure Rgv where
  n : Int
instance : Rep Rgv := ⟨fun _ H v r => ∃ p, v = .ref p ∧ H p = some (.rng 0 r.n), fun e h => by
  obtain ⟨p, h1, h2⟩ := h
  exact ⟨p, h1, e p _ h2⟩⟩
def rRange1 : List V → Hp → VK → Prop := fun vs H Q => ∃ j, vs = [V.int j] ∧ ∀ p, H p = none → Q (.ref p) (upd H p (.rng 0 j))
theorem cr_range1 {X : Cx} : CallR X (.type "range") rRange1 := by
  intro pins s σ
        H vs us Q I r h
  obtain ⟨j, rfl, q⟩ := h
  obtain ⟨u1, rfl, rj⟩ := vals1 r
  obtain ⟨t, rfl⟩ := rj
  refine call_range_1 ⟨.ref s.heap.objs.size, upd H s.heap.objs.size (.rng 0 j), I.laid (t' := s.toks + 1 + 1) (fun b o e => Heap.get?_push_of_some _ e) (Nat.le_refl _) ?_, rfl, q _ (I.hok.fresh (Nat.le_refl _))⟩
  exact ⟨s.toks, t, s.toks + 1, Heap.get?_push_size _ rfl⟩
def iRgv (te : TE) : TI := fun σ H R => te σ H fun x H1 => ∃ p n, x = .ref p ∧ H1 p = some (.rng 0 n) ∧ (-(2 ^ 62) ≤ n ∧ n < 2 ^ 62) ∧ R (Itr 0 n.toNat) H1
theorem pi_rgv {X : Cx} {tg e : Expr} {te : TE} (he : PE X e te) : PI X tg e (iRgv te) := by
  refine ⟨fun pins
        s σ H R I h => ?_⟩
  refine thn (he.run pins s σ H _ I h) fun v s1 ⟨x, H1, I1, r1, p, n, ex, hp, hb, q⟩ => ?_
  subst ex
  cases r1
  obtain ⟨t, u, w, ho⟩ := I1.hok p _ hp
  refine wpAny_pyIter_range (a := 0) (b := n) (c := 1) ho (small_one (by omega) (by omega) hb.1 hb.2) ?_
  have new : (s1.heap.push { cls := .type "range_iterator", data := .fields #[rawInt 0, rawInt (Builtin.Range.rangeSize 0 n 1), rawInt 1] }).get? s1.heap.objs.size = some { cls := .type "range_iterator", data := .fields #[rawInt 0, rawInt (Builtin.Range.rangeSize 0 n 1), rawInt 1] } := Heap.get?_push_size _ rfl
  refine ⟨s1.heap.objs.size, [s1.heap.objs.size], _, _, H1, rfl, I1.kept (t' := s1.toks) fun b o e => Heap.get?_push_of_some _ e, turn_range _ 0 n.toNat, ?_, fun b hb => ?_, q⟩
  · have e1 : (0 : Int) + ((0 : Nat) : Int) * 1 = 0 := by simp
    have e2 : ((n.toNat : Nat) : Int) - ((0 : Nat) : Int) = Builtin.Range.rangeSize 0 n 1 := by rw [rangeSize_one]; split <;> omega
    show IsRangeIter _ _ (0 + ((0 : Nat) : Int) * 1) (((n.toNat : Nat) : Int) - ((0 : Nat) : Int)) 1
    rw [e1, e2]
    exact new
  · obtain rfl : b = s1.heap.objs.size := by simpa using hb
    exact I1.fpOk (Nat.le_refl _)
          (I1.hok.fresh (Nat.le_refl _))
section
variable {K : PySem.W.Frag} {sp : List Sl} {ta tb te : TE} {tr : TA} {α β : Type} [Rep α] [Rep β]
theorem ex_range1 {n : Int} (h : EX K te sp n) : EX K (tCB rRange1 (tCons te tNil)) sp (Rgv.mk n) := fun F σ hs H1 e1 Q q => h F σ hs H1 e1 _ fun v H2 e2 r => by
  cases rep_int r
  refine ⟨n, rfl, fun p hp => ?_⟩
  have e3 : Ex H2 (upd H2 p (.rng 0 n)) := Ex.new hp
  have hp1 := ex_none e2 hp
  exact q _ _ (e2.trans e3) ⟨p, rfl, by rw [nw_new (ex_none e1 hp1) hp1, upd_same]⟩
theorem ei_rgv {r : Rgv} (h : EX K te sp r) (hn : -(2 ^ 62) ≤ r.n ∧ r.n < 2 ^ 62) : EI K (iRgv te) sp (rng r.n) := fun F σ hs H1 e1 R q => h F σ hs H1 e1 _ fun v H2 e2 rr => by
  obtain ⟨p, rfl, hp⟩ := rr
  refine ⟨p, r.n, rfl, nw_in e1 e2 p _ hp, hn, q _ H2 e2 ⟨fun i H e hi => ?_, fun H e => ?_, fun i H x H' a e ha y => ?_⟩⟩
  · rw [rng_len] at hi
    exact hi
  · rw [rng_len]
    exact Nat.le_refl _
  · obtain ⟨rfl, rfl⟩ := y
    refine ⟨Ex.refl _, ?_⟩
    show V.int (0 + (i : Int)) = V.int a
    rw [(rng_get ha).1, Int.zero_add]
/-- *xs, then the rest of a display -/
theorem el_star {xs as : List α} (h1 : EX K te sp xs) (h2 : EL K tr sp as) : EL K (StX.tStar K te tr) sp (xs ++ as) :=
  fun F σ hs H1 e1 Q q => h1 F σ hs H1 e1 _ fun v H2 e2 r => by
  obtain ⟨p, vs, rfl, hp, hv⟩ := rep_l r
  refine ⟨p, vs, rfl, .inr (sq_of (nw_in e1 e2 p _ hp)), h2 F σ hs H2 (e1.trans e2) _ fun ws H3 e3 rs => ?_⟩
  exact q _ H3 (e2.trans e3) (pr_app (pr_imp (fun _ _ z => Rep.mono (nw_to e3) z) hv) (pr_imp (fun _ _ z => Rep.mono (nw_from e1 e2 e3) z) rs))
end
structure Dct where
  l : List (Int × Int)
def dK (l : List (Int × Int)) : List (Key × V) := l.map fun p => (Sum.inl p.1, V.int p.2)
def dput (l : List (Int × Int)) (k v : Int) : List (Int × Int) := if (l.any fun p => decide (p.1 = k)) = true then l.map (fun p => if p.1 = k then (p.1, v) else p) else l ++ [(k, v)]
def dval (l : List (Int × Int)) (k : Int) : Option Int := (l.find? fun p => decide (p.1 = k)).map (·.2)
def dmerge (l more : List (Int × Int)) : List (Int × Int) := more.foldl (fun acc p => dput acc p.1 p.2) l
theorem inl_dec {a b : Int} : decide ((Sum.inl a : Key) = Sum.inl b) = decide (a = b) := by
  by_cases h : a = b
  · subst h
    simp
  · rw [decide_eq_false h, decide_eq_false fun z => h (Sum.inl.inj z)]
theorem dK_put (l : List (Int × Int)) (k v : Int) : dK (dput l k v) = putK (dK l) (Sum.inl k) (V.int v) := by
  unfold dput putK dK
  have e : ((l.map fun p => ((Sum.inl p.1 : Key), V.int p.2)).any fun kv => decide (kv.1 = Sum.inl k)) = l.any fun p => decide (p.1 = k) := by
    rw [List.any_map]
    show (l.any fun p => decide ((Sum.inl p.1 : Key) = Sum.inl k)) = _
    simp only [inl_dec]
  rw [e]
  by_cases h : (l.any fun p => decide (p.1 = k)) = true
  · rw [if_pos h, if_pos h, List.map_map, List.map_map]
    refine List.map_congr_left
          fun p _ => ?_
    simp only [Function.comp]
    by_cases q : p.1 = k
    · rw [if_pos q, if_pos (by rw [q])]
    · rw [if_neg q, if_neg fun z => q (Sum.inl.inj z)]
  · rw [if_neg h, if_neg h, List.map_append]
    rfl
theorem dK_merge (more : List (Int × Int)) : ∀ l : List (Int × Int), dK (dmerge l more) = mergeK (dK l) (dK more) := by
  induction more with
  | nil => intro l; rfl
  | cons p r ih =>
    intro l
    show dK (dmerge (dput l p.1 p.2) r) = mergeK (putK (dK l) (Sum.inl p.1) (V.int p.2)) (dK r)
    rw [ih, dK_put]
theorem dK_val (l : List (Int × Int)) (k : Int) : valV (dK l) (Sum.inl k) = (dval l k).map V.int := by
  induction l with
  | nil => rfl
  | cons p r ih =>
    by_cases h : p.1 = k
    · rw [show dK (p :: r) = (Sum.inl p.1, V.int p.2) :: dK r from rfl, valV_pos (by rw [h])]
      unfold dval
      rw [List.find?_cons_of_pos (by simpa using h)]
      rfl
    · rw [show dK (p :: r) = (Sum.inl p.1, V.int p.2) :: dK r from rfl, valV_neg fun z => h (Sum.inl.inj z), ih]
      unfold dval
      rw [List.find?_cons_of_neg (by simpa using h)]
instance : Rep Dct := ⟨fun _ H v d => ∃ p, v = .ref p ∧ H p = some (.dK (dK d.l)), fun e h => by
  obtain ⟨p, h1, h2⟩ := h
  exact ⟨p, h1, e p _ h2⟩⟩
/-- dict(zip(a, b)) -/
def tDZ (K : PySem.W.Frag) (t : TA) : TE := fun σ H Q => t σ H fun vs H1 => ∃ (a b : Addr) (ns ms : List Int), vs = [.ref a, .ref b] ∧ SqL K H1 a (ns.map V.int) ∧ SqL K H1 b (ms.map V.int) ∧ ∀ p, H1 p = none → Q (.ref p) (upd H1 p (.dK (dK (dmerge [] (ns.zip ms)))))
theorem kv_zip : ∀ {us ws : List Value} {ns ms : List Int}, IntsAre us ns → IntsAre ws ms → KV (dK (ns.zip ms)) ((ns.zip ws).map fun p => ((Sum.inl p.1 : Key), p.2))
  | _, _, _, _, .nil, _ => .nil
  | _, _, _, _, .cons _ _ _, .nil => .nil
  | _, _, _, _, .cons _ _ t, .cons _ u t2 => .cons ⟨rfl, u, rfl⟩ (kv_zip t t2)
theorem ints_get : ∀ {us : List Value} {ns : List Int} {i : Nat} {v : Value}, IntsAre us ns → us[i]? = some v → ∃ k, ns[i]? = some k ∧ keyIs (Sum.inl k) v = true
  | _, _, _, _, .nil, h => by simp at h
  | _, _, 0, _, .cons n t r, h => by
    simp only [List.getElem?_cons_zero,
          Option.some.injEq] at h
    subst h
    exact ⟨n, rfl, by simp [keyIs, Value.isInt]⟩
  | _, _, i + 1, _, .cons n t r, h => by
    simp only
          [List.getElem?_cons_succ] at h ⊢
    exact ints_get r h
theorem dmerge_len (more : List (Int × Int)) : ∀ l : List (Int × Int), (dmerge l more).length ≤ l.length + more.length := by
  induction more with
  | nil => intro l; exact Nat.le_refl _
  | cons p r ih =>
    intro l
    have h1 := ih (dput l p.1 p.2)
    have h2 : (dput l p.1 p.2).length ≤ l.length + 1 := by
      unfold dput
      split
      · rw [List.length_map]; omega
      · rw
            [List.length_append]; simp
    show (dmerge (dput l p.1 p.2) r).length ≤ _
    rw [List.length_cons]
    omega
theorem pe_dz {X : Cx} {K : PySem.W.Frag} {e1 e2 : Expr} {ta : TA} {p p2 pos pos2 : Pos} (hK : X.K = K) (hc : X.calm = true) (hg : Gl X "dict") (hm : X.mg "dict" = none) (hg2 : Gl X "zip") (hm2 : X.mg "zip" = none) (ha : PA X [e1, e2] ta)
    (na : starEach [.Call (.Name "zip" p2) [e1, e2] [] pos2] X.env = (false, eval (.Call (.Name "zip" p2) [e1, e2] [] pos2) X.env) :: starEach [] X.env := by rfl)
    (hs : starEach [e1, e2] X.env = (false, eval e1 X.env) :: starEach [e2] X.env := by rfl) (hpl : (backTo pos2 (starEach [e2] X.env)).any (·.1) = false := by rfl) :
    PE X (.Call (.Name "dict" p) [.Call (.Name "zip" p2) [e1, e2] [] pos2] [] pos) (tDZ K ta) := by
  subst hK
  refine ⟨fun pins
        s σ H Q I h => ?_⟩
  refine Call_ (ld_blt I hg hm PyProof.Rows.boot_dict (PyProof.Rows.callWith_type1 (args_cons (Call_ (ld_blt I hg2 hm2 PyProof.Rows.boot_zip (PyProof.Rows.callWith_type1 (thn (ha.run pos2 pins s σ H _ I h) fun us s1 z => ?_) hs hpl))) na) na))
  obtain ⟨vs, H1, I1, r1, a, b, ns, ms, ex, hqx, hqy, q⟩ := z
  subst ex
  obtain ⟨u1, u2, rfl, ra, rb⟩ := vals2 r1
  cases ra
  cases rb
  obtain ⟨its, rv, p1, z1⟩ := I1.list hqx
  obtain ⟨its2, rv2, p2', z2⟩ := I1.list hqy
  have la : a <
        s1.heap.objs.size := p1.lt
  have lb : b < s1.heap.objs.size := p2'.lt
  refine call_zip_2 p1.isList p2'.isList fun h' hz hTI hTO h1 h2 hsz hk => args_nil ?_
  have ia := rv.ints
  have ib := rv2.ints
  have kv := kv_zip ia ib
  have hl : (dK (ns.zip ms)).length = ((ns.zip its2).map fun p => ((Sum.inl p.1 : Key), p.2)).length := kv.length
  have hn1 : ns.length = its.length := ia.length.symm
  refine PySem.call_dict_pairs (knd := mixKind X.prog X.w) (kvs := (ns.zip its2).map fun p => ((Sum.inl p.1 : Key), p.2)) (PairArg.zip (s1.heap.objs.size + 4) (s1.heap.objs.size + 2) (s1.heap.objs.size + 3) s1.heap.objs.size (s1.heap.objs.size + 1) a b (PySem.W.ktu_apart s1.heap.objs.size a b la lb) its.toArray its2.toArray)
    (I1.ok.hd hc) ⟨hz, hTI, ⟨_, _, hTO⟩, h1, h2, p1.isList.at fun o e => hk _ o e, p2'.isList.at fun o e => hk _ o e⟩ ⟨?_, ?_⟩ ?_ fun h'' tk hd hk2 => ?_
  · simp [hn1]
  · rintro i key v ⟨e1, e2⟩
    have e1 : its[i]? = some key := by simpa using e1
    have e2 : its2[i]? = some v := by simpa using e2
    obtain ⟨k, hk3, hk4⟩ := ints_get ia e1
    refine ⟨Sum.inl k, ?_, hk4⟩
    rw [List.getElem?_map, List.getElem?_zip_eq_some (z := (k, v)) |>.mpr ⟨hk3, e2⟩]
    rfl
  · simp
    have := z1
    rw [List.length_map] at this
    omega
  · have old : ∀ c o, s1.heap.get? c = some o → h''.get? c = some o := fun c o e => by
      have hlt := Heap.lt_size e
      refine hk2 c o (fun hm => ?_) (hk c o e)
      simp only [List.mem_cons,
            List.not_mem_nil, or_false] at hm
      have up : ∀ n : Nat, ¬ ((s1.heap.objs.size + n : Nat) < s1.heap.objs.size) := fun n => Nat.not_lt.mpr (Nat.le_add_right _ _)
      rcases hm with z | z | z | z
      · rw [z] at hlt; exact up 4 hlt
      · rw [z] at hlt; exact up 3 hlt
      · rw [z] at hlt; exact up 0 hlt
      · rw [z] at hlt; exact up 1 hlt
    have hle : s1.heap.objs.size ≤ h'.objs.size := by rw [hsz]; exact Nat.le_add_right _ _
    have big : (h'.objs.size == sysModules) = false := by
      have := I1.big
      exact beq_eq_false_iff_ne.mpr (Nat.ne_of_gt (Nat.lt_of_lt_of_le this hle))
    have few : (dK (dmerge [] (ns.zip ms))).length ≤ sizeLine := by
      have h1 := dmerge_len (ns.zip ms) []
      unfold dK
      rw [List.length_map]
      rw [List.length_map] at z1
      simp at h1
      omega
    have kvm : KV (dK (dmerge [] (ns.zip ms))) (merged [] ((ns.zip its2).map fun p => ((Sum.inl p.1 : Key), p.2))) := by
      rw [dK_merge]
      exact KV.merge kv .nil
    exact ⟨.ref h'.objs.size, upd H1 h'.objs.size (.dK (dK (dmerge [] (ns.zip ms)))), I1.laid (t' := tk) old hle (show ObjOk X.prog X.w _ _ _ (.dK _) from ⟨few, big, _, kvm, hd⟩), rfl, q _ (I1.hok.fresh hle)⟩
end LS
namespace LS
open PySem PySem.Spec PyProof.Rows L2 Evl
theorem hu1 {u : Nat} (h : u + 64 < cLine) : u + 1 < cLine := Nat.lt_of_le_of_lt (Nat.add_le_add_left (by decide) u) h
section
variable {K : PySem.W.Frag} {F0 H0 B : Hp} {sp : List Sl} {D : Ends} {ta tb te td ty tx tv : TE} {tw : TS}
theorem s_dict2 {i c : Nat} {ns ms : List Int} {kc v : Int} (h1 : EX K ta sp ns) (h2 : EX K tb sp ms) (hv : EX K tv (sp.set i .no) v) (hc : sp[c]? = some (.is kc)) (hic : c ≠ i) (hi : i < sp.length) (hn : ns.length < 100000)
    (k : Go K F0 H0 B D tw (sp.set i (.is (Dct.mk (dput (dmerge [] (ns.zip ms)) kc v))))) :
    Go K F0 H0 B D (tSeq (tAsg (tDZ K (tCons ta (tCons tb tNil))) (gName i)) (tSeq (sDPut (tVar i) (tVar c) tv) tw)) sp := fun σ H s => by
  obtain ⟨F, x⟩ := s
  refine h1 F σ x.sl H x.at_.in_ _ fun v1 H2 e2 r1 => h2 F σ x.sl H2 (x.at_.in_.trans e2) _ fun v2 H3 e3 r2 => ?_
  obtain ⟨a, vs, rfl, ha, hav⟩ := rep_l r1
  obtain ⟨b, ws, rfl, hb, hbv⟩ := rep_l r2
  rw [ints_l hav] at ha
  rw [ints_l hbv] at hb
  have eF2 : Ex (Nw F H H2) H2 := nw_in x.at_.in_ e2
  refine ⟨a, b, ns, ms, rfl, sq_of (e3 a _ (eF2 a _ ha)), sq_of (nw_in (x.at_.in_.trans e2) e3 b _ hb), fun l hl => ?_⟩
  have e4 : Ex H3 (upd H3 l (.dK (dK (dmerge [] (ns.zip ms))))) := Ex.new hl
  have e04 : Ex H (upd H3 l (.dK (dK (dmerge [] (ns.zip ms))))) := (e2.trans e3).trans e4
  refine hv F (σ.set i (some (.ref l))) (slots_no i x.sl) _ (x.at_.in_.trans e04) _ fun v5 H5 e5 r5 => ?_
  cases rep_int r5
  have h5 : H5 l = some (.dK (dK (dmerge [] (ns.zip ms)))) := e5 l _ upd_same
  obtain ⟨vc, hvc, rc⟩ := slots_get x.sl hc
  cases rep_int rc
  have hil : i < σ.length := by rw [pr_len x.sl]; exact hi
  refine ⟨.ref l, by show (σ.set i (some (.ref l)))[i]? = _; rw [List.getElem?_set_self hil], .int kc, by show (σ.set i (some (.ref l)))[c]? = _; rw [List.getElem?_set_ne (fun z => hic z.symm)]; exact hvc, l, _, rfl, DPut.k (k := Sum.inl kc) h5 (sz_lt ?_), ?_⟩
  · unfold dK
    rw [List.length_map]
    have h6 := dmerge_len (ns.zip ms) []
    rw [List.length_zip] at h6
    simp at h6
    omega
  · have hlH : H l = none := ex_none (e2.trans e3) hl
    have e6 : Ex H (upd H5 l (.dK (putK (dK (dmerge [] (ns.zip ms))) (Sum.inl kc) (V.int v)))) := Ex.mut (e04.trans e5) hlH
    refine k _ _ ⟨_, (x.grow e6).is i (a := Dct.mk (dput (dmerge [] (ns.zip ms)) kc v)) ⟨l, rfl, ?_⟩⟩
    rw [nw_new (ex_none x.at_.in_ hlH) hlH, upd_same, dK_put]
theorem ex_dget2 {d : Dct} {k z : Int} (h1 : EX K td sp d) (h2 : EX K ty sp k) (h3 : EX K tx sp z) : EX K (tDGet2 td ty tx) sp ((dval d.l k).getD z) :=
  fun F σ hs H1 e1 Q q => h1 F σ hs H1 e1 _ fun v H2 e2 r => by
  obtain ⟨p, rfl, hp⟩ := r
  have hp2 := nw_in e1 e2 p _ hp
  refine ⟨p, rfl, .inl ⟨_, .inl hp2⟩, h2 F σ hs H2 (e1.trans e2) _ fun w H3 e3 r2 => h3 F σ hs H3 ((e1.trans e2).trans e3) _ fun y H4 e4 r3 => ?_⟩
  cases rep_int r2
  cases rep_int r3
  refine ⟨_, DGet.k (k := Sum.inl k) (e4 p _ (e3 p _ hp2)), q _ H4 ((e2.trans e3).trans e4) ?_⟩
  rw [dK_val]
  cases dval d.l k <;> rfl
end
theorem dval_put (l : List (Int × Int)) (k v x : Int) : dval (dput l k v) x = if k = x then some v else dval l x := by
  unfold dput
  by_cases h : (l.any fun p => decide (p.1 = k)) = true
  · rw [if_pos h]
    induction l with
    | nil => simp at h
    | cons p r ih =>
      unfold dval at ih ⊢
      by_cases q : p.1 = k
      · by_cases q2 : k = x
        · simp [q, q2]
        · have : ¬ p.1 = x := fun z => q2 (q ▸ z)
          simp only [List.map_cons, if_pos q, if_neg q2]
          rw [List.find?_cons_of_neg (by simpa using this), List.find?_cons_of_neg (by simpa using this)]
          by_cases h2 : (r.any fun p => decide (p.1 = k)) = true
          · rw [ih h2, if_neg q2]
          · congr 1
            have e : r.map (fun p => if p.1 = k then (p.1, v) else p) = r := by
              conv =>
                    rhs; rw [← List.map_id r]
              refine List.map_congr_left fun y hy => ?_
              have : ¬ y.1 = k := fun z => h2 (List.any_eq_true.mpr ⟨y, hy, by simpa using z⟩)
              rw [if_neg this]
              rfl
            rw [e]
      · have h2 : (r.any fun p => decide (p.1 = k)) = true := by
          rw [List.any_cons] at h
          simpa [q] using h
        simp only [List.map_cons, if_neg q]
        by_cases q3 : p.1 = x
        · have : ¬ k = x := fun z => q (q3.trans z.symm)
          rw [List.find?_cons_of_pos (by simpa using q3), List.find?_cons_of_pos (by simpa using q3), if_neg this]
        · rw [List.find?_cons_of_neg (by simpa using q3), List.find?_cons_of_neg (by simpa using q3), ih h2]
  · rw [if_neg h]
    unfold dval
    rw [List.find?_append]
    by_cases q : k = x
    · subst q
      have : l.find? (fun p => decide (p.1 = k)) = none := by
        rw [List.find?_eq_none]
        intro y hy hz
        exact h (List.any_eq_true.mpr ⟨y, hy, hz⟩)
      rw [this, if_pos rfl]
      simp
    · rw [if_neg q]
      simp [q]
theorem dval_merge (more : List (Int × Int)) (hn : (more.map (·.1)).Nodup) : ∀ (l : List (Int × Int)) (x : Int), dval (dmerge l more) x = (more.lookup x).or (dval l x) := by
  induction more with
  | nil => intro l x; rfl
  | cons p r ih =>
    intro l x
    have hn2 := List.nodup_cons.mp (show (p.1 :: r.map (·.1)).Nodup from hn)
    show dval (dmerge (dput l p.1 p.2) r) x = _
    rw [ih hn2.2, dval_put]
    by_cases q : p.1 = x
    · subst q
      have : r.lookup p.1 = none := by
        rw [List.lookup_eq_none_iff]
        intro y hy
        have : p.1 ≠ y.1 := fun z => hn2.1 (z ▸ List.mem_map.mpr ⟨y, hy, rfl⟩)
        simpa using this
      rw [this, if_pos rfl, List.lookup_cons, beq_self_eq_true]
      rfl
    · rw [if_neg q, List.lookup_cons, show (x == p.1) = false by simpa using fun z => q z.symm]
end LS
namespace LS
open PySem PySem.Spec PyProof.Rows L2 Evl
structure Tb1 where
  rows : List (List Int)
structure Tb2 where
  rows : List (List Int)
instance : Rep Tb1 := ⟨fun K H v t => ∃ p dx vr, v = .ref p ∧ H p = some (.ins (He.ga K "Table") dx [("rows", vr)]) ∧ Rep.rep K H vr (tOf t.rows), fun {K H H' v t} e h => by
  obtain ⟨p, dx, vr, h1, h2, h3⟩ := h
  exact ⟨p, dx, vr, h1, e p _ h2, Rep.mono e h3⟩⟩
instance : Rep Tb2 := ⟨fun K H v t => ∃ p dx vr, v = .ref p ∧ H p = some (.ins (He.ga K "Table") dx [("rows", vr), ("size", .int t.rows.length)]) ∧ Rep.rep K H vr (tOf t.rows), fun {K H H' v t} e h => by
  obtain ⟨p, dx, vr, h1, h2, h3⟩ := h
  exact ⟨p, dx, vr, h1, e p _ h2, Rep.mono e h3⟩⟩
section
variable {K : PySem.W.Frag} {sp : List Sl} {te : TE}
theorem ex_rows1 {t : Tb1} (k : TbK K) (h : EX K te sp t) : EX K (tFld K te "rows") sp (tOf t.rows) := fun F σ hs H1 e1 Q q => h F σ hs H1 e1 _ fun v H2 e2 r => by
  obtain ⟨p, dx, vr, rfl, hp, h3⟩ := r
  exact ⟨p, _, dx, _, vr, rfl, nw_in e1 e2 p _ hp, k.cl, k.nR, by rw [List.lookup_cons, beq_self_eq_true], q vr H2 e2 h3⟩
theorem ex_rows2 {t : Tb2} (k : TbK K) (h : EX K te sp t) : EX K (tFld K te "rows") sp (tOf t.rows) := fun F σ hs H1 e1 Q q => h F σ hs H1 e1 _ fun v H2 e2 r => by
  obtain ⟨p, dx, vr, rfl, hp, h3⟩ := r
  exact ⟨p, _, dx, _, vr, rfl, nw_in e1 e2 p _ hp, k.cl, k.nR, by rw [List.lookup_cons, beq_self_eq_true], q vr H2 e2 h3⟩
theorem ex_size2 {t : Tb2} (k : TbK K) (h : EX K te sp t) : EX K (tFld K te "size") sp (t.rows.length : Int) := fun F σ hs H1 e1 Q q => h F σ hs H1 e1 _ fun v H2 e2 r => by
  obtain ⟨p, dx, vr, rfl, hp, h3⟩ := r
  exact ⟨p, _, dx, _, _, rfl, nw_in e1 e2 p _ hp, k.cl, k.nS, by rw [List.lookup_cons, show (("size" : Str) == "rows") = false by decide +kernel, List.lookup_cons, beq_self_eq_true], q _ H2 e2 rfl⟩
end
/-- C(rows): what the def __init__ is asked -/
def spT (K : PySem.W.Frag) (pre : List (List Int) → Prop) : Sp := fun vs H1 Q _ => ∃ (F H : Hp) (x dx : Addr) (v : V) (g : List (List Int)), vs = [.ref x, v] ∧ H x = none ∧ H dx = none ∧ dx ≠ x ∧ H1 = upd (upd H dx (.own x)) x (.ins (He.ga K "Table") dx []) ∧ Ex F H ∧ Rep.rep K F v g ∧ pre g ∧
  ∀ H', Ex H H' → (∃ vr va, H' x = some (.ins (He.ga K "Table") dx (tblF vr (.int g.length) va)) ∧ Rep.rep K (Nw F H H') vr (tOf g) ∧ Rep.rep K (Nw F H H') va (Tp.mk (arrowsOf g))) → Q .non H'
theorem spT_len {K : PySem.W.Frag} {pre : List (List Int) → Prop} (vs : List V) (H : Hp) (Q : VK) (E : XK) (h : spT K pre vs H Q E) : vs.length = 2 := by
  obtain ⟨F, H0, x, dx, v, g, rfl, _⟩ := h
  rfl
theorem prs_cut {K : PySem.W.Frag} {H : Hp} {x : Addr} {C dx : Addr} {fs : List (Str × V)} (hx : H x = some (.ins C dx fs)) : ∀ {vs : List V} {ps : List (Int × Int)}, Pz (Rep.rep K H) vs ps → Pz (Rep.rep K (cut x H)) vs ps
  | _, _, .nil => .nil
  | _, _, .cons r t => .cons (by
      obtain ⟨p, a, b, h1, h2, h3, h4⟩ := r
      refine ⟨p, a, b, h1, ?_, h3, h4⟩
      rcases h2 with h2 | h2
      · refine .inl ?_
        have ne : p ≠ x := fun z => by
          rw [z] at h2
          unfold Rd at h2
          rw [hx] at h2
          rcases h2 with h2 | ⟨o, h2⟩ <;> cases h2
        unfold Rd at h2 ⊢
        rw [cut_ne ne]
        exact h2
      · exact .inr h2) (prs_cut hx t)
theorem tprs_cut {K : PySem.W.Frag} {H : Hp} {x : Addr} {C dx : Addr} {fs : List (Str × V)} (hx : H x = some (.ins C dx fs)) {v : V} {ps : Tp (Int × Int)} (h : Rep.rep K H v ps) : Rep.rep K (cut x H) v ps := by
  obtain ⟨p, vs, h1, h2, h3⟩ := rep_t h
  refine ⟨p, vs, h1, ?_, prs_cut hx h3⟩
  rcases h2 with h2 | h2
  · refine .inl ?_
    have ne : p ≠ x := fun z => by
      rw [z] at h2
      unfold Rd at h2
      rw [hx] at h2
      rcases h2 with h2 | ⟨o, h2⟩ <;> cases h2
    unfold Rd at h2 ⊢
    rw [cut_ne ne]
    exact h2
  · exact .inr h2
theorem table_init {K : PySem.W.Frag} {pre : List (List Int) → Prop} {N : List Str} {t1 t2 t3 : TE} {vs : List V} {H1 : Hp} {Q : VK} {E : XK} (k : TbK K) (h : spT K pre vs H1 Q E) (hN : N.length = 4)
    (h1 : ∀ g, pre g → EX K t1 [.no, .is g, .no, .no] (tOf g)) (h2 : ∀ g, pre g → EX K t2 [.is (Tb1.mk g), .no, .no, .no] (g.length : Int)) (h3 : ∀ g, pre g → EX K t3 [.is (Tb2.mk g), .no, .no, .no] (Tp.mk (arrowsOf g))) :
    tSeq (sFld K (tVar 0) t1 "rows") (tSeq (sFld K (tVar 0) t2 "size") (sFld K (tVar 0) t3 "_arrow_pairs")) { nx := fun _ H' => Q .non H', rt := Q } (L2.start N vs) H1 := by
  obtain ⟨F, H, x, dx, v, g, rfl, hx, hdx, hne, rfl, eF, rv, hp, q⟩ := h
  have hσ : L2.start N [.ref x, v] = [some (.ref x), some v, none, none] := by
    unfold L2.start
    rw [hN]
    rfl
  rw [hσ]
  have eH1 : Ex H (upd (upd H dx (.own x)) x (.ins (He.ga K "Table") dx [])) := Ex.mut (Ex.new hdx) hx
  generalize hH1 : upd (upd H dx (.own x)) x (.ins (He.ga K "Table") dx []) = H1 at eH1
  have x1 : H1 x = some (.ins (He.ga K "Table") dx []) := by rw [← hH1, upd_same]
  have Fx : F x = none := ex_none eF hx
  have sl : Slots K F [some (.ref x), some v, none, none] [.no, .is g, .no, .no] := .cons True.intro (.cons ⟨v, rfl, rv⟩ (.cons True.intro (.cons True.intro .nil)))
  refine h1 g hp F _ sl H1 (eF.trans eH1) _ fun y H2 e2 r1 => ?_
  have x2 := e2 x _ x1
  refine ⟨.ref x, rfl, x, _, dx, [], rfl, x2, k.cl, k.nR, by decide, ?_⟩
  have G1x : Nw F H1 H2 x = none := nw_old Fx x1
  generalize hG1 : Nw F H1 H2 = G1 at r1 G1x
  have G12 : Ex G1 H2 := hG1 ▸ nw_in (eF.trans eH1) e2
  generalize hH3 : upd H2 x (.ins (He.ga K "Table") dx (putF "rows" y [])) = H3
  have x3 : H3 x = some (.ins (He.ga K "Table") dx [("rows", y)]) := by rw [← hH3, upd_same]; rfl
  have e03 : Ex H H3 := hH3 ▸ Ex.mut (eH1.trans e2) hx
  have G13 : Ex G1 H3 := hH3 ▸ Ex.mut G12 G1x
  have sl2 : Slots K (wth x H3 G1) [some (.ref x), some v, none, none] [.is (Tb1.mk g), .no, .no, .no] :=
    .cons ⟨_, rfl, x, dx, y, rfl, by rw [wth_at]; exact x3, Rep.mono (wth_f G1x) r1⟩ (.cons True.intro (.cons True.intro (.cons True.intro .nil)))
  refine h2 g hp _ _ sl2 H3 (wth_in G13) _ fun z H4 e4 r2 => ?_
  cases rep_int r2
  have x4 := e4 x _ x3
  refine ⟨.ref x, rfl, x, _, dx, _, rfl, x4, k.cl, k.nS, by simp, ?_⟩
  generalize hH5 : upd H4 x (.ins (He.ga K "Table") dx (putF "size" (.int g.length) [("rows", y)])) = H5
  have x5 : H5 x = some (.ins (He.ga K "Table") dx [("rows", y), ("size", .int g.length)]) := by
    rw [← hH5, upd_same]
    show some (HO.ins _ _ (putF _ _ _)) = _
    unfold putF
    first | rfl | (rw [if_neg (by decide +kernel)]; rfl) | simp
  have e05 : Ex H H5 := hH5 ▸ Ex.mut (e03.trans e4) hx
  have G15 : Ex G1 H5 := hH5 ▸ Ex.mut (G13.trans e4) G1x
  have sl3 : Slots K (wth x H5 G1) [some (.ref x), some v, none, none] [.is (Tb2.mk g), .no, .no, .no] :=
    .cons ⟨_, rfl, x, dx, y, rfl, by rw [wth_at]; exact x5, Rep.mono (wth_f G1x) r1⟩ (.cons True.intro (.cons True.intro (.cons True.intro .nil)))
  refine h3 g hp _ _ sl3 H5 (wth_in G15) _ fun va H6 e6 r3 => ?_
  have x6 := e6 x _ x5
  refine ⟨.ref x, rfl, x, _, dx, _, rfl, x6, k.cl, k.nA, by simp, ?_⟩
  generalize hH7 : upd H6 x (.ins (He.ga K "Table") dx (putF "_arrow_pairs" va [("rows", y), ("size", .int g.length)])) = H7
  have x7 : H7 x = some (.ins (He.ga K "Table") dx (tblF y (.int g.length) va)) := by
    rw [← hH7, upd_same]
    show some (HO.ins _ _ (putF _ _ _)) = _
    unfold putF tblF
    first | rfl | (rw [if_neg (by decide +kernel)]; rfl) | simp
  have e07 : Ex H H7 := hH7 ▸ Ex.mut (e05.trans e6) hx
  have up67 : ∀ p, p ≠ x → H7 p = H6 p := fun p hp => by rw [← hH7, upd_ne hp]
  have G17 : Ex G1 H7 := hH7 ▸ Ex.mut (G15.trans e6) G1x
  have inn : Ex G1 (Nw F H H7) := fun p o ho => by
    cases q1 : F p with
    | some u =>
      have := nw_some (H1 := H1) (H2 := H2) q1
      rw [hG1, ho] at this
      rw [nw_some q1]
      exact this.symm
    | none =>
      cases q2 : H1 p with
      | some u =>
        have := nw_old (H2 := H2) q1 q2
        rw [hG1, ho] at this
        cases this
      | none =>
        rw [nw_new q1 (ex_none eH1 q2)]
        exact G17 p o ho
  refine q H7 e07 ⟨y, va, x7, Rep.mono inn r1, ?_⟩
  have hV : Nw (wth x H5 G1) H5 H6 x = some (.ins (He.ga K "Table") dx [("rows", y), ("size", .int g.length)]) := nw_some (by rw [wth_at]; exact x5)
  refine Rep.mono (fun p o ho => ?_) (tprs_cut hV r3)
  have ne : p ≠ x := fun z => by
    rw [z, cut_at] at ho
    cases ho
  rw [cut_ne ne] at ho
  have hw : wth x H5 G1 p = G1 p := if_neg ne
  cases q1 : G1 p with
  | some u =>
    rw [nw_some (hw.trans q1)] at ho
    rw [← ho]
    exact inn p u q1
  | none =>
    cases q2 : H5 p with
    | some u =>
      rw [nw_old (hw.trans q1) q2] at ho
      cases ho
    | none =>
      rw [nw_new (hw.trans q1) q2] at ho
      have hp0 := ex_none e05 q2
      rw [nw_new (ex_none eF hp0) hp0, up67 p ne]
      exact ho
end LS
namespace LS
open PySem PySem.Spec PyProof.Rows L2 Evl
theorem ex_mk {K : PySem.W.Frag} {sp : List Sl} {te : TE} {pre : List (List Int) → Prop} {E : XK} {g : List (List Int)} (h : EX K te sp g) (hp : pre g) : EX K (tMake (He.ga K "Table") (spT K pre) [] E (tCons te tNil)) sp (Tbl.mk g) :=
  fun F σ hs H1 e1 Q q => h F σ hs H1 e1 _ fun v H2 e2 r x dx hx hdx hne => by
  refine ⟨Nw F H1 H2, H2, x, dx, v, g, rfl, hx, hdx, hne, rfl, nw_in e1 e2, r, hp, fun H3 e3 z => ⟨rfl, ?_⟩⟩
  obtain ⟨vr, va, h1, h2, h3⟩ := z
  have hx1 := ex_none e2 hx
  have up : Ex (Nw (Nw F H1 H2) H2 H3) (Nw F H1 H3) := nw_base e1 e2 e3 (Ex.refl _)
  exact q _ H3 (e2.trans e3) ⟨x, dx, vr, va, rfl, by rw [nw_new (ex_none e1 hx1) hx1]; exact h1, Rep.mono up h2, Rep.mono up h3⟩
/-- a class made by its name -/
structure Cm (P : Program) (w : World) (K : PySem.W.Frag) (mg : Str → Option Value) (base : Heap) (k : Nat) (x : Str) (ps : List Str) (sq : Sp) : Prop where
  ex : ∃ f fd, FnOk P w K mg base CX0 k f fd ps sq ∧ Mk K (He.ga K x) f ∧ mg x = some (.ref (He.ga K x)) ∧ Binds K fd ps []
theorem pe_mk {X : Cx} {k : Nat} {x : Str} {ps : List Str} {sq : Sp} {e : Expr} {es : List Expr} {t : TA} {p pos : Pos} (c : Cm X.prog X.w X.K X.mg X.base k x ps sq) (hr : Room (k + 1) X.A) (hg : Gl X x) (ha : PA X (e :: es) t)
    (hdb : (x == ("__debug__" : Str)) = false := by decide) (he : starEach (e :: es) X.env = (false, eval e
          X.env) :: starEach es X.env := by rfl) (hpl : (backTo pos (starEach es X.env)).any (·.1) = false := by rfl) :
    PE X (.Call (.Name x p) (e :: es) [] pos) (tMake (He.ga X.K x) sq [] E0 t) := by
  obtain ⟨f, fd, F, M, hm, hb⟩ := c.ex
  exact pe_make M F hr hg hm hb .nil pass0 ha hdb he hpl
end LS
namespace LS
open PySem PySem.Spec PyProof.Rows L2 Evl
theorem set_is_same {α : Type} [Rep α] {sp : List Sl} {i : Nat} {c : α} (h : sp[i]? = some (.is c)) : sp.set i (.is c) = sp := by
  apply List.ext_getElem?
  intro j
  by_cases q : i = j
  · subst q
    rw [List.getElem?_set_self (own_lt h), h]
  · rw [List.getElem?_set_ne q]
/-- if test: x = e -/
theorem s_ifasg {K : PySem.W.Frag} {F0 H0 B : Hp} {sp : List Sl} {D : Ends} {te : TE} {t : TT} {tw : TS} {α : Type} [Rep α] {i : Nat} {b : Bool} {a c : α} (h : ET K t sp b) (ha : EX K te sp a) (hc : sp[i]? = some (.is c)) (k : Go K F0 H0 B D tw (sp.set i (.is (if b = true then a else c)))) :
    Go K F0 H0 B D (tSeq (tIfS t (tAsg te (gName i)) tNext) tw) sp := by
  cases b with
  | true => exact s_if h (fun _ => go_asg ha k) (fun q => nomatch q)
  | false =>
    rw [if_neg Bool.false_ne_true, set_is_same hc] at k
    exact s_ifn h (fun q => nomatch q) (fun _ => k)
end LS
namespace LS
open PySem PySem.Spec PyProof.Rows L2 Evl
section
variable {K : PySem.W.Frag} {sp : List Sl} {ta tb tc td te tf tg th : TE} {N : List Str} {t : TS} {vs : List V} {H : Hp} {Q : VK} {E : XK}
variable {α β γ δ ε ζ η θ ρ : Type} [Rep α] [Rep β] [Rep γ] [Rep δ] [Rep ε] [Rep ζ] [Rep η] [Rep θ] [Rep ρ]
def sp6 (K : PySem.W.Frag) (pre : α → β → γ → δ → ε → ζ → Prop) (f : α → β → γ → δ → ε → ζ → ρ) : Sp := fun vs H Q _ => ∃ F a b c d e g, Ex F H ∧ Args K F vs [.is a, .is b, .is c, .is d, .is e, .is g] ∧ pre a b c d e g ∧ ∀ v H', Ex H H' → Rep.rep K (Nw F H H') v (f a b c d e g) → Q v H'
def sp8 (K : PySem.W.Frag) (pre : α → β → γ → δ → ε → ζ → η → θ → Prop) (f : α → β → γ → δ → ε → ζ → η → θ → ρ) : Sp := fun vs H Q _ => ∃ F a b c d e g h i, Ex F H ∧ Args K F vs [.is a, .is b, .is c, .is d, .is e, .is g, .is h, .is i] ∧ pre a b c d e g h i ∧ ∀ v H', Ex H H' → Rep.rep K (Nw F H H') v (f a b c d e g h i) → Q v H'
theorem sp_len6 {pre : α → β → γ → δ → ε → ζ → Prop} {f : α → β → γ → δ → ε → ζ → ρ} (vs : List V) (H : Hp) (Q : VK) (E : XK) (h : sp6 K pre f vs H Q E) : vs.length = 6 := by
  obtain ⟨F, a, b, c, d, e, g, _, h, _⟩ := h
  exact args_len h
theorem sp_len8 {pre : α → β → γ → δ → ε → ζ → η → θ → Prop} {f : α → β → γ → δ → ε → ζ → η → θ → ρ} (vs : List V) (H : Hp) (Q : VK) (E : XK) (h : sp8 K pre f vs H Q E) : vs.length = 8 := by
  obtain ⟨F, a, b, c, d, e, g, i, j, _, h, _⟩ := h
  exact args_len h
theorem ex_call5 {pre : α → β → γ → δ → ε → Prop} {f : α → β → γ → δ → ε → ρ} {E : XK} {a : α} {b : β} {c : γ} {d : δ} {e : ε} (h1 : EX K ta sp a) (h2 : EX K tb sp b) (h3 : EX K tc sp c) (h4 : EX K td sp d) (h5 : EX K te sp e) (hp : pre a b c d e) :
    EX K (tCall (sp5 K pre f) [] E (tCons ta (tCons tb (tCons tc (tCons td (tCons te tNil)))))) sp (f a b c d e) :=
  ex_callA (ea_cons h1 (ea_cons h2 (ea_cons h3 (ea_cons h4 (ea_cons h5 ea_nil))))) fun G vs H Q k rs z => ⟨G, a, b, c, d, e, k, by rw [List.append_nil]; exact rs, hp, z⟩
theorem ex_call6 {pre : α → β → γ → δ → ε → ζ → Prop} {f : α → β → γ → δ → ε → ζ → ρ} {E : XK} {a : α} {b : β} {c : γ} {d : δ} {e : ε} {g : ζ} (h1 : EX K ta sp a) (h2 : EX K tb sp b) (h3 : EX K tc sp c) (h4 : EX K td sp d) (h5 : EX K te sp e) (h6 : EX K tf sp g) (hp : pre a b c d e g) :
    EX K (tCall (sp6 K pre f) [] E (tCons ta (tCons tb (tCons tc (tCons td (tCons te (tCons tf tNil))))))) sp (f a b c d e g) :=
  ex_callA (ea_cons h1 (ea_cons h2 (ea_cons h3 (ea_cons h4 (ea_cons h5 (ea_cons h6 ea_nil)))))) fun G vs H Q k rs z => ⟨G, a, b, c, d, e, g, k, by rw [List.append_nil]; exact rs, hp, z⟩
theorem ex_call8 {pre : α → β → γ → δ → ε → ζ → η → θ → Prop} {f : α → β → γ → δ → ε → ζ → η → θ → ρ} {E : XK} {a : α} {b : β} {c : γ} {d : δ} {e : ε} {g : ζ} {i : η} {j : θ} (h1 : EX K ta sp a) (h2 : EX K tb sp b) (h3 : EX K tc sp c) (h4 : EX K td sp d) (h5 : EX K te sp e) (h6 : EX K tf sp g) (h7 : EX K tg sp i) (h8 : EX K th sp j) (hp : pre a b c d e g i j) :
    EX K (tCall (sp8 K pre f) [] E (tCons ta (tCons tb (tCons tc (tCons td (tCons te (tCons tf (tCons tg (tCons th tNil))))))))) sp (f a b c d e g i j) :=
  ex_callA (ea_cons h1 (ea_cons h2 (ea_cons h3 (ea_cons h4 (ea_cons h5 (ea_cons h6 (ea_cons h7 (ea_cons h8 ea_nil)))))))) fun G vs H Q k rs z => ⟨G, a, b, c, d, e, g, i, j, k, by rw [List.append_nil]; exact rs, hp, z⟩
theorem body6 {spf : α → β → γ → δ → ε → ζ → List Sl} {pre : α → β → γ → δ → ε → ζ → Prop} {f : α → β → γ → δ → ε → ζ → ρ} (h : sp6 K pre f vs H Q E) (hsp : ∀ (a : α) (b : β) (c : γ) (d : δ) (e : ε) (g : ζ), [Sl.is a, Sl.is b, Sl.is c, Sl.is d, Sl.is e, Sl.is g] ++ List.replicate (N.length - 6) Sl.no = spf a b c d e g)
    (k : ∀ F a b c d e g, pre a b c d e g → Rt K F H Q (f a b c d e g) → Go K F H F { nx := fun _ H' => Q .non H', rt := Q } t (spf a b c d e g)) : t { nx := fun _ H' => Q .non H', rt := Q } (L2.start N vs) H := by
  obtain ⟨F, a, b, c, d, e, g, e0, ha, hp, z⟩ := h
  exact body e0 ha (own_cons (own_cons (own_cons (own_cons (own_cons (own_cons own_nil)))))) (hsp a b c d e g) z (k F a b c d e g hp)
theorem body8 {spf : α → β → γ → δ → ε → ζ → η → θ → List Sl} {pre : α → β → γ → δ → ε → ζ → η → θ → Prop} {f : α → β → γ → δ → ε → ζ → η → θ → ρ} (h : sp8 K pre f vs H Q E)
    (hsp : ∀ (a : α) (b : β) (c : γ) (d : δ) (e : ε) (g : ζ) (i : η) (j : θ), [Sl.is a, Sl.is b, Sl.is c, Sl.is d, Sl.is e, Sl.is g, Sl.is i, Sl.is j] ++ List.replicate (N.length - 8) Sl.no = spf a b c d e g i j)
    (k : ∀ F a b c d e g i j, pre a b c d e g i j → Rt K F H Q (f a b c d e g i j) → Go K F H F { nx := fun _ H' => Q .non H', rt := Q } t (spf a b c d e g i j)) : t { nx := fun _ H' => Q .non H', rt := Q } (L2.start N vs) H := by
  obtain ⟨F, a, b, c, d, e, g, i, j, e0, ha, hp, z⟩ := h
  exact body e0 ha (own_cons (own_cons (own_cons (own_cons (own_cons (own_cons (own_cons (own_cons own_nil)))))))) (hsp a b c d e g i j) z (k F a b c d e g i j hp)
end
end LS
namespace LS
open PySem PySem.Spec PyProof.Rows L2 Evl
section
variable {K : PySem.W.Frag} {sp : List Sl} {ta tb tc td te tf tg th : TE} {N : List Str} {t : TS} {vs : List V} {H : Hp} {Q : VK} {E : XK}
variable {α β γ δ ε ζ η θ ρ : Type} [Rep α] [Rep β] [Rep γ] [Rep δ] [Rep ε] [Rep ζ] [Rep η] [Rep θ] [Rep ρ]
def sp4 (K : PySem.W.Frag) (pre : α → β → γ → δ → Prop) (f : α → β → γ → δ → ρ) : Sp := fun vs H Q _ => ∃ F a b c d, Ex F H ∧ Args K F vs [.is a, .is b, .is c, .is d] ∧ pre a b c d ∧ ∀ v H', Ex H H' → Rep.rep K (Nw F H H') v (f a b c d) → Q v H'
theorem sp_len4 {pre : α → β → γ → δ → Prop} {f : α → β → γ → δ → ρ} (vs : List V) (H : Hp) (Q : VK) (E : XK) (h : sp4 K pre f vs H Q E) : vs.length = 4 := by
  obtain ⟨F, a, b, c, d, _, h, _⟩ := h
  exact args_len h
theorem ex_call4 {pre : α → β → γ → δ → Prop} {f : α → β → γ → δ → ρ} {E : XK} {a : α} {b : β} {c : γ} {d : δ} (h1 : EX K ta sp a) (h2 : EX K tb sp b) (h3 : EX K tc sp c) (h4 : EX K td sp d) (hp : pre a b c d) :
    EX K (tCall (sp4 K pre f) [] E (tCons ta (tCons tb (tCons tc (tCons td tNil))))) sp (f a b c d) :=
  ex_callA (ea_cons h1 (ea_cons h2 (ea_cons h3 (ea_cons h4 ea_nil)))) fun G vs H Q k rs z => ⟨G, a, b, c, d, k, by rw [List.append_nil]; exact rs, hp, z⟩
theorem body4 {spf : α → β → γ → δ → List Sl} {pre : α → β → γ → δ → Prop} {f : α → β → γ → δ → ρ} (h : sp4 K pre f vs H Q E)
    (hsp : ∀ (a : α) (b : β) (c : γ) (d : δ), [Sl.is a, Sl.is b, Sl.is c, Sl.is d] ++ List.replicate (N.length - 4) Sl.no = spf a b c d)
    (k : ∀ F a b c d, pre a b c d → Rt K F H Q (f a b c d) → Go K F H F { nx := fun _ H' => Q .non H', rt := Q } t (spf a b c d)) : t { nx := fun _ H' => Q .non H', rt := Q } (L2.start N vs) H := by
  obtain ⟨F, a, b, c, d, e0, ha, hp, z⟩ := h
  exact body e0 ha (own_cons (own_cons (own_cons (own_cons own_nil)))) (hsp a b c d) z (k F a b c d hp)
def sp7 (K : PySem.W.Frag) (pre : α → β → γ → δ → ε → ζ → η → Prop) (f : α → β → γ → δ → ε → ζ → η → ρ) : Sp := fun vs H Q _ => ∃ F a b c d e g i, Ex F H ∧ Args K F vs [.is a, .is b, .is c, .is d, .is e, .is g, .is i] ∧ pre a b c d e g i ∧ ∀ v H', Ex H H' → Rep.rep K (Nw F H H') v (f a b c d e g i) → Q v H'
theorem sp_len7 {pre : α → β → γ → δ → ε → ζ → η → Prop} {f : α → β → γ → δ → ε → ζ → η → ρ} (vs : List V) (H : Hp) (Q : VK) (E : XK) (h : sp7 K pre f vs H Q E) : vs.length = 7 := by
  obtain ⟨F, a, b, c, d, e, g, i, _, h, _⟩ := h
  exact args_len h
theorem ex_call7 {pre : α → β → γ → δ → ε → ζ → η → Prop} {f : α → β → γ → δ → ε → ζ → η → ρ} {E : XK} {a : α} {b : β} {c : γ} {d : δ} {e : ε} {g : ζ} {i : η} (h1 : EX K ta sp a) (h2 : EX K tb sp b) (h3 : EX K tc sp c) (h4 : EX K td sp d) (h5 : EX K te sp e) (h6 : EX K tf sp g) (h7 : EX K tg sp i) (hp : pre a b c d e g i) :
    EX K (tCall (sp7 K pre f) [] E (tCons ta (tCons tb (tCons tc (tCons td (tCons te (tCons tf (tCons tg tNil)))))))) sp (f a b c d e g i) :=
  ex_callA (ea_cons h1 (ea_cons h2 (ea_cons h3 (ea_cons h4 (ea_cons h5 (ea_cons h6 (ea_cons h7 ea_nil))))))) fun G vs H Q k rs z => ⟨G, a, b, c, d, e, g, i, k, by rw [List.append_nil]; exact rs, hp, z⟩
theorem body7 {spf : α → β → γ → δ → ε → ζ → η → List Sl} {pre : α → β → γ → δ → ε → ζ → η → Prop} {f : α → β → γ → δ → ε → ζ → η → ρ} (h : sp7 K pre f vs H Q E)
    (hsp : ∀ (a : α) (b : β) (c : γ) (d : δ) (e : ε) (g : ζ) (i : η), [Sl.is a, Sl.is b, Sl.is c, Sl.is d, Sl.is e, Sl.is g, Sl.is i] ++ List.replicate (N.length - 7) Sl.no = spf a b c d e g i)
    (k : ∀ F a b c d e g i, pre a b c d e g i → Rt K F H Q (f a b c d e g i) → Go K F H F { nx := fun _ H' => Q .non H', rt := Q } t (spf a b c d e g i)) : t { nx := fun _ H' => Q .non H', rt := Q } (L2.start N vs) H := by
  obtain ⟨F, a, b, c, d, e, g, i, e0, ha, hp, z⟩ := h
  exact body e0 ha (own_cons (own_cons (own_cons (own_cons (own_cons (own_cons (own_cons own_nil))))))) (hsp a b c d e g i) z (k F a b c d e g i hp)
end
section
variable {K : PySem.W.Frag} {F0 H0 B : Hp} {sp : List Sl} {D : Ends} {ta tb te td ty tx tv : TE} {tw : TS}
theorem s_dict1 {i : Nat} {ns ms : List Int} (h1 : EX K ta sp ns) (h2 : EX K tb sp ms) (hi : i < sp.length)
    (k : Go K F0 H0 B D tw (sp.set i (.is (Dct.mk (dmerge [] (ns.zip ms)))))) :
    Go K F0 H0 B D (tSeq (tAsg (tDZ K (tCons ta (tCons tb tNil))) (gName i)) tw) sp := fun σ H s => by
  obtain ⟨F, x⟩ := s
  refine h1 F σ x.sl H x.at_.in_ _ fun v1 H2 e2 r1 => h2 F σ x.sl H2 (x.at_.in_.trans e2) _ fun v2 H3 e3 r2 => ?_
  obtain ⟨a, vs, rfl, ha, hav⟩ := rep_l r1
  obtain ⟨b, ws, rfl, hb, hbv⟩ := rep_l r2
  rw [ints_l hav] at ha
  rw [ints_l hbv] at hb
  have eF2 : Ex (Nw F H H2) H2 := nw_in x.at_.in_ e2
  refine ⟨a, b, ns, ms, rfl, sq_of (e3 a _ (eF2 a _ ha)), sq_of (nw_in (x.at_.in_.trans e2) e3 b _ hb), fun l hl => ?_⟩
  have e4 : Ex H3 (upd H3 l (.dK (dK (dmerge [] (ns.zip ms))))) := Ex.new hl
  have e04 : Ex H (upd H3 l (.dK (dK (dmerge [] (ns.zip ms))))) := (e2.trans e3).trans e4
  have hlH : H l = none := ex_none (e2.trans e3) hl
  refine k _ _ ⟨_, (x.grow e04).is i (a := Dct.mk (dmerge [] (ns.zip ms))) ⟨l, rfl, ?_⟩⟩
  rw [nw_new (ex_none x.at_.in_ hlH) hlH, upd_same]
end
end LS
namespace LS
open PySem PySem.Spec PyProof.Rows L2 Evl
/-- a list of draws -/
def Dr (H : Hp) (d : Addr) : Prop := ∃ xs : List Int, H d = some (.lst (xs.map V.int)) ∧ ∀ x ∈ xs, 0 ≤ x ∧ x < 32768
abbrev DrD (H : Hp) (d : Option Addr) : Prop := ∀ a, d = some a → Dr H a
abbrev Nod (F : Hp) (d : Option Addr) : Prop := ∀ a, d = some a → F a = none
abbrev Sld (σ : L2.St) (j : Nat) (d : Option Addr) : Prop := ∀ a, d = some a → σ[j]? = some (some (.ref a))
/-- all but the draws, if there are any, stays -/
structure Exd (d : Option Addr) (H H' : Hp) : Prop where
  keep : ∀ p o, d ≠ some p → H p = some o → H' p = some o
  dr : DrD H' d
section
variable {d : Option Addr} {F G H H1 H2 H3 : Hp}
theorem Exd.of (e : Ex H H1) (h : DrD H d) : Exd d H H1 := ⟨fun p o _ q => e p o q, fun a ha => by
  obtain ⟨xs, h1, h2⟩ := h a ha
  exact ⟨xs, e a _ h1, h2⟩⟩
theorem Exd.trans (a : Exd d H H1) (b : Exd d H1 H2) : Exd d H H2 := ⟨fun p o n q => b.keep p o n (a.keep p o n q), b.dr⟩
theorem Exd.fr (a : Exd d H H1) (e : Ex F H) (h : Nod F d) : Ex F H1 := fun p o q => by
  have ne : d ≠ some p := fun z => by
    rw [h p z] at q
    cases q
  exact a.keep p o ne (e p o q)
theorem Exd.none (a : Exd d H H1) {p : Addr} (h : H1 p = none) : H p = none := by
  cases q : H p with
  | none => rfl
  | some o =>
    by_cases z : d = some p
    · obtain ⟨xs, h1, _⟩ := a.dr p z
      rw [h1] at h
      cases h
    · rw [a.keep p o z q] at h
      cases h
theorem dr_some {a : Addr} (h : Dr H a) : ∃ o, H a = some o := by
  obtain ⟨xs, h1, _⟩ := h
  exact ⟨_, h1⟩
theorem nwd_d (h : Nod F d) (hd : DrD H d) : Nod (Nw F H H1) d := fun a ha => by
  obtain ⟨o, ho⟩ := dr_some (hd a ha)
  exact nw_old (h a ha) ho
theorem nwd_in (e : Ex F H) (h : Nod F d) (hd : DrD H d) (a : Exd d H H1) : Ex (Nw F H H1) H1 := fun p o q => by
  cases q1 : F p with
  | some u =>
    rw [nw_some q1] at q
    rw [← q]
    exact a.fr e h p u q1
  | none =>
    cases q2 : H p with
    | some u =>
      rw [nw_old q1 q2] at q
      cases q
    | none =>
      rw [nw_new q1 q2] at q
      exact q
theorem nwd_to (h : Nod F d) (hd : DrD H d) (a : Exd d H1 H2) : Ex (Nw F H H1) (Nw F H H2) := fun p o q => by
  cases q1 : F p with
  | some u =>
    rw [nw_some q1] at q ⊢
    exact q
  | none =>
    cases q2 : H p with
    | some u =>
      rw [nw_old q1 q2] at q
      cases q
    | none =>
      rw [nw_new q1 q2] at q ⊢
      have ne : d ≠ some p := fun z => by
        obtain ⟨o, ho⟩ := dr_some (hd p z)
        rw [ho] at q2
        cases q2
      exact a.keep p o ne q
/-- a frame within the new part, then what is new since -/
theorem nwd_base (e1 : Ex F H1) (h : Nod F d) (hd : DrD H1 d) (e2 : Exd d H1 H2) (e3 : Exd d H2 H3) (g : Ex G (Nw F H1 H2)) : Ex (Nw G H2 H3) (Nw F H1 H3) := fun p o q => by
  cases q1 : G p with
  | some u =>
    rw [nw_some q1] at q
    rw [← q]
    exact nwd_to h hd e3 p u (g p u q1)
  | none =>
    cases q2 : H2 p with
    | some u =>
      rw [nw_old q1 q2] at q
      cases q
    | none =>
      rw [nw_new q1 q2] at q
      have h1 := e2.none q2
      rw [nw_new (ex_none e1 h1) h1]
      exact q
end
/-- reads to some value with P; the draws, named by slot j, may go on -/
def EXd {α : Type} [Rep α] (K : PySem.W.Frag) (d : Option Addr) (j : Nat) (te : TE) (sp : List Sl) (P : α → Prop) : Prop :=
  ∀ F σ, Slots K F σ sp → Nod F d → Sld σ j d → ∀ H1, Ex F H1 → DrD H1 d → ∀ Q : VK, (∀ a v H2, P a → Exd d H1 H2 → Rep.rep K (Nw F H1 H2) v a → Q v H2) → te σ H1 Q
def ETd (K : PySem.W.Frag) (d : Option Addr) (j : Nat) (tt : TT) (sp : List Sl) (P : Bool → Prop) : Prop :=
  ∀ F σ, Slots K F σ sp → Nod F d → Sld σ j d → ∀ H1, Ex F H1 → DrD H1 d → ∀ Q : Bool → Hp → Prop, (∀ b H2, P b → Exd d H1 H2 → Q b H2) → tt σ H1 Q
def EAd (K : PySem.W.Frag) (d : Option Addr) (j : Nat) (ta : TA) (sp : List Sl) (P : List Sl → Prop) : Prop :=
  ∀ F σ, Slots K F σ sp → Nod F d → Sld σ j d → ∀ H1, Ex F H1 → DrD H1 d → ∀ Q : List V → Hp → Prop, (∀ as vs H2, P as → Exd d H1 H2 → Args K (Nw F H1 H2) vs as → Q vs H2) → ta σ H1 Q
section
variable {K : PySem.W.Frag} {d : Option Addr} {j : Nat} {sp : List Sl} {ta tb te : TE} {tr : TA} {t u : TT}
variable {α β γ δ : Type} [Rep α] [Rep β] [Rep γ] [Rep δ]
theorem exd_of {a : α} (h : EX K te sp a) : EXd K d j te sp (fun x => x = a) := fun F σ hs hd hj H1 e1 dr Q q => h F σ hs H1 e1 _ fun v H2 e2 r => q a v H2 rfl (Exd.of e2 dr) r
theorem exd_imp {P P' : α → Prop} (h : EXd K d j te sp P) (i : ∀ a, P a → P' a) : EXd K d j te sp P' := fun F σ hs hd hj H1 e1 dr Q q => h F σ hs hd hj H1 e1 dr _ fun a v H2 p => q a v H2 (i a p)
theorem exd_rI {C : Int → Int → Prop} {g : Int → Int → V} {f : Int → Int → γ} {P Q : Int → Prop} (hg : ∀ i j (G : Hp), Rep.rep K G (g i j) (f i j)) (h1 : EXd K d j ta sp P) (h2 : EXd K d j tb sp Q) (hc : ∀ x y, P x → Q y → C x y) :
    EXd K d j (tOp (rI C g) ta tb) sp (fun r => ∃ x y, P x ∧ Q y ∧ r = f x y) := fun F σ hs hd hj H1 e1 dr R q => h1 F σ hs hd hj H1 e1 dr _ fun a v H2 pa e2 r => h2 F σ hs hd hj H2 (e2.fr e1 hd) e2.dr _ fun b w H3 pb e3 r2 =>
  ⟨a, b, rep_int r, rep_int r2, hc a b pa pb, q _ _ H3 ⟨a, b, pa, pb, rfl⟩ (e2.trans e3) (hg a b _)⟩
theorem exd_rI0 {g : Int → Int → V} {f : Int → Int → γ} {P Q : Int → Prop} (hg : ∀ i j (G : Hp), Rep.rep K G (g i j) (f i j)) (h1 : EXd K d j ta sp P) (h2 : EXd K d j tb sp Q) :
    EXd K d j (tOp (rI0 g) ta tb) sp (fun r => ∃ x y, P x ∧ Q y ∧ r = f x y) := fun F σ hs hd hj H1 e1 dr R q => h1 F σ hs hd hj H1 e1 dr _ fun a v H2 pa e2 r => h2 F σ hs hd hj H2 (e2.fr e1 hd) e2.dr _ fun b w H3 pb e3 r2 =>
  ⟨a, b, rep_int r, rep_int r2, q _ _ H3 ⟨a, b, pa, pb, rfl⟩ (e2.trans e3) (hg a b _)⟩
theorem exd_add {P Q : Int → Prop} (h1 : EXd K d j ta sp P) (h2 : EXd K d j tb sp Q) : EXd K d j (tOp (rI0 fun i j => .int (i + j)) ta tb) sp (fun r : Int => ∃ x y, P x ∧ Q y ∧ r = x + y) := exd_rI0 (f := fun i j => i + j) (fun _ _ _ => rfl) h1 h2
theorem exd_sub {P Q : Int → Prop} (h1 : EXd K d j ta sp P) (h2 : EXd K d j tb sp Q) : EXd K d j (tOp (rI0 fun i j => .int (i - j)) ta tb) sp (fun r : Int => ∃ x y, P x ∧ Q y ∧ r = x - y) := exd_rI0 (f := fun i j => i - j) (fun _ _ _ => rfl) h1 h2
theorem exd_mod {P Q : Int → Prop} (h1 : EXd K d j ta sp P) (h2 : EXd K d j tb sp Q) (hc : ∀ y, Q y → 0 < y) : EXd K d j (tOp (rI (fun _ j => 0 < j) fun i j => .int (i % j)) ta tb) sp (fun r : Int => ∃ x y, P x ∧ Q y ∧ r = x % y) :=
  exd_rI (f := fun i j => i % j) (fun _ _ _ => rfl) h1 h2 fun _ y _ q => hc y q
theorem exd_ge {P Q : Int → Prop} (h1 : EXd K d j ta sp P) (h2 : EXd K d j tb sp Q) : EXd K d j (tOp (rI0 fun i j => .bl (decide (j ≤ i))) ta tb) sp (fun r : Bool => ∃ x y, P x ∧ Q y ∧ r = decide (y ≤ x)) := exd_rI0 (f := fun i j => decide (j ≤ i)) (fun _ _ _ => rfl) h1 h2
theorem exd_eq {P Q : Int → Prop} (h1 : EXd K d j ta sp P) (h2 : EXd K d j tb sp Q) : EXd K d j (tOp rEq ta tb) sp (fun r : Bool => ∃ x y, P x ∧ Q y ∧ r = decide (x = y)) :=
  fun F σ hs hd hj H1 e1 dr R q => h1 F σ hs hd hj H1 e1 dr _ fun a v H2 pa e2 r => h2 F σ hs hd hj H2 (e2.fr e1 hd) e2.dr _ fun b w H3 pb e3 r2 => by
  have k := q (decide (a = b)) (.bl (decide (a = b))) H3 ⟨a, b, pa, pb, rfl⟩ (e2.trans e3) rfl
  cases rep_int r
  cases rep_int r2
  have z : EX K (tOp rEq (tC (.int a)) (tC (.int b))) [] (decide (a = b)) := ex_eq ex_ci ex_ci
  exact z (fun _ => none) [] .nil H3 (fun _ _ h => nomatch h) (fun v H => R v H) fun v H4 e4 r4 => by
    cases rep_bl r4
    exact q _ _ H4 ⟨a, b, pa, pb, rfl⟩ ((e2.trans e3).trans (Exd.of e4 (e2.trans e3).dr)) rfl
theorem etd_test {P : Bool → Prop} (h : EXd K d j te sp P) : ETd K d j (tTest te) sp P := fun F σ hs hd hj H1 e1 dr Q q => h F σ hs hd hj H1 e1 dr _ fun b v H2 p e r => ⟨b, rep_bl r, q b H2 p e⟩
theorem etd_of {b : Bool} (h : ET K t sp b) : ETd K d j t sp (fun x => x = b) := fun F σ hs hd hj H1 e1 dr Q q => h F σ hs H1 e1 _ fun H2 e2 => q b H2 rfl (Exd.of e2 dr)
theorem ead_nil : EAd K d j tNil sp (fun as => as = []) := fun F σ hs hd hj H1 e1 dr Q q => q [] [] H1 rfl ⟨fun _ _ _ z => z, dr⟩ .nil
theorem ead_cons {P : α → Prop} {R : List Sl → Prop} (h1 : EXd K d j ta sp P) (h2 : EAd K d j tr sp R) : EAd K d j (tCons ta tr) sp (fun as => ∃ a r, P a ∧ R r ∧ as = .is a :: r) :=
  fun F σ hs hd hj H1 e1 dr Q q => h1 F σ hs hd hj H1 e1 dr _ fun a v H2 pa e2 r => h2 F σ hs hd hj H2 (e2.fr e1 hd) e2.dr _ fun as vs H3 pas e3 rs =>
    q (.is a :: as) (v :: vs) H3 ⟨a, as, pa, pas, rfl⟩ (e2.trans e3) (.cons ⟨v, rfl, Rep.mono (nwd_to hd dr e3) r⟩ (args_mono (nwd_base e1 hd dr e2 e3 nw_f) rs))
/-- the promise of a def that draws: its first argument is the draws -/
def spR {ι : Type} (K : PySem.W.Frag) (sq : ι → List Sl) (pre : ι → Prop) (post : ι → δ → Prop) : Sp := fun vs H Q _ => ∃ F d us i, vs = .ref d :: us ∧ F d = none ∧ Dr H d ∧ Ex F H ∧ Args K F us (sq i) ∧ pre i ∧ ∀ r v H', post i r → Exd (some d) H H' → Rep.rep K (Nw F H H') v r → Q v H'
theorem exd_call {ι : Type} {sq : ι → List Sl} {pre : ι → Prop} {post : ι → δ → Prop} {E : XK} {R : List Sl → Prop} {P : δ → Prop} {a : Addr} (h : EAd K (some a) j tr sp R) (hR : ∀ as, R as → ∃ i, as = sq i ∧ pre i ∧ ∀ r, post i r → P r) :
    EXd K (some a) j (tCall (spR K sq pre post) [] E (tCons (tVar j) tr)) sp P := fun F σ hs hd hj H1 e1 dr Q q => by
  refine ⟨.ref a, hj a rfl, h F σ hs hd hj H1 e1 dr _ fun as vs H2 pas e2 rs => ?_⟩
  obtain ⟨i, rfl, hp, hq⟩ := hR as pas
  refine ⟨Nw F H1 H2, a, vs, i, by rw [List.append_nil], nwd_d hd dr a rfl, e2.dr a rfl, nwd_in e1 hd dr e2, rs, hp, fun r v H3 pr e3 rr => ?_⟩
  exact q r v H3 (hq r pr) (e2.trans e3) (Rep.mono (nwd_base e1 hd dr e2 e3 (Ex.refl _)) rr)
/-- the promise of a def that doesn't -/
theorem exd_callP {ι : Type} {sq : ι → List Sl} {s : Sp} {res : ι → δ} {pre : ι → Prop} {E : XK} {R : List Sl → Prop} {P : δ → Prop} (hs0 : ∀ i (F : Hp) vs H (Q : VK), Ex F H → Args K F vs (sq i) → pre i → (∀ v H', Ex H H' → Rep.rep K (Nw F H H') v (res i) → Q v H') → s vs H Q E)
    (h : EAd K d j tr sp R) (hR : ∀ as, R as → ∃ i, as = sq i ∧ pre i ∧ P (res i)) : EXd K d j (tCall s [] E tr) sp P := fun F σ hs hd hj H1 e1 dr Q q =>
  h F σ hs hd hj H1 e1 dr _ fun as vs H2 pas e2 rs => by
  obtain ⟨i, rfl, hp, hq⟩ := hR as pas
  refine hs0 i (Nw F H1 H2) _ H2 _ (nwd_in e1 hd dr e2) (by rw [List.append_nil]; exact rs) hp fun v H3 e3 rr => ?_
  have e3d := Exd.of e3 e2.dr
  exact q _ v H3 hq (e2.trans e3d) (Rep.mono (nwd_base e1 hd dr e2 e3d (Ex.refl _)) rr)
end
end LS
namespace LS
open PySem PySem.Spec PyProof.Rows L2 Evl
/-- a grid that nobody else holds: its list, its rows -/
structure Gr (H : Hp) (l : Addr) (ps : List Addr) (g : List (List Int)) : Prop where
  top : H l = some (.lst (ps.map V.ref))
  rows : Pz (fun p (r : List Int) => H p = some (.lst (r.map V.int))) ps g
  nd : (l :: ps).Nodup
/-- which grid is held: by the slot k, or none -/
inductive Og where
  | no
  | at_ (k : Nat) (g : List (List Int))
structure OgAt (H0 F H : Hp) (d : Option Addr) (σ : L2.St) (k : Nat) (g : List (List Int)) (l : Addr) (ps : List Addr) : Prop where
  gk : σ[k]? = some (some (.ref l))
  gr : Gr H l ps g
  new : ∀ p ∈ l :: ps, H0 p = none ∧ F p = none
def OgOk (H0 F H : Hp) (d : Option Addr) (σ : L2.St) : Og → Prop
  | .no => True
  | .at_ k g => ∃ l ps, OgAt H0 F H d σ k g l ps
structure Bx (K : PySem.W.Frag) (F0 H0 B : Hp) (d : Option Addr) (j : Nat) (sp : List Sl) (og : Og) (σ : L2.St) (H F : Hp) : Prop where
  fl : Ex B F
  b : Ex F0 H0
  e : Exd d H0 H
  f : Ex F (Nw F0 H0 H)
  f0 : Nod F0 d
  d0 : DrD H0 d
  sl : Slots K F σ sp
  dj : Sld σ j d
  og : OgOk H0 F H d σ og
def Bs (K : PySem.W.Frag) (F0 H0 B : Hp) (d : Option Addr) (j : Nat) (sp : List Sl) (og : Og) (σ : L2.St) (H : Hp) : Prop := ∃ F, Bx K F0 H0 B d j sp og σ H F
def BGo (K : PySem.W.Frag) (F0 H0 B : Hp) (d : Option Addr) (j : Nat) (D : Ends) (t : TS) (sp : List Sl) (og : Og) : Prop := ∀ σ H, Bs K F0 H0 B d j sp og σ H → t D σ H
section
variable {K : PySem.W.Frag} {F0 H0 B : Hp} {d : Option Addr} {j : Nat} {sp : List Sl} {og : Og} {D : Ends} {ta tb te tx ty : TE} {t : TT} {tu tw tz : TS}
variable {α β γ δ : Type} [Rep α] [Rep β] [Rep γ] [Rep δ]
section
variable {σ : L2.St} {H F H2 : Hp}
theorem Bx.in_ (x : Bx K F0 H0 B d j sp og σ H F) : Ex F H := x.f.trans (nwd_in x.b x.f0 x.d0 x.e)
theorem Bx.nod (x : Bx K F0 H0 B d j sp og σ H F) : Nod F d := fun a ha => by
  cases q : F a with
  | none => rfl
  | some o =>
    have := x.f a o q
    rw [nwd_d x.f0 x.d0 a ha] at this
    cases this
theorem gr_keep {l : Addr} {ps : List Addr} {g : List (List Int)} (h : Gr H l ps g) (k : ∀ p ∈ l :: ps, ∀ o, H p = some o → H2 p = some o) : Gr H2 l ps g := by
  refine ⟨k l List.mem_cons_self _ h.top, ?_, h.nd⟩
  have hr := h.rows
  have k2 : ∀ p ∈ ps, ∀ o, H p = some o → H2 p = some o := fun p hp => k p (List.mem_cons_of_mem _ hp)
  clear k
  generalize g = g' at hr
  clear h
  induction hr with
  | nil => exact .nil
  | cons r t ih => exact .cons (k2 _ List.mem_cons_self _ r) (ih fun p hp => k2 p (List.mem_cons_of_mem _ hp))
theorem gr_some {l : Addr} {ps : List Addr} {g : List (List Int)} (h : Gr H l ps g) : ∀ p ∈ l :: ps, ∃ o, H p = some o := fun p hp => by
  rcases List.mem_cons.mp
        hp with e | e
  · exact ⟨_, e ▸ h.top⟩
  · obtain ⟨r, _, q⟩ := pr_mem h.rows p e
    exact ⟨_, q⟩
theorem Bx.grow (x : Bx K F0 H0 B d j sp og σ H F) (e : Exd d H H2) : Bx K F0 H0 B d j sp og σ H2 (Nw F H H2) := by
  refine ⟨x.fl.trans nw_f, x.b, x.e.trans e, nwd_base x.b x.f0 x.d0 x.e e x.f, x.f0, x.d0, slots_mono nw_f x.sl, x.dj, ?_⟩
  have ho := x.og
  match og, ho with
  | .no, _ => exact True.intro
  | .at_ k g, ⟨l, ps, h⟩ =>
    refine ⟨l, ps, h.gk, gr_keep h.gr fun p hp o q => e.keep p o (fun z => ?_) q, fun p hp => ⟨(h.new p hp).1, ?_⟩⟩
    · obtain ⟨o2, ho2⟩ := dr_some (x.d0 p z)
      rw [(h.new p hp).1] at ho2
      cases ho2
    · obtain ⟨o, q⟩ := gr_some h.gr p hp
      exact nw_old (h.new p hp).2 q
theorem Bx.is {i : Nat} {a : α} {v : V} (x : Bx K F0 H0 B d j sp og σ H F) (r : Rep.rep K F v a) (hij : ∀ z, d = some z → i ≠ j) (hik : ∀ k g, og = .at_ k g → i ≠ k) : Bx K F0 H0 B d j (sp.set i (.is a)) og (σ.set i (some v)) H F := by
  refine ⟨x.fl, x.b, x.e, x.f, x.f0, x.d0, slots_set i x.sl r, fun z hz => ?_, ?_⟩
  · rw [List.getElem?_set_ne (hij z hz)]
    exact x.dj z hz
  · have ho := x.og
    match og, ho, hik with
    | .no, _, _ => exact True.intro
    | .at_ k g, ⟨l, ps, h⟩, hik => exact ⟨l, ps, by rw [List.getElem?_set_ne (hik k g rfl)]; exact h.gk, h.gr, h.new⟩
end
abbrev Apart (d : Option Addr) (j i : Nat) (og : Og) : Prop := (∀ z, d = some z → i ≠ j) ∧ ∀ k g, og = .at_ k g → i ≠ k
theorem bs_weak {σ : L2.St} {H : Hp} {sq : List Sl} (h : Bs K F0 H0 B d j sp og σ H) (w : Pz weakS sp sq) : Bs K F0 H0 B d j sq og σ H := by
  obtain ⟨F, x⟩ := h
  refine ⟨F, x.fl, x.b, x.e, x.f, x.f0, x.d0, ?_, x.dj, x.og⟩
  have sl := x.sl
  clear x
  generalize (σ : List (Option V)) = τ at sl
  induction sl generalizing sq with
  | nil =>
    cases w
    exact .nil
  | cons r t ih =>
    cases w with
    | cons r2 t2 =>
      refine .cons ?_ (ih t2)
      rcases r2 with rfl | rfl
      · exact r
      · exact True.intro
theorem b_asg {i : Nat} {P : α → Prop} (h : EXd K d j te sp P) (ap : Apart d j i og) (k : ∀ a, P a → BGo K F0 H0 B d j D tw (sp.set i (.is a)) og) : BGo K F0 H0 B d j D (tSeq (tAsg te (gName i)) tw) sp og := fun σ H s => by
  obtain ⟨F, x⟩ := s
  exact h F σ x.sl x.nod x.dj H x.in_ x.e.dr _ fun a v H2 p e r => k a p _ H2 ⟨_, (x.grow e).is r ap.1 ap.2⟩
/-- the last statement of a block -/
theorem b_asgL {i : Nat} {P : α → Prop} (h : EXd K d j te sp P) (ap : Apart d j i og) (k : ∀ a, P a → ∀ σ H, Bs K F0 H0 B d j (sp.set i (.is a)) og σ H → D.nx σ H) : BGo K F0 H0 B d j D (tAsg te (gName i)) sp og := fun σ H s => by
  obtain ⟨F, x⟩ := s
  exact h F σ x.sl x.nod x.dj H x.in_ x.e.dr _ fun a v H2 p e r => k a p _ H2 ⟨_, (x.grow e).is r ap.1 ap.2⟩
theorem b_if {P : Bool → Prop} (h : ETd K d j t sp P) (h1 : P true → BGo K F0 H0 B d j D tu sp og) (h2 : P false → BGo K F0 H0 B d j D tz sp og) : BGo K F0 H0 B d j D (tIfS t tu tz) sp og := fun σ H s => by
  obtain ⟨F, x⟩ := s
  refine h F σ x.sl x.nod x.dj H x.in_ x.e.dr _ fun b H2 p e => ?_
  cases b with
  | true =>
    rw [if_pos rfl]
    exact h1 p σ H2 ⟨_, x.grow e⟩
  | false =>
    rw [if_neg
          Bool.false_ne_true]
    exact h2 p σ H2 ⟨_, x.grow e⟩
theorem b_seq (h : BGo K F0 H0 B d j { D with nx := tw D } tu sp og) : BGo K F0 H0 B d j D (tSeq tu tw) sp og := h
theorem b_ret {r : δ → Prop} {P : δ → Prop} (h : EXd K d j te sp P) (k : ∀ a, P a → ∀ v H', Exd d H0 H' → Rep.rep K (Nw F0 H0 H') v a → D.rt v H') : BGo K F0 H0 B d j D (tRet te) sp og := fun σ H s => by
  obtain ⟨F, x⟩ := s
  exact h F σ x.sl x.nod x.dj H x.in_ x.e.dr _ fun a v H2 p e r => k a p v H2 (x.e.trans e) (Rep.mono (nwd_base x.b x.f0 x.d0 x.e e x.f) r)
theorem gr_rep {H : Hp} {l : Addr} {ps : List Addr} {g : List (List Int)} (h : Gr H l ps g) {G : Hp} (k : ∀ p ∈ l :: ps, G p = H p) : Rep.rep K G (.ref l) g := by
  refine ⟨l, ps.map V.ref, rfl, by rw [k l List.mem_cons_self]; exact h.top, ?_⟩
  have hr := h.rows
  have k2 : ∀ p ∈ ps, G p = H p := fun p hp => k p (List.mem_cons_of_mem _ hp)
  clear k
  generalize g = g' at hr ⊢
  clear h
  induction hr with
  | nil => exact .nil
  | cons r t ih => exact .cons ⟨_, _, rfl, by rw [k2 _ List.mem_cons_self]; exact r, pr_ints _⟩ (ih fun p hp => k2 p (List.mem_cons_of_mem _ hp))
/-- return of the grid -/
theorem b_retG {k : Nat} {g : List (List Int)} (q : ∀ v H', Exd d H0 H' → Rep.rep K (Nw F0 H0 H') v g → D.rt v H') : BGo K F0 H0 B d j D (tRet (tVar k)) sp (.at_ k g) := fun σ H s => by
  obtain ⟨F, x⟩ := s
  obtain ⟨l, ps, h⟩ := x.og
  refine ⟨_, h.gk, q _ H x.e (gr_rep h.gr fun p hp => ?_)⟩
  have h0 := (h.new p hp).1
  exact nw_new (ex_none x.b h0) h0
theorem rows_at {H : Hp} : ∀ {ps : List Addr} {g : List (List Int)} {i : Nat} {r : List Int}, Pz (fun p (r : List Int) => H p = some (.lst (r.map V.int))) ps g → g[i]? = some r → ∃ p, ps[i]? = some p ∧ H p = some (.lst (r.map V.int)) := fun h e => pr_get h e
theorem rows_off {H : Hp} {q : Addr} {o : HO} {ps : List Addr} {g : List (List Int)} (h : Pz (fun p (r : List Int) => H p = some (.lst (r.map V.int))) ps g) : q ∉ ps → Pz (fun p (r : List Int) => upd H q o p = some (.lst (r.map V.int))) ps g := by
  induction h with
  | nil => exact fun _ => .nil
  | cons r t ih => exact fun hn => .cons (by rw [upd_ne fun z => hn (by rw [← z]; exact List.mem_cons_self)]; exact r) (ih fun z => hn (List.mem_cons_of_mem _ z))
theorem rows_set {H : Hp} {q : Addr} {w : List Int} {ps : List Addr} {g : List (List Int)} (h : Pz (fun p (r : List Int) => H p = some (.lst (r.map V.int))) ps g) : ∀ i : Nat, ps.Nodup → ps[i]? = some q → Pz (fun p (r : List Int) => upd H q (.lst (w.map V.int)) p = some (.lst (r.map V.int))) ps (g.set i w) := by
  induction h with
  | nil =>
    intro i nd e
    simp at e
  | cons r t ih =>
    intro i nd e
    obtain ⟨hn, nd2⟩ := List.nodup_cons.mp nd
    cases i with
    | zero =>
      simp only [List.getElem?_cons_zero,
            Option.some.injEq] at e
      subst e
      exact .cons (by rw [upd_same]) (rows_off t hn)
    | succ i =>
      simp only [List.getElem?_cons_succ] at e
      refine .cons ?_ (ih i nd2 e)
      rw [upd_ne fun z => hn (by rw [z]; exact List.mem_of_getElem? e)]
      exact r
/-- grid[x][y] = e -/
theorem b_set {k : Nat} {g : List (List Int)} {P : Int → Prop} {a b : Int} (hv : EXd K d j te sp P) (hx : EX K tx sp a) (hy : EX K ty sp b) (ha : 0 ≤ a ∧ a < g.length) (hb : 0 ≤ b ∧ b < ((g.getD a.toNat default).length : Int))
    (q : ∀ v, P v → ∀ σ H, Bs K F0 H0 B d j sp (.at_ k (g.set a.toNat ((g.getD a.toNat default).set b.toNat v))) σ H → D.nx σ H) :
    BGo K F0 H0 B d j D (tAsg te (gSub (tOp (rIxL K) (tVar k) tx) ty rSetL)) sp (.at_ k g) := fun σ H s => by
  obtain ⟨F, x⟩ := s
  refine hv F σ x.sl x.nod x.dj H x.in_ x.e.dr _ fun v w H2 p e r => ?_
  cases rep_int r
  have y := x.grow e
  obtain ⟨l, ps, h⟩ := y.og
  refine ⟨.ref l, h.gk, hx _ σ y.sl H2 y.in_ _ fun vx H3 e3 rx => ?_⟩
  cases rep_int rx
  have z := y.grow (Exd.of e3 y.e.dr)
  obtain ⟨l', ps', h'⟩ := z.og
  have el : l' = l := by
    have := h'.gk.symm.trans h.gk
    injection this with this
    injection this with this
    injection this
  subst el
  have hr : g[a.toNat]? = some (g.getD a.toNat default) := by
    rw [List.getD_eq_getElem?_getD, List.getElem?_eq_getElem (show a.toNat < g.length by omega)]
    rfl
  obtain ⟨pr, hp1, hp2⟩ := rows_at h'.gr.rows hr
  refine ⟨l', ps'.map V.ref, a, .ref pr, rfl, rfl, sq_of h'.gr.top, ?_, hy _ σ z.sl H3 z.in_ _ fun vy H4 e4 ry => ?_⟩
  · have z := atI_nat (xs := ps'.map V.ref) (j := a.toNat) (v := .ref pr) (by rw [List.getElem?_map, hp1]; rfl)
    rw [Int.toNat_of_nonneg ha.1] at z
    exact z
  cases rep_int ry
  have u := z.grow (Exd.of e4 z.e.dr)
  have hp4 := e4 pr _ hp2
  have gr4 := gr_keep h'.gr fun p _ o q => e4 p o q
  have hm : pr ∈ l' :: ps' := List.mem_cons_of_mem _ (List.mem_of_getElem? hp1)
  refine ⟨pr, (g.getD a.toNat default).map V.int, b, b.toNat, rfl, rfl, hp4, (by have z := ixN_nat (n := ((g.getD a.toNat default).map V.int).length) (j := b.toNat) (by rw [List.length_map]; omega); rw [Int.toNat_of_nonneg hb.1] at z; exact z), ?_⟩
  have nd := h'.gr.nd
  obtain ⟨nd1, nd2⟩ := List.nodup_cons.mp nd
  have hnew := h'.new pr hm
  have e5 : Exd d H0 (upd H4 pr (.lst (((g.getD a.toNat default).map V.int).set b.toNat (.int v)))) := ⟨fun p o n hq => by
    have ne : p ≠ pr := fun w => by
      rw [w, hnew.1] at hq
      cases hq
    rw [upd_ne ne]
    exact u.e.keep p o n hq, fun c hc => by
    obtain ⟨xs, q1, q2⟩ := u.e.dr c hc
    have ne : c ≠ pr := fun w => by
      obtain ⟨o, ho⟩ := dr_some (x.d0 c hc)
      rw [w, hnew.1] at ho
      cases ho
    exact ⟨xs, by rw [upd_ne ne]; exact q1, q2⟩⟩
  refine q v p σ _ ⟨Nw (Nw (Nw F H H2) H2 H3) H3 H4, u.fl, u.b, e5, fun p o hq => ?_, u.f0, u.d0, u.sl, u.dj, l', ps', ?_, ⟨?_, ?_, nd⟩, ?_⟩
  · have hF : Nw (Nw (Nw F H H2) H2 H3) H3 H4 pr = none := nw_old hnew.2 hp2
    have ne : p ≠ pr := fun w => by
      rw [w, hF] at hq
      cases hq
    have q1 := u.f p o hq
    cases q0 : F0 p with
    | some c =>
      rw [nw_some q0] at q1 ⊢
      exact q1
    | none =>
      cases q2 : H0 p with
      | some c =>
        rw [nw_old q0 q2] at q1
        cases q1
      | none =>
        rw [nw_new q0 q2] at q1 ⊢
        rw [upd_ne ne]
        exact q1
  · exact h'.gk
  · rw [upd_ne fun w => nd1 (by rw [w]; exact List.mem_of_getElem? hp1)]
    exact gr4.top
  · have := rows_set (w := (g.getD a.toNat default).set b.toNat v) gr4.rows a.toNat nd2 hp1
    rw [List.map_set] at this
    exact this
  · intro p hp
    obtain ⟨o, ho⟩ := gr_some h'.gr p hp
    exact ⟨(h'.new p hp).1, nw_old (h'.new p hp).2 ho⟩
end
end LS

namespace LS
open PySem PySem.Spec PyProof.Rows L2 Evl
section
variable {K : PySem.W.Frag} {F0 H0 B : Hp} {d : Option Addr} {j : Nat} {sp : List Sl} {og : Og} {D : Ends} {ta tb te tx ty : TE} {t : TT} {tu tw tz : TS}
variable {α β γ δ : Type} [Rep α] [Rep β] [Rep γ] [Rep δ]
theorem b_forL {wi : TI} {g : TG} {js : List Nat} {S : α → List Sl → List Sl} {xs : List α} (hi : EI K wi sp xs) (hg : Tgt K g js S) (hjs : ∀ i ∈ js, ∀ a, d = some a → i ≠ j) (I : Nat → List Sl → Og → Prop) (hk : ∀ i sp k g, I i sp (.at_ k g) → k ∉ js) (h0 : I 0 sp og)
    (hb : ∀ B' i a sp' og', xs[i]? = some a → I i sp' og' → BGo K F0 H0 B' d j { nx := fun σ H => ∃ sp2 og2, I (i + 1) sp2 og2 ∧ Bs K F0 H0 B' d j sp2 og2 σ H, rt := D.rt, ct := fun σ H => ∃ sp2 og2, I (i + 1) sp2 og2 ∧ Bs K F0 H0 B' d j sp2 og2 σ H, bk := D.nx } tu (S a sp') og')
    (hd : ∀ sp' og', I xs.length sp' og' → ∀ σ H, Bs K F0 H0 B d j sp' og' σ H → D.nx σ H) : BGo K F0 H0 B d j D (tFor wi g tu) sp og := fun σ H s => by
  obtain ⟨F, x⟩ := s
  refine hi F σ x.sl H x.in_ _ fun J H1 e1 wk => ?_
  have y := x.grow (Exd.of e1 x.e.dr)
  refine for_it (walk_of_wk wk) (fun i σ H' => ∃ sp2 og2, I i sp2 og2 ∧ Bs K F0 H0 (Nw F H H1) d j sp2 og2 σ H') ?_ (fun i σ H' _ z => ?_) ?_ ?_
  · exact ⟨sp, og, h0, Nw F H H1, Ex.refl _, y.b, y.e, y.f, y.f0, y.d0, y.sl, y.dj, y.og⟩
  · obtain ⟨sp2, og2, _, F2, z⟩ := z
    exact z.fl.trans z.in_
  · rintro i v σ2 H2 H3 hlt ⟨sp2, og2, hI, F2, z⟩ ⟨a, ha, e3, r⟩
    have w := z.grow (Exd.of e3 z.e.dr)
    refine hg (Nw F2 H2 H3) v a σ2 H3 sp2 _ w.in_ w.sl (Rep.mono (nw_mono z.fl z.in_) r) fun σ' hs _ hkk => ?_
    refine hb (Nw F H H1) i a sp2 og2 ha hI σ' H3 ⟨Nw F2 H2 H3, w.fl, w.b, w.e, w.f, w.f0, w.d0, hs, fun c hc => ?_, ?_⟩
    · rw [hkk j fun hm => hjs j hm c hc rfl]
      exact w.dj c hc
    · have ho := w.og
      match og2, ho, hI with
      | .no, _, _ => exact True.intro
      | .at_ k g, ⟨l, ps, h⟩, hI => exact ⟨l, ps, by rw [hkk k (hk i sp2 k g hI)]; exact h.gk, h.gr, h.new⟩
  · rintro σ2 H2 ⟨sp2, og2, hI, F2, z⟩
    exact hd sp2 og2 hI σ2 H2 ⟨F2, (x.fl.trans nw_f).trans z.fl, z.b, z.e, z.f, z.f0, z.d0, z.sl, z.dj, z.og⟩
theorem b_for {wi : TI} {g : TG} {js : List Nat} {S : α → List Sl → List Sl} {xs : List α} (hi : EI K wi sp xs) (hg : Tgt K g js S) (hjs : ∀ i ∈ js, ∀ a, d = some a → i ≠ j) (I : Nat → List Sl → Og → Prop) (hk : ∀ i sp k g, I i sp (.at_ k g) → k ∉ js) (h0 : I 0 sp og)
    (hb : ∀ B' i a sp' og', xs[i]? = some a → I i sp' og' → BGo K F0 H0 B' d j { nx := fun σ H => ∃ sp2 og2, I (i + 1) sp2 og2 ∧ Bs K F0 H0 B' d j sp2 og2 σ H, rt := D.rt, ct := fun σ H => ∃ sp2 og2, I (i + 1) sp2 og2 ∧ Bs K F0 H0 B' d j sp2 og2 σ H, bk := tw D } tu (S a sp') og')
    (hd : ∀ sp' og', I xs.length sp' og' → BGo K F0 H0 B d j D tw sp' og') : BGo K F0 H0 B d j D (tSeq (tFor wi g tu) tw) sp og := b_seq (b_forL hi hg hjs I hk h0 hb hd)
/-- the promise of a def that answers with a grid of nobody else -/
def spG {ι : Type} (K : PySem.W.Frag) (sq : ι → List Sl) (pre : ι → Prop) (f : ι → List (List Int)) : Sp := fun vs H Q _ => ∃ F i, Ex F H ∧ Args K F vs (sq i) ∧ pre i ∧ ∀ l ps H', Ex H H' → Gr H' l ps (f i) → (∀ p ∈ l :: ps, H p = none) → Q (.ref l) H'
theorem b_asgG {ι : Type} {sq : ι → List Sl} {pre : ι → Prop} {f : ι → List (List Int)} {E : XK} {tr : TA} {i : ι} {k : Nat} (h : EA K tr sp (sq i)) (hp : pre i) (hk : ∀ a, d = some a → k ≠ j) (hkl : k < sp.length) (q : BGo K F0 H0 B d j D tw (sp.set k .no) (.at_ k (f i))) :
    BGo K F0 H0 B d j D (tSeq (tAsg (tCall (spG K sq pre f) [] E tr) (gName k)) tw) sp .no := fun σ H s => by
  obtain ⟨F, x⟩ := s
  refine h F σ x.sl H x.in_ _ fun vs H2 e2 rs => ?_
  refine ⟨Nw F H H2, i, nw_in x.in_ e2, by rw [List.append_nil]; exact rs, hp, fun l ps H3 e3 gr hn => ?_⟩
  have e := Exd.of (e2.trans e3) x.e.dr
  refine q _ H3 ⟨F, x.fl, x.b, x.e.trans e, x.f.trans (nwd_to x.f0 x.d0 e), x.f0, x.d0, slots_no k x.sl, fun a ha => ?_, l, ps, ?_, gr, fun p hp2 => ?_⟩
  · rw [List.getElem?_set_ne (hk a ha)]
    exact x.dj a ha
  · rw [List.getElem?_set_self (by rw [pr_len x.sl]; exact hkl)]
  · have h1 := ex_none e2 (hn p hp2)
    exact ⟨x.e.none h1, ex_none x.in_ h1⟩
theorem lc_gr {wi : TI} {g : TG} {js vs : List Nat} {S : α → List Sl → List Sl} {xs : List α} {f : α → List Int} (hi : EI K wi sp xs) (hg : Tgt K g js S) (hj : ∀ j ∈ js, j ∈ vs) (hn : xs.length ≤ 40000)
    (he : ∀ a ∈ xs, EXo K te (S a (wipeS sp vs)) (f a)) (F : Hp) (σ : L2.St) (hs : Slots K F σ sp) (H0 : Hp) (e0 : Ex F H0) (Q : VK) (q : ∀ l ps H2, Ex H0 H2 → Gr H2 l ps (xs.map f) → (∀ p ∈ l :: ps, H0 p = none) → Q (.ref l) H2) : tLc wi g tYes te vs σ H0 Q :=
  hi F σ hs H0 e0 _ fun J H1 e1 wk D hD => by
    have eB : Ex (Nw F H0 H1) H1 := nw_in e0 e1
    have hsB : Slots K (Nw F H0 H1) (wipe σ vs) (wipeS sp vs) := slots_mono nw_f (slots_wipe hs vs)
    refine lc_it (walk_of_wk wk) (D := D) (fun i H => Ex H1 H ∧ ∃ ps, Gr H D ps ((xs.take i).map f) ∧ ∀ p ∈ ps, H1 p = none) ?_ (fun i H _ z => eB.trans z.1) ?_ ?_
    · exact ⟨Ex.new hD, [], ⟨upd_same, .nil, by simp⟩, fun p hp => nomatch hp⟩
    · rintro i x H H' hlt ⟨h1, ps, gr, hz⟩ ⟨a, ha, e2, rx⟩
      have eBH : Ex (Nw F H0 H1) H := eB.trans h1
      have hmem : a ∈ xs := List.mem_of_getElem? ha
      refine hg (Nw (Nw F H0 H1) H H') x a (wipe σ vs) H' _ _ (nw_in eBH e2) (slots_mono nw_f hsB) rx fun σ' hs' hwp _ => ⟨by rw [hwp vs hj, wipe_idem], ?_⟩
      unfold tYes
      dsimp only
      rw [if_pos rfl]
      refine he a hmem (Nw (Nw F H0 H1) H H') σ' hs' H' (nw_in eBH e2) _ fun l ws H3 e4 hl hw hv => ?_
      have e24 : Ex H H3 := e2.trans e4
      have gr3 := gr_keep gr fun p _ o h => e24 p o h
      have hl0 : H l = none := ex_none e2 hl
      have lD : l ≠ D := fun z => by
        obtain ⟨o, ho⟩ := gr_some gr D List.mem_cons_self
        rw [← z, hl0] at ho
        cases ho
      have lps : l ∉ ps := fun z => by
        obtain ⟨o, ho⟩ := gr_some gr l (List.mem_cons_of_mem _ z)
        rw [hl0] at ho
        cases ho
      have hlen : (ps.map V.ref).length ≤ i := by
        rw [List.length_map, pr_len gr.rows, List.length_map, List.length_take]
        omega
      refine ⟨ps.map V.ref, gr3.top, sz_lt (by omega), Ex.mut (h1.trans e24) hD, ps ++ [l], ?_, fun p hp => ?_⟩
      · obtain ⟨nd1, nd2⟩ := List.nodup_cons.mp gr.nd
        refine ⟨by rw [upd_same, List.map_append]; rfl, ?_, ?_⟩
        · rw [show xs.take (i + 1) = xs.take i ++ [a] by rw [List.take_add_one, ha]; rfl, List.map_append]
          refine pr_app (rows_off gr3.rows nd1) (.cons ?_ .nil)
          rw [upd_ne lD, hw, ints_l hv]
        · refine List.nodup_cons.mpr ⟨fun hm => ?_, ?_⟩
          · rcases List.mem_append.mp hm with z | z
            · exact nd1 z
            · exact lD (List.mem_singleton.mp z).symm
          · refine List.nodup_append.mpr ⟨nd2, by simp, fun p hp b hb z => ?_⟩
            rw [List.mem_singleton.mp hb] at z
            exact lps (z ▸ hp)
      · rcases List.mem_append.mp hp with z | z
        · exact hz p z
        · rw
              [List.mem_singleton.mp z]
          exact ex_none h1 hl0
    · rintro H ⟨h1, ps, gr, hz⟩
      rw [List.take_length] at gr
      refine q D ps H (e1.trans h1) gr fun p hp => ?_
      rcases List.mem_cons.mp hp with z | z
      · rw [z]
        exact ex_none e1 hD
      · exact ex_none e1 (hz p z)
theorem exo_listL {xs : List α} (h : EX K te sp xs) : EXo K (tCB (fun xs H Q => ∃ p ys, xs = [.ref p] ∧ (SqL K H p ys ∨ SqT K H p ys) ∧ ∀ l, H l = none → Q (.ref l) (upd H l (.lst ys))) (tCons te tNil)) sp xs := fun F σ hs H1 e1 Q q => h F σ hs H1 e1 _ fun v H2 e2 r => by
  obtain ⟨p, vs, rfl, hp, hv⟩ := rep_l r
  refine ⟨p, vs, rfl, .inl (sq_of (nw_in e1 e2 p _ hp)), fun l hl => ?_⟩
  have e3 : Ex H2 (upd H2 l (.lst vs)) := Ex.new hl
  have hl1 := ex_none e2 hl
  refine q l vs _ (e2.trans e3) hl1 upd_same (pr_imp (fun _ _ z => Rep.mono (cut_ex (nw_to e3) ?_) z) hv)
  cases z : Nw F H1 H2 l with
  | none => rfl
  | some o =>
    have := nw_in e1 e2 l o z
    rw [hl] at this
    cases this
end
end LS
namespace LS
open PySem PySem.Spec PyProof.Rows L2 Evl
section
variable {K : PySem.W.Frag} {N : List Str} {vs : List V} {H : Hp} {Q : VK} {E : XK} {t : TT} {ts : TS}
variable {δ : Type} [Rep δ]
def takeP (K : PySem.W.Frag) : Sp := spR K (fun m : Int => [Sl.is m]) (fun _ => True) (fun m (r : Int) => 0 ≤ r ∧ (1 ≤ m → r < m))
theorem spR_len {ι : Type} {sq : ι → List Sl} {pre : ι → Prop} {post : ι → δ → Prop} {n : Nat} (hn : ∀ i, (sq i).length + 1 = n) (vs : List V) (H : Hp) (Q : VK) (E : XK) (h : spR K sq pre post vs H Q E) : vs.length = n := by
  obtain ⟨F, d, us, i, rfl, _, _, _, ha, _⟩ := h
  rw [List.length_cons, args_len ha, hn i]
theorem take_body (hN : N.length = 2) (ht : ∀ (xs : List Int) (m : Int), ET K t [Sl.is xs, Sl.is m] (decide (m < 2) || decide ((xs.length : Int) = 0))) (h : takeP K vs H Q E) :
    tSeq (tIfS t (tRet (tC (.int 0))) tNext) (tRet (tOp (rI (fun _ j => 0 < j) fun i j => .int (i % j)) (tCB (fun xs H Q => (∃ i, xs = [.int i] ∧ Q (.int i) H) ∨ ∃ k, xs = [.bl k] ∧ Q (.int (if k then 1 else 0)) H) (tCons (tBM0 K "list" rPop (tVar 0)) tNil)) (tVar 1))) { nx := fun _ H' => Q .non H', rt := Q } (L2.start N vs) H := by
  obtain ⟨F, d, us, m, rfl, hd, ⟨xs, hx, hxs⟩, e, ha, _, k⟩ := h
  cases ha with
  | @cons v _ us _ hv hr =>
    cases hr
    obtain ⟨v', e1, rv⟩ := hv
    have e1 : v = v' := Option.some.inj e1
    subst e1
    cases rep_int rv
    have hσ : L2.start N [.ref d, .int m] = [some (.ref d), some (.int m)] := by
      unfold L2.start
      rw [hN]
      rfl
    rw [hσ]
    have sl : Slots K (wth d H F) [some (.ref d), some (.int m)] [Sl.is xs, Sl.is m] := .cons ⟨_, rfl, d, _, rfl, by rw [wth_at]; exact hx, pr_ints _⟩ (.cons ⟨_, rfl, rfl⟩ .nil)
    refine ht xs m _ _ sl H (wth_in e) _ fun H2 e2 => ?_
    have dr2 : Dr H2 d := ⟨xs, e2 d _ hx, hxs⟩
    have ed : Exd (some d) H H2 := ⟨fun p o _ q => e2 p o q, fun a ha => by
      cases ha
      exact dr2⟩
    by_cases hb : (decide (m < 2) || decide ((xs.length : Int) = 0)) = true
    · rw [if_pos hb]
      exact k 0 _ H2 ⟨Int.le_refl _, fun h => by omega⟩ ed rfl
    · rw [if_neg hb]
      simp only [Bool.or_eq_true, decide_eq_true_eq, not_or] at hb
      have hl : xs ≠ [] := fun z => hb.2 (by rw [z]; rfl)
      have hy : (xs.map V.int)[(xs.map V.int).length - 1]? = some (.int (xs.getLast hl)) := by
        rw [List.length_map, List.getElem?_map, List.getElem?_eq_getElem (by have := List.length_pos_iff.mpr hl; omega), List.getLast_eq_getElem]
        rfl
      refine ⟨.ref d, rfl, .inl ⟨rfl, _, sq_of (e2 d _ hx)⟩, d, _, _, rfl, rfl, e2 d _ hx, hy, .inl ⟨_, rfl, .int m, rfl, _, m, rfl, rfl, by omega, ?_⟩⟩
      have hb2 := hxs _ (List.getLast_mem hl)
      refine k (xs.getLast hl % m) _ _ ⟨Int.emod_nonneg _ (by omega), fun _ => Int.emod_lt_of_pos _ (by omega)⟩ ⟨fun p o hp q => ?_, fun a ha => ?_⟩ rfl
      · rw [upd_ne fun z => hp (by rw [z])]
        exact e2 p o q
      · cases ha
        refine ⟨xs.dropLast, by rw [upd_same, List.map_dropLast], fun x hx2 => hxs x ((List.dropLast_sublist xs).subset hx2)⟩
/-- the body of a def that draws -/
theorem bodyR {ι : Type} {sq : ι → List Sl} {pre : ι → Prop} {post : ι → δ → Prop} {spf : ι → List Sl} (h : spR K sq pre post vs H Q E) (hsp : ∀ i, (.no :: sq i) ++ List.replicate (N.length - (sq i).length - 1) .no = spf i)
    (g : ∀ F d i, pre i → (∀ r, post i r → ∀ v H', Exd (some d) H H' → Rep.rep K (Nw F H H') v r → Q v H') → BGo K F H F (some d) 0 { nx := fun _ H' => Q .non H', rt := Q } ts (spf i) .no) : ts { nx := fun _ H' => Q .non H', rt := Q } (L2.start N vs) H := by
  obtain ⟨F, d, us, i, rfl, hd, dr, e, ha, hp, k⟩ := h
  have hl := args_len ha
  refine g F d i hp (fun r pr v H' e2 rr => k r v H' pr e2 rr) _ H ⟨F, Ex.refl _, e, ⟨fun _ _ _ z => z, fun a ha => by cases ha; exact dr⟩, nw_f, fun a ha => by cases ha; exact hd, fun a ha => by cases ha; exact dr, ?_, fun a ha => ?_, True.intro⟩
  · rw [← hsp i]
    unfold L2.start
    have z := pr_app (F := slOk K F) (.cons (a := some (V.ref d)) (b := Sl.no) True.intro (slots_args ha)) (pr_rep (F := slOk K F) (a := none) (b := .no) True.intro (N.length - (sq i).length - 1))
    rw [show N.length - (V.ref d :: us).length = N.length - (sq i).length - 1 by rw [List.length_cons, hl]; omega]
    exact z
  · cases ha
    unfold L2.start
    rfl
end
end LS
namespace LS
open PySem PySem.Spec PyProof.Rows L2 Evl
section
variable {K : PySem.W.Frag} {j : Nat} {sp : List Sl} {ta tb te : TE} {tr : TA} {δ : Type} [Rep δ]
theorem exd_callA {ι : Type} {sq : ι → List Sl} {pre : ι → Prop} {post : ι → δ → Prop} {E : XK} {a : Addr} {i : ι} (h : EA K tr sp (sq i)) (hp : pre i) : EXd K (some a) j (tCall (spR K sq pre post) [] E (tCons (tVar j) tr)) sp (post i) := fun F σ hs hd hj H1 e1 dr Q q => by
  refine ⟨.ref a, hj a rfl, h F σ hs H1 e1 _ fun vs H2 e2 rs => ?_⟩
  have e2d := Exd.of e2 dr
  refine ⟨Nw F H1 H2, a, vs, i, by rw [List.append_nil], nwd_d hd dr a rfl, e2d.dr a rfl, nwd_in e1 hd dr e2d, rs, hp, fun r v H3 pr e3 rr => ?_⟩
  exact q r v H3 pr (e2d.trans e3) (Rep.mono (nwd_base e1 hd dr e2d e3 (Ex.refl _)) rr)
theorem exd_take {E : XK} {a : Addr} {m : Int} (h : EX K ta sp m) : EXd K (some a) j (tCall (takeP K) [] E (tCons (tVar j) (tCons ta tNil))) sp (fun r : Int => 0 ≤ r ∧ (1 ≤ m → r < m)) := exd_callA (sq := fun m : Int => [Sl.is m]) (i := m) (ea_cons h ea_nil) True.intro
theorem spG_len {ι : Type} {sq : ι → List Sl} {pre : ι → Prop} {f : ι → List (List Int)} {n : Nat} (hn : ∀ i, (sq i).length = n) (vs : List V) (H : Hp) (Q : VK) (E : XK) (h : spG K sq pre f vs H Q E) : vs.length = n := by
  obtain ⟨F, i, _, ha, _⟩ := h
  rw [args_len ha, hn i]
theorem bodyG {ι : Type} {sq : ι → List Sl} {pre : ι → Prop} {f : ι → List (List Int)} {N : List Str} {vs : List V} {H : Hp} {Q : VK} {E : XK} {spf : ι → List Sl} (h : spG K sq pre f vs H Q E) (hsp : ∀ i, sq i ++ List.replicate (N.length - (sq i).length) .no = spf i)
    (g : ∀ i, pre i → ∀ F σ, Slots K F σ (spf i) → ∀ H1, Ex F H1 → ∀ Q : VK, (∀ l ps H2, Ex H1 H2 → Gr H2 l ps (f i) → (∀ p ∈ l :: ps, H1 p = none) → Q (.ref l) H2) → te σ H1 Q) : tRet te { nx := fun _ H' => Q .non H', rt := Q } (L2.start N vs) H := by
  obtain ⟨F, i, e, ha, hp, k⟩ := h
  have s := slots_start (N := N) ha
  rw [hsp i] at s
  exact g i hp F _ s H e _ k
end
end LS
namespace Mi
open LS
def zeros (n : Int) : List (List Int) := (rng n).map fun _ => (rng n).map fun _ => 0
end Mi
namespace LS
open PySem PySem.Spec PyProof.Rows L2 Evl
section
variable {K : PySem.W.Frag} {F0 H0 B : Hp} {d : Option Addr} {j : Nat} {sp : List Sl} {og : Og} {D : Ends} {ta tb te tx ty : TE} {t u : TT} {tu tw tz : TS}
theorem b_ifn {P : Bool → Prop} (h : ETd K d j t sp P) (h1 : P true → BGo K F0 H0 B d j { D with nx := tw D } tu sp og) (h2 : P false → BGo K F0 H0 B d j D tw sp og) : BGo K F0 H0 B d j D (tSeq (tIfS t tu tNext) tw) sp og := b_seq (b_if h h1 h2)
theorem etd_and {P Q : Bool → Prop} (h : ETd K d j t sp P) (h2 : ETd K d j u sp Q) : ETd K d j (tAnd t u) sp (fun r => r = true → P true ∧ Q true) := fun F σ hs hd hj H1 e1 dr R q => h F σ hs hd hj H1 e1 dr _ fun b H2 p e2 => by
  cases b with
  | false =>
    rw [if_neg
          Bool.false_ne_true]
    exact q false H2 (fun z => nomatch z) e2
  | true =>
    rw [if_pos rfl]
    exact h2 F σ hs hd hj H2 (e2.fr e1 hd) e2.dr _ fun c H3 p2 e3 => q c H3 (fun z => ⟨p, z ▸ p2⟩) (e2.trans e3)
theorem etd_or {P Q : Bool → Prop} (h : ETd K d j t sp P) (h2 : ETd K d j u sp Q) : ETd K d j (tOr t u) sp (fun _ => True) := fun F σ hs hd hj H1 e1 dr R q => h F σ hs hd hj H1 e1 dr _ fun b H2 p e2 => by
  cases b with
  | true =>
    rw [if_pos rfl]
    exact q true H2 True.intro e2
  | false =>
    rw [if_neg
          Bool.false_ne_true]
    exact h2 F σ hs hd hj H2 (e2.fr e1 hd) e2.dr _ fun c H3 p2 e3 => q c H3 True.intro (e2.trans e3)
theorem exd_int {P : Int → Prop} (h : EXd K d j te sp P) : EXd K d j (tCB (fun xs H Q => (∃ i, xs = [.int i] ∧ Q (.int i) H) ∨ ∃ k, xs = [.bl k] ∧ Q (.int (if k then 1 else 0)) H) (tCons te tNil)) sp P :=
  fun F σ hs hd hj H1 e1 dr R q => h F σ hs hd hj H1 e1 dr _ fun a v H2 p e2 r => .inl ⟨a, by rw [rep_int r], q a _ H2 p e2 rfl⟩
theorem b_next (h : ∀ σ H, Bs K F0 H0 B d j sp og σ H → D.nx σ H) : BGo K F0 H0 B d j D tNext sp og := h
theorem apn {a : Addr} {i : Nat} (h : i ≠ j) : Apart (some a) j i .no := ⟨fun _ _ => h, fun _ _ z => nomatch z⟩
end
end LS
namespace LS
open PySem PySem.Spec PyProof.Rows L2 Evl
section
variable {K : PySem.W.Frag} {F0 H0 B : Hp} {d : Option Addr} {j : Nat} {sp : List Sl} {og : Og} {D : Ends} {ta tb te tx ty : TE} {t u : TT} {tu tw tz : TS} {tr : TA}
variable {α β δ : Type} [Rep α] [Rep β] [Rep δ]
/-- two ways that meet again -/
theorem b_join (R : List Sl → Og → Prop) (k : ∀ sp2 og2, R sp2 og2 → BGo K F0 H0 B d j D tw sp2 og2) (h : (∀ sp2 og2, R sp2 og2 → ∀ σ H, Bs K F0 H0 B d j sp2 og2 σ H → tw D σ H) → BGo K F0 H0 B d j { D with nx := tw D } tu sp og) : BGo K F0 H0 B d j D (tSeq tu tw) sp og := h k
/-- the promise of a def that doesn't draw, told by what holds of its answer -/
def spQ {ι : Type} (K : PySem.W.Frag) (sq : ι → List Sl) (pre : ι → Prop) (post : ι → δ → Prop) : Sp := fun vs H Q _ => ∃ F i, Ex F H ∧ Args K F vs (sq i) ∧ pre i ∧ ∀ r v H', post i r → Ex H H' → Rep.rep K (Nw F H H') v r → Q v H'
theorem spQ_len {ι : Type} {sq : ι → List Sl} {pre : ι → Prop} {post : ι → δ → Prop} {n : Nat} (hn : ∀ i, (sq i).length = n) (vs : List V) (H : Hp) (Q : VK) (E : XK) (h : spQ K sq pre post vs H Q E) : vs.length = n := by
  obtain ⟨F, i, _, ha, _⟩ := h
  rw [args_len ha, hn i]
theorem exd_callQ {ι : Type} {sq : ι → List Sl} {pre : ι → Prop} {post : ι → δ → Prop} {E : XK} {R : List Sl → Prop} {P : δ → Prop} (h : EAd K d j tr sp R) (hR : ∀ as, R as → ∃ i, as = sq i ∧ pre i ∧ ∀ r, post i r → P r) : EXd K d j (tCall (spQ K sq pre post) [] E tr) sp P := fun F σ hs hd hj H1 e1 dr Q q =>
  h F σ hs hd hj H1 e1 dr _ fun as vs H2 pas e2 rs => by
  obtain ⟨i, rfl, hp, hq⟩ := hR as pas
  refine ⟨Nw F H1 H2, i, nwd_in e1 hd dr e2, by rw [List.append_nil]; exact rs, hp, fun r v H3 pr e3 rr => ?_⟩
  have e3d := Exd.of e3 e2.dr
  exact q r v H3 (hq r pr) (e2.trans e3d) (Rep.mono (nwd_base e1 hd dr e2 e3d (Ex.refl _)) rr)
theorem bodyQ {ι : Type} {sq : ι → List Sl} {pre : ι → Prop} {post : ι → δ → Prop} {spf : ι → List Sl} {N : List Str} {vs : List V} {H : Hp} {Q : VK} {E : XK} {ts : TS} (h : spQ K sq pre post vs H Q E) (hsp : ∀ i, sq i ++ List.replicate (N.length - (sq i).length) .no = spf i)
    (g : ∀ F i, pre i → (∀ r, post i r → ∀ v H', Exd none H H' → Rep.rep K (Nw F H H') v r → Q v H') → BGo K F H F none 0 { nx := fun _ H' => Q .non H', rt := Q } ts (spf i) .no) : ts { nx := fun _ H' => Q .non H', rt := Q } (L2.start N vs) H := by
  obtain ⟨F, i, e, ha, hp, k⟩ := h
  have s := slots_start (N := N) ha
  rw [hsp i] at s
  exact g F i hp (fun r pr v H' e2 rr => k r v H' pr (fun p o q => e2.keep p o (fun z => nomatch z) q) rr) _ H ⟨F, Ex.refl _, e, ⟨fun _ _ _ z => z, fun a ha => (nomatch ha)⟩, nw_f, fun a ha => (nomatch ha), fun a ha => (nomatch ha), s, fun a ha => (nomatch ha), True.intro⟩
theorem exd_max2 {P Q : Int → Prop} (h1 : EXd K d j ta sp P) (h2 : EXd K d j tb sp Q) : EXd K d j (tCB (fun xs H Q => ∃ i j, xs = [.int i, .int j] ∧ Q (.int (if j > i then j else i)) H) (tCons ta (tCons tb tNil))) sp (fun r : Int => ∃ x y, P x ∧ Q y ∧ r = if y > x then y else x) :=
  fun F σ hs hd hj H1 e1 dr R q => h1 F σ hs hd hj H1 e1 dr _ fun a v H2 pa e2 r => h2 F σ hs hd hj H2 (e2.fr e1 hd) e2.dr _ fun b w H3 pb e3 r2 => ⟨a, b, by rw [rep_int r, rep_int r2], q _ _ H3 ⟨a, b, pa, pb, rfl⟩ (e2.trans e3) rfl⟩
theorem exd_pair {P : α → Prop} {Q : β → Prop} (h1 : EXd K d j ta sp P) (h2 : EXd K d j tb sp Q) : EXd K d j (tTup (tCons ta (tCons tb tNil))) sp (fun r : α × β => P r.1 ∧ Q r.2) :=
  fun F σ hs hd hj H1 e1 dr R q => h1 F σ hs hd hj H1 e1 dr _ fun a v H2 pa e2 r => h2 F σ hs hd hj H2 (e2.fr e1 hd) e2.dr _ fun b w H3 pb e3 r2 => ⟨sz_of (by show 2 ≤ 100000; omega), fun p hp => by
    have e4 : Ex H3 (upd H3 p (.tup [v, w])) := Ex.new hp
    have e4d := Exd.of e4 e3.dr
    have e34 := e3.trans e4d
    have h1p := (e2.trans e3).none hp
    exact q (a, b) _ _ ⟨pa, pb⟩ ((e2.trans e3).trans e4d) ⟨p, v, w, rfl, st_of (by rw [nw_new (ex_none e1 h1p) h1p, upd_same]), Rep.mono (nwd_to hd dr e34) r, Rep.mono (nwd_base e1 hd dr e2 e34 nw_f) (Rep.mono (nwd_to hd e2.dr e4d) r2)⟩⟩
/-- xs[k], xs at rest, k drawn -/
theorem exd_ixL {xs : List Int} {P : Int → Prop} (h1 : EX K ta sp xs) (h2 : EXd K d j tb sp P) (hP : ∀ i, P i → 0 ≤ i ∧ i < xs.length) : EXd K d j (tOp (rIxL K) ta tb) sp (fun r : Int => r ∈ xs) :=
  fun F σ hs hd hj H1 e1 dr R q => h1 F σ hs H1 e1 _ fun v H2 e2 r => h2 F σ hs hd hj H2 (e1.trans e2) (Exd.of e2 dr).dr _ fun i w H3 pi e3 r2 => by
  cases rep_int r2
  obtain ⟨p, vs, rfl, hp, hv⟩ := rep_l r
  obtain ⟨b1, b2⟩ := hP i pi
  have e2d := Exd.of e2 dr
  have hp3 : H3 p = some (.lst vs) := nwd_in e1 hd dr (e2d.trans e3) p _ (nwd_to hd dr e3 p _ hp)
  have hi : i.toNat < xs.length := by omega
  have hx : xs[i.toNat]? = some xs[i.toNat] := List.getElem?_eq_getElem hi
  rw [ints_l hv] at hp3
  refine ⟨p, xs.map V.int, i, .int xs[i.toNat], rfl, rfl, sq_of hp3, ?_, q _ _ H3 (List.getElem_mem hi) (e2d.trans e3) rfl⟩
  have z := atI_nat (xs := xs.map V.int) (j := i.toNat) (v := .int xs[i.toNat]) (by rw [List.getElem?_map, hx]; rfl)
  rw [Int.toNat_of_nonneg b1] at z
  exact z
end
end LS
namespace LS
open PySem PySem.Spec PyProof.Rows L2 Evl
theorem b_setS {K : PySem.W.Frag} {F0 H0 B : Hp} {d : Option Addr} {j : Nat} {sp : List Sl} {D : Ends} {te tx ty : TE} {tw : TS} {k : Nat} {g : List (List Int)} {P : Int → Prop} {a b : Int} (hv : EXd K d j te sp P) (hx : EX K tx sp a) (hy : EX K ty sp b) (ha : 0 ≤ a ∧ a < g.length) (hb : 0 ≤ b ∧ b < ((g.getD a.toNat default).length : Int))
    (q : ∀ v, P v → BGo K F0 H0 B d j D tw sp (.at_ k (g.set a.toNat ((g.getD a.toNat default).set b.toNat v)))) : BGo K F0 H0 B d j D (tSeq (tAsg te (gSub (tOp (rIxL K) (tVar k) tx) ty rSetL)) tw) sp (.at_ k g) := b_seq (b_set hv hx hy ha hb q)
end LS
namespace LS
open PySem PySem.Spec PyProof.Rows L2 Evl
/-- the promises of the def that makes the draws, of the law -/
def spD (K : PySem.W.Frag) : Sp := fun vs H Q _ => ∃ (a : Addr) (ns : List Int), vs = [.ref a] ∧ SqL K H a (ns.map V.int) ∧ ∀ d H', Ex H H' → H d = none → Dr H' d → Q (.ref d) H'
def spLaw (K : PySem.W.Frag) : Sp := fun vs H Q _ => ∃ (a : Addr) (ns :
      List Int), vs = [.ref a] ∧ SqL K H a (ns.map V.int) ∧ ∀ H', Q (.bl true) H'
theorem spD_len {K : PySem.W.Frag} (vs : List V) (H : Hp) (Q : VK) (E : XK) (h : spD K vs H Q E) : vs.length = 1 := by
  obtain ⟨a, ns, rfl, _⟩ := h
  rfl
theorem spLaw_len {K : PySem.W.Frag} (vs : List V) (H : Hp) (Q : VK) (E : XK) (h : spLaw K vs H Q E) : vs.length = 1 := by
  obtain ⟨a, ns, rfl, _⟩ := h
  rfl
theorem law_body {K : PySem.W.Frag} {N : List Str} {vs : List V} {H : Hp} {Q : VK} {E : XK} {tw : TS} {E1 : XK} (hN : N.length = 10) (h : spLaw K vs H Q E)
    (g : ∀ H0 d, BGo K (fun _ => none) H0 (fun _ => none) (some d) 1 { nx := fun _ H' => Q .non H', rt := Q } tw [.no, .no, .no, .no, .no, .no, .no, .no, .no, .no] .no) :
    tSeq (tAsg (tCall (spD K) [] E1 (tCons (tVar 0) tNil)) (gName 1)) tw { nx := fun _ H' => Q .non H', rt := Q } (L2.start N vs) H := by
  obtain ⟨a, ns,
        rfl, hs, q⟩ := h
  have hσ : L2.start N [.ref a] = [some (.ref a), none, none, none, none, none, none, none, none, none] := by
    unfold L2.start
    rw [hN]
    rfl
  rw [hσ]
  refine ⟨.ref a, rfl, a, ns, rfl, hs, fun d H' e hd dr => ?_⟩
  refine g H' d _ H' ⟨fun _ => none, Ex.refl _, fun _ _ z => (nomatch z), ⟨fun _ _ _ z => z, fun b hb => by cases hb; exact dr⟩, fun _ _ z => (nomatch z), fun _ _ => rfl, fun b hb => by cases hb; exact dr, ?_, fun b hb => ?_, True.intro⟩
  · exact .cons True.intro (.cons True.intro (.cons True.intro (.cons True.intro (.cons True.intro (.cons True.intro (.cons True.intro (.cons True.intro (.cons True.intro (.cons True.intro .nil)))))))))
  · cases hb
    rfl
end LS
namespace LS
open PySem PySem.Spec PyProof.Rows L2 Evl
structure Scr where
  l : List Int
instance : Rep Scr := ⟨fun K H v t => ∃ p, v = .ref p ∧ SqL K H p (t.l.map V.int), fun {K H H' v t} e h => by
  obtain ⟨p, h1, h2⟩ := h
  exact ⟨p, h1, ex_l e h2⟩⟩
section
variable {K : PySem.W.Frag} {F0 H0 B : Hp} {sp : List Sl} {D : Ends} {ta tb te : TE} {tw : TS}
theorem ex_lenS {s : Scr} (h : EX K te sp s) : EX K (tCB (fun xs H Q => ∃ p ys, xs = [.ref p] ∧ (SqL K H p ys ∨ SqT K H p ys) ∧ Q (.int ys.length) H) (tCons te tNil)) sp (s.l.length : Int) := fun F σ hs H1 e1 Q q => h F σ hs H1 e1 _ fun v H2 e2 r => by
  obtain ⟨p, rfl, hp⟩ := r
  refine ⟨p, s.l.map V.int, rfl, .inl (ex_l (nw_in e1 e2) hp), q _ H2 e2 ?_⟩
  rw [List.length_map]
  rfl
theorem ex_ixS {s : Scr} {i : Int} (h1 : EX K ta sp s) (h2 : EX K tb sp i) (h0 : 0 ≤ i) (hl : i < s.l.length) : EX K (tOp (rIxL K) ta tb) sp (s.l.getD i.toNat default) := fun F σ hs H1 e1 Q q => h1 F σ hs H1 e1 _ fun v H2 e2 r => h2 F σ hs H2 (e1.trans e2) _ fun w H3 e3 r2 => by
  cases rep_int r2
  obtain ⟨p, rfl, hp⟩ := r
  have hi : i.toNat < s.l.length := by omega
  have z := atI_nat (xs := s.l.map V.int) (j := i.toNat) (v := .int (s.l.getD i.toNat default)) (by rw [List.getElem?_map, List.getElem?_eq_getElem hi, List.getD_eq_getElem?_getD, List.getElem?_eq_getElem hi]; rfl)
  rw [Int.toNat_of_nonneg h0] at z
  exact ⟨p, _, i, _, rfl, rfl, ex_l (e3) (ex_l (nw_in e1 e2) hp), z, q _ H3 (e2.trans e3) rfl⟩
theorem ex_min2 {i j : Int} (h1 : EX K ta sp i) (h2 : EX K tb sp j) : EX K (tCB (fun xs H Q => ∃ i j, xs = [.int i, .int j] ∧ Q (.int (if j < i then j else i)) H) (tCons ta (tCons tb tNil))) sp (if j < i then j else i) :=
  fun F σ hs H1 e1 Q q => h1 F σ hs H1 e1 _ fun v H2 e2 r => h2 F σ hs H2 (e1.trans e2) _ fun w H3 e3 r2 => ⟨i, j, by rw [rep_int r, rep_int r2], q _ H3 (e2.trans e3) rfl⟩
/-- xs.reverse(), then the answer xs: the last two statements -/
theorem go_revRet {j : Nat} {xs : List Int} (e : sp[j]? = some (.own xs)) (q : ∀ l H', Ex H0 H' → H0 l = none → H' l = some (.lst (xs.reverse.map V.int)) → D.rt (.ref l) H') :
    Go K F0 H0 B D (tSeq (tDrop (tBM0 K "list" rReverse (tVar j))) (tRet (tVar j))) sp := fun σ H s => by
  obtain ⟨F, x⟩ := s
  obtain ⟨l, vs, h1, h2, h3, h4, h5⟩ := own_get x e
  refine ⟨_, h1, .inl ⟨rfl, vs, sq_of h4⟩, l, vs, rfl, rfl, h4, _, h1, q l _ (Ex.mut x.at_.h h2) h2 ?_⟩
  rw [upd_same, ints_l h5, List.map_reverse]
theorem draws_body {N : List Str} {vs : List V} {H : Hp} {Q : VK} {E : XK} {ts : TS} (hN : N.length = 6) (h : spD K vs H Q E)
    (g : ∀ F ns, (∀ l H', Ex H H' → H l = none → Dr H' l → Q (.ref l) H') → Go K F H F { nx := fun _ H' => Q .non H', rt := Q } ts [.is (Scr.mk ns), .no, .no, .no, .no, .no]) : ts { nx := fun _ H' => Q .non H', rt := Q } (L2.start N vs) H := by
  obtain ⟨a, ns,
        rfl, hs, q⟩ := h
  have st := start_st (K := K) (F := H) (H := H) (N := N) (sq := [.is (Scr.mk ns)]) (vs := [V.ref a]) (Ex.refl H) (.cons ⟨_, rfl, a, rfl, hs⟩ .nil) (no_own_is (own_cons own_nil))
  rw [hN] at st
  exact g H ns (fun l H' e1 e2 e3 => q l H' e1 e2 e3) _ H st
end
end LS
namespace Mi
open LS
def cellA (c : Int) : Int := if decide (c < 0) = true then 3 - 2 * c else c
def big : Nat → List Int → Int → List Int × Int
  | 0, dr, c => (dr, c)
  | k + 1, dr, c => if 0 < (big k dr c).2 then ((big k dr c).1 ++ [(big k dr c).2 % 30], (big k dr c).2.fdiv 30) else big k dr c
def nsd (at_ sd k : Int) : Int := (sd * sd + 5 * k + at_ + 1) % 2147483587
def sml (at_ : Int) : Nat → List Int → Int → List Int × Int
  | 0, dr, sd => (dr, sd)
  | k + 1, dr, sd => ((sml at_ k dr sd).1 ++ [((nsd at_ (sml at_ k dr sd).2 k).fdiv 11) % 27720], nsd at_ (sml at_ k dr sd).2 k)
def nx1 (c sd at_ : Int) : Int := (sd * 31 + c * 7919 + at_) % 2147483629
def dst (ns : List Int) : Nat → List Int × Int
  | 0 => ([], 911)
  | i + 1 => if decide ((10 : Int) ^ (18 : Int).toNat ≤ cellA (ns.getD i default)) = true then ((big 44 (dst ns i).1 (cellA (ns.getD i default))).1, (dst ns i).2)
    else sml i 5 (dst ns i).1 (nx1 (cellA (ns.getD i default)) (dst ns i).2 i)
structure DrP (n : Nat) (xs : List Int) : Prop where
  len : xs.length ≤ n
  ins : ∀ x ∈ xs, 0 ≤ x ∧ x < 32768
theorem DrP.add {n : Nat} {xs : List Int} (h : DrP n xs) {v : Int} (hv : 0 ≤ v ∧ v < 32768) : DrP (n + 1) (xs ++ [v]) := ⟨by have := h.len; simp; omega, fun x hx => by
  rcases List.mem_append.mp
        hx with q | q
  · exact h.ins x q
  · rw [List.mem_singleton.mp q]; exact hv⟩
theorem DrP.up {m n : Nat} {xs : List Int} (h : DrP m xs) (e : m ≤ n) : DrP n xs := ⟨Nat.le_trans h.len e, h.ins⟩
theorem big_ok {n : Nat} {dr : List Int} (h : DrP n dr) (c : Int) : ∀ k : Nat, DrP (n + k) (big k dr c).1
  | 0 => h
  | k + 1 => by
    have ih := big_ok h c k
    unfold big
    split
    · exact ih.add ⟨Int.emod_nonneg _ (by decide), by have := Int.emod_lt_of_pos (big k dr c).2 (show (0 : Int) < 30 by decide); omega⟩
    · exact ih.up (Nat.le_succ _)
theorem sml_ok {n : Nat} {dr : List Int} (h : DrP n dr) (at_ sd : Int) (hs : 0 ≤ sd ∧ sd < 2147483629) : ∀ k : Nat, DrP (n + k) (sml at_ k dr sd).1 ∧ 0 ≤ (sml at_ k dr sd).2 ∧ (sml at_ k dr sd).2 < 2147483629
  | 0 => ⟨h, hs⟩
  | k + 1 => by
    obtain ⟨ih, _⟩ := sml_ok h at_ sd hs k
    have n0 : 0 ≤ nsd at_ (sml at_ k dr sd).2 k := Int.emod_nonneg _ (by decide)
    have n1 : nsd at_ (sml at_ k dr sd).2 k < 2147483587 := Int.emod_lt_of_pos _ (by decide)
    refine ⟨ih.add ⟨Int.emod_nonneg _ (by decide), ?_⟩, n0, by show nsd _ _ _ < _; omega⟩
    have := Int.emod_lt_of_pos ((nsd at_ (sml at_ k dr sd).2 k).fdiv 11) (show (0 : Int) < 27720 by decide)
    omega
theorem dst_ok (ns : List Int) : ∀ i : Nat, DrP (44 * i) (dst ns i).1 ∧ 0 ≤ (dst ns i).2 ∧ (dst ns i).2 < 2147483629
  | 0 => ⟨⟨by simp [dst], fun x hx => nomatch hx⟩, (show (0 : Int) ≤ 911 ∧ (911 : Int) < 2147483629 by decide)⟩
  | i + 1 => by
    obtain ⟨ih, hs⟩ := dst_ok ns i
    unfold dst
    split
    · exact ⟨(big_ok ih _ 44).up (by omega), hs⟩
    · have z := sml_ok ih i (nx1 (cellA (ns.getD i default)) (dst ns i).2 i) ⟨Int.emod_nonneg _ (by decide), Int.emod_lt_of_pos _ (by decide)⟩ 5
      exact ⟨z.1.up (by omega), z.2⟩
end Mi
namespace LS
open PySem PySem.Spec PyProof.Rows L2 Evl
/-- the law's own frame, of any number of names -/
theorem law_bodyN {K : PySem.W.Frag} {N : List Str} {vs : List V} {H : Hp} {Q : VK} {E : XK} {tw : TS} {E1 : XK} {n : Nat} {sp : List Sl} (hN : N.length = n + 2) (hsp : sp = .no :: .no :: List.replicate n .no) (h : spLaw K vs H Q E)
    (g : ∀ H0 d, BGo K (fun _ => none) H0 (fun _ => none) (some d) 1 { nx := fun _ H' => Q .non H', rt := Q } tw sp .no) :
    tSeq (tAsg (tCall (spD K) [] E1 (tCons (tVar 0) tNil)) (gName 1)) tw { nx := fun _ H' => Q .non H', rt := Q } (L2.start N vs) H := by
  subst hsp
  obtain ⟨a, ns,
        rfl, hs, q⟩ := h
  have hσ : L2.start N [.ref a] = some (.ref a) :: none :: List.replicate n none := by
    unfold L2.start
    rw [hN]
    rfl
  rw [hσ]
  refine ⟨.ref a, rfl, a, ns, rfl, hs, fun d H' e hd dr => ?_⟩
  refine g H' d _ H' ⟨fun _ => none, Ex.refl _, fun _ _ z => (nomatch z), ⟨fun _ _ _ z => z, fun b hb => by cases hb; exact dr⟩, fun _ _ z => (nomatch z), fun _ _ => rfl, fun b hb => by cases hb; exact dr, ?_, fun b hb => ?_, True.intro⟩
  · exact .cons True.intro (.cons True.intro (pr_rep (F := slOk K fun _ => none) (a := none) (b := .no) True.intro n))
  · cases hb
    rfl
section
variable {K : PySem.W.Frag} {F0 H0 B : Hp} {sp : List Sl} {D : Ends} {ta tb : TE} {tw : TS} {α β : Type} [Rep α] [Rep β]
/-- a, b = x, y -/
theorem s_par {i j : Nat} {a : α} {b : β} (h1 : EX K ta sp a) (h2 : EX K tb sp b) (k : Go K F0 H0 B D tw ((sp.set i (.is a)).set j (.is b))) : Go K F0 H0 B D (tSeq (tPar i j (tCons ta (tCons tb tNil))) tw) sp := fun σ H s => by
  obtain ⟨F, x⟩ := s
  refine h1 F σ x.sl H x.at_.in_ _ fun v H2 e2 r => h2 F σ x.sl H2 (x.at_.in_.trans e2) _ fun w H3 e3 r2 => ?_
  have r1 : Rep.rep K (Nw F H H3) v a := Rep.mono (nw_to e3) r
  have r3 : Rep.rep K (Nw F H H3) w b := Rep.mono (nw_from x.at_.in_ e2 e3) r2
  exact ⟨v, w, rfl, k _ H3 ⟨_, ((x.grow (e2.trans e3)).is i r1).is j r3⟩⟩
end
end LS
namespace Mi
open LS
abbrev Gd := List (List Int)
def at2 (g : Gd) (x y : Int) : Int := (g.getD x.toNat default).getD y.toNat default
def rat (r : Tp (Tp Int)) (x y : Int) : Int := ((r.l.getD x.toNat default).l).getD y.toNat default
structure Ok (g : Gd) : Prop where
  lo : 2 ≤ g.length
  hi : g.length ≤ 8
  sq : ∀ row ∈ g, row.length = g.length
  pos : ∀ row ∈ g, ∀ e ∈ row, 0 ≤ e ∧ e < 137438953472
  dg : ∀ i : Nat, i < g.length → at2 g i i = 0
theorem tOf_at (g : Gd) (x : Nat) : (g.map Tp.mk).getD x default = Tp.mk (g.getD x default) := by
  rw [List.getD_eq_getElem?_getD,
        List.getD_eq_getElem?_getD, List.getElem?_map]
  cases g[x]? <;> rfl
theorem rat_tOf (g : Gd) (x y : Int) : rat (tOf g) x y = at2 g x y := by
  unfold rat tOf at2
  rw [tOf_at]
theorem Ok.row {g : Gd} (h : Ok g) {x : Int} (h0 : 0 ≤ x) (h1 : x < g.length) : (g.getD x.toNat default).length = g.length := by
  have hx : x.toNat < g.length := by omega
  rw [List.getD_eq_getElem?_getD, List.getElem?_eq_getElem hx]
  exact h.sq _ (List.getElem_mem hx)
/-- square rows of a table -/
structure Sq (r : Tp (Tp Int)) : Prop where
  len : r.l.length ≤ 8
  row : ∀ x : Int, 0 ≤ x → x < r.l.length → (r.l.getD x.toNat default).l.length = r.l.length
theorem Ok.sqT {g : Gd} (h : Ok g) : Sq (tOf g) := by
  refine ⟨by unfold tOf; rw [List.length_map]; exact h.hi, fun x h0 h1 => ?_⟩
  unfold tOf at h1 ⊢
  rw [List.length_map] at h1 ⊢
  rw [tOf_at]
  exact h.row h0 h1
/-- all of these are states -/
def Sts (n : Nat) (xs : List Int) : Prop := ∀ x ∈ xs, 0 ≤ x ∧ x < n
theorem sts_rng (n : Int) (h : 0 ≤ n) : Sts n.toNat (rng n) := fun x hx => by
  have := rng_mem hx
  omega
theorem Sts.filter {n : Nat} {xs : List Int} (h : Sts n xs) (p : Int → Bool) : Sts n (xs.filter p) := fun x hx => h x (List.mem_filter.mp hx).1
def outR (r : Tp (Tp Int)) (part left : List Int) : Gd := left.map fun x => left.map fun y => if decide (x = y) = true then (part.map fun z => rat r x z).sum else -(rat r x y)
def reduced (row top : List Int) (d : Int) : List Int := ((cutA row (some 1) none).zip (cutA top (some 1) none)).map fun p => (top.getD (0 : Int).toNat default * p.1 - row.getD (0 : Int).toNat default * p.2).fdiv d
def leadS (heads : List Int) (n : Nat) (x : Int) : Int := Nat.rec x (fun _ z => heads.getD z.toNat default) n
def lead (heads : List Int) (x : Int) : Int := if heads.getD (leadS heads heads.length x).toNat default = leadS heads heads.length x then leadS heads heads.length x else -1
def heads (g : Gd) (roots : List Int) (x : Int) : List Int := if roots.contains x = true then [x] else (rng g.length).filter fun y => decide (0 < at2 g x y)
def lines (g : Gd) (roots : List Int) : Nat → List (List Int)
  | 0 => [[]]
  | i + 1 => (lines g roots i).flatMap fun line => (heads g roots i).map fun y => line ++ [y]
def forests (g : Gd) (roots : List Int) : List (Tp Int) := ((lines g roots g.length).filter fun line => ((rng g.length).map fun x => roots.contains (lead line x)).all id).map Tp.mk
def weightS (g : Gd) (hs : List Int) : Nat → Int
  | 0 => 1
  | i + 1 => if hs.getD i default = (i : Int) then weightS g hs i else weightS g hs i * at2 g i (hs.getD i default)
def weight (g : Gd) (hs : List Int) : Int := weightS g hs hs.length
end Mi
namespace Mi
open LS
def B (k : Nat) (x : Int) : Prop := x.natAbs < 2 ^ k
theorem B.up {j k : Nat} {x : Int} (h : B j x) (e : j ≤ k) : B k x := Nat.lt_of_lt_of_le h (Nat.pow_le_pow_right (by decide) e)
theorem B.add {k : Nat} {x y : Int} (h : B k x) (h2 : B k y) : B (k + 1) (x + y) := by
  unfold B at *
  rw [Nat.pow_succ]
  omega
theorem B.neg {k : Nat} {x : Int} (h : B k x) : B k (-x) := by
  unfold B at *
  omega
theorem B.sub {k : Nat} {x y : Int} (h : B k x) (h2 : B k y) : B (k + 1) (x - y) := h.add h2.neg
theorem B.mul {j k : Nat} {x y : Int} (h : B j x) (h2 : B k y) : B (j + k) (x * y) := by
  unfold B at *
  rw [Int.natAbs_mul,
        Nat.pow_add]
  exact Nat.mul_lt_mul'' h h2
theorem B.w {j k : Nat} {x y : Int} (h : B j x) (h2 : B k y) (e : j + k < 1000000) : L2.CMulW x y := by
  unfold L2.CMulW
  have one : ∀ {k : Nat} {x : Int}, B k x → x.natAbs.log2 ≤ k := fun {k x} h => by
    by_cases q : x.natAbs = 0
    · rw [q]
      simp
    · exact Nat.le_of_lt ((Nat.log2_lt q).mpr h)
  have := one h
  have := one h2
  omega
structure CS (n : Int) (st : Tp Int) (un : Tp (Int × Int)) : Prop where
  ins : ∀ x ∈ st.l, 0 ≤ x ∧ x < n
  far : ∀ p ∈ un.l, 0 ≤ p.1 ∧ p.1 < st.l.length ∧ 0 ≤ p.2 ∧ p.2 < st.l.length ∧ st.l.getD p.1.toNat default ≠ st.l.getD p.2.toNat default
structure Mat (m : Gd) : Prop where
  len : m.length ≤ 4
  row : ∀ r ∈ m, r.length = m.length
  bd : ∀ r ∈ m, ∀ e ∈ r, -2199023255552 < e ∧ e < 2199023255552
def d3 (a b c d e f g h i : Int) : Int := a * (e * i - f * h) - b * (d * i - f * g) + c * (d * h - e * g)
def det : Gd → Int
  | [] => 1
  | [[a]] => a
  | [[a, b], [c, d]] => a * d - b * c
  | [[a, b, c], [d, e, f], [g, h, i]] => a * (e * i - f * h) - b * (d * i - f * g) + c * (d * h - e * g)
  | [[a, b, c, d], [e, f, g, h], [i, j, k, l], [m, n, o, p]] => a * d3 f g h j k l n o p - b * d3 e g h i k l m o p + c * d3 e f h i j l m n p - d * d3 e f g i j k m n o
  | _ => 0
/-- rates of a table: square, small -/
structure Tb (r : Tp (Tp Int)) : Prop extends Sq r where
  bd : ∀ x y : Int, 0 ≤ x → x < r.l.length → 0 ≤ y → y < r.l.length → 0 ≤ rat r x y ∧ rat r x y < 137438953472
theorem Ok.bd {g : Gd} (h : Ok g) {x y : Int} (h0 : 0 ≤ x) (h1 : x < g.length) (h2 : 0 ≤ y) (h3 : y < g.length) : 0 ≤ at2 g x y ∧ at2 g x y < 137438953472 := by
  have hx : x.toNat < g.length := by omega
  unfold at2
  rw [List.getD_eq_getElem?_getD (l := g), List.getElem?_eq_getElem hx]
  have hr := h.sq _ (List.getElem_mem hx)
  have hy : y.toNat < (g[x.toNat]).length := by omega
  rw [Option.getD_some, List.getD_eq_getElem?_getD, List.getElem?_eq_getElem hy]
  exact h.pos _ (List.getElem_mem hx) _ (List.getElem_mem hy)
theorem tOf_len (g : Gd) : (tOf g).l.length = g.length := by unfold tOf; rw [List.length_map]
theorem Ok.tb {g : Gd} (h : Ok g) : Tb (tOf g) := ⟨h.sqT, fun x y h0 h1 h2 h3 => by
  rw [tOf_len] at h1 h3
  rw [rat_tOf]
  exact h.bd h0 h1 h2 h3⟩
def keep (part roots : List Int) : List Int := part.filter fun x => !roots.contains x
def sumW (r : Tp (Tp Int)) (part roots : List Int) : Int := det (outR r part (keep part roots))
theorem sum_bd (f : Int → Int) : ∀ xs : List Int, (∀ z ∈ xs, 0 ≤ f z ∧ f z < 137438953472) → 0 ≤ (xs.map f).sum ∧ (xs.map f).sum ≤ 137438953472 * (xs.length : Int)
  | [], _ => by simp
  | x :: r, h => by
    have h1 := h x List.mem_cons_self
    have h2 := sum_bd f r fun z hz => h z (List.mem_cons_of_mem _ hz)
    simp only [List.map_cons,
          List.sum_cons, List.length_cons]
    omega
theorem mat_outR {r : Tp (Tp Int)} {part left : List Int} (h : Tb r) (h1 : Sts r.l.length part) (h2 : Sts r.l.length left) (l1 : part.length ≤ 8) (l2 : left.length ≤ 4) : Mat (outR r part left) := by
  refine ⟨by unfold outR; rw [List.length_map]; exact l2, fun w hw => ?_, fun w hw e he => ?_⟩
  · unfold outR at hw ⊢
    obtain ⟨x, _, rfl⟩ := List.mem_map.mp hw
    rw [List.length_map, List.length_map]
  · unfold outR at hw
    obtain ⟨x, hx, rfl⟩ := List.mem_map.mp hw
    obtain ⟨y, hy, rfl⟩ := List.mem_map.mp he
    have bx := h2 x hx
    have byy := h2 y hy
    have b1 := sum_bd (fun z => rat r x z) part fun z hz => h.bd x z (by omega) (by omega) (h1 z hz).1 (by have := (h1 z hz).2; omega)
    have b2 := h.bd x y (by omega) (by omega) (by omega) (by omega)
    split
    · omega
    · omega
theorem keep_sts {n : Nat} {part roots : List Int} (h : Sts n part) : Sts n (keep part roots) := h.filter _
theorem keep_len {part roots : List Int} : (keep part roots).length ≤ part.length := List.length_filter_le ..
theorem enumI_mem {α : Type} [Rep α] {xs : List α} {a : Int × α} (h : a ∈ enumI xs) : a.2 ∈ xs ∧ 0 ≤ a.1 ∧ a.1 < xs.length ∧ xs[a.1.toNat]? = some a.2 := by
  obtain ⟨i, hi⟩ := List.mem_iff_getElem?.mp h
  obtain ⟨h1, h2⟩ := enumI_get hi
  have h3 : i < xs.length := by
    by_cases q : i < xs.length
    · exact q
    · rw [List.getElem?_eq_none (by omega)] at h2
      cases h2
  refine ⟨List.mem_of_getElem? h2, by omega, by omega, ?_⟩
  rw [h1, show ((i : Int)).toNat = i by omega]
  exact h2
theorem enumI_mem' {α : Type} [Rep α] {xs : List α} {a : Int × α} {i : Nat} (h : (enumI xs)[i]? = some a) : a.2 ∈ xs ∧ 0 ≤ a.1 ∧ a.1 < xs.length ∧ xs[a.1.toNat]? = some a.2 := enumI_mem (List.mem_of_getElem? h)
theorem enumI_snd {α β : Type} [Rep α] (f : α → β) (xs : List α) : (enumI xs).map (fun a => f a.2) = xs.map f := by
  unfold enumI
  rw [List.map_map]
  show (xs.zipIdx).map (f ∘ Prod.fst) = _
  rw [← List.map_map, List.zipIdx_map_fst]
theorem early {xs : List Int} (hn : xs.Nodup) {a : Int × Int} (h : a ∈ enumI xs) : (cutA xs none (some a.1)).contains a.2 = false := by
  obtain ⟨h1, h2, h3, h4⟩ := enumI_mem h
  unfold cutA HT.sIx
  simp only []
  rw [if_neg (by omega), List.contains_eq_mem, decide_eq_false_iff_not]
  intro hm
  simp only [List.drop_zero, Nat.sub_zero] at hm
  obtain ⟨j, hj⟩ := List.mem_iff_getElem?.mp hm
  rw [List.getElem?_take] at hj
  by_cases hlt : j < min a.1.toNat xs.length
  · rw [if_pos hlt] at hj
    have e1 : xs[j]? = xs[a.1.toNat]? := by rw [hj, h4]
    have e2 := (List.getElem?_inj (i := j) (j := a.1.toNat) (by omega) hn).mp e1
    omega
  · rw [if_neg hlt] at hj
    cases hj
end Mi
local macro_rules | `(tactic| walk_at "ls wk") => `(tactic| repeat (first | exact LS.Pz.nil | refine LS.Pz.cons (.inl rfl) ?_ | refine LS.Pz.cons (.inr rfl) ?_))
namespace Mi
open LS
theorem Ok.diag {g : Gd} (h : Ok g) {x : Int} (h0 : 0 ≤ x) (h1 : x < g.length) : at2 g x x = 0 := by
  have := h.dg x.toNat (by omega)
  rw [Int.toNat_of_nonneg h0] at this
  exact this
theorem chk_row {g : Gd} (h : Ok g) {a : Int × List Int} (ha : a ∈ enumI g) : (a.2.length : Int) = g.length ∧ ∀ b ∈ enumI a.2, 0 ≤ b.2 ∧ (a.1 = b.1 → b.2 = 0) := by
  obtain ⟨h1, h2, h3, h4⟩ := enumI_mem ha
  have hl := h.sq _ h1
  refine ⟨by omega, fun b hb => ?_⟩
  obtain ⟨b1, b2, b3, b4⟩ := enumI_mem hb
  have e : at2 g a.1 b.1 = b.2 := by
    unfold at2
    rw [List.getD_eq_getElem?_getD (l := g), h4, Option.getD_some, List.getD_eq_getElem?_getD, b4, Option.getD_some]
  refine ⟨(h.pos _ h1 _ b1).1, fun q => ?_⟩
  rw [← e, ← q]
  exact h.diag h2 h3
def dets (rows : Gd) (col : List Int) : List Int := (rng rows.length).map fun at_ => det ((rows.zip col).map fun p => cutA p.1 none (some at_) ++ (p.2 :: (cutA p.1 (some (at_ + 1)) none ++ [])))
def froots (c : Int) (o : List Int) : List Int := [c] ++ o
def fleft (g : Gd) (c : Int) (o : List Int) : List Int := keep (rng g.length) (froots c o)
def frow (g : Gd) (c : Int) (o : List Int) : List Int := (rng g.length).map fun x =>
  if x = c then det (outR (tOf g) (rng g.length) (fleft g c o)) else (((fleft g c o).zip (dets (outR (tOf g) (rng g.length) (fleft g c o)) ((fleft g c o).map fun x => at2 g x c))).lookup x).getD 0
theorem frow_len {g : Gd} {c : Int} {o : List Int} : ((frow g c o).length : Int) = g.length := by
  unfold frow
  rw [List.length_map, rng_len]
  omega
def pushT (g : Gd) (c e : Int) : Gd := (rng g.length).map fun a => (rng g.length).map fun b => (frow g c (srt [e])).getD b.toNat default - (frow g c (srt [e])).getD a.toNat default
theorem mem2 {n : Int} {c e : Int} (hc : 0 ≤ c ∧ c < n) (he : 0 ≤ e ∧ e < n) : ∀ x ∈ [c, e], 0 ≤ x ∧ x < n := fun x hx => by
  simp only [List.mem_cons,
        List.not_mem_nil, or_false] at hx
  rcases hx with rfl | rfl <;> omega
theorem cs2 {t : Tbl} {c e : Int} (h : (Ok t.rows ∧ t.rows.length ≤ 5) ∧ 0 ≤ c ∧ c < t.rows.length ∧ 0 ≤ e ∧ e < t.rows.length ∧ c ≠ e) : CS t.rows.length (Tp.mk [c, e]) (Tp.mk [((0 : Int), (1 : Int))]) := by
  obtain ⟨h1, h2, h3, h4, h5, h6⟩ := h
  refine ⟨mem2 ⟨h2, h3⟩ ⟨h4, h5⟩, fun p hp => ?_⟩
  rw [List.mem_singleton.mp hp]
  exact ⟨by decide, by simp, by decide, by simp, h6⟩
theorem cs4 {t : Tbl} {a b c e : Int} (h : ((Ok t.rows ∧ t.rows.length ≤ 5) ∧ 0 ≤ c ∧ c < t.rows.length ∧ 0 ≤ e ∧ e < t.rows.length ∧ c ≠ e) ∧ 0 ≤ a ∧ a < t.rows.length ∧ 0 ≤ b ∧ b < t.rows.length ∧ a ≠ b) :
    CS t.rows.length (Tp.mk [a, b, c, e]) (Tp.mk [((0 : Int), (1 : Int)), ((2 : Int), (3 : Int))]) := by
  obtain ⟨⟨h1, h2, h3, h4, h5, h6⟩, g1, g2, g3, g4, g5⟩ := h
  refine ⟨fun x hx => ?_, fun p hp => ?_⟩
  · simp only [List.mem_cons, List.not_mem_nil, or_false] at hx
    rcases hx with rfl | rfl | rfl | rfl <;> omega
  · simp only [List.mem_cons, List.not_mem_nil, or_false] at hp
    rcases hp with rfl | rfl
    · exact ⟨by decide, by simp, by decide, by simp, g5⟩
    · exact ⟨by decide, by simp, by decide, by simp, h6⟩
theorem keep_cons {part : List Int} {c : Int} {o : List Int} : keep part ([c] ++ o) = (keep part o).filter fun x => !decide (x = c) := by
  unfold keep
  rw [List.filter_filter]
  refine List.filter_congr
        fun x _ => ?_
  rw [List.contains_eq_mem, List.contains_eq_mem]
  by_cases h1 : x = c <;> by_cases h2 : x ∈ o <;> simp [h1, h2]
theorem nodup_rng (n : Int) : (rng n).Nodup := by
  unfold rng
  exact List.pairwise_map.mpr (List.nodup_range.imp fun h q => h (Int.ofNat_inj.mp q))
theorem filter_ne_len {xs : List Int} (hn : xs.Nodup) {c : Int} (hc : c ∈ xs) : (xs.filter fun x => !decide (x = c)).length + 1 = xs.length := by
  induction xs with
  | nil => cases hc
  | cons a r ih =>
    have hn2 := List.nodup_cons.mp hn
    by_cases h : a = c
    · subst h
      rw [List.filter_cons_of_neg (by simp)]
      have : r.filter (fun x => !decide (x = a)) = r := List.filter_eq_self.mpr fun x hx => by
        have : x ≠ a := fun e => hn2.1 (e ▸ hx)
        simp [this]
      rw [this, List.length_cons]
    · rw [List.filter_cons_of_pos (by simp [h]), List.length_cons, List.length_cons]
      have hc2 : c ∈ r := by
        rcases List.mem_cons.mp hc with e | e
        · exact absurd e.symm h
        · exact e
      have := ih hn2.2 hc2
      omega
theorem mem_rng {n x : Int} : x ∈ rng n ↔ 0 ≤ x ∧ x < n := ⟨rng_mem, fun h => by
  unfold rng
  exact List.mem_map.mpr ⟨x.toNat, List.mem_range.mpr (by omega), by show ((x.toNat : Nat) : Int) = x; omega⟩⟩
/-- what is left of n states beside two or more roots -/
theorem left3 {n : Nat} (hn : n ≤ 5) {c e : Int} {o : List Int} (hc : 0 ≤ c ∧ c < n) (he : 0 ≤ e ∧ e < n) (h : e ∈ o) (hne : ¬ c ∈ o) : (keep (rng n) ([c] ++ o)).length ≤ 3 := by
  have h1 : (keep (rng n) ([c] ++ o)).length ≤ (((rng n).filter fun x => !decide (x = e)).filter fun x => !decide (x = c)).length := by
    unfold keep
    rw [List.filter_filter, ← List.countP_eq_length_filter, ← List.countP_eq_length_filter]
    refine List.countP_mono_left fun x _ hx => ?_
    simp only [Bool.not_eq_true', List.contains_eq_mem, decide_eq_false_iff_not, List.singleton_append, List.mem_cons, not_or] at hx
    have : x ≠ e := fun q => hx.2 (q ▸ h)
    simp [hx.1, this]
  have hec : c ≠ e := fun q => hne (q ▸ h)
  have h2 := filter_ne_len (nodup_rng n) (mem_rng.mpr he)
  have h3 := filter_ne_len (xs := (rng n).filter fun x => !decide (x = e)) ((nodup_rng n).filter _) (c := c) (List.mem_filter.mpr ⟨mem_rng.mpr hc, by simp [hec]⟩)
  rw [rng_len] at h2
  omega
theorem so2 {t : Tbl} {c e : Int} (h : (Ok t.rows ∧ t.rows.length ≤ 5) ∧ 0 ≤ c ∧ c < t.rows.length ∧ 0 ≤ e ∧ e < t.rows.length ∧ c ≠ e) : Tb (tOf t.rows) ∧ (keep (rng (tOf t.rows).l.length) [c, e]).length ≤ 4 := by
  obtain ⟨h1, h2, h3, h4, h5, h6⟩ := h
  refine ⟨h1.1.tb, ?_⟩
  rw [tOf_len]
  exact Nat.le_succ_of_le (left3 (o := [e]) h1.2 ⟨h2, h3⟩ ⟨h4, h5⟩ (by simp) (by simpa using h6))
/-- what is left of n states beside one root -/
theorem left4 {n : Nat} (hn : n ≤ 5) {c : Int} (hc : 0 ≤ c ∧ c < n) : (keep (rng n) [c]).length ≤ 4 := by
  have h2 := filter_ne_len (nodup_rng n) (mem_rng.mpr hc)
  rw [rng_len] at h2
  have e : keep (rng n) [c] = (rng n).filter fun x => !decide (x = c) := List.filter_congr fun x _ => by simp [List.contains_eq_mem]
  rw [e]
  omega
theorem fr2 {t : Tbl} {c e : Int} (h : (Ok t.rows ∧ t.rows.length ≤ 5) ∧ 0 ≤ c ∧ c < t.rows.length ∧ 0 ≤ e ∧ e < t.rows.length ∧ c ≠ e) :
    (Ok t.rows ∧ t.rows.length ≤ 5) ∧ 0 ≤ c ∧ c < t.rows.length ∧ (∀ x ∈ [e], 0 ≤ x ∧ x < (t.rows.length : Int)) ∧ [e].Nodup ∧ ¬ c ∈ [e] ∧ 1 ≤ [e].length ∧ [e].length ≤ 5 := by
  obtain ⟨h1, h2, h3, h4, h5, h6⟩ := h
  exact ⟨h1, h2, h3, fun x hx => by rw [List.mem_singleton.mp hx]; exact ⟨h4, h5⟩, by simp, by simpa using h6, by simp, by simp⟩
def prs (n : Int) : List (Int × Int) := (rng n).flatMap fun x => ((rng n).filter fun y => !decide (x = y)).map fun y => (x, y)
theorem flat_len {α β : Type} (f : α → List β) (k : Nat) : ∀ xs : List α, (∀ x ∈ xs, (f x).length ≤ k) → (xs.flatMap f).length ≤ xs.length * k
  | [], _ => by simp
  | x :: r, h => by
    have h1 := h x List.mem_cons_self
    have h2 := flat_len f k r fun z hz => h z (List.mem_cons_of_mem _ hz)
    rw [List.flatMap_cons, List.length_append, List.length_cons, Nat.succ_mul]
    omega
theorem prs_few {n : Int} (h : 0 ≤ n ∧ n ≤ 8) : ((rng n).flatMap fun _ => rng n).length ≤ 40000 := by
  have h1 := flat_len (fun _ : Int => rng n) 8 (rng n) fun _ _ => by rw [rng_len]; omega
  rw [rng_len] at h1
  omega
end Mi
namespace Mi
open LS
theorem cut1_len {α : Type} [Rep α] (xs : List α) : (cutA xs (some 1) none).length ≤ xs.length - 1 := by
  unfold cutA HT.sIx
  simp
  omega
structure RedP (row top : List Int) (d : Int) : Prop where
  r1 : 1 ≤ row.length
  t1 : 1 ≤ top.length
  r2 : row.length ≤ 8
  rb : ∀ e ∈ row, B 3000 e
  tb : ∀ e ∈ top, B 3000 e
  db : d ≠ 0 ∧ B 3000 d
theorem cut1_mem {α : Type} [Rep α] {xs : List α} {lo hi : Option Int} {x : α} (h : x ∈ cutA xs lo hi) : x ∈ xs := by
  unfold cutA at h
  exact List.mem_of_mem_drop (List.mem_of_mem_take h)
theorem B.at {k : Nat} {xs : List Int} (h : ∀ e ∈ xs, B k e) (i : Nat) : B k (xs.getD i default) := by
  rw
        [List.getD_eq_getElem?_getD]
  cases q : xs[i]? with
  | none => exact Nat.pos_of_ne_zero (by simp)
  | some v => exact h v (List.mem_of_getElem? q)
theorem RedP.len {row top : List Int} {d : Int} (h : RedP row top d) : ((cutA row (some 1) none).zip (cutA top (some 1) none)).length ≤ 40000 := by
  have := cut1_len row
  have := h.r2
  rw [List.length_zip]
  omega
theorem RedP.m1 {row top : List Int} {d : Int} (h : RedP row top d) {a : Int × Int} (ha : a ∈ (cutA row (some 1) none).zip (cutA top (some 1) none)) : L2.CMulW (top.getD (0 : Int).toNat default) a.1 :=
  (B.at h.tb _).w (h.rb _ (cut1_mem (List.of_mem_zip (show (a.1, a.2) ∈ _ from ha)).1)) (by decide)
theorem RedP.m2 {row top : List Int} {d : Int} (h : RedP row top d) {a : Int × Int} (ha : a ∈ (cutA row (some 1) none).zip (cutA top (some 1) none)) : L2.CMulW (row.getD (0 : Int).toNat default) a.2 :=
  (B.at h.rb _).w (h.tb _ (cut1_mem (List.of_mem_zip (show (a.1, a.2) ∈ _ from ha)).2)) (by decide)
theorem B.log {k : Nat} {x : Int} (h : B k x) : x.natAbs.log2 ≤ k := by
  by_cases q : x.natAbs = 0
  · rw [q]
    simp
  · exact Nat.le_of_lt ((Nat.log2_lt q).mpr h)
theorem RedP.div {row top : List Int} {d : Int} (h : RedP row top d) : LS.CDivV (0 : Int) d := ⟨h.db.1, by have := h.db.2.log; omega⟩
end Mi
namespace Mi
open LS
def hd0 (r : List Int) : Int := r.getD (0 : Int).toNat default
def pls (l : Gd) : List Int := ((enumI l).filter fun a => !decide (hd0 a.2 = 0)).map fun a => a.1
def nxt (l : Gd) (p d : Int) : Gd := (l.eraseIdx p.toNat).map fun row => reduced row (l.getD p.toNat default) d
def alg : Nat → Gd → Int → Int → Int
  | 0, _, s, d => s * d
  | n + 1, l, s, d => match pls l with
    | [] => 0
    | p :: _ => alg n (nxt l p d) (if decide (p % 2 = 1) = true then -s else s) (hd0 (l.getD p.toNat default))
def Good : Nat → Gd → Int → Prop
  | 0, l, _ => l.length = 0
  | n + 1, l, d => l.length = n + 1 ∧ (∀ row ∈ l, row.length = n + 1) ∧ ((∀ row ∈ l, ∀ e ∈ row, B 3000 e) ∧ d ≠ 0 ∧ B 3000 d) ∧
      ∀ p r, pls l = p :: r → Good n (nxt l p d) (hd0 (l.getD p.toNat default))
theorem pls_mem {l : Gd} {p : Int} {r : List Int} (h : pls l = p :: r) : 0 ≤ p ∧ p < l.length ∧ hd0 (l.getD p.toNat default) ≠ 0 ∧ l[p.toNat]? = some (l.getD p.toNat default) := by
  have hm : p ∈ pls l := by rw [h]; exact List.mem_cons_self
  unfold pls at hm
  obtain ⟨a, ha, rfl⟩ := List.mem_map.mp hm
  obtain ⟨h1, h2⟩ := List.mem_filter.mp ha
  obtain ⟨e1, e2, e3, e4⟩ := enumI_mem h1
  have e5 : l.getD a.1.toNat default = a.2 := by rw [List.getD_eq_getElem?_getD, e4]; rfl
  rw [e5]
  refine ⟨e2, e3, ?_, e4⟩
  simpa using h2
theorem reduced_len (row top : List Int) (d : Int) : (reduced row top d).length = min (row.length - 1) (top.length - 1) := by
  unfold reduced cutA HT.sIx
  simp
  omega
theorem nxt_len {l : Gd} {p d : Int} (h0 : 0 ≤ p) (h1 : p < l.length) : (nxt l p d).length + 1 = l.length := by
  unfold nxt
  rw [List.length_map, List.length_eraseIdx]
  rw [if_pos (by omega)]
  omega
theorem nxt_row {l : Gd} {p d : Int} {n : Nat} (h : ∀ row ∈ l, row.length = n + 1) (h0 : 0 ≤ p) (h1 : p < l.length) : ∀ row ∈ nxt l p d, row.length = n := fun row hr => by
  unfold nxt at hr
  obtain ⟨r, hw, rfl⟩ := List.mem_map.mp hr
  rw [reduced_len]
  have h2 := h r (List.mem_of_mem_eraseIdx hw)
  have h3 : (l.getD p.toNat default).length = n + 1 := by
    rw [List.getD_eq_getElem?_getD, List.getElem?_eq_getElem (show p.toNat < l.length by omega)]
    exact h _ (List.getElem_mem _)
  omega
theorem good_red {n : Nat} {l : Gd} {d p : Int} {r : List Int} (h : Good (n + 1) l d) (hn : n + 1 ≤ 8) (hp : pls l = p :: r) {row : List Int} (hr : row ∈ l.eraseIdx p.toNat) : RedP row (l.getD p.toNat default) d := by
  obtain ⟨h1, h2, ⟨b, d1, d2⟩, h4⟩ := h
  obtain ⟨p0, p1, p2, p3⟩ := pls_mem hp
  have m1 := List.mem_of_mem_eraseIdx hr
  have m2 : l.getD p.toNat default ∈ l := List.mem_of_getElem? p3
  exact ⟨by have := h2 _ m1; omega, by have := h2 _ m2; omega, by have := h2 _ m1; omega, b _ m1, b _ m2, d1, d2⟩
theorem B.fdiv {k : Nat} {x d : Int} (h : B k x) (hd : d ≠ 0) : B k (x.fdiv d) := by
  have pos : ∀ (x d : Int), 0 < d → (x.fdiv d).natAbs ≤ x.natAbs := fun x d hd => by
    rw [Int.fdiv_eq_ediv_of_nonneg x (by omega)]
    by_cases hx : 0 ≤ x
    · have h1 : x / d ≤ x := Int.ediv_le_self d hx
      have h2 : 0 ≤ x / d := Int.ediv_nonneg hx (by omega)
      omega
    · have h1 : x ≤ x / d := (Int.le_ediv_iff_mul_le hd).mpr (by
        have := Int.mul_le_mul_of_nonneg_left (show (1 : Int) ≤ d by omega) (show 0 ≤ -x by omega)
        rw [Int.neg_mul, Int.neg_mul, Int.mul_one] at this
        omega)
      have h2 : x / d < 0 := Int.ediv_neg_of_neg_of_pos (by omega) hd
      omega
  have := (show (x.fdiv d).natAbs ≤ x.natAbs by
    by_cases q : 0 < d
    · exact pos x d q
    · have := pos (-x) (-d) (by omega)
      rw [Int.neg_fdiv_neg, Int.natAbs_neg] at this
      exact this)
  exact Nat.lt_of_le_of_lt this h
theorem nxt_bd {l : Gd} {p d : Int} {k : Nat} (h : ∀ row ∈ l, ∀ e ∈ row, B k e) (hd : d ≠ 0) (p3 : l[p.toNat]? = some (l.getD p.toNat default)) : ∀ row ∈ nxt l p d, ∀ e ∈ row, B (2 * k + 1) e := fun row hr e he => by
  unfold nxt at hr
  obtain ⟨w, hw, rfl⟩ := List.mem_map.mp hr
  unfold reduced at he
  obtain ⟨a, ha, rfl⟩ := List.mem_map.mp he
  have ht := h _ (List.mem_of_getElem? p3)
  have hw2 := h _ (List.mem_of_mem_eraseIdx hw)
  have m := List.of_mem_zip (show (a.1, a.2) ∈ _ from ha)
  have b1 := (B.at ht (0 : Int).toNat).mul (hw2 _ (cut1_mem m.1))
  have b2 := (B.at hw2 (0 : Int).toNat).mul (ht _ (cut1_mem m.2))
  have b3 := (b1.sub b2).fdiv hd
  rw [show k + k + 1 = 2 * k + 1 by omega] at b3
  exact b3
def bits : Nat → Nat → Nat
  | 0, k => k
  | n + 1, k => bits n (2 * k + 1)
theorem bits_le : ∀ (n k : Nat), k ≤ bits n k
  | 0, _ => Nat.le_refl _
  | n + 1, k => Nat.le_trans (by omega) (bits_le n (2 * k + 1))
theorem good_of : ∀ (n k : Nat) (l : Gd) (d : Int), bits n k ≤ 3000 → l.length = n → (∀ row ∈ l, row.length = n) → (∀ row ∈ l, ∀ e ∈ row, B k e) → d ≠ 0 → B k d → Good n l d
  | 0, _, _, _, _, hl, _, _, _, _ => hl
  | n + 1, k, l, d, hb, hl, hr, he, d0, d1 => by
    have k3 : k ≤ 3000 := Nat.le_trans (bits_le (n + 1) k) hb
    refine ⟨hl, hr, ⟨fun row h e h2 => (he row h e h2).up k3, d0, d1.up k3⟩, fun p r hp => ?_⟩
    obtain ⟨p0, p1, p2, p3⟩ := pls_mem hp
    have := nxt_len (d := d) p0 p1
    refine good_of n (2 * k + 1) _ _ hb (by omega) (nxt_row hr p0 p1) (nxt_bd he d0 p3) p2 ?_
    exact (B.at (he _ (List.mem_of_getElem? p3)) _).up (by omega)
theorem mat_good {m : Gd} (h : Mat m) : Good m.length m 1 := by
  refine good_of m.length 41 m 1 ?_ rfl h.row (fun r hr e he => ?_) (by decide) (show (1 : Int).natAbs < 2 ^ 41 by decide)
  · have := h.len
    match hm : m.length, this with
    | 0, _ => decide
    | 1, _ => decide
    | 2, _ => decide
    | 3, _ => decide
    | 4, _ => decide
  · have := h.bd r hr e he
    show e.natAbs < 2 ^ 41
    omega
theorem pls_nil : pls [] = [] := rfl
theorem pls1 (a : List Int) : pls [a] = if hd0 a = 0 then [] else [0] := by
  unfold pls enumI
  by_cases h : hd0 a = 0 <;> simp [h]
theorem pls2 (a b : List Int) : pls [a, b] = (if hd0 a = 0 then [] else [0]) ++ (if hd0 b = 0 then [] else [1]) := by
  unfold pls enumI
  by_cases h : hd0 a = 0 <;> by_cases h2 : hd0 b = 0 <;> simp [h, h2]
theorem pls3 (a b c : List Int) : pls [a, b, c] = (if hd0 a = 0 then [] else [0]) ++ (if hd0 b = 0 then [] else [1]) ++ (if hd0 c = 0 then [] else [2]) := by
  unfold pls enumI
  by_cases h : hd0 a = 0 <;> by_cases h2 : hd0 b = 0 <;> by_cases h3 : hd0 c = 0 <;> simp [h, h2, h3]
theorem red2 (a b c e d : Int) : reduced [a, b] [c, e] d = [(c * b - a * e).fdiv d] := by
  unfold reduced cutA HT.sIx
  simp
theorem red3 (a b z c e y d : Int) : reduced [a, b, z] [c, e, y] d = [(c * b - a * e).fdiv d, (c * z - a * y).fdiv d] := by
  unfold reduced cutA HT.sIx
  simp
theorem alg1 (a s d : Int) : alg 1 [[a]] s d = s * a := by
  unfold alg
  rw [pls1]
  by_cases h : a = 0
  · subst h
    rw [if_pos (show hd0 [(0 : Int)] = 0 from rfl), Int.mul_zero]
  · rw [if_neg (show ¬ hd0 [a] = 0 from h)]
    rfl
theorem alg2 (a b c e s d : Int) (hd : d ≠ 0) (k : Int) (hk : a * e - b * c = d * k) : alg 2 [[a, b], [c, e]] s d = s * k := by
  unfold alg
  rw [pls2]
  by_cases h : a = 0
  · rw [if_pos (show hd0 [a, b] = 0 from h)]
    by_cases h2 : c = 0
    · rw [if_pos (show hd0 [c, e] = 0 from h2)]
      subst h
      subst h2
      have : d * k = 0 := by rw [← hk]; simp
      rcases Int.mul_eq_zero.mp this with q | q
      · exact absurd q hd
      · rw [q, Int.mul_zero]
        rfl
    · rw [if_neg (show ¬ hd0 [c, e] = 0 from h2)]
      show alg 1 [reduced [a, b] [c, e] d] (-s) c = _
      rw [red2, alg1]
      have : (c * b - a * e) = d * (-k) := by rw [Int.mul_neg, ← hk, Int.mul_comm b c]; omega
      rw [this, Int.mul_fdiv_cancel_left _ hd, Int.neg_mul, Int.mul_neg, Int.neg_neg]
  · rw [if_neg (show ¬ hd0 [a, b] = 0 from h)]
    show alg 1 [reduced [c, e] [a, b] d] s a = _
    rw [red2, alg1]
    have : (a * e - c * b) = d * k := by rw [← hk, Int.mul_comm b c]
    rw [this, Int.mul_fdiv_cancel_left _ hd]
theorem alg3 (a b c d e f g h i : Int) : alg 3 [[a, b, c], [d, e, f], [g, h, i]] 1 1 = det [[a, b, c], [d, e, f], [g, h, i]] := by
  have one : ∀ x : Int, x.fdiv 1 = x := Int.fdiv_one
  unfold alg
  rw [pls3]
  by_cases h1 : a = 0
  · rw [if_pos (show hd0 [a, b, c] = 0 from h1)]
    by_cases h2 : d = 0
    · rw [if_pos (show hd0 [d, e, f] = 0 from h2)]
      by_cases h3 : g = 0
      · rw [if_pos (show hd0 [g, h, i] = 0 from h3)]
        subst h1
        subst h2
        subst h3
        simp [det]
      · rw [if_neg (show ¬ hd0 [g, h, i] = 0 from h3)]
        show alg 2 [reduced [a, b, c] [g, h, i] 1, reduced [d, e, f] [g, h, i] 1] 1 g = _
        rw [red3, red3, one, one, one, one, alg2 _ _ _ _ _ _ h3 (det [[a, b, c], [d, e, f], [g, h, i]]) (by unfold det; grind)]
        omega
    · rw [if_neg (show ¬ hd0 [d, e, f] = 0 from h2)]
      show alg 2 [reduced [a, b, c] [d, e, f] 1, reduced [g, h, i] [d, e, f] 1] (-1) d = _
      rw [red3, red3, one, one, one, one, alg2 _ _ _ _ _ _ h2 (-(det [[a, b, c], [d, e, f], [g, h, i]])) (by unfold det; grind)]
      omega
  · rw [if_neg (show ¬ hd0 [a, b, c] = 0 from h1)]
    show alg 2 [reduced [d, e, f] [a, b, c] 1, reduced [g, h, i] [a, b, c] 1] 1 a = _
    rw [red3, red3, one, one, one, one, alg2 _ _ _ _ _ _ h1 (det [[a, b, c], [d, e, f], [g, h, i]]) (by unfold det; grind)]
    omega
theorem pls4 (a b c e : List Int) : pls [a, b, c, e] = (if hd0 a = 0 then [] else [0]) ++ (if hd0 b = 0 then [] else [1]) ++ (if hd0 c = 0 then [] else [2]) ++ (if hd0 e = 0 then [] else [3]) := by
  unfold pls enumI
  by_cases h : hd0 a = 0 <;> by_cases h2 : hd0 b = 0 <;> by_cases h3 : hd0 c = 0 <;> by_cases h4 : hd0 e = 0 <;> simp [h, h2, h3, h4]
theorem red4 (a b z u c e y v d : Int) : reduced [a, b, z, u] [c, e, y, v] d = [(c * b - a * e).fdiv d, (c * z - a * y).fdiv d, (c * u - a * v).fdiv d] := by
  unfold reduced cutA HT.sIx
  simp
def d4 (a b c d e f g h i j k l m n o p : Int) : Int := a * d3 f g h j k l n o p - b * d3 e g h i k l m o p + c * d3 e f h i j l m n p - d * d3 e f g i j k m n o
theorem sylv (t0 t1 t2 t3 x0 x1 x2 x3 y0 y1 y2 y3 z0 z1 z2 z3 : Int) : d3 t0 t1 t2 x0 x1 x2 y0 y1 y2 * d3 t0 t1 t3 x0 x1 x3 z0 z1 z3 - d3 t0 t1 t3 x0 x1 x3 y0 y1 y3 * d3 t0 t1 t2 x0 x1 x2 z0 z1 z2 = (t0 * x1 - x0 * t1) * d4 t0 t1 t2 t3 x0 x1 x2 x3 y0 y1 y2 y3 z0 z1 z2 z3 := by
  unfold d4 d3
  grind
theorem mino (t0 t1 t2 x0 x1 x2 y0 y1 y2 : Int) : (t0 * x1 - x0 * t1) * (t0 * y2 - y0 * t2) - (t0 * y1 - y0 * t1) * (t0 * x2 - x0 * t2) = t0 * d3 t0 t1 t2 x0 x1 x2 y0 y1 y2 := by
  unfold d3
  grind
/-- three rows behind a first one, the first of them on top -/
theorem top3 (t0 t1 t2 t3 x0 x1 x2 x3 y0 y1 y2 y3 z0 z1 z2 z3 s : Int) (ht : t0 ≠ 0) (hx : t0 * x1 - x0 * t1 ≠ 0) :
    alg 2 [reduced [t0 * y1 - y0 * t1, t0 * y2 - y0 * t2, t0 * y3 - y0 * t3] [t0 * x1 - x0 * t1, t0 * x2 - x0 * t2, t0 * x3 - x0 * t3] t0, reduced [t0 * z1 - z0 * t1, t0 * z2 - z0 * t2, t0 * z3 - z0 * t3] [t0 * x1 - x0 * t1, t0 * x2 - x0 * t2, t0 * x3 - x0 * t3] t0] s (t0 * x1 - x0 * t1) = s * d4 t0 t1 t2 t3 x0 x1 x2 x3 y0 y1 y2 y3 z0 z1 z2 z3 := by
  rw [red3, red3, mino, mino, mino, mino, Int.mul_fdiv_cancel_left _ ht, Int.mul_fdiv_cancel_left _ ht, Int.mul_fdiv_cancel_left _ ht, Int.mul_fdiv_cancel_left _ ht]
  exact alg2 _ _ _ _ _ _ hx _ (sylv ..)
theorem d4_2 (t0 t1 t2 t3 x0 x1 x2 x3 y0 y1 y2 y3 z0 z1 z2 z3 : Int) : d4 t0 t1 t2 t3 y0 y1 y2 y3 x0 x1 x2 x3 z0 z1 z2 z3 = -(d4 t0 t1 t2 t3 x0 x1 x2 x3 y0 y1 y2 y3 z0 z1 z2 z3) := by
  unfold d4 d3
  grind
theorem d4_3 (t0 t1 t2 t3 x0 x1 x2 x3 y0 y1 y2 y3 z0 z1 z2 z3 : Int) : d4 t0 t1 t2 t3 z0 z1 z2 z3 x0 x1 x2 x3 y0 y1 y2 y3 = d4 t0 t1 t2 t3 x0 x1 x2 x3 y0 y1 y2 y3 z0 z1 z2 z3 := by
  unfold d4 d3
  grind
theorem d4_1 (t0 t1 t2 t3 x0 x1 x2 x3 y0 y1 y2 y3 z0 z1 z2 z3 : Int) : d4 x0 x1 x2 x3 t0 t1 t2 t3 y0 y1 y2 y3 z0 z1 z2 z3 = -(d4 t0 t1 t2 t3 x0 x1 x2 x3 y0 y1 y2 y3 z0 z1 z2 z3) := by
  unfold d4 d3
  grind
theorem flat0 (t0 t1 t2 t3 x0 x1 x2 x3 y0 y1 y2 y3 z0 z1 z2 z3 : Int) (ht : t0 ≠ 0) (h1 : t0 * x1 - x0 * t1 = 0) (h2 : t0 * y1 - y0 * t1 = 0) (h3 : t0 * z1 - z0 * t1 = 0) : d4 t0 t1 t2 t3 x0 x1 x2 x3 y0 y1 y2 y3 z0 z1 z2 z3 = 0 := by
  have e : t0 * t0 * d4 t0 t1 t2 t3 x0 x1 x2 x3 y0 y1 y2 y3 z0 z1 z2 z3 = d3 (t0 * x1 - x0 * t1) (t0 * x2 - x0 * t2) (t0 * x3 - x0 * t3) (t0 * y1 - y0 * t1) (t0 * y2 - y0 * t2) (t0 * y3 - y0 * t3) (t0 * z1 - z0 * t1) (t0 * z2 - z0 * t2) (t0 * z3 - z0 * t3) := by
    unfold d4 d3
    grind
  rw [h1, h2, h3] at e
  have e2 : t0 * t0 * d4 t0 t1 t2 t3 x0 x1 x2 x3 y0 y1 y2 y3 z0 z1 z2 z3 = 0 := by
    rw [e]
    unfold d3
    grind
  rcases Int.mul_eq_zero.mp e2 with q | q
  · rcases Int.mul_eq_zero.mp q with q | q <;> exact absurd q ht
  · exact q
theorem alg3t (t0 t1 t2 t3 x0 x1 x2 x3 y0 y1 y2 y3 z0 z1 z2 z3 s : Int) (ht : t0 ≠ 0) :
    alg 3 [reduced [x0, x1, x2, x3] [t0, t1, t2, t3] 1, reduced [y0, y1, y2, y3] [t0, t1, t2, t3] 1, reduced [z0, z1, z2, z3] [t0, t1, t2, t3] 1] s t0 = s * d4 t0 t1 t2 t3 x0 x1 x2 x3 y0 y1 y2 y3 z0 z1 z2 z3 := by
  rw [red4, red4, red4]
  simp only [Int.fdiv_one]
  unfold alg
  rw [pls3]
  by_cases h1 : t0 * x1 - x0 * t1 = 0
  · rw [if_pos (show hd0 [t0 * x1 - x0 * t1, t0 * x2 - x0 * t2, t0 * x3 - x0 * t3] = 0 from h1)]
    by_cases h2 : t0 * y1 - y0 * t1 = 0
    · rw [if_pos (show hd0 [t0 * y1 - y0 * t1, t0 * y2 - y0 * t2, t0 * y3 - y0 * t3] = 0 from h2)]
      by_cases h3 : t0 * z1 - z0 * t1 = 0
      · rw [if_pos (show hd0 [t0 * z1 - z0 * t1, t0 * z2 - z0 * t2, t0 * z3 - z0 * t3] = 0 from h3), flat0 _ _ _ _ _ _ _ _ _ _ _ _ _ _ _ _ ht h1 h2 h3, Int.mul_zero]
        rfl
      · rw [if_neg (show ¬ hd0 [t0 * z1 - z0 * t1, t0 * z2 - z0 * t2, t0 * z3 - z0 * t3] = 0 from h3)]
        show alg 2 [reduced [t0 * x1 - x0 * t1, t0 * x2 - x0 * t2, t0 * x3 - x0 * t3] [t0 * z1 - z0 * t1, t0 * z2 - z0 * t2, t0 * z3 - z0 * t3] t0, reduced [t0 * y1 - y0 * t1, t0 * y2 - y0 * t2, t0 * y3 - y0 * t3] [t0 * z1 - z0 * t1, t0 * z2 - z0 * t2, t0 * z3 - z0 * t3] t0] s (t0 * z1 - z0 * t1) = _
        rw [top3 _ _ _ _ _ _ _ _ _ _ _ _ _ _ _ _ _ ht h3, d4_3]
    · rw [if_neg (show ¬ hd0 [t0 * y1 - y0 * t1, t0 * y2 - y0 * t2, t0 * y3 - y0 * t3] = 0 from h2)]
      show alg 2 [reduced [t0 * x1 - x0 * t1, t0 * x2 - x0 * t2, t0 * x3 - x0 * t3] [t0 * y1 - y0 * t1, t0 * y2 - y0 * t2, t0 * y3 - y0 * t3] t0, reduced [t0 * z1 - z0 * t1, t0 * z2 - z0 * t2, t0 * z3 - z0 * t3] [t0 * y1 - y0 * t1, t0 * y2 - y0 * t2, t0 * y3 - y0 * t3] t0] (-s) (t0 * y1 - y0 * t1) = _
      rw [top3 _ _ _ _ _ _ _ _ _ _ _ _ _ _ _ _ _ ht h2, d4_2, Int.neg_mul_neg]
  · rw [if_neg (show ¬ hd0 [t0 * x1 - x0 * t1, t0 * x2 - x0 * t2, t0 * x3 - x0 * t3] = 0 from h1)]
    show alg 2 [reduced [t0 * y1 - y0 * t1, t0 * y2 - y0 * t2, t0 * y3 - y0 * t3] [t0 * x1 - x0 * t1, t0 * x2 - x0 * t2, t0 * x3 - x0 * t3] t0, reduced [t0 * z1 - z0 * t1, t0 * z2 - z0 * t2, t0 * z3 - z0 * t3] [t0 * x1 - x0 * t1, t0 * x2 - x0 * t2, t0 * x3 - x0 * t3] t0] s (t0 * x1 - x0 * t1) = _
    exact top3 _ _ _ _ _ _ _ _ _ _ _ _ _ _ _ _ _ ht h1
theorem alg4 (a b c d e f g h i j k l m n o p : Int) : alg 4 [[a, b, c, d], [e, f, g, h], [i, j, k, l], [m, n, o, p]] 1 1 = d4 a b c d e f g h i j k l m n o p := by
  unfold alg
  rw [pls4]
  by_cases h1 : a = 0
  · rw [if_pos (show hd0 [a, b, c, d] = 0 from h1)]
    by_cases h2 : e = 0
    · rw [if_pos (show hd0 [e, f, g, h] = 0 from h2)]
      by_cases h3 : i = 0
      · rw [if_pos (show hd0 [i, j, k, l] = 0 from h3)]
        by_cases h4 : m = 0
        · rw [if_pos (show hd0 [m, n, o, p] = 0 from h4)]
          subst h1
          subst h2
          subst h3
          subst h4
          show (0 : Int) = _
          unfold d4 d3
          grind
        · rw [if_neg (show ¬ hd0 [m, n, o, p] = 0 from h4)]
          show alg 3 [reduced [a, b, c, d] [m, n, o, p] 1, reduced [e, f, g, h] [m, n, o, p] 1, reduced [i, j, k, l] [m, n, o, p] 1] (-1) m = _
          rw [alg3t _ _ _ _ _ _ _ _ _ _ _ _ _ _ _ _ _ h4]
          unfold d4 d3
          grind
      · rw [if_neg (show ¬ hd0 [i, j, k, l] = 0 from h3)]
        show alg 3 [reduced [a, b, c, d] [i, j, k, l] 1, reduced [e, f, g, h] [i, j, k, l] 1, reduced [m, n, o, p] [i, j, k, l] 1] 1 i = _
        rw [alg3t _ _ _ _ _ _ _ _ _ _ _ _ _ _ _ _ _ h3]
        unfold d4 d3
        grind
    · rw [if_neg (show ¬ hd0 [e, f, g, h] = 0 from h2)]
      show alg 3 [reduced [a, b, c, d] [e, f, g, h] 1, reduced [i, j, k, l] [e, f, g, h] 1, reduced [m, n, o, p] [e, f, g, h] 1] (-1) e = _
      rw [alg3t _ _ _ _ _ _ _ _ _ _ _ _ _ _ _ _ _ h2, d4_1]
      omega
  · rw [if_neg (show ¬ hd0 [a, b, c, d] = 0 from h1)]
    show alg 3 [reduced [e, f, g, h] [a, b, c, d] 1, reduced [i, j, k, l] [a, b, c, d] 1, reduced [m, n, o, p] [a, b, c, d] 1] 1 a = _
    rw [alg3t _ _ _ _ _ _ _ _ _ _ _ _ _ _ _ _ _ h1]
    omega
theorem mat_alg {m : Gd} (h : Mat m) : alg m.length m 1 1 = det m := by
  have hl := h.len
  have hr := h.row
  clear h
  match m, hl, hr with
  | [], _, _ => rfl
  | [r], _, hr =>
    have h1 := hr r (by simp)
    match r, h1 with
    | [a], _ =>
      show alg 1 [[a]] 1 1 = a
      rw [alg1]
      omega
  | [r, s], _, hr =>
    have h1 := hr r (by simp)
    have h2 := hr s (by simp)
    match r, s, h1, h2 with
    | [a, b], [c, e], _, _ =>
      show alg 2 [[a, b], [c, e]] 1 1 = a * e - b * c
      rw [alg2 _ _ _ _ _ _ (by decide) (a * e - b * c) (by omega)]
      omega
  | [r, s, t], _, hr =>
    have h1 := hr r (by simp)
    have h2 := hr s (by simp)
    have h3 := hr t (by simp)
    match r, s, t, h1, h2, h3 with
    | [a, b, c], [d, e, f], [g, h, i], _, _, _ => exact alg3 a b c d e f g h i
  | [r, s, t, u], _, hr =>
    have h1 := hr r (by simp)
    have h2 := hr s (by simp)
    have h3 := hr t (by simp)
    have h4 := hr u (by simp)
    match r, s, t, u, h1, h2, h3, h4 with
    | [a, b, c, d], [e, f, g, h], [i, j, k, l], [m, n, o, p], _, _, _, _ => exact alg4 a b c d e f g h i j k l m n o p
end Mi
namespace Mi
open LS
theorem en_pos {n : Nat} {l : Gd} {d : Int} (h : Good (n + 1) l d) {a : Int × List Int} (ha : a ∈ enumI l) : (0 : Int) < a.2.length := by
  have := h.2.1 _ (enumI_mem ha).1
  omega
theorem top_pos {n : Nat} {l : Gd} {d p : Int} {r : List Int} (h : Good (n + 1) l d) (hp : pls l = p :: r) : (0 : Int) < (l.getD p.toNat default).length := by
  have := h.2.1 _ (List.mem_of_getElem? (pls_mem hp).2.2.2)
  omega
end Mi
namespace Mi
open LS
theorem cutTo_len {xs : List Int} {a : Int} (h0 : 0 ≤ a) : (cutA xs none (some a)).length = min a.toNat xs.length := by
  unfold cutA HT.sIx
  simp only []
  rw [if_neg (by omega)]
  simp
theorem cutFr_len {xs : List Int} {a : Int} (h0 : 0 ≤ a) : (cutA xs (some a) none).length = xs.length - a.toNat := by
  unfold cutA HT.sIx
  simp only []
  rw [if_neg (by omega)]
  simp
  omega
theorem cut_mem {α : Type} [Rep α] {xs : List α} {lo hi : Option Int} {x : α} (h : x ∈ cutA xs lo hi) : x ∈ xs := by
  unfold cutA at h
  exact List.mem_of_mem_drop (List.mem_of_mem_take h)
theorem zip_mem {α β : Type} {xs : List α} {ys : List β} {a : α × β} (h : a ∈ xs.zip ys) : a.1 ∈ xs ∧ a.2 ∈ ys := by
  have : (a.1, a.2) ∈ xs.zip ys := h
  exact ⟨(List.of_mem_zip this).1, (List.of_mem_zip this).2⟩
abbrev RdP (rows : Gd) (col : List Int) : Prop := Mat rows ∧ col.length = rows.length ∧ ∀ e ∈ col, -2199023255552 < e ∧ e < 2199023255552
theorem rep_few {rows : Gd} {col : List Int} (h : RdP rows col) {at_ : Int} {a : List Int × Int} (ha : a ∈ rows.zip col) : (cutA a.1 none (some at_) ++ (a.2 :: (cutA a.1 (some (at_ + 1)) none ++ []))).length ≤ 100000 := by
  have h1 := h.1.row _ (zip_mem ha).1
  have h2 := h.1.len
  have h3 : ∀ lo hi, (cutA a.1 lo hi).length ≤ a.1.length := fun lo hi => by
    unfold cutA
    rw [List.length_take,
          List.length_drop]
    omega
  have h4 := h3 none (some at_)
  have h5 := h3 (some (at_ + 1)) none
  simp only [List.length_append, List.length_cons, List.length_nil]
  omega
theorem rep_mat {rows : Gd} {col : List Int} (h : RdP rows col) {at_ : Int} (ha : at_ ∈ rng rows.length) : Mat ((rows.zip col).map fun p => cutA p.1 none (some at_) ++ (p.2 :: (cutA p.1 (some (at_ + 1)) none ++ []))) := by
  have hb := rng_mem ha
  have hz : (rows.zip col).length = rows.length := by
    rw [List.length_zip, h.2.1]
    omega
  refine ⟨by rw [List.length_map, hz]; exact h.1.len, fun r hr => ?_, fun r hr e he => ?_⟩
  · obtain ⟨p, hp, rfl⟩ := List.mem_map.mp hr
    have h1 := h.1.row _ (zip_mem hp).1
    rw [List.length_map, hz]
    simp only [List.length_append, List.length_cons, List.length_nil]
    rw [cutTo_len hb.1, cutFr_len (by omega)]
    omega
  · obtain ⟨p, hp, rfl⟩ := List.mem_map.mp hr
    obtain ⟨m1, m2⟩ := zip_mem hp
    simp only [List.mem_append, List.mem_cons, List.not_mem_nil, or_false] at he
    rcases he with he | he | he
    · exact h.1.bd _ m1 _ (cut_mem he)
    · rw [he]
      exact h.2.2 _ m2
    · exact h.1.bd _ m1 _ (cut_mem he)
theorem srt_perm (xs : List Int) : (srt xs).Perm xs := List.mergeSort_perm ..
structure FW (t : Tbl) (c : Int) (o : Tp Int) : Prop where
  cs : CS t.rows.length (Tp.mk [c]) (Tp.mk [])
  so : (∀ x ∈ o.l, 0 ≤ x ∧ x < (t.rows.length : Int)) ∧ o.l.Nodup ∧ o.l.length < 64
  ne : (Tp.mk [c]).l ≠ []
  few : (Tp.mk [c]).l.length + (Tp.mk (srt o.l)).l.length ≤ 100000
  n8 : 0 ≤ (t.rows.length : Int) ∧ (t.rows.length : Int) ≤ 100000
  st : (rng t.rows.length).length ≤ 40000
  rows : Sq (tOf t.rows) ∧ Sts (tOf t.rows).l.length (rng t.rows.length) ∧ Sts (tOf t.rows).l.length (fleft t.rows c (srt o.l)) ∧ (rng t.rows.length).length ≤ 8 ∧ (fleft t.rows c (srt o.l)).length ≤ 8
  l8 : (fleft t.rows c (srt o.l)).length ≤ 40000
  c0 : 0 ≤ c
  in_ : ∀ {x : Int}, x ∈ fleft t.rows c (srt o.l) → 0 ≤ x ∧ x < ((tOf t.rows).l.length : Int)
  c1 : ∀ {x : Int}, x ∈ fleft t.rows c (srt o.l) → c < (((tOf t.rows).l.getD x.toNat default).l.length : Int)
  dets : RdP (outR (tOf t.rows) (rng t.rows.length) (fleft t.rows c (srt o.l))) ((fleft t.rows c (srt o.l)).map fun x => at2 t.rows x c)
  mat : Mat (outR (tOf t.rows) (rng t.rows.length) (fleft t.rows c (srt o.l)))
  few2 : (fleft t.rows c (srt o.l)).length < 100000
  nd : (fleft t.rows c (srt o.l)).Nodup
theorem fw {t : Tbl} {c : Int} {o : Tp Int} (h : (Ok t.rows ∧ t.rows.length ≤ 5) ∧ 0 ≤ c ∧ c < t.rows.length ∧ (∀ x ∈ o.l, 0 ≤ x ∧ x < t.rows.length) ∧ o.l.Nodup ∧ ¬ c ∈ o.l ∧ 1 ≤ o.l.length ∧ o.l.length ≤ 5) : FW t c o := by
  obtain ⟨⟨h1, h2⟩, h3, h4, h5, h6, h7, h8, hol⟩ := h
  have hp := srt_perm o.l
  have hl := hp.length_eq
  obtain ⟨e, he⟩ : ∃ e, e ∈ o.l := by
    cases q : o.l with
    | nil => rw [q] at h8; simp at h8
    | cons a r => exact ⟨a, List.mem_cons_self⟩
  have l3 : (fleft t.rows c (srt o.l)).length ≤ 3 := left3 h2 ⟨h3, h4⟩ (h5 e he) (hp.mem_iff.mpr he) fun z => h7 (hp.mem_iff.mp z)
  have hst : Sts t.rows.length (rng t.rows.length) := sts_rng _ (by omega)
  have hsl : Sts t.rows.length (fleft t.rows c (srt o.l)) := keep_sts hst
  have hm := mat_outR h1.tb (by rw [tOf_len]; exact hst) (by rw [tOf_len]; exact hsl) (by rw [rng_len]; omega) (by omega)
  exact {
    cs := ⟨fun x hx => by rw [List.mem_singleton.mp hx]; exact ⟨h3, h4⟩, fun p hp => nomatch hp⟩
    so := ⟨h5, h6, by omega⟩
    ne := by simp
    few := by simp only [List.length_cons, List.length_nil]; omega
    n8 := by omega
    st := by rw [rng_len]; omega
    rows := ⟨h1.sqT, by rw [tOf_len]; exact hst, by rw [tOf_len]; exact hsl, by rw [rng_len]; omega, by omega⟩
    l8 := by omega
    c0 := h3
    in_ := fun hx => by rw [tOf_len]; exact hsl _ hx
    c1 := fun {x} hx => by
      have hb := hsl _ hx
      rw [h1.sqT.row x hb.1 (by rw [tOf_len]; exact hb.2), tOf_len]
      exact h4
    dets := ⟨hm, by unfold outR; rw [List.length_map, List.length_map], fun z hz => by
      obtain ⟨x, hx, rfl⟩ := List.mem_map.mp hz
      have hb := hsl _ hx
      have := h1.bd hb.1 hb.2 h3 h4
      omega⟩
    mat := hm
    few2 := by omega
    nd := (nodup_rng _).filter _ }
theorem tow (g : Gd) (c : Int) (l : List Int) : (l.map fun x => ((tOf g).l.getD x.toNat default).l.getD c.toNat default) = l.map fun x => at2 g x c := by
  refine List.map_congr_left
        fun x _ => ?_
  exact rat_tOf g x c
theorem zip_keys {α β : Type} : ∀ (xs : List α) (ys : List β), ((xs.zip ys).map (·.1)).Sublist xs
  | [], _ => by simp
  | _ :: _, [] => by simp
  | x :: xs, y :: ys => by
    simp only [List.zip_cons_cons, List.map_cons]
    exact (zip_keys xs ys).cons₂ x
theorem frow_eq {g : Gd} {c : Int} {o : List Int} (nd : (fleft g c o).Nodup) (_ : True) : ((rng g.length).map fun x => (dval (dput (dmerge [] ((fleft g c o).zip (dets (outR (tOf g) (rng g.length) (fleft g c o)) ((fleft g c o).map fun x => at2 g x c)))) c (det (outR (tOf g) (rng g.length) (fleft g c o)))) x).getD 0) = frow g c o := by
  unfold frow
  refine List.map_congr_left
        fun x _ => ?_
  rw [dval_put, dval_merge _ ((zip_keys _ _).nodup nd)]
  by_cases h : c = x
  · rw [if_pos h, if_pos h.symm]
    rfl
  · rw [if_neg h, if_neg fun z => h z.symm]
    show ((_ : Option Int).or (dval [] x)).getD 0 = _
    rw [show dval [] x = none from rfl, Option.or_none]
end Mi
namespace Mi
open LS
theorem prs_mem {n : Int} {a : Int × Int} (h : a ∈ prs n) : (0 ≤ a.1 ∧ a.1 < n) ∧ 0 ≤ a.2 ∧ a.2 < n := by
  unfold prs at h
  obtain ⟨x, hx, h2⟩ := List.mem_flatMap.mp h
  obtain ⟨y, hy, rfl⟩ := List.mem_map.mp h2
  exact ⟨rng_mem hx, rng_mem (List.mem_filter.mp hy).1⟩
theorem prs_few2 {g : Gd} (h : Ok g) : (prs g.length).length ≤ 40000 := by
  have h8 := h.hi
  unfold prs
  have h1 := flat_len (fun x : Int => ((rng g.length).filter fun y => !decide (x = y)).map fun y => (x, y)) 8 (rng g.length) fun x _ => by
    rw [List.length_map]
    have := List.length_filter_le (fun y => !decide (x = y)) (rng g.length)
    rw [rng_len] at this
    omega
  rw [rng_len] at h1
  omega
theorem prs_in {g : Gd} (h : Ok g) {a : Int × Int} (ha : a ∈ prs g.length) : 0 ≤ a.1 ∧ a.1 < ((tOf g).l.length : Int) ∧ 0 ≤ a.2 ∧ a.2 < (((tOf g).l.getD a.1.toNat default).l.length : Int) := by
  obtain ⟨⟨h1, h2⟩, h3, h4⟩ := prs_mem ha
  rw [tOf_len, h.sqT.row a.1 h1 (by rw [tOf_len]; exact h2), tOf_len]
  exact ⟨h1, h2, h3, h4⟩
theorem arr_eq (g : Gd) : ((prs g.length).filter fun a => decide (0 < ((tOf g).l.getD a.1.toNat default).l.getD a.2.toNat default)).map (fun a => (a.1, a.2)) = arrowsOf g := by
  unfold arrowsOf
  rw [show (fun a : Int × Int => (a.1, a.2)) = id from rfl, List.map_id]
  refine List.filter_congr fun a _ => ?_
  have := rat_tOf g a.1 a.2
  unfold rat at2 at this
  rw [this]
end Mi
namespace Mi
open LS
/-- heads of states: each is a state -/
structure Hd (hs : List Int) : Prop where
  len : hs.length ≤ 8
  ins : ∀ h ∈ hs, 0 ≤ h ∧ h < hs.length
theorem len62 {hs : List Int} (h : Hd hs) : -(2 ^ 62) ≤ (hs.length : Int) ∧ (hs.length : Int) < 2 ^ 62 := by
  have := h.len
  omega
theorem getD_in {hs : List Int} (h : Hd hs) {x : Int} (h0 : 0 ≤ x) (h1 : x < hs.length) : 0 ≤ hs.getD x.toNat default ∧ hs.getD x.toNat default < hs.length := by
  have hx : x.toNat < hs.length := by omega
  rw [List.getD_eq_getElem?_getD, List.getElem?_eq_getElem hx]
  exact h.ins _ (List.getElem_mem hx)
theorem leadS_in {hs : List Int} {x : Int} (h : Hd hs ∧ 0 ≤ x ∧ x < hs.length) (i : Nat) : 0 ≤ leadS hs i x ∧ leadS hs i x < hs.length := by
  induction i with
  | zero => exact h.2
  | succ i ih => exact getD_in h.1 ih.1 ih.2
theorem wt_in {g : Gd} {hs : Tp Int} (h : Ok g ∧ Hd hs.l ∧ hs.l.length = g.length) {i : Nat} {a : Int} (ha : (rng (hs.l.length : Int))[i]? = some a) :
    0 ≤ a ∧ a < hs.l.length ∧ a < g.length ∧ 0 ≤ hs.l.getD a.toNat default ∧ hs.l.getD a.toNat default < ((g.getD a.toNat default).length : Int) ∧ L2.CMul (weightS g hs.l i) (at2 g a (hs.l.getD a.toNat default)) := by
  obtain ⟨e1, e2⟩ := rng_get ha
  have h0 : 0 ≤ a := by omega
  have h1 : a < hs.l.length := by omega
  have h2 : a < g.length := by have := h.2.2; omega
  have h3 := getD_in h.2.1 h0 h1
  have h4 : hs.l.getD a.toNat default < (g.length : Int) := by have := h.2.2; omega
  have h5 := h.1.bd h0 h2 h3.1 h4
  refine ⟨h0, h1, h2, h3.1, ?_, .inr (by omega)⟩
  rw [h.1.row h0 h2]
  exact h4
theorem wt_step1 {g : Gd} {hs : List Int} {i : Nat} {a : Int} (e : a = i) (q : ¬ hs.getD a.toNat default = a) : weightS g hs (i + 1) = weightS g hs i * (g.getD a.toNat default).getD (hs.getD a.toNat default).toNat default := by
  subst e
  show (if hs.getD i default = (i : Int) then _ else _) = _
  have e2 : ((i : Int)).toNat = i := by omega
  rw [e2] at q ⊢
  rw [if_neg q]
  unfold at2
  rw [e2]
theorem wt_step2 {g : Gd} {hs : List Int} {i : Nat} {a : Int} (e : a = i) (q : hs.getD a.toNat default = a) : weightS g hs (i + 1) = weightS g hs i := by
  subst e
  show (if hs.getD i default = (i : Int) then _ else _) = _
  have e2 : ((i : Int)).toNat = i := by omega
  rw [e2] at q
  rw [if_pos q]
end Mi
namespace Mi
open LS
theorem heads_in {g : Gd} {roots : List Int} {x : Int} (hx : 0 ≤ x ∧ x < g.length) : ∀ y ∈ heads g roots x, 0 ≤ y ∧ y < g.length := fun y hy => by
  unfold heads at hy
  split at hy
  · rw [List.mem_singleton.mp hy]
    exact hx
  · exact rng_mem (List.mem_filter.mp hy).1
theorem heads_len {g : Gd} (h5 : g.length ≤ 5) {roots : List Int} {x : Int} : (heads g roots x).length ≤ 5 := by
  unfold heads
  split
  · simp
  · have := List.length_filter_le (fun y => decide (0 < at2 g x y)) (rng g.length)
    rw [rng_len] at this
    omega
theorem lines_in {g : Gd} {roots : List Int} : ∀ {i : Nat}, i ≤ g.length → ∀ line ∈ lines g roots i, line.length = i ∧ ∀ y ∈ line, 0 ≤ y ∧ y < (g.length : Int)
  | 0, _, line, h => by
    rw [List.mem_singleton.mp h]
    exact ⟨rfl, fun y hy => nomatch hy⟩
  | i + 1, hi, line, h => by
    obtain ⟨l, hl, h2⟩ := List.mem_flatMap.mp h
    obtain ⟨y, hy, rfl⟩ := List.mem_map.mp h2
    obtain ⟨e1, e2⟩ := lines_in (by omega) l hl
    refine ⟨by simp [e1], fun z hz => ?_⟩
    rcases List.mem_append.mp hz with q | q
    · exact e2 z q
    · rw [List.mem_singleton.mp q]
      exact heads_in (by omega) y hy
theorem lines_few {g : Gd} (h5 : g.length ≤ 5) {roots : List Int} : ∀ i : Nat, (lines g roots i).length ≤ 5 ^ i
  | 0 => by simp [lines]
  | i + 1 => by
    have h1 := flat_len (fun line : List Int => (heads g roots i).map fun y => line ++ [y]) 5 (lines g roots i) fun _ _ => by rw [List.length_map]; exact heads_len h5
    have h2 := lines_few h5 (roots := roots) i
    show ((lines g roots i).flatMap _).length ≤ _
    rw [Nat.pow_succ]
    have := Nat.mul_le_mul_right 5 h2
    omega
theorem flat_step {α β : Type} {L : List α} {j : Nat} {a : α} (h : L[j]? = some a) (f : α → List β) : (L.take (j + 1)).flatMap f = (L.take j).flatMap f ++ f a := by
  rw [List.take_add_one, h, List.flatMap_append]
  simp
theorem map_step {α β : Type} {L : List α} {j : Nat} {a : α} (h : L[j]? = some a) (f : α → β) : (L.take (j + 1)).map f = (L.take j).map f ++ [f a] := by
  rw [List.take_add_one, h, List.map_append]
  rfl
theorem filt_step {α : Type} {L : List α} {j : Nat} {a : α} (h : L[j]? = some a) (p : α → Bool) : (L.take (j + 1)).filter p = (L.take j).filter p ++ (if p a = true then [a] else []) := by
  rw [List.take_add_one,
        h, List.filter_append]
  by_cases q : p a = true <;> simp [q]
theorem prev_few {g : Gd} (h5 : g.length ≤ 5) {roots : List Int} {i j m : Nat} (hi : i < g.length) {x : Int} {line : List Int} : (((lines g roots i).take j).flatMap (fun l => (heads g roots x).map fun y => l ++ [y]) ++ ((heads g roots x).take m).map fun y => line ++ [y]).length < 100000 := by
  have h1 := flat_len (fun l : List Int => (heads g roots x).map fun y => l ++ [y]) 5 ((lines g roots i).take j) fun _ _ => by rw [List.length_map]; exact heads_len h5
  have h2 := lines_few h5 (roots := roots) i
  have h3 : 5 ^ i ≤ 5 ^ 4 := Nat.pow_le_pow_right (by decide) (by omega)
  have h4 := heads_len h5 (roots := roots) (x := x)
  rw [List.length_append, List.length_map, List.length_take]
  rw [List.length_take] at h1
  have : min j (lines g roots i).length * 5 ≤ 625 * 5 := Nat.mul_le_mul_right 5 (by omega)
  omega
theorem lines_all {g : Gd} (h5 : g.length ≤ 5) {roots : List Int} : (lines g roots g.length).length ≤ 3125 := by
  have h2 := lines_few h5 (roots := roots) g.length
  have h3 : 5 ^ g.length ≤ 5 ^ 5 := Nat.pow_le_pow_right (by decide) (by omega)
  omega
theorem line_hd {g : Gd} (h5 : g.length ≤ 5) {roots : List Int} {line : List Int} (h : line ∈ lines g roots g.length) : Hd line ∧ line.length = g.length := by
  obtain ⟨e1, e2⟩ := lines_in (Nat.le_refl _) line h
  exact ⟨⟨by omega, fun y hy => by rw [e1]; exact e2 y hy⟩, e1⟩
theorem forest_hd {g : Gd} (h5 : g.length ≤ 5) {roots : List Int} {t : Tp Int} (h : t ∈ forests g roots) : Hd t.l ∧ t.l.length = g.length := by
  unfold forests at h
  obtain ⟨l, hl, rfl⟩ := List.mem_map.mp h
  exact line_hd h5 (List.mem_filter.mp hl).1
def okEnds (ends : List (Int × Int)) (t : Tp Int) : Bool := (ends.map fun p => decide (lead t.l p.1 = p.2)).all id
def sumF (g : Gd) (roots : List Int) (ends : List (Int × Int)) : Int := (((forests g roots).filter (okEnds ends)).map fun t => weight g t.l).sum
def pushF (g : Gd) (a b c e : Int) : Int := ((forests g [c, e]).map fun t => ((if decide (lead t.l b = c) = true then (1 : Int) else 0) - (if decide (lead t.l a = c) = true then (1 : Int) else 0)) * weight g t.l).sum
theorem sum_app1 (xs : List Int) (y : Int) : (xs ++ [y]).sum = xs.sum + y := by
  rw [List.sum_append]
  simp
end Mi
namespace Mi
open LS
theorem cat_few {g : Gd} (h5 : g.length ≤ 5) {roots : List Int} {i j : Nat} (hi : i < g.length) {line : List Int} (h : (lines g roots i)[j]? = some line) {y : Int} : line.length + [y].length ≤ 100000 := by
  have := (lines_in (Nat.le_of_lt hi) line (List.mem_of_getElem? h)).1
  simp
  omega
theorem lead_ok {g : Gd} (h5 : g.length ≤ 5) {roots : List Int} {line : List Int} (h : line ∈ lines g roots g.length) {x : Int} (hx : 0 ≤ x ∧ x < (g.length : Int)) : Hd line ∧ 0 ≤ x ∧ x < (line.length : Int) := by
  obtain ⟨h1, h2⟩ := line_hd h5 h
  exact ⟨h1, hx.1, by rw [h2]; exact hx.2⟩
theorem kept_few {g : Gd} (h5 : g.length ≤ 5) {roots : List Int} {j : Nat} {p : List Int → Bool} : ((((lines g roots g.length).take j).filter p).map Tp.mk).length < 100000 := by
  have h1 := lines_all h5 (roots := roots)
  have h2 := List.length_filter_le p ((lines g roots g.length).take j)
  rw [List.length_take] at h2
  rw [List.length_map]
  omega
end Mi
namespace Mi
open LS
def In (g : Gd) (x : Int) : Prop := 0 ≤ x ∧ x < g.length
/-- o is g but for the rate of G, h -/
structure Cg (g o : Gd) (G h : Int) : Prop where
  okg : Ok g
  oko : Ok o
  len : o.length = g.length
  n5 : g.length ≤ 5
  iG : In g G
  ih : In g h
  ne : G ≠ h
  same : ∀ x y : Int, In g x → In g y → ¬ (x = G ∧ y = h) → at2 o x y = at2 g x y
def fr (g : Gd) (c e x : Int) : Int := (frow g c (srt [e])).getD x.toNat default
def dif (g : Gd) (a b c e : Int) : Int := fr g c e b - fr g c e a
def T1 : Prop := ∀ (g : Gd) (a b c e : Int), Ok g → g.length ≤ 5 → In g a → In g b → In g c → In g e → c ≠ e → dif g a b c e = pushF g a b c e
def T2 : Prop := ∀ (g : Gd) (c e : Int), Ok g → g.length ≤ 5 → In g c → In g e → c ≠ e → sumW (tOf g) (rng g.length) [c, e] = sumF g [c, e] [] ∧ sumW (tOf g) (rng g.length) [e, c] = sumF g [c, e] []
def T3 : Prop := ∀ (g : Gd) (G c e : Int), Ok g → g.length ≤ 5 → In g G → In g c → In g e → c ≠ e → G ≠ c → G ≠ e → frow g G (srt [e, c]) = (rng g.length).map fun x => sumF g [c, e, G] [(x, G)]
def T4 : Prop := ∀ (g o : Gd) (G h c e a b : Int), Cg g o G h → In g c → In g e → c ≠ e → G ≠ c → G ≠ e → In g a → In g b →
  sumW (tOf g) (rng g.length) [c, e] * dif o a b c e - sumW (tOf o) (rng o.length) [e, c] * dif g a b c e = (at2 o G h - at2 g G h) * ((frow g G (srt [e, c])).getD b.toNat default - (frow g G (srt [e, c])).getD a.toNat default) * dif g G h c e
def T5 : Prop := ∀ (g o : Gd) (G h c e : Int), Cg g o G h → In g c → In g e → c ≠ e → dif o G h c e = dif g G h c e
structure OneP (g o : Gd) (a b G h c e : Int) : Prop where
  cg : Cg g o G h
  ia : In g a
  ib : In g b
  ic : In g c
  ie : In g e
  ab : a ≠ b
  ce : c ≠ e
theorem In.to {g o : Gd} {x : Int} (h : In g x) (e : o.length = g.length) : In o x := ⟨h.1, by rw [e]; exact h.2⟩
theorem OneP.pg {g o : Gd} {a b G h c e : Int} (p : OneP g o a b G h c e) : ((Ok g ∧ g.length ≤ 5) ∧ 0 ≤ c ∧ c < g.length ∧ 0 ≤ e ∧ e < g.length ∧ c ≠ e) ∧ 0 ≤ a ∧ a < g.length ∧ 0 ≤ b ∧ b < g.length ∧ a ≠ b :=
  ⟨⟨⟨p.cg.okg, p.cg.n5⟩, p.ic.1, p.ic.2, p.ie.1, p.ie.2, p.ce⟩, p.ia.1, p.ia.2, p.ib.1, p.ib.2, p.ab⟩
theorem OneP.po {g o : Gd} {a b G h c e : Int} (p : OneP g o a b G h c e) : ((Ok o ∧ o.length ≤ 5) ∧ 0 ≤ c ∧ c < o.length ∧ 0 ≤ e ∧ e < o.length ∧ c ≠ e) ∧ 0 ≤ a ∧ a < o.length ∧ 0 ≤ b ∧ b < o.length ∧ a ≠ b := by
  have l := p.cg.len
  exact ⟨⟨⟨p.cg.oko, by have := p.cg.n5; omega⟩, p.ic.1, (p.ic.to l).2, p.ie.1, (p.ie.to l).2, p.ce⟩, p.ia.1, (p.ia.to l).2, p.ib.1, (p.ib.to l).2, p.ab⟩
theorem OneP.lg {g o : Gd} {a b G h c e : Int} (p : OneP g o a b G h c e) : (Ok g ∧ g.length ≤ 5) ∧ (0 ≤ a ∧ a < g.length) ∧ (0 ≤ b ∧ b < g.length) ∧ (0 ≤ c ∧ c < g.length) ∧ (0 ≤ e ∧ e < g.length) := ⟨⟨p.cg.okg, p.cg.n5⟩, p.ia, p.ib, p.ic, p.ie⟩
theorem OneP.lo {g o : Gd} {a b G h c e : Int} (p : OneP g o a b G h c e) : (Ok o ∧ o.length ≤ 5) ∧ (0 ≤ a ∧ a < o.length) ∧ (0 ≤ b ∧ b < o.length) ∧ (0 ≤ c ∧ c < o.length) ∧ (0 ≤ e ∧ e < o.length) := by
  have l := p.cg.len
  exact ⟨⟨p.cg.oko, by have := p.cg.n5; omega⟩, p.ia.to l, p.ib.to l, p.ic.to l, p.ie.to l⟩
theorem dif_neg (g : Gd) (a b c e : Int) : dif g a b c e = -(dif g b a c e) := by unfold dif; omega
end Mi
namespace Mi
open LS
theorem d3_bd {j : Nat} {a b c d e f g h i : Int} (ha : B j a) (hb : B j b) (hc : B j c) (hd : B j d) (he : B j e) (hf : B j f) (hg : B j g) (hh : B j h) (hi : B j i) : B (j + (j + j + 1) + 1 + 1) (d3 a b c d e f g h i) := by
  have p1 := ha.mul ((he.mul hi).sub (hf.mul hh))
  have p2 := hb.mul ((hd.mul hi).sub (hf.mul hg))
  have p3 := hc.mul ((hd.mul hh).sub (he.mul hg))
  exact (p1.sub p2).add (p3.up (by omega))
theorem det_bd {m : Gd} (h : Mat m) : B 200 (det m) := by
  have hb : ∀ r ∈ m, ∀ e ∈ r, B 41 e := fun r hr e he => by
    have := h.bd r hr e he
    unfold B
    omega
  have hl := h.len
  have hr := h.row
  clear h
  match m, hl, hr, hb with
  | [], _, _, _ => show (1 : Int).natAbs < 2 ^ 200; decide
  | [r], _, hr, hb =>
    have h1 := hr r (by simp)
    match r, h1, hb with
    | [a], _, hb =>
      have b1 := hb [a] (by simp) a (by simp)
      exact b1.up (by decide)
  | [r, s], _, hr, hb =>
    have h1 := hr r (by simp)
    have h2 := hr s (by simp)
    match r, s, h1, h2, hb with
    | [a, b], [c, e], _, _, hb =>
      have b1 := hb [a, b] (by simp)
      have b2 := hb [c, e] (by simp)
      show B 200 (a * e - b * c)
      exact (((b1 a (by simp)).mul (b2 e (by simp))).sub ((b1 b (by simp)).mul (b2 c (by simp)))).up (by decide)
  | [r, s, t], _, hr, hb =>
    have h1 := hr r (by simp)
    have h2 := hr s (by simp)
    have h3 := hr t (by simp)
    match r, s, t, h1, h2, h3, hb with
    | [a, b, c], [d, e, f], [g, h, i], _, _, _, hb =>
      have b1 := hb [a, b, c] (by simp)
      have b2 := hb [d, e, f] (by simp)
      have b3 := hb [g, h, i] (by simp)
      exact (d3_bd (b1 a (by simp)) (b1 b (by simp)) (b1 c (by simp)) (b2 d (by simp)) (b2 e (by simp)) (b2 f (by simp)) (b3 g (by simp)) (b3 h (by simp)) (b3 i (by simp))).up (by decide)
  | [r, s, t, u], _, hr, hb =>
    have h1 := hr r (by simp)
    have h2 := hr s (by simp)
    have h3 := hr t (by simp)
    have h4 := hr u (by simp)
    match r, s, t, u, h1, h2, h3, h4, hb with
    | [a, b, c, d], [e, f, g, h], [i, j, k, l], [m, n, o, p], _, _, _, _, hb =>
      have b1 := hb [a, b, c, d] (by simp)
      have b2 := hb [e, f, g, h] (by simp)
      have b3 := hb [i, j, k, l] (by simp)
      have b4 := hb [m, n, o, p] (by simp)
      have q1 := (b1 a (by simp)).mul (d3_bd (b2 f (by simp)) (b2 g (by simp)) (b2 h (by simp)) (b3 j (by simp)) (b3 k (by simp)) (b3 l (by simp)) (b4 n (by simp)) (b4 o (by simp)) (b4 p (by simp)))
      have q2 := (b1 b (by simp)).mul (d3_bd (b2 e (by simp)) (b2 g (by simp)) (b2 h (by simp)) (b3 i (by simp)) (b3 k (by simp)) (b3 l (by simp)) (b4 m (by simp)) (b4 o (by simp)) (b4 p (by simp)))
      have q3 := (b1 c (by simp)).mul (d3_bd (b2 e (by simp)) (b2 f (by simp)) (b2 h (by simp)) (b3 i (by simp)) (b3 j (by simp)) (b3 l (by simp)) (b4 m (by simp)) (b4 n (by simp)) (b4 p (by simp)))
      have q4 := (b1 d (by simp)).mul (d3_bd (b2 e (by simp)) (b2 f (by simp)) (b2 g (by simp)) (b3 i (by simp)) (b3 j (by simp)) (b3 k (by simp)) (b4 m (by simp)) (b4 n (by simp)) (b4 o (by simp)))
      have s1 := (q1.sub q2).add (q3.up (Nat.le_succ _))
      exact (s1.sub (q4.up (by decide))).up (by decide)
theorem lookup_mem {α : Type} [BEq α] [LawfulBEq α] {β : Type} {l : List (α × β)} {x : α} {v : β} (h : l.lookup x = some v) : (x, v) ∈ l := by
  induction l with
  | nil => cases h
  | cons p r ih =>
    rw [List.lookup_cons] at h
    by_cases q : (x == p.1) = true
    · rw [q] at h
      have e1 : x = p.1 := eq_of_beq q
      have e2 : p.2 = v := Option.some.inj h
      rw [e1, ← e2]
      exact List.mem_cons_self
    · have q : (x == p.1) = false := by simpa using q
      rw [q] at h
      exact
            List.mem_cons_of_mem _ (ih h)
theorem frow_bd {t : Tbl} {c : Int} {o : Tp Int} (W : FW t c o) (i : Nat) : B 200 ((frow t.rows c (srt o.l)).getD i default) := by
  rw
        [List.getD_eq_getElem?_getD]
  cases hq : (frow t.rows c (srt o.l))[i]? with
  | none => show (0 : Int).natAbs < 2 ^ 200; decide
  | some v =>
    have hm := List.mem_of_getElem? hq
    unfold frow at hm
    obtain ⟨x, hx, rfl⟩
          := List.mem_map.mp hm
    show B 200 (if x = c then _ else _)
    split
    · exact det_bd W.mat
    · cases hl : ((fleft t.rows c (srt o.l)).zip (dets (outR (tOf t.rows) (rng t.rows.length) (fleft t.rows c (srt o.l))) ((fleft t.rows c (srt o.l)).map fun x => at2 t.rows x c))).lookup x with
      | none => show (0 : Int).natAbs < 2 ^ 200; decide
      | some v =>
        have h2 := (zip_mem (lookup_mem hl)).2
        unfold dets at h2
        obtain ⟨y, hy, rfl⟩ := List.mem_map.mp h2
        exact det_bd (rep_mat W.dets hy)
structure BehP (g o : Gd) (G h c e : Int) : Prop where
  cg : Cg g o G h
  ic : In g c
  ie : In g e
  ce : c ≠ e
  gc : G ≠ c
  ge : G ≠ e
theorem pushT_at {g : Gd} {a b c e : Int} (ha : In g a) (hb : In g b) : ((tOf (pushT g c e)).l.getD a.toNat default).l.getD b.toNat default = dif g a b c e := by
  have h := rat_tOf (pushT g c e) a b
  unfold rat at h
  rw [h]
  unfold at2 pushT
  have g1 : ∀ (f : Int → List Int), ((rng g.length).map f).getD a.toNat default = f a := fun f => by
    rw [List.getD_eq_getElem?_getD, List.getElem?_map]
    unfold rng
    rw [List.getElem?_map, List.getElem?_range (by have := ha.2; have := ha.1; omega)]
    show f ((a.toNat : Nat) : Int) = _
    rw [Int.toNat_of_nonneg ha.1]
  have g2 : ∀ (f : Int → Int), ((rng g.length).map f).getD b.toNat default = f b := fun f => by
    rw [List.getD_eq_getElem?_getD, List.getElem?_map]
    unfold rng
    rw [List.getElem?_map, List.getElem?_range (by have := hb.2; have := hb.1; omega)]
    show f ((b.toNat : Nat) : Int) = _
    rw [Int.toNat_of_nonneg hb.1]
  rw [g1, g2]
  rfl
theorem map_at {g : Gd} {b : Int} (hb : In g b) (f : Int → Int) : ((rng g.length).map f).getD b.toNat default = f b := by
  rw [List.getD_eq_getElem?_getD, List.getElem?_map]
  unfold rng
  rw [List.getElem?_map, List.getElem?_range (by have := hb.2; have := hb.1; omega)]
  show f ((b.toNat : Nat) : Int) = _
  rw [Int.toNat_of_nonneg hb.1]
theorem pushT_len {g : Gd} {c e : Int} : ((tOf (pushT g c e)).l.length : Int) = g.length := by
  rw [tOf_len]
  unfold pushT
  rw [List.length_map, rng_len]
  omega
theorem pushT_row {g : Gd} {c e : Int} : ∀ r ∈ (tOf (pushT g c e)).l, (r.l.length : Int) = g.length := fun r hr => by
  unfold tOf at hr
  obtain ⟨l, hl, rfl⟩ := List.mem_map.mp hr
  unfold pushT at hl
  obtain ⟨x, _, rfl⟩ := List.mem_map.mp hl
  show (((rng g.length).map _).length : Int) = _
  rw [List.length_map, rng_len]
  omega
theorem pushT_rowlen {g : Gd} {a c e : Int} (ha : In g a) : ((((tOf (pushT g c e)).l.getD a.toNat default).l.length : Nat) : Int) = g.length := by
  have h1 : a.toNat < (tOf (pushT g c e)).l.length := by
    have := pushT_len (g := g) (c := c) (e := e)
    have := ha.1
    have := ha.2
    omega
  rw [List.getD_eq_getElem?_getD, List.getElem?_eq_getElem h1]
  exact pushT_row _ (List.getElem_mem h1)
end Mi
namespace Mi
open LS
/-- all that the steps of behind_right ask -/
structure BW (g o : Gd) (G h c e : Int) : Prop where
  p : BehP g o G h c e
  og : Ok g
  oo : Ok o
  lg : g.length ≤ 40000
  lo : o.length ≤ 40000
  n62 : -(2 ^ 62) ≤ (g.length : Int) ∧ (g.length : Int) < 2 ^ 62
  cg : (Ok g ∧ g.length ≤ 5) ∧ 0 ≤ c ∧ c < g.length ∧ 0 ≤ e ∧ e < g.length ∧ c ≠ e
  co : (Ok o ∧ o.length ≤ 5) ∧ 0 ≤ c ∧ c < o.length ∧ 0 ≤ e ∧ e < o.length ∧ c ≠ e
  eo : (Ok o ∧ o.length ≤ 5) ∧ 0 ≤ e ∧ e < o.length ∧ 0 ≤ c ∧ c < o.length ∧ e ≠ c
  kg : ((tOf (pushT g c e)).l.length : Int) = g.length ∧ (tOf (pushT g c e)).l.length ≤ 8 ∧ ∀ r ∈ (tOf (pushT g c e)).l, (r.l.length : Int) = g.length
  ko : ((tOf (pushT o c e)).l.length : Int) = g.length ∧ (tOf (pushT o c e)).l.length ≤ 8 ∧ ∀ r ∈ (tOf (pushT o c e)).l, (r.l.length : Int) = g.length
  sg : (Ok g ∧ g.length ≤ 5 ∧ ∀ r ∈ [c, e], 0 ≤ r ∧ r < (g.length : Int)) ∧ ([] : List (Int × Int)).length ≤ 8 ∧ ∀ p ∈ ([] : List (Int × Int)), 0 ≤ p.1 ∧ p.1 < (g.length : Int)
  so : (Ok o ∧ o.length ≤ 5 ∧ ∀ r ∈ [c, e], 0 ≤ r ∧ r < (o.length : Int)) ∧ ([] : List (Int × Int)).length ≤ 8 ∧ ∀ p ∈ ([] : List (Int × Int)), 0 ≤ p.1 ∧ p.1 < (o.length : Int)
  lpush : (Ok g ∧ g.length ≤ 5) ∧ (0 ≤ G ∧ G < g.length) ∧ (0 ≤ h ∧ h < g.length) ∧ (0 ≤ c ∧ c < g.length) ∧ (0 ≤ e ∧ e < g.length)
  few : (rng g.length).length ≤ 40000
  pass : ∀ x : Int, x ∈ rng g.length → (Ok g ∧ g.length ≤ 5 ∧ ∀ r ∈ [c, e, G], 0 ≤ r ∧ r < (g.length : Int)) ∧ [(x, G)].length ≤ 8 ∧ ∀ p ∈ [(x, G)], 0 ≤ p.1 ∧ p.1 < (g.length : Int)
  frow : (Ok g ∧ g.length ≤ 5) ∧ 0 ≤ G ∧ G < g.length ∧ (∀ x ∈ [e, c], 0 ≤ x ∧ x < (g.length : Int)) ∧ [e, c].Nodup ∧ ¬ G ∈ [e, c] ∧ 1 ≤ [e, c].length ∧ [e, c].length ≤ 5
  rG : 0 ≤ G ∧ G < (g.length : Int) ∧ G < (o.length : Int)
  rh : 0 ≤ h ∧ h < ((g.getD G.toNat default).length : Int) ∧ h < ((o.getD G.toNat default).length : Int)
theorem bw {g o : Gd} {G h c e : Int} (p : BehP g o G h c e) : BW g o G h c e := by
  have l := p.cg.len
  have n5 := p.cg.n5
  have ic := p.ic
  have ie := p.ie
  have iG := p.cg.iG
  have ih := p.cg.ih
  have gt : ∀ {x : Int}, In g x → x < (o.length : Int) := fun h => by have := h.2; omega
  have m2g := mem2 (n := g.length) ic ie
  have m2o := mem2 (n := o.length) ⟨ic.1, gt ic⟩ ⟨ie.1, gt ie⟩
  exact {
    p := p, og := p.cg.okg, oo := p.cg.oko
    lg := by omega
    lo := by omega
    n62 := by omega
    cg := ⟨⟨p.cg.okg, n5⟩, ic.1, ic.2, ie.1, ie.2, p.ce⟩
    co := ⟨⟨p.cg.oko, by omega⟩, ic.1, gt ic, ie.1, gt ie, p.ce⟩
    eo := ⟨⟨p.cg.oko, by omega⟩, ie.1, gt ie, ic.1, gt ic, p.ce.symm⟩
    kg := ⟨pushT_len, by have := pushT_len (g := g) (c := c) (e := e); omega, pushT_row⟩
    ko := ⟨by rw [pushT_len, l], by have := pushT_len (g := o) (c := c) (e := e); omega, fun r hr => by rw [pushT_row r hr, l]⟩
    sg := ⟨⟨p.cg.okg, n5, m2g⟩, by simp, fun p hp => nomatch hp⟩
    so := ⟨⟨p.cg.oko, by omega, m2o⟩, by simp, fun p hp => nomatch hp⟩
    lpush := ⟨⟨p.cg.okg, n5⟩, iG, ih, ic, ie⟩
    few := by rw [rng_len]; omega
    pass := fun x hx => ⟨⟨p.cg.okg, n5, fun r hr => by
      simp only [List.mem_cons, List.not_mem_nil, or_false] at hr
      rcases hr with rfl | rfl | rfl
      · exact ic
      · exact ie
      · exact iG⟩, by simp, fun q hq => by rw [List.mem_singleton.mp hq]; exact rng_mem hx⟩
    frow := ⟨⟨p.cg.okg, n5⟩, iG.1, iG.2, mem2 ie ic, by simp [p.ce.symm], by simp [p.gc, p.ge], by simp, by simp⟩
    rG := ⟨iG.1, iG.2, gt iG⟩
    rh := ⟨ih.1, by rw [p.cg.okg.row iG.1 iG.2]; exact ih.2, by rw [p.cg.oko.row iG.1 (gt iG)]; exact gt ih⟩ }
theorem dif_bd {g : Gd} {a b c e : Int} (h : (Ok g ∧ g.length ≤ 5) ∧ 0 ≤ c ∧ c < g.length ∧ 0 ≤ e ∧ e < g.length ∧ c ≠ e) : B 201 (dif g a b c e) := by
  have W := fw (t := Tbl.mk g) (o := Tp.mk [e]) (fr2 (t := Tbl.mk g) h)
  exact (frow_bd W _).sub (frow_bd W _)
end Mi
namespace Mi
open LS
theorem mat_so {g : Gd} {c e : Int} (h : (Ok g ∧ g.length ≤ 5) ∧ 0 ≤ c ∧ c < g.length ∧ 0 ≤ e ∧ e < g.length ∧ c ≠ e) : Mat (outR (tOf g) (rng g.length) (keep (rng g.length) [c, e])) := by
  obtain ⟨⟨h1, n5⟩, h2, h3, h4, h5, h6⟩ := h
  have st : Sts g.length (rng g.length) := sts_rng _ (by omega)
  exact mat_outR h1.tb (by rw [tOf_len]; exact st) (by rw [tOf_len]; exact keep_sts st) (by rw [rng_len]; omega) (Nat.le_succ_of_le (left3 (o := [e]) n5 ⟨h2, h3⟩ ⟨h4, h5⟩ (by simp) (by simpa using h6)))
end Mi
namespace Mi
open LS
structure Gz (M : Int) (n : Nat) (g : Gd) : Prop where
  len : g.length = n
  sq : ∀ row ∈ g, row.length = n
  pos : ∀ row ∈ g, ∀ e ∈ row, 0 ≤ e ∧ e < M
  dg : ∀ i : Nat, i < n → at2 g i i = 0
theorem Gz.ok {M : Int} {n : Nat} {g : Gd} (h : Gz M n g) (hM : M ≤ 137438953472) (h2 : 2 ≤ n) (h8 : n ≤ 8) : Ok g := ⟨by rw [h.len]; exact h2, by rw [h.len]; exact h8, fun r hr => by rw [h.sq r hr, h.len], fun r hr e he => by have := h.pos r hr e he; omega, fun i hi => h.dg i (by rw [← h.len]; exact hi)⟩
theorem set_mem {α : Type} {xs : List α} {i : Nat} {a b : α} (h : b ∈ xs.set i a) : b = a ∨ b ∈ xs := by
  rcases List.mem_or_eq_of_mem_set h with q | q
  · exact .inr q
  · exact .inl q
theorem Gz.set {M : Int} {n : Nat} {g : Gd} (h : Gz M n g) {x y v : Int} (hx : 0 ≤ x ∧ x < n) (hy : 0 ≤ y ∧ y < n) (ne : x ≠ y) (hv : 0 ≤ v ∧ v < M) : Gz M n (g.set x.toNat ((g.getD x.toNat default).set y.toNat v)) := by
  have hxl : x.toNat < g.length := by have := h.len; omega
  have hrow : g.getD x.toNat default ∈ g := by
    rw [List.getD_eq_getElem?_getD, List.getElem?_eq_getElem hxl]
    exact List.getElem_mem hxl
  refine ⟨by rw [List.length_set, h.len], fun r hr => ?_, fun r hr e he => ?_, fun i hi => ?_⟩
  · rcases set_mem hr with q | q
    · rw [q, List.length_set, h.sq _ hrow]
    · exact h.sq r q
  · rcases set_mem hr with q | q
    · rw [q] at he
      rcases set_mem he with z | z
      · rw [z]; exact hv
      · exact h.pos _ hrow e z
    · exact h.pos r q e he
  · have d := h.dg i hi
    unfold at2 at d ⊢
    rw [Int.toNat_natCast] at d ⊢
    by_cases q : x.toNat = i
    · rw [List.getD_eq_getElem?_getD (l := g.set _ _), ← q, List.getElem?_set_self hxl, Option.getD_some, List.getD_eq_getElem?_getD, List.getElem?_set_ne (by omega), ← List.getD_eq_getElem?_getD, q]
      exact d
    · rw [List.getD_eq_getElem?_getD (l := g.set _ _), List.getElem?_set_ne q, ← List.getD_eq_getElem?_getD]
      exact d
theorem gz0 {M n : Int} (hM : 0 < M) (h : 0 ≤ n) : Gz M n.toNat (zeros n) := by
  refine ⟨by unfold zeros; rw [List.length_map, rng_len], fun r hr => ?_, fun r hr e he => ?_, fun i hi => ?_⟩
  · unfold zeros at hr
    obtain ⟨_, _, rfl⟩ := List.mem_map.mp hr
    rw [List.length_map, rng_len]
  · unfold zeros at hr
    obtain ⟨_, _, rfl⟩ := List.mem_map.mp hr
    obtain ⟨_, _, rfl⟩ := List.mem_map.mp he
    exact ⟨Int.le_refl _, hM⟩
  · have g1 : ∀ {α : Type} (a : α) (k : Nat), k < n.toNat → ((rng n).map fun _ => a)[k]? = some a := fun a k hk => by
      unfold rng
      rw [List.getElem?_map, List.getElem?_map, List.getElem?_range hk]
      rfl
    unfold at2 zeros
    rw [List.getD_eq_getElem?_getD (l := (rng n).map fun _ => (rng n).map fun _ => (0 : Int)), Int.toNat_natCast, g1 _ i hi, Option.getD_some, List.getD_eq_getElem?_getD, g1 _ i hi]
    rfl
theorem Gz.row {M : Int} {n : Nat} {g : Gd} (h : Gz M n g) {x : Int} (hx : 0 ≤ x ∧ x < n) : (g.getD x.toNat default).length = n := by
  have hxl : x.toNat < g.length := by have := h.len; omega
  rw [List.getD_eq_getElem?_getD, List.getElem?_eq_getElem hxl]
  exact h.sq _ (List.getElem_mem hxl)
theorem succ_ne {x n : Int} (h0 : 0 ≤ x) (h1 : x < n) (h2 : 2 ≤ n) : (x + 1) % n ≠ x := fun z => by
  by_cases q : x + 1 < n
  · rw [Int.emod_eq_of_lt (by omega) q] at z
    omega
  · rw [show x + 1 = n by omega, Int.emod_self] at z
    omega
end Mi
namespace Mi
open LS
theorem Gz.set0 {M : Int} {n : Nat} {g : Gd} (h : Gz M n g) {x y v : Int} (hx : 0 ≤ x ∧ x < n) (hy : 0 ≤ y ∧ y < n) (e : x = y → v = 0) (hv : 0 ≤ v ∧ v < M) : Gz M n (g.set x.toNat ((g.getD x.toNat default).set y.toNat v)) := by
  by_cases q : x = y
  · have hxl : x.toNat < g.length := by have := h.len; omega
    have hrow : (g.getD x.toNat default).length = n := h.row hx
    have d := h.dg x.toNat (by omega)
    have hrm : g.getD x.toNat default ∈ g := by
      rw [List.getD_eq_getElem?_getD, List.getElem?_eq_getElem hxl]
      exact List.getElem_mem hxl
    have same : (g.getD x.toNat default).set y.toNat v = g.getD x.toNat default := by
      apply List.ext_getElem?
      intro i
      by_cases z : y.toNat = i
      · rw [← z, List.getElem?_set_self (by omega), e q]
        unfold at2 at d
        rw [Int.toNat_natCast, List.getD_eq_getElem?_getD (l := g.getD x.toNat default), List.getElem?_eq_getElem (by omega), Option.getD_some] at d
        rw [← q, List.getElem?_eq_getElem (by omega), d]
      · rw [List.getElem?_set_ne z]
    rw [same]
    have s2 : g.set x.toNat (g.getD x.toNat default) = g := by
      apply List.ext_getElem?
      intro i
      by_cases z : x.toNat = i
      · rw [← z, List.getElem?_set_self hxl, List.getD_eq_getElem?_getD, List.getElem?_eq_getElem hxl, Option.getD_some]
      · rw [List.getElem?_set_ne z]
    rw [s2]
    exact h
  · exact h.set hx hy q hv
theorem shift_inj {x y s n : Int} (hx : 0 ≤ x ∧ x < n) (hy : 0 ≤ y ∧ y < n) (h : (x + s) % n = (y + s) % n) : x = y := by
  have h1 : (x + s - (y + s)) % n = 0 := Int.emod_eq_emod_iff_emod_sub_eq_zero.mp h
  have h2 : (x - y) % n = 0 := by rw [show x - y = x + s - (y + s) by omega]; exact h1
  obtain ⟨k, hk⟩ := Int.dvd_of_emod_eq_zero h2
  have hn : 0 < n := by omega
  rcases Int.lt_trichotomy k 0 with q | q | q
  · have : n * k ≤ n * (-1) := Int.mul_le_mul_of_nonneg_left (by omega) (by omega)
    omega
  · rw [q, Int.mul_zero] at hk
    omega
  · have : n * 1 ≤ n * k := Int.mul_le_mul_of_nonneg_left (by omega) (by omega)
    omega
theorem far_ne {x t n : Int} (hx : 0 ≤ x ∧ x < n) (ht : 0 ≤ t ∧ t < n - 1) : (x + 1 + t) % n ≠ x := fun z => by
  have h2 : (x + (1 + t)) % n = (x + 0) % n := by
    rw [show x + (1 + t) = x + 1 + t by omega, z, Int.add_zero, Int.emod_eq_of_lt hx.1 hx.2]
  rw [Int.add_comm x, Int.add_comm x] at h2
  have := shift_inj (x := 1 + t) (y := 0) (s := x) (n := n) (by omega) (by omega) h2
  omega
/-- grids: square, one size -/
theorem Gz.at {M : Int} {n : Nat} {g : Gd} (h : Gz M n g) {x y : Int} (hx : 0 ≤ x ∧ x < n) (hy : 0 ≤ y ∧ y < n) : 0 ≤ (g.getD x.toNat default).getD y.toNat default ∧ (g.getD x.toNat default).getD y.toNat default < M := by
  have hxl : x.toNat < g.length := by have := h.len; omega
  have hrm : g.getD x.toNat default ∈ g := by
    rw [List.getD_eq_getElem?_getD, List.getElem?_eq_getElem hxl]
    exact List.getElem_mem hxl
  have hyl : y.toNat < (g.getD x.toNat default).length := by rw [h.row hx]; omega
  rw [List.getD_eq_getElem?_getD (l := g.getD x.toNat default), List.getElem?_eq_getElem hyl]
  exact h.pos _ hrm _ (List.getElem_mem hyl)
theorem Gz.dgx {M : Int} {n : Nat} {g : Gd} (h : Gz M n g) {x : Int} (hx : 0 ≤ x ∧ x < n) : (g.getD x.toNat default).getD x.toNat default = 0 := by
  have := h.dg x.toNat (by omega)
  unfold at2 at this
  rw [Int.toNat_natCast] at this
  exact this
end Mi

namespace Mi
open LS
theorem Ok.gz {g : Gd} (h : Ok g) : Gz 137438953472 g.length g := ⟨rfl, h.sq, h.pos, h.dg⟩
theorem cg_set {g : Gd} {G i v : Int} (ok : Ok g) (n5 : g.length ≤ 5) (iG : In g G) (ii : In g i) (ne : G ≠ i) (hv : 0 ≤ v ∧ v < 137438953472) : Cg g (g.set G.toNat ((g.getD G.toNat default).set i.toNat v)) G i := by
  have z := ok.gz.set (x := G) (y := i) iG ii ne hv
  have lo := ok.lo
  have hi := ok.hi
  refine ⟨ok, z.ok (Int.le_refl _) (by omega) (by omega), by rw [List.length_set], n5, iG, ii, ne, fun x y hx hy h => ?_⟩
  unfold at2
  have hxl : x.toNat < g.length := by have := hx.1; have := hx.2; omega
  have hGl : G.toNat < g.length := by have := iG.1; have := iG.2; omega
  by_cases q : x = G
  · subst q
    rw [List.getD_eq_getElem?_getD (l := g.set _ _), List.getElem?_set_self hGl, Option.getD_some, List.getD_eq_getElem?_getD, List.getElem?_set_ne, ← List.getD_eq_getElem?_getD]
    intro w
    have := hy.1
    have := ii.1
    exact h ⟨rfl, by omega⟩
  · rw [List.getD_eq_getElem?_getD (l := g.set _ _), List.getElem?_set_ne, ← List.getD_eq_getElem?_getD]
    intro w
    have := hx.1
    have := iG.1
    omega
end Mi
namespace Po
abbrev Mo := List Nat
abbrev P := List (Mo × Int)
def beqL : Mo → Mo → Bool
  | [], [] => true
  | a :: r, b :: s => Nat.beq a b && beqL r s
  | _, _ => false
theorem beqL_eq : ∀ {a b : Mo}, beqL a b = true → a = b
  | [], [], _ => rfl
  | [], _ :: _, h => nomatch h
  | _ :: _, [], h => nomatch h
  | a :: r, b :: s, h => by
    simp only [beqL, Bool.and_eq_true] at h
    rw [Nat.eq_of_beq_eq_true h.1, beqL_eq h.2]
def ins (v : Nat) : Mo → Mo
  | [] => [v]
  | a :: r => match Nat.ble v a with
    | true => v :: a :: r
    | false => a :: ins v r
def mm (a b : Mo) : Mo := a.foldr ins b
def addT (m : Mo) (c : Int) : P → P
  | [] => [(m, c)]
  | t :: r => match beqL m t.1 with
    | true => (t.1, t.2 + c) :: r
    | false => t :: addT m c r
def add (p q : P) : P := q.foldr (fun t acc => addT t.1 t.2 acc) p
def neg (p : P) : P := p.map fun t => (t.1, -t.2)
def mul (p q : P) : P := p.foldr (fun t acc => q.foldr (fun u acc => addT (mm t.1 u.1) (t.2 * u.2) acc) acc) []
def sub (p q : P) : P := add p (neg q)
def var (v : Nat) : P := [([v], 1)]
def one : P := [([], 1)]
def sum (ps : List P) : P := ps.foldr (fun p acc => add acc p) []
def isZ (p : P) : Bool := p.all fun t => match t.2 with
  | .ofNat 0 => true
  | _ => false
section
variable (ρ : Nat → Int)
def evM : Mo → Int
  | [] => 1
  | v :: r => ρ v * evM r
def ev : P → Int
  | [] => 0
  | t :: r => t.2 * evM ρ t.1 + ev r
theorem evM_ins (v : Nat) : ∀ m : Mo, evM ρ (ins v m) = ρ v * evM ρ m
  | [] => rfl
  | a :: r => by
    unfold ins
    cases Nat.ble v a with
    | true => rfl
    | false =>
      show ρ a * evM ρ (ins v r) = ρ v * (ρ a * evM ρ r)
      rw [evM_ins v r, ← Int.mul_assoc, ← Int.mul_assoc, Int.mul_comm (ρ a)]
theorem evM_mm (b : Mo) : ∀ a : Mo, evM ρ (mm a b) = evM ρ a * evM ρ b
  | [] => (Int.one_mul _).symm
  | v :: r => by
    show evM ρ (ins v (mm r b)) = ρ v * evM ρ r * evM ρ b
    rw [evM_ins, evM_mm b r, Int.mul_assoc]
theorem ev_addT (m : Mo) (c : Int) : ∀ p : P, ev ρ (addT m c p) = c * evM ρ m + ev ρ p
  | [] => rfl
  | t :: r => by
    unfold addT
    cases h : beqL m t.1 with
    | true =>
      have e := beqL_eq h
      show (t.2 + c) * evM ρ t.1 + ev ρ r = c * evM ρ m + (t.2 * evM ρ t.1 + ev ρ r)
      rw [e, Int.add_mul]
      omega
    | false =>
      show t.2 * evM ρ t.1 + ev ρ (addT m c r) = c * evM ρ m + (t.2 * evM ρ t.1 + ev ρ r)
      rw [ev_addT m c r]
      omega
theorem ev_add (p : P) : ∀ q : P, ev ρ (add p q) = ev ρ p + ev ρ q
  | [] => (Int.add_zero _).symm
  | t :: r => by
    show ev ρ (addT t.1 t.2 (add p r)) = ev ρ p + (t.2 * evM ρ t.1 + ev ρ r)
    rw [ev_addT, ev_add p r]
    omega
theorem ev_neg : ∀ p : P, ev ρ (neg p) = -(ev ρ p)
  | [] => rfl
  | t :: r => by
    show -t.2 * evM ρ t.1 + ev ρ (neg r) = -(t.2 * evM ρ t.1 + ev ρ r)
    rw [ev_neg r, Int.neg_mul]
    omega
theorem ev_sub (p q : P) : ev ρ (sub p q) = ev ρ p - ev ρ q := by
  unfold sub
  rw [ev_add, ev_neg]
  omega
theorem ev_mulT (t : Mo × Int) (acc : P) : ∀ q : P, ev ρ (q.foldr (fun u acc => addT (mm t.1 u.1) (t.2 * u.2) acc) acc) = t.2 * evM ρ t.1 * ev ρ q + ev ρ acc
  | [] => by
    show ev ρ acc = t.2 * evM ρ t.1 * 0 + ev ρ acc
    rw [Int.mul_zero, Int.zero_add]
  | u :: r => by
    show ev ρ (addT (mm t.1 u.1) (t.2 * u.2) (r.foldr (fun u acc => addT (mm t.1 u.1) (t.2 * u.2) acc) acc)) = t.2 * evM ρ t.1 * (u.2 * evM ρ u.1 + ev ρ r) + ev ρ acc
    rw [ev_addT, ev_mulT t acc r, evM_mm, Int.mul_add]
    have e : t.2 * u.2 * (evM ρ t.1 * evM ρ u.1) = t.2 * evM ρ t.1 * (u.2 * evM ρ u.1) := by
      rw [Int.mul_assoc, Int.mul_assoc, Int.mul_left_comm u.2]
    rw [e]
    omega
theorem ev_mul (q : P) : ∀ p : P, ev ρ (mul p q) = ev ρ p * ev ρ q
  | [] => (Int.zero_mul _).symm
  | t :: r => by
    show ev ρ (q.foldr (fun u acc => addT (mm t.1 u.1) (t.2 * u.2) acc) (mul r q)) = (t.2 * evM ρ t.1 + ev ρ r) * ev ρ q
    rw [ev_mulT, ev_mul q r, Int.add_mul]
theorem ev_var (v : Nat) : ev ρ (var v) = ρ v := by
  show 1 * (ρ v * 1) + 0 = ρ v
  omega
theorem ev_one : ev ρ one = 1 := rfl
theorem ev_sum : ∀ ps : List P, ev ρ (sum ps) = (ps.map (ev ρ)).sum
  | [] => rfl
  | p :: r => by
    show ev ρ (add (sum r) p) = ev ρ p + (r.map (ev ρ)).sum
    rw [ev_add, ev_sum r, Int.add_comm]
theorem ev_isZ : ∀ {p : P}, isZ p = true → ev ρ p = 0
  | [], _ => rfl
  | t :: r, h => by
    have h2 : (match t.2 with | .ofNat 0 => true | _ => false) = true ∧ isZ r = true := by
      unfold isZ at h ⊢
      rw [List.all_cons,
            Bool.and_eq_true] at h
      exact h
    have e : t.2 = 0 := by
      have := h2.1
      split at this
      · rename_i q
        rw [q]
        rfl
      · cases this
    show t.2 * evM ρ t.1 + ev ρ r = 0
    rw [e, ev_isZ h2.2, Int.zero_mul]
    rfl
/-- two that are one -/
def same (p q : P) : Bool := isZ (sub p q)
theorem ev_same {p q : P} (h : same p q = true) : ev ρ p = ev ρ q := by
  have := ev_isZ ρ h
  rw [ev_sub] at this
  omega
end
end Po
namespace Mi
open LS Po
def pout (E : Int → Int → P) (Dg : Int → P) (left : List Int) : List (List P) := left.map fun x => left.map fun y => if decide (x = y) = true then Dg x else neg (E x y)
def pd3 (a b c d e f g h i : P) : P := add (sub (mul a (sub (mul e i) (mul f h))) (mul b (sub (mul d i) (mul f g)))) (mul c (sub (mul d h) (mul e g)))
def pdet : List (List P) → P
  | [] => one
  | [[a]] => a
  | [[a, b], [c, d]] => sub (mul a d) (mul b c)
  | [[a, b, c], [d, e, f], [g, h, i]] => add (sub (mul a (sub (mul e i) (mul f h))) (mul b (sub (mul d i) (mul f g)))) (mul c (sub (mul d h) (mul e g)))
  | [[a, b, c, d], [e, f, g, h], [i, j, k, l], [m, n, o, p]] => sub (add (sub (mul a (pd3 f g h j k l n o p)) (mul b (pd3 e g h i k l m o p))) (mul c (pd3 e f h i j l m n p))) (mul d (pd3 e f g i j k m n o))
  | _ => []
def pdets (rows : List (List P)) (col : List P) : List P := (List.range rows.length).map fun i => pdet ((rows.zip col).map fun p => p.1.take i ++ p.2 :: (p.1.drop (i + 1) ++ []))
def plook (l : List (Int × P)) (x : Int) : P := match l.lookup x with
  | some p => p
  | none => []
def pfrow (E : Int → Int → P) (Dg : Int → P) (n : Nat) (c : Int) (o : List Int) (x : Int) : P :=
  if decide (x = c) = true then pdet (pout E Dg (keep (rng n) (froots c o))) else plook ((keep (rng n) (froots c o)).zip (pdets (pout E Dg (keep (rng n) (froots c o))) ((keep (rng n) (froots c o)).map fun x => E x c))) x
section
variable {ρ : Nat → Int}
abbrev evm (ρ : Nat → Int) (m : List (List P)) : Gd := m.map fun r => r.map (ev ρ)
theorem det_ev (m : List (List P)) (hl : m.length ≤ 4) (hr : ∀ r ∈ m, r.length = m.length) : det (evm ρ m) = ev ρ (pdet m) := by
  match m, hl, hr with
  | [], _, _ => rfl
  | [r], _, hr =>
    have h1 := hr r (by simp)
    match r, h1 with
    | [a], _ => rfl
  | [r, s], _, hr =>
    have h1 := hr r (by simp)
    have h2 := hr s (by simp)
    match r, s, h1, h2 with
    | [a, b], [c, e], _, _ =>
      show ev ρ a * ev ρ e - ev ρ b * ev ρ c = ev ρ (sub (mul a e) (mul b c))
      rw [ev_sub, ev_mul, ev_mul]
  | [r, s, t], _, hr =>
    have h1 := hr r (by simp)
    have h2 := hr s (by simp)
    have h3 := hr t (by simp)
    match r, s, t, h1, h2, h3 with
    | [a, b, c], [d, e, f], [g, h, i], _, _, _ =>
      show ev ρ a * (ev ρ e * ev ρ i - ev ρ f * ev ρ h) - ev ρ b * (ev ρ d * ev ρ i - ev ρ f * ev ρ g) + ev ρ c * (ev ρ d * ev ρ h - ev ρ e * ev ρ g) = ev ρ (add (sub (mul a (sub (mul e i) (mul f h))) (mul b (sub (mul d i) (mul f g)))) (mul c (sub (mul d h) (mul e g))))
      simp only [ev_add, ev_sub, ev_mul]
  | [r, s, t, u], _, hr =>
    have h1 := hr r (by simp)
    have h2 := hr s (by simp)
    have h3 := hr t (by simp)
    have h4 := hr u (by simp)
    match r, s, t, u, h1, h2, h3, h4 with
    | [a, b, c, d], [e, f, g, h], [i, j, k, l], [m, n, o, p], _, _, _, _ =>
      show ev ρ a * d3 (ev ρ f) (ev ρ g) (ev ρ h) (ev ρ j) (ev ρ k) (ev ρ l) (ev ρ n) (ev ρ o) (ev ρ p) - ev ρ b * d3 (ev ρ e) (ev ρ g) (ev ρ h) (ev ρ i) (ev ρ k) (ev ρ l) (ev ρ m) (ev ρ o) (ev ρ p) + ev ρ c * d3 (ev ρ e) (ev ρ f) (ev ρ h) (ev ρ i) (ev ρ j) (ev ρ l) (ev ρ m) (ev ρ n) (ev ρ p) - ev ρ d * d3 (ev ρ e) (ev ρ f) (ev ρ g) (ev ρ i) (ev ρ j) (ev ρ k) (ev ρ m) (ev ρ n) (ev ρ o) = ev ρ (sub (add (sub (mul a (pd3 f g h j k l n o p)) (mul b (pd3 e g h i k l m o p))) (mul c (pd3 e f h i j l m n p))) (mul d (pd3 e f g i j k m n o)))
      simp only [ev_add, ev_sub, ev_mul, pd3, d3]
theorem cutTo {xs : List Int} (i : Nat) : cutA xs none (some (i : Int)) = xs.take i := by
  unfold cutA HT.sIx
  simp only []
  rw [if_neg (by omega)]
  simp only [List.drop_zero,
        Nat.sub_zero]
  rw [show min ((i : Int)).toNat xs.length = min i xs.length by simp]
  by_cases h : i ≤ xs.length
  · rw [Nat.min_eq_left h]
  · rw [Nat.min_eq_right (by omega), List.take_length, List.take_of_length_le (by omega)]
theorem cutFr {xs : List Int} (i : Nat) : cutA xs (some ((i : Int) + 1)) none = xs.drop (i + 1) := by
  unfold cutA HT.sIx
  simp only []
  rw [if_neg (by omega)]
  rw [show min ((i : Int) + 1).toNat xs.length = min (i + 1) xs.length by congr 1]
  by_cases h : i + 1 ≤ xs.length
  · rw [Nat.min_eq_left h]
    exact List.take_of_length_le
          (by rw [List.length_drop]; omega)
  · rw [Nat.min_eq_right (by omega), List.drop_eq_nil_of_le (Nat.le_refl _), List.drop_eq_nil_of_le (by omega)]
    simp
theorem zip_ev {α β γ δ : Type} (f : α → γ) (g : β → δ) : ∀ (xs : List α) (ys : List β), (xs.map f).zip (ys.map g) = (xs.zip ys).map fun p => (f p.1, g p.2)
  | [], _ => by simp
  | _ :: _, [] => by simp
  | x :: xs, y :: ys => by simp [zip_ev f g xs ys]
theorem dets_ev (rows : List (List P)) (col : List P) (hl : rows.length ≤ 4) (hr : ∀ r ∈ rows, r.length = rows.length) (hc : col.length = rows.length) : dets (evm ρ rows) (col.map (ev ρ)) = (pdets rows col).map (ev ρ) := by
  unfold dets pdets rng
  rw [List.map_map, List.map_map, List.length_map]
  refine List.map_congr_left fun i hi => ?_
  have hi : i < rows.length := by simpa using hi
  simp only [Function.comp]
  have hz : (rows.zip col).length = rows.length := by rw [List.length_zip, hc]; omega
  rw [← det_ev]
  · congr 1
    rw [zip_ev, List.map_map]
    show _ = ((rows.zip col).map _).map _
    rw [List.map_map]
    refine List.map_congr_left
          fun p _ => ?_
    simp only [Function.comp]
    rw [cutTo, cutFr]
    simp
  · rw [List.length_map, hz]
    exact hl
  · intro r hr2
    obtain ⟨p, hp, rfl⟩ := List.mem_map.mp hr2
    have h1 := hr _ (zip_mem hp).1
    rw [List.length_map, hz]
    simp
    omega
theorem look_ev (x : Int) : ∀ (xs : List Int) (ps : List P), ((xs.zip (ps.map (ev ρ))).lookup x).getD 0 = ev ρ (plook (xs.zip ps) x)
  | [], _ => by simp [plook, ev]
  | _ :: _, [] => by simp [plook, ev]
  | a :: xs, p :: ps => by
    have ih := look_ev x xs ps
    unfold plook at ih ⊢
    simp only [List.map_cons, List.zip_cons_cons, List.lookup_cons]
    cases x == a with
    | true => rfl
    | false => exact ih
/-- the rates of g told by polynomials -/
structure Md (ρ : Nat → Int) (g : Gd) (E : Int → Int → P) (Dg : Int → P) : Prop where
  off : ∀ x y : Int, In g x → In g y → x ≠ y → at2 g x y = ev ρ (E x y)
  dg : ∀ x : Int, In g x → ((rng g.length).map fun z => at2 g x z).sum = ev ρ (Dg x)
theorem out_ev {g : Gd} {E : Int → Int → P} {Dg : Int → P} (m : Md ρ g E Dg) (left : List Int) (hl : ∀ x ∈ left, In g x) : outR (tOf g) (rng g.length) left = evm ρ (pout E Dg left) := by
  unfold outR pout evm
  rw [List.map_map]
  refine List.map_congr_left fun x hx => ?_
  simp only [Function.comp]
  rw [List.map_map]
  refine List.map_congr_left fun y hy => ?_
  simp only [Function.comp]
  by_cases h : x = y
  · rw [if_pos (by simpa using h), if_pos (by simpa using h), ← m.dg x (hl x hx)]
    simp only [rat_tOf]
  · rw [if_neg (by simpa using h), if_neg (by simpa using h), ev_neg, rat_tOf, m.off x y (hl x hx) (hl y hy) h]
theorem pout_len (E : Int → Int → P) (Dg : Int → P) (left : List Int) : (pout E Dg left).length = left.length := by unfold pout; rw [List.length_map]
theorem pout_row (E : Int → Int → P) (Dg : Int → P) (left : List Int) : ∀ r ∈ pout E Dg left, r.length = (pout E Dg left).length := fun r hr => by
  rw [pout_len]
  unfold pout at hr
  obtain ⟨x, _, rfl⟩ := List.mem_map.mp hr
  rw [List.length_map]
theorem sumW_ev {g : Gd} {E : Int → Int → P} {Dg : Int → P} (m : Md ρ g E Dg) (roots : List Int) (h3 : (keep (rng g.length) roots).length ≤ 4) : sumW (tOf g) (rng g.length) roots = ev ρ (pdet (pout E Dg (keep (rng g.length) roots))) := by
  unfold sumW
  rw [out_ev m _ fun x hx => keep_sts (n := g.length) (fun y hy => rng_mem hy) x hx, det_ev _ (by rw [pout_len]; exact h3) (pout_row _ _ _)]
theorem frow_ev {g : Gd} {E : Int → Int → P} {Dg : Int → P} (m : Md ρ g E Dg) (c : Int) (o : List Int) (hc : In g c) (h3 : (fleft g c o).length ≤ 4) {x : Int} (hx : In g x) : (frow g c o).getD x.toNat default = ev ρ (pfrow E Dg g.length c o x) := by
  have hin : ∀ y ∈ fleft g c o, In g y := fun y hy => keep_sts (n := g.length) (fun z hz => rng_mem hz) y hy
  unfold frow
  rw [map_at hx]
  unfold pfrow
  by_cases h : x = c
  · rw [if_pos h, if_pos (by simpa using h), out_ev m _ hin]
    exact det_ev _ (by rw [pout_len]; exact h3) (pout_row _ _ _)
  · rw [if_neg h, if_neg (by simpa using h), out_ev m _ hin]
    have e : (fleft g c o).map (fun x => at2 g x c) = ((keep (rng g.length) (froots c o)).map fun x => E x c).map (ev ρ) := by
      rw [List.map_map]
      refine List.map_congr_left fun y hy => ?_
      have hyc : y ≠ c := fun z => by
        have := (List.mem_filter.mp hy).2
        rw [z] at this
        simp [froots] at this
      exact m.off y c (hin y hy) hc hyc
    rw [e, dets_ev _ _ (by rw [pout_len]; exact h3) (pout_row _ _ _) (by rw [pout_len, List.length_map]; rfl)]
    exact look_ev x _ _
end
end Mi
namespace Mi
open LS Po
def ahd (n : Nat) (roots : List Int) (x : Int) : List Int := if roots.contains x = true then [x] else (rng n).filter fun y => !decide (y = x)
def alns (n : Nat) (roots : List Int) : Nat → List (List Int)
  | 0 => [[]]
  | i + 1 => (alns n roots i).flatMap fun l => (ahd n roots i).map fun y => l ++ [y]
def pwt (E : Int → Int → P) (l : List Int) : Nat → P
  | 0 => one
  | i + 1 => if decide (l.getD i default = (i : Int)) = true then pwt E l i else mul (pwt E l i) (E i (l.getD i default))
def okL (n : Nat) (roots : List Int) (l : List Int) : Bool := ((rng n).map fun x => roots.contains (lead l x)).all id
def psumF (E : Int → Int → P) (n : Nat) (roots : List Int) (ends : List (Int × Int)) : P := sum ((((alns n roots n).filter (okL n roots)).filter fun l => okEnds ends (Tp.mk l)).map fun l => pwt E l n)
section
variable {ρ : Nat → Int}
theorem sum_filt {α : Type} (p : α → Bool) (f : α → Int) : ∀ xs : List α, ((xs.filter p).map f).sum = (xs.map fun x => (if p x = true then (1 : Int) else 0) * f x).sum
  | [] => rfl
  | x :: r => by
    by_cases h : p x = true
    · rw [List.filter_cons_of_pos h, List.map_cons, List.sum_cons, List.map_cons, List.sum_cons, sum_filt p f r, if_pos h, Int.one_mul]
    · rw [List.filter_cons_of_neg h, List.map_cons, List.sum_cons, sum_filt p f r, if_neg h, Int.zero_mul, Int.zero_add]
theorem sum_flat {α β : Type} (f : α → List β) (h : β → Int) : ∀ xs : List α, ((xs.flatMap f).map h).sum = (xs.map fun x => ((f x).map h).sum).sum
  | [] => rfl
  | x :: r => by
    rw [List.flatMap_cons, List.map_append, List.sum_append, List.map_cons, List.sum_cons, sum_flat f h r]
theorem sum_mulR {α : Type} (f : α → Int) (k : Int) : ∀ xs : List α, (xs.map fun x => f x * k).sum = (xs.map f).sum * k
  | [] => (Int.zero_mul _).symm
  | x :: r => by
    rw [List.map_cons, List.sum_cons, List.map_cons, List.sum_cons, sum_mulR f k r, Int.add_mul]
theorem wt_pre {g : Gd} {l : List Int} {y : Int} : ∀ {i : Nat}, i ≤ l.length → weightS g (l ++ [y]) i = weightS g l i
  | 0, _ => rfl
  | i + 1, h => by
    have e : (l ++ [y]).getD i default = l.getD i default := by
      rw [List.getD_eq_getElem?_getD, List.getD_eq_getElem?_getD, List.getElem?_append_left (by omega)]
    show (if (l ++ [y]).getD i default = (i : Int) then weightS g (l ++ [y]) i else weightS g (l ++ [y]) i * at2 g i ((l ++ [y]).getD i default)) = if l.getD i default = (i : Int) then weightS g l i else weightS g l i * at2 g i (l.getD i default)
    rw [e, wt_pre (by omega)]
def kf (g : Gd) (i : Nat) (y : Int) : Int := if y = (i : Int) then 1 else at2 g i y
theorem wt_last {g : Gd} {l : List Int} {y : Int} {i : Nat} (h : l.length = i) : weightS g (l ++ [y]) (i + 1) = kf g i y * weightS g l i := by
  have e : (l ++ [y]).getD i default = y := by
    rw [List.getD_eq_getElem?_getD, List.getElem?_append_right (by omega)]
    simp [h]
  show (if (l ++ [y]).getD i default = (i : Int) then weightS g (l ++ [y]) i else weightS g (l ++ [y]) i * at2 g i ((l ++ [y]).getD i default)) = _
  rw [e, wt_pre (by omega)]
  unfold kf
  split
  · rw [Int.one_mul]
  · rw [Int.mul_comm]
theorem alns_len (n : Nat) (roots : List Int) : ∀ (i : Nat), ∀ l ∈ alns n roots i, l.length = i
  | 0, l, h => by rw [List.mem_singleton.mp h]; rfl
  | i + 1, l, h => by
    obtain ⟨m, hm, h2⟩ := List.mem_flatMap.mp h
    obtain ⟨y, _, rfl⟩ := List.mem_map.mp h2
    rw [List.length_append, alns_len n roots i m hm]
    rfl
theorem lines_len (g : Gd) (roots : List Int) : ∀ (i : Nat), ∀ l ∈ lines g roots i, l.length = i
  | 0, l, h => by rw [List.mem_singleton.mp h]; rfl
  | i + 1, l, h => by
    obtain ⟨m, hm, h2⟩ := List.mem_flatMap.mp h
    obtain ⟨y, _, rfl⟩ := List.mem_map.mp h2
    rw [List.length_append, lines_len g roots i m hm]
    rfl
theorem hd_sum {g : Gd} (ok : Ok g) {roots : List Int} {i : Nat} (hi : i < g.length) (φ : Int → Int) : ((heads g roots i).map fun y => φ y * kf g i y).sum = ((ahd g.length roots i).map fun y => φ y * kf g i y).sum := by
  unfold heads ahd
  by_cases h : roots.contains (i : Int) = true
  · rw [if_pos h, if_pos h]
  · rw [if_neg h, if_neg h, sum_filt, sum_filt]
    congr 1
    refine List.map_congr_left fun y hy => ?_
    have hb := rng_mem hy
    have b := ok.bd (x := i) (y := y) (by omega) (by omega) hb.1 hb.2
    by_cases q : y = (i : Int)
    · have z : at2 g i y = 0 := by
        rw [q]
        exact ok.diag (by omega) (by omega)
      rw [z, if_neg (by decide), if_neg (by simp [q])]
    · by_cases z : 0 < at2 g i y
      · rw [if_pos (by simpa using z), if_pos (by simpa using q)]
      · have z0 : at2 g i y = 0 := by omega
        unfold kf
        rw [if_neg q, z0, Int.mul_zero, Int.mul_zero, Int.mul_zero]
theorem ln_sum {g : Gd} (ok : Ok g) {roots : List Int} : ∀ (i : Nat), i ≤ g.length → ∀ Φ : List Int → Int, ((lines g roots i).map fun l => Φ l * weightS g l i).sum = ((alns g.length roots i).map fun l => Φ l * weightS g l i).sum
  | 0, _, Φ => rfl
  | i + 1, h, Φ => by
    have step : ∀ (L : List (List Int)) (hd : List Int), (∀ l ∈ L, l.length = i) → ((L.flatMap fun l => hd.map fun y => l ++ [y]).map fun l => Φ l * weightS g l (i + 1)).sum = (L.map fun l => ((hd.map fun y => Φ (l ++ [y]) * kf g i y).sum) * weightS g l i).sum := fun L hd hL => by
      rw [sum_flat]
      congr 1
      refine List.map_congr_left fun l hl => ?_
      rw [List.map_map, ← sum_mulR]
      congr 1
      refine List.map_congr_left fun y _ => ?_
      simp only [Function.comp]
      rw [wt_last (hL l hl), Int.mul_assoc]
    show (((lines g roots i).flatMap fun l => (heads g roots i).map fun y => l ++ [y]).map _).sum = (((alns g.length roots i).flatMap fun l => (ahd g.length roots i).map fun y => l ++ [y]).map _).sum
    rw [step _ _ (lines_len g roots i), step _ _ (alns_len g.length roots i), ← ln_sum ok i (by omega)]
    congr 1
    refine List.map_congr_left fun l _ => ?_
    rw [hd_sum ok (by omega)]
theorem alns_in {n : Nat} {roots : List Int} : ∀ {i : Nat}, i ≤ n → ∀ l ∈ alns n roots i, ∀ y ∈ l, 0 ≤ y ∧ y < (n : Int)
  | 0, _, l, h, y, hy => by
    rw [List.mem_singleton.mp h] at hy
    cases hy
  | i + 1, hi, l, h, y, hy => by
    obtain ⟨m, hm, h2⟩ := List.mem_flatMap.mp h
    obtain ⟨z, hz, rfl⟩ := List.mem_map.mp h2
    rcases List.mem_append.mp hy with q | q
    · exact alns_in (by omega) m hm y q
    · rw [List.mem_singleton.mp q]
      unfold ahd at hz
      split at hz
      · rw
            [List.mem_singleton.mp hz]
        omega
      · exact rng_mem (List.mem_filter.mp hz).1
theorem pwt_ev {g : Gd} {E : Int → Int → P} (off : ∀ x y : Int, In g x → In g y → x ≠ y → at2 g x y = ev ρ (E x y)) {l : List Int} (hl : l.length = g.length) (hin : ∀ y ∈ l, 0 ≤ y ∧ y < (g.length : Int)) : ∀ i : Nat, i ≤ g.length → weightS g l i = ev ρ (pwt E l i)
  | 0, _ => rfl
  | i + 1, h => by
    have ih := pwt_ev off hl hin i (by omega)
    have hm : 0 ≤ l.getD i default ∧ l.getD i default < (g.length : Int) := by
      rw [List.getD_eq_getElem?_getD, List.getElem?_eq_getElem (show i < l.length by omega)]
      exact hin _ (List.getElem_mem _)
    show (if l.getD i default = (i : Int) then weightS g l i else weightS g l i * at2 g i (l.getD i default)) = ev ρ (if decide (l.getD i default = (i : Int)) = true then pwt E l i else mul (pwt E l i) (E i (l.getD i default)))
    by_cases q : l.getD i default = (i : Int)
    · rw [if_pos q, if_pos (by simpa using q), ih]
    · rw [if_neg q, if_neg (by simpa using q), ev_mul, ih, off i _ ⟨by omega, by omega⟩ hm (fun z => q z.symm)]
theorem sumF_ev {g : Gd} (ok : Ok g) {E : Int → Int → P} (off : ∀ x y : Int, In g x → In g y → x ≠ y → at2 g x y = ev ρ (E x y)) (roots : List Int) (ends : List (Int × Int)) : sumF g roots ends = ev ρ (psumF E g.length roots ends) := by
  unfold sumF psumF forests
  rw [ev_sum]
  have e1 : ((((lines g roots g.length).filter fun line => ((rng g.length).map fun x => roots.contains (lead line x)).all id).map Tp.mk).filter (okEnds ends)).map (fun t => weight g t.l) = (((lines g roots g.length).filter (okL g.length roots)).filter fun l => okEnds ends (Tp.mk l)).map fun l => weight g l := by
    rw [List.filter_map, List.map_map]
    rfl
  rw [e1, List.filter_filter, List.filter_filter, sum_filt, List.map_map, sum_filt]
  have e2 : ∀ (L : List (List Int)) (h : List Int → Int), (∀ l ∈ L, l.length = g.length) → (L.map fun l => h l * weight g l) = L.map fun l => h l * weightS g l g.length := fun L h hL => List.map_congr_left fun l hl => by
    unfold weight
    rw [hL l hl]
  rw [e2 _ _ (lines_len g roots g.length), ln_sum ok g.length (Nat.le_refl _)]
  congr 1
  refine List.map_congr_left fun l hl => ?_
  simp only [Function.comp]
  rw [pwt_ev off (alns_len _ _ _ l hl) (alns_in (Nat.le_refl _) l hl) g.length (Nat.le_refl _)]
end
end Mi
namespace Mi
open LS Po
def E0 (x y : Int) : P := var (x.toNat * 8 + y.toNat)
def D0 (n : Nat) (x : Int) : P := sum (((rng n).filter fun z => !decide (z = x)).map fun z => E0 x z)
def R0 : P := var 64
def D1 (x : Int) : P := E0 x x
def E2 (G h x y : Int) : P := if decide (x = G) = true then (if decide (y = h) = true then add (E0 x y) R0 else E0 x y) else E0 x y
def D2 (G x : Int) : P := if decide (x = G) = true then add (D1 x) R0 else D1 x
def c1 (n : Nat) (c e : Int) : Bool := (rng n).all fun x => same (pfrow E0 (D0 n) n c [e] x) (psumF E0 n [c, e] [(x, c)])
def c2 (n : Nat) (c e : Int) : Bool := (alns n [c, e] n).all fun l => decide (lead l c = c)
def c3 (n : Nat) (c e : Int) : Bool := (rng n).all fun G => decide (G = c) || (decide (G = e) || (rng n).all fun x => same (pfrow E0 (D0 n) n G [e, c] x) (psumF E0 n [c, e, G] [(x, G)]))
def c4 (n : Nat) (c e : Int) : Bool := (rng n).all fun G => decide (G = c) || (decide (G = e) || (rng n).all fun h => decide (G = h) || (rng n).all fun x =>
  same (sub (mul (pdet (pout E0 D1 (keep (rng n) [c, e]))) (pfrow (E2 G h) (D2 G) n c [e] x)) (mul (pdet (pout (E2 G h) (D2 G) (keep (rng n) [c, e]))) (pfrow E0 D1 n c [e] x))) (mul (mul R0 (sub (pfrow E0 D1 n c [e] h) (pfrow E0 D1 n c [e] G))) (pfrow E0 D1 n G [e, c] x)))
def c5 (n : Nat) (c e : Int) : Bool := (rng n).all fun G => (rng n).all fun h => decide (G = h) || same (sub (pfrow (E2 G h) (D2 G) n c [e] h) (pfrow (E2 G h) (D2 G) n c [e] G)) (sub (pfrow E0 D1 n c [e] h) (pfrow E0 D1 n c [e] G))
def c6 (n : Nat) (c e : Int) : Bool := (rng n).all fun x => same (add (pfrow E0 (D0 n) n c [e] x) (pfrow E0 (D0 n) n e [c] x)) (pdet (pout E0 (D0 n) (keep (rng n) [c, e])))
/-- for all sizes and roots -/
def Al (f : Nat → Int → Int → Bool) : Prop := ∀ (n : Nat) (c e : Int), 2 ≤ n → n ≤ 5 → 0 ≤ c → c < n → 0 ≤ e → e < n → c ≠ e → f n c e = true
def Lt (f : Nat → Int → Int → Bool) : Prop := ∀ (n : Nat) (c e : Int), 2 ≤ n → n ≤ 5 → 0 ≤ c → c < e → e < n → f n c e = true
section
theorem all_at {n : Nat} {p : Int → Bool} (h : (rng n).all p = true) {x : Int} (h0 : 0 ≤ x) (h1 : x < n) : p x = true := (List.all_eq_true.mp h) x (mem_rng.mpr ⟨h0, h1⟩)
theorem or_at {p : Prop} [Decidable p] {b : Bool} (h : (decide p || b) = true) (n : ¬ p) : b = true := by
  rw [decide_eq_false n, Bool.false_or] at h
  exact h
def r0 (g : Gd) (v : Nat) : Int := at2 g ((v / 8 : Nat) : Int) ((v % 8 : Nat) : Int)
theorem code {x y : Int} (hx : 0 ≤ x ∧ x < 8) (hy : 0 ≤ y ∧ y < 8) : (((x.toNat * 8 + y.toNat) / 8 : Nat) : Int) = x ∧ (((x.toNat * 8 + y.toNat) % 8 : Nat) : Int) = y := by omega
theorem md0 {g : Gd} (ok : Ok g) : Md (r0 g) g E0 (D0 g.length) := by
  have h8 := ok.hi
  have off : ∀ x y : Int, In g x → In g y → at2 g x y = ev (r0 g) (E0 x y) := fun x y hx hy => by
    have hx2 : 0 ≤ x ∧ x < 8 := ⟨hx.1, by have := hx.2; omega⟩
    have hy2 : 0 ≤ y ∧ y < 8 := ⟨hy.1, by have := hy.2; omega⟩
    unfold E0
    rw [ev_var]
    unfold r0
    rw [(code hx2 hy2).1, (code hx2 hy2).2]
  refine ⟨fun x y hx hy _ => off x y hx hy, fun x hx => ?_⟩
  unfold D0
  rw [ev_sum, List.map_map, sum_filt]
  congr 1
  refine List.map_congr_left fun z hz => ?_
  simp only [Function.comp]
  have hz2 := rng_mem hz
  by_cases q : z = x
  · rw [if_neg (by simp [q]), q, ok.diag hx.1 hx.2, Int.zero_mul]
  · rw [if_pos (by simp [q]), Int.one_mul]
    exact off x z hx hz2
theorem srt1 (e : Int) : srt [e] = [e] := (srt_perm [e]).eq_singleton
theorem fl_perm {g : Gd} {c : Int} {o o' : List Int} (h : o.Perm o') : fleft g c o = fleft g c o' := by
  unfold fleft keep froots
  refine List.filter_congr
        fun x _ => ?_
  rw [List.contains_eq_mem, List.contains_eq_mem]
  congr 2
  simp [h.mem_iff]
theorem frow_perm {g : Gd} {c : Int} {o o' : List Int} (h : o.Perm o') : frow g c o = frow g c o' := by
  unfold frow
  rw [fl_perm h]
theorem keep_swap {part : List Int} {c e : Int} : keep part [e, c] = keep part [c, e] := by
  unfold keep
  refine List.filter_congr
        fun x _ => ?_
  rw [List.contains_eq_mem, List.contains_eq_mem]
  congr 2
  simp [or_comm]
theorem fl3 {g : Gd} (n5 : g.length ≤ 5) {c e : Int} (ic : In g c) (ie : In g e) (ce : c ≠ e) : (keep (rng g.length) [c, e]).length ≤ 4 := Nat.le_succ_of_le (left3 (o := [e]) n5 ic ie (by simp) (by simpa using ce))
theorem fr_ev {ρ : Nat → Int} {g : Gd} {E : Int → Int → P} {Dg : Int → P} (m : Md ρ g E Dg) (n5 : g.length ≤ 5) {c e : Int} (ic : In g c) (ie : In g e) (ce : c ≠ e) {x : Int} (ix : In g x) : fr g c e x = ev ρ (pfrow E Dg g.length c [e] x) := by
  unfold fr
  rw [srt1]
  exact frow_ev m c [e] ic (fl3 n5 ic ie ce) ix
theorem s_one {g : Gd} {a b : Int} {roots : List Int} : (((forests g roots).map fun t => (if decide (lead t.l a = b) = true then (1 : Int) else 0) * weight g t.l)).sum = sumF g roots [(a, b)] := by
  unfold sumF
  rw [sum_filt]
  congr 1
  refine List.map_congr_left fun t _ => ?_
  unfold okEnds
  simp
theorem sum_sub {α : Type} (f h : α → Int) : ∀ xs : List α, (xs.map fun x => f x - h x).sum = (xs.map f).sum - (xs.map h).sum
  | [] => rfl
  | x :: r => by
    simp only [List.map_cons,
          List.sum_cons]
    rw [sum_sub f h r]
    omega
theorem t1_of (h : Al c1) : T1 := fun g a b c e ok n5 ia ib ic ie ce => by
  have hc := h g.length c e ok.lo n5 ic.1 ic.2 ie.1 ie.2 ce
  have key : ∀ x : Int, In g x → fr g c e x = sumF g [c, e] [(x, c)] := fun x ix => by
    rw [fr_ev (md0 ok) n5 ic ie ce ix, sumF_ev ok (md0 ok).off, ev_same _ (all_at hc ix.1 ix.2)]
  unfold dif pushF
  rw [key b ib, key a ia, ← s_one, ← s_one, ← sum_sub]
  congr 1
  refine List.map_congr_left fun t _ => ?_
  rw [Int.sub_mul]
theorem sumF_nil {g : Gd} {roots : List Int} (ends : List (Int × Int)) (h : ∀ t ∈ forests g roots, okEnds ends t = true) : sumF g roots ends = sumF g roots [] := by
  unfold sumF
  rw [List.filter_eq_self.mpr h, List.filter_eq_self.mpr (show ∀ t ∈ forests g roots, okEnds [] t = true from fun _ _ => rfl)]
theorem lines_sub {g : Gd} {roots : List Int} (ok : Ok g) : ∀ {i : Nat}, i ≤ g.length → ∀ l ∈ lines g roots i, l ∈ alns g.length roots i
  | 0, _, l, h => h
  | i + 1, hi, l, h => by
    obtain ⟨m, hm, h2⟩ := List.mem_flatMap.mp h
    obtain ⟨y, hy, rfl⟩ := List.mem_map.mp h2
    refine List.mem_flatMap.mpr ⟨m, lines_sub ok (by omega) m hm, List.mem_map.mpr ⟨y, ?_, rfl⟩⟩
    unfold heads at hy
    unfold ahd
    split at hy
    · rename_i q
      rw [if_pos q]
      exact hy
    · rename_i q
      rw [if_neg q]
      obtain ⟨h3, h4⟩ := List.mem_filter.mp hy
      refine List.mem_filter.mpr ⟨h3, ?_⟩
      have hne : y ≠ (i : Int) := fun z => by
        rw [z, ok.diag (by omega) (by omega)] at h4
        simp at h4
      simpa using hne
theorem t2_of (h : Al c1) (h2 : Al c2) : T2 := fun g c e ok n5 ic ie ce => by
  have hc := h g.length c e ok.lo n5 ic.1 ic.2 ie.1 ie.2 ce
  have hc2 := h2 g.length c e ok.lo n5 ic.1 ic.2 ie.1 ie.2 ce
  have e1 : sumW (tOf g) (rng g.length) [c, e] = sumF g [c, e] [] := by
    rw [sumW_ev (md0 ok) _ (fl3 n5 ic ie ce), ← sumF_nil [(c, c)], sumF_ev ok (md0 ok).off, ← ev_same _ (all_at hc ic.1 ic.2)]
    · unfold pfrow
      rw [if_pos (by simp)]
      rfl
    · intro t ht
      unfold forests at ht
      obtain ⟨l, hl, rfl⟩ := List.mem_map.mp ht
      have := (List.all_eq_true.mp hc2) l (lines_sub ok (Nat.le_refl _) l (List.mem_filter.mp hl).1)
      unfold okEnds
      simpa using this
  refine ⟨e1, ?_⟩
  rw [← e1]
  unfold sumW
  rw [keep_swap]
theorem t3_of (h : Al c3) : T3 := fun g G c e ok n5 iG ic ie ce gc ge => by
  have hc := or_at (or_at (all_at (h g.length c e ok.lo n5 ic.1 ic.2 ie.1 ie.2 ce) iG.1 iG.2) gc) ge
  have h3 : (fleft g G [e, c]).length ≤ 4 := Nat.le_succ_of_le (left3 (o := [e, c]) n5 iG ie (by simp) (by simp [gc, ge]))
  rw [frow_perm (srt_perm [e, c])]
  have key : ∀ x : Int, In g x → (frow g G [e, c]).getD x.toNat default = sumF g [c, e, G] [(x, G)] := fun x ix => by
    rw [frow_ev (md0 ok) G [e, c] iG h3 ix, sumF_ev ok (md0 ok).off, ev_same _ (all_at hc ix.1 ix.2)]
  apply List.ext_getElem?
  intro i
  have l1 := frow_len (g := g) (c := G) (o := [e, c])
  by_cases q : i < g.length
  · have k := key (i : Int) ⟨by omega, by omega⟩
    rw [List.getD_eq_getElem?_getD, Int.toNat_natCast, List.getElem?_eq_getElem (show i < (frow g G [e, c]).length by omega), Option.getD_some] at k
    rw [List.getElem?_eq_getElem (show i < (frow g G [e, c]).length by omega), k, List.getElem?_map]
    unfold rng
    rw [List.getElem?_map, List.getElem?_range (by simpa using q)]
    rfl
  · rw [List.getElem?_eq_none (by omega), List.getElem?_eq_none (by rw [List.length_map, rng_len]; omega)]
end
end Mi
namespace Mi
open LS Po
def rs (g : Gd) (x : Int) : Int := ((rng g.length).map fun z => at2 g x z).sum
def r1 (g : Gd) (R : Int) (v : Nat) : Int := if v = 64 then R else if v / 8 = v % 8 then rs g ((v / 8 : Nat) : Int) else at2 g ((v / 8 : Nat) : Int) ((v % 8 : Nat) : Int)
theorem r1_off {g : Gd} (ok : Ok g) {R : Int} {x y : Int} (hx : In g x) (hy : In g y) (h : x ≠ y) : at2 g x y = ev (r1 g R) (E0 x y) := by
  have h8 := ok.hi
  have hx2 : 0 ≤ x ∧ x < 8 := ⟨hx.1, by have := hx.2; omega⟩
  have hy2 : 0 ≤ y ∧ y < 8 := ⟨hy.1, by have := hy.2; omega⟩
  unfold E0
  rw [ev_var]
  unfold r1
  rw [if_neg (by omega), if_neg (by omega), (code hx2 hy2).1, (code hx2 hy2).2]
theorem r1_dg {g : Gd} (ok : Ok g) {R : Int} {x : Int} (hx : In g x) : rs g x = ev (r1 g R) (D1 x) := by
  have h8 := ok.hi
  have hx2 : 0 ≤ x ∧ x < 8 := ⟨hx.1, by have := hx.2; omega⟩
  unfold D1 E0
  rw [ev_var]
  unfold r1
  rw [if_neg (by omega), if_pos (by omega), (code hx2 hx2).1]
theorem md1 {g : Gd} (ok : Ok g) (R : Int) : Md (r1 g R) g E0 D1 := ⟨fun _ _ hx hy h => r1_off ok hx hy h, fun _ hx => r1_dg ok hx⟩
theorem r1_R {g : Gd} {R : Int} : ev (r1 g R) R0 = R := by
  unfold R0
  rw [ev_var]
  rfl
theorem sum_one (f f' : Int → Int) (h R : Int) (h1 : f' h = f h + R) (h2 : ∀ z, z ≠ h → f' z = f z) : ∀ xs : List Int, xs.Nodup → (xs.map f').sum = (xs.map f).sum + (if h ∈ xs then R else 0)
  | [], _ => rfl
  | a :: r, hn => by
    have hn2 := List.nodup_cons.mp hn
    rw [List.map_cons, List.sum_cons, List.map_cons, List.sum_cons, sum_one f f' h R h1 h2 r hn2.2]
    by_cases q : a = h
    · subst q
      rw [h1, if_neg hn2.1, if_pos List.mem_cons_self]
      omega
    · rw [h2 a q]
      by_cases q2 : h ∈ r
      · rw [if_pos q2, if_pos (List.mem_cons_of_mem _ q2)]
        omega
      · rw [if_neg q2, if_neg (by simp [q2]; exact fun z => q z.symm)]
        omega
theorem md2 {g o : Gd} {G h : Int} (cg : Cg g o G h) : Md (r1 g (at2 o G h - at2 g G h)) o (E2 G h) (D2 G) := by
  have len := cg.len
  have back : ∀ {x : Int}, In o x → In g x := fun {x} hx => ⟨hx.1, by have := hx.2; omega⟩
  refine ⟨fun x y hx hy hne => ?_, fun x hx => ?_⟩
  · have gx := back hx
    have gy := back hy
    unfold E2
    by_cases q : x = G
    · rw [if_pos (by simpa using q)]
      by_cases q2 : y = h
      · rw [if_pos (by simpa using q2), ev_add, r1_R, ← r1_off cg.okg gx gy hne, q, q2]
        omega
      · rw [if_neg (by simpa using q2), ← r1_off cg.okg gx gy hne]
        exact cg.same x y gx gy fun z => q2 z.2
    · rw [if_neg (by simpa using q), ← r1_off cg.okg gx gy hne]
      exact cg.same x y gx gy fun z => q z.1
  · have gx := back hx
    unfold D2
    rw [len]
    by_cases q : x = G
    · rw [if_pos (by simpa using q), ev_add, r1_R, ← r1_dg cg.okg gx, q]
      unfold rs
      have e : ((rng g.length).map fun z => at2 o G z) = (rng g.length).map fun z => if z = h then at2 g G h + (at2 o G h - at2 g G h) else at2 g G z := List.map_congr_left fun z hz => by
        by_cases q2 : z = h
        · rw [if_pos q2, q2]
          omega
        · rw [if_neg q2]
          exact cg.same G z cg.iG (rng_mem hz) fun w => q2 w.2
      rw [e, sum_one (fun z => at2 g G z) _ h (at2 o G h - at2 g G h) (by rw [if_pos rfl]) (fun z hz => by rw [if_neg hz]) _ (nodup_rng _), if_pos (mem_rng.mpr cg.ih)]
    · rw [if_neg (by simpa using q), ← r1_dg cg.okg gx]
      unfold rs
      congr 1
      refine List.map_congr_left fun z hz => ?_
      exact cg.same x z gx (rng_mem hz) fun w => q w.1
theorem t5_of (h : Al c5) : T5 := fun g o G i c e cg ic ie ce => by
  have ok := cg.okg
  have len := cg.len
  have hc := or_at (all_at (all_at (h g.length c e ok.lo cg.n5 ic.1 ic.2 ie.1 ie.2 ce) cg.iG.1 cg.iG.2) cg.ih.1 cg.ih.2) cg.ne
  have k := ev_same (r1 g (at2 o G i - at2 g G i)) hc
  have n5o : o.length ≤ 5 := by rw [len]; exact cg.n5
  unfold dif
  rw [fr_ev (md1 ok (at2 o G i - at2 g G i)) cg.n5 ic ie ce cg.ih, fr_ev (md1 ok (at2 o G i - at2 g G i)) cg.n5 ic ie ce cg.iG, fr_ev (md2 cg) n5o (ic.to len) (ie.to len) ce (cg.ih.to len), fr_ev (md2 cg) n5o (ic.to len) (ie.to len) ce (cg.iG.to len), len]
  rw [ev_sub, ev_sub] at k
  exact k
theorem pass_ev {ρ : Nat → Int} {g : Gd} {E : Int → Int → P} {Dg : Int → P} (m : Md ρ g E Dg) (n5 : g.length ≤ 5) {G c e : Int} (iG : In g G) (ie : In g e) (gc : G ≠ c) (ge : G ≠ e) {x : Int} (ix : In g x) : (frow g G (srt [e, c])).getD x.toNat default = ev ρ (pfrow E Dg g.length G [e, c] x) := by
  rw [frow_perm (srt_perm [e, c])]
  exact frow_ev m G [e, c] iG (Nat.le_succ_of_le (left3 (o := [e, c]) n5 iG ie (by simp) (by simp [gc, ge]))) ix
/-- for one x, roots in order -/
theorem t4_x (h : Lt c4) {g o : Gd} {G i c e x : Int} (cg : Cg g o G i) (ic : In g c) (ie : In g e) (ce : c < e) (gc : G ≠ c) (ge : G ≠ e) (ix : In g x) :
    sumW (tOf g) (rng g.length) [c, e] * fr o c e x - sumW (tOf o) (rng o.length) [c, e] * fr g c e x = (at2 o G i - at2 g G i) * dif g G i c e * (frow g G (srt [e, c])).getD x.toNat default := by
  have ok := cg.okg
  have len := cg.len
  have n5o : o.length ≤ 5 := by rw [len]; exact cg.n5
  have cne : c ≠ e := by omega
  have hc := all_at (or_at (all_at (or_at (or_at (all_at (h g.length c e ok.lo cg.n5 ic.1 ce ie.2) cg.iG.1 cg.iG.2) gc) ge) cg.ih.1 cg.ih.2) cg.ne) ix.1 ix.2
  have k := ev_same (r1 g (at2 o G i - at2 g G i)) hc
  rw [ev_sub, ev_mul, ev_mul, ev_mul, ev_mul, ev_sub, r1_R] at k
  unfold dif
  rw [sumW_ev (md1 ok (at2 o G i - at2 g G i)) _ (fl3 cg.n5 ic ie cne), sumW_ev (md2 cg) _ (fl3 n5o (ic.to len) (ie.to len) cne), fr_ev (md2 cg) n5o (ic.to len) (ie.to len) cne (ix.to len), fr_ev (md1 ok (at2 o G i - at2 g G i)) cg.n5 ic ie cne ix,
    fr_ev (md1 ok (at2 o G i - at2 g G i)) cg.n5 ic ie cne cg.ih, fr_ev (md1 ok (at2 o G i - at2 g G i)) cg.n5 ic ie cne cg.iG, pass_ev (md1 ok (at2 o G i - at2 g G i)) cg.n5 cg.iG ie gc ge ix, len]
  exact k
theorem fr_swap (h : Lt c6) {g : Gd} {c e x : Int} (ok : Ok g) (n5 : g.length ≤ 5) (ic : In g c) (ie : In g e) (ce : c < e) (ix : In g x) : fr g c e x + fr g e c x = sumW (tOf g) (rng g.length) [c, e] := by
  have hc := all_at (h g.length c e ok.lo n5 ic.1 ce ie.2) ix.1 ix.2
  have cne : c ≠ e := by omega
  have k := ev_same (r0 g) hc
  rw [ev_add] at k
  rw [sumW_ev (md0 ok) _ (fl3 n5 ic ie cne), fr_ev (md0 ok) n5 ic ie cne ix, fr_ev (md0 ok) n5 ie ic cne.symm ix]
  exact k
theorem t4_of (h : Lt c4) (h6 : Lt c6) : T4 := fun g o G i c e a b cg ic ie ce gc ge ia ib => by
  have ok := cg.okg
  have len := cg.len
  have n5o : o.length ≤ 5 := by rw [len]; exact cg.n5
  have sw : ∀ (t : Gd), sumW (tOf t) (rng t.length) [e, c] = sumW (tOf t) (rng t.length) [c, e] := fun t => by
    unfold sumW
    rw [keep_swap]
  have fin : ∀ (F F' ob oa gb ga pb pa k : Int), F * ob - F' * gb = k * pb → F * oa - F' * ga = k * pa → F * (ob - oa) - F' * (gb - ga) = k * (pb - pa) := fun F F' ob oa gb ga pb pa k h1 h2 => by
    rw [Int.mul_sub, Int.mul_sub, Int.mul_sub]
    omega
  rw [sw o]
  have asc : ∀ c e : Int, In g c → In g e → c < e → G ≠ c → G ≠ e → sumW (tOf g) (rng g.length) [c, e] * dif o a b c e - sumW (tOf o) (rng o.length) [c, e] * dif g a b c e = (at2 o G i - at2 g G i) * dif g G i c e * ((frow g G (srt [e, c])).getD b.toNat default - (frow g G (srt [e, c])).getD a.toNat default) := fun c e ic ie lt gc ge =>
    fin _ _ _ _ _ _ _ _ _ (t4_x h cg ic ie lt gc ge ib) (t4_x h cg ic ie lt gc ge ia)
  rcases Int.lt_or_gt_of_ne ce with lt | lt
  · rw [asc c e ic ie lt gc ge, Int.mul_assoc, Int.mul_assoc, Int.mul_comm (dif g G i c e)]
  · have k := asc e c ie ic lt ge gc
    have neg : ∀ (t : Gd), Ok t → t.length ≤ 5 → ∀ a b : Int, In t c → In t e → In t a → In t b → dif t a b e c = -(dif t a b c e) := fun t okt n5 a b ic ie ia ib => by
      have k1 := fr_swap h6 okt n5 ie ic lt ia
      have k2 := fr_swap h6 okt n5 ie ic lt ib
      unfold dif
      omega
    rw [sw g, sw o, neg o cg.oko n5o a b (ic.to len) (ie.to len) (ia.to len) (ib.to len), neg g ok cg.n5 a b ic ie ia ib, neg g ok cg.n5 G i ic ie cg.iG cg.ih, frow_perm (srt_perm [c, e]), frow_perm (List.Perm.swap e c []), ← frow_perm (srt_perm [e, c])] at k
    rw [Int.mul_neg, Int.mul_neg, Int.mul_neg, Int.neg_mul] at k
    have k2 : sumW (tOf g) (rng g.length) [c, e] * dif o a b c e - sumW (tOf o) (rng o.length) [c, e] * dif g a b c e = (at2 o G i - at2 g G i) * dif g G i c e * ((frow g G (srt [e, c])).getD b.toNat default - (frow g G (srt [e, c])).getD a.toNat default) := by omega
    rw [k2, Int.mul_assoc, Int.mul_assoc, Int.mul_comm (dif g G i c e)]
end Mi
namespace Mi
open LS Po

theorem k1_01 : c1 5 0 1 = true := by decide +kernel
theorem k1_02 : c1 5 0 2 = true := by decide +kernel
theorem k1_03 : c1 5 0 3 = true := by decide +kernel
theorem k1_04 : c1 5 0 4 = true := by decide +kernel
theorem k1_10 : c1 5 1 0 = true := by decide +kernel
theorem k1_12 : c1 5 1 2 = true := by decide +kernel
theorem k1_13 : c1 5 1 3 = true := by decide +kernel
theorem k1_14 : c1 5 1 4 = true := by decide +kernel
theorem k1_20 : c1 5 2 0 = true := by decide +kernel
theorem k1_21 : c1 5 2 1 = true := by decide +kernel
theorem k1_23 : c1 5 2 3 = true := by decide +kernel
theorem k1_24 : c1 5 2 4 = true := by decide +kernel
theorem k1_30 : c1 5 3 0 = true := by decide +kernel
theorem k1_31 : c1 5 3 1 = true := by decide +kernel
theorem k1_32 : c1 5 3 2 = true := by decide +kernel
theorem k1_34 : c1 5 3 4 = true := by decide +kernel
theorem k1_40 : c1 5 4 0 = true := by decide +kernel
theorem k1_41 : c1 5 4 1 = true := by decide +kernel
theorem k1_42 : c1 5 4 2 = true := by decide +kernel
theorem k1_43 : c1 5 4 3 = true := by decide +kernel
end Mi
namespace Mi
open LS Po

theorem k4_01 : c4 5 0 1 = true := by decide +kernel
theorem k4_02 : c4 5 0 2 = true := by decide +kernel
theorem k4_03 : c4 5 0 3 = true := by decide +kernel
theorem k4_04 : c4 5 0 4 = true := by decide +kernel
theorem k4_12 : c4 5 1 2 = true := by decide +kernel
theorem k4_13 : c4 5 1 3 = true := by decide +kernel
theorem k4_14 : c4 5 1 4 = true := by decide +kernel
theorem k4_23 : c4 5 2 3 = true := by decide +kernel
theorem k4_24 : c4 5 2 4 = true := by decide +kernel
theorem k4_34 : c4 5 3 4 = true := by decide +kernel
end Mi
namespace Mi
open LS Po

theorem k3_01 : c3 5 0 1 = true := by decide +kernel
theorem k3_02 : c3 5 0 2 = true := by decide +kernel
theorem k3_03 : c3 5 0 3 = true := by decide +kernel
theorem k3_04 : c3 5 0 4 = true := by decide +kernel
theorem k3_10 : c3 5 1 0 = true := by decide +kernel
theorem k3_12 : c3 5 1 2 = true := by decide +kernel
theorem k3_13 : c3 5 1 3 = true := by decide +kernel
theorem k3_14 : c3 5 1 4 = true := by decide +kernel
theorem k3_20 : c3 5 2 0 = true := by decide +kernel
theorem k3_21 : c3 5 2 1 = true := by decide +kernel
theorem k3_23 : c3 5 2 3 = true := by decide +kernel
theorem k3_24 : c3 5 2 4 = true := by decide +kernel
theorem k3_30 : c3 5 3 0 = true := by decide +kernel
theorem k3_31 : c3 5 3 1 = true := by decide +kernel
theorem k3_32 : c3 5 3 2 = true := by decide +kernel
theorem k3_34 : c3 5 3 4 = true := by decide +kernel
theorem k3_40 : c3 5 4 0 = true := by decide +kernel
theorem k3_41 : c3 5 4 1 = true := by decide +kernel
theorem k3_42 : c3 5 4 2 = true := by decide +kernel
theorem k3_43 : c3 5 4 3 = true := by decide +kernel
theorem k5_01 : c5 5 0 1 = true := by decide +kernel
theorem k5_02 : c5 5 0 2 = true := by decide +kernel
theorem k5_03 : c5 5 0 3 = true := by decide +kernel
theorem k5_04 : c5 5 0 4 = true := by decide +kernel
theorem k5_10 : c5 5 1 0 = true := by decide +kernel
theorem k5_12 : c5 5 1 2 = true := by decide +kernel
theorem k5_13 : c5 5 1 3 = true := by decide +kernel
theorem k5_14 : c5 5 1 4 = true := by decide +kernel
theorem k5_20 : c5 5 2 0 = true := by decide +kernel
theorem k5_21 : c5 5 2 1 = true := by decide +kernel
theorem k5_23 : c5 5 2 3 = true := by decide +kernel
theorem k5_24 : c5 5 2 4 = true := by decide +kernel
theorem k5_30 : c5 5 3 0 = true := by decide +kernel
theorem k5_31 : c5 5 3 1 = true := by decide +kernel
theorem k5_32 : c5 5 3 2 = true := by decide +kernel
theorem k5_34 : c5 5 3 4 = true := by decide +kernel
theorem k5_40 : c5 5 4 0 = true := by decide +kernel
theorem k5_41 : c5 5 4 1 = true := by decide +kernel
theorem k5_42 : c5 5 4 2 = true := by decide +kernel
theorem k5_43 : c5 5 4 3 = true := by decide +kernel
theorem k6_01 : c6 5 0 1 = true := by decide +kernel
theorem k6_02 : c6 5 0 2 = true := by decide +kernel
theorem k6_03 : c6 5 0 3 = true := by decide +kernel
theorem k6_04 : c6 5 0 4 = true := by decide +kernel
theorem k6_12 : c6 5 1 2 = true := by decide +kernel
theorem k6_13 : c6 5 1 3 = true := by decide +kernel
theorem k6_14 : c6 5 1 4 = true := by decide +kernel
theorem k6_23 : c6 5 2 3 = true := by decide +kernel
theorem k6_24 : c6 5 2 4 = true := by decide +kernel
theorem k6_34 : c6 5 3 4 = true := by decide +kernel
def ap (f : Nat → Int → Int → Bool) (n : Nat) : Bool := (rng n).all fun c => (rng n).all fun e => decide (c = e) || f n c e
theorem k2_5 : ap c2 5 = true := by decide +kernel
theorem a1_2 : ap c1 2 = true := by decide +kernel
theorem a1_3 : ap c1 3 = true := by decide +kernel
theorem a1_4 : ap c1 4 = true := by decide +kernel
theorem a2_2 : ap c2 2 = true := by decide +kernel
theorem a2_3 : ap c2 3 = true := by decide +kernel
theorem a2_4 : ap c2 4 = true := by decide +kernel
theorem a3_2 : ap c3 2 = true := by decide +kernel
theorem a3_3 : ap c3 3 = true := by decide +kernel
theorem a3_4 : ap c3 4 = true := by decide +kernel
theorem a5_2 : ap c5 2 = true := by decide +kernel
theorem a5_3 : ap c5 3 = true := by decide +kernel
theorem a5_4 : ap c5 4 = true := by decide +kernel
def apL (f : Nat → Int → Int → Bool) (n : Nat) : Bool := (rng n).all fun c => (rng n).all fun e => decide (e ≤ c) || f n c e
theorem a4_2 : apL c4 2 = true := by decide +kernel
theorem a4_3 : apL c4 3 = true := by decide +kernel
theorem a4_4 : apL c4 4 = true := by decide +kernel
theorem a6_2 : apL c6 2 = true := by decide +kernel
theorem a6_3 : apL c6 3 = true := by decide +kernel
theorem a6_4 : apL c6 4 = true := by decide +kernel
end Mi
namespace Mi
open LS Po
theorem five {p : Int → Int → Prop} (h01 : p 0 1) (h02 : p 0 2) (h03 : p 0 3) (h04 : p 0 4) (h10 : p 1 0) (h12 : p 1 2) (h13 : p 1 3) (h14 : p 1 4) (h20 : p 2 0) (h21 : p 2 1) (h23 : p 2 3) (h24 : p 2 4) (h30 : p 3 0) (h31 : p 3 1) (h32 : p 3 2) (h34 : p 3 4) (h40 : p 4 0) (h41 : p 4 1) (h42 : p 4 2) (h43 : p 4 3) (c e : Int) (h0 : 0 ≤ c) (h1 : c < 5) (h2 : 0 ≤ e) (h3 : e < 5) (h : c ≠ e) : p c e := by
  have hc : c = 0 ∨ c = 1 ∨ c = 2 ∨ c = 3 ∨ c = 4 := by omega
  have he : e = 0 ∨ e = 1 ∨ e = 2 ∨ e = 3 ∨ e = 4 := by omega
  rcases hc with rfl | rfl | rfl | rfl | rfl <;> rcases he with rfl | rfl | rfl | rfl | rfl <;> first | exact absurd rfl h | assumption
theorem fiveL {p : Int → Int → Prop} (h01 : p 0 1) (h02 : p 0 2) (h03 : p 0 3) (h04 : p 0 4) (h12 : p 1 2) (h13 : p 1 3) (h14 : p 1 4) (h23 : p 2 3) (h24 : p 2 4) (h34 : p 3 4) (c e : Int) (h0 : 0 ≤ c) (h1 : c < e) (h3 : e < 5) : p c e := by
  have hc : c = 0 ∨ c = 1 ∨ c = 2 ∨ c = 3 := by omega
  have he : e = 1 ∨ e = 2 ∨ e = 3 ∨ e = 4 := by omega
  rcases hc with rfl | rfl | rfl | rfl <;> rcases he with rfl | rfl | rfl | rfl <;> first | assumption | (exfalso; omega)
theorem al {f : Nat → Int → Int → Bool} (h2 : ap f 2 = true) (h3 : ap f 3 = true) (h4 : ap f 4 = true) (h5 : ∀ c e : Int, 0 ≤ c → c < 5 → 0 ≤ e → e < 5 → c ≠ e → f 5 c e = true) : Al f := fun n c e n2 n5 c0 c1 e0 e1 ce => by
  have hn : n = 2 ∨ n = 3 ∨ n = 4 ∨ n = 5 := by omega
  rcases hn with rfl | rfl | rfl | rfl
  · exact or_at (all_at (all_at h2 c0 c1) e0 e1) ce
  · exact or_at (all_at (all_at h3 c0 c1) e0 e1) ce
  · exact or_at (all_at (all_at h4 c0 c1) e0 e1) ce
  · exact h5 c e c0 c1 e0 e1 ce
theorem lt_ {f : Nat → Int → Int → Bool} (h2 : apL f 2 = true) (h3 : apL f 3 = true) (h4 : apL f 4 = true) (h5 : ∀ c e : Int, 0 ≤ c → c < e → e < 5 → f 5 c e = true) : Lt f := fun n c e n2 n5 c0 ce e1 => by
  have hn : n = 2 ∨ n = 3 ∨ n = 4 ∨ n = 5 := by omega
  rcases hn with rfl | rfl | rfl | rfl
  · exact or_at (all_at (all_at h2 c0 (by omega)) (by omega) e1) (by omega)
  · exact or_at (all_at (all_at h3 c0 (by omega)) (by omega) e1) (by omega)
  · exact or_at (all_at (all_at h4 c0 (by omega)) (by omega) e1) (by omega)
  · exact h5 c e c0 ce e1
theorem al1 : Al c1 := al a1_2 a1_3 a1_4 (five k1_01 k1_02 k1_03 k1_04 k1_10 k1_12 k1_13 k1_14 k1_20 k1_21 k1_23 k1_24 k1_30 k1_31 k1_32 k1_34 k1_40 k1_41 k1_42 k1_43)
theorem al2 : Al c2 := al a2_2 a2_3 a2_4 fun c e h0 h1 h2 h3 h => or_at (all_at (all_at k2_5 h0 h1) h2 h3) h
theorem al3 : Al c3 := al a3_2 a3_3 a3_4 (five k3_01 k3_02 k3_03 k3_04 k3_10 k3_12 k3_13 k3_14 k3_20 k3_21 k3_23 k3_24 k3_30 k3_31 k3_32 k3_34 k3_40 k3_41 k3_42 k3_43)
theorem al5 : Al c5 := al a5_2 a5_3 a5_4 (five k5_01 k5_02 k5_03 k5_04 k5_10 k5_12 k5_13 k5_14 k5_20 k5_21 k5_23 k5_24 k5_30 k5_31 k5_32 k5_34 k5_40 k5_41 k5_42 k5_43)
theorem lt4 : Lt c4 := lt_ a4_2 a4_3 a4_4 (fiveL k4_01 k4_02 k4_03 k4_04 k4_12 k4_13 k4_14 k4_23 k4_24 k4_34)
theorem lt6 : Lt c6 := lt_ a6_2 a6_3 a6_4 (fiveL k6_01 k6_02 k6_03 k6_04 k6_12 k6_13 k6_14 k6_23 k6_24 k6_34)
theorem m1 : T1 := t1_of al1
theorem m2 : T2 := t2_of al1 al2
theorem m3 : T3 := t3_of al3
theorem m4 : T4 := t4_of lt4 lt6
theorem m5 : T5 := t5_of al5
end Mi
section
open PySem PySem.Spec PyProof.Rows L2 Evl
local macro_rules | `(tactic| walk_at "ls st") => `(tactic| first
  | with_reducible exact LS.ex_ci
  | with_reducible exact LS.ex_cb
  | with_reducible exact LS.ex_cn
  | ((with_reducible apply LS.ex_var); rfl)
  | with_reducible apply LS.ex_add
  | with_reducible apply LS.ex_sub
  | with_reducible apply LS.ex_mul
  | with_reducible apply LS.ex_mulW
  | with_reducible apply LS.ex_mod
  | with_reducible apply LS.ex_fdivN
  | with_reducible apply LS.ex_neg
  | with_reducible apply LS.ex_lt
  | with_reducible apply LS.ex_le
  | with_reducible apply LS.ex_gt
  | with_reducible apply LS.ex_ge
  | ((with_reducible apply LS.ex_andV); case' h2 => intro _)
  | ((with_reducible apply LS.ex_orV); case' h2 => intro _)
  | with_reducible apply LS.ex_notV
  | with_reducible apply LS.ex_chain
  | with_reducible apply LS.ex_lenL
  | with_reducible apply LS.ex_sum
  | with_reducible apply LS.ex_all
  | with_reducible apply LS.ex_call1
  | with_reducible apply LS.ex_call2
  | with_reducible apply LS.ex_call3
  | with_reducible apply LS.ex_slL
  | with_reducible apply LS.eo_none
  | with_reducible apply LS.eo_some
  | with_reducible apply LS.et_test
  | with_reducible apply LS.et_b
  | ((with_reducible apply LS.et_and); case' h2 => intro _)
  | ((with_reducible apply LS.et_or); case' h2 => intro _)
  | with_reducible apply LS.et_not
  | with_reducible apply LS.et_yes
  | with_reducible apply LS.el_nil
  | with_reducible apply LS.el_cons
  | with_reducible apply LS.ei_list
  | with_reducible apply LS.ei_tup
  | with_reducible apply LS.ei_rng1
  | with_reducible apply LS.ei_enum
  | with_reducible apply LS.ei_enumT
  | with_reducible apply LS.ei_zip
  | with_reducible apply LS.go_seq
  | with_reducible apply LS.nx_go
  | with_reducible apply LS.go_next)
local macro_rules | `(tactic| walk_at "ls side") => `(tactic| first | exact True.intro | assumption | omega | decide | rfl)
local macro_rules | `(tactic| walk_at "ls wk") => `(tactic| repeat (first | exact LS.Pz.nil | refine LS.Pz.cons (.inl rfl) ?_ | refine LS.Pz.cons (.inr rfl) ?_))

theorem sc_law_draws : FnScope ["_law_script", "_law_drawn", "_law_seed", "_law_at", "_law_cell", "_law_turn"] ["_law_script"] (defScope Hd.s_law_draws) := ⟨rfl, rfl, rfl, by decide +kernel, rfl, by decide +kernel, by decide +kernel⟩
theorem ok_law_draws {P : Program} {w : World} {K : PySem.W.Frag} {mg : Str → Option Value} {base : Heap} {f : Addr} {fd : FuncData} {dvs : List V} (T : LS.Bt mg) 
    (F : FunD K "_law_draws" "_law_draws" (defArgs Hd.s_law_draws) (defBody Hd.s_law_draws) (defScope Hd.s_law_draws) dvs [] f fd) : FnOk P w K mg base CX0 1 f fd ["_law_script"] (LS.spD K) := by
  have nd := sc_law_draws.nd
  refine F.ok sc_law_draws LS.spD_len (fun cdv A outer s H vs Q E hr h => ⟨_, PSs.nox (pss_cons (ps_set (i := 1) nd rfl (.inl rfl) (pe_lst pa_nil))
    (pss_cons (ps_set (i := 2) nd rfl (.inl rfl) pe_int)
    (pss_cons (ps_for PassesOwn.never rfl (pi_range1 (by rfl) T.range (pa_cons (pe_callB (call_min2 rfl) (by rfl) T.min (by decide +kernel) (pa_cons (pe_callB (LS.k_len (K := K) rfl) (by rfl) T.len (by decide +kernel) (pa_cons (pv 0) pa_nil)) (pa_cons pe_int pa_nil))) pa_nil)) (pg_name (i := 3) nd rfl (.inl rfl))
    (pss_cons (ps_set (i := 4) nd rfl (.inl rfl) (pe_callTy call_int1 (by rfl) T.int (by decide +kernel) (pa_cons (pe_ix (LS.k_ixL (K := K) rfl) (pv 0) (pv 3) (fun _ _ => rfl)) pa_nil)))
    (pss_cons (ps_if (pt_cmpR op_lt (pv 4) pe_int (nomark _)) (pss_one (ps_set (i := 4) nd rfl (.inl rfl) (pe_op op_sub pe_int (pe_op op_mul pe_int (pv 4))))) pss_nil)
    (pss_one (ps_if (pt_cmpR op_ge (pv 4) (pe_op op_pow pe_int pe_int) (nomark _)) (pss_one (ps_for PassesOwn.never rfl (pi_range1 (by rfl) T.range (pa_cons pe_int pa_nil)) (pg_name (i := 5) nd rfl (.inl rfl))
    (pss_one (ps_if (pt_cmpR op_gt (pv 4) pe_int (nomark _)) (pss_cons (ps_expr (LS.k_bm (K := K) rfl PySem.F.plainAttrs_list PySem.F.slot_list_append PySem.F.type_list_append mt_append (pv 1) (pa_cons (pe_op op_mod (pe_callTy call_int1 (by rfl) T.int (by decide +kernel) (pa_cons (pv 4) pa_nil)) pe_int) pa_nil)))
    (pss_one (ps_set (i := 4) nd rfl (.inl rfl) (pe_op op_fdivN (pv 4) pe_int)))) pss_nil)))) (pss_cons (ps_set (i := 2) nd rfl (.inl rfl) (pe_op op_mod (pe_callTy call_int1 (by rfl) T.int (by decide +kernel) (pa_cons (pe_op op_add (pe_op op_add (pe_op op_mul (pv 2) pe_int) (pe_op op_mul (pv 4) pe_int)) (pv 3)) pa_nil)) pe_int))
    (pss_one (ps_for PassesOwn.never rfl (pi_range1 (by rfl) T.range (pa_cons pe_int pa_nil)) (pg_name (i := 5) nd rfl (.inl rfl))
    (pss_cons (ps_set (i := 2) nd rfl (.inl rfl) (pe_op op_mod (pe_callTy call_int1 (by rfl) T.int (by decide +kernel) (pa_cons (pe_op op_add (pe_op op_add (pe_op op_add (pe_op op_mul (pv 2) (pv 2)) (pe_op op_mul pe_int (pv 5))) (pv 3)) pe_int) pa_nil)) pe_int))
    (pss_one (ps_expr (LS.k_bm (K := K) rfl PySem.F.plainAttrs_list PySem.F.slot_list_append PySem.F.type_list_append mt_append (pv 1) (pa_cons (pe_op op_mod (pe_callTy call_int1 (by rfl) T.int (by decide +kernel) (pa_cons (pe_op op_fdivN (pv 2) pe_int) pa_nil)) pe_int) pa_nil)))))))))))))
    (pss_cons (ps_expr (LS.k_bm0 (K := K) rfl PySem.F.plainAttrs_list PySem.F.slot_list_reverse PySem.F.type_list_reverse mt_reverse (pv 1)))
    (pss_one (ps_ret (pv 1))))))), ?_⟩)

  refine LS.draws_body rfl h fun F ns k => ?_
  refine LS.s_own (α := Int) (by decide : (1 : Nat) < 6) ?_
  refine LS.s_asg (LS.ex_ci) ?_
  refine LS.s_for (α := Int) ((LS.ei_rng1 (LS.ex_min2 (LS.ex_lenS (LS.ex_var rfl)) LS.ex_ci) (by (split <;> omega)))) LS.tg_name LS.ts_1 (fun i => [.is (LS.Scr.mk ns), .own (Mi.dst ns i).1, .is (Mi.dst ns i).2, .no, .no, .no]) rfl (fun B' i x hx _ => ?_) ?_
  · obtain ⟨ex, hi⟩ := LS.rng_get hx
    have b1 : 0 ≤ x ∧ x < (ns.length : Int) := by
      have := LS.rng_mem (List.mem_of_getElem? hx)
      have e2 := this.2
      dsimp only at e2
      split at e2 <;> omega
    have i63 : i ≤ 63 := by
      have := LS.rng_mem (List.mem_of_getElem? hx)
      have e2 := this.2
      dsimp only at e2
      split at e2 <;> omega
    obtain ⟨hd, hs⟩ := Mi.dst_ok ns i
    have xi : x.toNat = i := by omega
    refine LS.s_asg (LS.ex_is ((LS.ex_int (LS.ex_ixS (LS.ex_var rfl) (LS.ex_var rfl) (by exact b1.1) (by exact b1.2)))) (show _ = ns.getD i default by show ns.getD x.toNat default = _; rw [xi])) ?_
    refine LS.s_ifasg ((LS.et_test (LS.ex_lt (LS.ex_var rfl) LS.ex_ci))) ((LS.ex_sub LS.ex_ci (LS.ex_mul LS.ex_ci (LS.ex_var rfl) (by exact .inl (by decide))))) rfl ?_
    generalize hc : (if decide (ns.getD i default < 0) = true then 3 - 2 * ns.getD i default else ns.getD i default) = c
    have hc2 : Mi.cellA (ns.getD i default) = c := hc
    refine LS.go_if ((LS.et_test (LS.ex_ge (LS.ex_var rfl) (LS.ex_pow LS.ex_ci LS.ex_ci (by exact ⟨by decide, by decide, by decide⟩))))) (fun q => ?_) (fun q => ?_)
    · refine LS.go_for (α := Int) ((LS.ei_rng1 LS.ex_ci (by decide))) LS.tg_name LS.ts_1 (fun m => [.is (LS.Scr.mk ns), .own (Mi.big m (Mi.dst ns i).1 c).1, .is (Mi.dst ns i).2, .is x, .is (Mi.big m (Mi.dst ns i).1 c).2, .no]) rfl (fun B2 m y hy _ => ?_) ?_
      · obtain ⟨ey, hm⟩ := LS.rng_get hy
        have hl := (Mi.big_ok hd c m).len
        have hm44 : m < 44 := hm
        refine LS.go_if ((LS.et_test (LS.ex_gt (LS.ex_var rfl) LS.ex_ci))) (fun p => ?_) (fun p => ?_)
        · have pp : 0 < (Mi.big m (Mi.dst ns i).1 c).2 := of_decide_eq_true p
          refine LS.s_app (α := Int) rfl ((LS.ex_mod (LS.ex_int (LS.ex_var rfl)) LS.ex_ci (by decide))) (by omega) ?_
          refine LS.go_asg ((LS.ex_fdivN (LS.ex_var rfl) LS.ex_ci (by exact ⟨by decide, by decide⟩))) (LS.nx_st (.cons (.inl rfl) (.cons (.inl (congrArg LS.Sl.own ?_)) (.cons (.inl rfl) (.cons (.inl rfl) (.cons (.inl (congrArg LS.Sl.is ?_)) (.cons (.inr rfl) .nil)))))))
          · show (if _ then _ else _ : List Int × Int).1 = _
            rw [if_pos pp]
          · show (if _ then _ else _ : List Int × Int).2 = _
            rw [if_pos pp]
        · have pp : ¬ 0 < (Mi.big m (Mi.dst ns i).1 c).2 := of_decide_eq_false p
          refine LS.go_next (LS.nx_st (.cons (.inl rfl) (.cons (.inl (congrArg LS.Sl.own ?_)) (.cons (.inl rfl) (.cons (.inl rfl) (.cons (.inl (congrArg LS.Sl.is ?_)) (.cons (.inr rfl) .nil)))))))
          · show (if _ then _ else _ : List Int × Int).1 = _
            rw [if_neg pp]
          · show (if _ then _ else _ : List Int × Int).2 = _
            rw [if_neg pp]
      · refine LS.nx_st (.cons (.inl rfl) (.cons (.inl (congrArg LS.Sl.own ?_)) (.cons (.inl (congrArg LS.Sl.is ?_)) (.cons (.inr rfl) (.cons (.inr rfl) (.cons (.inl rfl) .nil))))))
        · show (Mi.dst ns (i + 1)).1 = _
          conv => lhs; unfold Mi.dst
          rw [hc2, if_pos q]
          rfl
        · show (Mi.dst ns (i + 1)).2 = _
          conv => lhs; unfold Mi.dst
          rw [hc2, if_pos q]
    · refine LS.s_asg (LS.ex_is ((LS.ex_mod (LS.ex_int (LS.ex_add (LS.ex_add (LS.ex_mul (LS.ex_var rfl) LS.ex_ci (by exact .inr (by decide))) (LS.ex_mul (LS.ex_var rfl) LS.ex_ci (by exact .inr (by decide)))) (LS.ex_var rfl))) LS.ex_ci (by decide))) (show _ = Mi.nx1 c (Mi.dst ns i).2 i by rw [ex]; rfl)) ?_
      have hs1 : 0 ≤ Mi.nx1 c (Mi.dst ns i).2 i ∧ Mi.nx1 c (Mi.dst ns i).2 i < 2147483629 := ⟨Int.emod_nonneg _ (by decide), Int.emod_lt_of_pos _ (by decide)⟩
      refine LS.go_for (α := Int) ((LS.ei_rng1 LS.ex_ci (by decide))) LS.tg_name LS.ts_1 (fun m => [.is (LS.Scr.mk ns), .own (Mi.sml i m (Mi.dst ns i).1 (Mi.nx1 c (Mi.dst ns i).2 i)).1, .is (Mi.sml i m (Mi.dst ns i).1 (Mi.nx1 c (Mi.dst ns i).2 i)).2, .is x, .is c, .no]) rfl (fun B2 m y hy _ => ?_) ?_
      · obtain ⟨ey, hm⟩ := LS.rng_get hy
        have hm5 : m < 5 := hm
        obtain ⟨hl0, hq⟩ := Mi.sml_ok hd i (Mi.nx1 c (Mi.dst ns i).2 i) hs1 m
        have hl := hl0.len
        refine LS.s_asg (LS.ex_is ((LS.ex_mod (LS.ex_int (LS.ex_add (LS.ex_add (LS.ex_add (LS.ex_mul (LS.ex_var rfl) (LS.ex_var rfl) (by exact .inl (by omega))) (LS.ex_mul LS.ex_ci (LS.ex_var rfl) (by exact .inl (by decide)))) (LS.ex_var rfl)) LS.ex_ci)) LS.ex_ci (by decide))) (show _ = Mi.nsd i (Mi.sml i m (Mi.dst ns i).1 (Mi.nx1 c (Mi.dst ns i).2 i)).2 m by rw [ex, ey]; rfl)) ?_
        refine LS.go_app (α := Int) rfl ((LS.ex_mod (LS.ex_int (LS.ex_fdivN (LS.ex_var rfl) LS.ex_ci (by exact ⟨by decide, by decide⟩))) LS.ex_ci (by decide))) (by omega) (LS.nx_st (.cons (.inl rfl) (.cons (.inl rfl) (.cons (.inl rfl) (.cons (.inl rfl) (.cons (.inl rfl) (.cons (.inr rfl) .nil)))))))
      · refine LS.nx_st (.cons (.inl rfl) (.cons (.inl (congrArg LS.Sl.own ?_)) (.cons (.inl (congrArg LS.Sl.is ?_)) (.cons (.inr rfl) (.cons (.inr rfl) (.cons (.inl rfl) .nil))))))
        · show (Mi.dst ns (i + 1)).1 = _
          conv => lhs; unfold Mi.dst
          rw [hc2, if_neg (by rw [q]; decide)]
          rfl
        · show (Mi.dst ns (i + 1)).2 = _
          conv => lhs; unfold Mi.dst
          rw [hc2, if_neg (by rw [q]; decide)]
          rfl
  refine LS.go_revRet (j := 1) rfl fun l H' e1 e2 e3 => k l H' e1 e2 ⟨_, e3, fun x hx => ?_⟩
  exact (Mi.dst_ok ns _).1.ins x (List.mem_reverse.mp hx)
theorem sc_law_take : FnScope ["_law_draws_here", "_law_many"] ["_law_draws_here", "_law_many"] (defScope Hd.s_law_take) := ⟨rfl, rfl, rfl, by decide +kernel, rfl, by decide +kernel, by decide +kernel⟩
theorem ok_law_take {P : Program} {w : World} {K : PySem.W.Frag} {mg : Str → Option Value} {base : Heap} {f : Addr} {fd : FuncData} {dvs : List V} (T : LS.Bt mg) 
    (F : FunD K "_law_take" "_law_take" (defArgs Hd.s_law_take) (defBody Hd.s_law_take) (defScope Hd.s_law_take) dvs [] f fd) : FnOk P w K mg base CX0 1 f fd ["_law_draws_here", "_law_many"] (LS.takeP K) := by
  have nd := sc_law_take.nd
  refine F.ok sc_law_take (LS.spR_len fun _ => rfl) (fun cdv A outer s H vs Q E hr h => ⟨_, PSs.nox (pss_cons (ps_if (PW.pt (pw_or (pt_cmpR op_lt (pv 1) pe_int (nomark _)) (pw_or1 (pt_cmpR op_eq (pe_callB (LS.k_len (K := K) rfl) (by rfl) T.len (by decide +kernel) (pa_cons (pv 0) pa_nil)) pe_int (nomark _))))) (pss_one (ps_ret pe_int)) pss_nil)
    (pss_one (ps_ret (pe_op op_mod (pe_callTy call_int1 (by rfl) T.int (by decide +kernel) (pa_cons (LS.k_bm0 (K := K) rfl PySem.F.plainAttrs_list PySem.F.slot_list_pop PySem.F.type_list_pop mt_pop (pv 0)) pa_nil)) (pv 1))))), ?_⟩)

  exact LS.take_body rfl (fun xs m => (LS.et_or (LS.et_test (LS.ex_lt (LS.ex_var rfl) LS.ex_ci)) (fun hq => (LS.et_test (LS.ex_eq (LS.ex_lenL (LS.ex_var rfl)) LS.ex_ci))))) h
theorem sc_law_empty : FnScope ["_law_size", "_law_x", "_law_y"] ["_law_size"] (defScope Hd.s_law_empty) := ⟨rfl, rfl, rfl, by decide +kernel, rfl, by decide +kernel, by decide +kernel⟩
theorem ok_law_empty {P : Program} {w : World} {K : PySem.W.Frag} {mg : Str → Option Value} {base : Heap} {f : Addr} {fd : FuncData} {dvs : List V} (T : LS.Bt mg) 
    (F : FunD K "_law_empty" "_law_empty" (defArgs Hd.s_law_empty) (defBody Hd.s_law_empty) (defScope Hd.s_law_empty) dvs [] f fd) : FnOk P w K mg base CX0 1 f fd ["_law_size"] (LS.spG K (fun n : Int => [LS.Sl.is n]) (fun n => 0 ≤ n ∧ n ≤ 8) Mi.zeros) := by
  have nd := sc_law_empty.nd
  refine F.ok sc_law_empty (LS.spG_len fun _ => rfl) (fun cdv A outer s H vs Q E hr h => ⟨_, PSs.nox (pss_one (ps_ret (pe_lc (own := [("_law_x", 1)]) rfl nd (pi_range1 (by rfl) T.range (pa_cons (pv 0) pa_nil)) (blkOk_by (by kernel_rfl)) (fun _ _ _ _ _ => (pg_name (i := 1) nd rfl (.inl rfl))) (fun _ _ _ _ _ => pts_nil) (fun _ _ _ _ _ => (pe_lc (own := [("_law_y", 2)]) rfl nd (pi_range1 (by rfl) T.range (pa_cons (pv 0) pa_nil)) (blkOk_by (by kernel_rfl)) (fun _ _ _ _ _ => (pg_name (i := 2) nd rfl (.inl rfl))) (fun _ _ _ _ _ => pts_nil) (fun _ _ _ _ _ => pe_int)))))), ?_⟩)

  refine LS.bodyG (spf := fun n => [.is n, .no, .no]) h (fun _ => rfl) fun n hp F σ hs H1 e1 Q q => ?_
  exact LS.lc_gr (α := Int) (f := fun _ => (LS.rng n).map fun _ => (0 : Int)) (LS.ei_rng1 (LS.ex_var rfl) (by omega)) LS.tg_name (by decide) (by rw [LS.rng_len]; omega) (fun a0 ha0 => LS.exo_lc (α := Int) (γ := Int) (LS.ei_rng1 (LS.ex_var rfl) (by omega)) LS.tg_name (by decide) (by rw [LS.rng_len]; omega) (fun a1 ha1 => LS.ex_ci)) F σ hs H1 e1 Q q
theorem sc_law_rate : FnScope ["_law_draws_here", "_law_style", "_law_rate_here"] ["_law_draws_here", "_law_style"] (defScope Hd.s_law_rate) := ⟨rfl, rfl, rfl, by decide +kernel, rfl, by decide +kernel, by decide +kernel⟩
theorem ok_law_rate {P : Program} {w : World} {K : PySem.W.Frag} {mg : Str → Option Value} {base : Heap} {f : Addr} {fd : FuncData} {dvs : List V} (T : LS.Bt mg) (c_law_take : LS.Cf P w K mg base 1 "_law_take" ["_law_draws_here", "_law_many"] [] (LS.takeP K))
    (F : FunD K "_law_rate" "_law_rate" (defArgs Hd.s_law_rate) (defBody Hd.s_law_rate) (defScope Hd.s_law_rate) dvs [] f fd) : FnOk P w K mg base CX0 2 f fd ["_law_draws_here", "_law_style"] (LS.spR K (fun s : Int => [LS.Sl.is s]) (fun _ => True) (fun _ (r : Int) => 1 ≤ r ∧ r ≤ 1000003)) := by
  have nd := sc_law_rate.nd
  refine F.ok sc_law_rate (LS.spR_len fun _ => rfl) (fun cdv A outer s H vs Q E hr h => ⟨_, PSs.nox (pss_cons (ps_if (pt_cmpR op_eq (pv 1) pe_int (nomark _)) (pss_one (ps_ret pe_int)) pss_nil)
    (pss_cons (ps_set (i := 2) nd rfl (.inl rfl) (pe_op op_add pe_int (LS.pe_cf c_law_take (hr.mono (by decide)) (by rfl) (pa_cons (pv 0) (pa_cons pe_int pa_nil)))))
    (pss_cons (ps_if (PW.pt (pw_and (pt_cmpR op_eq (pv 1) pe_int (nomark _)) (pw_and1 (pt_cmpR op_eq (pv 2) pe_int (nomark _))))) (pss_one (ps_ret (pe_op op_add (pe_op op_pow pe_int pe_int) pe_int))) pss_nil)
    (pss_one (ps_ret (pv 2)))))), ?_⟩)

  refine LS.bodyR (spf := fun s => [.no, .is s, .no]) h (fun _ => rfl) fun F d s _ k => ?_
  refine LS.b_ifn ((LS.etd_of (LS.et_test (LS.ex_eq (LS.ex_var rfl) LS.ex_ci)))) (fun _ => LS.b_ret ((LS.exd_of LS.ex_ci)) (r := fun _ => True) fun a ha => k a (by subst ha; decide)) (fun _ => ?_)
  refine LS.b_asg ((LS.exd_add (LS.exd_of LS.ex_ci) (LS.exd_take LS.ex_ci))) (LS.apn (by decide)) fun a ha => ?_
  refine LS.b_ifn ((LS.etd_of (LS.et_and (LS.et_test (LS.ex_eq (LS.ex_var rfl) LS.ex_ci)) (fun hq => (LS.et_test (LS.ex_eq (LS.ex_var rfl) LS.ex_ci)))))) (fun _ => LS.b_ret ((LS.exd_of (LS.ex_add (LS.ex_pow LS.ex_ci LS.ex_ci (by exact ⟨by decide, by decide, by decide⟩)) LS.ex_ci))) (r := fun _ => True) fun b hb => k b (by subst hb; decide)) (fun _ => ?_)
  refine LS.b_ret ((LS.exd_of (LS.ex_var rfl))) (r := fun _ => True) fun b hb => k b ?_
  subst hb
  obtain ⟨x, y, rfl, ⟨hy, hy2⟩, rfl⟩ := ha
  have := hy2 (by decide)
  omega
theorem sc_law_hung_grid : FnScope ["_law_draws_here", "_law_size", "_law_style", "_law_grid_here", "_law_at", "_law_step", "_law_old"] ["_law_draws_here", "_law_size", "_law_style"] (defScope Hd.s_law_hung_grid) := ⟨rfl, rfl, rfl, by decide +kernel, rfl, by decide +kernel, by decide +kernel⟩
theorem ok_law_hung_grid {P : Program} {w : World} {K : PySem.W.Frag} {mg : Str → Option Value} {base : Heap} {f : Addr} {fd : FuncData} {dvs : List V} (T : LS.Bt mg) (c_law_empty : LS.Cf P w K mg base 1 "_law_empty" ["_law_size"] [] (LS.spG K (fun n : Int => [LS.Sl.is n]) (fun n => 0 ≤ n ∧ n ≤ 8) Mi.zeros)) (c_law_rate : LS.Cf P w K mg base 2 "_law_rate" ["_law_draws_here", "_law_style"] [] (LS.spR K (fun s : Int => [LS.Sl.is s]) (fun _ => True) (fun _ (r : Int) => 1 ≤ r ∧ r ≤ 1000003))) (c_law_take : LS.Cf P w K mg base 1 "_law_take" ["_law_draws_here", "_law_many"] [] (LS.takeP K))
    (F : FunD K "_law_hung_grid" "_law_hung_grid" (defArgs Hd.s_law_hung_grid) (defBody Hd.s_law_hung_grid) (defScope Hd.s_law_hung_grid) dvs [] f fd) : FnOk P w K mg base CX0 3 f fd ["_law_draws_here", "_law_size", "_law_style"] (LS.spR K (fun s : Int × Int => [LS.Sl.is s.1, LS.Sl.is s.2]) (fun s => 2 ≤ s.1 ∧ s.1 ≤ 5) (fun s (g : List (List Int)) => Mi.Gz 1000004 s.1.toNat g)) := by
  have nd := sc_law_hung_grid.nd
  refine F.ok sc_law_hung_grid (LS.spR_len fun _ => rfl) (fun cdv A outer s H vs Q E hr h => ⟨_, PSs.nox (pss_cons (ps_set (i := 3) nd rfl (.inl rfl) (LS.pe_cf c_law_empty (hr.mono (by decide)) (by rfl) (pa_cons (pv 1) pa_nil)))
    (pss_cons (ps_set (i := 4) nd rfl (.inl rfl) pe_int)
    (pss_cons (ps_for PassesOwn.never rfl (pi_range1 (by rfl) T.range (pa_cons (pv 1) pa_nil)) (pg_name (i := 5) nd rfl (.inl rfl))
    (pss_one (ps_if (pt_cmpR op_lt (pv 4) (pv 1) (nomark _)) (pss_cons (ps_set (i := 6) nd rfl (.inl rfl) (LS.pe_cf c_law_take (hr.mono (by decide)) (by rfl) (pa_cons (pv 0) (pa_cons (pv 4) pa_nil))))
    (pss_cons (ps_asg (LS.pe_cf c_law_rate (hr.mono (by decide)) (by rfl) (pa_cons (pv 0) (pa_cons (pv 2) pa_nil))) (pg_sub (pe_ix (LS.k_ixL (K := K) rfl) (pv 3) (pv 6) (fun _ _ => rfl)) (pv 4) set_list))
    (pss_cons (ps_if (PW.pt (pw_and (pt_cmpR op_lt (pe_op op_add (pv 4) pe_int) (pv 1) (nomark _)) (pw_and1 (pt_cmpR op_eq (LS.pe_cf c_law_take (hr.mono (by decide)) (by rfl) (pa_cons (pv 0) (pa_cons pe_int pa_nil))) pe_int (nomark _))))) (pss_cons (ps_asg (LS.pe_cf c_law_rate (hr.mono (by decide)) (by rfl) (pa_cons (pv 0) (pa_cons (pv 2) pa_nil))) (pg_sub (pe_ix (LS.k_ixL (K := K) rfl) (pv 3) (pv 4) (fun _ _ => rfl)) (pe_op op_add (pv 4) pe_int) set_list))
    (pss_one (ps_set (i := 4) nd rfl (.inl rfl) (pe_op op_add (pv 4) pe_int)))) pss_nil)
    (pss_cons (ps_asg (LS.pe_cf c_law_rate (hr.mono (by decide)) (by rfl) (pa_cons (pv 0) (pa_cons (pv 2) pa_nil))) (pg_sub (pe_ix (LS.k_ixL (K := K) rfl) (pv 3) (pv 4) (fun _ _ => rfl)) (pv 6) set_list))
    (pss_one (ps_set (i := 4) nd rfl (.inl rfl) (pe_op op_add (pv 4) pe_int))))))) pss_nil)))
    (pss_one (ps_ret (pv 3)))))), ?_⟩)

  refine LS.bodyR (spf := fun s => [.no, .is s.1, .is s.2, .no, .no, .no, .no]) h (fun _ => rfl) fun F d s hp k => ?_
  obtain ⟨n, st⟩ := s
  obtain ⟨n2, n5⟩ := hp
  dsimp only at n2 n5 k ⊢
  refine LS.b_asgG (i := n) (LS.ea_cons (LS.ex_var rfl) LS.ea_nil) (by omega) (fun _ _ => by decide) (by simp) ?_
  have inv0 := Mi.gz0 (M := 1000004) (n := n) (by decide) (by omega)
  have put : ∀ (g : List (List Int)) (x y v : Int), Mi.Gz 1000004 n.toNat g → 0 ≤ x → x < n → 0 ≤ y → y < n → x ≠ y → 0 ≤ v ∧ v ≤ 1000003 → Mi.Gz 1000004 n.toNat (g.set x.toNat ((g.getD x.toNat default).set y.toNat v)) := fun g x y v hg h1 h2 h3 h4 ne hv => hg.set (by omega) (by omega) ne (by omega)
  have lx : ∀ (g : List (List Int)) (x : Int), Mi.Gz 1000004 n.toNat g → 0 ≤ x → x < n → 0 ≤ x ∧ x < (g.length : Int) := fun g x hg h1 h2 => by have := hg.len; omega
  have ly : ∀ (g : List (List Int)) (x y : Int), Mi.Gz 1000004 n.toNat g → 0 ≤ x → x < n → 0 ≤ y → y < n → 0 ≤ y ∧ y < ((g.getD x.toNat default).length : Int) := fun g x y hg h1 h2 h3 h4 => by rw [hg.row (by omega)]; omega

  refine LS.b_asg ((LS.exd_of LS.ex_ci)) ⟨fun _ _ => by decide, fun _ _ z => by cases z; decide⟩ fun a0 ha0 => ?_
  subst ha0
  refine LS.b_for (α := Int) ((LS.ei_rng1 (LS.ex_var rfl) (by omega))) LS.tg_name (fun i hi _ _ => by simp at hi; omega) (fun _ sp og => ∃ (g : List (List Int)) (a : Int) (x y : LS.Sl), sp = [.no, .is n, .is st, .no, .is a, x, y] ∧ og = .at_ 3 g ∧ 1 ≤ a ∧ Mi.Gz 1000004 n.toNat g) (fun i sp kk g hI hm => by obtain ⟨_, _, _, _, _, e, _⟩ := hI; cases e; simp at hm) ⟨_, _, _, _, rfl, rfl, by decide, inv0⟩ (fun B' i x sp' og' hx hI => ?_) (fun sp' og' hI => ?_)
  · obtain ⟨g, a, x0, y0, rfl, rfl, a1, hg⟩ := hI
    refine LS.b_if ((LS.etd_of (LS.et_test (LS.ex_lt (LS.ex_var rfl) (LS.ex_var rfl))))) (fun q => ?_) (fun _ => LS.b_next fun σ H s => ⟨_, _, ⟨_, _, _, _, rfl, rfl, a1, hg⟩, s⟩)
    have an : a < n := of_decide_eq_true q.symm
    refine LS.b_asg ((LS.exd_take (LS.ex_var rfl))) ⟨fun _ _ => by decide, fun _ _ z => by cases z; decide⟩ fun o ho => ?_
    have o0 := ho.1
    have o1 := ho.2 a1
    refine LS.b_setS ((LS.exd_callA (i := _) (LS.ea_cons (LS.ex_var rfl) LS.ea_nil) True.intro)) ((LS.ex_var rfl)) ((LS.ex_var rfl)) (lx g o hg (by omega) (by omega)) (ly g o a hg (by omega) (by omega) (by omega) an) fun v hv => ?_
    have hg2 := put g o a v hg (by omega) (by omega) (by omega) an (by omega) (by omega)
    generalize g.set o.toNat ((g.getD o.toNat default).set a.toNat v) = g2 at hg2
    refine LS.b_join (fun sp2 og2 => ∃ (g3 : List (List Int)) (b : Int) (z : LS.Sl), sp2 = [.no, .is n, .is st, .no, .is b, z, .is o] ∧ og2 = .at_ 3 g3 ∧ a ≤ b ∧ b < n ∧ Mi.Gz 1000004 n.toNat g3) (fun sp2 og2 hR => ?_) (fun fin => ?_)
    · obtain ⟨g3, b, z, rfl, rfl, ab, bn, hg3⟩ := hR
      refine LS.b_setS ((LS.exd_callA (i := _) (LS.ea_cons (LS.ex_var rfl) LS.ea_nil) True.intro)) ((LS.ex_var rfl)) ((LS.ex_var rfl)) (lx g3 b hg3 (by omega) bn) (ly g3 b o hg3 (by omega) bn (by omega) (by omega)) fun v2 hv2 => ?_
      have hg4 := put g3 b o v2 hg3 (by omega) bn (by omega) (by omega) (by omega) (by omega)
      exact LS.b_asgL ((LS.exd_of (LS.ex_add (LS.ex_var rfl) LS.ex_ci))) ⟨fun _ _ => by decide, fun _ _ z => by cases z; decide⟩ fun c hc σ H s => ⟨_, _, ⟨_, c, _, _, rfl, rfl, by subst hc; omega, hg4⟩, s⟩
    · refine LS.b_if ((LS.etd_and (LS.etd_of (LS.et_test (LS.ex_lt (LS.ex_add (LS.ex_var rfl) LS.ex_ci) (LS.ex_var rfl)))) (LS.etd_test (LS.exd_eq (LS.exd_take LS.ex_ci) (LS.exd_of LS.ex_ci))))) (fun q2 => ?_) (fun _ => LS.b_next fun σ H s => fin _ _ ⟨g2, a, _, rfl, rfl, Int.le_refl _, an, hg2⟩ σ H s)
      have an2 : a + 1 < n := of_decide_eq_true (q2 rfl).1.symm
      refine LS.b_setS ((LS.exd_callA (i := _) (LS.ea_cons (LS.ex_var rfl) LS.ea_nil) True.intro)) ((LS.ex_var rfl)) ((LS.ex_add (LS.ex_var rfl) LS.ex_ci)) (lx g2 a hg2 (by omega) an) (ly g2 a (a + 1) hg2 (by omega) an (by omega) an2) fun v2 hv2 => ?_
      have hg4 := put g2 a (a + 1) v2 hg2 (by omega) an (by omega) an2 (by omega) (by omega)
      exact LS.b_asgL ((LS.exd_of (LS.ex_add (LS.ex_var rfl) LS.ex_ci))) ⟨fun _ _ => by decide, fun _ _ z => by cases z; decide⟩ fun c hc σ H s => fin _ _ ⟨_, c, _, rfl, rfl, by subst hc; omega, by subst hc; omega, hg4⟩ σ H s
  · obtain ⟨g0, a, x0, y0, rfl, rfl, _, hg0⟩ := hI
    exact LS.b_retG fun v H' e r => k g0 hg0 v H' e r
theorem sc_law_lots_grid : FnScope ["_law_draws_here", "_law_size", "_law_style", "_law_grid_here", "_law_half", "_law_x", "_law_y", "_law_start", "_law_many", "_law_inside", "_law_follows", "_law_turn", "_law_near", "_law_far"] ["_law_draws_here", "_law_size", "_law_style"] (defScope Hd.s_law_lots_grid) := ⟨rfl, rfl, rfl, by decide +kernel, rfl, by decide +kernel, by decide +kernel⟩
theorem ok_law_lots_grid {P : Program} {w : World} {K : PySem.W.Frag} {mg : Str → Option Value} {base : Heap} {f : Addr} {fd : FuncData} {dvs : List V} (T : LS.Bt mg) (c_law_empty : LS.Cf P w K mg base 1 "_law_empty" ["_law_size"] [] (LS.spG K (fun n : Int => [LS.Sl.is n]) (fun n => 0 ≤ n ∧ n ≤ 8) Mi.zeros)) (c_law_rate : LS.Cf P w K mg base 2 "_law_rate" ["_law_draws_here", "_law_style"] [] (LS.spR K (fun s : Int => [LS.Sl.is s]) (fun _ => True) (fun _ (r : Int) => 1 ≤ r ∧ r ≤ 1000003))) (c_law_take : LS.Cf P w K mg base 1 "_law_take" ["_law_draws_here", "_law_many"] [] (LS.takeP K))
    (F : FunD K "_law_lots_grid" "_law_lots_grid" (defArgs Hd.s_law_lots_grid) (defBody Hd.s_law_lots_grid) (defScope Hd.s_law_lots_grid) dvs [] f fd) : FnOk P w K mg base CX0 3 f fd ["_law_draws_here", "_law_size", "_law_style"] (LS.spR K (fun s : Int × Int => [LS.Sl.is s.1, LS.Sl.is s.2]) (fun s => 2 ≤ s.1 ∧ s.1 ≤ 5) (fun s (g : List (List Int)) => Mi.Gz 1000004 s.1.toNat g)) := by
  have nd := sc_law_lots_grid.nd
  refine F.ok sc_law_lots_grid (LS.spR_len fun _ => rfl) (fun cdv A outer s H vs Q E hr h => ⟨_, PSs.nox (pss_cons (ps_set (i := 3) nd rfl (.inl rfl) (LS.pe_cf c_law_empty (hr.mono (by decide)) (by rfl) (pa_cons (pv 1) pa_nil)))
    (pss_cons (ps_set (i := 4) nd rfl (.inl rfl) (pe_op op_fdivN (pv 1) pe_int))
    (pss_cons (ps_for PassesOwn.never rfl (pi_range1 (by rfl) T.range (pa_cons (pv 1) pa_nil)) (pg_name (i := 5) nd rfl (.inl rfl))
    (pss_one (ps_for PassesOwn.never rfl (pi_range1 (by rfl) T.range (pa_cons (pv 1) pa_nil)) (pg_name (i := 6) nd rfl (.inl rfl))
    (pss_cons (ps_set (i := 7) nd rfl (.inl rfl) pe_int)
    (pss_cons (ps_set (i := 8) nd rfl (.inl rfl) (pv 4))
    (pss_cons (ps_if (pt_cmpR op_ge (pv 5) (pv 4) (nomark _)) (pss_cons (ps_set (i := 7) nd rfl (.inl rfl) (pv 4))
    (pss_one (ps_set (i := 8) nd rfl (.inl rfl) (pe_op op_sub (pv 1) (pv 4))))) pss_nil)
    (pss_cons (ps_set (i := 9) nd rfl (.inl rfl) (pe_and (pe_cmpR op_ne (pv 6) (pv 5) (nomark _)) (pe_and (pe_cmpR op_ge (pv 6) (pv 7) (nomark _)) (pe_one (pe_cmpR op_lt (pv 6) (pe_op op_add (pv 7) (pv 8)) (nomark _))))))
    (pss_cons (ps_set (i := 10) nd rfl (.inl rfl) (pe_cmpR op_eq (pv 6) (pe_op op_add (pv 7) (pe_op op_mod (pe_callTy call_int1 (by rfl) T.int (by decide +kernel) (pa_cons (pe_op op_add (pe_op op_sub (pv 5) (pv 7)) pe_int) pa_nil)) (pv 8))) (nomark _)))
    (pss_one (ps_if (PW.pt (pw_and (pt_val (pv 9)) (pw_and1 (PW.pt (pw_or (pt_val (pv 10)) (pw_or1 (pt_cmpR op_eq (LS.pe_cf c_law_take (hr.mono (by decide)) (by rfl) (pa_cons (pv 0) (pa_cons pe_int pa_nil))) pe_int (nomark _)))))))) (pss_one (ps_asg (LS.pe_cf c_law_rate (hr.mono (by decide)) (by rfl) (pa_cons (pv 0) (pa_cons (pv 2) pa_nil))) (pg_sub (pe_ix (LS.k_ixL (K := K) rfl) (pv 3) (pv 5) (fun _ _ => rfl)) (pv 6) set_list))) pss_nil))))))))))
    (pss_cons (ps_for PassesOwn.never rfl (pi_range1 (by rfl) T.range (pa_cons pe_int pa_nil)) (pg_name (i := 11) nd rfl (.inl rfl))
    (pss_cons (ps_set (i := 12) nd rfl (.inl rfl) (LS.pe_cf c_law_take (hr.mono (by decide)) (by rfl) (pa_cons (pv 0) (pa_cons (pv 4) pa_nil))))
    (pss_cons (ps_set (i := 13) nd rfl (.inl rfl) (pe_op op_add (pv 4) (LS.pe_cf c_law_take (hr.mono (by decide)) (by rfl) (pa_cons (pv 0) (pa_cons (pe_op op_sub (pv 1) (pv 4)) pa_nil)))))
    (pss_one (ps_if (pt_cmpR op_eq (pv 11) pe_int (nomark _)) (pss_one (ps_asg (LS.pe_cf c_law_rate (hr.mono (by decide)) (by rfl) (pa_cons (pv 0) (pa_cons (pv 2) pa_nil))) (pg_sub (pe_ix (LS.k_ixL (K := K) rfl) (pv 3) (pv 12) (fun _ _ => rfl)) (pv 13) set_list))) (pss_one (ps_asg (LS.pe_cf c_law_rate (hr.mono (by decide)) (by rfl) (pa_cons (pv 0) (pa_cons (pv 2) pa_nil))) (pg_sub (pe_ix (LS.k_ixL (K := K) rfl) (pv 3) (pv 13) (fun _ _ => rfl)) (pv 12) set_list))))))))
    (pss_one (ps_ret (pv 3))))))), ?_⟩)

  refine LS.bodyR (spf := fun s => [.no, .is s.1, .is s.2, .no, .no, .no, .no, .no, .no, .no, .no, .no, .no, .no]) h (fun _ => rfl) fun F d s hp k => ?_
  obtain ⟨n, st⟩ := s
  obtain ⟨n2, n5⟩ := hp
  dsimp only at n2 n5 k ⊢
  refine LS.b_asgG (i := n) (LS.ea_cons (LS.ex_var rfl) LS.ea_nil) (by omega) (fun _ _ => by decide) (by simp) ?_
  have inv0 := Mi.gz0 (M := 1000004) (n := n) (by decide) (by omega)
  have put : ∀ (g : List (List Int)) (x y v : Int), Mi.Gz 1000004 n.toNat g → 0 ≤ x → x < n → 0 ≤ y → y < n → x ≠ y → 0 ≤ v ∧ v ≤ 1000003 → Mi.Gz 1000004 n.toNat (g.set x.toNat ((g.getD x.toNat default).set y.toNat v)) := fun g x y v hg h1 h2 h3 h4 ne hv => hg.set (by omega) (by omega) ne (by omega)
  have lx : ∀ (g : List (List Int)) (x : Int), Mi.Gz 1000004 n.toNat g → 0 ≤ x → x < n → 0 ≤ x ∧ x < (g.length : Int) := fun g x hg h1 h2 => by have := hg.len; omega
  have ly : ∀ (g : List (List Int)) (x y : Int), Mi.Gz 1000004 n.toNat g → 0 ≤ x → x < n → 0 ≤ y → y < n → 0 ≤ y ∧ y < ((g.getD x.toNat default).length : Int) := fun g x y hg h1 h2 h3 h4 => by rw [hg.row (by omega)]; omega

  refine LS.b_asg ((LS.exd_of (LS.ex_fdivN (LS.ex_var rfl) LS.ex_ci (by first | omega | exact ⟨by decide, by decide⟩ | exact mp)))) ⟨fun _ _ => by decide, fun _ _ z => by cases z; decide⟩ fun hf hhf => ?_
  have hf1 : 1 ≤ hf ∧ hf < n := by
    rw [Int.fdiv_eq_ediv_of_nonneg _ (by decide)] at hhf
    omega
  clear hhf
  refine LS.b_for (α := Int) ((LS.ei_rng1 (LS.ex_var rfl) (by first | omega | exact ⟨by decide, by decide⟩ | exact mp))) LS.tg_name (fun i hi _ _ => by simp at hi; omega) (fun _ sp og => ∃ (g : List (List Int)) (a b c e i o p q z : LS.Sl), sp = [.no, .is n, .is st, .no, .is hf, a, b, c, e, i, o, p, q, z] ∧ og = .at_ 3 g ∧ Mi.Gz 1000004 n.toNat g) (fun i sp kk g hI hm => by obtain ⟨_, _, _, _, _, _, _, _, _, _, _, e, _⟩ := hI; cases e; simp at hm) ⟨_, _, _, _, _, _, _, _, _, _, rfl, rfl, inv0⟩ (fun B' i x sp' og' hx hI => ?_) (fun sp' og' hI => ?_)
  · obtain ⟨g0, _, _, _, _, _, _, _, _, _, rfl, rfl, hg0⟩ := hI
    have ix := LS.rng_mem (List.mem_of_getElem? hx)
    refine LS.b_forL (α := Int) ((LS.ei_rng1 (LS.ex_var rfl) (by first | omega | exact ⟨by decide, by decide⟩ | exact mp))) LS.tg_name (fun i hi _ _ => by simp at hi; omega) (fun _ sp og => ∃ (g : List (List Int)) (b c e i o p q z : LS.Sl), sp = [.no, .is n, .is st, .no, .is hf, .is x, b, c, e, i, o, p, q, z] ∧ og = .at_ 3 g ∧ Mi.Gz 1000004 n.toNat g) (fun i sp kk g hI hm => by obtain ⟨_, _, _, _, _, _, _, _, _, _, e, _⟩ := hI; cases e; simp at hm) ⟨_, _, _, _, _, _, _, _, _, rfl, rfl, hg0⟩ (fun B2 i2 y sp2 og2 hy hI2 => ?_) (fun sp2 og2 hI2 σ H s => ?_)
    · obtain ⟨g, _, _, _, _, _, p5, p6, p7, rfl, rfl, hg⟩ := hI2
      have iy := LS.rng_mem (List.mem_of_getElem? hy)
      refine LS.b_asg ((LS.exd_of LS.ex_ci)) ⟨fun _ _ => by decide, fun _ _ z => by cases z; decide⟩ fun s0 hs0 => ?_
      refine LS.b_asg ((LS.exd_of (LS.ex_var rfl))) ⟨fun _ _ => by decide, fun _ _ z => by cases z; decide⟩ fun m0 hm0 => ?_
      refine LS.b_join (fun sp2 og2 => ∃ (s1 m1 : Int) (i o : LS.Sl), sp2 = [.no, .is n, .is st, .no, .is hf, .is x, .is y, .is s1, .is m1, i, o, p5, p6, p7] ∧ og2 = .at_ 3 g ∧ 0 < m1) (fun sp2 og2 hR => ?_) (fun fin => ?_)
      · obtain ⟨s1, m1, _, _, rfl, rfl, mp⟩ := hR
        refine LS.b_asg ((LS.exd_of (LS.ex_andV (LS.ex_ne (LS.ex_var rfl) (LS.ex_var rfl)) (fun hq => (LS.ex_andV (LS.ex_ge (LS.ex_var rfl) (LS.ex_var rfl)) (fun hq => (LS.ex_lt (LS.ex_var rfl) (LS.ex_add (LS.ex_var rfl) (LS.ex_var rfl))))))))) ⟨fun _ _ => by decide, fun _ _ z => by cases z; decide⟩ fun ins hins => ?_
        refine LS.b_asg ((LS.exd_of (LS.ex_eq (LS.ex_var rfl) (LS.ex_add (LS.ex_var rfl) (LS.ex_mod (LS.ex_int (LS.ex_add (LS.ex_sub (LS.ex_var rfl) (LS.ex_var rfl)) LS.ex_ci)) (LS.ex_var rfl) (by first | omega | exact ⟨by decide, by decide⟩ | exact mp)))))) ⟨fun _ _ => by decide, fun _ _ z => by cases z; decide⟩ fun fol hfol => ?_
        refine LS.b_if ((LS.etd_and (LS.etd_of (LS.et_b (LS.ex_var rfl))) (LS.etd_or (LS.etd_of (LS.et_b (LS.ex_var rfl))) (LS.etd_test (LS.exd_eq (LS.exd_take LS.ex_ci) (LS.exd_of LS.ex_ci)))))) (fun q => ?_) (fun _ => LS.b_next fun σ H s => ⟨_, _, ⟨_, _, _, _, _, _, _, _, _, rfl, rfl, hg⟩, s⟩)
        have q1 := (q rfl).1
        have ne : x ≠ y := fun z => by
          rw [← q1] at hins
          have := hins.symm
          simp [z] at this
        exact LS.b_set ((LS.exd_callA (i := _) (LS.ea_cons (LS.ex_var rfl) LS.ea_nil) True.intro)) ((LS.ex_var rfl)) ((LS.ex_var rfl)) (lx g x hg ix.1 ix.2) (ly g x y hg ix.1 ix.2 iy.1 iy.2) fun v hv σ H s => ⟨_, _, ⟨_, _, _, _, _, _, _, _, _, rfl, rfl, put g x y v hg ix.1 ix.2 iy.1 iy.2 ne (by omega)⟩, s⟩
      · refine LS.b_if ((LS.etd_of (LS.et_test (LS.ex_ge (LS.ex_var rfl) (LS.ex_var rfl))))) (fun _ => ?_) (fun _ => LS.b_next fun σ H s => fin _ _ ⟨_, _, _, _, rfl, rfl, by subst hm0; omega⟩ σ H s)
        refine LS.b_asg ((LS.exd_of (LS.ex_var rfl))) ⟨fun _ _ => by decide, fun _ _ z => by cases z; decide⟩ fun s1 hs1 => ?_
        exact LS.b_asgL ((LS.exd_of (LS.ex_sub (LS.ex_var rfl) (LS.ex_var rfl)))) ⟨fun _ _ => by decide, fun _ _ z => by cases z; decide⟩ fun m1 hm1 σ H s => fin _ _ ⟨_, _, _, _, rfl, rfl, by subst hm1; omega⟩ σ H s
    · obtain ⟨g, _, _, _, _, _, _, _, _, rfl, rfl, hg⟩ := hI2
      exact ⟨_, _, ⟨g, _, _, _, _, _, _, _, _, _, rfl, rfl, hg⟩, s⟩
  · obtain ⟨g0, _, _, _, _, _, _, _, _, _, rfl, rfl, hg0⟩ := hI
    refine LS.b_for (α := Int) ((LS.ei_rng1 LS.ex_ci (by first | omega | exact ⟨by decide, by decide⟩ | exact mp))) LS.tg_name (fun i hi _ _ => by simp at hi; omega) (fun _ sp og => ∃ (g : List (List Int)) (a b c e i o p q z : LS.Sl), sp = [.no, .is n, .is st, .no, .is hf, a, b, c, e, i, o, p, q, z] ∧ og = .at_ 3 g ∧ Mi.Gz 1000004 n.toNat g) (fun i sp kk g hI hm => by obtain ⟨_, _, _, _, _, _, _, _, _, _, _, e, _⟩ := hI; cases e; simp at hm) ⟨_, _, _, _, _, _, _, _, _, _, rfl, rfl, hg0⟩ (fun B' i t sp' og' ht hI => ?_) (fun sp' og' hI => ?_)
    · obtain ⟨g, _, _, _, _, _, _, _, _, _, rfl, rfl, hg⟩ := hI
      refine LS.b_asg ((LS.exd_take (LS.ex_var rfl))) ⟨fun _ _ => by decide, fun _ _ z => by cases z; decide⟩ fun near hnear => ?_
      refine LS.b_asg ((LS.exd_add (LS.exd_of (LS.ex_var rfl)) (LS.exd_take (LS.ex_sub (LS.ex_var rfl) (LS.ex_var rfl))))) ⟨fun _ _ => by decide, fun _ _ z => by cases z; decide⟩ fun far hfar => ?_
      have n1 := hnear.2 hf1.1
      have n0 := hnear.1
      have ff : hf ≤ far ∧ far < n := by
        obtain ⟨a, b, rfl, ⟨b0, b1⟩, rfl⟩ := hfar
        have := b1 (by omega)
        omega
      refine LS.b_if ((LS.etd_of (LS.et_test (LS.ex_eq (LS.ex_var rfl) LS.ex_ci)))) (fun _ => ?_) (fun _ => ?_)
      · exact LS.b_set ((LS.exd_callA (i := _) (LS.ea_cons (LS.ex_var rfl) LS.ea_nil) True.intro)) ((LS.ex_var rfl)) ((LS.ex_var rfl)) (lx g near hg n0 (by omega)) (ly g near far hg n0 (by omega) (by omega) ff.2) fun v hv σ H s => ⟨_, _, ⟨_, _, _, _, _, _, _, _, _, _, rfl, rfl, put g near far v hg n0 (by omega) (by omega) ff.2 (by omega) (by omega)⟩, s⟩
      · exact LS.b_set ((LS.exd_callA (i := _) (LS.ea_cons (LS.ex_var rfl) LS.ea_nil) True.intro)) ((LS.ex_var rfl)) ((LS.ex_var rfl)) (lx g far hg (by omega) ff.2) (ly g far near hg (by omega) ff.2 n0 (by omega)) fun v hv σ H s => ⟨_, _, ⟨_, _, _, _, _, _, _, _, _, _, rfl, rfl, put g far near v hg (by omega) ff.2 n0 (by omega) (by omega) (by omega)⟩, s⟩
    · obtain ⟨g, _, _, _, _, _, _, _, _, _, rfl, rfl, hg⟩ := hI
      exact LS.b_retG fun v H' e r => k g hg v H' e r
theorem sc_law_cross_grid : FnScope ["_law_draws_here", "_law_size", "_law_style", "_law_grid_here", "_law_pairs", "_law_k"] ["_law_draws_here", "_law_size", "_law_style"] (defScope Hd.s_law_cross_grid) := ⟨rfl, rfl, rfl, by decide +kernel, rfl, by decide +kernel, by decide +kernel⟩
theorem ok_law_cross_grid {P : Program} {w : World} {K : PySem.W.Frag} {mg : Str → Option Value} {base : Heap} {f : Addr} {fd : FuncData} {dvs : List V} (T : LS.Bt mg) (c_law_empty : LS.Cf P w K mg base 1 "_law_empty" ["_law_size"] [] (LS.spG K (fun n : Int => [LS.Sl.is n]) (fun n => 0 ≤ n ∧ n ≤ 8) Mi.zeros)) (c_law_rate : LS.Cf P w K mg base 2 "_law_rate" ["_law_draws_here", "_law_style"] [] (LS.spR K (fun s : Int => [LS.Sl.is s]) (fun _ => True) (fun _ (r : Int) => 1 ≤ r ∧ r ≤ 1000003))) (c_law_take : LS.Cf P w K mg base 1 "_law_take" ["_law_draws_here", "_law_many"] [] (LS.takeP K))
    (F : FunD K "_law_cross_grid" "_law_cross_grid" (defArgs Hd.s_law_cross_grid) (defBody Hd.s_law_cross_grid) (defScope Hd.s_law_cross_grid) dvs [] f fd) : FnOk P w K mg base CX0 3 f fd ["_law_draws_here", "_law_size", "_law_style"] (LS.spR K (fun s : Int × Int => [LS.Sl.is s.1, LS.Sl.is s.2]) (fun s => 4 ≤ s.1 ∧ s.1 ≤ 5) (fun s (g : List (List Int)) => Mi.Gz 1000004 s.1.toNat g)) := by
  have nd := sc_law_cross_grid.nd
  refine F.ok sc_law_cross_grid (LS.spR_len fun _ => rfl) (fun cdv A outer s H vs Q E hr h => ⟨_, PSs.nox (pss_cons (ps_set (i := 3) nd rfl (.inl rfl) (LS.pe_cf c_law_empty (hr.mono (by decide)) (by rfl) (pa_cons (pv 1) pa_nil)))
    (pss_cons (ps_set (i := 4) nd rfl (.inl rfl) (pe_lst (pa_cons (pe_tup (pa_cons pe_int (pa_cons pe_int pa_nil))) (pa_cons (pe_tup (pa_cons pe_int (pa_cons pe_int pa_nil))) (pa_cons (pe_tup (pa_cons pe_int (pa_cons pe_int pa_nil))) (pa_cons (pe_tup (pa_cons pe_int (pa_cons pe_int pa_nil))) (pa_cons (pe_tup (pa_cons pe_int (pa_cons pe_int pa_nil))) (pa_cons (pe_tup (pa_cons pe_int (pa_cons pe_int pa_nil))) (pa_cons (pe_tup (pa_cons pe_int (pa_cons pe_int pa_nil))) (pa_cons (pe_tup (pa_cons pe_int (pa_cons pe_int pa_nil))) (pa_cons (pe_tup (pa_cons pe_int (pa_cons pe_int pa_nil))) (pa_cons (pe_tup (pa_cons pe_int (pa_cons pe_int pa_nil))) pa_nil))))))))))))
    (pss_cons (ps_for PassesOwn.never rfl (pi_range1 (by rfl) T.range (pa_cons (pe_callB (LS.k_len (K := K) rfl) (by rfl) T.len (by decide +kernel) (pa_cons (pv 4) pa_nil)) pa_nil)) (pg_name (i := 5) nd rfl (.inl rfl))
    (pss_one (ps_if (PW.pt (pw_or (pt_cmpR op_lt (pv 5) pe_int (nomark _)) (pw_or1 (pt_cmpR op_eq (LS.pe_cf c_law_take (hr.mono (by decide)) (by rfl) (pa_cons (pv 0) (pa_cons pe_int pa_nil))) pe_int (nomark _))))) (pss_one (ps_asg (LS.pe_cf c_law_rate (hr.mono (by decide)) (by rfl) (pa_cons (pv 0) (pa_cons (pv 2) pa_nil))) (pg_sub (pe_ix (LS.k_ixL (K := K) rfl) (pv 3) (pe_ix (LS.k_ixT (K := K) rfl) (pe_ix (LS.k_ixL (K := K) rfl) (pv 4) (pv 5) (fun _ _ => rfl)) pe_int (fun _ _ => rfl)) (fun _ _ => rfl)) (pe_ix (LS.k_ixT (K := K) rfl) (pe_ix (LS.k_ixL (K := K) rfl) (pv 4) (pv 5) (fun _ _ => rfl)) pe_int (fun _ _ => rfl)) set_list))) pss_nil)))
    (pss_cons (ps_if (pt_cmpR op_eq (pv 1) pe_int (nomark _)) (pss_cons (ps_asg (LS.pe_cf c_law_rate (hr.mono (by decide)) (by rfl) (pa_cons (pv 0) (pa_cons (pv 2) pa_nil))) (pg_sub (pe_ix (LS.k_ixL (K := K) rfl) (pv 3) pe_int (fun _ _ => rfl)) pe_int set_list))
    (pss_cons (ps_asg (LS.pe_cf c_law_rate (hr.mono (by decide)) (by rfl) (pa_cons (pv 0) (pa_cons (pv 2) pa_nil))) (pg_sub (pe_ix (LS.k_ixL (K := K) rfl) (pv 3) pe_int (fun _ _ => rfl)) pe_int set_list))
    (pss_one (ps_if (pt_cmpR op_eq (LS.pe_cf c_law_take (hr.mono (by decide)) (by rfl) (pa_cons (pv 0) (pa_cons pe_int pa_nil))) pe_int (nomark _)) (pss_one (ps_asg pe_int (pg_sub (pe_ix (LS.k_ixL (K := K) rfl) (pv 3) pe_int (fun _ _ => rfl)) pe_int set_list))) pss_nil)))) pss_nil)
    (pss_one (ps_ret (pv 3))))))), ?_⟩)

  refine LS.bodyR (spf := fun s => [.no, .is s.1, .is s.2, .no, .no, .no]) h (fun _ => rfl) fun F d s hp k => ?_
  obtain ⟨n, st⟩ := s
  obtain ⟨n2, n5⟩ := hp
  dsimp only at n2 n5 k ⊢
  refine LS.b_asgG (i := n) (LS.ea_cons (LS.ex_var rfl) LS.ea_nil) (by omega) (fun _ _ => by decide) (by simp) ?_
  have inv0 := Mi.gz0 (M := 1000004) (n := n) (by decide) (by omega)
  have put : ∀ (g : List (List Int)) (x y v : Int), Mi.Gz 1000004 n.toNat g → 0 ≤ x → x < n → 0 ≤ y → y < n → x ≠ y → 0 ≤ v ∧ v ≤ 1000003 → Mi.Gz 1000004 n.toNat (g.set x.toNat ((g.getD x.toNat default).set y.toNat v)) := fun g x y v hg h1 h2 h3 h4 ne hv => hg.set (by omega) (by omega) ne (by omega)
  have lx : ∀ (g : List (List Int)) (x : Int), Mi.Gz 1000004 n.toNat g → 0 ≤ x → x < n → 0 ≤ x ∧ x < (g.length : Int) := fun g x hg h1 h2 => by have := hg.len; omega
  have ly : ∀ (g : List (List Int)) (x y : Int), Mi.Gz 1000004 n.toNat g → 0 ≤ x → x < n → 0 ≤ y → y < n → 0 ≤ y ∧ y < ((g.getD x.toNat default).length : Int) := fun g x y hg h1 h2 h3 h4 => by rw [hg.row (by omega)]; omega

  refine LS.b_asg ((LS.exd_of (LS.ex_lst (α := (Int × Int)) (LS.el_cons (LS.ex_pair (α := Int) (β := Int) LS.ex_ci LS.ex_ci) (LS.el_cons (LS.ex_pair (α := Int) (β := Int) LS.ex_ci LS.ex_ci) (LS.el_cons (LS.ex_pair (α := Int) (β := Int) LS.ex_ci LS.ex_ci) (LS.el_cons (LS.ex_pair (α := Int) (β := Int) LS.ex_ci LS.ex_ci) (LS.el_cons (LS.ex_pair (α := Int) (β := Int) LS.ex_ci LS.ex_ci) (LS.el_cons (LS.ex_pair (α := Int) (β := Int) LS.ex_ci LS.ex_ci) (LS.el_cons (LS.ex_pair (α := Int) (β := Int) LS.ex_ci LS.ex_ci) (LS.el_cons (LS.ex_pair (α := Int) (β := Int) LS.ex_ci LS.ex_ci) (LS.el_cons (LS.ex_pair (α := Int) (β := Int) LS.ex_ci LS.ex_ci) (LS.el_cons (LS.ex_pair (α := Int) (β := Int) LS.ex_ci LS.ex_ci) LS.el_nil)))))))))) (by simp)))) ⟨fun _ _ => by decide, fun _ _ z => by cases z; decide⟩ fun ps hps => ?_
  have hpl : ps.length = 10 := by rw [hps]; rfl
  have hpm : ∀ p ∈ ps, (0 ≤ p.1 ∧ p.1 < 4) ∧ (0 ≤ p.2 ∧ p.2 < 4) ∧ p.1 ≠ p.2 := by rw [hps]; decide
  clear hps
  refine LS.b_for (α := Int) ((LS.ei_rng1 (LS.ex_lenL (LS.ex_var rfl)) (by first | omega | exact kb.1 | exact kb.2 | decide))) LS.tg_name (fun i hi _ _ => by simp at hi; omega) (fun _ sp og => ∃ (g : List (List Int)) (x : LS.Sl), sp = [.no, .is n, .is st, .no, .is ps, x] ∧ og = .at_ 3 g ∧ Mi.Gz 1000004 n.toNat g) (fun i sp kk g hI hm => by obtain ⟨_, _, _, e, _⟩ := hI; cases e; simp at hm) ⟨_, _, rfl, rfl, inv0⟩ (fun B' i x sp' og' hx hI => ?_) (fun sp' og' hI => ?_)
  · obtain ⟨g, x0, rfl, rfl, hg⟩ := hI
    have kb : 0 ≤ x ∧ x < (ps.length : Int) := LS.rng_mem (List.mem_of_getElem? hx)
    have hm := hpm (ps.getD x.toNat default) (by
      rw [List.getD_eq_getElem?_getD, List.getElem?_eq_getElem (show x.toNat < ps.length by omega)]
      exact List.getElem_mem _)
    refine LS.b_if ((LS.etd_or (LS.etd_of (LS.et_test (LS.ex_lt (LS.ex_var rfl) LS.ex_ci))) (LS.etd_test (LS.exd_eq (LS.exd_take LS.ex_ci) (LS.exd_of LS.ex_ci))))) (fun _ => ?_) (fun _ => LS.b_next fun σ H s => ⟨_, _, ⟨_, _, rfl, rfl, hg⟩, s⟩)
    exact LS.b_set ((LS.exd_callA (i := _) (LS.ea_cons (LS.ex_var rfl) LS.ea_nil) True.intro)) ((LS.ex_fst (α := Int) (β := Int) (LS.ex_ixLd (α := (Int × Int)) (LS.ex_var rfl) (LS.ex_var rfl) (by first | omega | exact kb.1 | exact kb.2 | decide) (by first | omega | exact kb.1 | exact kb.2 | decide)))) ((LS.ex_snd (α := Int) (β := Int) (LS.ex_ixLd (α := (Int × Int)) (LS.ex_var rfl) (LS.ex_var rfl) (by first | omega | exact kb.1 | exact kb.2 | decide) (by first | omega | exact kb.1 | exact kb.2 | decide)))) (lx g _ hg (by omega) (by omega)) (ly g _ _ hg (by omega) (by omega) (by omega) (by omega)) fun v hv σ H s => ⟨_, _, ⟨_, _, rfl, rfl, put g _ _ v hg (by omega) (by omega) (by omega) (by omega) hm.2.2 (by omega)⟩, s⟩
  · obtain ⟨g, x0, rfl, rfl, hg⟩ := hI
    refine LS.b_join (fun sp2 og2 => ∃ g2, og2 = .at_ 3 g2 ∧ Mi.Gz 1000004 n.toNat g2) (fun sp2 og2 hR => ?_) (fun fin => ?_)
    · obtain ⟨g2, rfl, hg2⟩ := hR
      exact LS.b_retG fun v H' e r => k g2 hg2 v H' e r
    refine LS.b_if ((LS.etd_of (LS.et_test (LS.ex_eq (LS.ex_var rfl) LS.ex_ci)))) (fun q => ?_) (fun _ => LS.b_next fun σ H s => fin _ _ ⟨g, rfl, hg⟩ σ H s)
    have e5 : n = 5 := of_decide_eq_true q.symm
    refine LS.b_setS ((LS.exd_callA (i := _) (LS.ea_cons (LS.ex_var rfl) LS.ea_nil) True.intro)) (LS.ex_ci) (LS.ex_ci) (lx g 0 hg (by decide) (by omega)) (ly g 0 4 hg (by decide) (by omega) (by decide) (by omega)) fun v hv => ?_
    have hg2 := put g 0 4 v hg (by decide) (by omega) (by decide) (by omega) (by decide) (by omega)
    refine LS.b_setS ((LS.exd_callA (i := _) (LS.ea_cons (LS.ex_var rfl) LS.ea_nil) True.intro)) (LS.ex_ci) (LS.ex_ci) (lx _ 4 hg2 (by decide) (by omega)) (ly _ 4 2 hg2 (by decide) (by omega) (by decide) (by omega)) fun v2 hv2 => ?_
    have hg3 := put _ 4 2 v2 hg2 (by decide) (by omega) (by decide) (by omega) (by decide) (by omega)
    refine LS.b_if ((LS.etd_test (LS.exd_eq (LS.exd_take LS.ex_ci) (LS.exd_of LS.ex_ci)))) (fun _ => ?_) (fun _ => LS.b_next fun σ H s => fin _ _ ⟨_, rfl, hg3⟩ σ H s)
    exact LS.b_set ((LS.exd_of LS.ex_ci)) (LS.ex_ci) (LS.ex_ci) (lx _ 0 hg3 (by decide) (by omega)) (ly _ 0 2 hg3 (by decide) (by omega) (by decide) (by omega)) fun v3 hv3 σ H s => fin _ _ ⟨_, rfl, put _ 0 2 v3 hg3 (by decide) (by omega) (by decide) (by omega) (by decide) (by subst hv3; decide)⟩ σ H s
theorem sc_law_ring_grid : FnScope ["_law_draws_here", "_law_size", "_law_style", "_law_thick", "_law_grid_here", "_law_x", "_law_y"] ["_law_draws_here", "_law_size", "_law_style", "_law_thick"] (defScope Hd.s_law_ring_grid) := ⟨rfl, rfl, rfl, by decide +kernel, rfl, by decide +kernel, by decide +kernel⟩
theorem ok_law_ring_grid {P : Program} {w : World} {K : PySem.W.Frag} {mg : Str → Option Value} {base : Heap} {f : Addr} {fd : FuncData} {dvs : List V} (T : LS.Bt mg) (c_law_empty : LS.Cf P w K mg base 1 "_law_empty" ["_law_size"] [] (LS.spG K (fun n : Int => [LS.Sl.is n]) (fun n => 0 ≤ n ∧ n ≤ 8) Mi.zeros)) (c_law_rate : LS.Cf P w K mg base 2 "_law_rate" ["_law_draws_here", "_law_style"] [] (LS.spR K (fun s : Int => [LS.Sl.is s]) (fun _ => True) (fun _ (r : Int) => 1 ≤ r ∧ r ≤ 1000003))) (c_law_take : LS.Cf P w K mg base 1 "_law_take" ["_law_draws_here", "_law_many"] [] (LS.takeP K))
    (F : FunD K "_law_ring_grid" "_law_ring_grid" (defArgs Hd.s_law_ring_grid) (defBody Hd.s_law_ring_grid) (defScope Hd.s_law_ring_grid) dvs [] f fd) : FnOk P w K mg base CX0 3 f fd ["_law_draws_here", "_law_size", "_law_style", "_law_thick"] (LS.spR K (fun s : Int × Int × Int => [LS.Sl.is s.1, LS.Sl.is s.2.1, LS.Sl.is s.2.2]) (fun s => 2 ≤ s.1 ∧ s.1 ≤ 5) (fun s (g : List (List Int)) => Mi.Gz 1000004 s.1.toNat g)) := by
  have nd := sc_law_ring_grid.nd
  refine F.ok sc_law_ring_grid (LS.spR_len fun _ => rfl) (fun cdv A outer s H vs Q E hr h => ⟨_, PSs.nox (pss_cons (ps_set (i := 4) nd rfl (.inl rfl) (LS.pe_cf c_law_empty (hr.mono (by decide)) (by rfl) (pa_cons (pv 1) pa_nil)))
    (pss_cons (ps_for PassesOwn.never rfl (pi_range1 (by rfl) T.range (pa_cons (pv 1) pa_nil)) (pg_name (i := 5) nd rfl (.inl rfl))
    (pss_one (ps_for PassesOwn.never rfl (pi_range1 (by rfl) T.range (pa_cons (pv 1) pa_nil)) (pg_name (i := 6) nd rfl (.inl rfl))
    (pss_one (ps_if (pt_cmpR op_eq (pv 6) (pe_op op_mod (pe_callTy call_int1 (by rfl) T.int (by decide +kernel) (pa_cons (pe_op op_add (pv 5) pe_int) pa_nil)) (pv 1)) (nomark _)) (pss_one (ps_asg (LS.pe_cf c_law_rate (hr.mono (by decide)) (by rfl) (pa_cons (pv 0) (pa_cons (pv 2) pa_nil))) (pg_sub (pe_ix (LS.k_ixL (K := K) rfl) (pv 4) (pv 5) (fun _ _ => rfl)) (pv 6) set_list))) (pss_one (ps_if (PW.pt (pw_and (pt_cmpR op_ne (pv 6) (pv 5) (nomark _)) (pw_and1 (pt_cmpR op_ge (LS.pe_cf c_law_take (hr.mono (by decide)) (by rfl) (pa_cons (pv 0) (pa_cons pe_int pa_nil))) (pe_op op_sub pe_int (pv 3)) (nomark _))))) (pss_one (ps_asg (LS.pe_cf c_law_rate (hr.mono (by decide)) (by rfl) (pa_cons (pv 0) (pa_cons (pv 2) pa_nil))) (pg_sub (pe_ix (LS.k_ixL (K := K) rfl) (pv 4) (pv 5) (fun _ _ => rfl)) (pv 6) set_list))) pss_nil)))))))
    (pss_one (ps_ret (pv 4))))), ?_⟩)

  refine LS.bodyR (spf := fun s => [.no, .is s.1, .is s.2.1, .is s.2.2, .no, .no, .no]) h (fun _ => rfl) fun F d s hp k => ?_
  obtain ⟨n, st, th⟩ := s
  obtain ⟨n2, n5⟩ := hp
  dsimp only at n2 n5 k ⊢
  refine LS.b_asgG (i := n) (LS.ea_cons (LS.ex_var rfl) LS.ea_nil) (by omega) (fun _ _ => by decide) (by simp) ?_
  have inv0 := Mi.gz0 (M := 1000004) (n := n) (by decide) (by omega)
  refine LS.b_for (α := Int) ((LS.ei_rng1 (LS.ex_var rfl) (by omega))) LS.tg_name (fun i hi _ _ => by simp at hi; omega) (fun _ sp og => ∃ g x y, sp = [.no, .is n, .is st, .is th, .no, x, y] ∧ og = .at_ 4 g ∧ Mi.Gz 1000004 n.toNat g) (fun i sp kk g hI hm => by obtain ⟨_, _, _, _, e, _⟩ := hI; cases e; simp at hm) ⟨_, _, _, rfl, rfl, inv0⟩ (fun B' i x sp' og' hx hI => ?_) (fun sp' og' hI => ?_)
  · obtain ⟨g0, x0, y0, rfl, rfl, hg0⟩ := hI
    have ix := LS.rng_mem (List.mem_of_getElem? hx)
    refine LS.b_forL (α := Int) ((LS.ei_rng1 (LS.ex_var rfl) (by omega))) LS.tg_name (fun i hi _ _ => by simp at hi; omega) (fun _ sp og => ∃ g y, sp = [.no, .is n, .is st, .is th, .no, .is x, y] ∧ og = .at_ 4 g ∧ Mi.Gz 1000004 n.toNat g) (fun i sp kk g hI hm => by obtain ⟨_, _, _, e, _⟩ := hI; cases e; simp at hm) ⟨_, _, rfl, rfl, hg0⟩ (fun B2 i2 y sp2 og2 hy hI2 => ?_) (fun sp2 og2 hI2 σ H s => ?_)
    · obtain ⟨g, y1, rfl, rfl, hg⟩ := hI2
      have iy := LS.rng_mem (List.mem_of_getElem? hy)
      have hgl := hg.len
      have ha : 0 ≤ x ∧ x < (g.length : Int) := by omega
      have hb : 0 ≤ y ∧ y < ((g.getD x.toNat default).length : Int) := by rw [hg.row (by omega)]; omega
      have fin : ∀ v : Int, 1 ≤ v ∧ v ≤ 1000003 → x ≠ y → Mi.Gz 1000004 n.toNat (g.set x.toNat ((g.getD x.toNat default).set y.toNat v)) := fun v hv ne => hg.set (by omega) (by omega) ne (by omega)
      refine LS.b_if ((LS.etd_of (LS.et_test (LS.ex_eq (LS.ex_var rfl) (LS.ex_mod (LS.ex_int (LS.ex_add (LS.ex_var rfl) LS.ex_ci)) (LS.ex_var rfl) (by omega)))))) (fun q => ?_) (fun _ => ?_)
      · have ne : x ≠ y := fun z => by
          have := (of_decide_eq_true q.symm)
          exact Mi.succ_ne ix.1 ix.2 n2 (by rw [← this, z])
        exact LS.b_set ((LS.exd_callA (i := _) (LS.ea_cons (LS.ex_var rfl) LS.ea_nil) True.intro)) ((LS.ex_var rfl)) ((LS.ex_var rfl)) ha hb fun v hv σ H s => ⟨_, _, ⟨_, _, rfl, rfl, fin v hv ne⟩, s⟩
      · refine LS.b_if ((LS.etd_and (LS.etd_of (LS.et_test (LS.ex_ne (LS.ex_var rfl) (LS.ex_var rfl)))) (LS.etd_test (LS.exd_ge (LS.exd_take LS.ex_ci) (LS.exd_of (LS.ex_sub LS.ex_ci (LS.ex_var rfl))))))) (fun q => ?_) (fun _ => LS.b_next fun σ H s => ⟨_, _, ⟨_, _, rfl, rfl, hg⟩, s⟩)
        have ne : x ≠ y := fun z => by
          have := (q rfl).1
          simp [z] at this
        exact LS.b_set ((LS.exd_callA (i := _) (LS.ea_cons (LS.ex_var rfl) LS.ea_nil) True.intro)) ((LS.ex_var rfl)) ((LS.ex_var rfl)) ha hb fun v hv σ H s => ⟨_, _, ⟨_, _, rfl, rfl, fin v hv ne⟩, s⟩
    · obtain ⟨g, y1, rfl, rfl, hg⟩ := hI2
      exact ⟨_, _, ⟨g, _, _, rfl, rfl, hg⟩, s⟩
  · obtain ⟨g0, x0, y0, rfl, rfl, hg0⟩ := hI
    exact LS.b_retG fun v H' e r => k g0 hg0 v H' e r
theorem sc_law_moved : FnScope ["_law_grid_here", "_law_shift", "_law_size", "_law_moved_here", "_law_x", "_law_y"] ["_law_grid_here", "_law_shift"] (defScope Hd.s_law_moved) := ⟨rfl, rfl, rfl, by decide +kernel, rfl, by decide +kernel, by decide +kernel⟩
theorem ok_law_moved {P : Program} {w : World} {K : PySem.W.Frag} {mg : Str → Option Value} {base : Heap} {f : Addr} {fd : FuncData} {dvs : List V} (T : LS.Bt mg) (c_law_empty : LS.Cf P w K mg base 1 "_law_empty" ["_law_size"] [] (LS.spG K (fun n : Int => [LS.Sl.is n]) (fun n => 0 ≤ n ∧ n ≤ 8) Mi.zeros))
    (F : FunD K "_law_moved" "_law_moved" (defArgs Hd.s_law_moved) (defBody Hd.s_law_moved) (defScope Hd.s_law_moved) dvs [] f fd) : FnOk P w K mg base CX0 2 f fd ["_law_grid_here", "_law_shift"] (LS.spQ K (fun s : List (List Int) × Int => [LS.Sl.is s.1, LS.Sl.is s.2]) (fun s => Mi.Gz 1000004 s.1.length s.1 ∧ 2 ≤ s.1.length ∧ s.1.length ≤ 5) (fun s (g : List (List Int)) => Mi.Gz 1000004 s.1.length g)) := by
  have nd := sc_law_moved.nd
  refine F.ok sc_law_moved (LS.spQ_len fun _ => rfl) (fun cdv A outer s H vs Q E hr h => ⟨_, PSs.nox (pss_cons (ps_set (i := 2) nd rfl (.inl rfl) (pe_callB (LS.k_len (K := K) rfl) (by rfl) T.len (by decide +kernel) (pa_cons (pv 0) pa_nil)))
    (pss_cons (ps_set (i := 3) nd rfl (.inl rfl) (LS.pe_cf c_law_empty (hr.mono (by decide)) (by rfl) (pa_cons (pv 2) pa_nil)))
    (pss_cons (ps_for PassesOwn.never rfl (pi_range1 (by rfl) T.range (pa_cons (pv 2) pa_nil)) (pg_name (i := 4) nd rfl (.inl rfl))
    (pss_one (ps_for PassesOwn.never rfl (pi_range1 (by rfl) T.range (pa_cons (pv 2) pa_nil)) (pg_name (i := 5) nd rfl (.inl rfl))
    (pss_one (ps_asg (pe_ix (LS.k_ixL (K := K) rfl) (pe_ix (LS.k_ixL (K := K) rfl) (pv 0) (pv 4) (fun _ _ => rfl)) (pv 5) (fun _ _ => rfl)) (pg_sub (pe_ix (LS.k_ixL (K := K) rfl) (pv 3) (pe_op op_mod (pe_callTy call_int1 (by rfl) T.int (by decide +kernel) (pa_cons (pe_op op_add (pv 4) (pv 1)) pa_nil)) (pv 2)) (fun _ _ => rfl)) (pe_op op_mod (pe_callTy call_int1 (by rfl) T.int (by decide +kernel) (pa_cons (pe_op op_add (pv 5) (pv 1)) pa_nil)) (pv 2)) set_list))))))
    (pss_one (ps_ret (pv 3)))))), ?_⟩)

  refine LS.bodyQ (spf := fun s => [.is s.1, .is s.2, .no, .no, .no, .no]) h (fun _ => rfl) fun F s hp k => ?_
  obtain ⟨g1, sh⟩ := s
  obtain ⟨hz, n2, n5⟩ := hp
  dsimp only at hz n2 n5 k ⊢
  refine LS.b_asg ((LS.exd_of (LS.ex_lenL (LS.ex_var rfl)))) ⟨fun _ z => (nomatch z), fun _ _ z => (nomatch z)⟩ fun a ha => ?_
  subst ha
  refine LS.b_asgG (i := (g1.length : Int)) (LS.ea_cons (LS.ex_var rfl) LS.ea_nil) (by omega) (fun _ z => (nomatch z)) (by simp) ?_
  have inv0 := Mi.gz0 (M := 1000004) (n := (g1.length : Int)) (by decide) (by omega)
  rw [Int.toNat_natCast] at inv0
  refine LS.b_for (α := Int) ((LS.ei_rng1 (LS.ex_var rfl) (by first | omega | exact ix.1 | exact iy.1 | exact ix.2 | (rw [hz.row (by omega)]; exact iy.2)))) LS.tg_name (fun i hi _ z => (nomatch z)) (fun _ sp og => ∃ g x y, sp = [.is g1, .is sh, .is (g1.length : Int), .no, x, y] ∧ og = .at_ 3 g ∧ Mi.Gz 1000004 g1.length g) (fun i sp kk g hI hm => by obtain ⟨_, _, _, _, e, _⟩ := hI; cases e; simp at hm) ⟨_, _, _, rfl, rfl, inv0⟩ (fun B' i x sp' og' hx hI => ?_) (fun sp' og' hI => ?_)
  · obtain ⟨g0, x0, y0, rfl, rfl, hg0⟩ := hI
    have ix := LS.rng_mem (List.mem_of_getElem? hx)
    refine LS.b_forL (α := Int) ((LS.ei_rng1 (LS.ex_var rfl) (by first | omega | exact ix.1 | exact iy.1 | exact ix.2 | (rw [hz.row (by omega)]; exact iy.2)))) LS.tg_name (fun i hi _ z => (nomatch z)) (fun _ sp og => ∃ g y, sp = [.is g1, .is sh, .is (g1.length : Int), .no, .is x, y] ∧ og = .at_ 3 g ∧ Mi.Gz 1000004 g1.length g) (fun i sp kk g hI hm => by obtain ⟨_, _, _, e, _⟩ := hI; cases e; simp at hm) ⟨_, _, rfl, rfl, hg0⟩ (fun B2 i2 y sp2 og2 hy hI2 => ?_) (fun sp2 og2 hI2 σ H s => ?_)
    · obtain ⟨g, y1, rfl, rfl, hg⟩ := hI2
      have iy := LS.rng_mem (List.mem_of_getElem? hy)
      have hgl := hg.len
      have e1 : 0 ≤ (x + sh) % (g1.length : Int) ∧ (x + sh) % (g1.length : Int) < g1.length := ⟨Int.emod_nonneg _ (by omega), Int.emod_lt_of_pos _ (by omega)⟩
      have e2 : 0 ≤ (y + sh) % (g1.length : Int) ∧ (y + sh) % (g1.length : Int) < g1.length := ⟨Int.emod_nonneg _ (by omega), Int.emod_lt_of_pos _ (by omega)⟩
      have ha : 0 ≤ (x + sh) % (g1.length : Int) ∧ (x + sh) % (g1.length : Int) < (g.length : Int) := by omega
      have hb : 0 ≤ (y + sh) % (g1.length : Int) ∧ (y + sh) % (g1.length : Int) < ((g.getD ((x + sh) % (g1.length : Int)).toNat default).length : Int) := by rw [hg.row e1]; omega
      refine LS.b_set ((LS.exd_of (LS.ex_ixLd (α := Int) (LS.ex_ixLd (α := (List Int)) (LS.ex_var rfl) (LS.ex_var rfl) (by first | omega | exact ix.1 | exact iy.1 | exact ix.2 | (rw [hz.row (by omega)]; exact iy.2)) (by first | omega | exact ix.1 | exact iy.1 | exact ix.2 | (rw [hz.row (by omega)]; exact iy.2))) (LS.ex_var rfl) (by first | omega | exact ix.1 | exact iy.1 | exact ix.2 | (rw [hz.row (by omega)]; exact iy.2)) (by first | omega | exact ix.1 | exact iy.1 | exact ix.2 | (rw [hz.row (by omega)]; exact iy.2))))) ((LS.ex_mod (LS.ex_int (LS.ex_add (LS.ex_var rfl) (LS.ex_var rfl))) (LS.ex_var rfl) (by first | omega | exact ix.1 | exact iy.1 | exact ix.2 | (rw [hz.row (by omega)]; exact iy.2)))) ((LS.ex_mod (LS.ex_int (LS.ex_add (LS.ex_var rfl) (LS.ex_var rfl))) (LS.ex_var rfl) (by first | omega | exact ix.1 | exact iy.1 | exact ix.2 | (rw [hz.row (by omega)]; exact iy.2)))) ha hb fun v hv σ H s => ⟨_, _, ⟨_, _, rfl, rfl, hg.set0 e1 e2 (fun z => ?_) ?_⟩, s⟩
      · subst hv
        rw [Mi.shift_inj ix iy z]
        exact hz.dgx iy
      · subst hv
        exact hz.at ix iy
    · obtain ⟨g, y1, rfl, rfl, hg⟩ := hI2
      exact ⟨_, _, ⟨g, _, _, rfl, rfl, hg⟩, s⟩
  · obtain ⟨g0, x0, y0, rfl, rfl, hg0⟩ := hI
    exact LS.b_retG fun v H' e r => k g0 hg0 v H' e r
theorem sc_law_grid : FnScope ["_law_draws_here", "_law_sizes", "_law_size", "_law_style", "_law_maker", "_law_thick", "_law_grid_here"] ["_law_draws_here"] (defScope Hd.s_law_grid) := ⟨rfl, rfl, rfl, by decide +kernel, rfl, by decide +kernel, by decide +kernel⟩
theorem ok_law_grid {P : Program} {w : World} {K : PySem.W.Frag} {mg : Str → Option Value} {base : Heap} {f : Addr} {fd : FuncData} {dvs : List V} (T : LS.Bt mg) (c_law_take : LS.Cf P w K mg base 1 "_law_take" ["_law_draws_here", "_law_many"] [] (LS.takeP K)) (c_law_hung_grid : LS.Cf P w K mg base 3 "_law_hung_grid" ["_law_draws_here", "_law_size", "_law_style"] [] (LS.spR K (fun s : Int × Int => [LS.Sl.is s.1, LS.Sl.is s.2]) (fun s => 2 ≤ s.1 ∧ s.1 ≤ 5) (fun s (g : List (List Int)) => Mi.Gz 1000004 s.1.toNat g))) (c_law_lots_grid : LS.Cf P w K mg base 3 "_law_lots_grid" ["_law_draws_here", "_law_size", "_law_style"] [] (LS.spR K (fun s : Int × Int => [LS.Sl.is s.1, LS.Sl.is s.2]) (fun s => 2 ≤ s.1 ∧ s.1 ≤ 5) (fun s (g : List (List Int)) => Mi.Gz 1000004 s.1.toNat g))) (c_law_cross_grid : LS.Cf P w K mg base 3 "_law_cross_grid" ["_law_draws_here", "_law_size", "_law_style"] [] (LS.spR K (fun s : Int × Int => [LS.Sl.is s.1, LS.Sl.is s.2]) (fun s => 4 ≤ s.1 ∧ s.1 ≤ 5) (fun s (g : List (List Int)) => Mi.Gz 1000004 s.1.toNat g))) (c_law_ring_grid : LS.Cf P w K mg base 3 "_law_ring_grid" ["_law_draws_here", "_law_size", "_law_style", "_law_thick"] [] (LS.spR K (fun s : Int × Int × Int => [LS.Sl.is s.1, LS.Sl.is s.2.1, LS.Sl.is s.2.2]) (fun s => 2 ≤ s.1 ∧ s.1 ≤ 5) (fun s (g : List (List Int)) => Mi.Gz 1000004 s.1.toNat g))) (c_law_moved : LS.Cf P w K mg base 2 "_law_moved" ["_law_grid_here", "_law_shift"] [] (LS.spQ K (fun s : List (List Int) × Int => [LS.Sl.is s.1, LS.Sl.is s.2]) (fun s => Mi.Gz 1000004 s.1.length s.1 ∧ 2 ≤ s.1.length ∧ s.1.length ≤ 5) (fun s (g : List (List Int)) => Mi.Gz 1000004 s.1.length g)))
    (F : FunD K "_law_grid" "_law_grid" (defArgs Hd.s_law_grid) (defBody Hd.s_law_grid) (defScope Hd.s_law_grid) dvs [] f fd) : FnOk P w K mg base CX0 4 f fd ["_law_draws_here"] (LS.spR K (fun _ : Unit => []) (fun _ => True) (fun _ (g : List (List Int)) => Mi.Gz 1000004 g.length g ∧ 2 ≤ g.length ∧ g.length ≤ 5)) := by
  have nd := sc_law_grid.nd
  refine F.ok sc_law_grid (LS.spR_len fun _ => rfl) (fun cdv A outer s H vs Q E hr h => ⟨_, PSs.nox (pss_cons (ps_set (i := 1) nd rfl (.inl rfl) (pe_lst (pa_cons pe_int (pa_cons pe_int (pa_cons pe_int (pa_cons pe_int (pa_cons pe_int (pa_cons pe_int (pa_cons pe_int (pa_cons pe_int pa_nil))))))))))
    (pss_cons (ps_set (i := 2) nd rfl (.inl rfl) (pe_ix (LS.k_ixL (K := K) rfl) (pv 1) (LS.pe_cf c_law_take (hr.mono (by decide)) (by rfl) (pa_cons (pv 0) (pa_cons pe_int pa_nil))) (fun _ _ => rfl)))
    (pss_cons (ps_set (i := 3) nd rfl (.inl rfl) (LS.pe_cf c_law_take (hr.mono (by decide)) (by rfl) (pa_cons (pv 0) (pa_cons pe_int pa_nil))))
    (pss_cons (ps_set (i := 4) nd rfl (.inl rfl) (LS.pe_cf c_law_take (hr.mono (by decide)) (by rfl) (pa_cons (pv 0) (pa_cons pe_int pa_nil))))
    (pss_cons (ps_set (i := 5) nd rfl (.inl rfl) (pe_lst (pa_cons pe_int (pa_cons pe_int (pa_cons pe_int (pa_cons pe_int (pa_cons pe_int pa_nil)))))))
    (pss_cons (ps_if (pt_cmpR op_eq (pv 4) pe_int (nomark _)) (pss_one (ps_set (i := 6) nd rfl (.inl rfl) (LS.pe_cf c_law_hung_grid (hr.mono (by decide)) (by rfl) (pa_cons (pv 0) (pa_cons (pv 2) (pa_cons (pv 3) pa_nil)))))) (pss_one (ps_if (pt_cmpR op_eq (pv 4) pe_int (nomark _)) (pss_one (ps_set (i := 6) nd rfl (.inl rfl) (LS.pe_cf c_law_lots_grid (hr.mono (by decide)) (by rfl) (pa_cons (pv 0) (pa_cons (pv 2) (pa_cons (pv 3) pa_nil)))))) (pss_one (ps_if (pt_cmpR op_eq (pv 4) pe_int (nomark _)) (pss_one (ps_set (i := 6) nd rfl (.inl rfl) (LS.pe_cf c_law_cross_grid (hr.mono (by decide)) (by rfl) (pa_cons (pv 0) (pa_cons (pe_op op_add pe_int (LS.pe_cf c_law_take (hr.mono (by decide)) (by rfl) (pa_cons (pv 0) (pa_cons pe_int pa_nil)))) (pa_cons (pv 3) pa_nil)))))) (pss_one (ps_set (i := 6) nd rfl (.inl rfl) (LS.pe_cf c_law_ring_grid (hr.mono (by decide)) (by rfl) (pa_cons (pv 0) (pa_cons (pv 2) (pa_cons (pv 3) (pa_cons (pe_ix (LS.k_ixL (K := K) rfl) (pv 5) (pv 4) (fun _ _ => rfl)) pa_nil))))))))))))
    (pss_one (ps_ret (LS.pe_cf c_law_moved (hr.mono (by decide)) (by rfl) (pa_cons (pv 6) (pa_cons (LS.pe_cf c_law_take (hr.mono (by decide)) (by rfl) (pa_cons (pv 0) (pa_cons (pe_callB (LS.k_len (K := K) rfl) (by rfl) T.len (by decide +kernel) (pa_cons (pv 6) pa_nil)) pa_nil))) pa_nil))))))))))), ?_⟩)

  refine LS.bodyR (spf := fun s => [.no, .no, .no, .no, .no, .no, .no]) h (fun _ => rfl) fun F d s hp k => ?_
  refine LS.b_asg ((LS.exd_of (LS.ex_lst (α := Int) (LS.el_cons LS.ex_ci (LS.el_cons LS.ex_ci (LS.el_cons LS.ex_ci (LS.el_cons LS.ex_ci (LS.el_cons LS.ex_ci (LS.el_cons LS.ex_ci (LS.el_cons LS.ex_ci (LS.el_cons LS.ex_ci LS.el_nil)))))))) (by simp)))) (LS.apn (by decide)) fun szs hszs => ?_
  have hm : ∀ x ∈ szs, 2 ≤ x ∧ x ≤ 5 := by rw [hszs]; decide
  have hl : szs.length = 8 := by rw [hszs]; rfl
  clear hszs
  refine LS.b_asg (LS.exd_ixL (LS.ex_var rfl) (LS.exd_take LS.ex_ci) (fun i hi => by have := hi.2 (by decide); have := hi.1; omega)) (LS.apn (by decide)) fun n hn => ?_
  have hn2 := hm n hn
  refine LS.b_asg (LS.exd_take LS.ex_ci) (LS.apn (by decide)) fun st hst => ?_
  refine LS.b_asg (LS.exd_take LS.ex_ci) (LS.apn (by decide)) fun mk hmk => ?_
  have mk0 := hmk.1
  have mk8 := hmk.2 (by decide)
  refine LS.b_asg ((LS.exd_of (LS.ex_lst (α := Int) (LS.el_cons LS.ex_ci (LS.el_cons LS.ex_ci (LS.el_cons LS.ex_ci (LS.el_cons LS.ex_ci (LS.el_cons LS.ex_ci LS.el_nil))))) (by simp)))) (LS.apn (by decide)) fun th hth => ?_
  have htl : th.length = 5 := by rw [hth]; rfl
  clear hth
  have len : ∀ (m : Int) (g : List (List Int)), 2 ≤ m → m ≤ 5 → Mi.Gz 1000004 m.toNat g → Mi.Gz 1000004 g.length g ∧ 2 ≤ g.length ∧ g.length ≤ 5 := fun m g h2 h5 hg => by
    have := hg.len
    rw [this]
    exact ⟨hg, by omega, by omega⟩
  refine LS.b_join (fun sp2 og2 => ∃ g, sp2 = [.no, .is szs, .is n, .is st, .is mk, .is th, .is g] ∧ og2 = .no ∧ (Mi.Gz 1000004 g.length g ∧ 2 ≤ g.length ∧ g.length ≤ 5)) (fun sp2 og2 hR => ?_) (fun fin => ?_)
  · obtain ⟨g, rfl, rfl, hg⟩ := hR
    refine LS.b_ret (P := fun r => Mi.Gz 1000004 r.length r ∧ 2 ≤ r.length ∧ r.length ≤ 5) (LS.exd_callQ (LS.ead_cons (LS.exd_of (LS.ex_var rfl)) (LS.ead_cons (LS.exd_take (LS.ex_lenL (LS.ex_var rfl))) LS.ead_nil)) fun as has => ?_) (r := fun _ => True) fun a ha => k a ha
    obtain ⟨a, r, rfl, ⟨b, r2, hb, rfl, rfl⟩, rfl⟩ := has
    exact ⟨(a, b), rfl, hg, fun r hr => by
      have := hr.len
      dsimp only at this hr
      rw [this]
      exact ⟨hr, hg.2⟩⟩
  refine LS.b_if (LS.etd_of (LS.et_test (LS.ex_eq (LS.ex_var rfl) LS.ex_ci))) (fun _ => ?_) (fun q5 => ?_)
  · exact LS.b_asgL (LS.exd_callA (i := (n, st)) (LS.ea_cons (LS.ex_var rfl) (LS.ea_cons (LS.ex_var rfl) LS.ea_nil)) hn2) (LS.apn (by decide)) fun g hg σ H s => fin _ _ ⟨g, rfl, rfl, len n g hn2.1 hn2.2 hg⟩ σ H s
  refine LS.b_if (LS.etd_of (LS.et_test (LS.ex_eq (LS.ex_var rfl) LS.ex_ci))) (fun _ => ?_) (fun q6 => ?_)
  · exact LS.b_asgL (LS.exd_callA (i := (n, st)) (LS.ea_cons (LS.ex_var rfl) (LS.ea_cons (LS.ex_var rfl) LS.ea_nil)) hn2) (LS.apn (by decide)) fun g hg σ H s => fin _ _ ⟨g, rfl, rfl, len n g hn2.1 hn2.2 hg⟩ σ H s
  refine LS.b_if (LS.etd_of (LS.et_test (LS.ex_eq (LS.ex_var rfl) LS.ex_ci))) (fun _ => ?_) (fun q7 => ?_)
  · refine LS.b_asgL (P := fun r : List (List Int) => Mi.Gz 1000004 r.length r ∧ 2 ≤ r.length ∧ r.length ≤ 5) (LS.exd_call (LS.ead_cons (LS.exd_add (LS.exd_of LS.ex_ci) (LS.exd_take LS.ex_ci)) (LS.ead_cons (LS.exd_of (LS.ex_var rfl)) LS.ead_nil)) fun as has => ?_) (LS.apn (by decide)) fun g hg σ H s => fin _ _ ⟨g, rfl, rfl, hg⟩ σ H s
    obtain ⟨a, r, ⟨x, y, rfl, ⟨hy, hy2⟩, rfl⟩, ⟨b, r2, hb, rfl, rfl⟩, rfl⟩ := has
    have := hy2 (by decide)
    exact ⟨(4 + y, b), rfl, ⟨by dsimp only; omega, by dsimp only; omega⟩, fun r hr => len (4 + y) r (by omega) (by omega) hr⟩
  · have e5 := of_decide_eq_false q5.symm
    have e6 := of_decide_eq_false q6.symm
    have e7 := of_decide_eq_false q7.symm
    exact LS.b_asgL (LS.exd_callA (i := (n, st, th.getD mk.toNat default)) (LS.ea_cons (LS.ex_var rfl) (LS.ea_cons (LS.ex_var rfl) (LS.ea_cons (LS.ex_ixLd (α := Int) (LS.ex_var rfl) (LS.ex_var rfl) mk0 (by omega)) LS.ea_nil))) hn2) (LS.apn (by decide)) fun g hg σ H s => fin _ _ ⟨g, rfl, rfl, len n g hn2.1 hn2.2 hg⟩ σ H s
theorem sc_law_loose : FnScope ["_law_draws_here", "_law_size", "_law_other", "_law_x", "_law_y"] ["_law_draws_here", "_law_size"] (defScope Hd.s_law_loose) := ⟨rfl, rfl, rfl, by decide +kernel, rfl, by decide +kernel, by decide +kernel⟩
theorem ok_law_loose {P : Program} {w : World} {K : PySem.W.Frag} {mg : Str → Option Value} {base : Heap} {f : Addr} {fd : FuncData} {dvs : List V} (T : LS.Bt mg) (c_law_empty : LS.Cf P w K mg base 1 "_law_empty" ["_law_size"] [] (LS.spG K (fun n : Int => [LS.Sl.is n]) (fun n => 0 ≤ n ∧ n ≤ 8) Mi.zeros)) (c_law_take : LS.Cf P w K mg base 1 "_law_take" ["_law_draws_here", "_law_many"] [] (LS.takeP K))
    (F : FunD K "_law_loose" "_law_loose" (defArgs Hd.s_law_loose) (defBody Hd.s_law_loose) (defScope Hd.s_law_loose) dvs [] f fd) : FnOk P w K mg base CX0 2 f fd ["_law_draws_here", "_law_size"] (LS.spR K (fun s : Int => [LS.Sl.is s]) (fun s => 2 ≤ s ∧ s ≤ 5) (fun s (g : List (List Int)) => Mi.Gz 1000004 s.toNat g)) := by
  have nd := sc_law_loose.nd
  refine F.ok sc_law_loose (LS.spR_len fun _ => rfl) (fun cdv A outer s H vs Q E hr h => ⟨_, PSs.nox (pss_cons (ps_set (i := 2) nd rfl (.inl rfl) (LS.pe_cf c_law_empty (hr.mono (by decide)) (by rfl) (pa_cons (pv 1) pa_nil)))
    (pss_cons (ps_for PassesOwn.never rfl (pi_range1 (by rfl) T.range (pa_cons (pv 1) pa_nil)) (pg_name (i := 3) nd rfl (.inl rfl))
    (pss_one (ps_for PassesOwn.never rfl (pi_range1 (by rfl) T.range (pa_cons (pv 1) pa_nil)) (pg_name (i := 4) nd rfl (.inl rfl))
    (pss_one (ps_if (pt_cmpR op_ne (pv 4) (pv 3) (nomark _)) (pss_one (ps_asg (pe_callB (call_max2 rfl) (by rfl) T.max (by decide +kernel) (pa_cons pe_int (pa_cons (pe_op op_sub (LS.pe_cf c_law_take (hr.mono (by decide)) (by rfl) (pa_cons (pv 0) (pa_cons pe_int pa_nil))) pe_int) pa_nil))) (pg_sub (pe_ix (LS.k_ixL (K := K) rfl) (pv 2) (pv 3) (fun _ _ => rfl)) (pv 4) set_list))) pss_nil)))))
    (pss_one (ps_ret (pv 2))))), ?_⟩)

  refine LS.bodyR (spf := fun s => [.no, .is s, .no, .no, .no]) h (fun _ => rfl) fun F d n hp k => ?_
  obtain ⟨n2, n5⟩ := hp
  refine LS.b_asgG (i := n) (LS.ea_cons (LS.ex_var rfl) LS.ea_nil) (by omega) (fun _ _ => by decide) (by simp) ?_
  have inv0 := Mi.gz0 (M := 1000004) (n := n) (by decide) (by omega)
  refine LS.b_for (α := Int) ((LS.ei_rng1 (LS.ex_var rfl) (by omega))) LS.tg_name (fun i hi _ _ => by simp at hi; omega) (fun _ sp og => ∃ g x y, sp = [.no, .is n, .no, x, y] ∧ og = .at_ 2 g ∧ Mi.Gz 1000004 n.toNat g) (fun i sp kk g hI hm => by obtain ⟨_, _, _, _, e, _⟩ := hI; cases e; simp at hm) ⟨_, _, _, rfl, rfl, inv0⟩ (fun B' i x sp' og' hx hI => ?_) (fun sp' og' hI => ?_)
  · obtain ⟨g0, x0, y0, rfl, rfl, hg0⟩ := hI
    have ix := LS.rng_mem (List.mem_of_getElem? hx)
    refine LS.b_forL (α := Int) ((LS.ei_rng1 (LS.ex_var rfl) (by omega))) LS.tg_name (fun i hi _ _ => by simp at hi; omega) (fun _ sp og => ∃ g y, sp = [.no, .is n, .no, .is x, y] ∧ og = .at_ 2 g ∧ Mi.Gz 1000004 n.toNat g) (fun i sp kk g hI hm => by obtain ⟨_, _, _, e, _⟩ := hI; cases e; simp at hm) ⟨_, _, rfl, rfl, hg0⟩ (fun B2 i2 y sp2 og2 hy hI2 => ?_) (fun sp2 og2 hI2 σ H s => ?_)
    · obtain ⟨g, y1, rfl, rfl, hg⟩ := hI2
      have iy := LS.rng_mem (List.mem_of_getElem? hy)
      have hgl := hg.len
      have ha : 0 ≤ x ∧ x < (g.length : Int) := by omega
      have hb : 0 ≤ y ∧ y < ((g.getD x.toNat default).length : Int) := by rw [hg.row (by omega)]; omega
      refine LS.b_if ((LS.etd_of (LS.et_test (LS.ex_ne (LS.ex_var rfl) (LS.ex_var rfl))))) (fun q => ?_) (fun _ => LS.b_next fun σ H s => ⟨_, _, ⟨_, _, rfl, rfl, hg⟩, s⟩)
      refine LS.b_set ((LS.exd_max2 (LS.exd_of LS.ex_ci) (LS.exd_sub (LS.exd_take LS.ex_ci) (LS.exd_of LS.ex_ci)))) ((LS.ex_var rfl)) ((LS.ex_var rfl)) ha hb fun v hv σ H s => ⟨_, _, ⟨_, _, rfl, rfl, hg.set (by omega) (by omega) (fun z => by simp [z] at q) ?_⟩, s⟩
      obtain ⟨a, b, rfl, ⟨c, e, ⟨hc, hc2⟩, rfl, rfl⟩, rfl⟩ := hv
      have := hc2 (by decide)
      split <;> omega
    · obtain ⟨g, y1, rfl, rfl, hg⟩ := hI2
      exact ⟨_, _, ⟨g, _, _, rfl, rfl, hg⟩, s⟩
  · obtain ⟨g0, x0, y0, rfl, rfl, hg0⟩ := hI
    exact LS.b_retG fun v H' e r => k g0 hg0 v H' e r
theorem sc_law_pair : FnScope ["_law_draws_here", "_law_size", "_law_x"] ["_law_draws_here", "_law_size"] (defScope Hd.s_law_pair) := ⟨rfl, rfl, rfl, by decide +kernel, rfl, by decide +kernel, by decide +kernel⟩
theorem ok_law_pair {P : Program} {w : World} {K : PySem.W.Frag} {mg : Str → Option Value} {base : Heap} {f : Addr} {fd : FuncData} {dvs : List V} (T : LS.Bt mg) (c_law_take : LS.Cf P w K mg base 1 "_law_take" ["_law_draws_here", "_law_many"] [] (LS.takeP K))
    (F : FunD K "_law_pair" "_law_pair" (defArgs Hd.s_law_pair) (defBody Hd.s_law_pair) (defScope Hd.s_law_pair) dvs [] f fd) : FnOk P w K mg base CX0 2 f fd ["_law_draws_here", "_law_size"] (LS.spR K (fun s : Int => [LS.Sl.is s]) (fun s => 2 ≤ s ∧ s ≤ 5) (fun s (p : Int × Int) => (0 ≤ p.1 ∧ p.1 < s) ∧ (0 ≤ p.2 ∧ p.2 < s) ∧ p.1 ≠ p.2)) := by
  have nd := sc_law_pair.nd
  refine F.ok sc_law_pair (LS.spR_len fun _ => rfl) (fun cdv A outer s H vs Q E hr h => ⟨_, PSs.nox (pss_cons (ps_set (i := 2) nd rfl (.inl rfl) (LS.pe_cf c_law_take (hr.mono (by decide)) (by rfl) (pa_cons (pv 0) (pa_cons (pv 1) pa_nil))))
    (pss_one (ps_ret (pe_tup (pa_cons (pv 2) (pa_cons (pe_op op_mod (pe_callTy call_int1 (by rfl) T.int (by decide +kernel) (pa_cons (pe_op op_add (pe_op op_add (pv 2) pe_int) (LS.pe_cf c_law_take (hr.mono (by decide)) (by rfl) (pa_cons (pv 0) (pa_cons (pe_op op_sub (pv 1) pe_int) pa_nil)))) pa_nil)) (pv 1)) pa_nil)))))), ?_⟩)

  refine LS.bodyR (spf := fun s => [.no, .is s, .no]) h (fun _ => rfl) fun F d n hp k => ?_
  obtain ⟨n2, n5⟩ := hp
  refine LS.b_asg ((LS.exd_take (LS.ex_var rfl))) (LS.apn (by decide)) fun x hx => ?_
  refine LS.b_ret ((LS.exd_pair (α := Int) (β := Int) (LS.exd_of (LS.ex_var rfl)) (LS.exd_mod (LS.exd_int (LS.exd_add (LS.exd_of (LS.ex_add (LS.ex_var rfl) LS.ex_ci)) (LS.exd_take (LS.ex_sub (LS.ex_var rfl) LS.ex_ci)))) (LS.exd_of (LS.ex_var rfl)) (by (intro y hy; omega))))) (r := fun _ => True) fun p hq => k p ?_
  obtain ⟨x0, hx2⟩ := hx
  have hx3 := hx2 (by omega)
  obtain ⟨p1, p2⟩ := p
  obtain ⟨h1, a, b, ⟨c, t, hc, ⟨ht0, ht1⟩, rfl⟩, hb, h2⟩ := hq
  dsimp only at h1 h2 ⊢
  subst h1
  subst hc
  subst hb
  have ht2 := ht1 (by omega)
  rw [h2]
  exact ⟨⟨x0, hx3⟩, ⟨Int.emod_nonneg _ (by omega), Int.emod_lt_of_pos _ (by omega)⟩, fun z => Mi.far_ne (n := b) ⟨x0, hx3⟩ ⟨ht0, ht2⟩ z.symm⟩
theorem sc_law_copy_g : FnScope ["_law_grid_here", "_law_line"] ["_law_grid_here"] (defScope Hd.s_law_copy) := ⟨rfl, rfl, rfl, by decide +kernel, rfl, by decide +kernel, by decide +kernel⟩
theorem ok_law_copy_g {P : Program} {w : World} {K : PySem.W.Frag} {mg : Str → Option Value} {base : Heap} {f : Addr} {fd : FuncData} {dvs : List V} (T : LS.Bt mg) 
    (F : FunD K "_law_copy" "_law_copy" (defArgs Hd.s_law_copy) (defBody Hd.s_law_copy) (defScope Hd.s_law_copy) dvs [] f fd) : FnOk P w K mg base CX0 1 f fd ["_law_grid_here"] (LS.spG K (fun g : List (List Int) => [LS.Sl.is g]) (fun g => g.length ≤ 40000) id) := by
  have nd := sc_law_copy_g.nd
  refine F.ok sc_law_copy_g (LS.spG_len fun _ => rfl) (fun cdv A outer s H vs Q E hr h => ⟨_, PSs.nox (pss_one (ps_ret (pe_lc (own := [("_law_line", 1)]) rfl nd (LS.k_list (K := K) rfl (pv 0)) (blkOk_by (by kernel_rfl)) (fun _ _ _ _ _ => (pg_name (i := 1) nd rfl (.inl rfl))) (fun _ _ _ _ _ => pts_nil) (fun _ _ _ _ _ => (pe_callTy (LS.k_listOf (K := K) rfl) (by rfl) T.list (by decide +kernel) (pa_cons (pv 1) pa_nil)))))), ?_⟩)

  refine LS.bodyG (spf := fun n => [.is n, .no]) h (fun _ => rfl) fun g hp F σ hs H1 e1 Q q => ?_
  refine LS.lc_gr (α := List Int) (f := fun r => r) (LS.ei_list (α := List Int) (LS.ex_var rfl)) LS.tg_name (by decide) hp (fun a0 ha0 => LS.exo_listL (α := Int) (LS.ex_var rfl)) F σ hs H1 e1 Q fun l ps H2 e2 gr hn => q l ps H2 e2 ?_ hn
  rw [List.map_id'] at gr
  exact gr
theorem sc_law_changed : FnScope ["_law_draws_here", "_law_grid_here", "_law_g", "_law_h", "_law_other"] ["_law_draws_here", "_law_grid_here", "_law_g", "_law_h"] (defScope Hd.s_law_changed) := ⟨rfl, rfl, rfl, by decide +kernel, rfl, by decide +kernel, by decide +kernel⟩
theorem ok_law_changed {P : Program} {w : World} {K : PySem.W.Frag} {mg : Str → Option Value} {base : Heap} {f : Addr} {fd : FuncData} {dvs : List V} (T : LS.Bt mg) (c_law_copy_g : LS.Cf P w K mg base 1 "_law_copy" ["_law_grid_here"] [] (LS.spG K (fun g : List (List Int) => [LS.Sl.is g]) (fun g => g.length ≤ 40000) id)) (c_law_take : LS.Cf P w K mg base 1 "_law_take" ["_law_draws_here", "_law_many"] [] (LS.takeP K))
    (F : FunD K "_law_changed" "_law_changed" (defArgs Hd.s_law_changed) (defBody Hd.s_law_changed) (defScope Hd.s_law_changed) dvs [] f fd) : FnOk P w K mg base CX0 2 f fd ["_law_draws_here", "_law_grid_here", "_law_g", "_law_h"] (LS.spR K (fun s : List (List Int) × Int × Int => [LS.Sl.is s.1, LS.Sl.is s.2.1, LS.Sl.is s.2.2]) (fun s => Mi.Gz 1000004 s.1.length s.1 ∧ 2 ≤ s.1.length ∧ s.1.length ≤ 5 ∧ Mi.In s.1 s.2.1 ∧ Mi.In s.1 s.2.2 ∧ s.2.1 ≠ s.2.2) (fun s (g : List (List Int)) => Mi.Cg s.1 g s.2.1 s.2.2)) := by
  have nd := sc_law_changed.nd
  refine F.ok sc_law_changed (LS.spR_len fun _ => rfl) (fun cdv A outer s H vs Q E hr h => ⟨_, PSs.nox (pss_cons (ps_set (i := 4) nd rfl (.inl rfl) (LS.pe_cf c_law_copy_g (hr.mono (by decide)) (by rfl) (pa_cons (pv 1) pa_nil)))
    (pss_cons (ps_if (pt_cmpR op_eq (LS.pe_cf c_law_take (hr.mono (by decide)) (by rfl) (pa_cons (pv 0) (pa_cons pe_int pa_nil))) pe_int (nomark _)) (pss_one (ps_asg pe_int (pg_sub (pe_ix (LS.k_ixL (K := K) rfl) (pv 4) (pv 2) (fun _ _ => rfl)) (pv 3) set_list))) (pss_one (ps_asg (pe_op op_add (pe_op op_add (pe_ix (LS.k_ixL (K := K) rfl) (pe_ix (LS.k_ixL (K := K) rfl) (pv 1) (pv 2) (fun _ _ => rfl)) (pv 3) (fun _ _ => rfl)) pe_int) (LS.pe_cf c_law_take (hr.mono (by decide)) (by rfl) (pa_cons (pv 0) (pa_cons pe_int pa_nil)))) (pg_sub (pe_ix (LS.k_ixL (K := K) rfl) (pv 4) (pv 2) (fun _ _ => rfl)) (pv 3) set_list))))
    (pss_one (ps_ret (pv 4))))), ?_⟩)

  refine LS.bodyR (spf := fun s => [.no, .is s.1, .is s.2.1, .is s.2.2, .no]) h (fun _ => rfl) fun F d s hp k => ?_
  obtain ⟨g1, G, i⟩ := s
  obtain ⟨hz, n2, n5, iG, ih, ne⟩ := hp
  dsimp only at hz n2 n5 iG ih ne k ⊢
  have ok := hz.ok (by decide) n2 (by omega)
  refine LS.b_asgG (i := g1) (LS.ea_cons (LS.ex_var rfl) LS.ea_nil) (by show g1.length ≤ 40000; omega) (fun _ _ => by decide) (by simp) ?_
  have hb : 0 ≤ i ∧ i < ((g1.getD G.toNat default).length : Int) := by rw [hz.row iG]; exact ih
  refine LS.b_join (fun sp2 og2 => ∃ g, og2 = .at_ 4 g ∧ Mi.Cg g1 g G i) (fun sp2 og2 hR => ?_) (fun fin => ?_)
  · obtain ⟨g, rfl, hg⟩ := hR
    exact LS.b_retG fun v H' e r => k g hg v H' e r
  refine LS.b_if ((LS.etd_test (LS.exd_eq (LS.exd_take LS.ex_ci) (LS.exd_of LS.ex_ci)))) (fun _ => ?_) (fun _ => ?_)
  · exact LS.b_set ((LS.exd_of LS.ex_ci)) ((LS.ex_var rfl)) ((LS.ex_var rfl)) iG hb fun v hv σ H s => fin _ _ ⟨_, rfl, Mi.cg_set ok n5 iG ih ne (by subst hv; decide)⟩ σ H s
  · refine LS.b_set ((LS.exd_add (LS.exd_of (LS.ex_add (LS.ex_ixLd (α := Int) (LS.ex_ixLd (α := (List Int)) (LS.ex_var rfl) (LS.ex_var rfl) (by first | exact iG.1 | exact iG.2 | exact ih.1 | (rw [hz.row iG]; exact ih.2)) (by first | exact iG.1 | exact iG.2 | exact ih.1 | (rw [hz.row iG]; exact ih.2))) (LS.ex_var rfl) (by first | exact iG.1 | exact iG.2 | exact ih.1 | (rw [hz.row iG]; exact ih.2)) (by first | exact iG.1 | exact iG.2 | exact ih.1 | (rw [hz.row iG]; exact ih.2))) LS.ex_ci)) (LS.exd_take LS.ex_ci))) ((LS.ex_var rfl)) ((LS.ex_var rfl)) iG hb fun v hv σ H s => fin _ _ ⟨_, rfl, Mi.cg_set ok n5 iG ih ne ?_⟩ σ H s
    obtain ⟨a, t, rfl, ⟨ht, ht2⟩, rfl⟩ := hv
    have := ht2 (by decide)
    have := hz.at iG ih
    omega
theorem sc_law_copy : FnScope ["_law_grid_here", "_law_line"] ["_law_grid_here"] (defScope Hd.s_law_copy) := ⟨rfl, rfl, rfl, by decide +kernel, rfl, by decide +kernel, by decide +kernel⟩
theorem ok_law_copy {P : Program} {w : World} {K : PySem.W.Frag} {mg : Str → Option Value} {base : Heap} {f : Addr} {fd : FuncData} {dvs : List V} (T : LS.Bt mg) 
    (F : FunD K "_law_copy" "_law_copy" (defArgs Hd.s_law_copy) (defBody Hd.s_law_copy) (defScope Hd.s_law_copy) dvs [] f fd) : FnOk P w K mg base CX0 1 f fd ["_law_grid_here"] (LS.sp1 K (fun g : List (List Int) => g.length ≤ 40000) id) := by
  have nd := sc_law_copy.nd
  refine F.ok sc_law_copy LS.sp_len1 (fun cdv A outer s H vs Q E hr h => ⟨_, PSs.nox (pss_one (ps_ret (pe_lc (own := [("_law_line", 1)]) rfl nd (LS.k_list (K := K) rfl (pv 0)) (blkOk_by (by kernel_rfl)) (fun _ _ _ _ _ => (pg_name (i := 1) nd rfl (.inl rfl))) (fun _ _ _ _ _ => pts_nil) (fun _ _ _ _ _ => (pe_callTy (LS.k_listOf (K := K) rfl) (by rfl) T.list (by decide +kernel) (pa_cons (pv 1) pa_nil)))))), ?_⟩)

  refine LS.body1 (spf := fun a => [.is a, .no]) h (fun _ => rfl) fun F g hp k => ?_
  exact LS.go_retE ((LS.ex_lc (α := (List Int)) (γ := (List Int)) (LS.ei_list (α := (List Int)) (LS.ex_var rfl)) LS.tg_name (by decide) (by exact hp) (fun a0 ha0 => (LS.ex_listL (α := Int) (LS.ex_var rfl))))) (List.map_id' _) k
theorem sc_is_list : FnScope ["thing"] ["thing"] (defScope Hd.s_is_list) := ⟨rfl, rfl, rfl, by decide +kernel, rfl, by decide +kernel, by decide +kernel⟩
theorem ok_is_list {P : Program} {w : World} {K : PySem.W.Frag} {mg : Str → Option Value} {base : Heap} {f : Addr} {fd : FuncData} {dvs : List V} (T : LS.Bt mg) {α : Type} [LS.Rep α] 
    (F : FunD K "is_list" "is_list" (defArgs Hd.s_is_list) (defBody Hd.s_is_list) (defScope Hd.s_is_list) dvs [] f fd) : FnOk P w K mg base CX0 1 f fd ["thing"] (LS.sp1 K (fun _ : List α => True) (fun _ => true)) := by
  have nd := sc_is_list.nd
  refine F.ok sc_is_list LS.sp_len1 (fun cdv A outer s H vs Q E hr h => ⟨_, PSs.nox (pss_one (ps_ret (pe_callB (LS.k_isiT (K := K) rfl) (by rfl) T.isinstance (by decide +kernel) (pa_cons (pv 0) (pa_cons (pe_tup (pa_cons (pe_bltn (v := .ty "list") (u := .type "list") (by rfl) T.list (by decide +kernel) rfl) (pa_cons (pe_bltn (v := .ty "tuple") (u := .type "tuple") (by rfl) T.tuple (by decide +kernel) rfl) pa_nil))) pa_nil))))), ?_⟩)

  refine LS.body1 (spf := fun a => [.is a]) h (fun _ => rfl) fun F a _ k => ?_
  apply LS.go_retE (k := k)
  case h =>
    apply LS.isi2 (α := List α) (ty := "list") (b := true) (c := false)
    case h => walk_at "ls st"
    case hty => exact fun _ _ => LS.ty_l
    case h1 => decide +kernel
    case h2 => decide +kernel
  case e => rfl
theorem sc_is_int : FnScope ["thing"] ["thing"] (defScope Hd.s_is_int) := ⟨rfl, rfl, rfl, by decide +kernel, rfl, by decide +kernel, by decide +kernel⟩
theorem ok_is_int {P : Program} {w : World} {K : PySem.W.Frag} {mg : Str → Option Value} {base : Heap} {f : Addr} {fd : FuncData} {dvs : List V} (T : LS.Bt mg) 
    (F : FunD K "is_int" "is_int" (defArgs Hd.s_is_int) (defBody Hd.s_is_int) (defScope Hd.s_is_int) dvs [] f fd) : FnOk P w K mg base CX0 1 f fd ["thing"] (LS.sp1 K (fun _ : Int => True) (fun _ => true)) := by
  have nd := sc_is_int.nd
  refine F.ok sc_is_int LS.sp_len1 (fun cdv A outer s H vs Q E hr h => ⟨_, PSs.nox (pss_one (ps_ret (pe_and (pe_callB (LS.k_isi (K := K) rfl) (by rfl) T.isinstance (by decide +kernel) (pa_cons (pv 0) (pa_cons (pe_bltn (v := .ty "int") (u := .type "int") (by rfl) T.int (by decide +kernel) rfl) pa_nil))) (pe_one (pe_not (pe_callB (LS.k_isi (K := K) rfl) (by rfl) T.isinstance (by decide +kernel) (pa_cons (pv 0) (pa_cons (pe_bltn (v := .ty "bool") (u := .type "bool") (by rfl) T.bool (by decide +kernel) rfl) pa_nil)))))))), ?_⟩)

  refine LS.body1 (spf := fun a => [.is a]) h (fun _ => rfl) fun F a _ k => ?_
  apply LS.go_retE (k := k)
  case h =>
    apply LS.ex_andV
    case h1 =>
      apply LS.isi_int (b := true)
      case h => walk_at "ls st"
      case hk => decide +kernel
    case h2 =>
      intro _
      apply LS.ex_notV
      apply LS.isi_int (b := false)
      case h => walk_at "ls st"
      case hk => decide +kernel
  case e => rfl
theorem sc_is_size : FnScope ["thing"] ["thing"] (defScope Hd.s_is_size) := ⟨rfl, rfl, rfl, by decide +kernel, rfl, by decide +kernel, by decide +kernel⟩
theorem ok_is_size {P : Program} {w : World} {K : PySem.W.Frag} {mg : Str → Option Value} {base : Heap} {f : Addr} {fd : FuncData} {dvs : List V} (T : LS.Bt mg) (c_is_int : LS.Cf P w K mg base 1 "is_int" ["thing"] [] (LS.sp1 K (fun _ : Int => True) (fun _ => true)))
    (F : FunD K "is_size" "is_size" (defArgs Hd.s_is_size) (defBody Hd.s_is_size) (defScope Hd.s_is_size) dvs [] f fd) : FnOk P w K mg base CX0 2 f fd ["thing"] (LS.sp1 K (fun _ : Int => True) (fun a => decide (2 ≤ a) && decide (a ≤ 8))) := by
  have nd := sc_is_size.nd
  refine F.ok sc_is_size LS.sp_len1 (fun cdv A outer s H vs Q E hr h => ⟨_, PSs.nox (pss_one (ps_ret (pe_and (LS.pe_cf c_is_int (hr.mono (by decide)) (by rfl) (pa_cons (pv 0) pa_nil)) (pe_one (pe_chain op_le op_le (pe_glob (v := .int 2) (by rfl) T.c_LEAST_SIZE.choose_spec ⟨_, rfl⟩) (pv 0) (pe_glob (v := .int 8) (by rfl) T.c_MOST_SIZE.choose_spec ⟨_, rfl⟩)))))), ?_⟩)

  refine LS.body1 (spf := fun a => [.is a]) h (fun _ => rfl) fun F a _ k => ?_
  refine LS.go_retE ((LS.ex_andV (LS.ex_call1 (LS.ex_var rfl) (by walk_at "ls side")) (fun hq => (LS.ex_chain LS.ex_ci (LS.ex_var rfl) LS.ex_ci)))) ?_ k
  rfl
theorem sc_checked_row : FnScope ["size", "x", "row", "y", "rate"] ["size", "x", "row"] (defScope Hd.s_checked_row) := ⟨rfl, rfl, rfl, by decide +kernel, rfl, by decide +kernel, by decide +kernel⟩
theorem ok_checked_row {P : Program} {w : World} {K : PySem.W.Frag} {mg : Str → Option Value} {base : Heap} {f : Addr} {fd : FuncData} {dvs : List V} (T : LS.Bt mg) (c_is_list : ∀ (α : Type) [LS.Rep α], LS.Cf P w K mg base 1 "is_list" ["thing"] [] (LS.sp1 K (fun _ : List α => True) (fun _ => true))) (c_is_int : LS.Cf P w K mg base 1 "is_int" ["thing"] [] (LS.sp1 K (fun _ : Int => True) (fun _ => true)))
    (F : FunD K "checked_row" "checked_row" (defArgs Hd.s_checked_row) (defBody Hd.s_checked_row) (defScope Hd.s_checked_row) dvs [] f fd) : FnOk P w K mg base CX0 2 f fd ["size", "x", "row"] (LS.sp3 K (fun (n x : Int) (row : List Int) => (row.length : Int) = n ∧ ∀ a ∈ LS.enumI row, 0 ≤ a.2 ∧ (x = a.1 → a.2 = 0)) (fun _ _ row => LS.Tp.mk row)) := by
  have nd := sc_checked_row.nd
  refine F.ok sc_checked_row LS.sp_len3 (fun cdv A outer s H vs Q E hr h => ⟨_, PSs.nox (pss_cons (ps_if (PW.pt (pw_or (pt_not (pt_val (LS.pe_cf (c_is_list Int) (hr.mono (by decide)) (by rfl) (pa_cons (pv 2) pa_nil)))) (pw_or1 (pt_cmpR op_ne (pe_callB (LS.k_len (K := K) rfl) (by rfl) T.len (by decide +kernel) (pa_cons (pv 2) pa_nil)) (pv 0) (nomark _))))) pss_never pss_nil)
    (pss_cons (ps_for PassesOwn.never rfl (LS.k_enum (K := K) rfl (by rfl) T.enumerate (pa_cons (pv 2) pa_nil)) (LS.k_pgt (K := K) (n := 2) rfl rfl (pgs_cons (pg_name (i := 3) nd rfl (.inl rfl)) (pgs_cons (pg_name (i := 4) nd rfl (.inl rfl)) pgs_nil)))
    (pss_one (ps_if (PW.pt (pw_or (pt_not (pt_val (LS.pe_cf c_is_int (hr.mono (by decide)) (by rfl) (pa_cons (pv 4) pa_nil)))) (pw_or (pt_cmpR op_lt (pv 4) pe_int (nomark _)) (pw_or1 (PW.pt (pw_and (pt_cmpR op_eq (pv 1) (pv 3) (nomark _)) (pw_and1 (pt_cmpR op_gt (pv 4) pe_int (nomark _))))))))) pss_never pss_nil)))
    (pss_one (ps_ret (pe_callTy (LS.k_tupOf (K := K) rfl) (by rfl) T.tuple (by decide +kernel) (pa_cons (pv 2) pa_nil)))))), ?_⟩)

  refine LS.body3 (spf := fun a b c => [.is a, .is b, .is c, .no, .no]) h (fun _ _ _ => rfl) fun F n x row hp k => ?_
  refine LS.go_seq ?_
  refine LS.go_if ((LS.et_or (LS.et_not (LS.et_b (LS.ex_call1 (LS.ex_var rfl) (by walk_at "ls side")))) (fun hq => (LS.et_test (LS.ex_ne (LS.ex_lenL (LS.ex_var rfl)) (LS.ex_var rfl)))))) (fun q => ?_) (fun q => LS.go_next (LS.nx_go ?_))
  · exfalso
    simp [hp.1] at q
  refine LS.go_seq ?_
  refine LS.go_for (α := Int × Int) ((LS.ei_enum (α := Int) (LS.ex_var rfl))) LS.tg_pair LS.ts_2 (fun _ => [.is n, .is x, .is row, .no, .no]) rfl (fun B' i a ha _ => ?_) ?_
  · refine LS.go_if ((LS.et_or (LS.et_not (LS.et_b (LS.ex_call1 (LS.ex_var rfl) (by walk_at "ls side")))) (fun hq => (LS.et_or (LS.et_test (LS.ex_lt (LS.ex_var rfl) LS.ex_ci)) (fun hq => (LS.et_and (LS.et_test (LS.ex_eq (LS.ex_var rfl) (LS.ex_var rfl))) (fun hq => (LS.et_test (LS.ex_gt (LS.ex_var rfl) LS.ex_ci))))))))) (fun q => ?_) (fun q => LS.go_next (LS.nx_st (by walk_at "ls wk")))
    exfalso
    have hb := hp.2 _ (List.mem_of_getElem? ha)
    simp only [Bool.or_eq_true, Bool.and_eq_true, decide_eq_true_eq, Bool.not_true, Bool.false_eq_true, false_or] at q
    rcases q with q | q
    · omega
    · have := hb.2 q.1
      omega
  refine LS.nx_go ?_
  refine LS.go_retE ((LS.ex_tupL (α := Int) (LS.ex_var rfl))) ?_ k
  rfl
theorem sc_checked_rows : FnScope ["rows", "x", "row"] ["rows"] (defScope Hd.s_checked_rows) := ⟨rfl, rfl, rfl, by decide +kernel, rfl, by decide +kernel, by decide +kernel⟩
theorem ok_checked_rows {P : Program} {w : World} {K : PySem.W.Frag} {mg : Str → Option Value} {base : Heap} {f : Addr} {fd : FuncData} {dvs : List V} (T : LS.Bt mg) (c_is_list : ∀ (α : Type) [LS.Rep α], LS.Cf P w K mg base 1 "is_list" ["thing"] [] (LS.sp1 K (fun _ : List α => True) (fun _ => true))) (c_is_size : LS.Cf P w K mg base 2 "is_size" ["thing"] [] (LS.sp1 K (fun _ : Int => True) (fun a => decide (2 ≤ a) && decide (a ≤ 8)))) (c_checked_row : LS.Cf P w K mg base 2 "checked_row" ["size", "x", "row"] [] (LS.sp3 K (fun (n x : Int) (row : List Int) => (row.length : Int) = n ∧ ∀ a ∈ LS.enumI row, 0 ≤ a.2 ∧ (x = a.1 → a.2 = 0)) (fun _ _ row => LS.Tp.mk row)))
    (F : FunD K "checked_rows" "checked_rows" (defArgs Hd.s_checked_rows) (defBody Hd.s_checked_rows) (defScope Hd.s_checked_rows) dvs [] f fd) : FnOk P w K mg base CX0 3 f fd ["rows"] (LS.sp1 K (fun (g : List (List Int)) => Mi.Ok g) LS.tOf) := by
  have nd := sc_checked_rows.nd
  refine F.ok sc_checked_rows LS.sp_len1 (fun cdv A outer s H vs Q E hr h => ⟨_, PSs.nox (pss_cons (ps_if (PW.pt (pw_or (pt_not (pt_val (LS.pe_cf (c_is_list (List Int)) (hr.mono (by decide)) (by rfl) (pa_cons (pv 0) pa_nil)))) (pw_or1 (pt_not (pt_val (LS.pe_cf c_is_size (hr.mono (by decide)) (by rfl) (pa_cons (pe_callB (LS.k_len (K := K) rfl) (by rfl) T.len (by decide +kernel) (pa_cons (pv 0) pa_nil)) pa_nil))))))) pss_never pss_nil)
    (pss_one (ps_ret (pe_callTy (LS.k_tupOf (K := K) rfl) (by rfl) T.tuple (by decide +kernel) (pa_cons (pe_lc (own := [("x", 1), ("row", 2)]) rfl nd (LS.k_enum (K := K) rfl (by rfl) T.enumerate (pa_cons (pv 0) pa_nil)) (blkOk_by (by kernel_rfl)) (fun _ _ _ _ _ => (LS.k_pgt (K := K) (n := 2) rfl rfl (pgs_cons (pg_name (i := 1) nd rfl (.inl rfl)) (pgs_cons (pg_name (i := 2) nd rfl (.inl rfl)) pgs_nil)))) (fun _ _ _ _ _ => pts_nil) (fun _ _ _ _ _ => (LS.pe_cf c_checked_row (hr.mono (by decide)) (by rfl) (pa_cons (pe_callB (LS.k_len (K := K) rfl) (by rfl) T.len (by decide +kernel) (pa_cons (pv 0) pa_nil)) (pa_cons (pv 1) (pa_cons (pv 2) pa_nil)))))) pa_nil))))), ?_⟩)

  refine LS.body1 (spf := fun a => [.is a, .no, .no]) h (fun _ => rfl) fun F g hp k => ?_
  refine LS.go_seq ?_
  refine LS.go_if ((LS.et_or (LS.et_not (LS.et_b (LS.ex_call1 (LS.ex_var rfl) (by walk_at "ls side")))) (fun hq => (LS.et_not (LS.et_b (LS.ex_call1 (LS.ex_lenL (LS.ex_var rfl)) (by walk_at "ls side"))))))) (fun q => ?_) (fun q => LS.go_next (LS.nx_go ?_))
  · exfalso
    have h1 := hp.lo
    have h2 := hp.hi
    simp at q
    omega
  refine LS.go_retE ((LS.ex_tupL (α := (LS.Tp Int)) (LS.ex_lc (α := (Int × (List Int))) (γ := (LS.Tp Int)) (LS.ei_enum (α := (List Int)) (LS.ex_var rfl)) LS.tg_pair (by decide) (by (rw [LS.enumI_len]; have := hp.hi; omega)) (fun a0 ha0 => (LS.ex_call3 (LS.ex_lenL (LS.ex_var rfl)) (LS.ex_var rfl) (LS.ex_var rfl) (by exact Mi.chk_row hp ha0)))))) ?_ k
  exact congrArg LS.Tp.mk (Mi.enumI_snd LS.Tp.mk g)
theorem sc_Table_pairs_of : FnScope ["size", "x", "y"] ["size"] (defScope Hd.s_Table_pairs_of) := ⟨rfl, rfl, rfl, by decide +kernel, rfl, by decide +kernel, by decide +kernel⟩
theorem ok_Table_pairs_of {P : Program} {w : World} {K : PySem.W.Frag} {mg : Str → Option Value} {base : Heap} {f : Addr} {fd : FuncData} {dvs : List V} (T : LS.Bt mg) 
    (F : FunD K "pairs_of" "Table.pairs_of" (defArgs Hd.s_Table_pairs_of) (defBody Hd.s_Table_pairs_of) (defScope Hd.s_Table_pairs_of) dvs [] f fd) : FnOk P w K mg base CX0 1 f fd ["size"] (LS.sp1 K (fun n : Int => 0 ≤ n ∧ n ≤ 8) Mi.prs) := by
  have nd := sc_Table_pairs_of.nd
  refine F.ok sc_Table_pairs_of LS.sp_len1 (fun cdv A outer s H vs Q E hr h => ⟨_, PSs.nox (pss_one (ps_ret (pe_lc2 (own := [("x", 1), ("y", 2)]) (vs1 := [2]) rfl nd (pi_range1 (by rfl) T.range (pa_cons (pv 0) pa_nil)) (blkOk_by (by kernel_rfl)) (by decide) (fun _ _ _ _ _ => (pg_name (i := 1) nd rfl (.inl rfl))) (fun _ _ _ _ _ => pts_nil) (fun _ _ _ _ _ => (pi_range1 (by rfl) T.range (pa_cons (pv 0) pa_nil))) (fun _ _ _ _ _ => (pg_name (i := 2) nd rfl (.inl rfl))) (fun _ _ _ _ _ => pts_one (pt_cmpR op_ne (pv 1) (pv 2) (nomark _))) (fun _ _ _ _ _ => (pe_tup (pa_cons (pv 1) (pa_cons (pv 2) pa_nil))))))), ?_⟩)

  refine LS.body1 (spf := fun a => [.is a, .no, .no]) h (fun _ => rfl) fun F n hp k => ?_
  refine LS.go_retE ((LS.ex_lc2f (α := Int) (β := Int) (γ := (Int × Int)) (LS.ei_rng1 (LS.ex_var rfl) (by first | omega | exact Mi.prs_few hp)) LS.tg_name (by decide) (fun a0 ha0 => (LS.ei_rng1 (LS.ex_var rfl) (by first | omega | exact Mi.prs_few hp))) LS.tg_name (by decide) (by decide) (by first | omega | exact Mi.prs_few hp) (fun a0 ha0 b0 hb0 => (LS.et_test (LS.ex_ne (LS.ex_var rfl) (LS.ex_var rfl)))) (fun a0 ha0 b0 hb0 hp0 => (LS.ex_pair (α := Int) (β := Int) (LS.ex_var rfl) (LS.ex_var rfl))))) ?_ k
  rfl
theorem sc_Table_init : FnScope ["self", "rows", "x", "y"] ["self", "rows"] (defScope Hd.s_Table_init) := ⟨rfl, rfl, rfl, by decide +kernel, rfl, by decide +kernel, by decide +kernel⟩
theorem ok_Table_init {P : Program} {w : World} {K : PySem.W.Frag} {mg : Str → Option Value} {base : Heap} {f : Addr} {fd : FuncData} {dvs : List V} (T : LS.Bt mg) (ktb : LS.TbK K) (c_checked_rows : LS.Cf P w K mg base 3 "checked_rows" ["rows"] [] (LS.sp1 K (fun (g : List (List Int)) => Mi.Ok g) LS.tOf)) (c_Table_pairs_of : LS.Cs P w K mg base 1 "Table" "pairs_of" ["size"] (LS.sp1 K (fun n : Int => 0 ≤ n ∧ n ≤ 8) Mi.prs))
    (F : FunD K "__init__" "Table.__init__" (defArgs Hd.s_Table_init) (defBody Hd.s_Table_init) (defScope Hd.s_Table_init) dvs [] f fd) : FnOk P w K mg base CX0 4 f fd ["self", "rows"] (LS.spT K Mi.Ok) := by
  have nd := sc_Table_init.nd
  refine F.ok sc_Table_init LS.spT_len (fun cdv A outer s H vs Q E hr h => ⟨_, PSs.nox (pss_cons (ps_fld (pv 0) (LS.pe_cf c_checked_rows (hr.mono (by decide)) (by rfl) (pa_cons (pv 1) pa_nil)) (by rfl))
    (pss_cons (ps_fld (pv 0) (pe_callB (LS.k_len (K := K) rfl) (by rfl) T.len (by decide +kernel) (pa_cons (LS.k_fld (K := K) rfl (pv 0)) pa_nil)) (by rfl))
    (pss_one (ps_fld (pv 0) (pe_callTy (LS.k_tupOf (K := K) rfl) (by rfl) T.tuple (by decide +kernel) (pa_cons (pe_lc (own := [("x", 2), ("y", 3)]) rfl nd (LS.k_list (K := K) rfl (LS.pe_sm c_Table_pairs_of (hr.mono (by decide)) (by rfl) (pa_cons (LS.k_fld (K := K) rfl (pv 0)) pa_nil))) (blkOk_by (by kernel_rfl)) (fun _ _ _ _ _ => (LS.k_pgt (K := K) (n := 2) rfl rfl (pgs_cons (pg_name (i := 2) nd rfl (.inl rfl)) (pgs_cons (pg_name (i := 3) nd rfl (.inl rfl)) pgs_nil)))) (fun _ _ _ _ _ => pts_one (pt_cmpR op_gt (pe_ix (LS.k_ixT (K := K) rfl) (pe_ix (LS.k_ixT (K := K) rfl) (LS.k_fld (K := K) rfl (pv 0)) (pv 2) (fun _ _ => rfl)) (pv 3) (fun _ _ => rfl)) pe_int (nomark _))) (fun _ _ _ _ _ => (pe_tup (pa_cons (pv 2) (pa_cons (pv 3) pa_nil))))) pa_nil)) (by rfl))))), ?_⟩)

  refine LS.table_init ktb h rfl (fun g hp => (LS.ex_call1 (LS.ex_var rfl) (by exact hp))) (fun g hp => LS.ex_is ((LS.ex_lenT (LS.ex_rows1 ktb (LS.ex_var rfl)))) (congrArg Int.ofNat (Mi.tOf_len g))) (fun g hp => ?_)
  have h8 := hp.hi
  exact LS.ex_is ((LS.ex_tupL (α := (Int × Int)) (LS.ex_lcf (α := (Int × Int)) (γ := (Int × Int)) (LS.ei_list (α := (Int × Int)) (LS.ex_call1 (LS.ex_size2 ktb (LS.ex_var rfl)) (by exact (show 0 ≤ (g.length : Int) ∧ (g.length : Int) ≤ 8 by omega)))) LS.tg_pair (by decide) (by exact Mi.prs_few2 hp) (fun a0 ha0 => (LS.et_test (LS.ex_gt (LS.ex_ixTd (α := Int) (LS.ex_ixTd (α := (LS.Tp Int)) (LS.ex_rows2 ktb (LS.ex_var rfl)) (LS.ex_var rfl) (by exact (Mi.prs_in hp ha0).1) (by exact (Mi.prs_in hp ha0).2.1)) (LS.ex_var rfl) (by exact (Mi.prs_in hp ha0).2.2.1) (by exact (Mi.prs_in hp ha0).2.2.2)) LS.ex_ci))) (fun a0 ha0 hp0 => (LS.ex_pair (α := Int) (β := Int) (LS.ex_var rfl) (LS.ex_var rfl)))))) (congrArg LS.Tp.mk (Mi.arr_eq g))
theorem sc_is_state : FnScope ["size", "thing"] ["size", "thing"] (defScope Hd.s_is_state) := ⟨rfl, rfl, rfl, by decide +kernel, rfl, by decide +kernel, by decide +kernel⟩
theorem ok_is_state {P : Program} {w : World} {K : PySem.W.Frag} {mg : Str → Option Value} {base : Heap} {f : Addr} {fd : FuncData} {dvs : List V} (T : LS.Bt mg) (c_is_int : LS.Cf P w K mg base 1 "is_int" ["thing"] [] (LS.sp1 K (fun _ : Int => True) (fun _ => true)))
    (F : FunD K "is_state" "is_state" (defArgs Hd.s_is_state) (defBody Hd.s_is_state) (defScope Hd.s_is_state) dvs [] f fd) : FnOk P w K mg base CX0 2 f fd ["size", "thing"] (LS.sp2 K (fun _ _ : Int => True) (fun a b => decide (0 ≤ b) && decide (b < a))) := by
  have nd := sc_is_state.nd
  refine F.ok sc_is_state LS.sp_len2 (fun cdv A outer s H vs Q E hr h => ⟨_, PSs.nox (pss_one (ps_ret (pe_and (LS.pe_cf c_is_int (hr.mono (by decide)) (by rfl) (pa_cons (pv 1) pa_nil)) (pe_one (pe_chain op_le op_lt pe_int (pv 1) (pv 0)))))), ?_⟩)

  refine LS.body2 (spf := fun a b => [.is a, .is b]) h (fun _ _ => rfl) fun F a b _ k => ?_
  refine LS.go_retE ((LS.ex_andV (LS.ex_call1 (LS.ex_var rfl) (by walk_at "ls side")) (fun hq => (LS.ex_chain LS.ex_ci (LS.ex_var rfl) (LS.ex_var rfl))))) ?_ k
  rfl
theorem sc_check_states : FnScope ["size", "states", "unlike", "place", "state", "first", "second"] ["size", "states", "unlike"] (defScope Hd.s_check_states) := ⟨rfl, rfl, rfl, by decide +kernel, rfl, by decide +kernel, by decide +kernel⟩
theorem ok_check_states {P : Program} {w : World} {K : PySem.W.Frag} {mg : Str → Option Value} {base : Heap} {f : Addr} {fd : FuncData} {dvs : List V} (T : LS.Bt mg) (c_is_state : LS.Cf P w K mg base 2 "is_state" ["size", "thing"] [] (LS.sp2 K (fun _ _ : Int => True) (fun a b => decide (0 ≤ b) && decide (b < a))))
    (F : FunD K "check_states" "check_states" (defArgs Hd.s_check_states) (defBody Hd.s_check_states) (defScope Hd.s_check_states) dvs [] f fd) : FnOk P w K mg base CX0 3 f fd ["size", "states", "unlike"] (LS.sp3 K (fun (n : Int) (st : LS.Tp Int) (un : LS.Tp (Int × Int)) => Mi.CS n st un) (fun _ _ _ => ())) := by
  have nd := sc_check_states.nd
  refine F.ok sc_check_states LS.sp_len3 (fun cdv A outer s H vs Q E hr h => ⟨_, PSs.nox (pss_cons (ps_for PassesOwn.never rfl (LS.k_enumT (K := K) rfl (by rfl) T.enumerate (pa_cons (pv 1) pa_nil)) (LS.k_pgt (K := K) (n := 2) rfl rfl (pgs_cons (pg_name (i := 3) nd rfl (.inl rfl)) (pgs_cons (pg_name (i := 4) nd rfl (.inl rfl)) pgs_nil)))
    (pss_one (ps_if (pt_not (pt_val (LS.pe_cf c_is_state (hr.mono (by decide)) (by rfl) (pa_cons (pv 0) (pa_cons (pv 4) pa_nil))))) pss_never pss_nil)))
    (pss_one (ps_for PassesOwn.never rfl (LS.k_tup (K := K) rfl (pv 2)) (LS.k_pgt (K := K) (n := 2) rfl rfl (pgs_cons (pg_name (i := 5) nd rfl (.inl rfl)) (pgs_cons (pg_name (i := 6) nd rfl (.inl rfl)) pgs_nil)))
    (pss_one (ps_if (pt_cmpR op_eq (pe_ix (LS.k_ixT (K := K) rfl) (pv 1) (pv 5) (fun _ _ => rfl)) (pe_ix (LS.k_ixT (K := K) rfl) (pv 1) (pv 6) (fun _ _ => rfl)) (nomark _)) pss_never pss_nil))))), ?_⟩)

  refine LS.body3 (spf := fun a b c => [.is a, .is b, .is c, .no, .no, .no, .no]) h (fun _ _ _ => rfl) fun F n st un hp k => ?_
  refine LS.go_seq ?_
  refine LS.go_for (α := Int × Int) ((LS.ei_enumT (α := Int) (LS.ex_var rfl))) LS.tg_pair LS.ts_2 (fun _ => [.is n, .is st, .is un, .no, .no, .no, .no]) rfl (fun B' i a ha _ => ?_) ?_
  · refine LS.go_if ((LS.et_not (LS.et_b (LS.ex_call2 (LS.ex_var rfl) (LS.ex_var rfl) (by walk_at "ls side"))))) (fun q => ?_) (fun q => LS.go_next (LS.nx_st (by walk_at "ls wk")))
    exfalso
    have hb := Mi.enumI_mem' ha
    have h2 := hp.ins _ hb.1
    simp only [Bool.not_eq_true', Bool.and_eq_false_iff, decide_eq_false_iff_not] at q
    omega
  refine LS.nx_go ?_
  refine LS.go_for (α := Int × Int) ((LS.ei_tup (α := (Int × Int)) (LS.ex_var rfl))) LS.tg_pair LS.ts_2 (fun _ => [.is n, .is st, .is un, .no, .no, .no, .no]) rfl (fun B' i a ha _ => ?_) (LS.nx_non k)
  have hb := hp.far a (List.mem_of_getElem? ha)
  refine LS.go_if ((LS.et_test (LS.ex_eq (LS.ex_ixTd (α := Int) (LS.ex_var rfl) (LS.ex_var rfl) (by exact hb.1) (by exact hb.2.1)) (LS.ex_ixTd (α := Int) (LS.ex_var rfl) (LS.ex_var rfl) (by exact hb.2.2.1) (by exact hb.2.2.2.1))))) (fun q => ?_) (fun q => LS.go_next (LS.nx_st (by walk_at "ls wk")))
  exact absurd (of_decide_eq_true q) hb.2.2.2.2
theorem sc_is_list_t : FnScope ["thing"] ["thing"] (defScope Hd.s_is_list) := ⟨rfl, rfl, rfl, by decide +kernel, rfl, by decide +kernel, by decide +kernel⟩
theorem ok_is_list_t {P : Program} {w : World} {K : PySem.W.Frag} {mg : Str → Option Value} {base : Heap} {f : Addr} {fd : FuncData} {dvs : List V} (T : LS.Bt mg) {α : Type} [LS.Rep α] 
    (F : FunD K "is_list" "is_list" (defArgs Hd.s_is_list) (defBody Hd.s_is_list) (defScope Hd.s_is_list) dvs [] f fd) : FnOk P w K mg base CX0 1 f fd ["thing"] (LS.sp1 K (fun _ : LS.Tp α => True) (fun _ => true)) := by
  have nd := sc_is_list_t.nd
  refine F.ok sc_is_list_t LS.sp_len1 (fun cdv A outer s H vs Q E hr h => ⟨_, PSs.nox (pss_one (ps_ret (pe_callB (LS.k_isiT (K := K) rfl) (by rfl) T.isinstance (by decide +kernel) (pa_cons (pv 0) (pa_cons (pe_tup (pa_cons (pe_bltn (v := .ty "list") (u := .type "list") (by rfl) T.list (by decide +kernel) rfl) (pa_cons (pe_bltn (v := .ty "tuple") (u := .type "tuple") (by rfl) T.tuple (by decide +kernel) rfl) pa_nil))) pa_nil))))), ?_⟩)

  refine LS.body1 (spf := fun a => [.is a]) h (fun _ => rfl) fun F a _ k => ?_
  apply LS.go_retE (k := k)
  case h =>
    apply LS.isi2 (α := LS.Tp α) (ty := "tuple") (b := false) (c := true)
    case h => walk_at "ls st"
    case hty => exact fun _ _ => LS.ty_t
    case h1 => decide +kernel
    case h2 => decide +kernel
  case e => rfl
theorem sc_states_of : FnScope ["size", "thing", "place", "entry"] ["size", "thing"] (defScope Hd.s_states_of) := ⟨rfl, rfl, rfl, by decide +kernel, rfl, by decide +kernel, by decide +kernel⟩
theorem ok_states_of {P : Program} {w : World} {K : PySem.W.Frag} {mg : Str → Option Value} {base : Heap} {f : Addr} {fd : FuncData} {dvs : List V} (T : LS.Bt mg) (c_is_list_t : ∀ (α : Type) [LS.Rep α], LS.Cf P w K mg base 1 "is_list" ["thing"] [] (LS.sp1 K (fun _ : LS.Tp α => True) (fun _ => true))) (c_is_state : LS.Cf P w K mg base 2 "is_state" ["size", "thing"] [] (LS.sp2 K (fun _ _ : Int => True) (fun a b => decide (0 ≤ b) && decide (b < a))))
    (F : FunD K "states_of" "states_of" (defArgs Hd.s_states_of) (defBody Hd.s_states_of) (defScope Hd.s_states_of) dvs [] f fd) : FnOk P w K mg base CX0 3 f fd ["size", "thing"] (LS.sp2 K (fun (n : Int) (st : LS.Tp Int) => (∀ x ∈ st.l, 0 ≤ x ∧ x < n) ∧ st.l.Nodup ∧ st.l.length < 64) (fun _ st => LS.Tp.mk (LS.srt st.l))) := by
  have nd := sc_states_of.nd
  refine F.ok sc_states_of LS.sp_len2 (fun cdv A outer s H vs Q E hr h => ⟨_, PSs.nox (pss_cons (ps_if (pt_not (pt_val (LS.pe_cf (c_is_list_t Int) (hr.mono (by decide)) (by rfl) (pa_cons (pv 1) pa_nil)))) pss_never pss_nil)
    (pss_cons (ps_for PassesOwn.never rfl (LS.k_enumT (K := K) rfl (by rfl) T.enumerate (pa_cons (pv 1) pa_nil)) (LS.k_pgt (K := K) (n := 2) rfl rfl (pgs_cons (pg_name (i := 2) nd rfl (.inl rfl)) (pgs_cons (pg_name (i := 3) nd rfl (.inl rfl)) pgs_nil)))
    (pss_one (ps_if (PW.pt (pw_or (pt_not (pt_val (LS.pe_cf c_is_state (hr.mono (by decide)) (by rfl) (pa_cons (pv 0) (pa_cons (pv 3) pa_nil))))) (pw_or1 (pt_cmpR (LS.k_in (K := K) rfl) (pv 3) (pe_slice (LS.k_slA (K := K) rfl) (pv 1) po_none (po_some (pv 2))) (by with_unfolding_all rfl))))) pss_never pss_nil)))
    (pss_one (ps_ret (pe_callTy (LS.k_tupOf (K := K) rfl) (by rfl) T.tuple (by decide +kernel) (pa_cons (pe_callB (LS.k_sortedT (K := K) rfl) (by rfl) T.sorted (by decide +kernel) (pa_cons (pv 1) pa_nil)) pa_nil)))))), ?_⟩)

  refine LS.body2 (spf := fun a b => [.is a, .is b, .no, .no]) h (fun _ _ => rfl) fun F n st hp k => ?_
  refine LS.go_seq ?_
  refine LS.go_if ((LS.et_not (LS.et_b (LS.ex_call1 (LS.ex_var rfl) (by walk_at "ls side"))))) (fun q => nomatch q) (fun q => LS.go_next (LS.nx_go ?_))
  refine LS.go_seq ?_
  refine LS.go_for (α := Int × Int) ((LS.ei_enumT (α := Int) (LS.ex_var rfl))) LS.tg_pair LS.ts_2 (fun _ => [.is n, .is st, .no, .no]) rfl (fun B' i a ha _ => ?_) ?_
  · refine LS.go_if ((LS.et_or (LS.et_not (LS.et_b (LS.ex_call2 (LS.ex_var rfl) (LS.ex_var rfl) (by walk_at "ls side")))) (fun hq => (LS.et_test (LS.ex_inT (neg := false) (LS.ex_var rfl) (LS.ex_slT (α := Int) (LS.ex_var rfl) LS.eo_none (LS.eo_some (LS.ex_var rfl)))))))) (fun q => ?_) (fun q => LS.go_next (LS.nx_st (by walk_at "ls wk")))
    exfalso
    have hb := Mi.enumI_mem' ha
    have h2 := hp.1 _ hb.1
    have h3 := Mi.early hp.2.1 (List.mem_of_getElem? ha)
    simp only [h3, Bool.or_false, Bool.not_eq_true', Bool.and_eq_false_iff, decide_eq_false_iff_not, if_false, Bool.false_eq_true] at q
    omega
  refine LS.nx_go ?_
  refine LS.go_retE ((LS.ex_tupL (α := Int) (LS.ex_sortedT (LS.ex_var rfl) (by exact hp.2.2)))) ?_ k
  rfl
theorem sc_out_rows : FnScope ["rates", "part", "left", "x", "y", "z"] ["rates", "part", "left"] (defScope Hd.s_out_rows) := ⟨rfl, rfl, rfl, by decide +kernel, rfl, by decide +kernel, by decide +kernel⟩
theorem ok_out_rows {P : Program} {w : World} {K : PySem.W.Frag} {mg : Str → Option Value} {base : Heap} {f : Addr} {fd : FuncData} {dvs : List V} (T : LS.Bt mg) 
    (F : FunD K "out_rows" "out_rows" (defArgs Hd.s_out_rows) (defBody Hd.s_out_rows) (defScope Hd.s_out_rows) dvs [] f fd) : FnOk P w K mg base CX0 1 f fd ["rates", "part", "left"] (LS.sp3 K (fun (r : LS.Tp (LS.Tp Int)) (part left : List Int) => Mi.Sq r ∧ Mi.Sts r.l.length part ∧ Mi.Sts r.l.length left ∧ part.length ≤ 8 ∧ left.length ≤ 8) Mi.outR) := by
  have nd := sc_out_rows.nd
  refine F.ok sc_out_rows LS.sp_len3 (fun cdv A outer s H vs Q E hr h => ⟨_, PSs.nox (pss_one (ps_ret (pe_lc (own := [("x", 3)]) rfl nd (LS.k_list (K := K) rfl (pv 2)) (blkOk_by (by kernel_rfl)) (fun _ _ _ _ _ => (pg_name (i := 3) nd rfl (.inr rfl))) (fun _ _ _ _ _ => pts_nil) (fun _ _ _ _ _ => (pe_lc (own := [("y", 4)]) rfl nd (LS.k_list (K := K) rfl (pv 2)) (blkOk_by (by kernel_rfl)) (fun _ _ _ _ _ => (pg_name (i := 4) nd rfl (.inl rfl))) (fun _ _ _ _ _ => pts_nil) (fun _ _ _ _ _ => (pe_ifExp (pt_cmpR op_eq (pv 3) (pv 4) (nomark _)) (pe_callB (LS.k_sum (K := K) rfl rfl) (by rfl) T.sum (by decide +kernel) (pa_cons (pe_lc (own := [("z", 5)]) rfl nd (LS.k_list (K := K) rfl (pv 1)) (blkOk_by (by kernel_rfl)) (fun _ _ _ _ _ => (pg_name (i := 5) nd rfl (.inl rfl))) (fun _ _ _ _ _ => pts_nil) (fun _ _ _ _ _ => (pe_ix (LS.k_ixT (K := K) rfl) (pe_ix (LS.k_ixT (K := K) rfl) (pv 0) (pv 3) (fun _ _ => rfl)) (pv 5) (fun _ _ => rfl)))) pa_nil)) (pe_un un_neg (pe_ix (LS.k_ixT (K := K) rfl) (pe_ix (LS.k_ixT (K := K) rfl) (pv 0) (pv 3) (fun _ _ => rfl)) (pv 4) (fun _ _ => rfl)))))))))), ?_⟩)

  refine LS.body3 (spf := fun a b c => [.is a, .is b, .is c, .no, .no, .no]) h (fun _ _ _ => rfl) fun F r part left hp k => ?_
  obtain ⟨hs, h1, h2, l1, l2⟩ := hp
  refine LS.go_retE ((LS.ex_lc (α := Int) (γ := (List Int)) (LS.ei_list (α := Int) (LS.ex_var rfl)) LS.tg_name (by decide) (by first | omega | exact (h2 _ (by assumption)).1 | exact (h1 _ (by assumption)).1 | exact (h2 _ (by assumption)).2 | (rw [hs.row _ (h2 _ (by assumption)).1 (h2 _ (by assumption)).2]; first | exact (h1 _ (by assumption)).2 | exact (h2 _ (by assumption)).2)) (fun a0 ha0 => (LS.ex_lc (α := Int) (γ := Int) (LS.ei_list (α := Int) (LS.ex_var rfl)) LS.tg_name (by decide) (by first | omega | exact (h2 _ (by assumption)).1 | exact (h1 _ (by assumption)).1 | exact (h2 _ (by assumption)).2 | (rw [hs.row _ (h2 _ (by assumption)).1 (h2 _ (by assumption)).2]; first | exact (h1 _ (by assumption)).2 | exact (h2 _ (by assumption)).2)) (fun a1 ha1 => (LS.ex_if (α := Int) (LS.et_test (LS.ex_eq (LS.ex_var rfl) (LS.ex_var rfl))) (fun hq => (LS.ex_sum (LS.ex_lc (α := Int) (γ := Int) (LS.ei_list (α := Int) (LS.ex_var rfl)) LS.tg_name (by decide) (by first | omega | exact (h2 _ (by assumption)).1 | exact (h1 _ (by assumption)).1 | exact (h2 _ (by assumption)).2 | (rw [hs.row _ (h2 _ (by assumption)).1 (h2 _ (by assumption)).2]; first | exact (h1 _ (by assumption)).2 | exact (h2 _ (by assumption)).2)) (fun a2 ha2 => (LS.ex_ixTd (α := Int) (LS.ex_ixTd (α := (LS.Tp Int)) (LS.ex_var rfl) (LS.ex_var rfl) (by first | omega | exact (h2 _ (by assumption)).1 | exact (h1 _ (by assumption)).1 | exact (h2 _ (by assumption)).2 | (rw [hs.row _ (h2 _ (by assumption)).1 (h2 _ (by assumption)).2]; first | exact (h1 _ (by assumption)).2 | exact (h2 _ (by assumption)).2)) (by first | omega | exact (h2 _ (by assumption)).1 | exact (h1 _ (by assumption)).1 | exact (h2 _ (by assumption)).2 | (rw [hs.row _ (h2 _ (by assumption)).1 (h2 _ (by assumption)).2]; first | exact (h1 _ (by assumption)).2 | exact (h2 _ (by assumption)).2))) (LS.ex_var rfl) (by first | omega | exact (h2 _ (by assumption)).1 | exact (h1 _ (by assumption)).1 | exact (h2 _ (by assumption)).2 | (rw [hs.row _ (h2 _ (by assumption)).1 (h2 _ (by assumption)).2]; first | exact (h1 _ (by assumption)).2 | exact (h2 _ (by assumption)).2)) (by first | omega | exact (h2 _ (by assumption)).1 | exact (h1 _ (by assumption)).1 | exact (h2 _ (by assumption)).2 | (rw [hs.row _ (h2 _ (by assumption)).1 (h2 _ (by assumption)).2]; first | exact (h1 _ (by assumption)).2 | exact (h2 _ (by assumption)).2))))))) (fun hq => (LS.ex_neg (LS.ex_ixTd (α := Int) (LS.ex_ixTd (α := (LS.Tp Int)) (LS.ex_var rfl) (LS.ex_var rfl) (by first | omega | exact (h2 _ (by assumption)).1 | exact (h1 _ (by assumption)).1 | exact (h2 _ (by assumption)).2 | (rw [hs.row _ (h2 _ (by assumption)).1 (h2 _ (by assumption)).2]; first | exact (h1 _ (by assumption)).2 | exact (h2 _ (by assumption)).2)) (by first | omega | exact (h2 _ (by assumption)).1 | exact (h1 _ (by assumption)).1 | exact (h2 _ (by assumption)).2 | (rw [hs.row _ (h2 _ (by assumption)).1 (h2 _ (by assumption)).2]; first | exact (h1 _ (by assumption)).2 | exact (h2 _ (by assumption)).2))) (LS.ex_var rfl) (by first | omega | exact (h2 _ (by assumption)).1 | exact (h1 _ (by assumption)).1 | exact (h2 _ (by assumption)).2 | (rw [hs.row _ (h2 _ (by assumption)).1 (h2 _ (by assumption)).2]; first | exact (h1 _ (by assumption)).2 | exact (h2 _ (by assumption)).2)) (by first | omega | exact (h2 _ (by assumption)).1 | exact (h1 _ (by assumption)).1 | exact (h2 _ (by assumption)).2 | (rw [hs.row _ (h2 _ (by assumption)).1 (h2 _ (by assumption)).2]; first | exact (h1 _ (by assumption)).2 | exact (h2 _ (by assumption)).2))))))))))) ?_ k
  rfl
theorem sc_reduced : FnScope ["row", "top", "divisor", "entry", "above"] ["row", "top", "divisor"] (defScope Hd.s_reduced) := ⟨rfl, rfl, rfl, by decide +kernel, rfl, by decide +kernel, by decide +kernel⟩
theorem ok_reduced {P : Program} {w : World} {K : PySem.W.Frag} {mg : Str → Option Value} {base : Heap} {f : Addr} {fd : FuncData} {dvs : List V} (T : LS.Bt mg) 
    (F : FunD K "reduced" "reduced" (defArgs Hd.s_reduced) (defBody Hd.s_reduced) (defScope Hd.s_reduced) dvs [] f fd) : FnOk P w K mg base CX0 1 f fd ["row", "top", "divisor"] (LS.sp3 K Mi.RedP Mi.reduced) := by
  have nd := sc_reduced.nd
  refine F.ok sc_reduced LS.sp_len3 (fun cdv A outer s H vs Q E hr h => ⟨_, PSs.nox (pss_one (ps_ret (pe_lc (own := [("entry", 3), ("above", 4)]) rfl nd (LS.k_zip (K := K) rfl (by rfl) T.zip (pa_cons (pe_slice (LS.k_slL (K := K) rfl) (pv 0) (po_some pe_int) po_none) (pa_cons (pe_slice (LS.k_slL (K := K) rfl) (pv 1) (po_some pe_int) po_none) pa_nil))) (blkOk_by (by kernel_rfl)) (fun _ _ _ _ _ => (LS.k_pgt (K := K) (n := 2) rfl rfl (pgs_cons (pg_name (i := 3) nd rfl (.inl rfl)) (pgs_cons (pg_name (i := 4) nd rfl (.inl rfl)) pgs_nil)))) (fun _ _ _ _ _ => pts_nil) (fun _ _ _ _ _ => (pe_op LS.op_fdivV (pe_op op_sub (pe_op op_mulW (pe_ix (LS.k_ixL (K := K) rfl) (pv 1) pe_int (fun _ _ => rfl)) (pv 3)) (pe_op op_mulW (pe_ix (LS.k_ixL (K := K) rfl) (pv 0) pe_int (fun _ _ => rfl)) (pv 4))) (pv 2)))))), ?_⟩)

  refine LS.body3 (spf := fun a b c => [.is a, .is b, .is c, .no, .no]) h (fun _ _ _ => rfl) fun F row top d hp k => ?_
  refine LS.go_retE ((LS.ex_lc (α := (Int × Int)) (γ := Int) (LS.ei_zip (α := Int) (β := Int) (LS.ex_slL (α := Int) (LS.ex_var rfl) (LS.eo_some LS.ex_ci) LS.eo_none) (LS.ex_slL (α := Int) (LS.ex_var rfl) (LS.eo_some LS.ex_ci) LS.eo_none)) LS.tg_pair (by decide) (by exact hp.len) (fun a0 ha0 => (LS.ex_fdivV (LS.ex_sub (LS.ex_mulW (LS.ex_ixLd (α := Int) (LS.ex_var rfl) LS.ex_ci (by decide) (by (have := hp.t1; simp; omega))) (LS.ex_var rfl) (by exact hp.m1 ha0)) (LS.ex_mulW (LS.ex_ixLd (α := Int) (LS.ex_var rfl) LS.ex_ci (by decide) (by (have := hp.r1; simp; omega))) (LS.ex_var rfl) (by exact hp.m2 ha0))) (LS.ex_var rfl) (by exact hp.div))))) ?_ k
  rfl
theorem sc_determinant : FnScope ["rows", "left", "sign", "divisor", "places", "top", "row", "place"] ["rows"] (defScope Hd.s_determinant) := ⟨rfl, rfl, rfl, by decide +kernel, rfl, by decide +kernel, by decide +kernel⟩
theorem ok_determinant {P : Program} {w : World} {K : PySem.W.Frag} {mg : Str → Option Value} {base : Heap} {f : Addr} {fd : FuncData} {dvs : List V} (T : LS.Bt mg) (c_reduced : LS.Cf P w K mg base 1 "reduced" ["row", "top", "divisor"] [] (LS.sp3 K Mi.RedP Mi.reduced))
    (F : FunD K "determinant" "determinant" (defArgs Hd.s_determinant) (defBody Hd.s_determinant) (defScope Hd.s_determinant) dvs [] f fd) : FnOk P w K mg base CX0 2 f fd ["rows"] (LS.sp1 K (fun (m : List (List Int)) => Mi.Mat m) Mi.det) := by
  have nd := sc_determinant.nd
  refine F.ok sc_determinant LS.sp_len1 (fun cdv A outer s H vs Q E hr h => ⟨_, PSs.nox (pss_cons (ps_setLc (i := 1) (own := [("row", 6)]) rfl nd rfl rfl (sw_true rfl rfl rfl (by decide +kernel)) (LS.k_list (K := K) rfl (pv 0)) (blkOk_by (by kernel_rfl)) (fun _ _ _ _ _ => (pg_name (i := 6) nd rfl (.inl rfl))) (fun _ _ _ _ _ => pts_nil) (fun _ _ _ _ _ => (pe_callTy (LS.k_listOf (K := K) rfl) (by rfl) T.list (by decide +kernel) (pa_cons (pv 6) pa_nil))))
    (pss_cons (ps_set (i := 2) nd rfl (.inl rfl) pe_int)
    (pss_cons (ps_set (i := 3) nd rfl (.inr rfl) pe_int)
    (pss_cons (ps_while PassesOwn.never (pt_truth (pv 1) (by intro _; rfl))
    (pss_cons (ps_setLc (i := 4) (own := [("place", 7), ("row", 6)]) rfl nd rfl rfl (sw_true rfl rfl rfl (by decide +kernel)) (LS.k_enum (K := K) rfl (by rfl) T.enumerate (pa_cons (pv 1) pa_nil)) (blkOk_by (by kernel_rfl)) (fun _ _ _ _ _ => (LS.k_pgt (K := K) (n := 2) rfl rfl (pgs_cons (pg_name (i := 7) nd rfl (.inl rfl)) (pgs_cons (pg_name (i := 6) nd rfl (.inl rfl)) pgs_nil)))) (fun _ _ _ _ _ => pts_one (pt_cmpR op_ne (pe_ix (LS.k_ixL (K := K) rfl) (pv 6) pe_int (fun _ _ => rfl)) pe_int (nomark _))) (fun _ _ _ _ _ => (pv 7)))
    (pss_cons (ps_if (pt_not (pt_truth (pv 4) (by intro _; rfl))) (pss_one (ps_ret pe_int)) pss_nil)
    (pss_cons (ps_set (i := 5) nd rfl (.inr rfl) (LS.k_bm (K := K) rfl PySem.F.plainAttrs_list PySem.F.slot_list_pop PySem.F.type_list_pop mt_popAt (pv 1) (pa_cons (pe_ix (LS.k_ixL (K := K) rfl) (pv 4) pe_int (fun _ _ => rfl)) pa_nil)))
    (pss_cons (ps_set (i := 2) nd rfl (.inl rfl) (pe_ifExp (pt_cmpR op_eq (pe_op op_mod (pe_ix (LS.k_ixL (K := K) rfl) (pv 4) pe_int (fun _ _ => rfl)) pe_int) pe_int (nomark _)) (pe_un un_neg (pv 2)) (pv 2)))
    (pss_cons (ps_setLc (i := 1) (own := [("row", 6)]) rfl nd rfl rfl (sw_true rfl rfl rfl (by decide +kernel)) (LS.k_list (K := K) rfl (pv 1)) (blkOk_by (by kernel_rfl)) (fun _ _ _ _ _ => (pg_name (i := 6) nd rfl (.inl rfl))) (fun _ _ _ _ _ => pts_nil) (fun _ _ _ _ _ => (LS.pe_cf c_reduced (hr.mono (by decide)) (by rfl) (pa_cons (pv 6) (pa_cons (pv 5) (pa_cons (pv 3) pa_nil))))))
    (pss_one (ps_set (i := 3) nd rfl (.inr rfl) (pe_ix (LS.k_ixL (K := K) rfl) (pv 5) pe_int (fun _ _ => rfl))))))))))
    (pss_one (ps_ret (pe_op op_mul (pv 2) (pv 3)))))))), ?_⟩)

  refine LS.body1 (spf := fun a => [.is a, .no, .no, .no, .no, .no, .no, .no]) h (fun _ => rfl) fun F m hp k => ?_
  refine LS.s_asgO (xs := m) (LS.EXo.is ((LS.exo_lc (α := (List Int)) (γ := (List Int)) (LS.ei_list (α := (List Int)) (LS.ex_var rfl)) LS.tg_name (by decide) (by (have := hp.len; omega)) (fun a0 ha0 => (LS.ex_listL (α := Int) (LS.ex_var rfl))))) (List.map_id' _)) (by simp) ?_
  refine LS.s_asg (LS.ex_ci) ?_
  refine LS.s_asg (LS.ex_ci) ?_
  refine LS.s_while (ι := List (List Int) × Int × Int) (fun i => [.is m, .own i.1, .is i.2.1, .is i.2.2, .no, .no, .no, .no]) (fun i => Mi.Good i.1.length i.1 i.2.2 ∧ Mi.alg i.1.length i.1 i.2.1 i.2.2 = Mi.det m ∧ (-1 ≤ i.2.1 ∧ i.2.1 ≤ 1) ∧ i.1.length ≤ 4)
    (fun i => i.1.length) (fun i => !i.1.isEmpty) (m, 1, 1) rfl ⟨Mi.mat_good hp, Mi.mat_alg hp, (show (-1 : Int) ≤ 1 ∧ (1 : Int) ≤ 1 by decide), hp.len⟩ (fun i _ σ H Q s q => LS.tru_own (j := 1) s rfl q) ?_ ?_
  · rintro ⟨l, s, d⟩ ⟨hg0, ha, hs, hl⟩ hc
    obtain ⟨n, hn⟩ : ∃ n, l.length = n + 1 := by
      cases l with
      | nil => simp at hc
      | cons a r => exact ⟨r.length, rfl⟩
    have hg : Mi.Good (n + 1) l d := hn ▸ hg0
    have ha2 : Mi.alg (n + 1) l s d = Mi.det m := hn ▸ ha
    dsimp only at hs hl
    refine LS.s_asgV (j := 1) (zs := Mi.pls l) rfl ((LS.exo_lcf (α := (Int × (List Int))) (γ := Int) (LS.ei_enum (α := (List Int)) (LS.ex_var rfl)) LS.tg_pair (by decide) (by (rw [LS.enumI_len]; omega)) (fun a0 ha0 => (LS.et_test (LS.ex_ne (LS.ex_ixLd (α := Int) (LS.ex_var rfl) LS.ex_ci (by decide) (by exact Mi.en_pos hg ha0)) LS.ex_ci))) (fun a0 ha0 hp0 => (LS.ex_var rfl)))) ?_
    cases hpl : Mi.pls l with
    | nil =>
      refine LS.s_ifn ((LS.et_not (LS.et_truL (α := Int) (LS.ex_var rfl)))) (fun _ => LS.go_retE LS.ex_ci ?_ k) (fun q => nomatch q)
      rw [← ha2]
      unfold Mi.alg
      rw [hpl]
    | cons p r =>
      obtain ⟨p0, p1, p2, p3⟩ := Mi.pls_mem hpl
      refine LS.s_ifn ((LS.et_not (LS.et_truL (α := Int) (LS.ex_var rfl)))) (fun q => nomatch q) (fun _ => ?_)
      refine LS.s_popI (n := p) rfl (LS.ex_is (a := (p :: r).getD (0 : Int).toNat default) ((LS.ex_ixLd (α := Int) (LS.ex_var rfl) LS.ex_ci (by decide) (by (simp; try omega)))) rfl) ⟨p0, by omega⟩ p3 (by decide) ?_
      refine LS.s_asg (LS.ex_is (a := if decide (((p :: r).getD (0 : Int).toNat default) % 2 = 1) = true then -s else s) (b := if decide (p % 2 = 1) = true then -s else s) ((LS.ex_if (α := Int) (LS.et_test (LS.ex_eq (LS.ex_mod (LS.ex_ixLd (α := Int) (LS.ex_var rfl) LS.ex_ci (by decide) (by (simp; try omega))) LS.ex_ci (by decide)) LS.ex_ci)) (fun hq => (LS.ex_neg (LS.ex_var rfl))) (fun hq => (LS.ex_var rfl)))) rfl) ?_
      refine LS.go_frz (j := 1) (xs := l.eraseIdx p.toNat) rfl ?_
      refine LS.s_asgO (xs := Mi.nxt l p d) ((LS.exo_lc (α := (List Int)) (γ := (List Int)) (LS.ei_list (α := (List Int)) (LS.ex_var rfl)) LS.tg_name (by decide) (by (have := List.length_eraseIdx_le l p.toNat; omega)) (fun a0 ha0 => (LS.ex_call3 (LS.ex_var rfl) (LS.ex_var rfl) (LS.ex_var rfl) (by exact Mi.good_red hg (by omega) hpl ha0))))) (by simp) ?_
      refine LS.go_asg (a := Mi.hd0 (l.getD p.toNat default)) ((LS.ex_ixLd (α := Int) (LS.ex_var rfl) LS.ex_ci (by decide) (by exact Mi.top_pos hg hpl))) ?_
      have hnl := Mi.nxt_len (d := d) p0 p1
      refine LS.nx_ex (i := (Mi.nxt l p d, if decide (p % 2 = 1) = true then -s else s, Mi.hd0 (l.getD p.toNat default))) ⟨?_, ?_, ?_, ?_⟩ (by dsimp only; omega) (by walk_at "ls wk")
      · dsimp only
        rw [show (Mi.nxt l p d).length = n by omega]
        exact hg.2.2.2 p r hpl
      · dsimp only
        rw [show (Mi.nxt l p d).length = n by omega, ← ha2]
        conv => rhs; unfold Mi.alg
        rw [hpl]
      · dsimp only
        split <;> omega
      · dsimp only
        omega
  · rintro ⟨l, s, d⟩ ⟨hg0, ha, hs, hl⟩ hc
    have hn : l = [] := by simpa using hc
    subst hn
    exact LS.go_retE ((LS.ex_mul (LS.ex_var rfl) (LS.ex_var rfl) (by exact .inl (by omega)))) ha k
theorem sc_replaced_determinants : FnScope ["rows", "column", "places", "at", "row", "entry"] ["rows", "column"] (defScope Hd.s_replaced_determinants) := ⟨rfl, rfl, rfl, by decide +kernel, rfl, by decide +kernel, by decide +kernel⟩
theorem ok_replaced_determinants {P : Program} {w : World} {K : PySem.W.Frag} {mg : Str → Option Value} {base : Heap} {f : Addr} {fd : FuncData} {dvs : List V} (T : LS.Bt mg) (c_determinant : LS.Cf P w K mg base 2 "determinant" ["rows"] [] (LS.sp1 K (fun (m : List (List Int)) => Mi.Mat m) Mi.det))
    (F : FunD K "replaced_determinants" "replaced_determinants" (defArgs Hd.s_replaced_determinants) (defBody Hd.s_replaced_determinants) (defScope Hd.s_replaced_determinants) dvs [] f fd) : FnOk P w K mg base CX0 3 f fd ["rows", "column"] (LS.sp2 K (fun (rows : List (List Int)) (col : List Int) => Mi.Mat rows ∧ col.length = rows.length ∧ ∀ e ∈ col, -2199023255552 < e ∧ e < 2199023255552) Mi.dets) := by
  have nd := sc_replaced_determinants.nd
  refine F.ok sc_replaced_determinants LS.sp_len2 (fun cdv A outer s H vs Q E hr h => ⟨_, PSs.nox (pss_cons (ps_set (i := 2) nd rfl (.inl rfl) (pe_callTy LS.cr_range1 (by rfl) T.range (by decide +kernel) (pa_cons (pe_callB (LS.k_len (K := K) rfl) (by rfl) T.len (by decide +kernel) (pa_cons (pv 0) pa_nil)) pa_nil)))
    (pss_one (ps_ret (pe_lc (own := [("at", 3)]) rfl nd (LS.pi_rgv (pv 2)) (blkOk_by (by kernel_rfl)) (fun _ _ _ _ _ => (pg_name (i := 3) nd rfl (.inr rfl))) (fun _ _ _ _ _ => pts_nil) (fun _ _ _ _ _ => (LS.pe_cf c_determinant (hr.mono (by decide)) (by rfl) (pa_cons (pe_lc (own := [("row", 4), ("entry", 5)]) rfl nd (LS.k_zip (K := K) rfl (by rfl) T.zip (pa_cons (pv 0) (pa_cons (pv 1) pa_nil))) (blkOk_by (by kernel_rfl)) (fun _ _ _ _ _ => (LS.k_pgt (K := K) (n := 2) rfl rfl (pgs_cons (pg_name (i := 4) nd rfl (.inl rfl)) (pgs_cons (pg_name (i := 5) nd rfl (.inl rfl)) pgs_nil)))) (fun _ _ _ _ _ => pts_nil) (fun _ _ _ _ _ => (pe_lst (LS.k_star (K := K) rfl (pe_slice (LS.k_slL (K := K) rfl) (pv 4) po_none (po_some (pv 3))) (pa_cons (pv 5) (LS.k_star (K := K) rfl (pe_slice (LS.k_slL (K := K) rfl) (pv 4) (po_some (pe_op op_add (pv 3) pe_int)) po_none) pa_nil)))))) pa_nil))))))), ?_⟩)

  refine LS.body2 (spf := fun a b => [.is a, .is b, .no, .no, .no, .no]) h (fun _ _ => rfl) fun F rows col hp k => ?_
  refine LS.s_asg ((LS.ex_range1 (LS.ex_lenL (LS.ex_var rfl)))) ?_
  refine LS.go_retE ((LS.ex_lc (α := Int) (γ := Int) (LS.ei_rgv (LS.ex_var rfl) (by (have := hp.1.len; show -(2 ^ 62) ≤ (rows.length : Int) ∧ (rows.length : Int) < 2 ^ 62; omega))) LS.tg_name (by decide) (by (rw [LS.rng_len]; have := hp.1.len; show (rows.length : Int).toNat ≤ 40000; omega)) (fun a0 ha0 => (LS.ex_call1 (LS.ex_lc (α := ((List Int) × Int)) (γ := (List Int)) (LS.ei_zip (α := (List Int)) (β := Int) (LS.ex_var rfl) (LS.ex_var rfl)) LS.tg_pair (by decide) (by (rw [List.length_zip]; have := hp.1.len; omega)) (fun a1 ha1 => (LS.ex_lst (α := Int) (LS.el_star (α := Int) (LS.ex_slL (α := Int) (LS.ex_var rfl) LS.eo_none (LS.eo_some (LS.ex_var rfl))) (LS.el_cons (LS.ex_var rfl) (LS.el_star (α := Int) (LS.ex_slL (α := Int) (LS.ex_var rfl) (LS.eo_some (LS.ex_add (LS.ex_var rfl) LS.ex_ci)) LS.eo_none) LS.el_nil))) (by exact Mi.rep_few hp ha1)))) (by exact Mi.rep_mat hp ha0))))) ?_ k
  rfl
theorem sc_forest_row : FnScope ["table", "c", "others", "roots", "states", "left", "rows", "toward", "found", "x"] ["table", "c", "others"] (defScope Hd.s_forest_row) := ⟨rfl, rfl, rfl, by decide +kernel, rfl, by decide +kernel, by decide +kernel⟩
theorem ok_forest_row {P : Program} {w : World} {K : PySem.W.Frag} {mg : Str → Option Value} {base : Heap} {f : Addr} {fd : FuncData} {dvs : List V} (T : LS.Bt mg) (ktb : LS.TbK K) (dfe : ∀ G : Hp, LS.Rep.rep K G (V.ref (He.dflAt ("check_states", none) 0 K)) (LS.Tp.mk ([] : List (Int × Int)))) (c_check_states_d : LS.Cf P w K mg base 3 "check_states" ["size", "states", "unlike"] [.ref (He.dflAt ("check_states", none) 0 K)] (LS.sp3 K (fun (n : Int) (st : LS.Tp Int) (un : LS.Tp (Int × Int)) => Mi.CS n st un) (fun _ _ _ => ()))) (c_states_of : LS.Cf P w K mg base 3 "states_of" ["size", "thing"] [] (LS.sp2 K (fun (n : Int) (st : LS.Tp Int) => (∀ x ∈ st.l, 0 ≤ x ∧ x < n) ∧ st.l.Nodup ∧ st.l.length < 64) (fun _ st => LS.Tp.mk (LS.srt st.l)))) (c_out_rows : LS.Cf P w K mg base 1 "out_rows" ["rates", "part", "left"] [] (LS.sp3 K (fun (r : LS.Tp (LS.Tp Int)) (part left : List Int) => Mi.Sq r ∧ Mi.Sts r.l.length part ∧ Mi.Sts r.l.length left ∧ part.length ≤ 8 ∧ left.length ≤ 8) Mi.outR)) (c_determinant : LS.Cf P w K mg base 2 "determinant" ["rows"] [] (LS.sp1 K (fun (m : List (List Int)) => Mi.Mat m) Mi.det)) (c_replaced_determinants : LS.Cf P w K mg base 3 "replaced_determinants" ["rows", "column"] [] (LS.sp2 K (fun (rows : List (List Int)) (col : List Int) => Mi.Mat rows ∧ col.length = rows.length ∧ ∀ e ∈ col, -2199023255552 < e ∧ e < 2199023255552) Mi.dets))
    (F : FunD K "forest_row" "forest_row" (defArgs Hd.s_forest_row) (defBody Hd.s_forest_row) (defScope Hd.s_forest_row) dvs [] f fd) : FnOk P w K mg base CX0 4 f fd ["table", "c", "others"] (LS.sp3 K (fun (t : LS.Tbl) (c : Int) (o : LS.Tp Int) => (Mi.Ok t.rows ∧ t.rows.length ≤ 5) ∧ 0 ≤ c ∧ c < t.rows.length ∧ (∀ x ∈ o.l, 0 ≤ x ∧ x < t.rows.length) ∧ o.l.Nodup ∧ ¬ c ∈ o.l ∧ 1 ≤ o.l.length ∧ o.l.length ≤ 5) (fun t c o => LS.Tp.mk (Mi.frow t.rows c (LS.srt o.l)))) := by
  have nd := sc_forest_row.nd
  refine F.ok sc_forest_row LS.sp_len3 (fun cdv A outer s H vs Q E hr h => ⟨_, PSs.nox (pss_cons (ps_expr (LS.pe_cf c_check_states_d (hr.mono (by decide)) (by rfl) (pa_cons (LS.k_fld (K := K) rfl (pv 0)) (pa_cons (pe_tup (pa_cons (pv 1) pa_nil)) pa_nil))))
    (pss_cons (ps_set (i := 3) nd rfl (.inr rfl) (pe_op (LS.k_catT (K := K) rfl) (pe_tup (pa_cons (pv 1) pa_nil)) (LS.pe_cf c_states_of (hr.mono (by decide)) (by rfl) (pa_cons (LS.k_fld (K := K) rfl (pv 0)) (pa_cons (pv 2) pa_nil)))))
    (pss_cons (ps_set (i := 4) nd rfl (.inl rfl) (pe_listRg rfl (by rfl) T.list (prg_1 (by rfl) T.range (LS.k_fld (K := K) rfl (pv 0)))))
    (pss_cons (ps_setLc (i := 5) (own := [("x", 9)]) rfl nd rfl rfl (sw_true rfl rfl rfl (by decide +kernel)) (LS.k_list (K := K) rfl (pv 4)) (blkOk_by (by kernel_rfl)) (fun _ _ _ _ _ => (pg_name (i := 9) nd rfl (.inl rfl))) (fun _ _ _ _ _ => pts_one (pt_cmpR (LS.k_notIn (K := K) rfl) (pv 9) (pv 3) (by with_unfolding_all rfl))) (fun _ _ _ _ _ => (pv 9)))
    (pss_cons (ps_set (i := 6) nd rfl (.inl rfl) (LS.pe_cf c_out_rows (hr.mono (by decide)) (by rfl) (pa_cons (LS.k_fld (K := K) rfl (pv 0)) (pa_cons (pv 4) (pa_cons (pv 5) pa_nil)))))
    (pss_cons (ps_setLc (i := 7) (own := [("x", 9)]) rfl nd rfl rfl (sw_true rfl rfl rfl (by decide +kernel)) (LS.k_list (K := K) rfl (pv 5)) (blkOk_by (by kernel_rfl)) (fun _ _ _ _ _ => (pg_name (i := 9) nd rfl (.inl rfl))) (fun _ _ _ _ _ => pts_nil) (fun _ _ _ _ _ => (pe_ix (LS.k_ixT (K := K) rfl) (pe_ix (LS.k_ixT (K := K) rfl) (LS.k_fld (K := K) rfl (pv 0)) (pv 9) (fun _ _ => rfl)) (pv 1) (fun _ _ => rfl))))
    (pss_cons (ps_set (i := 8) nd rfl (.inr rfl) (LS.pe_dz (K := K) rfl rfl (by rfl) T.dict (by rfl) T.zip (pa_cons (pv 5) (pa_cons (LS.pe_cf c_replaced_determinants (hr.mono (by decide)) (by rfl) (pa_cons (pv 6) (pa_cons (pv 7) pa_nil))) pa_nil))))
    (pss_cons (ps_dput (LS.hu1 hr.units) (pv 8) (pv 1) (LS.pe_cf c_determinant (hr.mono (by decide)) (by rfl) (pa_cons (pv 6) pa_nil)) (by rfl))
    (pss_one (ps_ret (pe_callTy (LS.k_tupOf (K := K) rfl) (by rfl) T.tuple (by decide +kernel) (pa_cons (pe_lc (own := [("x", 9)]) rfl nd (LS.k_list (K := K) rfl (pv 4)) (blkOk_by (by kernel_rfl)) (fun _ _ _ _ _ => (pg_name (i := 9) nd rfl (.inl rfl))) (fun _ _ _ _ _ => pts_nil) (fun _ _ _ _ _ => (pe_dget2 (LS.hu1 hr.units) (pv 8) (pv 9) pe_int ⟨rfl, rfl, rfl, rfl⟩))) pa_nil)))))))))))), ?_⟩)

  refine LS.body3 (spf := fun a b c => [.is a, .is b, .is c, .no, .no, .no, .no, .no, .no, .no]) h (fun _ _ _ => rfl) fun F t c o hp k => ?_
  have W := Mi.fw hp
  refine LS.s_drop ((LS.ex_call3d dfe (LS.ex_size ktb (LS.ex_var rfl)) (LS.ex_tup (α := Int) (LS.el_cons (LS.ex_var rfl) LS.el_nil) (by simp)) (by first | exact W.cs | exact W.so | exact W.ne | exact W.few | exact W.st | exact W.rows | exact W.dets | exact W.mat | exact W.c0 | exact W.c1 ha0 | exact (W.in_ ha0).1 | exact (W.in_ ha0).2 | exact W.n8 | exact W.l8 | (simp; done)))) ?_
  refine LS.s_asg (a := LS.Tp.mk (Mi.froots c (LS.srt o.l))) ((LS.ex_catT (α := Int) (LS.ex_tup (α := Int) (LS.el_cons (LS.ex_var rfl) LS.el_nil) (by simp)) (LS.ex_call2 (LS.ex_size ktb (LS.ex_var rfl)) (LS.ex_var rfl) (by first | exact W.cs | exact W.so | exact W.ne | exact W.few | exact W.st | exact W.rows | exact W.dets | exact W.mat | exact W.c0 | exact W.c1 ha0 | exact (W.in_ ha0).1 | exact (W.in_ ha0).2 | exact W.n8 | exact W.l8 | (simp; done))) (by first | exact W.cs | exact W.so | exact W.ne | exact W.few | exact W.st | exact W.rows | exact W.dets | exact W.mat | exact W.c0 | exact W.c1 ha0 | exact (W.in_ ha0).1 | exact (W.in_ ha0).2 | exact W.n8 | exact W.l8 | (simp; done)) (by first | exact W.cs | exact W.so | exact W.ne | exact W.few | exact W.st | exact W.rows | exact W.dets | exact W.mat | exact W.c0 | exact W.c1 ha0 | exact (W.in_ ha0).1 | exact (W.in_ ha0).2 | exact W.n8 | exact W.l8 | (simp; done)))) ?_
  refine LS.s_asg (a := LS.rng t.rows.length) ((LS.ex_listRg (LS.ex_size ktb (LS.ex_var rfl)) (by first | exact W.cs | exact W.so | exact W.ne | exact W.few | exact W.st | exact W.rows | exact W.dets | exact W.mat | exact W.c0 | exact W.c1 ha0 | exact (W.in_ ha0).1 | exact (W.in_ ha0).2 | exact W.n8 | exact W.l8 | (simp; done)))) ?_
  refine LS.s_asg (LS.ex_is ((LS.ex_lcf (α := Int) (γ := Int) (LS.ei_list (α := Int) (LS.ex_var rfl)) LS.tg_name (by decide) (by first | exact W.cs | exact W.so | exact W.ne | exact W.few | exact W.st | exact W.rows | exact W.dets | exact W.mat | exact W.c0 | exact W.c1 ha0 | exact (W.in_ ha0).1 | exact (W.in_ ha0).2 | exact W.n8 | exact W.l8 | (simp; done)) (fun a0 ha0 => (LS.et_test (LS.ex_inT (neg := true) (LS.ex_var rfl) (LS.ex_var rfl)))) (fun a0 ha0 hp0 => (LS.ex_var rfl)))) (show _ = Mi.fleft t.rows c (LS.srt o.l) from List.map_id' _)) ?_
  refine LS.s_asg ((LS.ex_call3 (LS.ex_rows ktb (LS.ex_var rfl)) (LS.ex_var rfl) (LS.ex_var rfl) (by first | exact W.cs | exact W.so | exact W.ne | exact W.few | exact W.st | exact W.rows | exact W.dets | exact W.mat | exact W.c0 | exact W.c1 ha0 | exact (W.in_ ha0).1 | exact (W.in_ ha0).2 | exact W.n8 | exact W.l8 | (simp; done)))) ?_
  refine LS.s_asg (LS.ex_is ((LS.ex_lc (α := Int) (γ := Int) (LS.ei_list (α := Int) (LS.ex_var rfl)) LS.tg_name (by decide) (by first | exact W.cs | exact W.so | exact W.ne | exact W.few | exact W.st | exact W.rows | exact W.dets | exact W.mat | exact W.c0 | exact W.c1 ha0 | exact (W.in_ ha0).1 | exact (W.in_ ha0).2 | exact W.n8 | exact W.l8 | (simp; done)) (fun a0 ha0 => (LS.ex_ixTd (α := Int) (LS.ex_ixTd (α := (LS.Tp Int)) (LS.ex_rows ktb (LS.ex_var rfl)) (LS.ex_var rfl) (by first | exact W.cs | exact W.so | exact W.ne | exact W.few | exact W.st | exact W.rows | exact W.dets | exact W.mat | exact W.c0 | exact W.c1 ha0 | exact (W.in_ ha0).1 | exact (W.in_ ha0).2 | exact W.n8 | exact W.l8 | (simp; done)) (by first | exact W.cs | exact W.so | exact W.ne | exact W.few | exact W.st | exact W.rows | exact W.dets | exact W.mat | exact W.c0 | exact W.c1 ha0 | exact (W.in_ ha0).1 | exact (W.in_ ha0).2 | exact W.n8 | exact W.l8 | (simp; done))) (LS.ex_var rfl) (by first | exact W.cs | exact W.so | exact W.ne | exact W.few | exact W.st | exact W.rows | exact W.dets | exact W.mat | exact W.c0 | exact W.c1 ha0 | exact (W.in_ ha0).1 | exact (W.in_ ha0).2 | exact W.n8 | exact W.l8 | (simp; done)) (by first | exact W.cs | exact W.so | exact W.ne | exact W.few | exact W.st | exact W.rows | exact W.dets | exact W.mat | exact W.c0 | exact W.c1 ha0 | exact (W.in_ ha0).1 | exact (W.in_ ha0).2 | exact W.n8 | exact W.l8 | (simp; done)))))) (show _ = (Mi.fleft t.rows c (LS.srt o.l)).map (fun x => Mi.at2 t.rows x c) from Mi.tow _ _ _)) ?_
  refine LS.s_dict2 (LS.ex_var rfl) (LS.ex_call2 (LS.ex_var rfl) (LS.ex_var rfl) (by first | exact W.cs | exact W.so | exact W.ne | exact W.few | exact W.st | exact W.rows | exact W.dets | exact W.mat | exact W.c0 | exact W.c1 ha0 | exact (W.in_ ha0).1 | exact (W.in_ ha0).2 | exact W.n8 | exact W.l8 | (simp; done))) ((LS.ex_call1 (LS.ex_var rfl) (by first | exact W.cs | exact W.so | exact W.ne | exact W.few | exact W.st | exact W.rows | exact W.dets | exact W.mat | exact W.c0 | exact W.c1 ha0 | exact (W.in_ ha0).1 | exact (W.in_ ha0).2 | exact W.n8 | exact W.l8 | (simp; done)))) rfl (by decide) (by simp) W.few2 ?_
  refine LS.go_retE ((LS.ex_tupL (α := Int) (LS.ex_lc (α := Int) (γ := Int) (LS.ei_list (α := Int) (LS.ex_var rfl)) LS.tg_name (by decide) (by first | exact W.cs | exact W.so | exact W.ne | exact W.few | exact W.st | exact W.rows | exact W.dets | exact W.mat | exact W.c0 | exact W.c1 ha0 | exact (W.in_ ha0).1 | exact (W.in_ ha0).2 | exact W.n8 | exact W.l8 | (simp; done)) (fun a0 ha0 => (LS.ex_dget2 (LS.ex_var rfl) (LS.ex_var rfl) LS.ex_ci))))) ?_ k
  exact congrArg LS.Tp.mk (Mi.frow_eq W.nd True.intro)
theorem sc_coming_row : FnScope ["table", "c", "e", "others"] ["table", "c", "e"] (defScope Hd.s_coming_row) := ⟨rfl, rfl, rfl, by decide +kernel, rfl, by decide +kernel, by decide +kernel⟩
theorem ok_coming_row {P : Program} {w : World} {K : PySem.W.Frag} {mg : Str → Option Value} {base : Heap} {f : Addr} {fd : FuncData} {dvs : List V} (T : LS.Bt mg) (ktb : LS.TbK K) (c_check_states : LS.Cf P w K mg base 3 "check_states" ["size", "states", "unlike"] [] (LS.sp3 K (fun (n : Int) (st : LS.Tp Int) (un : LS.Tp (Int × Int)) => Mi.CS n st un) (fun _ _ _ => ()))) (c_forest_row : LS.Cf P w K mg base 4 "forest_row" ["table", "c", "others"] [] (LS.sp3 K (fun (t : LS.Tbl) (c : Int) (o : LS.Tp Int) => (Mi.Ok t.rows ∧ t.rows.length ≤ 5) ∧ 0 ≤ c ∧ c < t.rows.length ∧ (∀ x ∈ o.l, 0 ≤ x ∧ x < t.rows.length) ∧ o.l.Nodup ∧ ¬ c ∈ o.l ∧ 1 ≤ o.l.length ∧ o.l.length ≤ 5) (fun t c o => LS.Tp.mk (Mi.frow t.rows c (LS.srt o.l)))))
    (F : FunD K "coming_row" "coming_row" (defArgs Hd.s_coming_row) (defBody Hd.s_coming_row) (defScope Hd.s_coming_row) dvs [] f fd) : FnOk P w K mg base CX0 5 f fd ["table", "c", "e"] (LS.sp3 K (fun (t : LS.Tbl) (c e : Int) => (Mi.Ok t.rows ∧ t.rows.length ≤ 5) ∧ 0 ≤ c ∧ c < t.rows.length ∧ 0 ≤ e ∧ e < t.rows.length ∧ c ≠ e) (fun t c e => LS.Tp.mk (Mi.frow t.rows c (LS.srt [e])))) := by
  have nd := sc_coming_row.nd
  refine F.ok sc_coming_row LS.sp_len3 (fun cdv A outer s H vs Q E hr h => ⟨_, PSs.nox (pss_cons (ps_expr (LS.pe_cf c_check_states (hr.mono (by decide)) (by rfl) (pa_cons (LS.k_fld (K := K) rfl (pv 0)) (pa_cons (pe_tup (pa_cons (pv 1) (pa_cons (pv 2) pa_nil))) (pa_cons (pe_tup (pa_cons (pe_tup (pa_cons pe_int (pa_cons pe_int pa_nil))) pa_nil)) pa_nil)))))
    (pss_cons (ps_set (i := 3) nd rfl (.inl rfl) (pe_tup (pa_cons (pv 2) pa_nil)))
    (pss_one (ps_ret (LS.pe_cf c_forest_row (hr.mono (by decide)) (by rfl) (pa_cons (pv 0) (pa_cons (pv 1) (pa_cons (pv 3) pa_nil)))))))), ?_⟩)

  refine LS.body3 (spf := fun a b c => [.is a, .is b, .is c, .no]) h (fun _ _ _ => rfl) fun F t c e hp k => ?_
  refine LS.go_seq ?_
  refine LS.go_drop ((LS.ex_call3 (LS.ex_size ktb (LS.ex_var rfl)) (LS.ex_tup (α := Int) (LS.el_cons (LS.ex_var rfl) (LS.el_cons (LS.ex_var rfl) LS.el_nil)) (by simp)) (LS.ex_tup (α := (Int × Int)) (LS.el_cons (LS.ex_pair (α := Int) (β := Int) LS.ex_ci LS.ex_ci) LS.el_nil) (by simp)) (by exact Mi.cs2 hp))) (LS.nx_go ?_)
  refine LS.go_seq ?_
  refine LS.go_asg ((LS.ex_tup (α := Int) (LS.el_cons (LS.ex_var rfl) LS.el_nil) (by simp))) (LS.nx_go ?_)
  refine LS.go_retE ((LS.ex_call3 (LS.ex_var rfl) (LS.ex_var rfl) (LS.ex_var rfl) (by exact Mi.fr2 hp))) ?_ k
  rfl
theorem sc_push : FnScope ["table", "a", "b", "c", "e", "row"] ["table", "a", "b", "c", "e"] (defScope Hd.s_push) := ⟨rfl, rfl, rfl, by decide +kernel, rfl, by decide +kernel, by decide +kernel⟩
theorem ok_push {P : Program} {w : World} {K : PySem.W.Frag} {mg : Str → Option Value} {base : Heap} {f : Addr} {fd : FuncData} {dvs : List V} (T : LS.Bt mg) (ktb : LS.TbK K) (c_check_states : LS.Cf P w K mg base 3 "check_states" ["size", "states", "unlike"] [] (LS.sp3 K (fun (n : Int) (st : LS.Tp Int) (un : LS.Tp (Int × Int)) => Mi.CS n st un) (fun _ _ _ => ()))) (c_coming_row : LS.Cf P w K mg base 5 "coming_row" ["table", "c", "e"] [] (LS.sp3 K (fun (t : LS.Tbl) (c e : Int) => (Mi.Ok t.rows ∧ t.rows.length ≤ 5) ∧ 0 ≤ c ∧ c < t.rows.length ∧ 0 ≤ e ∧ e < t.rows.length ∧ c ≠ e) (fun t c e => LS.Tp.mk (Mi.frow t.rows c (LS.srt [e])))))
    (F : FunD K "push" "push" (defArgs Hd.s_push) (defBody Hd.s_push) (defScope Hd.s_push) dvs [] f fd) : FnOk P w K mg base CX0 6 f fd ["table", "a", "b", "c", "e"] (LS.sp5 K (fun (t : LS.Tbl) (a b c e : Int) => ((Mi.Ok t.rows ∧ t.rows.length ≤ 5) ∧ 0 ≤ c ∧ c < t.rows.length ∧ 0 ≤ e ∧ e < t.rows.length ∧ c ≠ e) ∧ 0 ≤ a ∧ a < t.rows.length ∧ 0 ≤ b ∧ b < t.rows.length ∧ a ≠ b) (fun t a b c e => (Mi.frow t.rows c (LS.srt [e])).getD b.toNat default - (Mi.frow t.rows c (LS.srt [e])).getD a.toNat default)) := by
  have nd := sc_push.nd
  refine F.ok sc_push LS.sp_len5 (fun cdv A outer s H vs Q E hr h => ⟨_, PSs.nox (pss_cons (ps_expr (LS.pe_cf c_check_states (hr.mono (by decide)) (by rfl) (pa_cons (LS.k_fld (K := K) rfl (pv 0)) (pa_cons (pe_tup (pa_cons (pv 1) (pa_cons (pv 2) (pa_cons (pv 3) (pa_cons (pv 4) pa_nil))))) (pa_cons (pe_tup (pa_cons (pe_tup (pa_cons pe_int (pa_cons pe_int pa_nil))) (pa_cons (pe_tup (pa_cons pe_int (pa_cons pe_int pa_nil))) pa_nil))) pa_nil)))))
    (pss_cons (ps_set (i := 5) nd rfl (.inl rfl) (LS.pe_cf c_coming_row (hr.mono (by decide)) (by rfl) (pa_cons (pv 0) (pa_cons (pv 3) (pa_cons (pv 4) pa_nil)))))
    (pss_one (ps_ret (pe_op op_sub (pe_ix (LS.k_ixT (K := K) rfl) (pv 5) (pv 2) (fun _ _ => rfl)) (pe_ix (LS.k_ixT (K := K) rfl) (pv 5) (pv 1) (fun _ _ => rfl))))))), ?_⟩)

  refine LS.body5 (spf := fun a b c d e => [.is a, .is b, .is c, .is d, .is e, .no]) h (fun _ _ _ _ _ => rfl) fun F t a b c e hp k => ?_
  refine LS.go_seq ?_
  refine LS.go_drop ((LS.ex_call3 (LS.ex_size ktb (LS.ex_var rfl)) (LS.ex_tup (α := Int) (LS.el_cons (LS.ex_var rfl) (LS.el_cons (LS.ex_var rfl) (LS.el_cons (LS.ex_var rfl) (LS.el_cons (LS.ex_var rfl) LS.el_nil)))) (by simp)) (LS.ex_tup (α := (Int × Int)) (LS.el_cons (LS.ex_pair (α := Int) (β := Int) LS.ex_ci LS.ex_ci) (LS.el_cons (LS.ex_pair (α := Int) (β := Int) LS.ex_ci LS.ex_ci) LS.el_nil)) (by simp)) (by exact Mi.cs4 hp))) (LS.nx_go ?_)
  refine LS.go_seq ?_
  refine LS.go_asg ((LS.ex_call3 (LS.ex_var rfl) (LS.ex_var rfl) (LS.ex_var rfl) (by exact hp.1))) (LS.nx_go ?_)
  refine LS.go_retE ((LS.ex_sub (LS.ex_ixTd (α := Int) (LS.ex_var rfl) (LS.ex_var rfl) (by exact hp.2.2.2.1) (by (rw [Mi.frow_len]; exact hp.2.2.2.2.1))) (LS.ex_ixTd (α := Int) (LS.ex_var rfl) (LS.ex_var rfl) (by exact hp.2.1) (by (rw [Mi.frow_len]; exact hp.2.2.1))))) ?_ k
  rfl
theorem sc_law_int : FnScope ["_law_value"] ["_law_value"] (defScope Hd.s_law_int) := ⟨rfl, rfl, rfl, by decide +kernel, rfl, by decide +kernel, by decide +kernel⟩
theorem ok_law_int {P : Program} {w : World} {K : PySem.W.Frag} {mg : Str → Option Value} {base : Heap} {f : Addr} {fd : FuncData} {dvs : List V} (T : LS.Bt mg) 
    (F : FunD K "_law_int" "_law_int" (defArgs Hd.s_law_int) (defBody Hd.s_law_int) (defScope Hd.s_law_int) dvs [] f fd) : FnOk P w K mg base CX0 1 f fd ["_law_value"] (LS.sp1 K (fun _ : Int => True) (fun _ => true)) := by
  have nd := sc_law_int.nd
  refine F.ok sc_law_int LS.sp_len1 (fun cdv A outer s H vs Q E hr h => ⟨_, PSs.nox (pss_one (ps_ret (pe_and (pe_callB (LS.k_isi (K := K) rfl) (by rfl) T.isinstance (by decide +kernel) (pa_cons (pv 0) (pa_cons (pe_bltn (v := .ty "int") (u := .type "int") (by rfl) T.int (by decide +kernel) rfl) pa_nil))) (pe_one (pe_not (pe_callB (LS.k_isi (K := K) rfl) (by rfl) T.isinstance (by decide +kernel) (pa_cons (pv 0) (pa_cons (pe_bltn (v := .ty "bool") (u := .type "bool") (by rfl) T.bool (by decide +kernel) rfl) pa_nil)))))))), ?_⟩)

  refine LS.body1 (spf := fun a => [.is a]) h (fun _ => rfl) fun F a _ k => ?_
  refine LS.go_retE (LS.ex_andV (LS.isi_int (b := true) (LS.ex_var rfl) (by decide +kernel)) (fun _ => LS.ex_notV (LS.isi_int (b := false) (LS.ex_var rfl) (by decide +kernel)))) rfl k
theorem sc_law_lead : FnScope ["_law_heads", "_law_x", "_law_at", "_law_step"] ["_law_heads", "_law_x"] (defScope Hd.s_law_lead) := ⟨rfl, rfl, rfl, by decide +kernel, rfl, by decide +kernel, by decide +kernel⟩
theorem ok_law_lead {P : Program} {w : World} {K : PySem.W.Frag} {mg : Str → Option Value} {base : Heap} {f : Addr} {fd : FuncData} {dvs : List V} (T : LS.Bt mg) 
    (F : FunD K "_law_lead" "_law_lead" (defArgs Hd.s_law_lead) (defBody Hd.s_law_lead) (defScope Hd.s_law_lead) dvs [] f fd) : FnOk P w K mg base CX0 1 f fd ["_law_heads", "_law_x"] (LS.sp2 K (fun (hs : List Int) (x : Int) => Mi.Hd hs ∧ 0 ≤ x ∧ x < hs.length) (fun hs x => Mi.lead hs x)) := by
  have nd := sc_law_lead.nd
  refine F.ok sc_law_lead LS.sp_len2 (fun cdv A outer s H vs Q E hr h => ⟨_, PSs.nox (pss_cons (ps_set (i := 2) nd rfl (.inl rfl) (pv 1))
    (pss_cons (ps_for PassesOwn.never rfl (pi_range1 (by rfl) T.range (pa_cons (pe_callB (LS.k_len (K := K) rfl) (by rfl) T.len (by decide +kernel) (pa_cons (pv 0) pa_nil)) pa_nil)) (pg_name (i := 3) nd rfl (.inl rfl))
    (pss_one (ps_set (i := 2) nd rfl (.inl rfl) (pe_ix (LS.k_ixL (K := K) rfl) (pv 0) (pv 2) (fun _ _ => rfl)))))
    (pss_cons (ps_if (pt_cmpR op_eq (pe_ix (LS.k_ixL (K := K) rfl) (pv 0) (pv 2) (fun _ _ => rfl)) (pv 2) (nomark _)) (pss_one (ps_ret (pv 2))) pss_nil)
    (pss_one (ps_ret (pe_un un_neg pe_int)))))), ?_⟩)

  refine LS.body2 (spf := fun a b => [.is a, .is b, .no, .no]) h (fun _ _ => rfl) fun F hs x hp k => ?_
  refine LS.s_asg ((LS.ex_var rfl)) ?_
  refine LS.s_for (α := Int) ((LS.ei_rng1 (LS.ex_lenL (LS.ex_var rfl)) (by exact Mi.len62 hp.1))) LS.tg_name LS.ts_1 (fun i => [.is hs, .is x, .is (Mi.leadS hs i x), .no]) rfl (fun B' i a ha _ => ?_) ?_
  · refine LS.go_asg ((LS.ex_ixLd (α := Int) (LS.ex_var rfl) (LS.ex_var rfl) (by exact (Mi.leadS_in hp i).1) (by exact (Mi.leadS_in hp i).2))) (LS.nx_st (by walk_at "ls wk"))
  rw [LS.rng_len]
  refine LS.s_ifn ((LS.et_test (LS.ex_eq (LS.ex_ixLd (α := Int) (LS.ex_var rfl) (LS.ex_var rfl) (by exact (Mi.leadS_in hp _).1) (by exact (Mi.leadS_in hp _).2)) (LS.ex_var rfl)))) (fun q => LS.go_retE ((LS.ex_var rfl)) ?_ k) (fun q => LS.go_retE ((LS.ex_neg LS.ex_ci)) ?_ k)
  · unfold Mi.lead
    exact (if_pos (of_decide_eq_true q)).symm
  · unfold Mi.lead
    exact (if_neg (of_decide_eq_false q)).symm
theorem sc_law_forests : FnScope ["_law_grid_here", "_law_roots", "_law_rows", "_law_x", "_law_heads", "_law_longer", "_law_line", "_law_y", "_law_kept"] ["_law_grid_here", "_law_roots"] (defScope Hd.s_law_forests) := ⟨rfl, rfl, rfl, by decide +kernel, rfl, by decide +kernel, by decide +kernel⟩
theorem ok_law_forests {P : Program} {w : World} {K : PySem.W.Frag} {mg : Str → Option Value} {base : Heap} {f : Addr} {fd : FuncData} {dvs : List V} (T : LS.Bt mg) (c_law_lead : LS.Cf P w K mg base 1 "_law_lead" ["_law_heads", "_law_x"] [] (LS.sp2 K (fun (hs : List Int) (x : Int) => Mi.Hd hs ∧ 0 ≤ x ∧ x < hs.length) (fun hs x => Mi.lead hs x)))
    (F : FunD K "_law_forests" "_law_forests" (defArgs Hd.s_law_forests) (defBody Hd.s_law_forests) (defScope Hd.s_law_forests) dvs [] f fd) : FnOk P w K mg base CX0 2 f fd ["_law_grid_here", "_law_roots"] (LS.sp2 K (fun (g : List (List Int)) (roots : List Int) => Mi.Ok g ∧ g.length ≤ 5 ∧ ∀ r ∈ roots, 0 ≤ r ∧ r < g.length) Mi.forests) := by
  have nd := sc_law_forests.nd
  refine F.ok sc_law_forests LS.sp_len2 (fun cdv A outer s H vs Q E hr h => ⟨_, PSs.nox (pss_cons (ps_set (i := 2) nd rfl (.inl rfl) (pe_lst (pa_cons (pe_lst pa_nil) pa_nil)))
    (pss_cons (ps_for PassesOwn.never rfl (pi_range1 (by rfl) T.range (pa_cons (pe_callB (LS.k_len (K := K) rfl) (by rfl) T.len (by decide +kernel) (pa_cons (pv 0) pa_nil)) pa_nil)) (pg_name (i := 3) nd rfl (.inr rfl))
    (pss_cons (ps_setLc (i := 4) (own := [("_law_y", 7)]) rfl nd rfl rfl (sw_true rfl rfl rfl (by decide +kernel)) (pi_range1 (by rfl) T.range (pa_cons (pe_callB (LS.k_len (K := K) rfl) (by rfl) T.len (by decide +kernel) (pa_cons (pv 0) pa_nil)) pa_nil)) (blkOk_by (by kernel_rfl)) (fun _ _ _ _ _ => (pg_name (i := 7) nd rfl (.inl rfl))) (fun _ _ _ _ _ => pts_one (pt_cmpR op_gt (pe_ix (LS.k_ixL (K := K) rfl) (pe_ix (LS.k_ixL (K := K) rfl) (pv 0) (pv 3) (fun _ _ => rfl)) (pv 7) (fun _ _ => rfl)) pe_int (nomark _))) (fun _ _ _ _ _ => (pv 7)))
    (pss_cons (ps_if (pt_cmpR (LS.k_in (K := K) rfl) (pv 3) (pv 1) (by with_unfolding_all rfl)) (pss_one (ps_set (i := 4) nd rfl (.inl rfl) (pe_lst (pa_cons (pv 3) pa_nil)))) pss_nil)
    (pss_cons (ps_set (i := 5) nd rfl (.inl rfl) (pe_lst pa_nil))
    (pss_cons (ps_for PassesOwn.never rfl (LS.k_list (K := K) rfl (pv 2)) (pg_name (i := 6) nd rfl (.inr rfl))
    (pss_one (ps_for PassesOwn.never rfl (LS.k_list (K := K) rfl (pv 4)) (pg_name (i := 7) nd rfl (.inl rfl))
    (pss_one (ps_expr (LS.k_bm (K := K) rfl PySem.F.plainAttrs_list PySem.F.slot_list_append PySem.F.type_list_append mt_append (pv 5) (pa_cons (pe_op op_cat (pv 6) (pe_lst (pa_cons (pv 7) pa_nil))) pa_nil)))))))
    (pss_one (ps_set (i := 2) nd rfl (.inl rfl) (pe_callTy (LS.k_listOf (K := K) rfl) (by rfl) T.list (by decide +kernel) (pa_cons (pv 5) pa_nil)))))))))
    (pss_cons (ps_set (i := 8) nd rfl (.inl rfl) (pe_lst pa_nil))
    (pss_cons (ps_for PassesOwn.never rfl (LS.k_list (K := K) rfl (pv 2)) (pg_name (i := 6) nd rfl (.inr rfl))
    (pss_one (ps_if (pt_val (pe_callB (LS.k_all (K := K) rfl rfl) (by rfl) T.all (by decide +kernel) (pa_cons (pe_lc (own := [("_law_x", 3)]) rfl nd (pi_range1 (by rfl) T.range (pa_cons (pe_callB (LS.k_len (K := K) rfl) (by rfl) T.len (by decide +kernel) (pa_cons (pv 0) pa_nil)) pa_nil)) (blkOk_by (by kernel_rfl)) (fun _ _ _ _ _ => (pg_name (i := 3) nd rfl (.inl rfl))) (fun _ _ _ _ _ => pts_nil) (fun _ _ _ _ _ => (pe_cmpR (LS.k_in (K := K) rfl) (LS.pe_cf c_law_lead (hr.mono (by decide)) (by rfl) (pa_cons (pv 6) (pa_cons (pv 3) pa_nil))) (pv 1) (by with_unfolding_all rfl)))) pa_nil))) (pss_one (ps_expr (LS.k_bm (K := K) rfl PySem.F.plainAttrs_list PySem.F.slot_list_append PySem.F.type_list_append mt_append (pv 8) (pa_cons (pe_callTy (LS.k_tupOf (K := K) rfl) (by rfl) T.tuple (by decide +kernel) (pa_cons (pv 6) pa_nil)) pa_nil)))) pss_nil)))
    (pss_one (ps_ret (pv 8))))))), ?_⟩)

  refine LS.body2 (spf := fun a b => [.is a, .is b, .no, .no, .no, .no, .no, .no, .no]) h (fun _ _ => rfl) fun F g roots hp k => ?_
  obtain ⟨hg, h5, hr⟩ := hp
  refine LS.s_asg (a := ([[]] : List (List Int))) ((LS.ex_lst (LS.el_cons (LS.ex_lst LS.el_nil (by simp)) LS.el_nil) (by simp))) ?_
  refine LS.s_for (α := Int) ((LS.ei_rng1 (LS.ex_lenL (LS.ex_var rfl)) (by omega))) LS.tg_name LS.ts_1 (fun i => [.is g, .is roots, .is (Mi.lines g roots i), .no, .no, .no, .no, .no, .no]) rfl (fun B' i x hx _ => ?_) ?_
  · obtain ⟨ex, hi⟩ := LS.rng_get hx
    have hi : i < g.length := by omega
    have hx0 : 0 ≤ x ∧ x < (g.length : Int) := by omega
    refine LS.s_asg (LS.ex_is ((LS.ex_lcf (α := Int) (γ := Int) (LS.ei_rng1 (LS.ex_lenL (LS.ex_var rfl)) (by omega)) LS.tg_name (by decide) (by (rw [LS.rng_len]; omega)) (fun a0 ha0 => (LS.et_test (LS.ex_gt (LS.ex_ixLd (α := Int) (LS.ex_ixLd (α := (List Int)) (LS.ex_var rfl) (LS.ex_var rfl) (by exact hx0.1) (by exact hx0.2)) (LS.ex_var rfl) (by exact (LS.rng_mem ha0).1) (by (rw [hg.row hx0.1 hx0.2]; exact (LS.rng_mem ha0).2))) LS.ex_ci))) (fun a0 ha0 hp0 => (LS.ex_var rfl)))) (List.map_id' _)) ?_
    refine LS.s_ifasg (b := roots.contains x) (a := [x]) ((LS.et_test (LS.ex_inL (neg := false) (LS.ex_var rfl) (LS.ex_var rfl)))) ((LS.ex_lst (α := Int) (LS.el_cons (LS.ex_var rfl) LS.el_nil) (by simp))) rfl ?_
    refine LS.s_own (α := List Int) (by decide : (5 : Nat) < 9) ?_
    refine LS.s_for (α := List Int) ((LS.ei_list (α := (List Int)) (LS.ex_var rfl))) LS.tg_name LS.ts_1 (fun j => [.is g, .is roots, .is (Mi.lines g roots i), .is x, .is (Mi.heads g roots x), .own (((Mi.lines g roots i).take j).flatMap fun l => (Mi.heads g roots x).map fun y => l ++ [y]), .no, .no, .no]) rfl (fun B2 j line hl _ => ?_) ?_
    · refine LS.go_for (α := Int) ((LS.ei_list (α := Int) (LS.ex_var rfl))) LS.tg_name LS.ts_1 (fun m => [.is g, .is roots, .is (Mi.lines g roots i), .is x, .is (Mi.heads g roots x), .own (((Mi.lines g roots i).take j).flatMap (fun l => (Mi.heads g roots x).map fun y => l ++ [y]) ++ ((Mi.heads g roots x).take m).map fun y => line ++ [y]), .is line, .no, .no])
        (by rw [List.take_zero, List.map_nil, List.append_nil]; rfl) (fun B3 m y hy _ => ?_) ?_
      · refine LS.go_app (α := List Int) rfl ((LS.ex_catL (α := Int) (LS.ex_var rfl) (LS.ex_lst (α := Int) (LS.el_cons (LS.ex_var rfl) LS.el_nil) (by simp)) (by exact Mi.cat_few h5 hi hl))) (Mi.prev_few h5 hi) (LS.nx_st (.cons (.inl rfl) (.cons (.inl rfl) (.cons (.inl rfl) (.cons (.inl rfl) (.cons (.inl rfl) (.cons (.inl (congrArg LS.Sl.own ?_)) (.cons (.inl rfl) (.cons (.inr rfl) (.cons (.inl rfl) .nil))))))))))
        rw [Mi.map_step hy, List.append_assoc]
      · refine LS.nx_st (.cons (.inl rfl) (.cons (.inl rfl) (.cons (.inl rfl) (.cons (.inl rfl) (.cons (.inl rfl) (.cons (.inl (congrArg LS.Sl.own ?_)) (.cons (.inr rfl) (.cons (.inl rfl) (.cons (.inl rfl) .nil)))))))))
        rw [Mi.flat_step hl, List.take_length]
    refine LS.go_frz (j := 5) rfl ?_
    refine LS.go_asg ((LS.ex_listL (α := (List Int)) (LS.ex_var rfl))) (LS.nx_st (.cons (.inl rfl) (.cons (.inl rfl) (.cons (.inl (congrArg LS.Sl.is ?_)) (.cons (.inr rfl) (.cons (.inr rfl) (.cons (.inr rfl) (.cons (.inl rfl) (.cons (.inl rfl) (.cons (.inl rfl) .nil))))))))))
    rw [List.take_length, ex]
    rfl
  rw [LS.rng_len, Int.toNat_natCast]
  refine LS.s_own (α := LS.Tp Int) (by decide : (8 : Nat) < 9) ?_
  refine LS.s_for (α := List Int) ((LS.ei_list (α := (List Int)) (LS.ex_var rfl))) LS.tg_name LS.ts_1 (fun j => [.is g, .is roots, .is (Mi.lines g roots g.length), .no, .no, .no, .no, .no, .own ((((Mi.lines g roots g.length).take j).filter fun line => ((LS.rng g.length).map fun x => roots.contains (Mi.lead line x)).all id).map LS.Tp.mk)]) rfl (fun B2 j line hl0 _ => ?_) ?_
  · have hl := List.mem_of_getElem? hl0
    refine LS.go_if (b := ((LS.rng g.length).map fun x => roots.contains (Mi.lead line x)).all id) ((LS.et_b (LS.ex_all (LS.ex_lc (α := Int) (γ := Bool) (LS.ei_rng1 (LS.ex_lenL (LS.ex_var rfl)) (by omega)) LS.tg_name (by decide) (by (rw [LS.rng_len]; omega)) (fun a0 ha0 => (LS.ex_inL (neg := false) (LS.ex_call2 (LS.ex_var rfl) (LS.ex_var rfl) (by exact Mi.lead_ok h5 hl (LS.rng_mem ha0))) (LS.ex_var rfl))))))) (fun q => LS.go_app (α := LS.Tp Int) rfl ((LS.ex_tupL (α := Int) (LS.ex_var rfl))) (Mi.kept_few h5) (LS.nx_st (.cons (.inl rfl) (.cons (.inl rfl) (.cons (.inl rfl) (.cons (.inl rfl) (.cons (.inl rfl) (.cons (.inl rfl) (.cons (.inr rfl) (.cons (.inl rfl) (.cons (.inl (congrArg LS.Sl.own ?_)) .nil))))))))))) (fun q => LS.go_next (LS.nx_st (.cons (.inl rfl) (.cons (.inl rfl) (.cons (.inl rfl) (.cons (.inl rfl) (.cons (.inl rfl) (.cons (.inl rfl) (.cons (.inr rfl) (.cons (.inl rfl) (.cons (.inl (congrArg LS.Sl.own ?_)) .nil)))))))))))
    · rw [Mi.filt_step hl0, if_pos q, List.map_append]
      rfl
    · rw [Mi.filt_step hl0, if_neg (by rw [q]; decide), List.append_nil]
  refine LS.go_frz (j := 8) rfl ?_
  refine LS.go_retE ((LS.ex_var rfl)) ?_ k
  rw [List.take_length]
  rfl
theorem sc_law_lead_t : FnScope ["_law_heads", "_law_x", "_law_at", "_law_step"] ["_law_heads", "_law_x"] (defScope Hd.s_law_lead) := ⟨rfl, rfl, rfl, by decide +kernel, rfl, by decide +kernel, by decide +kernel⟩
theorem ok_law_lead_t {P : Program} {w : World} {K : PySem.W.Frag} {mg : Str → Option Value} {base : Heap} {f : Addr} {fd : FuncData} {dvs : List V} (T : LS.Bt mg) 
    (F : FunD K "_law_lead" "_law_lead" (defArgs Hd.s_law_lead) (defBody Hd.s_law_lead) (defScope Hd.s_law_lead) dvs [] f fd) : FnOk P w K mg base CX0 1 f fd ["_law_heads", "_law_x"] (LS.sp2 K (fun (hs : LS.Tp Int) (x : Int) => Mi.Hd hs.l ∧ 0 ≤ x ∧ x < hs.l.length) (fun hs x => Mi.lead hs.l x)) := by
  have nd := sc_law_lead_t.nd
  refine F.ok sc_law_lead_t LS.sp_len2 (fun cdv A outer s H vs Q E hr h => ⟨_, PSs.nox (pss_cons (ps_set (i := 2) nd rfl (.inl rfl) (pv 1))
    (pss_cons (ps_for PassesOwn.never rfl (pi_range1 (by rfl) T.range (pa_cons (pe_callB (LS.k_len (K := K) rfl) (by rfl) T.len (by decide +kernel) (pa_cons (pv 0) pa_nil)) pa_nil)) (pg_name (i := 3) nd rfl (.inl rfl))
    (pss_one (ps_set (i := 2) nd rfl (.inl rfl) (pe_ix (LS.k_ixT (K := K) rfl) (pv 0) (pv 2) (fun _ _ => rfl)))))
    (pss_cons (ps_if (pt_cmpR op_eq (pe_ix (LS.k_ixT (K := K) rfl) (pv 0) (pv 2) (fun _ _ => rfl)) (pv 2) (nomark _)) (pss_one (ps_ret (pv 2))) pss_nil)
    (pss_one (ps_ret (pe_un un_neg pe_int)))))), ?_⟩)

  refine LS.body2 (spf := fun a b => [.is a, .is b, .no, .no]) h (fun _ _ => rfl) fun F hs x hp k => ?_
  refine LS.s_asg ((LS.ex_var rfl)) ?_
  refine LS.s_for (α := Int) ((LS.ei_rng1 (LS.ex_lenT (LS.ex_var rfl)) (by exact Mi.len62 hp.1))) LS.tg_name LS.ts_1 (fun i => [.is hs, .is x, .is (Mi.leadS hs.l i x), .no]) rfl (fun B' i a ha _ => ?_) ?_
  · refine LS.go_asg ((LS.ex_ixTd (α := Int) (LS.ex_var rfl) (LS.ex_var rfl) (by exact (Mi.leadS_in hp i).1) (by exact (Mi.leadS_in hp i).2))) (LS.nx_st (by walk_at "ls wk"))
  rw [LS.rng_len]
  refine LS.s_ifn ((LS.et_test (LS.ex_eq (LS.ex_ixTd (α := Int) (LS.ex_var rfl) (LS.ex_var rfl) (by exact (Mi.leadS_in hp _).1) (by exact (Mi.leadS_in hp _).2)) (LS.ex_var rfl)))) (fun q => LS.go_retE ((LS.ex_var rfl)) ?_ k) (fun q => LS.go_retE ((LS.ex_neg LS.ex_ci)) ?_ k)
  · unfold Mi.lead
    exact (if_pos (of_decide_eq_true q)).symm
  · unfold Mi.lead
    exact (if_neg (of_decide_eq_false q)).symm
theorem sc_law_weight : FnScope ["_law_grid_here", "_law_heads", "_law_whole", "_law_x"] ["_law_grid_here", "_law_heads"] (defScope Hd.s_law_weight) := ⟨rfl, rfl, rfl, by decide +kernel, rfl, by decide +kernel, by decide +kernel⟩
theorem ok_law_weight {P : Program} {w : World} {K : PySem.W.Frag} {mg : Str → Option Value} {base : Heap} {f : Addr} {fd : FuncData} {dvs : List V} (T : LS.Bt mg) 
    (F : FunD K "_law_weight" "_law_weight" (defArgs Hd.s_law_weight) (defBody Hd.s_law_weight) (defScope Hd.s_law_weight) dvs [] f fd) : FnOk P w K mg base CX0 1 f fd ["_law_grid_here", "_law_heads"] (LS.sp2 K (fun (g : List (List Int)) (hs : LS.Tp Int) => Mi.Ok g ∧ Mi.Hd hs.l ∧ hs.l.length = g.length) (fun g hs => Mi.weight g hs.l)) := by
  have nd := sc_law_weight.nd
  refine F.ok sc_law_weight LS.sp_len2 (fun cdv A outer s H vs Q E hr h => ⟨_, PSs.nox (pss_cons (ps_set (i := 2) nd rfl (.inl rfl) pe_int)
    (pss_cons (ps_for PassesOwn.never rfl (pi_range1 (by rfl) T.range (pa_cons (pe_callB (LS.k_len (K := K) rfl) (by rfl) T.len (by decide +kernel) (pa_cons (pv 1) pa_nil)) pa_nil)) (pg_name (i := 3) nd rfl (.inl rfl))
    (pss_one (ps_if (pt_cmpR op_ne (pe_ix (LS.k_ixT (K := K) rfl) (pv 1) (pv 3) (fun _ _ => rfl)) (pv 3) (nomark _)) (pss_one (ps_set (i := 2) nd rfl (.inl rfl) (pe_op op_mul (pv 2) (pe_ix (LS.k_ixL (K := K) rfl) (pe_ix (LS.k_ixL (K := K) rfl) (pv 0) (pv 3) (fun _ _ => rfl)) (pe_ix (LS.k_ixT (K := K) rfl) (pv 1) (pv 3) (fun _ _ => rfl)) (fun _ _ => rfl))))) pss_nil)))
    (pss_one (ps_ret (pv 2))))), ?_⟩)

  refine LS.body2 (spf := fun a b => [.is a, .is b, .no, .no]) h (fun _ _ => rfl) fun F g hs hp k => ?_
  refine LS.s_asg (LS.ex_ci) ?_
  refine LS.s_for (α := Int) ((LS.ei_rng1 (LS.ex_lenT (LS.ex_var rfl)) (by exact Mi.len62 hp.2.1))) LS.tg_name LS.ts_1 (fun i => [.is g, .is hs, .is (Mi.weightS g hs.l i), .no]) rfl (fun B' i a ha _ => ?_) ?_
  · have hb := Mi.wt_in hp ha
    have ei := LS.rng_get ha
    refine LS.go_if ((LS.et_test (LS.ex_ne (LS.ex_ixTd (α := Int) (LS.ex_var rfl) (LS.ex_var rfl) (by exact hb.1) (by exact hb.2.1)) (LS.ex_var rfl)))) (fun q => LS.go_asg ((LS.ex_mul (LS.ex_var rfl) (LS.ex_ixLd (α := Int) (LS.ex_ixLd (α := (List Int)) (LS.ex_var rfl) (LS.ex_var rfl) (by exact hb.1) (by exact hb.2.2.1)) (LS.ex_ixTd (α := Int) (LS.ex_var rfl) (LS.ex_var rfl) (by exact hb.1) (by exact hb.2.1)) (by exact hb.2.2.2.1) (by exact hb.2.2.2.2.1)) (by exact hb.2.2.2.2.2))) (LS.nx_st (.cons (.inl rfl) (.cons (.inl rfl) (.cons (.inl ?_) (.cons (.inr rfl) .nil)))))) (fun q => LS.go_next (LS.nx_st (.cons (.inl rfl) (.cons (.inl rfl) (.cons (.inl ?_) (.cons (.inr rfl) .nil))))))
    · exact congrArg LS.Sl.is (Mi.wt_step1 ei.1 (by simpa using q))
    · exact congrArg LS.Sl.is (Mi.wt_step2 ei.1 (by simpa using q))
  rw [LS.rng_len]
  exact LS.go_retE ((LS.ex_var rfl)) rfl k
theorem sc_law_push : FnScope ["_law_grid_here", "_law_a", "_law_b", "_law_c", "_law_e", "_law_whole", "_law_heads", "_law_side"] ["_law_grid_here", "_law_a", "_law_b", "_law_c", "_law_e"] (defScope Hd.s_law_push) := ⟨rfl, rfl, rfl, by decide +kernel, rfl, by decide +kernel, by decide +kernel⟩
theorem ok_law_push {P : Program} {w : World} {K : PySem.W.Frag} {mg : Str → Option Value} {base : Heap} {f : Addr} {fd : FuncData} {dvs : List V} (T : LS.Bt mg) (c_law_forests : LS.Cf P w K mg base 2 "_law_forests" ["_law_grid_here", "_law_roots"] [] (LS.sp2 K (fun (g : List (List Int)) (roots : List Int) => Mi.Ok g ∧ g.length ≤ 5 ∧ ∀ r ∈ roots, 0 ≤ r ∧ r < g.length) Mi.forests)) (c_law_lead_t : LS.Cf P w K mg base 1 "_law_lead" ["_law_heads", "_law_x"] [] (LS.sp2 K (fun (hs : LS.Tp Int) (x : Int) => Mi.Hd hs.l ∧ 0 ≤ x ∧ x < hs.l.length) (fun hs x => Mi.lead hs.l x))) (c_law_weight : LS.Cf P w K mg base 1 "_law_weight" ["_law_grid_here", "_law_heads"] [] (LS.sp2 K (fun (g : List (List Int)) (hs : LS.Tp Int) => Mi.Ok g ∧ Mi.Hd hs.l ∧ hs.l.length = g.length) (fun g hs => Mi.weight g hs.l)))
    (F : FunD K "_law_push" "_law_push" (defArgs Hd.s_law_push) (defBody Hd.s_law_push) (defScope Hd.s_law_push) dvs [] f fd) : FnOk P w K mg base CX0 3 f fd ["_law_grid_here", "_law_a", "_law_b", "_law_c", "_law_e"] (LS.sp5 K (fun (g : List (List Int)) (a b c e : Int) => (Mi.Ok g ∧ g.length ≤ 5) ∧ (0 ≤ a ∧ a < g.length) ∧ (0 ≤ b ∧ b < g.length) ∧ (0 ≤ c ∧ c < g.length) ∧ (0 ≤ e ∧ e < g.length)) Mi.pushF) := by
  have nd := sc_law_push.nd
  refine F.ok sc_law_push LS.sp_len5 (fun cdv A outer s H vs Q E hr h => ⟨_, PSs.nox (pss_cons (ps_set (i := 5) nd rfl (.inl rfl) pe_int)
    (pss_cons (ps_for PassesOwn.never rfl (LS.k_list (K := K) rfl (LS.pe_cf c_law_forests (hr.mono (by decide)) (by rfl) (pa_cons (pv 0) (pa_cons (pe_lst (pa_cons (pv 3) (pa_cons (pv 4) pa_nil))) pa_nil)))) (pg_name (i := 6) nd rfl (.inl rfl))
    (pss_cons (ps_set (i := 7) nd rfl (.inl rfl) (pe_op op_sub (pe_callTy call_int1 (by rfl) T.int (by decide +kernel) (pa_cons (pe_cmpR op_eq (LS.pe_cf c_law_lead_t (hr.mono (by decide)) (by rfl) (pa_cons (pv 6) (pa_cons (pv 2) pa_nil))) (pv 3) (nomark _)) pa_nil)) (pe_callTy call_int1 (by rfl) T.int (by decide +kernel) (pa_cons (pe_cmpR op_eq (LS.pe_cf c_law_lead_t (hr.mono (by decide)) (by rfl) (pa_cons (pv 6) (pa_cons (pv 1) pa_nil))) (pv 3) (nomark _)) pa_nil))))
    (pss_one (ps_set (i := 5) nd rfl (.inl rfl) (pe_op op_add (pv 5) (pe_op op_mul (pv 7) (LS.pe_cf c_law_weight (hr.mono (by decide)) (by rfl) (pa_cons (pv 0) (pa_cons (pv 6) pa_nil)))))))))
    (pss_one (ps_ret (pv 5))))), ?_⟩)

  refine LS.body5 (spf := fun a b c d e => [.is a, .is b, .is c, .is d, .is e, .no, .no, .no]) h (fun _ _ _ _ _ => rfl) fun F g a b c e hp k => ?_
  refine LS.s_asg (LS.ex_ci) ?_
  refine LS.s_for (α := LS.Tp Int) ((LS.ei_list (α := (LS.Tp Int)) (LS.ex_call2 (LS.ex_var rfl) (LS.ex_lst (α := Int) (LS.el_cons (LS.ex_var rfl) (LS.el_cons (LS.ex_var rfl) LS.el_nil)) (by simp)) (by exact ⟨hp.1.1, hp.1.2, Mi.mem2 hp.2.2.2.1 hp.2.2.2.2⟩)))) LS.tg_name LS.ts_1 (fun i => [.is g, .is a, .is b, .is c, .is e, .is ((((Mi.forests g [c, e]).take i).map fun t => ((if decide (Mi.lead t.l b = c) = true then (1 : Int) else 0) - (if decide (Mi.lead t.l a = c) = true then (1 : Int) else 0)) * Mi.weight g t.l).sum), .no, .no]) rfl (fun B' i t ht _ => ?_) ?_
  · have hd := Mi.forest_hd hp.1.2 (List.mem_of_getElem? ht)
    refine LS.s_asg ((LS.ex_sub (LS.ex_intb (LS.ex_eq (LS.ex_call2 (LS.ex_var rfl) (LS.ex_var rfl) (by exact ⟨hd.1, hp.2.2.1.1, by rw [hd.2]; exact hp.2.2.1.2⟩)) (LS.ex_var rfl))) (LS.ex_intb (LS.ex_eq (LS.ex_call2 (LS.ex_var rfl) (LS.ex_var rfl) (by exact ⟨hd.1, hp.2.1.1, by rw [hd.2]; exact hp.2.1.2⟩)) (LS.ex_var rfl))))) ?_
    refine LS.go_asg ((LS.ex_add (LS.ex_var rfl) (LS.ex_mul (LS.ex_var rfl) (LS.ex_call2 (LS.ex_var rfl) (LS.ex_var rfl) (by exact ⟨hp.1.1, hd.1, hd.2⟩)) (by exact .inl (by (repeat' split) <;> omega))))) (LS.nx_st (.cons (.inl rfl) (.cons (.inl rfl) (.cons (.inl rfl) (.cons (.inl rfl) (.cons (.inl rfl) (.cons (.inl (congrArg LS.Sl.is ?_)) (.cons (.inr rfl) (.cons (.inr rfl) .nil)))))))))
    rw [Mi.map_step ht]
    exact Mi.sum_app1 _ _
  refine LS.go_retE ((LS.ex_var rfl)) ?_ k
  rw [List.take_length]
  rfl
theorem sc_law_one_right : FnScope ["_law_grid_here", "_law_other", "_law_a", "_law_b", "_law_g", "_law_h", "_law_c", "_law_e", "_law_old", "_law_new", "_law_one", "_law_behind"] ["_law_grid_here", "_law_other", "_law_a", "_law_b", "_law_g", "_law_h", "_law_c", "_law_e"] (defScope Hd.s_law_one_right) := ⟨rfl, rfl, rfl, by decide +kernel, rfl, by decide +kernel, by decide +kernel⟩
theorem ok_law_one_right {P : Program} {w : World} {K : PySem.W.Frag} {mg : Str → Option Value} {base : Heap} {f : Addr} {fd : FuncData} {dvs : List V} (T : LS.Bt mg) (ktb : LS.TbK K) (m1 : Mi.T1) (m5 : Mi.T5) (c_law_copy : LS.Cf P w K mg base 1 "_law_copy" ["_law_grid_here"] [] (LS.sp1 K (fun g : List (List Int) => g.length ≤ 40000) id)) (c_mk_Table : LS.Cm P w K mg base 4 "Table" ["self", "rows"] (LS.spT K Mi.Ok)) (c_push : LS.Cf P w K mg base 6 "push" ["table", "a", "b", "c", "e"] [] (LS.sp5 K (fun (t : LS.Tbl) (a b c e : Int) => ((Mi.Ok t.rows ∧ t.rows.length ≤ 5) ∧ 0 ≤ c ∧ c < t.rows.length ∧ 0 ≤ e ∧ e < t.rows.length ∧ c ≠ e) ∧ 0 ≤ a ∧ a < t.rows.length ∧ 0 ≤ b ∧ b < t.rows.length ∧ a ≠ b) (fun t a b c e => (Mi.frow t.rows c (LS.srt [e])).getD b.toNat default - (Mi.frow t.rows c (LS.srt [e])).getD a.toNat default))) (c_law_int : LS.Cf P w K mg base 1 "_law_int" ["_law_value"] [] (LS.sp1 K (fun _ : Int => True) (fun _ => true))) (c_law_push : LS.Cf P w K mg base 3 "_law_push" ["_law_grid_here", "_law_a", "_law_b", "_law_c", "_law_e"] [] (LS.sp5 K (fun (g : List (List Int)) (a b c e : Int) => (Mi.Ok g ∧ g.length ≤ 5) ∧ (0 ≤ a ∧ a < g.length) ∧ (0 ≤ b ∧ b < g.length) ∧ (0 ≤ c ∧ c < g.length) ∧ (0 ≤ e ∧ e < g.length)) Mi.pushF))
    (F : FunD K "_law_one_right" "_law_one_right" (defArgs Hd.s_law_one_right) (defBody Hd.s_law_one_right) (defScope Hd.s_law_one_right) dvs [] f fd) : FnOk P w K mg base CX0 7 f fd ["_law_grid_here", "_law_other", "_law_a", "_law_b", "_law_g", "_law_h", "_law_c", "_law_e"] (LS.sp8 K Mi.OneP (fun _ _ _ _ _ _ _ _ => true)) := by
  have nd := sc_law_one_right.nd
  refine F.ok sc_law_one_right LS.sp_len8 (fun cdv A outer s H vs Q E hr h => ⟨_, PSs.nox (pss_cons (ps_set (i := 8) nd rfl (.inl rfl) (LS.pe_mk c_mk_Table (hr.mono (by decide)) (by rfl) (pa_cons (LS.pe_cf c_law_copy (hr.mono (by decide)) (by rfl) (pa_cons (pv 0) pa_nil)) pa_nil)))
    (pss_cons (ps_set (i := 9) nd rfl (.inl rfl) (LS.pe_mk c_mk_Table (hr.mono (by decide)) (by rfl) (pa_cons (LS.pe_cf c_law_copy (hr.mono (by decide)) (by rfl) (pa_cons (pv 1) pa_nil)) pa_nil)))
    (pss_cons (ps_set (i := 10) nd rfl (.inl rfl) (LS.pe_cf c_push (hr.mono (by decide)) (by rfl) (pa_cons (pv 8) (pa_cons (pv 2) (pa_cons (pv 3) (pa_cons (pv 6) (pa_cons (pv 7) pa_nil)))))))
    (pss_cons (ps_set (i := 11) nd rfl (.inl rfl) (LS.pe_cf c_push (hr.mono (by decide)) (by rfl) (pa_cons (pv 9) (pa_cons (pv 2) (pa_cons (pv 3) (pa_cons (pv 6) (pa_cons (pv 7) pa_nil)))))))
    (pss_cons (ps_if (PW.pt (pw_or (pt_not (pt_val (LS.pe_cf c_law_int (hr.mono (by decide)) (by rfl) (pa_cons (pv 10) pa_nil)))) (pw_or1 (pt_not (pt_val (LS.pe_cf c_law_int (hr.mono (by decide)) (by rfl) (pa_cons (pv 11) pa_nil))))))) (pss_one (ps_ret pe_bl)) pss_nil)
    (pss_cons (ps_if (PW.pt (pw_or (pt_cmpR op_ne (pv 10) (LS.pe_cf c_law_push (hr.mono (by decide)) (by rfl) (pa_cons (pv 0) (pa_cons (pv 2) (pa_cons (pv 3) (pa_cons (pv 6) (pa_cons (pv 7) pa_nil)))))) (nomark _)) (pw_or1 (pt_cmpR op_ne (pv 11) (LS.pe_cf c_law_push (hr.mono (by decide)) (by rfl) (pa_cons (pv 1) (pa_cons (pv 2) (pa_cons (pv 3) (pa_cons (pv 6) (pa_cons (pv 7) pa_nil)))))) (nomark _))))) (pss_one (ps_ret pe_bl)) pss_nil)
    (pss_cons (ps_if (PW.pt (pw_or (PW.pt (pw_and (pt_cmpR op_eq (pv 2) (pv 4) (nomark _)) (pw_and1 (pt_cmpR op_eq (pv 3) (pv 5) (nomark _))))) (pw_or1 (PW.pt (pw_and (pt_cmpR op_eq (pv 2) (pv 5) (nomark _)) (pw_and1 (pt_cmpR op_eq (pv 3) (pv 4) (nomark _)))))))) (pss_one (ps_ret (pe_cmpR op_eq (pv 10) (pv 11) (nomark _)))) pss_nil)
    (pss_one (ps_ret pe_bl))))))))), ?_⟩)

  refine LS.body8 (spf := fun a b c d e g i j => [.is a, .is b, .is c, .is d, .is e, .is g, .is i, .is j, .no, .no, .no, .no]) h (fun _ _ _ _ _ _ _ _ => rfl) fun F g o a b G i c e p k => ?_
  have lg4 : g.length ≤ 40000 := by have := p.cg.n5; omega
  have lo4 : o.length ≤ 40000 := by have := p.cg.n5; have := p.cg.len; omega
  have q1 := m1 g a b c e p.cg.okg p.cg.n5 p.ia p.ib p.ic p.ie p.ce
  have q2 := m1 o a b c e p.cg.oko (by have := p.cg.n5; have := p.cg.len; omega) (p.ia.to p.cg.len) (p.ib.to p.cg.len) (p.ic.to p.cg.len) (p.ie.to p.cg.len) p.ce
  refine LS.s_asg (a := LS.Tbl.mk g) ((LS.ex_mk (LS.ex_call1 (LS.ex_var rfl) (by first | exact p.cg.okg | exact p.cg.oko | exact p.pg | exact p.po | exact p.lg | exact p.lo | exact True.intro | exact lg4 | exact lo4)) (by first | exact p.cg.okg | exact p.cg.oko | exact p.pg | exact p.po | exact p.lg | exact p.lo | exact True.intro | exact lg4 | exact lo4))) ?_
  refine LS.s_asg (a := LS.Tbl.mk o) ((LS.ex_mk (LS.ex_call1 (LS.ex_var rfl) (by first | exact p.cg.okg | exact p.cg.oko | exact p.pg | exact p.po | exact p.lg | exact p.lo | exact True.intro | exact lg4 | exact lo4)) (by first | exact p.cg.okg | exact p.cg.oko | exact p.pg | exact p.po | exact p.lg | exact p.lo | exact True.intro | exact lg4 | exact lo4))) ?_
  refine LS.s_asg (a := Mi.dif g a b c e) ((LS.ex_call5 (LS.ex_var rfl) (LS.ex_var rfl) (LS.ex_var rfl) (LS.ex_var rfl) (LS.ex_var rfl) (by first | exact p.cg.okg | exact p.cg.oko | exact p.pg | exact p.po | exact p.lg | exact p.lo | exact True.intro | exact lg4 | exact lo4))) ?_
  refine LS.s_asg (a := Mi.dif o a b c e) ((LS.ex_call5 (LS.ex_var rfl) (LS.ex_var rfl) (LS.ex_var rfl) (LS.ex_var rfl) (LS.ex_var rfl) (by first | exact p.cg.okg | exact p.cg.oko | exact p.pg | exact p.po | exact p.lg | exact p.lo | exact True.intro | exact lg4 | exact lo4))) ?_
  refine LS.s_ifn ((LS.et_or (LS.et_not (LS.et_b (LS.ex_call1 (LS.ex_var rfl) (by first | exact p.cg.okg | exact p.cg.oko | exact p.pg | exact p.po | exact p.lg | exact p.lo | exact True.intro | exact lg4 | exact lo4)))) (fun hq => (LS.et_not (LS.et_b (LS.ex_call1 (LS.ex_var rfl) (by first | exact p.cg.okg | exact p.cg.oko | exact p.pg | exact p.po | exact p.lg | exact p.lo | exact True.intro | exact lg4 | exact lo4))))))) (fun q => nomatch q) (fun _ => ?_)
  refine LS.s_ifn ((LS.et_or (LS.et_test (LS.ex_ne (LS.ex_var rfl) (LS.ex_call5 (LS.ex_var rfl) (LS.ex_var rfl) (LS.ex_var rfl) (LS.ex_var rfl) (LS.ex_var rfl) (by first | exact p.cg.okg | exact p.cg.oko | exact p.pg | exact p.po | exact p.lg | exact p.lo | exact True.intro | exact lg4 | exact lo4)))) (fun hq => (LS.et_test (LS.ex_ne (LS.ex_var rfl) (LS.ex_call5 (LS.ex_var rfl) (LS.ex_var rfl) (LS.ex_var rfl) (LS.ex_var rfl) (LS.ex_var rfl) (by first | exact p.cg.okg | exact p.cg.oko | exact p.pg | exact p.po | exact p.lg | exact p.lo | exact True.intro | exact lg4 | exact lo4))))))) (fun q => ?_) (fun _ => ?_)
  · exfalso
    simp [q1, q2] at q
  refine LS.s_ifn ((LS.et_or (LS.et_and (LS.et_test (LS.ex_eq (LS.ex_var rfl) (LS.ex_var rfl))) (fun hq => (LS.et_test (LS.ex_eq (LS.ex_var rfl) (LS.ex_var rfl))))) (fun hq => (LS.et_and (LS.et_test (LS.ex_eq (LS.ex_var rfl) (LS.ex_var rfl))) (fun hq => (LS.et_test (LS.ex_eq (LS.ex_var rfl) (LS.ex_var rfl)))))))) (fun q => LS.go_retE ((LS.ex_eq (LS.ex_var rfl) (LS.ex_var rfl))) ?_ k) (fun _ => LS.go_retE (LS.ex_cb) rfl k)
  refine decide_eq_true ?_
  simp only [Bool.or_eq_true, Bool.and_eq_true, decide_eq_true_eq] at q
  have q5 := m5 g o G i c e p.cg p.ic p.ie p.ce
  rcases q with ⟨rfl, rfl⟩ | ⟨rfl, rfl⟩
  · exact q5.symm
  · rw [Mi.dif_neg, Mi.dif_neg o, q5]
theorem sc_push_rows : FnScope ["table", "c", "e", "row", "a", "b"] ["table", "c", "e"] (defScope Hd.s_push_rows) := ⟨rfl, rfl, rfl, by decide +kernel, rfl, by decide +kernel, by decide +kernel⟩
theorem ok_push_rows {P : Program} {w : World} {K : PySem.W.Frag} {mg : Str → Option Value} {base : Heap} {f : Addr} {fd : FuncData} {dvs : List V} (T : LS.Bt mg) (ktb : LS.TbK K) (c_check_states : LS.Cf P w K mg base 3 "check_states" ["size", "states", "unlike"] [] (LS.sp3 K (fun (n : Int) (st : LS.Tp Int) (un : LS.Tp (Int × Int)) => Mi.CS n st un) (fun _ _ _ => ()))) (c_coming_row : LS.Cf P w K mg base 5 "coming_row" ["table", "c", "e"] [] (LS.sp3 K (fun (t : LS.Tbl) (c e : Int) => (Mi.Ok t.rows ∧ t.rows.length ≤ 5) ∧ 0 ≤ c ∧ c < t.rows.length ∧ 0 ≤ e ∧ e < t.rows.length ∧ c ≠ e) (fun t c e => LS.Tp.mk (Mi.frow t.rows c (LS.srt [e])))))
    (F : FunD K "push_rows" "push_rows" (defArgs Hd.s_push_rows) (defBody Hd.s_push_rows) (defScope Hd.s_push_rows) dvs [] f fd) : FnOk P w K mg base CX0 6 f fd ["table", "c", "e"] (LS.sp3 K (fun (t : LS.Tbl) (c e : Int) => (Mi.Ok t.rows ∧ t.rows.length ≤ 5) ∧ 0 ≤ c ∧ c < t.rows.length ∧ 0 ≤ e ∧ e < t.rows.length ∧ c ≠ e) (fun t c e => LS.tOf (Mi.pushT t.rows c e))) := by
  have nd := sc_push_rows.nd
  refine F.ok sc_push_rows LS.sp_len3 (fun cdv A outer s H vs Q E hr h => ⟨_, PSs.nox (pss_cons (ps_expr (LS.pe_cf c_check_states (hr.mono (by decide)) (by rfl) (pa_cons (LS.k_fld (K := K) rfl (pv 0)) (pa_cons (pe_tup (pa_cons (pv 1) (pa_cons (pv 2) pa_nil))) (pa_cons (pe_tup (pa_cons (pe_tup (pa_cons pe_int (pa_cons pe_int pa_nil))) pa_nil)) pa_nil)))))
    (pss_cons (ps_set (i := 3) nd rfl (.inr rfl) (LS.pe_cf c_coming_row (hr.mono (by decide)) (by rfl) (pa_cons (pv 0) (pa_cons (pv 1) (pa_cons (pv 2) pa_nil)))))
    (pss_one (ps_ret (pe_callTy (LS.k_tupOf (K := K) rfl) (by rfl) T.tuple (by decide +kernel) (pa_cons (pe_lc (own := [("a", 4)]) rfl nd (pi_range1 (by rfl) T.range (pa_cons (LS.k_fld (K := K) rfl (pv 0)) pa_nil)) (blkOk_by (by kernel_rfl)) (fun _ _ _ _ _ => (pg_name (i := 4) nd rfl (.inr rfl))) (fun _ _ _ _ _ => pts_nil) (fun _ _ _ _ _ => (pe_callTy (LS.k_tupOf (K := K) rfl) (by rfl) T.tuple (by decide +kernel) (pa_cons (pe_lc (own := [("b", 5)]) rfl nd (pi_range1 (by rfl) T.range (pa_cons (LS.k_fld (K := K) rfl (pv 0)) pa_nil)) (blkOk_by (by kernel_rfl)) (fun _ _ _ _ _ => (pg_name (i := 5) nd rfl (.inl rfl))) (fun _ _ _ _ _ => pts_nil) (fun _ _ _ _ _ => (pe_op op_sub (pe_ix (LS.k_ixT (K := K) rfl) (pv 3) (pv 5) (fun _ _ => rfl)) (pe_ix (LS.k_ixT (K := K) rfl) (pv 3) (pv 4) (fun _ _ => rfl))))) pa_nil)))) pa_nil)))))), ?_⟩)

  refine LS.body3 (spf := fun a b c => [.is a, .is b, .is c, .no, .no, .no]) h (fun _ _ _ => rfl) fun F t c e hp k => ?_
  refine LS.go_seq ?_
  refine LS.go_drop ((LS.ex_call3 (LS.ex_size ktb (LS.ex_var rfl)) (LS.ex_tup (α := Int) (LS.el_cons (LS.ex_var rfl) (LS.el_cons (LS.ex_var rfl) LS.el_nil)) (by simp)) (LS.ex_tup (α := (Int × Int)) (LS.el_cons (LS.ex_pair (α := Int) (β := Int) LS.ex_ci LS.ex_ci) LS.el_nil) (by simp)) (by exact Mi.cs2 hp))) (LS.nx_go ?_)
  refine LS.go_seq ?_
  refine LS.go_asg ((LS.ex_call3 (LS.ex_var rfl) (LS.ex_var rfl) (LS.ex_var rfl) (by exact hp))) (LS.nx_go ?_)
  refine LS.go_retE ((LS.ex_tupL (α := (LS.Tp Int)) (LS.ex_lc (α := Int) (γ := (LS.Tp Int)) (LS.ei_rng1 (LS.ex_size ktb (LS.ex_var rfl)) (by first | exact (LS.rng_mem ha0).1 | exact (LS.rng_mem ha1).1 | (rw [Mi.frow_len]; first | exact (LS.rng_mem ha0).2 | exact (LS.rng_mem ha1).2) | (rw [LS.rng_len]; have := hp.1.1.hi; omega) | (have := hp.1.1.hi; omega))) LS.tg_name (by decide) (by first | exact (LS.rng_mem ha0).1 | exact (LS.rng_mem ha1).1 | (rw [Mi.frow_len]; first | exact (LS.rng_mem ha0).2 | exact (LS.rng_mem ha1).2) | (rw [LS.rng_len]; have := hp.1.1.hi; omega) | (have := hp.1.1.hi; omega)) (fun a0 ha0 => (LS.ex_tupL (α := Int) (LS.ex_lc (α := Int) (γ := Int) (LS.ei_rng1 (LS.ex_size ktb (LS.ex_var rfl)) (by first | exact (LS.rng_mem ha0).1 | exact (LS.rng_mem ha1).1 | (rw [Mi.frow_len]; first | exact (LS.rng_mem ha0).2 | exact (LS.rng_mem ha1).2) | (rw [LS.rng_len]; have := hp.1.1.hi; omega) | (have := hp.1.1.hi; omega))) LS.tg_name (by decide) (by first | exact (LS.rng_mem ha0).1 | exact (LS.rng_mem ha1).1 | (rw [Mi.frow_len]; first | exact (LS.rng_mem ha0).2 | exact (LS.rng_mem ha1).2) | (rw [LS.rng_len]; have := hp.1.1.hi; omega) | (have := hp.1.1.hi; omega)) (fun a1 ha1 => (LS.ex_sub (LS.ex_ixTd (α := Int) (LS.ex_var rfl) (LS.ex_var rfl) (by first | exact (LS.rng_mem ha0).1 | exact (LS.rng_mem ha1).1 | (rw [Mi.frow_len]; first | exact (LS.rng_mem ha0).2 | exact (LS.rng_mem ha1).2) | (rw [LS.rng_len]; have := hp.1.1.hi; omega) | (have := hp.1.1.hi; omega)) (by first | exact (LS.rng_mem ha0).1 | exact (LS.rng_mem ha1).1 | (rw [Mi.frow_len]; first | exact (LS.rng_mem ha0).2 | exact (LS.rng_mem ha1).2) | (rw [LS.rng_len]; have := hp.1.1.hi; omega) | (have := hp.1.1.hi; omega))) (LS.ex_ixTd (α := Int) (LS.ex_var rfl) (LS.ex_var rfl) (by first | exact (LS.rng_mem ha0).1 | exact (LS.rng_mem ha1).1 | (rw [Mi.frow_len]; first | exact (LS.rng_mem ha0).2 | exact (LS.rng_mem ha1).2) | (rw [LS.rng_len]; have := hp.1.1.hi; omega) | (have := hp.1.1.hi; omega)) (by first | exact (LS.rng_mem ha0).1 | exact (LS.rng_mem ha1).1 | (rw [Mi.frow_len]; first | exact (LS.rng_mem ha0).2 | exact (LS.rng_mem ha1).2) | (rw [LS.rng_len]; have := hp.1.1.hi; omega) | (have := hp.1.1.hi; omega))))))))))) ?_ k
  unfold LS.tOf Mi.pushT
  rw [List.map_map]
  rfl
theorem sc_law_ints : FnScope ["_law_value", "_law_size", "_law_one"] ["_law_value", "_law_size"] (defScope Hd.s_law_ints) := ⟨rfl, rfl, rfl, by decide +kernel, rfl, by decide +kernel, by decide +kernel⟩
theorem ok_law_ints {P : Program} {w : World} {K : PySem.W.Frag} {mg : Str → Option Value} {base : Heap} {f : Addr} {fd : FuncData} {dvs : List V} (T : LS.Bt mg) (c_law_int : LS.Cf P w K mg base 1 "_law_int" ["_law_value"] [] (LS.sp1 K (fun _ : Int => True) (fun _ => true)))
    (F : FunD K "_law_ints" "_law_ints" (defArgs Hd.s_law_ints) (defBody Hd.s_law_ints) (defScope Hd.s_law_ints) dvs [] f fd) : FnOk P w K mg base CX0 2 f fd ["_law_value", "_law_size"] (LS.sp2 K (fun (v : LS.Tp Int) (_ : Int) => v.l.length ≤ 40000) (fun v n => decide ((v.l.length : Int) = n))) := by
  have nd := sc_law_ints.nd
  refine F.ok sc_law_ints LS.sp_len2 (fun cdv A outer s H vs Q E hr h => ⟨_, PSs.nox (pss_cons (ps_if (PW.pt (pw_or (pt_not (pt_val (pe_callB (LS.k_isi (K := K) rfl) (by rfl) T.isinstance (by decide +kernel) (pa_cons (pv 0) (pa_cons (pe_bltn (v := .ty "tuple") (u := .type "tuple") (by rfl) T.tuple (by decide +kernel) rfl) pa_nil))))) (pw_or1 (pt_cmpR op_ne (pe_callB (LS.k_len (K := K) rfl) (by rfl) T.len (by decide +kernel) (pa_cons (pv 0) pa_nil)) (pv 1) (nomark _))))) (pss_one (ps_ret pe_bl)) pss_nil)
    (pss_one (ps_ret (pe_callB (LS.k_all (K := K) rfl rfl) (by rfl) T.all (by decide +kernel) (pa_cons (pe_lc (own := [("_law_one", 2)]) rfl nd (LS.k_tup (K := K) rfl (pv 0)) (blkOk_by (by kernel_rfl)) (fun _ _ _ _ _ => (pg_name (i := 2) nd rfl (.inl rfl))) (fun _ _ _ _ _ => pts_nil) (fun _ _ _ _ _ => (LS.pe_cf c_law_int (hr.mono (by decide)) (by rfl) (pa_cons (pv 2) pa_nil)))) pa_nil))))), ?_⟩)

  refine LS.body2 (spf := fun a b => [.is a, .is b, .no]) h (fun _ _ => rfl) fun F v n hp k => ?_
  refine LS.s_ifn ((LS.et_or (LS.et_not (LS.et_b (LS.isi_tup (b := true) (LS.ex_var rfl) (by decide +kernel)))) (fun hq => (LS.et_test (LS.ex_ne (LS.ex_lenT (LS.ex_var rfl)) (LS.ex_var rfl)))))) (fun q => LS.go_retE (LS.ex_cb) ?_ k) (fun q => LS.go_retE ((LS.ex_all (LS.ex_lc (α := Int) (γ := Bool) (LS.ei_tup (α := Int) (LS.ex_var rfl)) LS.tg_name (by decide) (by exact hp) (fun a0 ha0 => (LS.ex_call1 (LS.ex_var rfl) (by exact True.intro)))))) ?_ k)
  · simp at q
    exact (decide_eq_false
          (by omega)).symm
  · simp at q
    rw [decide_eq_true q]
    simp
theorem sc_law_rows_kind : FnScope ["_law_rows", "_law_size", "_law_line"] ["_law_rows", "_law_size"] (defScope Hd.s_law_rows_kind) := ⟨rfl, rfl, rfl, by decide +kernel, rfl, by decide +kernel, by decide +kernel⟩
theorem ok_law_rows_kind {P : Program} {w : World} {K : PySem.W.Frag} {mg : Str → Option Value} {base : Heap} {f : Addr} {fd : FuncData} {dvs : List V} (T : LS.Bt mg) (c_law_ints : LS.Cf P w K mg base 2 "_law_ints" ["_law_value", "_law_size"] [] (LS.sp2 K (fun (v : LS.Tp Int) (_ : Int) => v.l.length ≤ 40000) (fun v n => decide ((v.l.length : Int) = n))))
    (F : FunD K "_law_rows_kind" "_law_rows_kind" (defArgs Hd.s_law_rows_kind) (defBody Hd.s_law_rows_kind) (defScope Hd.s_law_rows_kind) dvs [] f fd) : FnOk P w K mg base CX0 3 f fd ["_law_rows", "_law_size"] (LS.sp2 K (fun (v : LS.Tp (LS.Tp Int)) (n : Int) => (v.l.length : Int) = n ∧ v.l.length ≤ 8 ∧ ∀ r ∈ v.l, (r.l.length : Int) = n) (fun _ _ => true)) := by
  have nd := sc_law_rows_kind.nd
  refine F.ok sc_law_rows_kind LS.sp_len2 (fun cdv A outer s H vs Q E hr h => ⟨_, PSs.nox (pss_cons (ps_if (PW.pt (pw_or (pt_not (pt_val (pe_callB (LS.k_isi (K := K) rfl) (by rfl) T.isinstance (by decide +kernel) (pa_cons (pv 0) (pa_cons (pe_bltn (v := .ty "tuple") (u := .type "tuple") (by rfl) T.tuple (by decide +kernel) rfl) pa_nil))))) (pw_or1 (pt_cmpR op_ne (pe_callB (LS.k_len (K := K) rfl) (by rfl) T.len (by decide +kernel) (pa_cons (pv 0) pa_nil)) (pv 1) (nomark _))))) (pss_one (ps_ret pe_bl)) pss_nil)
    (pss_one (ps_ret (pe_callB (LS.k_all (K := K) rfl rfl) (by rfl) T.all (by decide +kernel) (pa_cons (pe_lc (own := [("_law_line", 2)]) rfl nd (LS.k_tup (K := K) rfl (pv 0)) (blkOk_by (by kernel_rfl)) (fun _ _ _ _ _ => (pg_name (i := 2) nd rfl (.inl rfl))) (fun _ _ _ _ _ => pts_nil) (fun _ _ _ _ _ => (LS.pe_cf c_law_ints (hr.mono (by decide)) (by rfl) (pa_cons (pv 2) (pa_cons (pv 1) pa_nil))))) pa_nil))))), ?_⟩)

  refine LS.body2 (spf := fun a b => [.is a, .is b, .no]) h (fun _ _ => rfl) fun F v n hp k => ?_
  have h8 := hp.2.1
  refine LS.s_ifn ((LS.et_or (LS.et_not (LS.et_b (LS.isi_tup (b := true) (LS.ex_var rfl) (by decide +kernel)))) (fun hq => (LS.et_test (LS.ex_ne (LS.ex_lenT (LS.ex_var rfl)) (LS.ex_var rfl)))))) (fun q => ?_) (fun q => LS.go_retE ((LS.ex_all (LS.ex_lc (α := (LS.Tp Int)) (γ := Bool) (LS.ei_tup (α := (LS.Tp Int)) (LS.ex_var rfl)) LS.tg_name (by decide) (by omega) (fun a0 ha0 => (LS.ex_call2 (LS.ex_var rfl) (LS.ex_var rfl) (by (have := hp.2.2 _ ha0; omega))))))) ?_ k)
  · exfalso
    simp [hp.1] at q
  · rw [List.all_eq_true]
    intro b hb
    obtain ⟨r, hr, rfl⟩ := List.mem_map.mp hb
    exact decide_eq_true (hp.2.2 r hr)
theorem sc_law_sum : FnScope ["_law_grid_here", "_law_roots", "_law_ends", "_law_whole", "_law_heads", "_law_pair_here"] ["_law_grid_here", "_law_roots", "_law_ends"] (defScope Hd.s_law_sum) := ⟨rfl, rfl, rfl, by decide +kernel, rfl, by decide +kernel, by decide +kernel⟩
theorem ok_law_sum {P : Program} {w : World} {K : PySem.W.Frag} {mg : Str → Option Value} {base : Heap} {f : Addr} {fd : FuncData} {dvs : List V} (T : LS.Bt mg) (c_law_forests : LS.Cf P w K mg base 2 "_law_forests" ["_law_grid_here", "_law_roots"] [] (LS.sp2 K (fun (g : List (List Int)) (roots : List Int) => Mi.Ok g ∧ g.length ≤ 5 ∧ ∀ r ∈ roots, 0 ≤ r ∧ r < g.length) Mi.forests)) (c_law_lead_t : LS.Cf P w K mg base 1 "_law_lead" ["_law_heads", "_law_x"] [] (LS.sp2 K (fun (hs : LS.Tp Int) (x : Int) => Mi.Hd hs.l ∧ 0 ≤ x ∧ x < hs.l.length) (fun hs x => Mi.lead hs.l x))) (c_law_weight : LS.Cf P w K mg base 1 "_law_weight" ["_law_grid_here", "_law_heads"] [] (LS.sp2 K (fun (g : List (List Int)) (hs : LS.Tp Int) => Mi.Ok g ∧ Mi.Hd hs.l ∧ hs.l.length = g.length) (fun g hs => Mi.weight g hs.l)))
    (F : FunD K "_law_sum" "_law_sum" (defArgs Hd.s_law_sum) (defBody Hd.s_law_sum) (defScope Hd.s_law_sum) dvs [] f fd) : FnOk P w K mg base CX0 3 f fd ["_law_grid_here", "_law_roots", "_law_ends"] (LS.sp3 K (fun (g : List (List Int)) (roots : List Int) (ends : List (Int × Int)) => (Mi.Ok g ∧ g.length ≤ 5 ∧ ∀ r ∈ roots, 0 ≤ r ∧ r < g.length) ∧ ends.length ≤ 8 ∧ ∀ p ∈ ends, 0 ≤ p.1 ∧ p.1 < g.length) Mi.sumF) := by
  have nd := sc_law_sum.nd
  refine F.ok sc_law_sum LS.sp_len3 (fun cdv A outer s H vs Q E hr h => ⟨_, PSs.nox (pss_cons (ps_set (i := 3) nd rfl (.inl rfl) pe_int)
    (pss_cons (ps_for PassesOwn.never rfl (LS.k_list (K := K) rfl (LS.pe_cf c_law_forests (hr.mono (by decide)) (by rfl) (pa_cons (pv 0) (pa_cons (pv 1) pa_nil)))) (pg_name (i := 4) nd rfl (.inr rfl))
    (pss_one (ps_if (pt_val (pe_callB (LS.k_all (K := K) rfl rfl) (by rfl) T.all (by decide +kernel) (pa_cons (pe_lc (own := [("_law_pair_here", 5)]) rfl nd (LS.k_list (K := K) rfl (pv 2)) (blkOk_by (by kernel_rfl)) (fun _ _ _ _ _ => (pg_name (i := 5) nd rfl (.inl rfl))) (fun _ _ _ _ _ => pts_nil) (fun _ _ _ _ _ => (pe_cmpR op_eq (LS.pe_cf c_law_lead_t (hr.mono (by decide)) (by rfl) (pa_cons (pv 4) (pa_cons (pe_ix (LS.k_ixT (K := K) rfl) (pv 5) pe_int (fun _ _ => rfl)) pa_nil))) (pe_ix (LS.k_ixT (K := K) rfl) (pv 5) pe_int (fun _ _ => rfl)) (nomark _)))) pa_nil))) (pss_one (ps_set (i := 3) nd rfl (.inl rfl) (pe_op op_add (pv 3) (LS.pe_cf c_law_weight (hr.mono (by decide)) (by rfl) (pa_cons (pv 0) (pa_cons (pv 4) pa_nil)))))) pss_nil)))
    (pss_one (ps_ret (pv 3))))), ?_⟩)

  refine LS.body3 (spf := fun a b c => [.is a, .is b, .is c, .no, .no, .no]) h (fun _ _ _ => rfl) fun F g roots ends hp k => ?_
  refine LS.s_asg (LS.ex_ci) ?_
  refine LS.s_for (α := LS.Tp Int) ((LS.ei_list (α := (LS.Tp Int)) (LS.ex_call2 (LS.ex_var rfl) (LS.ex_var rfl) (by exact hp.1)))) LS.tg_name LS.ts_1 (fun i => [.is g, .is roots, .is ends, .is (((((Mi.forests g roots).take i).filter (Mi.okEnds ends)).map fun t => Mi.weight g t.l).sum), .no, .no]) rfl (fun B' i t ht _ => ?_) ?_
  · have hd := Mi.forest_hd hp.1.2.1 (List.mem_of_getElem? ht)
    refine LS.go_if (b := Mi.okEnds ends t) ((LS.et_b (LS.ex_all (LS.ex_lc (α := (Int × Int)) (γ := Bool) (LS.ei_list (α := (Int × Int)) (LS.ex_var rfl)) LS.tg_name (by decide) (by (have := hp.2.1; omega)) (fun a0 ha0 => (LS.ex_eq (LS.ex_call2 (LS.ex_var rfl) (LS.ex_fst (α := Int) (β := Int) (LS.ex_var rfl)) (by exact ⟨hd.1, (hp.2.2 _ ha0).1, by rw [hd.2]; exact (hp.2.2 _ ha0).2⟩)) (LS.ex_snd (α := Int) (β := Int) (LS.ex_var rfl)))))))) (fun q => LS.go_asg ((LS.ex_add (LS.ex_var rfl) (LS.ex_call2 (LS.ex_var rfl) (LS.ex_var rfl) (by exact ⟨hp.1.1, hd.1, hd.2⟩)))) (LS.nx_st (.cons (.inl rfl) (.cons (.inl rfl) (.cons (.inl rfl) (.cons (.inl (congrArg LS.Sl.is ?_)) (.cons (.inr rfl) (.cons (.inl rfl) .nil)))))))) (fun q => LS.go_next (LS.nx_st (.cons (.inl rfl) (.cons (.inl rfl) (.cons (.inl rfl) (.cons (.inl (congrArg LS.Sl.is ?_)) (.cons (.inr rfl) (.cons (.inl rfl) .nil))))))))
    · rw [Mi.filt_step ht, if_pos q, List.map_append]
      exact Mi.sum_app1 _ _
    · rw [Mi.filt_step ht, if_neg (by rw [q]; decide), List.append_nil]
  refine LS.go_retE ((LS.ex_var rfl)) ?_ k
  rw [List.take_length]
  rfl
theorem sc_sum_within : FnScope ["rates", "part", "roots", "left", "x"] ["rates", "part", "roots"] (defScope Hd.s_sum_within) := ⟨rfl, rfl, rfl, by decide +kernel, rfl, by decide +kernel, by decide +kernel⟩
theorem ok_sum_within {P : Program} {w : World} {K : PySem.W.Frag} {mg : Str → Option Value} {base : Heap} {f : Addr} {fd : FuncData} {dvs : List V} (T : LS.Bt mg) (c_out_rows : LS.Cf P w K mg base 1 "out_rows" ["rates", "part", "left"] [] (LS.sp3 K (fun (r : LS.Tp (LS.Tp Int)) (part left : List Int) => Mi.Sq r ∧ Mi.Sts r.l.length part ∧ Mi.Sts r.l.length left ∧ part.length ≤ 8 ∧ left.length ≤ 8) Mi.outR)) (c_determinant : LS.Cf P w K mg base 2 "determinant" ["rows"] [] (LS.sp1 K (fun (m : List (List Int)) => Mi.Mat m) Mi.det))
    (F : FunD K "sum_within" "sum_within" (defArgs Hd.s_sum_within) (defBody Hd.s_sum_within) (defScope Hd.s_sum_within) dvs [] f fd) : FnOk P w K mg base CX0 3 f fd ["rates", "part", "roots"] (LS.sp3 K (fun (r : LS.Tp (LS.Tp Int)) (part : List Int) (roots : LS.Tp Int) => Mi.Tb r ∧ Mi.Sts r.l.length part ∧ part.length ≤ 8 ∧ (Mi.keep part roots.l).length ≤ 4) (fun r part roots => Mi.sumW r part roots.l)) := by
  have nd := sc_sum_within.nd
  refine F.ok sc_sum_within LS.sp_len3 (fun cdv A outer s H vs Q E hr h => ⟨_, PSs.nox (pss_cons (ps_setLc (i := 3) (own := [("x", 4)]) rfl nd rfl rfl (sw_true rfl rfl rfl (by decide +kernel)) (LS.k_list (K := K) rfl (pv 1)) (blkOk_by (by kernel_rfl)) (fun _ _ _ _ _ => (pg_name (i := 4) nd rfl (.inl rfl))) (fun _ _ _ _ _ => pts_one (pt_cmpR (LS.k_notIn (K := K) rfl) (pv 4) (pv 2) (by with_unfolding_all rfl))) (fun _ _ _ _ _ => (pv 4)))
    (pss_one (ps_ret (LS.pe_cf c_determinant (hr.mono (by decide)) (by rfl) (pa_cons (LS.pe_cf c_out_rows (hr.mono (by decide)) (by rfl) (pa_cons (pv 0) (pa_cons (pv 1) (pa_cons (pv 3) pa_nil)))) pa_nil))))), ?_⟩)

  refine LS.body3 (spf := fun a b c => [.is a, .is b, .is c, .no, .no]) h (fun _ _ _ => rfl) fun F r part roots hp k => ?_
  obtain ⟨q1, q2, q3, q4⟩ := id hp
  refine LS.go_seq ?_
  refine LS.go_asg (LS.ex_is ((LS.ex_lcf (α := Int) (γ := Int) (LS.ei_list (α := Int) (LS.ex_var rfl)) LS.tg_name (by decide) (by omega) (fun a0 ha0 => (LS.et_test (LS.ex_inT (neg := true) (LS.ex_var rfl) (LS.ex_var rfl)))) (fun a0 ha0 hp0 => (LS.ex_var rfl)))) (show _ = Mi.keep part roots.l from List.map_id' _)) ?_
  refine LS.nx_go ?_
  refine LS.go_retE ((LS.ex_call1 (LS.ex_call3 (LS.ex_var rfl) (LS.ex_var rfl) (LS.ex_var rfl) (by exact ⟨hp.1.toSq, hp.2.1, Mi.keep_sts hp.2.1, hp.2.2.1, by omega⟩)) (by exact Mi.mat_outR hp.1 hp.2.1 (Mi.keep_sts hp.2.1) hp.2.2.1 hp.2.2.2))) ?_ k
  rfl
theorem sc_sum_over : FnScope ["rates", "roots"] ["rates", "roots"] (defScope Hd.s_sum_over) := ⟨rfl, rfl, rfl, by decide +kernel, rfl, by decide +kernel, by decide +kernel⟩
theorem ok_sum_over {P : Program} {w : World} {K : PySem.W.Frag} {mg : Str → Option Value} {base : Heap} {f : Addr} {fd : FuncData} {dvs : List V} (T : LS.Bt mg) (c_sum_within : LS.Cf P w K mg base 3 "sum_within" ["rates", "part", "roots"] [] (LS.sp3 K (fun (r : LS.Tp (LS.Tp Int)) (part : List Int) (roots : LS.Tp Int) => Mi.Tb r ∧ Mi.Sts r.l.length part ∧ part.length ≤ 8 ∧ (Mi.keep part roots.l).length ≤ 4) (fun r part roots => Mi.sumW r part roots.l)))
    (F : FunD K "sum_over" "sum_over" (defArgs Hd.s_sum_over) (defBody Hd.s_sum_over) (defScope Hd.s_sum_over) dvs [] f fd) : FnOk P w K mg base CX0 4 f fd ["rates", "roots"] (LS.sp2 K (fun (r : LS.Tp (LS.Tp Int)) (roots : LS.Tp Int) => Mi.Tb r ∧ (Mi.keep (LS.rng r.l.length) roots.l).length ≤ 4) (fun r roots => Mi.sumW r (LS.rng r.l.length) roots.l)) := by
  have nd := sc_sum_over.nd
  refine F.ok sc_sum_over LS.sp_len2 (fun cdv A outer s H vs Q E hr h => ⟨_, PSs.nox (pss_one (ps_ret (LS.pe_cf c_sum_within (hr.mono (by decide)) (by rfl) (pa_cons (pv 0) (pa_cons (pe_listRg rfl (by rfl) T.list (prg_1 (by rfl) T.range (pe_callB (LS.k_len (K := K) rfl) (by rfl) T.len (by decide +kernel) (pa_cons (pv 0) pa_nil)))) (pa_cons (pv 1) pa_nil)))))), ?_⟩)

  refine LS.body2 (spf := fun a b => [.is a, .is b]) h (fun _ _ => rfl) fun F r roots hp k => ?_
  refine LS.go_retE ((LS.ex_call3 (LS.ex_var rfl) (LS.ex_listRg (LS.ex_lenT (LS.ex_var rfl)) (by (have := hp.1.len; omega))) (LS.ex_var rfl) (by exact ⟨hp.1, Mi.sts_rng _ (by omega), by (rw [LS.rng_len]; have := hp.1.len; omega), hp.2⟩))) ?_ k
  rfl
theorem sc_pair_sum : FnScope ["table", "c", "e"] ["table", "c", "e"] (defScope Hd.s_pair_sum) := ⟨rfl, rfl, rfl, by decide +kernel, rfl, by decide +kernel, by decide +kernel⟩
theorem ok_pair_sum {P : Program} {w : World} {K : PySem.W.Frag} {mg : Str → Option Value} {base : Heap} {f : Addr} {fd : FuncData} {dvs : List V} (T : LS.Bt mg) (ktb : LS.TbK K) (c_check_states : LS.Cf P w K mg base 3 "check_states" ["size", "states", "unlike"] [] (LS.sp3 K (fun (n : Int) (st : LS.Tp Int) (un : LS.Tp (Int × Int)) => Mi.CS n st un) (fun _ _ _ => ()))) (c_sum_over : LS.Cf P w K mg base 4 "sum_over" ["rates", "roots"] [] (LS.sp2 K (fun (r : LS.Tp (LS.Tp Int)) (roots : LS.Tp Int) => Mi.Tb r ∧ (Mi.keep (LS.rng r.l.length) roots.l).length ≤ 4) (fun r roots => Mi.sumW r (LS.rng r.l.length) roots.l)))
    (F : FunD K "pair_sum" "pair_sum" (defArgs Hd.s_pair_sum) (defBody Hd.s_pair_sum) (defScope Hd.s_pair_sum) dvs [] f fd) : FnOk P w K mg base CX0 5 f fd ["table", "c", "e"] (LS.sp3 K (fun (t : LS.Tbl) (c e : Int) => (Mi.Ok t.rows ∧ t.rows.length ≤ 5) ∧ 0 ≤ c ∧ c < t.rows.length ∧ 0 ≤ e ∧ e < t.rows.length ∧ c ≠ e) (fun t c e => Mi.sumW (LS.tOf t.rows) (LS.rng t.rows.length) [c, e])) := by
  have nd := sc_pair_sum.nd
  refine F.ok sc_pair_sum LS.sp_len3 (fun cdv A outer s H vs Q E hr h => ⟨_, PSs.nox (pss_cons (ps_expr (LS.pe_cf c_check_states (hr.mono (by decide)) (by rfl) (pa_cons (LS.k_fld (K := K) rfl (pv 0)) (pa_cons (pe_tup (pa_cons (pv 1) (pa_cons (pv 2) pa_nil))) (pa_cons (pe_tup (pa_cons (pe_tup (pa_cons pe_int (pa_cons pe_int pa_nil))) pa_nil)) pa_nil)))))
    (pss_one (ps_ret (LS.pe_cf c_sum_over (hr.mono (by decide)) (by rfl) (pa_cons (LS.k_fld (K := K) rfl (pv 0)) (pa_cons (pe_tup (pa_cons (pv 1) (pa_cons (pv 2) pa_nil))) pa_nil)))))), ?_⟩)

  refine LS.body3 (spf := fun a b c => [.is a, .is b, .is c]) h (fun _ _ _ => rfl) fun F t c e hp k => ?_
  refine LS.go_seq ?_
  refine LS.go_drop ((LS.ex_call3 (LS.ex_size ktb (LS.ex_var rfl)) (LS.ex_tup (α := Int) (LS.el_cons (LS.ex_var rfl) (LS.el_cons (LS.ex_var rfl) LS.el_nil)) (by simp)) (LS.ex_tup (α := (Int × Int)) (LS.el_cons (LS.ex_pair (α := Int) (β := Int) LS.ex_ci LS.ex_ci) LS.el_nil) (by simp)) (by exact Mi.cs2 hp))) (LS.nx_go ?_)
  refine LS.go_retE ((LS.ex_call2 (LS.ex_rows ktb (LS.ex_var rfl)) (LS.ex_tup (α := Int) (LS.el_cons (LS.ex_var rfl) (LS.el_cons (LS.ex_var rfl) LS.el_nil)) (by simp)) (by exact Mi.so2 hp))) ?_ k
  show Mi.sumW _ (LS.rng ((LS.tOf t.rows).l.length : Int)) _ = _
  rw [Mi.tOf_len]
theorem sc_law_behind_right : FnScope ["_law_grid_here", "_law_other", "_law_g", "_law_h", "_law_c", "_law_e", "_law_old", "_law_new", "_law_size", "_law_rows", "_law_later", "_law_first", "_law_last", "_law_raised", "_law_passed", "_law_a", "_law_b", "_law_due", "_law_x"] ["_law_grid_here", "_law_other", "_law_g", "_law_h", "_law_c", "_law_e"] (defScope Hd.s_law_behind_right) := ⟨rfl, rfl, rfl, by decide +kernel, rfl, by decide +kernel, by decide +kernel⟩
theorem ok_law_behind_right {P : Program} {w : World} {K : PySem.W.Frag} {mg : Str → Option Value} {base : Heap} {f : Addr} {fd : FuncData} {dvs : List V} (T : LS.Bt mg) (ktb : LS.TbK K) (m1 : Mi.T1) (m2 : Mi.T2) (m3 : Mi.T3) (m4 : Mi.T4) (m5 : Mi.T5) (c_law_copy : LS.Cf P w K mg base 1 "_law_copy" ["_law_grid_here"] [] (LS.sp1 K (fun g : List (List Int) => g.length ≤ 40000) id)) (c_mk_Table : LS.Cm P w K mg base 4 "Table" ["self", "rows"] (LS.spT K Mi.Ok)) (c_push_rows : LS.Cf P w K mg base 6 "push_rows" ["table", "c", "e"] [] (LS.sp3 K (fun (t : LS.Tbl) (c e : Int) => (Mi.Ok t.rows ∧ t.rows.length ≤ 5) ∧ 0 ≤ c ∧ c < t.rows.length ∧ 0 ≤ e ∧ e < t.rows.length ∧ c ≠ e) (fun t c e => LS.tOf (Mi.pushT t.rows c e)))) (c_law_rows_kind : LS.Cf P w K mg base 3 "_law_rows_kind" ["_law_rows", "_law_size"] [] (LS.sp2 K (fun (v : LS.Tp (LS.Tp Int)) (n : Int) => (v.l.length : Int) = n ∧ v.l.length ≤ 8 ∧ ∀ r ∈ v.l, (r.l.length : Int) = n) (fun _ _ => true))) (c_law_sum : LS.Cf P w K mg base 3 "_law_sum" ["_law_grid_here", "_law_roots", "_law_ends"] [] (LS.sp3 K (fun (g : List (List Int)) (roots : List Int) (ends : List (Int × Int)) => (Mi.Ok g ∧ g.length ≤ 5 ∧ ∀ r ∈ roots, 0 ≤ r ∧ r < g.length) ∧ ends.length ≤ 8 ∧ ∀ p ∈ ends, 0 ≤ p.1 ∧ p.1 < g.length) Mi.sumF)) (c_pair_sum : LS.Cf P w K mg base 5 "pair_sum" ["table", "c", "e"] [] (LS.sp3 K (fun (t : LS.Tbl) (c e : Int) => (Mi.Ok t.rows ∧ t.rows.length ≤ 5) ∧ 0 ≤ c ∧ c < t.rows.length ∧ 0 ≤ e ∧ e < t.rows.length ∧ c ≠ e) (fun t c e => Mi.sumW (LS.tOf t.rows) (LS.rng t.rows.length) [c, e]))) (c_law_push : LS.Cf P w K mg base 3 "_law_push" ["_law_grid_here", "_law_a", "_law_b", "_law_c", "_law_e"] [] (LS.sp5 K (fun (g : List (List Int)) (a b c e : Int) => (Mi.Ok g ∧ g.length ≤ 5) ∧ (0 ≤ a ∧ a < g.length) ∧ (0 ≤ b ∧ b < g.length) ∧ (0 ≤ c ∧ c < g.length) ∧ (0 ≤ e ∧ e < g.length)) Mi.pushF)) (c_forest_row : LS.Cf P w K mg base 4 "forest_row" ["table", "c", "others"] [] (LS.sp3 K (fun (t : LS.Tbl) (c : Int) (o : LS.Tp Int) => (Mi.Ok t.rows ∧ t.rows.length ≤ 5) ∧ 0 ≤ c ∧ c < t.rows.length ∧ (∀ x ∈ o.l, 0 ≤ x ∧ x < t.rows.length) ∧ o.l.Nodup ∧ ¬ c ∈ o.l ∧ 1 ≤ o.l.length ∧ o.l.length ≤ 5) (fun t c o => LS.Tp.mk (Mi.frow t.rows c (LS.srt o.l)))))
    (F : FunD K "_law_behind_right" "_law_behind_right" (defArgs Hd.s_law_behind_right) (defBody Hd.s_law_behind_right) (defScope Hd.s_law_behind_right) dvs [] f fd) : FnOk P w K mg base CX0 7 f fd ["_law_grid_here", "_law_other", "_law_g", "_law_h", "_law_c", "_law_e"] (LS.sp6 K Mi.BehP (fun _ _ _ _ _ _ => true)) := by
  have nd := sc_law_behind_right.nd
  refine F.ok sc_law_behind_right LS.sp_len6 (fun cdv A outer s H vs Q E hr h => ⟨_, PSs.nox (pss_cons (ps_set (i := 6) nd rfl (.inl rfl) (LS.pe_mk c_mk_Table (hr.mono (by decide)) (by rfl) (pa_cons (LS.pe_cf c_law_copy (hr.mono (by decide)) (by rfl) (pa_cons (pv 0) pa_nil)) pa_nil)))
    (pss_cons (ps_set (i := 7) nd rfl (.inl rfl) (LS.pe_mk c_mk_Table (hr.mono (by decide)) (by rfl) (pa_cons (LS.pe_cf c_law_copy (hr.mono (by decide)) (by rfl) (pa_cons (pv 1) pa_nil)) pa_nil)))
    (pss_cons (ps_set (i := 8) nd rfl (.inl rfl) (pe_callB (LS.k_len (K := K) rfl) (by rfl) T.len (by decide +kernel) (pa_cons (pv 0) pa_nil)))
    (pss_cons (ps_set (i := 9) nd rfl (.inl rfl) (LS.pe_cf c_push_rows (hr.mono (by decide)) (by rfl) (pa_cons (pv 6) (pa_cons (pv 4) (pa_cons (pv 5) pa_nil)))))
    (pss_cons (ps_set (i := 10) nd rfl (.inl rfl) (LS.pe_cf c_push_rows (hr.mono (by decide)) (by rfl) (pa_cons (pv 7) (pa_cons (pv 4) (pa_cons (pv 5) pa_nil)))))
    (pss_cons (ps_if (PW.pt (pw_or (pt_not (pt_val (LS.pe_cf c_law_rows_kind (hr.mono (by decide)) (by rfl) (pa_cons (pv 9) (pa_cons (pv 8) pa_nil))))) (pw_or1 (pt_not (pt_val (LS.pe_cf c_law_rows_kind (hr.mono (by decide)) (by rfl) (pa_cons (pv 10) (pa_cons (pv 8) pa_nil)))))))) (pss_one (ps_ret pe_bl)) pss_nil)
    (pss_cons (ps_set (i := 11) nd rfl (.inl rfl) (LS.pe_cf c_law_sum (hr.mono (by decide)) (by rfl) (pa_cons (pv 0) (pa_cons (pe_lst (pa_cons (pv 4) (pa_cons (pv 5) pa_nil))) (pa_cons (pe_lst pa_nil) pa_nil)))))
    (pss_cons (ps_set (i := 12) nd rfl (.inl rfl) (LS.pe_cf c_law_sum (hr.mono (by decide)) (by rfl) (pa_cons (pv 1) (pa_cons (pe_lst (pa_cons (pv 4) (pa_cons (pv 5) pa_nil))) (pa_cons (pe_lst pa_nil) pa_nil)))))
    (pss_cons (ps_if (PW.pt (pw_or (pt_cmpR op_ne (LS.pe_cf c_pair_sum (hr.mono (by decide)) (by rfl) (pa_cons (pv 6) (pa_cons (pv 4) (pa_cons (pv 5) pa_nil)))) (pv 11) (nomark _)) (pw_or1 (pt_cmpR op_ne (LS.pe_cf c_pair_sum (hr.mono (by decide)) (by rfl) (pa_cons (pv 7) (pa_cons (pv 5) (pa_cons (pv 4) pa_nil)))) (pv 12) (nomark _))))) (pss_one (ps_ret pe_bl)) pss_nil)
    (pss_cons (ps_set (i := 13) nd rfl (.inl rfl) (pe_op op_sub (pe_ix (LS.k_ixL (K := K) rfl) (pe_ix (LS.k_ixL (K := K) rfl) (pv 1) (pv 2) (fun _ _ => rfl)) (pv 3) (fun _ _ => rfl)) (pe_ix (LS.k_ixL (K := K) rfl) (pe_ix (LS.k_ixL (K := K) rfl) (pv 0) (pv 2) (fun _ _ => rfl)) (pv 3) (fun _ _ => rfl))))
    (pss_cons (ps_if (pt_cmpR op_ne (pe_ix (LS.k_ixT (K := K) rfl) (pe_ix (LS.k_ixT (K := K) rfl) (pv 9) (pv 2) (fun _ _ => rfl)) (pv 3) (fun _ _ => rfl)) (LS.pe_cf c_law_push (hr.mono (by decide)) (by rfl) (pa_cons (pv 0) (pa_cons (pv 2) (pa_cons (pv 3) (pa_cons (pv 4) (pa_cons (pv 5) pa_nil)))))) (nomark _)) (pss_one (ps_ret pe_bl)) pss_nil)
    (pss_cons (ps_setLc (i := 14) (own := [("_law_x", 18)]) rfl nd rfl rfl (sw_true rfl rfl rfl (by decide +kernel)) (pi_range1 (by rfl) T.range (pa_cons (pv 8) pa_nil)) (blkOk_by (by kernel_rfl)) (fun _ _ _ _ _ => (pg_name (i := 18) nd rfl (.inl rfl))) (fun _ _ _ _ _ => pts_nil) (fun _ _ _ _ _ => (LS.pe_cf c_law_sum (hr.mono (by decide)) (by rfl) (pa_cons (pv 0) (pa_cons (pe_lst (pa_cons (pv 4) (pa_cons (pv 5) (pa_cons (pv 2) pa_nil)))) (pa_cons (pe_lst (pa_cons (pe_tup (pa_cons (pv 18) (pa_cons (pv 2) pa_nil))) pa_nil)) pa_nil))))))
    (pss_cons (ps_if (pt_cmpR (LS.k_neD (K := K) rfl hr.units) (LS.pe_cf c_forest_row (hr.mono (by decide)) (by rfl) (pa_cons (pv 6) (pa_cons (pv 2) (pa_cons (pe_tup (pa_cons (pv 5) (pa_cons (pv 4) pa_nil))) pa_nil)))) (pe_callTy (LS.k_tupOf (K := K) rfl) (by rfl) T.tuple (by decide +kernel) (pa_cons (pv 14) pa_nil)) (nomark _)) (pss_one (ps_ret pe_bl)) pss_nil)
    (pss_cons (ps_for PassesOwn.never rfl (pi_range1 (by rfl) T.range (pa_cons (pv 8) pa_nil)) (pg_name (i := 15) nd rfl (.inl rfl))
    (pss_one (ps_for PassesOwn.never rfl (pi_range1 (by rfl) T.range (pa_cons (pv 8) pa_nil)) (pg_name (i := 16) nd rfl (.inl rfl))
    (pss_cons (ps_set (i := 17) nd rfl (.inl rfl) (pe_op op_mulW (pe_op op_mulW (pv 13) (pe_op op_sub (pe_ix (LS.k_ixL (K := K) rfl) (pv 14) (pv 16) (fun _ _ => rfl)) (pe_ix (LS.k_ixL (K := K) rfl) (pv 14) (pv 15) (fun _ _ => rfl)))) (pe_ix (LS.k_ixT (K := K) rfl) (pe_ix (LS.k_ixT (K := K) rfl) (pv 9) (pv 2) (fun _ _ => rfl)) (pv 3) (fun _ _ => rfl))))
    (pss_one (ps_if (pt_cmpR op_ne (pe_op op_sub (pe_op op_mulW (pv 11) (pe_ix (LS.k_ixT (K := K) rfl) (pe_ix (LS.k_ixT (K := K) rfl) (pv 10) (pv 15) (fun _ _ => rfl)) (pv 16) (fun _ _ => rfl))) (pe_op op_mulW (pv 12) (pe_ix (LS.k_ixT (K := K) rfl) (pe_ix (LS.k_ixT (K := K) rfl) (pv 9) (pv 15) (fun _ _ => rfl)) (pv 16) (fun _ _ => rfl)))) (pv 17) (nomark _)) (pss_one (ps_ret pe_bl)) pss_nil))))))
    (pss_one (ps_ret (pe_cmpR op_eq (pe_ix (LS.k_ixT (K := K) rfl) (pe_ix (LS.k_ixT (K := K) rfl) (pv 10) (pv 2) (fun _ _ => rfl)) (pv 3) (fun _ _ => rfl)) (pe_ix (LS.k_ixT (K := K) rfl) (pe_ix (LS.k_ixT (K := K) rfl) (pv 9) (pv 2) (fun _ _ => rfl)) (pv 3) (fun _ _ => rfl)) (nomark _)))))))))))))))))), ?_⟩)

  refine LS.body6 (spf := fun a b c d e g => [.is a, .is b, .is c, .is d, .is e, .is g, .no, .no, .no, .no, .no, .no, .no, .no, .no, .no, .no, .no, .no]) h (fun _ _ _ _ _ _ => rfl) fun F g o G i c e p k => ?_
  have W := Mi.bw p
  refine LS.s_asg (a := LS.Tbl.mk g) ((LS.ex_mk (LS.ex_call1 (LS.ex_var rfl) (by first | exact W.og | exact W.oo | exact W.lg | exact W.lo | exact W.n62 | exact W.cg | exact W.co | exact W.eo | exact W.kg | exact W.ko | exact W.sg | exact W.so | exact W.lpush | exact W.few | exact W.pass _ ha0 | exact W.frow | exact W.rG.1 | exact W.rG.2.1 | exact W.rG.2.2 | exact W.rh.1 | exact W.rh.2.1 | exact W.rh.2.2 | exact ib | exact lrG | exact loG | exact lrh | exact loh | exact ia0 | exact ib0 | exact la | exact lb | exact lra | exact loa | exact lrb | exact lob | exact w1 | exact w2 | exact w3 | exact w4)) (by first | exact W.og | exact W.oo | exact W.lg | exact W.lo | exact W.n62 | exact W.cg | exact W.co | exact W.eo | exact W.kg | exact W.ko | exact W.sg | exact W.so | exact W.lpush | exact W.few | exact W.pass _ ha0 | exact W.frow | exact W.rG.1 | exact W.rG.2.1 | exact W.rG.2.2 | exact W.rh.1 | exact W.rh.2.1 | exact W.rh.2.2 | exact ib | exact lrG | exact loG | exact lrh | exact loh | exact ia0 | exact ib0 | exact la | exact lb | exact lra | exact loa | exact lrb | exact lob | exact w1 | exact w2 | exact w3 | exact w4))) ?_
  refine LS.s_asg (a := LS.Tbl.mk o) ((LS.ex_mk (LS.ex_call1 (LS.ex_var rfl) (by first | exact W.og | exact W.oo | exact W.lg | exact W.lo | exact W.n62 | exact W.cg | exact W.co | exact W.eo | exact W.kg | exact W.ko | exact W.sg | exact W.so | exact W.lpush | exact W.few | exact W.pass _ ha0 | exact W.frow | exact W.rG.1 | exact W.rG.2.1 | exact W.rG.2.2 | exact W.rh.1 | exact W.rh.2.1 | exact W.rh.2.2 | exact ib | exact lrG | exact loG | exact lrh | exact loh | exact ia0 | exact ib0 | exact la | exact lb | exact lra | exact loa | exact lrb | exact lob | exact w1 | exact w2 | exact w3 | exact w4)) (by first | exact W.og | exact W.oo | exact W.lg | exact W.lo | exact W.n62 | exact W.cg | exact W.co | exact W.eo | exact W.kg | exact W.ko | exact W.sg | exact W.so | exact W.lpush | exact W.few | exact W.pass _ ha0 | exact W.frow | exact W.rG.1 | exact W.rG.2.1 | exact W.rG.2.2 | exact W.rh.1 | exact W.rh.2.1 | exact W.rh.2.2 | exact ib | exact lrG | exact loG | exact lrh | exact loh | exact ia0 | exact ib0 | exact la | exact lb | exact lra | exact loa | exact lrb | exact lob | exact w1 | exact w2 | exact w3 | exact w4))) ?_
  refine LS.s_asg (a := (g.length : Int)) ((LS.ex_lenL (LS.ex_var rfl))) ?_
  refine LS.s_asg (a := LS.tOf (Mi.pushT g c e)) ((LS.ex_call3 (LS.ex_var rfl) (LS.ex_var rfl) (LS.ex_var rfl) (by first | exact W.og | exact W.oo | exact W.lg | exact W.lo | exact W.n62 | exact W.cg | exact W.co | exact W.eo | exact W.kg | exact W.ko | exact W.sg | exact W.so | exact W.lpush | exact W.few | exact W.pass _ ha0 | exact W.frow | exact W.rG.1 | exact W.rG.2.1 | exact W.rG.2.2 | exact W.rh.1 | exact W.rh.2.1 | exact W.rh.2.2 | exact ib | exact lrG | exact loG | exact lrh | exact loh | exact ia0 | exact ib0 | exact la | exact lb | exact lra | exact loa | exact lrb | exact lob | exact w1 | exact w2 | exact w3 | exact w4))) ?_
  refine LS.s_asg (a := LS.tOf (Mi.pushT o c e)) ((LS.ex_call3 (LS.ex_var rfl) (LS.ex_var rfl) (LS.ex_var rfl) (by first | exact W.og | exact W.oo | exact W.lg | exact W.lo | exact W.n62 | exact W.cg | exact W.co | exact W.eo | exact W.kg | exact W.ko | exact W.sg | exact W.so | exact W.lpush | exact W.few | exact W.pass _ ha0 | exact W.frow | exact W.rG.1 | exact W.rG.2.1 | exact W.rG.2.2 | exact W.rh.1 | exact W.rh.2.1 | exact W.rh.2.2 | exact ib | exact lrG | exact loG | exact lrh | exact loh | exact ia0 | exact ib0 | exact la | exact lb | exact lra | exact loa | exact lrb | exact lob | exact w1 | exact w2 | exact w3 | exact w4))) ?_
  refine LS.s_ifn ((LS.et_or (LS.et_not (LS.et_b (LS.ex_call2 (LS.ex_var rfl) (LS.ex_var rfl) (by first | exact W.og | exact W.oo | exact W.lg | exact W.lo | exact W.n62 | exact W.cg | exact W.co | exact W.eo | exact W.kg | exact W.ko | exact W.sg | exact W.so | exact W.lpush | exact W.few | exact W.pass _ ha0 | exact W.frow | exact W.rG.1 | exact W.rG.2.1 | exact W.rG.2.2 | exact W.rh.1 | exact W.rh.2.1 | exact W.rh.2.2 | exact ib | exact lrG | exact loG | exact lrh | exact loh | exact ia0 | exact ib0 | exact la | exact lb | exact lra | exact loa | exact lrb | exact lob | exact w1 | exact w2 | exact w3 | exact w4)))) (fun hq => (LS.et_not (LS.et_b (LS.ex_call2 (LS.ex_var rfl) (LS.ex_var rfl) (by first | exact W.og | exact W.oo | exact W.lg | exact W.lo | exact W.n62 | exact W.cg | exact W.co | exact W.eo | exact W.kg | exact W.ko | exact W.sg | exact W.so | exact W.lpush | exact W.few | exact W.pass _ ha0 | exact W.frow | exact W.rG.1 | exact W.rG.2.1 | exact W.rG.2.2 | exact W.rh.1 | exact W.rh.2.1 | exact W.rh.2.2 | exact ib | exact lrG | exact loG | exact lrh | exact loh | exact ia0 | exact ib0 | exact la | exact lb | exact lra | exact loa | exact lrb | exact lob | exact w1 | exact w2 | exact w3 | exact w4))))))) (fun q => nomatch q) (fun _ => ?_)
  refine LS.s_asg (a := Mi.sumF g [c, e] []) ((LS.ex_call3 (LS.ex_var rfl) (LS.ex_lst (α := Int) (LS.el_cons (LS.ex_var rfl) (LS.el_cons (LS.ex_var rfl) LS.el_nil)) (by simp)) (LS.ex_lst LS.el_nil (by simp)) (by first | exact W.og | exact W.oo | exact W.lg | exact W.lo | exact W.n62 | exact W.cg | exact W.co | exact W.eo | exact W.kg | exact W.ko | exact W.sg | exact W.so | exact W.lpush | exact W.few | exact W.pass _ ha0 | exact W.frow | exact W.rG.1 | exact W.rG.2.1 | exact W.rG.2.2 | exact W.rh.1 | exact W.rh.2.1 | exact W.rh.2.2 | exact ib | exact lrG | exact loG | exact lrh | exact loh | exact ia0 | exact ib0 | exact la | exact lb | exact lra | exact loa | exact lrb | exact lob | exact w1 | exact w2 | exact w3 | exact w4))) ?_
  refine LS.s_asg (a := Mi.sumF o [c, e] []) ((LS.ex_call3 (LS.ex_var rfl) (LS.ex_lst (α := Int) (LS.el_cons (LS.ex_var rfl) (LS.el_cons (LS.ex_var rfl) LS.el_nil)) (by simp)) (LS.ex_lst LS.el_nil (by simp)) (by first | exact W.og | exact W.oo | exact W.lg | exact W.lo | exact W.n62 | exact W.cg | exact W.co | exact W.eo | exact W.kg | exact W.ko | exact W.sg | exact W.so | exact W.lpush | exact W.few | exact W.pass _ ha0 | exact W.frow | exact W.rG.1 | exact W.rG.2.1 | exact W.rG.2.2 | exact W.rh.1 | exact W.rh.2.1 | exact W.rh.2.2 | exact ib | exact lrG | exact loG | exact lrh | exact loh | exact ia0 | exact ib0 | exact la | exact lb | exact lra | exact loa | exact lrb | exact lob | exact w1 | exact w2 | exact w3 | exact w4))) ?_
  have t2g := m2 g c e W.og p.cg.n5 p.ic p.ie p.ce
  have t2o := m2 o c e W.oo W.co.1.2 (p.ic.to p.cg.len) (p.ie.to p.cg.len) p.ce
  refine LS.s_ifn ((LS.et_or (LS.et_test (LS.ex_ne (LS.ex_call3 (LS.ex_var rfl) (LS.ex_var rfl) (LS.ex_var rfl) (by first | exact W.og | exact W.oo | exact W.lg | exact W.lo | exact W.n62 | exact W.cg | exact W.co | exact W.eo | exact W.kg | exact W.ko | exact W.sg | exact W.so | exact W.lpush | exact W.few | exact W.pass _ ha0 | exact W.frow | exact W.rG.1 | exact W.rG.2.1 | exact W.rG.2.2 | exact W.rh.1 | exact W.rh.2.1 | exact W.rh.2.2 | exact ib | exact lrG | exact loG | exact lrh | exact loh | exact ia0 | exact ib0 | exact la | exact lb | exact lra | exact loa | exact lrb | exact lob | exact w1 | exact w2 | exact w3 | exact w4)) (LS.ex_var rfl))) (fun hq => (LS.et_test (LS.ex_ne (LS.ex_call3 (LS.ex_var rfl) (LS.ex_var rfl) (LS.ex_var rfl) (by first | exact W.og | exact W.oo | exact W.lg | exact W.lo | exact W.n62 | exact W.cg | exact W.co | exact W.eo | exact W.kg | exact W.ko | exact W.sg | exact W.so | exact W.lpush | exact W.few | exact W.pass _ ha0 | exact W.frow | exact W.rG.1 | exact W.rG.2.1 | exact W.rG.2.2 | exact W.rh.1 | exact W.rh.2.1 | exact W.rh.2.2 | exact ib | exact lrG | exact loG | exact lrh | exact loh | exact ia0 | exact ib0 | exact la | exact lb | exact lra | exact loa | exact lrb | exact lob | exact w1 | exact w2 | exact w3 | exact w4)) (LS.ex_var rfl)))))) (fun q => ?_) (fun _ => ?_)
  · exfalso
    simp [t2g.1, t2o.2] at q
  refine LS.s_asg (a := Mi.at2 o G i - Mi.at2 g G i) ((LS.ex_sub (LS.ex_ixLd (α := Int) (LS.ex_ixLd (α := (List Int)) (LS.ex_var rfl) (LS.ex_var rfl) (by first | exact W.og | exact W.oo | exact W.lg | exact W.lo | exact W.n62 | exact W.cg | exact W.co | exact W.eo | exact W.kg | exact W.ko | exact W.sg | exact W.so | exact W.lpush | exact W.few | exact W.pass _ ha0 | exact W.frow | exact W.rG.1 | exact W.rG.2.1 | exact W.rG.2.2 | exact W.rh.1 | exact W.rh.2.1 | exact W.rh.2.2 | exact ib | exact lrG | exact loG | exact lrh | exact loh | exact ia0 | exact ib0 | exact la | exact lb | exact lra | exact loa | exact lrb | exact lob | exact w1 | exact w2 | exact w3 | exact w4) (by first | exact W.og | exact W.oo | exact W.lg | exact W.lo | exact W.n62 | exact W.cg | exact W.co | exact W.eo | exact W.kg | exact W.ko | exact W.sg | exact W.so | exact W.lpush | exact W.few | exact W.pass _ ha0 | exact W.frow | exact W.rG.1 | exact W.rG.2.1 | exact W.rG.2.2 | exact W.rh.1 | exact W.rh.2.1 | exact W.rh.2.2 | exact ib | exact lrG | exact loG | exact lrh | exact loh | exact ia0 | exact ib0 | exact la | exact lb | exact lra | exact loa | exact lrb | exact lob | exact w1 | exact w2 | exact w3 | exact w4)) (LS.ex_var rfl) (by first | exact W.og | exact W.oo | exact W.lg | exact W.lo | exact W.n62 | exact W.cg | exact W.co | exact W.eo | exact W.kg | exact W.ko | exact W.sg | exact W.so | exact W.lpush | exact W.few | exact W.pass _ ha0 | exact W.frow | exact W.rG.1 | exact W.rG.2.1 | exact W.rG.2.2 | exact W.rh.1 | exact W.rh.2.1 | exact W.rh.2.2 | exact ib | exact lrG | exact loG | exact lrh | exact loh | exact ia0 | exact ib0 | exact la | exact lb | exact lra | exact loa | exact lrb | exact lob | exact w1 | exact w2 | exact w3 | exact w4) (by first | exact W.og | exact W.oo | exact W.lg | exact W.lo | exact W.n62 | exact W.cg | exact W.co | exact W.eo | exact W.kg | exact W.ko | exact W.sg | exact W.so | exact W.lpush | exact W.few | exact W.pass _ ha0 | exact W.frow | exact W.rG.1 | exact W.rG.2.1 | exact W.rG.2.2 | exact W.rh.1 | exact W.rh.2.1 | exact W.rh.2.2 | exact ib | exact lrG | exact loG | exact lrh | exact loh | exact ia0 | exact ib0 | exact la | exact lb | exact lra | exact loa | exact lrb | exact lob | exact w1 | exact w2 | exact w3 | exact w4)) (LS.ex_ixLd (α := Int) (LS.ex_ixLd (α := (List Int)) (LS.ex_var rfl) (LS.ex_var rfl) (by first | exact W.og | exact W.oo | exact W.lg | exact W.lo | exact W.n62 | exact W.cg | exact W.co | exact W.eo | exact W.kg | exact W.ko | exact W.sg | exact W.so | exact W.lpush | exact W.few | exact W.pass _ ha0 | exact W.frow | exact W.rG.1 | exact W.rG.2.1 | exact W.rG.2.2 | exact W.rh.1 | exact W.rh.2.1 | exact W.rh.2.2 | exact ib | exact lrG | exact loG | exact lrh | exact loh | exact ia0 | exact ib0 | exact la | exact lb | exact lra | exact loa | exact lrb | exact lob | exact w1 | exact w2 | exact w3 | exact w4) (by first | exact W.og | exact W.oo | exact W.lg | exact W.lo | exact W.n62 | exact W.cg | exact W.co | exact W.eo | exact W.kg | exact W.ko | exact W.sg | exact W.so | exact W.lpush | exact W.few | exact W.pass _ ha0 | exact W.frow | exact W.rG.1 | exact W.rG.2.1 | exact W.rG.2.2 | exact W.rh.1 | exact W.rh.2.1 | exact W.rh.2.2 | exact ib | exact lrG | exact loG | exact lrh | exact loh | exact ia0 | exact ib0 | exact la | exact lb | exact lra | exact loa | exact lrb | exact lob | exact w1 | exact w2 | exact w3 | exact w4)) (LS.ex_var rfl) (by first | exact W.og | exact W.oo | exact W.lg | exact W.lo | exact W.n62 | exact W.cg | exact W.co | exact W.eo | exact W.kg | exact W.ko | exact W.sg | exact W.so | exact W.lpush | exact W.few | exact W.pass _ ha0 | exact W.frow | exact W.rG.1 | exact W.rG.2.1 | exact W.rG.2.2 | exact W.rh.1 | exact W.rh.2.1 | exact W.rh.2.2 | exact ib | exact lrG | exact loG | exact lrh | exact loh | exact ia0 | exact ib0 | exact la | exact lb | exact lra | exact loa | exact lrb | exact lob | exact w1 | exact w2 | exact w3 | exact w4) (by first | exact W.og | exact W.oo | exact W.lg | exact W.lo | exact W.n62 | exact W.cg | exact W.co | exact W.eo | exact W.kg | exact W.ko | exact W.sg | exact W.so | exact W.lpush | exact W.few | exact W.pass _ ha0 | exact W.frow | exact W.rG.1 | exact W.rG.2.1 | exact W.rG.2.2 | exact W.rh.1 | exact W.rh.2.1 | exact W.rh.2.2 | exact ib | exact lrG | exact loG | exact lrh | exact loh | exact ia0 | exact ib0 | exact la | exact lb | exact lra | exact loa | exact lrb | exact lob | exact w1 | exact w2 | exact w3 | exact w4)))) ?_
  have lrG : G < ((LS.tOf (Mi.pushT g c e)).l.length : Int) := by rw [Mi.pushT_len]; exact W.rG.2.1
  have loG : G < ((LS.tOf (Mi.pushT o c e)).l.length : Int) := by rw [Mi.pushT_len]; exact W.rG.2.2
  have lrh : i < (((LS.tOf (Mi.pushT g c e)).l.getD G.toNat default).l.length : Int) := by rw [Mi.pushT_rowlen p.cg.iG]; exact p.cg.ih.2
  have loh : i < (((LS.tOf (Mi.pushT o c e)).l.getD G.toNat default).l.length : Int) := by rw [Mi.pushT_rowlen (p.cg.iG.to p.cg.len)]; exact (p.cg.ih.to p.cg.len).2
  have rGi := Mi.pushT_at (c := c) (e := e) p.cg.iG p.cg.ih
  have rGo := Mi.pushT_at (c := c) (e := e) (p.cg.iG.to p.cg.len) (p.cg.ih.to p.cg.len)
  refine LS.s_ifn ((LS.et_test (LS.ex_ne (LS.ex_ixTd (α := Int) (LS.ex_ixTd (α := (LS.Tp Int)) (LS.ex_var rfl) (LS.ex_var rfl) (by first | exact W.og | exact W.oo | exact W.lg | exact W.lo | exact W.n62 | exact W.cg | exact W.co | exact W.eo | exact W.kg | exact W.ko | exact W.sg | exact W.so | exact W.lpush | exact W.few | exact W.pass _ ha0 | exact W.frow | exact W.rG.1 | exact W.rG.2.1 | exact W.rG.2.2 | exact W.rh.1 | exact W.rh.2.1 | exact W.rh.2.2 | exact ib | exact lrG | exact loG | exact lrh | exact loh | exact ia0 | exact ib0 | exact la | exact lb | exact lra | exact loa | exact lrb | exact lob | exact w1 | exact w2 | exact w3 | exact w4) (by first | exact W.og | exact W.oo | exact W.lg | exact W.lo | exact W.n62 | exact W.cg | exact W.co | exact W.eo | exact W.kg | exact W.ko | exact W.sg | exact W.so | exact W.lpush | exact W.few | exact W.pass _ ha0 | exact W.frow | exact W.rG.1 | exact W.rG.2.1 | exact W.rG.2.2 | exact W.rh.1 | exact W.rh.2.1 | exact W.rh.2.2 | exact ib | exact lrG | exact loG | exact lrh | exact loh | exact ia0 | exact ib0 | exact la | exact lb | exact lra | exact loa | exact lrb | exact lob | exact w1 | exact w2 | exact w3 | exact w4)) (LS.ex_var rfl) (by first | exact W.og | exact W.oo | exact W.lg | exact W.lo | exact W.n62 | exact W.cg | exact W.co | exact W.eo | exact W.kg | exact W.ko | exact W.sg | exact W.so | exact W.lpush | exact W.few | exact W.pass _ ha0 | exact W.frow | exact W.rG.1 | exact W.rG.2.1 | exact W.rG.2.2 | exact W.rh.1 | exact W.rh.2.1 | exact W.rh.2.2 | exact ib | exact lrG | exact loG | exact lrh | exact loh | exact ia0 | exact ib0 | exact la | exact lb | exact lra | exact loa | exact lrb | exact lob | exact w1 | exact w2 | exact w3 | exact w4) (by first | exact W.og | exact W.oo | exact W.lg | exact W.lo | exact W.n62 | exact W.cg | exact W.co | exact W.eo | exact W.kg | exact W.ko | exact W.sg | exact W.so | exact W.lpush | exact W.few | exact W.pass _ ha0 | exact W.frow | exact W.rG.1 | exact W.rG.2.1 | exact W.rG.2.2 | exact W.rh.1 | exact W.rh.2.1 | exact W.rh.2.2 | exact ib | exact lrG | exact loG | exact lrh | exact loh | exact ia0 | exact ib0 | exact la | exact lb | exact lra | exact loa | exact lrb | exact lob | exact w1 | exact w2 | exact w3 | exact w4)) (LS.ex_call5 (LS.ex_var rfl) (LS.ex_var rfl) (LS.ex_var rfl) (LS.ex_var rfl) (LS.ex_var rfl) (by first | exact W.og | exact W.oo | exact W.lg | exact W.lo | exact W.n62 | exact W.cg | exact W.co | exact W.eo | exact W.kg | exact W.ko | exact W.sg | exact W.so | exact W.lpush | exact W.few | exact W.pass _ ha0 | exact W.frow | exact W.rG.1 | exact W.rG.2.1 | exact W.rG.2.2 | exact W.rh.1 | exact W.rh.2.1 | exact W.rh.2.2 | exact ib | exact lrG | exact loG | exact lrh | exact loh | exact ia0 | exact ib0 | exact la | exact lb | exact lra | exact loa | exact lrb | exact lob | exact w1 | exact w2 | exact w3 | exact w4))))) (fun q => ?_) (fun _ => ?_)
  · exfalso
    rw [rGi, m1 g G i c e W.og p.cg.n5 p.cg.iG p.cg.ih p.ic p.ie p.ce] at q
    simp at q
  refine LS.s_asg (a := (LS.rng g.length).map fun x => Mi.sumF g [c, e, G] [(x, G)]) ((LS.ex_lc (α := Int) (γ := Int) (LS.ei_rng1 (LS.ex_var rfl) (by first | exact W.og | exact W.oo | exact W.lg | exact W.lo | exact W.n62 | exact W.cg | exact W.co | exact W.eo | exact W.kg | exact W.ko | exact W.sg | exact W.so | exact W.lpush | exact W.few | exact W.pass _ ha0 | exact W.frow | exact W.rG.1 | exact W.rG.2.1 | exact W.rG.2.2 | exact W.rh.1 | exact W.rh.2.1 | exact W.rh.2.2 | exact ib | exact lrG | exact loG | exact lrh | exact loh | exact ia0 | exact ib0 | exact la | exact lb | exact lra | exact loa | exact lrb | exact lob | exact w1 | exact w2 | exact w3 | exact w4)) LS.tg_name (by decide) (by first | exact W.og | exact W.oo | exact W.lg | exact W.lo | exact W.n62 | exact W.cg | exact W.co | exact W.eo | exact W.kg | exact W.ko | exact W.sg | exact W.so | exact W.lpush | exact W.few | exact W.pass _ ha0 | exact W.frow | exact W.rG.1 | exact W.rG.2.1 | exact W.rG.2.2 | exact W.rh.1 | exact W.rh.2.1 | exact W.rh.2.2 | exact ib | exact lrG | exact loG | exact lrh | exact loh | exact ia0 | exact ib0 | exact la | exact lb | exact lra | exact loa | exact lrb | exact lob | exact w1 | exact w2 | exact w3 | exact w4) (fun a0 ha0 => (LS.ex_call3 (LS.ex_var rfl) (LS.ex_lst (α := Int) (LS.el_cons (LS.ex_var rfl) (LS.el_cons (LS.ex_var rfl) (LS.el_cons (LS.ex_var rfl) LS.el_nil))) (by simp)) (LS.ex_lst (α := (Int × Int)) (LS.el_cons (LS.ex_pair (α := Int) (β := Int) (LS.ex_var rfl) (LS.ex_var rfl)) LS.el_nil) (by simp)) (by first | exact W.og | exact W.oo | exact W.lg | exact W.lo | exact W.n62 | exact W.cg | exact W.co | exact W.eo | exact W.kg | exact W.ko | exact W.sg | exact W.so | exact W.lpush | exact W.few | exact W.pass _ ha0 | exact W.frow | exact W.rG.1 | exact W.rG.2.1 | exact W.rG.2.2 | exact W.rh.1 | exact W.rh.2.1 | exact W.rh.2.2 | exact ib | exact lrG | exact loG | exact lrh | exact loh | exact ia0 | exact ib0 | exact la | exact lb | exact lra | exact loa | exact lrb | exact lob | exact w1 | exact w2 | exact w3 | exact w4))))) ?_
  have t3 := m3 g G c e W.og p.cg.n5 p.cg.iG p.ic p.ie p.ce p.gc p.ge
  refine LS.s_ifn ((LS.et_test (LS.ex_neD (LS.ex_call3 (LS.ex_var rfl) (LS.ex_var rfl) (LS.ex_tup (α := Int) (LS.el_cons (LS.ex_var rfl) (LS.el_cons (LS.ex_var rfl) LS.el_nil)) (by simp)) (by first | exact W.og | exact W.oo | exact W.lg | exact W.lo | exact W.n62 | exact W.cg | exact W.co | exact W.eo | exact W.kg | exact W.ko | exact W.sg | exact W.so | exact W.lpush | exact W.few | exact W.pass _ ha0 | exact W.frow | exact W.rG.1 | exact W.rG.2.1 | exact W.rG.2.2 | exact W.rh.1 | exact W.rh.2.1 | exact W.rh.2.2 | exact ib | exact lrG | exact loG | exact lrh | exact loh | exact ia0 | exact ib0 | exact la | exact lb | exact lra | exact loa | exact lrb | exact lob | exact w1 | exact w2 | exact w3 | exact w4)) (LS.ex_tupL (α := Int) (LS.ex_var rfl)) (by decide)))) (fun q => ?_) (fun _ => ?_)
  · exfalso
    rw [t3] at q
    simp at q
  have hP : ∀ x : Int, Mi.B 200 (((LS.rng g.length).map fun x => Mi.sumF g [c, e, G] [(x, G)]).getD x.toNat default) := fun x => by
    rw [← t3]
    exact Mi.frow_bd (Mi.fw (t := LS.Tbl.mk g) (o := LS.Tp.mk [e, c]) W.frow) _
  have hR : Mi.B 38 (Mi.at2 o G i - Mi.at2 g G i) := by
    have b1 := W.og.bd p.cg.iG.1 p.cg.iG.2 p.cg.ih.1 p.cg.ih.2
    have b2 := W.oo.bd p.cg.iG.1 W.rG.2.2 p.cg.ih.1 (p.cg.ih.to p.cg.len).2
    unfold Mi.B
    omega
  have hF : Mi.B 200 (Mi.sumF g [c, e] []) := by
    rw [← t2g.1]
    exact Mi.det_bd (Mi.mat_so W.cg)
  have hL : Mi.B 200 (Mi.sumF o [c, e] []) := by
    rw [← t2o.1]
    exact Mi.det_bd (Mi.mat_so W.co)
  refine LS.s_for (α := Int) ((LS.ei_rng1 (LS.ex_var rfl) (by first | exact W.og | exact W.oo | exact W.lg | exact W.lo | exact W.n62 | exact W.cg | exact W.co | exact W.eo | exact W.kg | exact W.ko | exact W.sg | exact W.so | exact W.lpush | exact W.few | exact W.pass _ ha0 | exact W.frow | exact W.rG.1 | exact W.rG.2.1 | exact W.rG.2.2 | exact W.rh.1 | exact W.rh.2.1 | exact W.rh.2.2 | exact ib | exact lrG | exact loG | exact lrh | exact loh | exact ia0 | exact ib0 | exact la | exact lb | exact lra | exact loa | exact lrb | exact lob | exact w1 | exact w2 | exact w3 | exact w4))) LS.tg_name LS.ts_1 (fun _ => [.is g, .is o, .is G, .is i, .is c, .is e, .is (LS.Tbl.mk g), .is (LS.Tbl.mk o), .is (g.length : Int), .is (LS.tOf (Mi.pushT g c e)), .is (LS.tOf (Mi.pushT o c e)), .is (Mi.sumF g [c, e] []), .is (Mi.sumF o [c, e] []), .is (Mi.at2 o G i - Mi.at2 g G i), .is ((LS.rng g.length).map fun x => Mi.sumF g [c, e, G] [(x, G)]), .no, .no, .no, .no]) rfl (fun B' j a ha _ => ?_) ?_
  · have ia : Mi.In g a := LS.rng_mem (List.mem_of_getElem? ha)
    refine LS.go_for (α := Int) ((LS.ei_rng1 (LS.ex_var rfl) (by first | exact W.og | exact W.oo | exact W.lg | exact W.lo | exact W.n62 | exact W.cg | exact W.co | exact W.eo | exact W.kg | exact W.ko | exact W.sg | exact W.so | exact W.lpush | exact W.few | exact W.pass _ ha0 | exact W.frow | exact W.rG.1 | exact W.rG.2.1 | exact W.rG.2.2 | exact W.rh.1 | exact W.rh.2.1 | exact W.rh.2.2 | exact ib | exact lrG | exact loG | exact lrh | exact loh | exact ia0 | exact ib0 | exact la | exact lb | exact lra | exact loa | exact lrb | exact lob | exact w1 | exact w2 | exact w3 | exact w4))) LS.tg_name LS.ts_1 (fun _ => [.is g, .is o, .is G, .is i, .is c, .is e, .is (LS.Tbl.mk g), .is (LS.Tbl.mk o), .is (g.length : Int), .is (LS.tOf (Mi.pushT g c e)), .is (LS.tOf (Mi.pushT o c e)), .is (Mi.sumF g [c, e] []), .is (Mi.sumF o [c, e] []), .is (Mi.at2 o G i - Mi.at2 g G i), .is ((LS.rng g.length).map fun x => Mi.sumF g [c, e, G] [(x, G)]), .is a, .no, .no, .no]) rfl (fun B2 j2 b hb _ => ?_) (LS.nx_st (by walk_at "ls wk"))
    have ib : Mi.In g b := LS.rng_mem (List.mem_of_getElem? hb)
    have rab := Mi.pushT_at (c := c) (e := e) ia ib
    have oab := Mi.pushT_at (c := c) (e := e) (ia.to p.cg.len) (ib.to p.cg.len)
    have ia0 := ia.1
    have ib0 := ib.1
    have la : a < (((LS.rng g.length).map fun x => Mi.sumF g [c, e, G] [(x, G)]).length : Int) := by rw [List.length_map, LS.rng_len]; have := ia.2; omega
    have lb : b < (((LS.rng g.length).map fun x => Mi.sumF g [c, e, G] [(x, G)]).length : Int) := by rw [List.length_map, LS.rng_len]; have := ib.2; omega
    have lra : a < ((LS.tOf (Mi.pushT g c e)).l.length : Int) := by rw [Mi.pushT_len]; exact ia.2
    have loa : a < ((LS.tOf (Mi.pushT o c e)).l.length : Int) := by rw [Mi.pushT_len]; exact (ia.to p.cg.len).2
    have lrb : b < (((LS.tOf (Mi.pushT g c e)).l.getD a.toNat default).l.length : Int) := by rw [Mi.pushT_rowlen ia]; exact ib.2
    have lob : b < (((LS.tOf (Mi.pushT o c e)).l.getD a.toNat default).l.length : Int) := by rw [Mi.pushT_rowlen (ia.to p.cg.len)]; exact (ib.to p.cg.len).2
    have w1 : CMulW (Mi.at2 o G i - Mi.at2 g G i) (((LS.rng g.length).map fun x => Mi.sumF g [c, e, G] [(x, G)]).getD b.toNat default - ((LS.rng g.length).map fun x => Mi.sumF g [c, e, G] [(x, G)]).getD a.toNat default) := hR.w ((hP b).sub (hP a)) (by decide)
    have w2 : CMulW ((Mi.at2 o G i - Mi.at2 g G i) * (((LS.rng g.length).map fun x => Mi.sumF g [c, e, G] [(x, G)]).getD b.toNat default - ((LS.rng g.length).map fun x => Mi.sumF g [c, e, G] [(x, G)]).getD a.toNat default)) (((LS.tOf (Mi.pushT g c e)).l.getD G.toNat default).l.getD i.toNat default) := by
      rw [rGi]
      exact (hR.mul ((hP b).sub (hP a))).w (Mi.dif_bd W.cg) (by decide)
    have w3 : CMulW (Mi.sumF g [c, e] []) (((LS.tOf (Mi.pushT o c e)).l.getD a.toNat default).l.getD b.toNat default) := by
      rw [oab]
      exact hF.w (Mi.dif_bd W.co) (by decide)
    have w4 : CMulW (Mi.sumF o [c, e] []) (((LS.tOf (Mi.pushT g c e)).l.getD a.toNat default).l.getD b.toNat default) := by
      rw [rab]
      exact hL.w (Mi.dif_bd W.cg) (by decide)
    refine LS.s_asg ((LS.ex_mulW (LS.ex_mulW (LS.ex_var rfl) (LS.ex_sub (LS.ex_ixLd (α := Int) (LS.ex_var rfl) (LS.ex_var rfl) (by first | exact W.og | exact W.oo | exact W.lg | exact W.lo | exact W.n62 | exact W.cg | exact W.co | exact W.eo | exact W.kg | exact W.ko | exact W.sg | exact W.so | exact W.lpush | exact W.few | exact W.pass _ ha0 | exact W.frow | exact W.rG.1 | exact W.rG.2.1 | exact W.rG.2.2 | exact W.rh.1 | exact W.rh.2.1 | exact W.rh.2.2 | exact ib | exact lrG | exact loG | exact lrh | exact loh | exact ia0 | exact ib0 | exact la | exact lb | exact lra | exact loa | exact lrb | exact lob | exact w1 | exact w2 | exact w3 | exact w4) (by first | exact W.og | exact W.oo | exact W.lg | exact W.lo | exact W.n62 | exact W.cg | exact W.co | exact W.eo | exact W.kg | exact W.ko | exact W.sg | exact W.so | exact W.lpush | exact W.few | exact W.pass _ ha0 | exact W.frow | exact W.rG.1 | exact W.rG.2.1 | exact W.rG.2.2 | exact W.rh.1 | exact W.rh.2.1 | exact W.rh.2.2 | exact ib | exact lrG | exact loG | exact lrh | exact loh | exact ia0 | exact ib0 | exact la | exact lb | exact lra | exact loa | exact lrb | exact lob | exact w1 | exact w2 | exact w3 | exact w4)) (LS.ex_ixLd (α := Int) (LS.ex_var rfl) (LS.ex_var rfl) (by first | exact W.og | exact W.oo | exact W.lg | exact W.lo | exact W.n62 | exact W.cg | exact W.co | exact W.eo | exact W.kg | exact W.ko | exact W.sg | exact W.so | exact W.lpush | exact W.few | exact W.pass _ ha0 | exact W.frow | exact W.rG.1 | exact W.rG.2.1 | exact W.rG.2.2 | exact W.rh.1 | exact W.rh.2.1 | exact W.rh.2.2 | exact ib | exact lrG | exact loG | exact lrh | exact loh | exact ia0 | exact ib0 | exact la | exact lb | exact lra | exact loa | exact lrb | exact lob | exact w1 | exact w2 | exact w3 | exact w4) (by first | exact W.og | exact W.oo | exact W.lg | exact W.lo | exact W.n62 | exact W.cg | exact W.co | exact W.eo | exact W.kg | exact W.ko | exact W.sg | exact W.so | exact W.lpush | exact W.few | exact W.pass _ ha0 | exact W.frow | exact W.rG.1 | exact W.rG.2.1 | exact W.rG.2.2 | exact W.rh.1 | exact W.rh.2.1 | exact W.rh.2.2 | exact ib | exact lrG | exact loG | exact lrh | exact loh | exact ia0 | exact ib0 | exact la | exact lb | exact lra | exact loa | exact lrb | exact lob | exact w1 | exact w2 | exact w3 | exact w4))) (by first | exact W.og | exact W.oo | exact W.lg | exact W.lo | exact W.n62 | exact W.cg | exact W.co | exact W.eo | exact W.kg | exact W.ko | exact W.sg | exact W.so | exact W.lpush | exact W.few | exact W.pass _ ha0 | exact W.frow | exact W.rG.1 | exact W.rG.2.1 | exact W.rG.2.2 | exact W.rh.1 | exact W.rh.2.1 | exact W.rh.2.2 | exact ib | exact lrG | exact loG | exact lrh | exact loh | exact ia0 | exact ib0 | exact la | exact lb | exact lra | exact loa | exact lrb | exact lob | exact w1 | exact w2 | exact w3 | exact w4)) (LS.ex_ixTd (α := Int) (LS.ex_ixTd (α := (LS.Tp Int)) (LS.ex_var rfl) (LS.ex_var rfl) (by first | exact W.og | exact W.oo | exact W.lg | exact W.lo | exact W.n62 | exact W.cg | exact W.co | exact W.eo | exact W.kg | exact W.ko | exact W.sg | exact W.so | exact W.lpush | exact W.few | exact W.pass _ ha0 | exact W.frow | exact W.rG.1 | exact W.rG.2.1 | exact W.rG.2.2 | exact W.rh.1 | exact W.rh.2.1 | exact W.rh.2.2 | exact ib | exact lrG | exact loG | exact lrh | exact loh | exact ia0 | exact ib0 | exact la | exact lb | exact lra | exact loa | exact lrb | exact lob | exact w1 | exact w2 | exact w3 | exact w4) (by first | exact W.og | exact W.oo | exact W.lg | exact W.lo | exact W.n62 | exact W.cg | exact W.co | exact W.eo | exact W.kg | exact W.ko | exact W.sg | exact W.so | exact W.lpush | exact W.few | exact W.pass _ ha0 | exact W.frow | exact W.rG.1 | exact W.rG.2.1 | exact W.rG.2.2 | exact W.rh.1 | exact W.rh.2.1 | exact W.rh.2.2 | exact ib | exact lrG | exact loG | exact lrh | exact loh | exact ia0 | exact ib0 | exact la | exact lb | exact lra | exact loa | exact lrb | exact lob | exact w1 | exact w2 | exact w3 | exact w4)) (LS.ex_var rfl) (by first | exact W.og | exact W.oo | exact W.lg | exact W.lo | exact W.n62 | exact W.cg | exact W.co | exact W.eo | exact W.kg | exact W.ko | exact W.sg | exact W.so | exact W.lpush | exact W.few | exact W.pass _ ha0 | exact W.frow | exact W.rG.1 | exact W.rG.2.1 | exact W.rG.2.2 | exact W.rh.1 | exact W.rh.2.1 | exact W.rh.2.2 | exact ib | exact lrG | exact loG | exact lrh | exact loh | exact ia0 | exact ib0 | exact la | exact lb | exact lra | exact loa | exact lrb | exact lob | exact w1 | exact w2 | exact w3 | exact w4) (by first | exact W.og | exact W.oo | exact W.lg | exact W.lo | exact W.n62 | exact W.cg | exact W.co | exact W.eo | exact W.kg | exact W.ko | exact W.sg | exact W.so | exact W.lpush | exact W.few | exact W.pass _ ha0 | exact W.frow | exact W.rG.1 | exact W.rG.2.1 | exact W.rG.2.2 | exact W.rh.1 | exact W.rh.2.1 | exact W.rh.2.2 | exact ib | exact lrG | exact loG | exact lrh | exact loh | exact ia0 | exact ib0 | exact la | exact lb | exact lra | exact loa | exact lrb | exact lob | exact w1 | exact w2 | exact w3 | exact w4)) (by first | exact W.og | exact W.oo | exact W.lg | exact W.lo | exact W.n62 | exact W.cg | exact W.co | exact W.eo | exact W.kg | exact W.ko | exact W.sg | exact W.so | exact W.lpush | exact W.few | exact W.pass _ ha0 | exact W.frow | exact W.rG.1 | exact W.rG.2.1 | exact W.rG.2.2 | exact W.rh.1 | exact W.rh.2.1 | exact W.rh.2.2 | exact ib | exact lrG | exact loG | exact lrh | exact loh | exact ia0 | exact ib0 | exact la | exact lb | exact lra | exact loa | exact lrb | exact lob | exact w1 | exact w2 | exact w3 | exact w4))) ?_
    refine LS.go_if ((LS.et_test (LS.ex_ne (LS.ex_sub (LS.ex_mulW (LS.ex_var rfl) (LS.ex_ixTd (α := Int) (LS.ex_ixTd (α := (LS.Tp Int)) (LS.ex_var rfl) (LS.ex_var rfl) (by first | exact W.og | exact W.oo | exact W.lg | exact W.lo | exact W.n62 | exact W.cg | exact W.co | exact W.eo | exact W.kg | exact W.ko | exact W.sg | exact W.so | exact W.lpush | exact W.few | exact W.pass _ ha0 | exact W.frow | exact W.rG.1 | exact W.rG.2.1 | exact W.rG.2.2 | exact W.rh.1 | exact W.rh.2.1 | exact W.rh.2.2 | exact ib | exact lrG | exact loG | exact lrh | exact loh | exact ia0 | exact ib0 | exact la | exact lb | exact lra | exact loa | exact lrb | exact lob | exact w1 | exact w2 | exact w3 | exact w4) (by first | exact W.og | exact W.oo | exact W.lg | exact W.lo | exact W.n62 | exact W.cg | exact W.co | exact W.eo | exact W.kg | exact W.ko | exact W.sg | exact W.so | exact W.lpush | exact W.few | exact W.pass _ ha0 | exact W.frow | exact W.rG.1 | exact W.rG.2.1 | exact W.rG.2.2 | exact W.rh.1 | exact W.rh.2.1 | exact W.rh.2.2 | exact ib | exact lrG | exact loG | exact lrh | exact loh | exact ia0 | exact ib0 | exact la | exact lb | exact lra | exact loa | exact lrb | exact lob | exact w1 | exact w2 | exact w3 | exact w4)) (LS.ex_var rfl) (by first | exact W.og | exact W.oo | exact W.lg | exact W.lo | exact W.n62 | exact W.cg | exact W.co | exact W.eo | exact W.kg | exact W.ko | exact W.sg | exact W.so | exact W.lpush | exact W.few | exact W.pass _ ha0 | exact W.frow | exact W.rG.1 | exact W.rG.2.1 | exact W.rG.2.2 | exact W.rh.1 | exact W.rh.2.1 | exact W.rh.2.2 | exact ib | exact lrG | exact loG | exact lrh | exact loh | exact ia0 | exact ib0 | exact la | exact lb | exact lra | exact loa | exact lrb | exact lob | exact w1 | exact w2 | exact w3 | exact w4) (by first | exact W.og | exact W.oo | exact W.lg | exact W.lo | exact W.n62 | exact W.cg | exact W.co | exact W.eo | exact W.kg | exact W.ko | exact W.sg | exact W.so | exact W.lpush | exact W.few | exact W.pass _ ha0 | exact W.frow | exact W.rG.1 | exact W.rG.2.1 | exact W.rG.2.2 | exact W.rh.1 | exact W.rh.2.1 | exact W.rh.2.2 | exact ib | exact lrG | exact loG | exact lrh | exact loh | exact ia0 | exact ib0 | exact la | exact lb | exact lra | exact loa | exact lrb | exact lob | exact w1 | exact w2 | exact w3 | exact w4)) (by first | exact W.og | exact W.oo | exact W.lg | exact W.lo | exact W.n62 | exact W.cg | exact W.co | exact W.eo | exact W.kg | exact W.ko | exact W.sg | exact W.so | exact W.lpush | exact W.few | exact W.pass _ ha0 | exact W.frow | exact W.rG.1 | exact W.rG.2.1 | exact W.rG.2.2 | exact W.rh.1 | exact W.rh.2.1 | exact W.rh.2.2 | exact ib | exact lrG | exact loG | exact lrh | exact loh | exact ia0 | exact ib0 | exact la | exact lb | exact lra | exact loa | exact lrb | exact lob | exact w1 | exact w2 | exact w3 | exact w4)) (LS.ex_mulW (LS.ex_var rfl) (LS.ex_ixTd (α := Int) (LS.ex_ixTd (α := (LS.Tp Int)) (LS.ex_var rfl) (LS.ex_var rfl) (by first | exact W.og | exact W.oo | exact W.lg | exact W.lo | exact W.n62 | exact W.cg | exact W.co | exact W.eo | exact W.kg | exact W.ko | exact W.sg | exact W.so | exact W.lpush | exact W.few | exact W.pass _ ha0 | exact W.frow | exact W.rG.1 | exact W.rG.2.1 | exact W.rG.2.2 | exact W.rh.1 | exact W.rh.2.1 | exact W.rh.2.2 | exact ib | exact lrG | exact loG | exact lrh | exact loh | exact ia0 | exact ib0 | exact la | exact lb | exact lra | exact loa | exact lrb | exact lob | exact w1 | exact w2 | exact w3 | exact w4) (by first | exact W.og | exact W.oo | exact W.lg | exact W.lo | exact W.n62 | exact W.cg | exact W.co | exact W.eo | exact W.kg | exact W.ko | exact W.sg | exact W.so | exact W.lpush | exact W.few | exact W.pass _ ha0 | exact W.frow | exact W.rG.1 | exact W.rG.2.1 | exact W.rG.2.2 | exact W.rh.1 | exact W.rh.2.1 | exact W.rh.2.2 | exact ib | exact lrG | exact loG | exact lrh | exact loh | exact ia0 | exact ib0 | exact la | exact lb | exact lra | exact loa | exact lrb | exact lob | exact w1 | exact w2 | exact w3 | exact w4)) (LS.ex_var rfl) (by first | exact W.og | exact W.oo | exact W.lg | exact W.lo | exact W.n62 | exact W.cg | exact W.co | exact W.eo | exact W.kg | exact W.ko | exact W.sg | exact W.so | exact W.lpush | exact W.few | exact W.pass _ ha0 | exact W.frow | exact W.rG.1 | exact W.rG.2.1 | exact W.rG.2.2 | exact W.rh.1 | exact W.rh.2.1 | exact W.rh.2.2 | exact ib | exact lrG | exact loG | exact lrh | exact loh | exact ia0 | exact ib0 | exact la | exact lb | exact lra | exact loa | exact lrb | exact lob | exact w1 | exact w2 | exact w3 | exact w4) (by first | exact W.og | exact W.oo | exact W.lg | exact W.lo | exact W.n62 | exact W.cg | exact W.co | exact W.eo | exact W.kg | exact W.ko | exact W.sg | exact W.so | exact W.lpush | exact W.few | exact W.pass _ ha0 | exact W.frow | exact W.rG.1 | exact W.rG.2.1 | exact W.rG.2.2 | exact W.rh.1 | exact W.rh.2.1 | exact W.rh.2.2 | exact ib | exact lrG | exact loG | exact lrh | exact loh | exact ia0 | exact ib0 | exact la | exact lb | exact lra | exact loa | exact lrb | exact lob | exact w1 | exact w2 | exact w3 | exact w4)) (by first | exact W.og | exact W.oo | exact W.lg | exact W.lo | exact W.n62 | exact W.cg | exact W.co | exact W.eo | exact W.kg | exact W.ko | exact W.sg | exact W.so | exact W.lpush | exact W.few | exact W.pass _ ha0 | exact W.frow | exact W.rG.1 | exact W.rG.2.1 | exact W.rG.2.2 | exact W.rh.1 | exact W.rh.2.1 | exact W.rh.2.2 | exact ib | exact lrG | exact loG | exact lrh | exact loh | exact ia0 | exact ib0 | exact la | exact lb | exact lra | exact loa | exact lrb | exact lob | exact w1 | exact w2 | exact w3 | exact w4))) (LS.ex_var rfl)))) (fun q => ?_) (fun _ => LS.go_next (LS.nx_st (by walk_at "ls wk")))
    exfalso
    have t4 := m4 g o G i c e a b p.cg p.ic p.ie p.ce p.gc p.ge ia ib
    rw [t3, t2g.1, t2o.2] at t4
    rw [oab, rab, rGi, t4] at q
    simp at q
  refine LS.go_retE ((LS.ex_eq (LS.ex_ixTd (α := Int) (LS.ex_ixTd (α := (LS.Tp Int)) (LS.ex_var rfl) (LS.ex_var rfl) (by first | exact W.og | exact W.oo | exact W.lg | exact W.lo | exact W.n62 | exact W.cg | exact W.co | exact W.eo | exact W.kg | exact W.ko | exact W.sg | exact W.so | exact W.lpush | exact W.few | exact W.pass _ ha0 | exact W.frow | exact W.rG.1 | exact W.rG.2.1 | exact W.rG.2.2 | exact W.rh.1 | exact W.rh.2.1 | exact W.rh.2.2 | exact ib | exact lrG | exact loG | exact lrh | exact loh | exact ia0 | exact ib0 | exact la | exact lb | exact lra | exact loa | exact lrb | exact lob | exact w1 | exact w2 | exact w3 | exact w4) (by first | exact W.og | exact W.oo | exact W.lg | exact W.lo | exact W.n62 | exact W.cg | exact W.co | exact W.eo | exact W.kg | exact W.ko | exact W.sg | exact W.so | exact W.lpush | exact W.few | exact W.pass _ ha0 | exact W.frow | exact W.rG.1 | exact W.rG.2.1 | exact W.rG.2.2 | exact W.rh.1 | exact W.rh.2.1 | exact W.rh.2.2 | exact ib | exact lrG | exact loG | exact lrh | exact loh | exact ia0 | exact ib0 | exact la | exact lb | exact lra | exact loa | exact lrb | exact lob | exact w1 | exact w2 | exact w3 | exact w4)) (LS.ex_var rfl) (by first | exact W.og | exact W.oo | exact W.lg | exact W.lo | exact W.n62 | exact W.cg | exact W.co | exact W.eo | exact W.kg | exact W.ko | exact W.sg | exact W.so | exact W.lpush | exact W.few | exact W.pass _ ha0 | exact W.frow | exact W.rG.1 | exact W.rG.2.1 | exact W.rG.2.2 | exact W.rh.1 | exact W.rh.2.1 | exact W.rh.2.2 | exact ib | exact lrG | exact loG | exact lrh | exact loh | exact ia0 | exact ib0 | exact la | exact lb | exact lra | exact loa | exact lrb | exact lob | exact w1 | exact w2 | exact w3 | exact w4) (by first | exact W.og | exact W.oo | exact W.lg | exact W.lo | exact W.n62 | exact W.cg | exact W.co | exact W.eo | exact W.kg | exact W.ko | exact W.sg | exact W.so | exact W.lpush | exact W.few | exact W.pass _ ha0 | exact W.frow | exact W.rG.1 | exact W.rG.2.1 | exact W.rG.2.2 | exact W.rh.1 | exact W.rh.2.1 | exact W.rh.2.2 | exact ib | exact lrG | exact loG | exact lrh | exact loh | exact ia0 | exact ib0 | exact la | exact lb | exact lra | exact loa | exact lrb | exact lob | exact w1 | exact w2 | exact w3 | exact w4)) (LS.ex_ixTd (α := Int) (LS.ex_ixTd (α := (LS.Tp Int)) (LS.ex_var rfl) (LS.ex_var rfl) (by first | exact W.og | exact W.oo | exact W.lg | exact W.lo | exact W.n62 | exact W.cg | exact W.co | exact W.eo | exact W.kg | exact W.ko | exact W.sg | exact W.so | exact W.lpush | exact W.few | exact W.pass _ ha0 | exact W.frow | exact W.rG.1 | exact W.rG.2.1 | exact W.rG.2.2 | exact W.rh.1 | exact W.rh.2.1 | exact W.rh.2.2 | exact ib | exact lrG | exact loG | exact lrh | exact loh | exact ia0 | exact ib0 | exact la | exact lb | exact lra | exact loa | exact lrb | exact lob | exact w1 | exact w2 | exact w3 | exact w4) (by first | exact W.og | exact W.oo | exact W.lg | exact W.lo | exact W.n62 | exact W.cg | exact W.co | exact W.eo | exact W.kg | exact W.ko | exact W.sg | exact W.so | exact W.lpush | exact W.few | exact W.pass _ ha0 | exact W.frow | exact W.rG.1 | exact W.rG.2.1 | exact W.rG.2.2 | exact W.rh.1 | exact W.rh.2.1 | exact W.rh.2.2 | exact ib | exact lrG | exact loG | exact lrh | exact loh | exact ia0 | exact ib0 | exact la | exact lb | exact lra | exact loa | exact lrb | exact lob | exact w1 | exact w2 | exact w3 | exact w4)) (LS.ex_var rfl) (by first | exact W.og | exact W.oo | exact W.lg | exact W.lo | exact W.n62 | exact W.cg | exact W.co | exact W.eo | exact W.kg | exact W.ko | exact W.sg | exact W.so | exact W.lpush | exact W.few | exact W.pass _ ha0 | exact W.frow | exact W.rG.1 | exact W.rG.2.1 | exact W.rG.2.2 | exact W.rh.1 | exact W.rh.2.1 | exact W.rh.2.2 | exact ib | exact lrG | exact loG | exact lrh | exact loh | exact ia0 | exact ib0 | exact la | exact lb | exact lra | exact loa | exact lrb | exact lob | exact w1 | exact w2 | exact w3 | exact w4) (by first | exact W.og | exact W.oo | exact W.lg | exact W.lo | exact W.n62 | exact W.cg | exact W.co | exact W.eo | exact W.kg | exact W.ko | exact W.sg | exact W.so | exact W.lpush | exact W.few | exact W.pass _ ha0 | exact W.frow | exact W.rG.1 | exact W.rG.2.1 | exact W.rG.2.2 | exact W.rh.1 | exact W.rh.2.1 | exact W.rh.2.2 | exact ib | exact lrG | exact loG | exact lrh | exact loh | exact ia0 | exact ib0 | exact la | exact lb | exact lra | exact loa | exact lrb | exact lob | exact w1 | exact w2 | exact w3 | exact w4)))) ?_ k
  refine decide_eq_true ?_
  rw [rGo, rGi]
  exact m5 g o G i c e p.cg p.ic p.ie p.ce
theorem sc_law : FnScope ["_law_script", "_law_draws_here", "_law_grid_here", "_law_size", "_law_pair_here", "_law_near", "_law_other", "_law_first", "_law_c", "_law_e"] ["_law_script"] (defScope Hd.s_law) := ⟨rfl, rfl, rfl, by decide +kernel, rfl, by decide +kernel, by decide +kernel⟩
theorem ok_law {P : Program} {w : World} {K : PySem.W.Frag} {mg : Str → Option Value} {base : Heap} {f : Addr} {fd : FuncData} {dvs : List V} (T : LS.Bt mg) (c_law_draws : LS.Cf P w K mg base 1 "_law_draws" ["_law_script"] [] (LS.spD K)) (c_law_grid : LS.Cf P w K mg base 4 "_law_grid" ["_law_draws_here"] [] (LS.spR K (fun _ : Unit => []) (fun _ => True) (fun _ (g : List (List Int)) => Mi.Gz 1000004 g.length g ∧ 2 ≤ g.length ∧ g.length ≤ 5))) (c_law_take : LS.Cf P w K mg base 1 "_law_take" ["_law_draws_here", "_law_many"] [] (LS.takeP K)) (c_law_loose : LS.Cf P w K mg base 2 "_law_loose" ["_law_draws_here", "_law_size"] [] (LS.spR K (fun s : Int => [LS.Sl.is s]) (fun s => 2 ≤ s ∧ s ≤ 5) (fun s (g : List (List Int)) => Mi.Gz 1000004 s.toNat g))) (c_law_pair : LS.Cf P w K mg base 2 "_law_pair" ["_law_draws_here", "_law_size"] [] (LS.spR K (fun s : Int => [LS.Sl.is s]) (fun s => 2 ≤ s ∧ s ≤ 5) (fun s (p : Int × Int) => (0 ≤ p.1 ∧ p.1 < s) ∧ (0 ≤ p.2 ∧ p.2 < s) ∧ p.1 ≠ p.2))) (c_law_changed : LS.Cf P w K mg base 2 "_law_changed" ["_law_draws_here", "_law_grid_here", "_law_g", "_law_h"] [] (LS.spR K (fun s : List (List Int) × Int × Int => [LS.Sl.is s.1, LS.Sl.is s.2.1, LS.Sl.is s.2.2]) (fun s => Mi.Gz 1000004 s.1.length s.1 ∧ 2 ≤ s.1.length ∧ s.1.length ≤ 5 ∧ Mi.In s.1 s.2.1 ∧ Mi.In s.1 s.2.2 ∧ s.2.1 ≠ s.2.2) (fun s (g : List (List Int)) => Mi.Cg s.1 g s.2.1 s.2.2))) (c_law_one_right : LS.Cf P w K mg base 7 "_law_one_right" ["_law_grid_here", "_law_other", "_law_a", "_law_b", "_law_g", "_law_h", "_law_c", "_law_e"] [] (LS.sp8 K Mi.OneP (fun _ _ _ _ _ _ _ _ => true))) (c_law_behind_right : LS.Cf P w K mg base 7 "_law_behind_right" ["_law_grid_here", "_law_other", "_law_g", "_law_h", "_law_c", "_law_e"] [] (LS.sp6 K Mi.BehP (fun _ _ _ _ _ _ => true)))
    (F : FunD K "law" "law" (defArgs Hd.s_law) (defBody Hd.s_law) (defScope Hd.s_law) dvs [] f fd) : FnOk P w K mg base CX0 8 f fd ["_law_script"] (LS.spLaw K) := by
  have nd := sc_law.nd
  refine F.ok sc_law LS.spLaw_len (fun cdv A outer s H vs Q E hr h => ⟨_, PSs.nox (pss_cons (ps_set (i := 1) nd rfl (.inl rfl) (LS.pe_cf c_law_draws (hr.mono (by decide)) (by rfl) (pa_cons (pv 0) pa_nil)))
    (pss_cons (ps_set (i := 2) nd rfl (.inl rfl) (LS.pe_cf c_law_grid (hr.mono (by decide)) (by rfl) (pa_cons (pv 1) pa_nil)))
    (pss_cons (ps_if (pt_cmpR op_eq (LS.pe_cf c_law_take (hr.mono (by decide)) (by rfl) (pa_cons (pv 1) (pa_cons pe_int pa_nil))) pe_int (nomark _)) (pss_one (ps_set (i := 2) nd rfl (.inl rfl) (LS.pe_cf c_law_loose (hr.mono (by decide)) (by rfl) (pa_cons (pv 1) (pa_cons (pe_callB (LS.k_len (K := K) rfl) (by rfl) T.len (by decide +kernel) (pa_cons (pv 2) pa_nil)) pa_nil))))) pss_nil)
    (pss_cons (ps_set (i := 3) nd rfl (.inl rfl) (pe_callB (LS.k_len (K := K) rfl) (by rfl) T.len (by decide +kernel) (pa_cons (pv 2) pa_nil)))
    (pss_cons (ps_set (i := 4) nd rfl (.inl rfl) (LS.pe_cf c_law_pair (hr.mono (by decide)) (by rfl) (pa_cons (pv 1) (pa_cons (pv 3) pa_nil))))
    (pss_cons (ps_set (i := 5) nd rfl (.inl rfl) (LS.pe_cf c_law_pair (hr.mono (by decide)) (by rfl) (pa_cons (pv 1) (pa_cons (pv 3) pa_nil))))
    (pss_cons (ps_set (i := 6) nd rfl (.inl rfl) (LS.pe_cf c_law_changed (hr.mono (by decide)) (by rfl) (pa_cons (pv 1) (pa_cons (pv 2) (pa_cons (pe_ix (LS.k_ixT (K := K) rfl) (pv 4) pe_int (fun _ _ => rfl)) (pa_cons (pe_ix (LS.k_ixT (K := K) rfl) (pv 4) pe_int (fun _ _ => rfl)) pa_nil))))))
    (pss_cons (ps_if (pt_cmpR op_eq (pv 3) pe_int (nomark _)) (pss_one (ps_ret (LS.pe_cf c_law_one_right (hr.mono (by decide)) (by rfl) (pa_cons (pv 2) (pa_cons (pv 6) (pa_cons (pe_ix (LS.k_ixT (K := K) rfl) (pv 5) pe_int (fun _ _ => rfl)) (pa_cons (pe_ix (LS.k_ixT (K := K) rfl) (pv 5) pe_int (fun _ _ => rfl)) (pa_cons (pe_ix (LS.k_ixT (K := K) rfl) (pv 4) pe_int (fun _ _ => rfl)) (pa_cons (pe_ix (LS.k_ixT (K := K) rfl) (pv 4) pe_int (fun _ _ => rfl)) (pa_cons pe_int (pa_cons pe_int pa_nil))))))))))) pss_nil)
    (pss_cons (ps_set (i := 7) nd rfl (.inl rfl) (LS.pe_cf c_law_take (hr.mono (by decide)) (by rfl) (pa_cons (pv 1) (pa_cons (pe_op op_sub (pv 3) pe_int) pa_nil))))
    (pss_cons (ps_set (i := 8) nd rfl (.inl rfl) (pe_op op_mod (pe_callTy call_int1 (by rfl) T.int (by decide +kernel) (pa_cons (pe_op op_add (pe_op op_add (pe_ix (LS.k_ixT (K := K) rfl) (pv 4) pe_int (fun _ _ => rfl)) pe_int) (pv 7)) pa_nil)) (pv 3)))
    (pss_cons (ps_set (i := 9) nd rfl (.inl rfl) (pe_op op_mod (pe_callTy call_int1 (by rfl) T.int (by decide +kernel) (pa_cons (pe_op op_add (pe_op op_add (pe_ix (LS.k_ixT (K := K) rfl) (pv 4) pe_int (fun _ _ => rfl)) pe_int) (pe_op op_mod (pe_callTy call_int1 (by rfl) T.int (by decide +kernel) (pa_cons (pe_op op_add (pe_op op_add (pv 7) pe_int) (LS.pe_cf c_law_take (hr.mono (by decide)) (by rfl) (pa_cons (pv 1) (pa_cons (pe_op op_sub (pv 3) pe_int) pa_nil)))) pa_nil)) (pe_op op_sub (pv 3) pe_int))) pa_nil)) (pv 3)))
    (pss_cons (ps_if (pt_not (pt_val (LS.pe_cf c_law_one_right (hr.mono (by decide)) (by rfl) (pa_cons (pv 2) (pa_cons (pv 6) (pa_cons (pe_ix (LS.k_ixT (K := K) rfl) (pv 5) pe_int (fun _ _ => rfl)) (pa_cons (pe_ix (LS.k_ixT (K := K) rfl) (pv 5) pe_int (fun _ _ => rfl)) (pa_cons (pe_ix (LS.k_ixT (K := K) rfl) (pv 4) pe_int (fun _ _ => rfl)) (pa_cons (pe_ix (LS.k_ixT (K := K) rfl) (pv 4) pe_int (fun _ _ => rfl)) (pa_cons (pv 8) (pa_cons (pv 9) pa_nil))))))))))) (pss_one (ps_ret pe_bl)) pss_nil)
    (pss_cons (ps_if (pt_not (pt_val (LS.pe_cf c_law_one_right (hr.mono (by decide)) (by rfl) (pa_cons (pv 2) (pa_cons (pv 6) (pa_cons (pe_ix (LS.k_ixT (K := K) rfl) (pv 4) pe_int (fun _ _ => rfl)) (pa_cons (pe_ix (LS.k_ixT (K := K) rfl) (pv 4) pe_int (fun _ _ => rfl)) (pa_cons (pe_ix (LS.k_ixT (K := K) rfl) (pv 4) pe_int (fun _ _ => rfl)) (pa_cons (pe_ix (LS.k_ixT (K := K) rfl) (pv 4) pe_int (fun _ _ => rfl)) (pa_cons (pv 8) (pa_cons (pv 9) pa_nil))))))))))) (pss_one (ps_ret pe_bl)) pss_nil)
    (pss_one (ps_ret (LS.pe_cf c_law_behind_right (hr.mono (by decide)) (by rfl) (pa_cons (pv 2) (pa_cons (pv 6) (pa_cons (pe_ix (LS.k_ixT (K := K) rfl) (pv 4) pe_int (fun _ _ => rfl)) (pa_cons (pe_ix (LS.k_ixT (K := K) rfl) (pv 4) pe_int (fun _ _ => rfl)) (pa_cons (pv 8) (pa_cons (pv 9) pa_nil)))))))))))))))))))))), ?_⟩)

  have true_ : ∀ (H0 : Hp) (a : Bool), a = true → (∃ (aa : Addr) (ns : List Int), vs = [V.ref aa] ∧ SqL K H aa (ns.map V.int) ∧ ∀ H', Q (.bl true) H') → ∀ v H', LS.Rep.rep K H0 v a → Q v H' := fun H0 a ha hq v H' r => by
    obtain ⟨_, _, _, _, q⟩ := hq
    subst ha
    cases LS.rep_bl r
    exact q H'
  have hq := h
  refine LS.law_body rfl h fun H0 d => ?_
  refine LS.b_asg (LS.exd_callA (i := ()) LS.ea_nil True.intro) (LS.apn (by decide)) fun g1 hg1 => ?_
  refine LS.b_join (fun sp2 og2 => ∃ g : List (List Int), sp2 = [.no, .no, .is g, .no, .no, .no, .no, .no, .no, .no] ∧ og2 = .no ∧ (Mi.Gz 1000004 g.length g ∧ 2 ≤ g.length ∧ g.length ≤ 5)) (fun sp2 og2 hR => ?_) (fun fin => ?_)
  case refine_2 =>
    refine LS.b_if (LS.etd_test (LS.exd_eq (LS.exd_take LS.ex_ci) (LS.exd_of LS.ex_ci))) (fun _ => ?_) (fun _ => LS.b_next fun σ H s => fin _ _ ⟨g1, rfl, rfl, hg1⟩ σ H s)
    refine LS.b_asgL (LS.exd_callA (i := (g1.length : Int)) (LS.ea_cons (LS.ex_lenL (LS.ex_var rfl)) LS.ea_nil) ⟨by have := hg1.2.1; omega, by have := hg1.2.2; omega⟩) (LS.apn (by decide)) fun g2 hg2 σ H s => fin _ _ ⟨g2, rfl, rfl, ?_⟩ σ H s
    have e2 := hg2.len
    rw [Int.toNat_natCast] at e2 hg2
    rw [e2]
    exact ⟨hg2, hg1.2⟩
  obtain ⟨g, rfl, rfl, hz, n2, n5⟩ := hR
  have sz : 2 ≤ (g.length : Int) ∧ (g.length : Int) ≤ 5 := by omega
  refine LS.b_asg (LS.exd_of (LS.ex_lenL (LS.ex_var rfl))) (LS.apn (by decide)) fun n hn => ?_
  subst hn
  refine LS.b_asg (LS.exd_callA (i := (g.length : Int)) (LS.ea_cons (LS.ex_var rfl) LS.ea_nil) sz) (LS.apn (by decide)) fun p hp => ?_
  refine LS.b_asg (LS.exd_callA (i := (g.length : Int)) (LS.ea_cons (LS.ex_var rfl) LS.ea_nil) sz) (LS.apn (by decide)) fun q hq2 => ?_
  obtain ⟨iG, ih, ne⟩ := hp
  obtain ⟨ia, ib, ab⟩ := hq2
  refine LS.b_asg (LS.exd_callA (i := (g, p.1, p.2)) (LS.ea_cons (LS.ex_var rfl) (LS.ea_cons (LS.ex_fst (α := Int) (β := Int) (LS.ex_var rfl)) (LS.ea_cons (LS.ex_snd (α := Int) (β := Int) (LS.ex_var rfl)) LS.ea_nil))) ⟨hz, n2, n5, iG, ih, ne⟩) (LS.apn (by decide)) fun o hcg => ?_
  have cg : Mi.Cg g o p.1 p.2 := hcg
  refine LS.b_ifn ((LS.etd_of (LS.et_test (LS.ex_eq (LS.ex_var rfl) LS.ex_ci)))) (fun hs => ?_) (fun hs => ?_)
  · have s2 : (g.length : Int) = 2 := of_decide_eq_true hs.symm
    have op2 : Mi.OneP g o q.1 q.2 p.1 p.2 0 1 := ⟨cg, ia, ib, ⟨by decide, by omega⟩, ⟨by decide, by omega⟩, ab, by decide⟩
    exact LS.b_ret ((LS.exd_of (LS.ex_call8 (LS.ex_var rfl) (LS.ex_var rfl) (LS.ex_fst (α := Int) (β := Int) (LS.ex_var rfl)) (LS.ex_snd (α := Int) (β := Int) (LS.ex_var rfl)) (LS.ex_fst (α := Int) (β := Int) (LS.ex_var rfl)) (LS.ex_snd (α := Int) (β := Int) (LS.ex_var rfl)) LS.ex_ci LS.ex_ci (by exact op2)))) (r := fun _ => True) fun a ha v H' _ r => true_ _ a ha hq v H' r
  have s3 : ¬ (g.length : Int) = 2 := of_decide_eq_false hs.symm
  refine LS.b_asg ((LS.exd_take (LS.ex_sub (LS.ex_var rfl) LS.ex_ci))) (LS.apn (by decide)) fun f hf => ?_
  have f0 := hf.1
  have f1 := hf.2 (by omega)
  refine LS.b_asg ((LS.exd_of (LS.ex_mod (LS.ex_int (LS.ex_add (LS.ex_add (LS.ex_fst (α := Int) (β := Int) (LS.ex_var rfl)) LS.ex_ci) (LS.ex_var rfl))) (LS.ex_var rfl) (by omega)))) (LS.apn (by decide)) fun c hc => ?_
  have ic : Mi.In g c := by subst hc; exact ⟨Int.emod_nonneg _ (by omega), Int.emod_lt_of_pos _ (by omega)⟩
  have gc : p.1 ≠ c := fun z => Mi.far_ne (n := (g.length : Int)) iG ⟨f0, f1⟩ (by rw [← hc]; exact z.symm)
  refine LS.b_asg ((LS.exd_mod (LS.exd_int (LS.exd_add (LS.exd_of (LS.ex_add (LS.ex_fst (α := Int) (β := Int) (LS.ex_var rfl)) LS.ex_ci)) (LS.exd_mod (LS.exd_int (LS.exd_add (LS.exd_of (LS.ex_add (LS.ex_var rfl) LS.ex_ci)) (LS.exd_take (LS.ex_sub (LS.ex_var rfl) LS.ex_ci)))) (LS.exd_of (LS.ex_sub (LS.ex_var rfl) LS.ex_ci)) (by (intro y hy; omega))))) (LS.exd_of (LS.ex_var rfl)) (by (intro y hy; omega)))) (LS.apn (by decide)) fun e he => ?_
  have hee : ∃ t : Int, 0 ≤ t ∧ t < (g.length : Int) - 2 ∧ e = (p.1 + 1 + (f + 1 + t) % ((g.length : Int) - 1)) % (g.length : Int) := by
    obtain ⟨x, y, ⟨x1, y1, rfl, ⟨x2, y2, ⟨x3, t, rfl, ⟨ht, ht2⟩, rfl⟩, rfl, rfl⟩, rfl⟩, rfl, rfl⟩ := he
    exact ⟨t, ht, ht2 (by omega), rfl⟩
  obtain ⟨t, t0, t1, hee⟩ := hee
  have u0 : 0 ≤ (f + 1 + t) % ((g.length : Int) - 1) ∧ (f + 1 + t) % ((g.length : Int) - 1) < (g.length : Int) - 1 := ⟨Int.emod_nonneg _ (by omega), Int.emod_lt_of_pos _ (by omega)⟩
  have ie : Mi.In g e := by subst hee; exact ⟨Int.emod_nonneg _ (by omega), Int.emod_lt_of_pos _ (by omega)⟩
  have ge : p.1 ≠ e := fun z => Mi.far_ne (n := (g.length : Int)) iG u0 (by rw [← hee]; exact z.symm)
  have ce : c ≠ e := fun z => by
    have k1 : (f + (p.1 + 1)) % (g.length : Int) = ((f + 1 + t) % ((g.length : Int) - 1) + (p.1 + 1)) % (g.length : Int) := by
      rw [Int.add_comm f, Int.add_comm _ (p.1 + 1), ← hee, ← z, hc]
    have k2 := Mi.shift_inj (x := f) (n := (g.length : Int)) ⟨f0, by omega⟩ ⟨u0.1, by omega⟩ k1
    exact Mi.far_ne (x := f) (t := t) (n := (g.length : Int) - 1) ⟨f0, f1⟩ ⟨t0, by omega⟩ k2.symm
  have op : Mi.OneP g o q.1 q.2 p.1 p.2 c e := ⟨cg, ia, ib, ic, ie, ab, ce⟩
  have op3 : Mi.OneP g o p.1 p.2 p.1 p.2 c e := ⟨cg, iG, ih, ic, ie, ne, ce⟩
  have bp : Mi.BehP g o p.1 p.2 c e := ⟨cg, ic, ie, ce, gc, ge⟩
  refine LS.b_ifn ((LS.etd_of (LS.et_not (LS.et_b (LS.ex_call8 (LS.ex_var rfl) (LS.ex_var rfl) (LS.ex_fst (α := Int) (β := Int) (LS.ex_var rfl)) (LS.ex_snd (α := Int) (β := Int) (LS.ex_var rfl)) (LS.ex_fst (α := Int) (β := Int) (LS.ex_var rfl)) (LS.ex_snd (α := Int) (β := Int) (LS.ex_var rfl)) (LS.ex_var rfl) (LS.ex_var rfl) (by exact op)))))) (fun z => nomatch z) (fun _ => ?_)
  refine LS.b_ifn ((LS.etd_of (LS.et_not (LS.et_b (LS.ex_call8 (LS.ex_var rfl) (LS.ex_var rfl) (LS.ex_fst (α := Int) (β := Int) (LS.ex_var rfl)) (LS.ex_snd (α := Int) (β := Int) (LS.ex_var rfl)) (LS.ex_fst (α := Int) (β := Int) (LS.ex_var rfl)) (LS.ex_snd (α := Int) (β := Int) (LS.ex_var rfl)) (LS.ex_var rfl) (LS.ex_var rfl) (by exact op3)))))) (fun z => nomatch z) (fun _ => ?_)
  exact LS.b_ret ((LS.exd_of (LS.ex_call6 (LS.ex_var rfl) (LS.ex_var rfl) (LS.ex_fst (α := Int) (β := Int) (LS.ex_var rfl)) (LS.ex_snd (α := Int) (β := Int) (LS.ex_var rfl)) (LS.ex_var rfl) (LS.ex_var rfl) (by exact bp)))) (r := fun _ => True) fun a ha v H' _ r => true_ _ a ha hq v H' r
end
namespace Hd
open PySem PySem.Spec
      PyProof.Rows L2
theorem glo_of {K : PySem.W.Frag} (hN : (names.all fun x => decide (x = "LEAST_SIZE") || (decide (x = "MOST_SIZE") || (He.Fa.glo x).ok K)) = true) {x : PySem.Str} (hm : x ∈ names) (n1 : decide (x = "LEAST_SIZE") = false) (n2 : decide (x = "MOST_SIZE") = false) : (He.Fa.glo x).ok K = true := by
  have z := (List.all_eq_true.mp hN) x hm
  rw [n1, n2, Bool.false_or, Bool.false_or] at z
  exact z
theorem free_of {K : PySem.W.Frag} (hN : (blt.all fun x => (He.Fa.free x).ok K) = true) {x : PySem.Str} (hm : x ∈ blt) : (He.Fa.free x).ok K = true := (List.all_eq_true.mp hN) x hm
theorem ba2 {a b : Bool} (h : (a && b) = true) : a = true ∧ b = true := by simpa using h
theorem emptyT_ok {K : PySem.W.Frag} {p : Addr} (h : emptyT K p = true) (G : Hp) : LS.Rep.rep K G (V.ref p) (LS.Tp.mk ([] : List (Int × Int))) := by
  unfold emptyT at h
  cases q : K.lookup p with
  | none =>
    rw [q] at h
    cases h
  | some ob =>
    rw [q] at h
    obtain ⟨h1, h2⟩ := ba2 h
    cases hd : ob.data with
    | seq its n =>
      rw [hd] at h2
      have e : its = #[] := Array.eq_empty_of_size_eq_zero (by simpa using h2)
      subst e
      exact ⟨p, [], rfl, .inr ⟨ob, #[], n, q, of_decide_eq_true h1, hd, Nat.zero_le _, .nil⟩, .nil⟩
    | _ =>
      rw [hd] at h2
      cases h2
theorem facts {P : Program} {w : World} {K : PySem.W.Frag} {h : Heap} {mg : PySem.Str → Option Value} {f : Addr} (X : K.In h) (G : h.Ns mainGlobals mg) (hfa : mg ("law" : PySem.Str) = some (.ref f)) (c : LH.SaysX fB fns K) :
    ∃ fd : FuncData, (∀ (s : Shared) (v : Value), BindsTo s fd ⟨[v], []⟩ [("_law_script", v)]) ∧ ∀ base : Heap, K.In base → base.Ns mainGlobals mg → FnOk P w K mg base CX0 8 f fd ["_law_script"] (LS.spLaw K) := by
  obtain ⟨z1, z⟩ := ba2 c.facts
  obtain ⟨z2, z⟩ := ba2 z
  obtain ⟨z3, z⟩ := ba2 z
  obtain ⟨z4, z⟩ := ba2 z
  obtain ⟨z5, z⟩ := ba2 z
  obtain ⟨z6, z⟩ := ba2 z
  obtain ⟨z7, z⟩ := ba2 z
  obtain ⟨z8, z⟩ := ba2 z
  obtain ⟨z9, z⟩ := ba2 z
  obtain ⟨z10, z⟩ := ba2 z
  obtain ⟨z11, z⟩ := ba2 z
  obtain ⟨z12, z⟩ := ba2 z
  obtain ⟨z13, z⟩ := ba2 z
  obtain ⟨z14, z15⟩ := ba2 z
  have gl : ∀ {x : PySem.Str}, x ∈ names → decide (x = "LEAST_SIZE") = false → decide (x = "MOST_SIZE") = false → mg x = some (.ref (He.ga K x)) := fun hm n1 n2 => He.glo_ok X G (glo_of z1 hm n1 n2)
  have fr : ∀ {x : PySem.Str}, x ∈ blt → mg x = none := fun hm => He.free_ok X G (free_of z3 hm)
  have T : LS.Bt mg := {
    len := fr (by decide +kernel)
    range := fr (by decide +kernel)
    list := fr (by decide +kernel)
    tuple := fr (by decide +kernel)
    int := fr (by decide +kernel)
    bool := fr (by decide +kernel)
    isinstance := fr (by decide +kernel)
    enumerate := fr (by decide +kernel)
    zip := fr (by decide +kernel)
    sum := fr (by decide +kernel)
    sorted := fr (by decide +kernel)
    all := fr (by decide +kernel)
    any := fr (by decide +kernel)
    max := fr (by decide +kernel)
    min := fr (by decide +kernel)
    dict := fr (by decide +kernel)
    c_LEAST_SIZE := He.int_ok X G z4
    c_MOST_SIZE := He.int_ok X G z5 }
  have ktb : LS.TbK K := ⟨He.cls_ok z6, He.noat_ok z8, He.noat_ok z9, He.noat_ok z10⟩
  have dfe := fun Gp : Hp => emptyT_ok z15 Gp
  have wr := He5.wrapB_ok z11
  obtain ⟨d_law_draws, F_law_draws⟩ := c.fn 27 (y := Hd.y_law_draws) rfl
  obtain ⟨d_law_take, F_law_take⟩ := c.fn 28 (y := Hd.y_law_take) rfl
  obtain ⟨d_law_empty, F_law_empty⟩ := c.fn 29 (y := Hd.y_law_empty) rfl
  obtain ⟨d_law_rate, F_law_rate⟩ := c.fn 31 (y := Hd.y_law_rate) rfl
  obtain ⟨d_law_hung_grid, F_law_hung_grid⟩ := c.fn 33 (y := Hd.y_law_hung_grid) rfl
  obtain ⟨d_law_lots_grid, F_law_lots_grid⟩ := c.fn 34 (y := Hd.y_law_lots_grid) rfl
  obtain ⟨d_law_cross_grid, F_law_cross_grid⟩ := c.fn 35 (y := Hd.y_law_cross_grid) rfl
  obtain ⟨d_law_ring_grid, F_law_ring_grid⟩ := c.fn 32 (y := Hd.y_law_ring_grid) rfl
  obtain ⟨d_law_moved, F_law_moved⟩ := c.fn 36 (y := Hd.y_law_moved) rfl
  obtain ⟨d_law_grid, F_law_grid⟩ := c.fn 37 (y := Hd.y_law_grid) rfl
  obtain ⟨d_law_loose, F_law_loose⟩ := c.fn 38 (y := Hd.y_law_loose) rfl
  obtain ⟨d_law_pair, F_law_pair⟩ := c.fn 39 (y := Hd.y_law_pair) rfl
  obtain ⟨d_law_copy, F_law_copy⟩ := c.fn 30 (y := Hd.y_law_copy) rfl
  obtain ⟨d_law_changed, F_law_changed⟩ := c.fn 48 (y := Hd.y_law_changed) rfl
  obtain ⟨d_is_list, F_is_list⟩ := c.fn 1 (y := Hd.y_is_list) rfl
  obtain ⟨d_is_int, F_is_int⟩ := c.fn 0 (y := Hd.y_is_int) rfl
  obtain ⟨d_is_size, F_is_size⟩ := c.fn 2 (y := Hd.y_is_size) rfl
  obtain ⟨d_checked_row, F_checked_row⟩ := c.fn 20 (y := Hd.y_checked_row) rfl
  obtain ⟨d_checked_rows, F_checked_rows⟩ := c.fn 19 (y := Hd.y_checked_rows) rfl
  obtain ⟨d_Table_pairs_of, F_Table_pairs_of⟩ := c.fn 18 (y := Hd.y_Table_pairs_of) rfl
  obtain ⟨d_Table_init, F_Table_init⟩ := c.fn 17 (y := Hd.y_Table_init) rfl
  obtain ⟨d_is_state, F_is_state⟩ := c.fn 3 (y := Hd.y_is_state) rfl
  obtain ⟨d_check_states, F_check_states⟩ := c.fn 7 (y := Hd.y_check_states) rfl
  obtain ⟨d_states_of, F_states_of⟩ := c.fn 6 (y := Hd.y_states_of) rfl
  obtain ⟨d_out_rows, F_out_rows⟩ := c.fn 12 (y := Hd.y_out_rows) rfl
  obtain ⟨d_reduced, F_reduced⟩ := c.fn 10 (y := Hd.y_reduced) rfl
  obtain ⟨d_determinant, F_determinant⟩ := c.fn 9 (y := Hd.y_determinant) rfl
  obtain ⟨d_replaced_determinants, F_replaced_determinants⟩ := c.fn 11 (y := Hd.y_replaced_determinants) rfl
  obtain ⟨d_forest_row, F_forest_row⟩ := c.fn 8 (y := Hd.y_forest_row) rfl
  obtain ⟨d_coming_row, F_coming_row⟩ := c.fn 15 (y := Hd.y_coming_row) rfl
  obtain ⟨d_push, F_push⟩ := c.fn 25 (y := Hd.y_push) rfl
  obtain ⟨d_law_int, F_law_int⟩ := c.fn 40 (y := Hd.y_law_int) rfl
  obtain ⟨d_law_lead, F_law_lead⟩ := c.fn 42 (y := Hd.y_law_lead) rfl
  obtain ⟨d_law_forests, F_law_forests⟩ := c.fn 43 (y := Hd.y_law_forests) rfl
  obtain ⟨d_law_weight, F_law_weight⟩ := c.fn 44 (y := Hd.y_law_weight) rfl
  obtain ⟨d_law_push, F_law_push⟩ := c.fn 46 (y := Hd.y_law_push) rfl
  obtain ⟨d_law_one_right, F_law_one_right⟩ := c.fn 50 (y := Hd.y_law_one_right) rfl
  obtain ⟨d_push_rows, F_push_rows⟩ := c.fn 26 (y := Hd.y_push_rows) rfl
  obtain ⟨d_law_ints, F_law_ints⟩ := c.fn 41 (y := Hd.y_law_ints) rfl
  obtain ⟨d_law_rows_kind, F_law_rows_kind⟩ := c.fn 47 (y := Hd.y_law_rows_kind) rfl
  obtain ⟨d_law_sum, F_law_sum⟩ := c.fn 45 (y := Hd.y_law_sum) rfl
  obtain ⟨d_sum_within, F_sum_within⟩ := c.fn 14 (y := Hd.y_sum_within) rfl
  obtain ⟨d_sum_over, F_sum_over⟩ := c.fn 13 (y := Hd.y_sum_over) rfl
  obtain ⟨d_pair_sum, F_pair_sum⟩ := c.fn 16 (y := Hd.y_pair_sum) rfl
  obtain ⟨d_law_behind_right, F_law_behind_right⟩ := c.fn 49 (y := Hd.y_law_behind_right) rfl
  obtain ⟨d_law, F_law⟩ := c.fn 51 (y := Hd.y_law) rfl
  have e := hfa.symm.trans (He.glo_ok X G z2)
  cases e
  have b := FunD.bindsA (ps := ["_law_script"]) F_law fun _ _ _ _ _ _ us hl => match us, hl with | [_], _ => rfl
  refine ⟨d_law, fun s v => b s [v] rfl, fun base _ _ => ?_⟩
  have c_law_draws : LS.Cf P w K mg base 1 "_law_draws" ["_law_script"] [] (LS.spD K) := ⟨_, d_law_draws, [], ok_law_draws T  F_law_draws, (gl (by decide +kernel) (by decide +kernel) (by decide +kernel)), F_law_draws.kp, (F_law_draws.bindsN fun _ _ _ _ _ _ us hl => match us, hl with | [_], _ => rfl), .nil⟩
  have c_law_take : LS.Cf P w K mg base 1 "_law_take" ["_law_draws_here", "_law_many"] [] (LS.takeP K) := ⟨_, d_law_take, [], ok_law_take T  F_law_take, (gl (by decide +kernel) (by decide +kernel) (by decide +kernel)), F_law_take.kp, (F_law_take.bindsN fun _ _ _ _ _ _ us hl => match us, hl with | [_, _], _ => rfl), .nil⟩
  have c_law_empty : LS.Cf P w K mg base 1 "_law_empty" ["_law_size"] [] (LS.spG K (fun n : Int => [LS.Sl.is n]) (fun n => 0 ≤ n ∧ n ≤ 8) Mi.zeros) := ⟨_, d_law_empty, [], ok_law_empty T  F_law_empty, (gl (by decide +kernel) (by decide +kernel) (by decide +kernel)), F_law_empty.kp, (F_law_empty.bindsN fun _ _ _ _ _ _ us hl => match us, hl with | [_], _ => rfl), .nil⟩
  have c_law_rate : LS.Cf P w K mg base 2 "_law_rate" ["_law_draws_here", "_law_style"] [] (LS.spR K (fun s : Int => [LS.Sl.is s]) (fun _ => True) (fun _ (r : Int) => 1 ≤ r ∧ r ≤ 1000003)) := ⟨_, d_law_rate, [], ok_law_rate T c_law_take F_law_rate, (gl (by decide +kernel) (by decide +kernel) (by decide +kernel)), F_law_rate.kp, (F_law_rate.bindsN fun _ _ _ _ _ _ us hl => match us, hl with | [_, _], _ => rfl), .nil⟩
  have c_law_hung_grid : LS.Cf P w K mg base 3 "_law_hung_grid" ["_law_draws_here", "_law_size", "_law_style"] [] (LS.spR K (fun s : Int × Int => [LS.Sl.is s.1, LS.Sl.is s.2]) (fun s => 2 ≤ s.1 ∧ s.1 ≤ 5) (fun s (g : List (List Int)) => Mi.Gz 1000004 s.1.toNat g)) := ⟨_, d_law_hung_grid, [], ok_law_hung_grid T c_law_empty c_law_rate c_law_take F_law_hung_grid, (gl (by decide +kernel) (by decide +kernel) (by decide +kernel)), F_law_hung_grid.kp, (F_law_hung_grid.bindsN fun _ _ _ _ _ _ us hl => match us, hl with | [_, _, _], _ => rfl), .nil⟩
  have c_law_lots_grid : LS.Cf P w K mg base 3 "_law_lots_grid" ["_law_draws_here", "_law_size", "_law_style"] [] (LS.spR K (fun s : Int × Int => [LS.Sl.is s.1, LS.Sl.is s.2]) (fun s => 2 ≤ s.1 ∧ s.1 ≤ 5) (fun s (g : List (List Int)) => Mi.Gz 1000004 s.1.toNat g)) := ⟨_, d_law_lots_grid, [], ok_law_lots_grid T c_law_empty c_law_rate c_law_take F_law_lots_grid, (gl (by decide +kernel) (by decide +kernel) (by decide +kernel)), F_law_lots_grid.kp, (F_law_lots_grid.bindsN fun _ _ _ _ _ _ us hl => match us, hl with | [_, _, _], _ => rfl), .nil⟩
  have c_law_cross_grid : LS.Cf P w K mg base 3 "_law_cross_grid" ["_law_draws_here", "_law_size", "_law_style"] [] (LS.spR K (fun s : Int × Int => [LS.Sl.is s.1, LS.Sl.is s.2]) (fun s => 4 ≤ s.1 ∧ s.1 ≤ 5) (fun s (g : List (List Int)) => Mi.Gz 1000004 s.1.toNat g)) := ⟨_, d_law_cross_grid, [], ok_law_cross_grid T c_law_empty c_law_rate c_law_take F_law_cross_grid, (gl (by decide +kernel) (by decide +kernel) (by decide +kernel)), F_law_cross_grid.kp, (F_law_cross_grid.bindsN fun _ _ _ _ _ _ us hl => match us, hl with | [_, _, _], _ => rfl), .nil⟩
  have c_law_ring_grid : LS.Cf P w K mg base 3 "_law_ring_grid" ["_law_draws_here", "_law_size", "_law_style", "_law_thick"] [] (LS.spR K (fun s : Int × Int × Int => [LS.Sl.is s.1, LS.Sl.is s.2.1, LS.Sl.is s.2.2]) (fun s => 2 ≤ s.1 ∧ s.1 ≤ 5) (fun s (g : List (List Int)) => Mi.Gz 1000004 s.1.toNat g)) := ⟨_, d_law_ring_grid, [], ok_law_ring_grid T c_law_empty c_law_rate c_law_take F_law_ring_grid, (gl (by decide +kernel) (by decide +kernel) (by decide +kernel)), F_law_ring_grid.kp, (F_law_ring_grid.bindsN fun _ _ _ _ _ _ us hl => match us, hl with | [_, _, _, _], _ => rfl), .nil⟩
  have c_law_moved : LS.Cf P w K mg base 2 "_law_moved" ["_law_grid_here", "_law_shift"] [] (LS.spQ K (fun s : List (List Int) × Int => [LS.Sl.is s.1, LS.Sl.is s.2]) (fun s => Mi.Gz 1000004 s.1.length s.1 ∧ 2 ≤ s.1.length ∧ s.1.length ≤ 5) (fun s (g : List (List Int)) => Mi.Gz 1000004 s.1.length g)) := ⟨_, d_law_moved, [], ok_law_moved T c_law_empty F_law_moved, (gl (by decide +kernel) (by decide +kernel) (by decide +kernel)), F_law_moved.kp, (F_law_moved.bindsN fun _ _ _ _ _ _ us hl => match us, hl with | [_, _], _ => rfl), .nil⟩
  have c_law_grid : LS.Cf P w K mg base 4 "_law_grid" ["_law_draws_here"] [] (LS.spR K (fun _ : Unit => []) (fun _ => True) (fun _ (g : List (List Int)) => Mi.Gz 1000004 g.length g ∧ 2 ≤ g.length ∧ g.length ≤ 5)) := ⟨_, d_law_grid, [], ok_law_grid T c_law_take c_law_hung_grid c_law_lots_grid c_law_cross_grid c_law_ring_grid c_law_moved F_law_grid, (gl (by decide +kernel) (by decide +kernel) (by decide +kernel)), F_law_grid.kp, (F_law_grid.bindsN fun _ _ _ _ _ _ us hl => match us, hl with | [_], _ => rfl), .nil⟩
  have c_law_loose : LS.Cf P w K mg base 2 "_law_loose" ["_law_draws_here", "_law_size"] [] (LS.spR K (fun s : Int => [LS.Sl.is s]) (fun s => 2 ≤ s ∧ s ≤ 5) (fun s (g : List (List Int)) => Mi.Gz 1000004 s.toNat g)) := ⟨_, d_law_loose, [], ok_law_loose T c_law_empty c_law_take F_law_loose, (gl (by decide +kernel) (by decide +kernel) (by decide +kernel)), F_law_loose.kp, (F_law_loose.bindsN fun _ _ _ _ _ _ us hl => match us, hl with | [_, _], _ => rfl), .nil⟩
  have c_law_pair : LS.Cf P w K mg base 2 "_law_pair" ["_law_draws_here", "_law_size"] [] (LS.spR K (fun s : Int => [LS.Sl.is s]) (fun s => 2 ≤ s ∧ s ≤ 5) (fun s (p : Int × Int) => (0 ≤ p.1 ∧ p.1 < s) ∧ (0 ≤ p.2 ∧ p.2 < s) ∧ p.1 ≠ p.2)) := ⟨_, d_law_pair, [], ok_law_pair T c_law_take F_law_pair, (gl (by decide +kernel) (by decide +kernel) (by decide +kernel)), F_law_pair.kp, (F_law_pair.bindsN fun _ _ _ _ _ _ us hl => match us, hl with | [_, _], _ => rfl), .nil⟩
  have c_law_copy_g : LS.Cf P w K mg base 1 "_law_copy" ["_law_grid_here"] [] (LS.spG K (fun g : List (List Int) => [LS.Sl.is g]) (fun g => g.length ≤ 40000) id) := ⟨_, d_law_copy, [], ok_law_copy_g T  F_law_copy, (gl (by decide +kernel) (by decide +kernel) (by decide +kernel)), F_law_copy.kp, (F_law_copy.bindsN fun _ _ _ _ _ _ us hl => match us, hl with | [_], _ => rfl), .nil⟩
  have c_law_changed : LS.Cf P w K mg base 2 "_law_changed" ["_law_draws_here", "_law_grid_here", "_law_g", "_law_h"] [] (LS.spR K (fun s : List (List Int) × Int × Int => [LS.Sl.is s.1, LS.Sl.is s.2.1, LS.Sl.is s.2.2]) (fun s => Mi.Gz 1000004 s.1.length s.1 ∧ 2 ≤ s.1.length ∧ s.1.length ≤ 5 ∧ Mi.In s.1 s.2.1 ∧ Mi.In s.1 s.2.2 ∧ s.2.1 ≠ s.2.2) (fun s (g : List (List Int)) => Mi.Cg s.1 g s.2.1 s.2.2)) := ⟨_, d_law_changed, [], ok_law_changed T c_law_copy_g c_law_take F_law_changed, (gl (by decide +kernel) (by decide +kernel) (by decide +kernel)), F_law_changed.kp, (F_law_changed.bindsN fun _ _ _ _ _ _ us hl => match us, hl with | [_, _, _, _], _ => rfl), .nil⟩
  have c_law_copy : LS.Cf P w K mg base 1 "_law_copy" ["_law_grid_here"] [] (LS.sp1 K (fun g : List (List Int) => g.length ≤ 40000) id) := ⟨_, d_law_copy, [], ok_law_copy T  F_law_copy, (gl (by decide +kernel) (by decide +kernel) (by decide +kernel)), F_law_copy.kp, (F_law_copy.bindsN fun _ _ _ _ _ _ us hl => match us, hl with | [_], _ => rfl), .nil⟩
  have c_is_list : ∀ (α : Type) [LS.Rep α], LS.Cf P w K mg base 1 "is_list" ["thing"] [] (LS.sp1 K (fun _ : List α => True) (fun _ => true)) := fun α _ => ⟨_, d_is_list, [], ok_is_list (α := α) T F_is_list, (gl (by decide +kernel) (by decide +kernel) (by decide +kernel)), F_is_list.kp, (F_is_list.bindsN fun _ _ _ _ _ _ us hl => match us, hl with | [_], _ => rfl), .nil⟩
  have c_is_int : LS.Cf P w K mg base 1 "is_int" ["thing"] [] (LS.sp1 K (fun _ : Int => True) (fun _ => true)) := ⟨_, d_is_int, [], ok_is_int T  F_is_int, (gl (by decide +kernel) (by decide +kernel) (by decide +kernel)), F_is_int.kp, (F_is_int.bindsN fun _ _ _ _ _ _ us hl => match us, hl with | [_], _ => rfl), .nil⟩
  have c_is_size : LS.Cf P w K mg base 2 "is_size" ["thing"] [] (LS.sp1 K (fun _ : Int => True) (fun a => decide (2 ≤ a) && decide (a ≤ 8))) := ⟨_, d_is_size, [], ok_is_size T c_is_int F_is_size, (gl (by decide +kernel) (by decide +kernel) (by decide +kernel)), F_is_size.kp, (F_is_size.bindsN fun _ _ _ _ _ _ us hl => match us, hl with | [_], _ => rfl), .nil⟩
  have c_checked_row : LS.Cf P w K mg base 2 "checked_row" ["size", "x", "row"] [] (LS.sp3 K (fun (n x : Int) (row : List Int) => (row.length : Int) = n ∧ ∀ a ∈ LS.enumI row, 0 ≤ a.2 ∧ (x = a.1 → a.2 = 0)) (fun _ _ row => LS.Tp.mk row)) := ⟨_, d_checked_row, [], ok_checked_row T c_is_list c_is_int F_checked_row, (gl (by decide +kernel) (by decide +kernel) (by decide +kernel)), F_checked_row.kp, (F_checked_row.bindsN fun _ _ _ _ _ _ us hl => match us, hl with | [_, _, _], _ => rfl), .nil⟩
  have c_checked_rows : LS.Cf P w K mg base 3 "checked_rows" ["rows"] [] (LS.sp1 K (fun (g : List (List Int)) => Mi.Ok g) LS.tOf) := ⟨_, d_checked_rows, [], ok_checked_rows T c_is_list c_is_size c_checked_row F_checked_rows, (gl (by decide +kernel) (by decide +kernel) (by decide +kernel)), F_checked_rows.kp, (F_checked_rows.bindsN fun _ _ _ _ _ _ us hl => match us, hl with | [_], _ => rfl), .nil⟩
  have c_Table_pairs_of : LS.Cs P w K mg base 1 "Table" "pairs_of" ["size"] (LS.sp1 K (fun n : Int => 0 ≤ n ∧ n ≤ 8) Mi.prs) := ⟨_, _, d_Table_pairs_of, ok_Table_pairs_of T  F_Table_pairs_of, (gl (by decide +kernel) (by decide +kernel) (by decide +kernel)), ⟨⟨z12, He.eqO_ok z14⟩, ⟨_, wr.1, wr.2⟩, F_Table_pairs_of.kp⟩, (F_Table_pairs_of.bindsN fun _ _ _ _ _ _ us hl => match us, hl with | [_], _ => rfl)⟩
  have c_mk_Table : LS.Cm P w K mg base 4 "Table" ["self", "rows"] (LS.spT K Mi.Ok) := ⟨_, d_Table_init, ok_Table_init T ktb c_checked_rows c_Table_pairs_of F_Table_init, He.mkr_ok z7, (gl (by decide +kernel) (by decide +kernel) (by decide +kernel)), (F_Table_init.bindsN fun _ _ _ _ _ _ us hl => match us, hl with | [_, _], _ => rfl)⟩
  have c_is_state : LS.Cf P w K mg base 2 "is_state" ["size", "thing"] [] (LS.sp2 K (fun _ _ : Int => True) (fun a b => decide (0 ≤ b) && decide (b < a))) := ⟨_, d_is_state, [], ok_is_state T c_is_int F_is_state, (gl (by decide +kernel) (by decide +kernel) (by decide +kernel)), F_is_state.kp, (F_is_state.bindsN fun _ _ _ _ _ _ us hl => match us, hl with | [_, _], _ => rfl), .nil⟩
  have b3_check_states := F_check_states.binds1 (ps := ["size", "states", "unlike"]) 3 1 (show [V.ref _] ≠ [] from List.cons_ne_nil _ _) rfl (fun _ _ _ _ _ _ _ us its h1 h2 => match us, h1, its, h2 with | [_, _, _], _, [_], _ => ⟨_, rfl, rfl⟩)
  obtain ⟨s3_check_states, v3_check_states, b3_check_states⟩ := b3_check_states
  have c_check_states : LS.Cf P w K mg base 3 "check_states" ["size", "states", "unlike"] [] (LS.sp3 K (fun (n : Int) (st : LS.Tp Int) (un : LS.Tp (Int × Int)) => Mi.CS n st un) (fun _ _ _ => ())) := ⟨_, d_check_states, s3_check_states, ok_check_states T c_is_state F_check_states, (gl (by decide +kernel) (by decide +kernel) (by decide +kernel)), F_check_states.kp, b3_check_states, v3_check_states⟩
  have b2_check_states := F_check_states.binds1 (ps := ["size", "states", "unlike"]) 2 0 (show [V.ref _] ≠ [] from List.cons_ne_nil _ _) rfl (fun _ _ _ _ _ _ _ us its h1 h2 => match us, h1, its, h2 with | [_, _], _, [_], _ => ⟨_, rfl, rfl⟩)
  obtain ⟨s2_check_states, v2_check_states, b2_check_states⟩ := b2_check_states
  have c_check_states_d : LS.Cf P w K mg base 3 "check_states" ["size", "states", "unlike"] [.ref (He.dflAt ("check_states", none) 0 K)] (LS.sp3 K (fun (n : Int) (st : LS.Tp Int) (un : LS.Tp (Int × Int)) => Mi.CS n st un) (fun _ _ _ => ())) := ⟨_, d_check_states, s2_check_states, ok_check_states T c_is_state F_check_states, (gl (by decide +kernel) (by decide +kernel) (by decide +kernel)), F_check_states.kp, b2_check_states, v2_check_states⟩
  have c_is_list_t : ∀ (α : Type) [LS.Rep α], LS.Cf P w K mg base 1 "is_list" ["thing"] [] (LS.sp1 K (fun _ : LS.Tp α => True) (fun _ => true)) := fun α _ => ⟨_, d_is_list, [], ok_is_list_t (α := α) T F_is_list, (gl (by decide +kernel) (by decide +kernel) (by decide +kernel)), F_is_list.kp, (F_is_list.bindsN fun _ _ _ _ _ _ us hl => match us, hl with | [_], _ => rfl), .nil⟩
  have c_states_of : LS.Cf P w K mg base 3 "states_of" ["size", "thing"] [] (LS.sp2 K (fun (n : Int) (st : LS.Tp Int) => (∀ x ∈ st.l, 0 ≤ x ∧ x < n) ∧ st.l.Nodup ∧ st.l.length < 64) (fun _ st => LS.Tp.mk (LS.srt st.l))) := ⟨_, d_states_of, [], ok_states_of T c_is_list_t c_is_state F_states_of, (gl (by decide +kernel) (by decide +kernel) (by decide +kernel)), F_states_of.kp, (F_states_of.bindsN fun _ _ _ _ _ _ us hl => match us, hl with | [_, _], _ => rfl), .nil⟩
  have c_out_rows : LS.Cf P w K mg base 1 "out_rows" ["rates", "part", "left"] [] (LS.sp3 K (fun (r : LS.Tp (LS.Tp Int)) (part left : List Int) => Mi.Sq r ∧ Mi.Sts r.l.length part ∧ Mi.Sts r.l.length left ∧ part.length ≤ 8 ∧ left.length ≤ 8) Mi.outR) := ⟨_, d_out_rows, [], ok_out_rows T  F_out_rows, (gl (by decide +kernel) (by decide +kernel) (by decide +kernel)), F_out_rows.kp, (F_out_rows.bindsN fun _ _ _ _ _ _ us hl => match us, hl with | [_, _, _], _ => rfl), .nil⟩
  have c_reduced : LS.Cf P w K mg base 1 "reduced" ["row", "top", "divisor"] [] (LS.sp3 K Mi.RedP Mi.reduced) := ⟨_, d_reduced, [], ok_reduced T  F_reduced, (gl (by decide +kernel) (by decide +kernel) (by decide +kernel)), F_reduced.kp, (F_reduced.bindsN fun _ _ _ _ _ _ us hl => match us, hl with | [_, _, _], _ => rfl), .nil⟩
  have c_determinant : LS.Cf P w K mg base 2 "determinant" ["rows"] [] (LS.sp1 K (fun (m : List (List Int)) => Mi.Mat m) Mi.det) := ⟨_, d_determinant, [], ok_determinant T c_reduced F_determinant, (gl (by decide +kernel) (by decide +kernel) (by decide +kernel)), F_determinant.kp, (F_determinant.bindsN fun _ _ _ _ _ _ us hl => match us, hl with | [_], _ => rfl), .nil⟩
  have c_replaced_determinants : LS.Cf P w K mg base 3 "replaced_determinants" ["rows", "column"] [] (LS.sp2 K (fun (rows : List (List Int)) (col : List Int) => Mi.Mat rows ∧ col.length = rows.length ∧ ∀ e ∈ col, -2199023255552 < e ∧ e < 2199023255552) Mi.dets) := ⟨_, d_replaced_determinants, [], ok_replaced_determinants T c_determinant F_replaced_determinants, (gl (by decide +kernel) (by decide +kernel) (by decide +kernel)), F_replaced_determinants.kp, (F_replaced_determinants.bindsN fun _ _ _ _ _ _ us hl => match us, hl with | [_, _], _ => rfl), .nil⟩
  have b3_forest_row := F_forest_row.binds1 (ps := ["table", "c", "others"]) 3 1 (show [V.ref _] ≠ [] from List.cons_ne_nil _ _) rfl (fun _ _ _ _ _ _ _ us its h1 h2 => match us, h1, its, h2 with | [_, _, _], _, [_], _ => ⟨_, rfl, rfl⟩)
  obtain ⟨s3_forest_row, v3_forest_row, b3_forest_row⟩ := b3_forest_row
  have c_forest_row : LS.Cf P w K mg base 4 "forest_row" ["table", "c", "others"] [] (LS.sp3 K (fun (t : LS.Tbl) (c : Int) (o : LS.Tp Int) => (Mi.Ok t.rows ∧ t.rows.length ≤ 5) ∧ 0 ≤ c ∧ c < t.rows.length ∧ (∀ x ∈ o.l, 0 ≤ x ∧ x < t.rows.length) ∧ o.l.Nodup ∧ ¬ c ∈ o.l ∧ 1 ≤ o.l.length ∧ o.l.length ≤ 5) (fun t c o => LS.Tp.mk (Mi.frow t.rows c (LS.srt o.l)))) := ⟨_, d_forest_row, s3_forest_row, ok_forest_row T ktb dfe c_check_states_d c_states_of c_out_rows c_determinant c_replaced_determinants F_forest_row, (gl (by decide +kernel) (by decide +kernel) (by decide +kernel)), F_forest_row.kp, b3_forest_row, v3_forest_row⟩
  have c_coming_row : LS.Cf P w K mg base 5 "coming_row" ["table", "c", "e"] [] (LS.sp3 K (fun (t : LS.Tbl) (c e : Int) => (Mi.Ok t.rows ∧ t.rows.length ≤ 5) ∧ 0 ≤ c ∧ c < t.rows.length ∧ 0 ≤ e ∧ e < t.rows.length ∧ c ≠ e) (fun t c e => LS.Tp.mk (Mi.frow t.rows c (LS.srt [e])))) := ⟨_, d_coming_row, [], ok_coming_row T ktb c_check_states c_forest_row F_coming_row, (gl (by decide +kernel) (by decide +kernel) (by decide +kernel)), F_coming_row.kp, (F_coming_row.bindsN fun _ _ _ _ _ _ us hl => match us, hl with | [_, _, _], _ => rfl), .nil⟩
  have c_push : LS.Cf P w K mg base 6 "push" ["table", "a", "b", "c", "e"] [] (LS.sp5 K (fun (t : LS.Tbl) (a b c e : Int) => ((Mi.Ok t.rows ∧ t.rows.length ≤ 5) ∧ 0 ≤ c ∧ c < t.rows.length ∧ 0 ≤ e ∧ e < t.rows.length ∧ c ≠ e) ∧ 0 ≤ a ∧ a < t.rows.length ∧ 0 ≤ b ∧ b < t.rows.length ∧ a ≠ b) (fun t a b c e => (Mi.frow t.rows c (LS.srt [e])).getD b.toNat default - (Mi.frow t.rows c (LS.srt [e])).getD a.toNat default)) := ⟨_, d_push, [], ok_push T ktb c_check_states c_coming_row F_push, (gl (by decide +kernel) (by decide +kernel) (by decide +kernel)), F_push.kp, (F_push.bindsN fun _ _ _ _ _ _ us hl => match us, hl with | [_, _, _, _, _], _ => rfl), .nil⟩
  have c_law_int : LS.Cf P w K mg base 1 "_law_int" ["_law_value"] [] (LS.sp1 K (fun _ : Int => True) (fun _ => true)) := ⟨_, d_law_int, [], ok_law_int T  F_law_int, (gl (by decide +kernel) (by decide +kernel) (by decide +kernel)), F_law_int.kp, (F_law_int.bindsN fun _ _ _ _ _ _ us hl => match us, hl with | [_], _ => rfl), .nil⟩
  have c_law_lead : LS.Cf P w K mg base 1 "_law_lead" ["_law_heads", "_law_x"] [] (LS.sp2 K (fun (hs : List Int) (x : Int) => Mi.Hd hs ∧ 0 ≤ x ∧ x < hs.length) (fun hs x => Mi.lead hs x)) := ⟨_, d_law_lead, [], ok_law_lead T  F_law_lead, (gl (by decide +kernel) (by decide +kernel) (by decide +kernel)), F_law_lead.kp, (F_law_lead.bindsN fun _ _ _ _ _ _ us hl => match us, hl with | [_, _], _ => rfl), .nil⟩
  have c_law_forests : LS.Cf P w K mg base 2 "_law_forests" ["_law_grid_here", "_law_roots"] [] (LS.sp2 K (fun (g : List (List Int)) (roots : List Int) => Mi.Ok g ∧ g.length ≤ 5 ∧ ∀ r ∈ roots, 0 ≤ r ∧ r < g.length) Mi.forests) := ⟨_, d_law_forests, [], ok_law_forests T c_law_lead F_law_forests, (gl (by decide +kernel) (by decide +kernel) (by decide +kernel)), F_law_forests.kp, (F_law_forests.bindsN fun _ _ _ _ _ _ us hl => match us, hl with | [_, _], _ => rfl), .nil⟩
  have c_law_lead_t : LS.Cf P w K mg base 1 "_law_lead" ["_law_heads", "_law_x"] [] (LS.sp2 K (fun (hs : LS.Tp Int) (x : Int) => Mi.Hd hs.l ∧ 0 ≤ x ∧ x < hs.l.length) (fun hs x => Mi.lead hs.l x)) := ⟨_, d_law_lead, [], ok_law_lead_t T  F_law_lead, (gl (by decide +kernel) (by decide +kernel) (by decide +kernel)), F_law_lead.kp, (F_law_lead.bindsN fun _ _ _ _ _ _ us hl => match us, hl with | [_, _], _ => rfl), .nil⟩
  have c_law_weight : LS.Cf P w K mg base 1 "_law_weight" ["_law_grid_here", "_law_heads"] [] (LS.sp2 K (fun (g : List (List Int)) (hs : LS.Tp Int) => Mi.Ok g ∧ Mi.Hd hs.l ∧ hs.l.length = g.length) (fun g hs => Mi.weight g hs.l)) := ⟨_, d_law_weight, [], ok_law_weight T  F_law_weight, (gl (by decide +kernel) (by decide +kernel) (by decide +kernel)), F_law_weight.kp, (F_law_weight.bindsN fun _ _ _ _ _ _ us hl => match us, hl with | [_, _], _ => rfl), .nil⟩
  have c_law_push : LS.Cf P w K mg base 3 "_law_push" ["_law_grid_here", "_law_a", "_law_b", "_law_c", "_law_e"] [] (LS.sp5 K (fun (g : List (List Int)) (a b c e : Int) => (Mi.Ok g ∧ g.length ≤ 5) ∧ (0 ≤ a ∧ a < g.length) ∧ (0 ≤ b ∧ b < g.length) ∧ (0 ≤ c ∧ c < g.length) ∧ (0 ≤ e ∧ e < g.length)) Mi.pushF) := ⟨_, d_law_push, [], ok_law_push T c_law_forests c_law_lead_t c_law_weight F_law_push, (gl (by decide +kernel) (by decide +kernel) (by decide +kernel)), F_law_push.kp, (F_law_push.bindsN fun _ _ _ _ _ _ us hl => match us, hl with | [_, _, _, _, _], _ => rfl), .nil⟩
  have c_law_one_right : LS.Cf P w K mg base 7 "_law_one_right" ["_law_grid_here", "_law_other", "_law_a", "_law_b", "_law_g", "_law_h", "_law_c", "_law_e"] [] (LS.sp8 K Mi.OneP (fun _ _ _ _ _ _ _ _ => true)) := ⟨_, d_law_one_right, [], ok_law_one_right T ktb Mi.m1 Mi.m5 c_law_copy c_mk_Table c_push c_law_int c_law_push F_law_one_right, (gl (by decide +kernel) (by decide +kernel) (by decide +kernel)), F_law_one_right.kp, (F_law_one_right.bindsN fun _ _ _ _ _ _ us hl => match us, hl with | [_, _, _, _, _, _, _, _], _ => rfl), .nil⟩
  have c_push_rows : LS.Cf P w K mg base 6 "push_rows" ["table", "c", "e"] [] (LS.sp3 K (fun (t : LS.Tbl) (c e : Int) => (Mi.Ok t.rows ∧ t.rows.length ≤ 5) ∧ 0 ≤ c ∧ c < t.rows.length ∧ 0 ≤ e ∧ e < t.rows.length ∧ c ≠ e) (fun t c e => LS.tOf (Mi.pushT t.rows c e))) := ⟨_, d_push_rows, [], ok_push_rows T ktb c_check_states c_coming_row F_push_rows, (gl (by decide +kernel) (by decide +kernel) (by decide +kernel)), F_push_rows.kp, (F_push_rows.bindsN fun _ _ _ _ _ _ us hl => match us, hl with | [_, _, _], _ => rfl), .nil⟩
  have c_law_ints : LS.Cf P w K mg base 2 "_law_ints" ["_law_value", "_law_size"] [] (LS.sp2 K (fun (v : LS.Tp Int) (_ : Int) => v.l.length ≤ 40000) (fun v n => decide ((v.l.length : Int) = n))) := ⟨_, d_law_ints, [], ok_law_ints T c_law_int F_law_ints, (gl (by decide +kernel) (by decide +kernel) (by decide +kernel)), F_law_ints.kp, (F_law_ints.bindsN fun _ _ _ _ _ _ us hl => match us, hl with | [_, _], _ => rfl), .nil⟩
  have c_law_rows_kind : LS.Cf P w K mg base 3 "_law_rows_kind" ["_law_rows", "_law_size"] [] (LS.sp2 K (fun (v : LS.Tp (LS.Tp Int)) (n : Int) => (v.l.length : Int) = n ∧ v.l.length ≤ 8 ∧ ∀ r ∈ v.l, (r.l.length : Int) = n) (fun _ _ => true)) := ⟨_, d_law_rows_kind, [], ok_law_rows_kind T c_law_ints F_law_rows_kind, (gl (by decide +kernel) (by decide +kernel) (by decide +kernel)), F_law_rows_kind.kp, (F_law_rows_kind.bindsN fun _ _ _ _ _ _ us hl => match us, hl with | [_, _], _ => rfl), .nil⟩
  have c_law_sum : LS.Cf P w K mg base 3 "_law_sum" ["_law_grid_here", "_law_roots", "_law_ends"] [] (LS.sp3 K (fun (g : List (List Int)) (roots : List Int) (ends : List (Int × Int)) => (Mi.Ok g ∧ g.length ≤ 5 ∧ ∀ r ∈ roots, 0 ≤ r ∧ r < g.length) ∧ ends.length ≤ 8 ∧ ∀ p ∈ ends, 0 ≤ p.1 ∧ p.1 < g.length) Mi.sumF) := ⟨_, d_law_sum, [], ok_law_sum T c_law_forests c_law_lead_t c_law_weight F_law_sum, (gl (by decide +kernel) (by decide +kernel) (by decide +kernel)), F_law_sum.kp, (F_law_sum.bindsN fun _ _ _ _ _ _ us hl => match us, hl with | [_, _, _], _ => rfl), .nil⟩
  have c_sum_within : LS.Cf P w K mg base 3 "sum_within" ["rates", "part", "roots"] [] (LS.sp3 K (fun (r : LS.Tp (LS.Tp Int)) (part : List Int) (roots : LS.Tp Int) => Mi.Tb r ∧ Mi.Sts r.l.length part ∧ part.length ≤ 8 ∧ (Mi.keep part roots.l).length ≤ 4) (fun r part roots => Mi.sumW r part roots.l)) := ⟨_, d_sum_within, [], ok_sum_within T c_out_rows c_determinant F_sum_within, (gl (by decide +kernel) (by decide +kernel) (by decide +kernel)), F_sum_within.kp, (F_sum_within.bindsN fun _ _ _ _ _ _ us hl => match us, hl with | [_, _, _], _ => rfl), .nil⟩
  have c_sum_over : LS.Cf P w K mg base 4 "sum_over" ["rates", "roots"] [] (LS.sp2 K (fun (r : LS.Tp (LS.Tp Int)) (roots : LS.Tp Int) => Mi.Tb r ∧ (Mi.keep (LS.rng r.l.length) roots.l).length ≤ 4) (fun r roots => Mi.sumW r (LS.rng r.l.length) roots.l)) := ⟨_, d_sum_over, [], ok_sum_over T c_sum_within F_sum_over, (gl (by decide +kernel) (by decide +kernel) (by decide +kernel)), F_sum_over.kp, (F_sum_over.bindsN fun _ _ _ _ _ _ us hl => match us, hl with | [_, _], _ => rfl), .nil⟩
  have c_pair_sum : LS.Cf P w K mg base 5 "pair_sum" ["table", "c", "e"] [] (LS.sp3 K (fun (t : LS.Tbl) (c e : Int) => (Mi.Ok t.rows ∧ t.rows.length ≤ 5) ∧ 0 ≤ c ∧ c < t.rows.length ∧ 0 ≤ e ∧ e < t.rows.length ∧ c ≠ e) (fun t c e => Mi.sumW (LS.tOf t.rows) (LS.rng t.rows.length) [c, e])) := ⟨_, d_pair_sum, [], ok_pair_sum T ktb c_check_states c_sum_over F_pair_sum, (gl (by decide +kernel) (by decide +kernel) (by decide +kernel)), F_pair_sum.kp, (F_pair_sum.bindsN fun _ _ _ _ _ _ us hl => match us, hl with | [_, _, _], _ => rfl), .nil⟩
  have c_law_behind_right : LS.Cf P w K mg base 7 "_law_behind_right" ["_law_grid_here", "_law_other", "_law_g", "_law_h", "_law_c", "_law_e"] [] (LS.sp6 K Mi.BehP (fun _ _ _ _ _ _ => true)) := ⟨_, d_law_behind_right, [], ok_law_behind_right T ktb Mi.m1 Mi.m2 Mi.m3 Mi.m4 Mi.m5 c_law_copy c_mk_Table c_push_rows c_law_rows_kind c_law_sum c_pair_sum c_law_push c_forest_row F_law_behind_right, (gl (by decide +kernel) (by decide +kernel) (by decide +kernel)), F_law_behind_right.kp, (F_law_behind_right.bindsN fun _ _ _ _ _ _ us hl => match us, hl with | [_, _, _, _, _, _], _ => rfl), .nil⟩
  have ok_l : FnOk P w K mg base CX0 8 _ d_law ["_law_script"] (LS.spLaw K) := ok_law T c_law_draws c_law_grid c_law_take c_law_loose c_law_pair c_law_changed c_law_one_right c_law_behind_right F_law
  exact ok_l
end Hd
open PySem PySem.W
      PySem.Calls PyProof.Rows
theorem PySem.Challenge.cw_lastingshares_k25_push_behind_a_change_holds : PySem.Challenge.rw_lastingshares_k25_push_behind_a_change.Holds := by
  w_on; o_law
  refine HandSHeadRun.head_any (r := OpenLaw.row PySem.Challenge.rw_lastingshares_k25_push_behind_a_change) (q := view (OpenLaw.row PySem.Challenge.rw_lastingshares_k25_push_behind_a_change).prog [67]) (H := Hd.hk) (ob := Hd.ob) (M := 20000) (loose := Hd.names) (d := HandSHeadRun.topDef (OpenLaw.row PySem.Challenge.rw_lastingshares_k25_push_behind_a_change).prog 67) (kwd := []) Hd.ob_eq
    (by kernel_rfl) (fun s => by kernel_rfl) Hd.run (by kernel_rfl) (by kernel_rfl) (by kernel_rfl) (by rfl) (by first | assumption | decide +kernel) (by decide +kernel) ⟨rfl, rfl, rfl, rfl, rfl, by decide +kernel⟩ ?hw ?hc
  case hw => w_witness2
  case hc =>
    refine L2.walk_ofE (l := PySem.Challenge.rw_lastingshares_k25_push_behind_a_change) (n := 63) (k := 8) (x := "_law_script") (CX := L2.CX0) rfl (by decide) (by kernel_rfl) ⟨rfl, by decide, by decide⟩ ?F (fun _ _ _ _ z => z)
    intro w mg fa h Y G hmg0
    obtain ⟨K, KX, c⟩ := Y
    have hmg : mg ("law" :
          PySem.Str) = some (.ref fa) := by
      have e : (HandSHeadRun.topDef (OpenLaw.row PySem.Challenge.rw_lastingshares_k25_push_behind_a_change).prog 67).name = ("law" : PySem.Str) := by kernel_rfl
      rw [← e]
      exact hmg0
    obtain ⟨fd, hb, hF⟩ := Hd.facts (P := (PySem.Challenge.rw_lastingshares_k25_push_behind_a_change).prog) (w := w) KX G hmg c
    exact ⟨K, fd, LS.spLaw K, KX, hb, fun H a ns hl _ hS => ⟨a, ns, rfl, hS, fun _ => rfl⟩, hF⟩
