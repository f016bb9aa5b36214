import PyProof.Rows.All
import Wide.All
import OpenK.AllK
import Wide.FinOn
import HandS.ExcField
import HandS.Words
import HandS.HeadHook1
import Lean
import HandS.Head0
import HandS.Head1
import HandS.Head2
import HandS.HeadEnd
import HandS.HeadHook2
import HandS.HeadHook4
import HandS.Head3
import HandS.ForMost
import HandS.Wide
import HandS.Exc
import HandS.ExcOwn
import HandS.WordsExc
import HandS.Lambda
import HandS.TupMul
import HandS.TupAny
import HandS.Deep
import HandS.Style
import HandS.Gcd
import HandS.Small
import HandS.IsInst
import HandS.Defaults
import HandS.Iter
import HandS.Zip
import HandS.Comp
import KE.GoesEnum
import HandS.Conv
import HandS.DictComp
import HandS.ExcInit
import PyProof.ReprRoads
import HandS.SortInts
import HandS.SetKeys
import PyProof.DictMoreH
import HandS.Ends
import KE.KRevSl
import KE.KDflt
import KE.GoesZip
import PySem.Challenge.RW_forehouse_k15_whole_ladders
set_option Elab.async false
set_option linter.all false
set_option maxRecDepth 100000
set_option maxHeartbeats 0
namespace Mi
open PySem PySem.Spec PyProof.Rows L2
def clB : Stmt → List Stmt
  | .ClassDef (body := b) .. => b
  | _ => []
def clsB (K : PySem.W.Frag) (C : Addr) : Bool := match K.lookup C with
  | some ⟨.type c, _, .cls cd, sl⟩ => match cd.mro, sl.toList with
    | .ref C' :: bm, [_, _, _, _, some (.builtin n), _] => decide (c = "type") && (decide (C' = C) && (decide (n = "ValueError.__new__") && (HandSPX.refsVE bm && (cd.hasDict && !cd.hasDel))))
    | _, _ => false
  | _ => false
/-- an error with one field -/
def excB (K : PySem.W.Frag) (x fld : Str) : Bool := clsB K (He.ga K x) && (decide (PySem.W.findIn K (.ref (He.ga K x)) "__setattr__" = some (some (.builtin "object.__setattr__"))) && (decide (PySem.W.subIn K (.ref (He.ga K x)) (.type "BaseException") = some true) &&
  (decide (PySem.W.typeIn K (.ref (He.ga K x)) = some (.type "type")) && (PySem.W.keepIn K (.ref (He.ga K x)) && (decide (PySem.W.findIn K (.ref (He.ga K x)) "__init__" = some (some (.ref (He.ma K (He.ga K x) "__init__")))) &&
  (decide (PySem.W.typeIn K (.ref (He.ma K (He.ga K x) "__init__")) = some (.type "function")) && (decide (PySem.W.findIn K (.ref (He.ga K x)) fld = some none) && xfB K (He.ga K x))))))))
end Mi
namespace Lw
open PySem PySem.Spec PyProof.Rows L2 Mi
def top (i : Nat) : Stmt := PySem.Challenge.pw_forehouse_k15_whole_ladders.main.body.getD i (.Pass ⟨0, 0, 0, 0⟩)
abbrev s_added : Stmt := top 7
abbrev s_is_under : Stmt := top 8
abbrev s_added_up : Stmt := top 9
abbrev s_merged : Stmt := top 10
abbrev s_in_order : Stmt := top 11
abbrev s_unlike_in_order : Stmt := top 12
abbrev s_is_integer : Stmt := top 14
abbrev s_is_row : Stmt := top 15
abbrev s_is_row_within : Stmt := top 16
abbrev s_is_called : Stmt := top 17
abbrev s_is_fraction : Stmt := top 18
abbrev s_is_weight : Stmt := top 19
abbrev s_is_price : Stmt := top 20
abbrev s_copied : Stmt := top 21
abbrev s_is_piece : Stmt := top 24
abbrev s_sure_score : Stmt := top 25
abbrev s_marked : Stmt := top 26
abbrev s_price_over : Stmt := top 27
abbrev s_stretched : Stmt := top 28
abbrev s_plain_score : Stmt := top 29
abbrev s_is_rung : Stmt := top 32
abbrev s_wrong_rung : Stmt := top 33
abbrev s_sure_ladder : Stmt := top 34
abbrev s_need_ladder : Stmt := top 35
abbrev s_as_score : Stmt := top 36
abbrev s_ladder_of : Stmt := top 37
abbrev s__law_mixed : Stmt := top 39
abbrev s__law_begin : Stmt := top 40
abbrev s__law_draw : Stmt := top 41
abbrev s__law_ratio : Stmt := top 42
abbrev s__law_plus : Stmt := top 43
abbrev s__law_under : Stmt := top 44
abbrev s__law_sum : Stmt := top 45
abbrev s__law_sorted : Stmt := top 46
abbrev s__law_small : Stmt := top 47
abbrev s__law_score : Stmt := top 48
abbrev s__law_plain : Stmt := top 49
abbrev s__law_ladder : Stmt := top 50
abbrev s__law_heard : Stmt := top 51
abbrev s__law_good : Stmt := top 52
abbrev s_law : Stmt := top 53
abbrev si_BadScore : Stmt := (clB (top 3)).getD 0 (.Pass ⟨0, 0, 0, 0⟩)
abbrev si_BadLadder : Stmt := (clB (top 4)).getD 0 (.Pass ⟨0, 0, 0, 0⟩)
def fn0 : List He.DefD := [⟨("added", none), "added", "added", defArgs s_added, defBody s_added, defScope s_added, [], []⟩,
  ⟨("is_under", none), "is_under", "is_under", defArgs s_is_under, defBody s_is_under, defScope s_is_under, [], []⟩,
  ⟨("added_up", none), "added_up", "added_up", defArgs s_added_up, defBody s_added_up, defScope s_added_up, [], []⟩,
  ⟨("merged", none), "merged", "merged", defArgs s_merged, defBody s_merged, defScope s_merged, [], []⟩,
  ⟨("in_order", none), "in_order", "in_order", defArgs s_in_order, defBody s_in_order, defScope s_in_order, [], []⟩,
  ⟨("unlike_in_order", none), "unlike_in_order", "unlike_in_order", defArgs s_unlike_in_order, defBody s_unlike_in_order, defScope s_unlike_in_order, [], []⟩,
  ⟨("is_integer", none), "is_integer", "is_integer", defArgs s_is_integer, defBody s_is_integer, defScope s_is_integer, [], []⟩,
  ⟨("is_row", none), "is_row", "is_row", defArgs s_is_row, defBody s_is_row, defScope s_is_row, [], []⟩,
  ⟨("is_row_within", none), "is_row_within", "is_row_within", defArgs s_is_row_within, defBody s_is_row_within, defScope s_is_row_within, [], []⟩,
  ⟨("is_called", none), "is_called", "is_called", defArgs s_is_called, defBody s_is_called, defScope s_is_called, [], []⟩,
  ⟨("is_fraction", none), "is_fraction", "is_fraction", defArgs s_is_fraction, defBody s_is_fraction, defScope s_is_fraction, [], []⟩,
  ⟨("is_weight", none), "is_weight", "is_weight", defArgs s_is_weight, defBody s_is_weight, defScope s_is_weight, [], []⟩,
  ⟨("is_price", none), "is_price", "is_price", defArgs s_is_price, defBody s_is_price, defScope s_is_price, [], []⟩,
  ⟨("copied", none), "copied", "copied", defArgs s_copied, defBody s_copied, defScope s_copied, [], []⟩,
  ⟨("is_piece", none), "is_piece", "is_piece", defArgs s_is_piece, defBody s_is_piece, defScope s_is_piece, [], []⟩]
def fn1 : List He.DefD := [⟨("sure_score", none), "sure_score", "sure_score", defArgs s_sure_score, defBody s_sure_score, defScope s_sure_score, [], []⟩,
  ⟨("marked", none), "marked", "marked", defArgs s_marked, defBody s_marked, defScope s_marked, [], []⟩,
  ⟨("price_over", none), "price_over", "price_over", defArgs s_price_over, defBody s_price_over, defScope s_price_over, [], []⟩,
  ⟨("stretched", none), "stretched", "stretched", defArgs s_stretched, defBody s_stretched, defScope s_stretched, [], []⟩,
  ⟨("plain_score", none), "plain_score", "plain_score", defArgs s_plain_score, defBody s_plain_score, defScope s_plain_score, [], []⟩,
  ⟨("is_rung", none), "is_rung", "is_rung", defArgs s_is_rung, defBody s_is_rung, defScope s_is_rung, [], []⟩,
  ⟨("wrong_rung", none), "wrong_rung", "wrong_rung", defArgs s_wrong_rung, defBody s_wrong_rung, defScope s_wrong_rung, [], []⟩,
  ⟨("sure_ladder", none), "sure_ladder", "sure_ladder", defArgs s_sure_ladder, defBody s_sure_ladder, defScope s_sure_ladder, [], []⟩,
  ⟨("need_ladder", none), "need_ladder", "need_ladder", defArgs s_need_ladder, defBody s_need_ladder, defScope s_need_ladder, [], []⟩,
  ⟨("as_score", none), "as_score", "as_score", defArgs s_as_score, defBody s_as_score, defScope s_as_score, [], []⟩,
  ⟨("ladder_of", none), "ladder_of", "ladder_of", defArgs s_ladder_of, defBody s_ladder_of, defScope s_ladder_of, [], []⟩,
  ⟨("_law_mixed", none), "_law_mixed", "_law_mixed", defArgs s__law_mixed, defBody s__law_mixed, defScope s__law_mixed, [], []⟩,
  ⟨("_law_begin", none), "_law_begin", "_law_begin", defArgs s__law_begin, defBody s__law_begin, defScope s__law_begin, [], []⟩,
  ⟨("_law_draw", none), "_law_draw", "_law_draw", defArgs s__law_draw, defBody s__law_draw, defScope s__law_draw, [], []⟩,
  ⟨("_law_ratio", none), "_law_ratio", "_law_ratio", defArgs s__law_ratio, defBody s__law_ratio, defScope s__law_ratio, [], []⟩]
def fn2 : List He.DefD := [⟨("_law_plus", none), "_law_plus", "_law_plus", defArgs s__law_plus, defBody s__law_plus, defScope s__law_plus, [], []⟩,
  ⟨("_law_under", none), "_law_under", "_law_under", defArgs s__law_under, defBody s__law_under, defScope s__law_under, [], []⟩,
  ⟨("_law_sum", none), "_law_sum", "_law_sum", defArgs s__law_sum, defBody s__law_sum, defScope s__law_sum, [], []⟩,
  ⟨("_law_sorted", none), "_law_sorted", "_law_sorted", defArgs s__law_sorted, defBody s__law_sorted, defScope s__law_sorted, [], []⟩,
  ⟨("_law_small", none), "_law_small", "_law_small", defArgs s__law_small, defBody s__law_small, defScope s__law_small, [], []⟩,
  ⟨("_law_score", none), "_law_score", "_law_score", defArgs s__law_score, defBody s__law_score, defScope s__law_score, [], []⟩,
  ⟨("_law_plain", none), "_law_plain", "_law_plain", defArgs s__law_plain, defBody s__law_plain, defScope s__law_plain, [], []⟩,
  ⟨("_law_ladder", none), "_law_ladder", "_law_ladder", defArgs s__law_ladder, defBody s__law_ladder, defScope s__law_ladder, [], []⟩,
  ⟨("_law_heard", none), "_law_heard", "_law_heard", defArgs s__law_heard, defBody s__law_heard, defScope s__law_heard, [], []⟩,
  ⟨("_law_good", none), "_law_good", "_law_good", defArgs s__law_good, defBody s__law_good, defScope s__law_good, [], []⟩,
  ⟨("law", none), "law", "law", defArgs s_law, defBody s_law, defScope s_law, [], []⟩,
  ⟨("BadScore", some "__init__"), "__init__", "BadScore.__init__", defArgs si_BadScore, defBody si_BadScore, defScope si_BadScore, [], []⟩,
  ⟨("BadLadder", some "__init__"), "__init__", "BadLadder.__init__", defArgs si_BadLadder, defBody si_BadLadder, defScope si_BadLadder, [], []⟩]
def fn : List He.DefD := fn0 ++ fn1 ++ fn2
def fa0 : List He.Fa := [.glo "added", .glo "is_under", .glo "added_up", .glo "merged", .glo "in_order", .glo "unlike_in_order", .glo "is_integer", .glo "is_row", .glo "is_row_within", .glo "is_called", .glo "is_fraction", .glo "is_weight", .glo "is_price", .glo "copied", .glo "is_piece", .glo "sure_score", .glo "marked", .glo "price_over", .glo "stretched", .glo "plain_score"]
def fa1 : List He.Fa := [.glo "is_rung", .glo "wrong_rung", .glo "sure_ladder", .glo "need_ladder", .glo "as_score", .glo "ladder_of", .glo "_law_mixed", .glo "_law_begin", .glo "_law_draw", .glo "_law_ratio", .glo "_law_plus", .glo "_law_under", .glo "_law_sum", .glo "_law_sorted", .glo "_law_small", .glo "_law_score", .glo "_law_plain", .glo "_law_ladder", .glo "_law_heard", .glo "_law_good"]
def fa2 : List He.Fa := [.glo "law", .glo "BadScore", .glo "BadLadder", .glo "NOUGHT", .free "abs", .free "any", .free "bool", .free "enumerate", .free "int", .free "isinstance", .free "len", .free "list", .free "min", .free "range", .free "repr", .free "str", .free "tuple", .free "zip", .int "MOST_PIECES" (10), .int "MOST_RUNGS" (10)]
def fa3 : List He.Fa := [.exm "BadLadder" "BadLadder" true, .exm "BadLadder" "BadScore" false, .exm "BadScore" "BadLadder" false, .exm "BadScore" "BadScore" true]
def fa : List He.Fa := fa0 ++ fa1 ++ fa2 ++ fa3
def exB (K : PySem.W.Frag) : Bool := excB K "BadScore" "number" && (excB K "BadLadder" "number" && (He.tupB K "NOUGHT" [.int (0), .int (1)] && (decide (PySem.W.nsIn K mainGlobals "gcd" = some (some (.builtin "math.gcd"))))))
abbrev R : PySem.W.OpenRow := PySem.W.OpenLaw.row PySem.Challenge.rw_forehouse_k15_whole_ladders
def tf : List He.Defn := [("law", none)]
abbrev hk : PySem.W.Hook := He.hookX 4 fa fn [] tf exB
def ob (s : PySem.W.SharedT) : He.AlX := He.obsX 4 fa fn [] tf exB (HandSHeadRun.getT s)
theorem ob_eq (s : PySem.W.SharedT) : ob s = hk.obs s.abs := He.obsX_eq (HandSHeadRun.getT_eq s)
def lo0 : List Str := ["gcd", "ForeError", "BadScore", "BadLadder", "NOUGHT", "added", "is_under", "added_up", "merged", "in_order", "unlike_in_order", "is_integer", "is_row", "is_row_within", "is_called", "is_fraction", "is_weight", "is_price", "copied", "MOST_PIECES", "is_piece", "sure_score", "marked", "price_over", "stretched", "plain_score", "MOST_RUNGS", "is_rung", "wrong_rung", "sure_ladder"]
def lo1 : List Str := ["need_ladder", "as_score", "ladder_of", "_law_mixed", "_law_begin", "_law_draw", "_law_ratio", "_law_plus", "_law_under", "_law_sum", "_law_sorted", "_law_small", "_law_score", "_law_plain", "_law_ladder", "_law_heard", "_law_good"]
def lo : List Str := lo0 ++ lo1
theorem run (w : World) : HandSHeadRun.RunEqI R (PySem.W.view R.prog [53]) hk ob 20000 lo w := by
  unfold HandSHeadRun.RunEqI
  kernel_rfl
end Lw
namespace Mi
open PySem PySem.Spec PyProof.Rows L2

/-- a value without the heap: tuples are plain data, lists and dicts are places in a store -/
inductive PV where
  | non | bl (b : Bool) | int (i : Int) | str (x : Str) | tup (xs : List PV) | loc (n : Nat) | kl (xs : List PV)

/-- what stands at a place of the store -/
inductive Cell where
  | lst (xs : List PV)
  | dk (kvs : List (Key × PV))
  | dt (kvs : List (List Key × PV))
  | tb (q : Str) (P : Addr)
abbrev Store := List Cell
abbrev Ev := List (Option PV)
inductive Res (α : Type) where
  | ok (a : α) (st : Store)
  | exc (c f : Str) (v : PV) (env : Ev) (st : Store)
  | bad
abbrev M (α : Type) := Store → Res α
def ret {α : Type} (a : α) : M α := fun st => .ok a st
def bnd {α β : Type} (m : M α) (k : α → M β) : M β := fun st => match m st with
  | .ok a st1 => k a st1
  | .exc c f v e st1 => .exc c f v e st1
  | .bad => .bad
def bad {α : Type} : M α := fun _ => .bad

/-- a list that nothing writes: the script -/
def SqR (K : PySem.W.Frag) (H : Hp) (a : Addr) (xs : List V) : Prop := (∃ o, H a = some (.frz o (.lst xs))) ∨
  ∃ (o : Obj) (its : Array Value) (n : Nat), K.lookup a = some o ∧ o.cls = .type "list" ∧ o.dict = none ∧ o.data = .seq its n ∧ its.size ≤ sizeLine ∧ Vals xs its.toList
theorem SqR.sq {K : PySem.W.Frag} {H : Hp} {a : Addr} {xs : List V} (h : SqR K H a xs) : SqL K H a xs := by
  rcases h with ⟨o, h⟩ | h
  · exact .inl (.inr ⟨o, h⟩)
  · exact .inr h
/-- what is fixed: a tuple, the script -/
def SqB (K : PySem.W.Frag) (H : Hp) : Bool → Addr → List V → Prop
  | false => SqT K H
  | true => SqR K H
mutual
def Rep (K : PySem.W.Frag) (r : List Addr) (H : Hp) : PV → V → Prop
  | .non, v => v = .non
  | .bl b, v => v = .bl b
  | .int i, v => v = .int i
  | .str x, v => v = .str x
  | .tup xs, v => ∃ a vs, v = .ref a ∧ SqT K H a vs ∧ RepL K r H xs vs
  | .loc n, v => ∃ a, v = .ref a ∧ r[n]? = some a
  | .kl xs, v => ∃ a vs, v = .ref a ∧ SqR K H a vs ∧ RepL K r H xs vs
def RepL (K : PySem.W.Frag) (r : List Addr) (H : Hp) : List PV → List V → Prop
  | [], vs => vs = []
  | x :: xs, vs => ∃ v ws, vs = v :: ws ∧ Rep K r H x v ∧ RepL K r H xs ws
end

/-- the pairs of a dict -/
def RepD {κ : Type} (K : PySem.W.Frag) (r : List Addr) (H : Hp) : List (κ × PV) → List (κ × V) → Prop
  | [], ws => ws = []
  | (k, x) :: xs, ws => ∃ v ws', ws = (k, v) :: ws' ∧ Rep K r H x v ∧ RepD K r H xs ws'
def keyK : PV → Option Key
  | .int i => some (Sum.inl i)
  | .str s => some (Sum.inr s)
  | _ => none
def keysT : List PV → Option (List Key)
  | [] => some []
  | x :: xs => match keyK x, keysT xs with
    | some k, some ks => some (k :: ks)
    | _, _ => none
/-- a key of a dict with tuple keys -/
def keyT : PV → Option (List Key)
  | .tup xs => keysT xs
  | _ => none

def hashT (w : World) (ks : List Key) : Int := reduceHash (Builtin.Tuple.tupleHashOf (ks.map (keyH w)))
/-- the dict with tuple keys, as it lies -/
def rawD (w : World) (a : Addr) (xs : List (List Key × Addr × Value)) : Heap → Prop := fun h => (a == sysModules) = false ∧ ∃ o es ep, h.get? a = some o ∧ o.ExactDict ∧ o.data = .dict es ep ∧
  es.toList = xs.map (fun x => (⟨hashT w x.1, .ref x.2.1, x.2.2⟩ : DictEntry)) ∧ (xs.map (·.1)).Nodup
/-- its keys, its values -/
def PairT (K : PySem.W.Frag) (r : List Addr) (H : Hp) : List (List Key × PV) → List (List Key × Addr × Value) → Prop
  | [], xs => xs = []
  | (k, x) :: ps, xs => ∃ b u v ys, xs = (k, b, u) :: ys ∧ SqT K H b (k.map kV) ∧ RelV v u ∧ Rep K r H x v ∧ PairT K r H ps ys
def CellR (K : PySem.W.Frag) (w : World) (r : List Addr) (H : Hp) (a : Addr) : Cell → Prop
  | .lst xs => ∃ vs, H a = some (.lst vs) ∧ RepL K r H xs vs
  | .dk kvs => ∃ ws, H a = some (.dK ws) ∧ RepD K r H kvs ws
  | .dt kvs => ∃ xs, H a = some (.ext (rawD w a xs)) ∧ PairT K r H kvs xs ∧ kvs.length ≤ sizeLine
  | .tb q P => a = P ∧ ∃ ps, H a = some (.tbl ps) ∧ TriplesOk ps.toList ∧ ∀ (pos : Pos) (cv : Value), codeAmong pos ps.toList = some cv → ∃ c, cv = .ref c ∧ H c = some (LamX.CodeO c q)

structure Sim (K : PySem.W.Frag) (w : World) (r : List Addr) (st : Store) (H : Hp) : Prop where
  len : r.length = st.length
  nd : r.Nodup
  at_ : ∀ (i : Nat) (c : Cell) (a : Addr), st[i]? = some c → r[i]? = some a → CellR K w r H a c

/-- what is no tuple -/
def plainO : HO → Prop
  | .lst _ => True
  | .dK _ => True
  | .dT _ => True
  | .ext φ => ∃ w a xs, φ = rawD w a xs
  | .tbl _ => True
  | _ => False
theorem Sim.tracked {K : PySem.W.Frag} {ww : World} {r : List Addr} {st : Store} {H : Hp} (S : Sim K ww r st H) : ∀ a ∈ r, ∃ o, H a = some o ∧ plainO o := fun a h => by
  obtain ⟨i, hi, e⟩ := List.getElem_of_mem h
  have h1 : r[i]? = some a := by rw [List.getElem?_eq_getElem hi, e]
  have hs : i < st.length := by rw [← S.len]; exact hi
  have h2 := S.at_ i st[i] a (List.getElem?_eq_getElem hs) h1
  cases hc : st[i] with
  | lst xs => rw [hc] at h2; obtain ⟨vs, e, _⟩ := h2; exact ⟨_, e, trivial⟩
  | dk kvs => rw [hc] at h2; obtain ⟨ws, e, _⟩ := h2; exact ⟨_, e, trivial⟩
  | dt kvs => rw [hc] at h2; obtain ⟨ws, e, _⟩ := h2; exact ⟨_, e, _, _, _, rfl⟩
  | tb q P => rw [hc] at h2; obtain ⟨_, ps, e, _⟩ := h2; exact ⟨_, e, trivial⟩

/-- a heap of one sort of object -/
theorem get_rep (n : Nat) (o : Obj) (hd : o.data ≠ .freed) (a : Addr) : (Heap.mk (Array.replicate n o) {}).get? a = if a < n then some o else none := by
  unfold Heap.get?
  dsimp only
  rw [Array.getElem?_replicate]
  by_cases h : a < n
  · rw [if_pos h]
    obtain ⟨c, d, dt, sl⟩ := o
    cases dt <;> first | rfl | exact absurd rfl hd
  · rw [if_neg h]
/-- a code object is none of these -/
theorem plain_code {o : HO} {c : Addr} {q : Str} (h : plainO o) : o ≠ LamX.CodeO c q := fun z => by
  subst z
  obtain ⟨w, a, xs, e⟩ := h
  have g := get_rep (c + 1) ({ cls := .none, data := .fields #[.none, .str q 0] } : Obj) (by intro z; cases z)
  have e2 := congrFun e (Heap.mk (Array.replicate (c + 1) ({ cls := .none, data := .fields #[.none, .str q 0] } : Obj)) {})
  have f := (Eq.mp e2 ⟨_, _, 0, (g c).trans (if_pos (Nat.lt_succ_self c)), rfl, rfl⟩ : rawD w a xs _)
  obtain ⟨_, o, es, ep, h1, _, h3, _⟩ := f
  rw [g a] at h1
  split at h1
  · cases h1; cases h3
  · cases h1
theorem Sim.notCode {K : PySem.W.Frag} {ww : World} {r : List Addr} {st : Store} {H : Hp} (S : Sim K ww r st H) {c : Addr} {q : Str} (h : H c = some (LamX.CodeO c q)) : c ∉ r := fun z => by
  obtain ⟨o, e, p⟩ := S.tracked c z
  rw [h] at e
  cases e
  exact plain_code p rfl
structure Ext (r : List Addr) (H : Hp) (r' : List Addr) (H' : Hp) : Prop where
  pre : ∃ q, r' = r ++ q ∧ ∀ a ∈ q, H a = none
  keep : ∀ a o, H a = some o → a ∉ r → H' a = some o

section
variable {K : PySem.W.Frag} {ww : World} {r r1 r2 : List Addr} {H H1 H2 : Hp} {st st1 st2 : Store}
theorem Ext.refl (r : List Addr) (H : Hp) : Ext r H r H := ⟨⟨[], by simp, by simp⟩, fun _ _ h _ => h⟩
theorem Ext.get (e : Ext r H r1 H1) {i : Nat} {a : Addr} (h : r[i]? = some a) : r1[i]? = some a := by
  obtain ⟨⟨q, rfl, _⟩, _⟩ := e
  rw [List.getElem?_append_left (List.getElem?_eq_some_iff.mp h).1]
  exact h
theorem Ext.trans (e : Ext r H r1 H1) (f : Ext r1 H1 r2 H2) (S : Sim K ww r1 st1 H1) : Ext r H r2 H2 := by
  have t := S.tracked
  obtain ⟨⟨q, rfl, hq⟩, k⟩ := e
  obtain ⟨⟨q2, rfl, hq2⟩, k2⟩ := f
  refine ⟨⟨q ++ q2, by simp, fun a ha => ?_⟩, fun a o h n => ?_⟩
  · rcases List.mem_append.mp ha with h | h
    · exact hq a h
    · cases e : H a with
      | none => rfl
      | some o =>
        have n1 := hq2 a h
        by_cases hr : a ∈ r
        · obtain ⟨o1, e1, _⟩ := t a (List.mem_append_left _ hr)
          rw [n1] at e1; cases e1
        · rw [k a o e hr] at n1; cases n1
  · have h1 := k a o h n
    refine k2 a o h1 fun z => ?_
    rcases List.mem_append.mp z with z | z
    · exact n z
    · rw [hq a z] at h; cases h
theorem Ext.sqT (e : Ext r H r1 H1) (S : Sim K ww r st H) {a : Addr} {vs : List V} (h : SqT K H a vs) : SqT K H1 a vs := by
  rcases h with (h | ⟨o, h⟩) | h
  · refine .inl (.inl (e.keep a _ h fun z => ?_))
    obtain ⟨o, e1, p⟩ := S.tracked a z
    rw [h] at e1; cases e1; exact p
  · refine .inl (.inr ⟨o, e.keep a _ h fun z => ?_⟩)
    obtain ⟨o, e1, p⟩ := S.tracked a z
    rw [h] at e1; cases e1; exact p
  · exact .inr h
theorem Ext.sqR (e : Ext r H r1 H1) (S : Sim K ww r st H) {a : Addr} {vs : List V} (h : SqR K H a vs) : SqR K H1 a vs := by
  rcases h with ⟨o, h⟩ | h
  · refine .inl ⟨o, e.keep a _ h fun z => ?_⟩
    obtain ⟨o, e1, p⟩ := S.tracked a z
    rw [h] at e1; cases e1; exact p
  · exact .inr h
theorem Ext.sqB (e : Ext r H r1 H1) (S : Sim K ww r st H) : ∀ (b : Bool) (a : Addr) (vs : List V), SqB K H b a vs → SqB K H1 b a vs
  | false, _, _, h => e.sqT S h
  | true, _, _, h => e.sqR S h
mutual
theorem Ext.rep (e : Ext r H r1 H1) (S : Sim K ww r st H) : ∀ {x : PV} {v : V}, Rep K r H x v → Rep K r1 H1 x v
  | .non, v, h => by simpa only [Rep] using h
  | .bl b, v, h => by simpa only [Rep] using h
  | .int i, v, h => by simpa only [Rep] using h
  | .str x, v, h => by simpa only [Rep] using h
  | .tup xs, v, h => by
    simp only [Rep] at h ⊢
    obtain ⟨a, vs, e1, e2, e3⟩ := h
    exact ⟨a, vs, e1, e.sqT S e2, Ext.repL e S e3⟩
  | .loc n, v, h => by
    simp only [Rep] at h ⊢
    obtain ⟨a, e1, e2⟩ := h
    exact ⟨a, e1, e.get e2⟩
  | .kl xs, v, h => by
    simp only [Rep] at h ⊢
    obtain ⟨a, vs, e1, e2, e3⟩ := h
    exact ⟨a, vs, e1, e.sqR S e2, Ext.repL e S e3⟩
theorem Ext.repL (e : Ext r H r1 H1) (S : Sim K ww r st H) : ∀ {xs : List PV} {vs : List V}, RepL K r H xs vs → RepL K r1 H1 xs vs
  | [], vs, h => by simpa only [RepL] using h
  | x :: xs, vs, h => by
    simp only [RepL] at h ⊢
    obtain ⟨v, ws, e1, e2, e3⟩ := h
    exact ⟨v, ws, e1, Ext.rep e S e2, Ext.repL e S e3⟩
end
theorem RepL.length : ∀ {xs : List PV} {vs : List V}, RepL K r H xs vs → xs.length = vs.length
  | [], vs, h => by simp only [RepL] at h; subst h; rfl
  | x :: xs, vs, h => by
    simp only [RepL] at h
    obtain ⟨v, ws, rfl, _, h⟩ := h
    simp [RepL.length h]
theorem RepL.get : ∀ {xs : List PV} {vs : List V} {i : Nat} {x : PV}, RepL K r H xs vs → xs[i]? = some x → ∃ v, vs[i]? = some v ∧ Rep K r H x v
  | [], vs, i, x, h, e => by simp at e
  | y :: xs, vs, 0, x, h, e => by
    simp only [RepL] at h
    obtain ⟨v, ws, rfl, h1, h⟩ := h
    simp at e; subst e
    exact ⟨v, by simp, h1⟩
  | y :: xs, vs, i + 1, x, h, e => by
    simp only [RepL] at h
    obtain ⟨v, ws, rfl, h1, h⟩ := h
    obtain ⟨w, e1, e2⟩ := RepL.get (i := i) (x := x) h (by simpa using e)
    exact ⟨w, by simpa using e1, e2⟩
theorem RepL.append : ∀ {xs ys : List PV} {vs ws : List V}, RepL K r H xs vs → RepL K r H ys ws → RepL K r H (xs ++ ys) (vs ++ ws)
  | [], ys, vs, ws, h, g => by simp only [RepL] at h; subst h; simpa using g
  | x :: xs, ys, vs, ws, h, g => by
    simp only [RepL] at h
    obtain ⟨v, us, rfl, h1, h⟩ := h
    simp only [List.cons_append, RepL]
    exact ⟨v, _, rfl, h1, RepL.append h g⟩
theorem RepL.one {x : PV} {v : V} (h : Rep K r H x v) : RepL K r H [x] [v] := by simp only [RepL]; exact ⟨v, [], rfl, h, rfl⟩

def EnvR (K : PySem.W.Frag) (r : List Addr) (H : Hp) (env : Ev) (s : L2.St) : Prop :=
  env.length = s.length ∧ ∀ (i : Nat) (x : PV), env[i]? = some (some x) → ∃ v, s[i]? = some (some v) ∧ Rep K r H x v
theorem EnvR.ext {env : Ev} {s : L2.St} (h : EnvR K r H env s) (e : Ext r H r1 H1) (S : Sim K ww r st H) : EnvR K r1 H1 env s :=
  ⟨h.1, fun i x q => let ⟨v, e1, e2⟩ := h.2 i x q; ⟨v, e1, e.rep S e2⟩⟩
theorem EnvR.set {env : Ev} {s : L2.St} (h : EnvR K r H env s) {i : Nat} {x : PV} {v : V} (q : Rep K r H x v) : EnvR K r H (env.set i (some x)) (s.set i (some v)) := by
  refine ⟨by simp [h.1], fun j y e => ?_⟩
  by_cases hj : i = j
  · subst hj
    have hi : i < env.length := by
      have := (List.getElem?_eq_some_iff.mp e).1
      simpa using this
    rw [List.getElem?_set_self hi] at e
    cases e
    exact ⟨v, by rw [List.getElem?_set_self (by rw [← h.1]; exact hi)], q⟩
  · rw [List.getElem?_set_ne hj] at e ⊢
    exact h.2 j y e
end

/-! ### what is wanted -/
def Post {α : Type} (X : Cx) (W : WX) (ok : α → Store → List Addr → Hp → Prop) (r : List Addr) (H : Hp) : Res α → Prop
  | .ok a st => ∀ r' H', Ext r H r' H' → Sim X.K X.w r' st H' → ok a st r' H'
  | .exc c f v env st => ∀ r' H' s v' C d, Ext r H r' H' → Sim X.K X.w r' st H' → EnvR X.K r' H' env s → Rep X.K r' H' v v' → X.mg c = some (.ref C) → H' d = some (.xd [(f, v')]) → W (.ref C) (some d) s H'
  | .bad => False
section
variable {X : Cx} {W : WX} {α β : Type} {r r1 : List Addr} {H H1 : Hp} {st st1 : Store}
theorem Post.mono {ok : α → Store → List Addr → Hp → Prop} {res : Res α} (h : Post X W ok r H res) (e : Ext r H r1 H1) (S : Sim X.K X.w r1 st1 H1) : Post X W ok r1 H1 res := by
  cases res with
  | ok a st => exact fun r' H' e' s' => h r' H' (e.trans e' S) s'
  | exc c f v env st => exact fun r' H' s v' C d e' s' => h r' H' s v' C d (e.trans e' S) s'
  | bad => exact h
theorem Post.imp {ok ok' : α → Store → List Addr → Hp → Prop} {res : Res α} (h : Post X W ok r H res) (q : ∀ a st' r' H', Ext r H r' H' → Sim X.K X.w r' st' H' → ok a st' r' H' → ok' a st' r' H') : Post X W ok' r H res := by
  cases res with
  | ok a st => exact fun r' H' e' s' => q a st r' H' e' s' (h r' H' e' s')
  | exc c f v env st => exact h
  | bad => exact h
theorem post_bndE {ok : β → Store → List Addr → Hp → Prop} {m : M α} {k : α → M β} (h : Post X W ok r H (bnd m k st)) : Post X W (fun a st1 r1 H1 => m st = .ok a st1 ∧ Post X W ok r1 H1 (k a st1)) r H (m st) := by
  unfold bnd at h
  cases e : m st with
  | ok a st1 =>
    rw [e] at h
    exact fun r1 H1 e1 s1 => ⟨rfl, Post.mono h e1 s1⟩
  | exc c f v env st1 => rw [e] at h; exact h
  | bad => rw [e] at h; exact h
theorem post_bnd {ok : β → Store → List Addr → Hp → Prop} {m : M α} {k : α → M β} (h : Post X W ok r H (bnd m k st)) : Post X W (fun a st1 r1 H1 => Post X W ok r1 H1 (k a st1)) r H (m st) := by
  unfold bnd at h
  cases e : m st with
  | ok a st1 =>
    rw [e] at h
    exact fun r1 H1 e1 s1 => Post.mono h e1 s1
  | exc c f v env st1 => rw [e] at h; exact h
  | bad => rw [e] at h; exact h
end
def okV (X : Cx) (Q : VK) : PV → Store → List Addr → Hp → Prop := fun v _ r' H' => ∀ v', Rep X.K r' H' v v' → Q v' H'
def okL (X : Cx) (Q : List V → Hp → Prop) : List PV → Store → List Addr → Hp → Prop := fun v _ r' H' => ∀ v', RepL X.K r' H' v v' → Q v' H'
def okB (Q : Bool → Hp → Prop) : Bool → Store → List Addr → Hp → Prop := fun b _ _ H' => Q b H'
inductive Flw where
  | nx (env : Ev) | rt (v : PV) | bk (env : Ev) | ct (env : Ev)
def okS (X : Cx) (D : Ends) : Flw → Store → List Addr → Hp → Prop
  | .nx env, _, r', H' => ∀ s', EnvR X.K r' H' env s' → D.nx s' H'
  | .rt v, _, r', H' => ∀ v', Rep X.K r' H' v v' → D.rt v' H'
  | .bk env, _, r', H' => ∀ s', EnvR X.K r' H' env s' → D.bk s' H'
  | .ct env, _, r', H' => ∀ s', EnvR X.K r' H' env s' → D.ct s' H'

@[irreducible] def WE (X : Cx) (e : Expr) : TE := fun s H Q => ∀ pins sh, Inv X pins s H sh → wpAny (model X.prog X.w) X.A (eval e X.env) (EP X pins s Q) X.xe sh
@[irreducible] def WT (X : Cx) (e : Expr) : TT := fun s H Q => ∀ pins sh, Inv X pins s H sh → wpAny (model X.prog X.w) X.A (isTrue e X.env (eval e X.env)) (TP X pins s Q) X.xe sh
@[irreducible] def WA (X : Cx) (es : List Expr) : TA := fun s H Q => ∀ pos pins sh, Inv X pins s H sh → wpAny (model X.prog X.w) X.A (spliced (backTo pos (starEach es X.env))) (AP X pins s Q) X.xe sh
@[irreducible] def WS (X : Cx) (t : Stmt) : TS := fun D s H => ∀ pins sh, Inv X pins s H sh → wpAny (model X.prog X.w) X.A (exec t X.env) (SP X pins D) X.xe sh
@[irreducible] def WSs (X : Cx) (t : List Stmt) : TS := fun D s H => ∀ pins sh, Inv X pins s H sh → wpAny (model X.prog X.w) X.A (execs t X.env) (SP X pins D) X.xe sh
@[irreducible] def WG (X : Cx) (tg : Expr) : TG := fun v s H Q => ∀ pins sh u, Inv X pins s H sh → RelV v u → wpAny (model X.prog X.w) X.A (assign tg X.env u) (fun _ s' => ∃ σ' H', Inv X pins σ' H' s' ∧ Q σ' H') X.xe sh
section
variable {X : Cx}
theorem pe_w {e : Expr} : PE X e (WE X e) := ⟨fun pins sh s H Q I h => by unfold WE at h; exact h pins sh I⟩
theorem pt_w {e : Expr} : PT X e (WT X e) := ⟨fun pins sh s H Q I h => by unfold WT at h; exact h pins sh I⟩
theorem pa_w {es : List Expr} : PA X es (WA X es) := ⟨fun pos pins sh s H Q I h => by unfold WA at h; exact h pos pins sh I⟩
theorem ps_w {t : Stmt} : PS X t (WS X t) := ⟨fun pins sh s H D I h => by unfold WS at h; exact h pins sh I⟩
theorem pss_w {t : List Stmt} : PSs X t (WSs X t) := ⟨fun pins sh s H D I h => by unfold WSs at h; exact h pins sh I⟩
theorem pg_w {tg : Expr} : PG X tg (WG X tg) := ⟨fun pins sh s H v u Q I q h => by unfold WG at h; exact h pins sh u I q⟩
theorem w_pe {e : Expr} {t : TE} {s : L2.St} {H : Hp} {Q : VK} (h : PE X e t) (q : t s H Q) : WE X e s H Q := by unfold WE; exact fun pins sh I => h.run pins sh s H Q I q
theorem w_pt {e : Expr} {t : TT} {s : L2.St} {H : Hp} {Q : Bool → Hp → Prop} (h : PT X e t) (q : t s H Q) : WT X e s H Q := by unfold WT; exact fun pins sh I => h.run pins sh s H Q I q
theorem w_pa {e : List Expr} {t : TA} {s : L2.St} {H : Hp} {Q : List V → Hp → Prop} (h : PA X e t) (q : t s H Q) : WA X e s H Q := by unfold WA; exact fun pos pins sh I => h.run pos pins sh s H Q I q
theorem w_ps {e : Stmt} {t : TS} {s : L2.St} {H : Hp} {D : Ends} (h : PS X e t) (q : t D s H) : WS X e D s H := by unfold WS; exact fun pins sh I => h.run pins sh s H D I q
theorem w_pss {e : List Stmt} {t : TS} {s : L2.St} {H : Hp} {D : Ends} (h : PSs X e t) (q : t D s H) : WSs X e D s H := by unfold WSs; exact fun pins sh I => h.run pins sh s H D I q
theorem w_pg {tg : Expr} {t : TG} {s : L2.St} {H : Hp} {v : V} {Q : L2.St → Hp → Prop} (h : PG X tg t) (q : t v s H Q) : WG X tg v s H Q := by unfold WG; exact fun pins sh u I z => h.run pins sh s H v u Q I z q
theorem we_run {e : Expr} {s : L2.St} {H : Hp} {Q : VK} (h : WE X e s H Q) : ∀ pins sh, Inv X pins s H sh → wpAny (model X.prog X.w) X.A (eval e X.env) (EP X pins s Q) X.xe sh := by unfold WE at h; exact h
theorem we_mk {e : Expr} {s : L2.St} {H : Hp} {Q : VK} (h : ∀ pins sh, Inv X pins s H sh → wpAny (model X.prog X.w) X.A (eval e X.env) (EP X pins s Q) X.xe sh) : WE X e s H Q := by unfold WE; exact h
theorem wa_run {e : List Expr} {s : L2.St} {H : Hp} {Q : List V → Hp → Prop} (h : WA X e s H Q) : ∀ pos pins sh, Inv X pins s H sh → wpAny (model X.prog X.w) X.A (spliced (backTo pos (starEach e X.env))) (AP X pins s Q) X.xe sh := by unfold WA at h; exact h
theorem wg_run {tg : Expr} {s : L2.St} {H : Hp} {v : V} {Q : L2.St → Hp → Prop} (h : WG X tg v s H Q) : ∀ pins sh u, Inv X pins s H sh → RelV v u → wpAny (model X.prog X.w) X.A (assign tg X.env u) (fun _ s' => ∃ σ' H', Inv X pins σ' H' s' ∧ Q σ' H') X.xe sh := by unfold WG at h; exact h
end

/-! ### the refinement: a piece of syntax does what the function says -/
def RE (X : Cx) (e : Expr) (f : Ev → M PV) : Prop := ∀ W, Takes X W → ∀ r st s H env Q, EnvR X.K r H env s → Sim X.K X.w r st H → Post X W (okV X Q) r H (f env st) → WE X e s H Q
def RT (X : Cx) (e : Expr) (f : Ev → M Bool) : Prop := ∀ W, Takes X W → ∀ r st s H env Q, EnvR X.K r H env s → Sim X.K X.w r st H → Post X W (okB Q) r H (f env st) → WT X e s H Q
def RA (X : Cx) (es : List Expr) (f : Ev → M (List PV)) : Prop := ∀ W, Takes X W → ∀ r st s H env Q, EnvR X.K r H env s → Sim X.K X.w r st H → Post X W (okL X Q) r H (f env st) → WA X es s H Q
def RS (X : Cx) (t : Stmt) (f : Ev → M Flw) : Prop := ∀ W, Takes X W → ∀ r st s H env D, EnvR X.K r H env s → Sim X.K X.w r st H → Post X W (okS X D) r H (f env st) → WS X t D s H
def RSs (X : Cx) (t : List Stmt) (f : Ev → M Flw) : Prop := ∀ W, Takes X W → ∀ r st s H env D, EnvR X.K r H env s → Sim X.K X.w r st H → Post X W (okS X D) r H (f env st) → WSs X t D s H
/-- the slots but those at T are as they were -/
def But (T : List Nat) (s s' : L2.St) : Prop := s'.length = s.length ∧ ∀ j, j ∉ T → s'[j]? = s[j]?
theorem But.refl (T : List Nat) (s : L2.St) : But T s s := ⟨rfl, fun _ _ => rfl⟩
theorem But.trans {T U : List Nat} {s s1 s2 : L2.St} (a : But T s s1) (b : But U s1 s2) : But (T ++ U) s s2 :=
  ⟨b.1.trans a.1, fun j h => (b.2 j fun z => h (List.mem_append_right _ z)).trans (a.2 j fun z => h (List.mem_append_left _ z))⟩
def okG (X : Cx) (T : List Nat) (s : L2.St) (Q : L2.St → Hp → Prop) : Ev → Store → List Addr → Hp → Prop := fun env _ r' H' => ∀ s', EnvR X.K r' H' env s' → But T s s' → Q s' H'
def RG (X : Cx) (tg : Expr) (T : List Nat) (f : PV → Ev → M Ev) : Prop := ∀ W, Takes X W → ∀ r st s H env v v' (Q : L2.St → Hp → Prop), EnvR X.K r H env s → Sim X.K X.w r st H → Rep X.K r H v v' →
  Post X W (okG X T s Q) r H (f v env st) → WG X tg v' s H Q

section
variable {X : Cx} {W : WX} {r : List Addr} {H : Hp} {st : Store} {s : L2.St} {env : Ev} {α : Type} {ok : α → Store → List Addr → Hp → Prop}
theorem RE.seq {a : Expr} {fa : Ev → M PV} (ha : RE X a fa) (tk : Takes X W) (E : EnvR X.K r H env s) (S : Sim X.K X.w r st H) {k : PV → M α} (P : Post X W ok r H (bnd (fa env) k st)) {R : V → Hp → Prop}
    (hk : ∀ r1 st1 H1 x x', Ext r H r1 H1 → EnvR X.K r1 H1 env s → Sim X.K X.w r1 st1 H1 → Rep X.K r1 H1 x x' → Post X W ok r1 H1 (k x st1) → R x' H1) : WE X a s H R :=
  ha W tk r st s H env R E S ((post_bnd P).imp fun a st' r' H' e' s' q v' rv => hk r' st' H' a v' e' (E.ext e' S) s' rv q)
theorem RT.seq {a : Expr} {fa : Ev → M Bool} (ha : RT X a fa) (tk : Takes X W) (E : EnvR X.K r H env s) (S : Sim X.K X.w r st H) {k : Bool → M α} (P : Post X W ok r H (bnd (fa env) k st)) {R : Bool → Hp → Prop}
    (hk : ∀ r1 st1 H1 b, Ext r H r1 H1 → EnvR X.K r1 H1 env s → Sim X.K X.w r1 st1 H1 → Post X W ok r1 H1 (k b st1) → R b H1) : WT X a s H R :=
  ha W tk r st s H env R E S ((post_bnd P).imp fun a st' r' H' e' s' q => hk r' st' H' a e' (E.ext e' S) s' q)
theorem RA.seq {a : List Expr} {fa : Ev → M (List PV)} (ha : RA X a fa) (tk : Takes X W) (E : EnvR X.K r H env s) (S : Sim X.K X.w r st H) {k : List PV → M α} (P : Post X W ok r H (bnd (fa env) k st)) {R : List V → Hp → Prop}
    (hk : ∀ r1 st1 H1 x x', Ext r H r1 H1 → EnvR X.K r1 H1 env s → Sim X.K X.w r1 st1 H1 → RepL X.K r1 H1 x x' → Post X W ok r1 H1 (k x st1) → R x' H1) : WA X a s H R :=
  ha W tk r st s H env R E S ((post_bnd P).imp fun a st' r' H' e' s' q v' rv => hk r' st' H' a v' e' (E.ext e' S) s' rv q)
theorem Post.now {a : α} {st1 : Store} (P : Post X W ok r H (.ok a st1)) (S : Sim X.K X.w r st1 H) : ok a st1 r H := P r H (Ext.refl r H) S
end

/-! ### names, constants -/
def xVar (i : Nat) : Ev → M PV := fun env st => match env[i]? with
  | some (some v) => .ok v st
  | _ => .bad
def xC (v : PV) : Ev → M PV := fun _ => ret v
section
variable {X : Cx}
theorem re_var {i : Nat} {x : Str} {pos : Pos} (hN : X.N[i]? = some x) (hv : Vis X.env.scope x) (hd : (x == ("__debug__" : Str)) = false := by decide) (hcd : (x == ("__classdict__" : Str)) = false := by decide) : RE X (.Name x pos) (xVar i) := by
  intro W tk r st s H env Q E S P
  refine w_pe (pe_var hN hv hd hcd) ?_
  unfold xVar at P
  split at P
  · rename_i v e
    obtain ⟨v', e1, e2⟩ := E.2 i v e
    exact ⟨v', e1, Post.now P S v' e2⟩
  · exact P.elim
theorem re_int {i j pos} : RE X (.Constant (.int i) j pos) (xC (.int i)) := fun W tk r st s H env Q E S P => w_pe pe_int (Post.now P S _ (by simp only [Rep]))
theorem re_bl {b j pos} : RE X (.Constant (.bool b) j pos) (xC (.bl b)) := fun W tk r st s H env Q E S P => w_pe pe_bl (Post.now P S _ (by simp only [Rep]))
theorem re_non {j pos} : RE X (.Constant .none j pos) (xC .non) := fun W tk r st s H env Q E S P => w_pe pe_non (Post.now P S _ (by simp only [Rep]))
theorem re_str {x j pos} : RE X (.Constant (.str x) j pos) (xC (.str x)) := fun W tk r st s H env Q E S P => w_pe pe_str (Post.now P S _ (by simp only [Rep]))
end

end Mi
namespace Mi
open PySem PySem.Spec PyProof.Rows L2
/-! ### the store and the heap -/
section
variable {K : PySem.W.Frag} {ww : World} {r r1 : List Addr} {H H1 : Hp} {st : Store} {a p : Addr}
theorem Ext.new {o : HO} (hp : H p = none) : Ext r H r (upd H p o) := ⟨⟨[], by simp, by simp⟩, fun b u h _ => by rw [upd_ne (ne_of_none h hp)]; exact h⟩
theorem RepD.ext {κ : Type} (e : Ext r H r1 H1) (S : Sim K ww r st H) : ∀ {xs : List (κ × PV)} {ws : List (κ × V)}, RepD K r H xs ws → RepD K r1 H1 xs ws
  | [], ws, h => by simpa only [RepD] using h
  | (k, x) :: xs, ws, h => by
    simp only [RepD] at h ⊢
    obtain ⟨v, ws', e1, e2, e3⟩ := h
    exact ⟨v, ws', e1, e.rep S e2, RepD.ext e S e3⟩
theorem PairT.ext (e : Ext r H r1 H1) (S : Sim K ww r st H) : ∀ {ps : List (List Key × PV)} {xs : List (List Key × Addr × Value)}, PairT K r H ps xs → PairT K r1 H1 ps xs
  | [], xs, h => by simpa only [PairT] using h
  | (k, x) :: ps, xs, h => by
    simp only [PairT] at h ⊢
    obtain ⟨b, u, v, ys, e1, e2, e3, e4, e5⟩ := h
    exact ⟨b, u, v, ys, e1, e.sqT S e2, e3, e.rep S e4, PairT.ext e S e5⟩
theorem CellR.ext {c : Cell} (h : CellR K ww r H a c) (e : Ext r H r1 H1) (S : Sim K ww r st H) (ha : H1 a = H a) : CellR K ww r1 H1 a c := by
  cases c with
  | lst xs => obtain ⟨vs, e1, e2⟩ := h; exact ⟨vs, ha.trans e1, e.repL S e2⟩
  | dk kvs => obtain ⟨ws, e1, e2⟩ := h; exact ⟨ws, ha.trans e1, e2.ext e S⟩
  | dt kvs => obtain ⟨ws, e1, e2, e3⟩ := h; exact ⟨ws, ha.trans e1, e2.ext e S, e3⟩
  | tb q P =>
    obtain ⟨e0, ps, e1, e2, e3⟩ := h
    refine ⟨e0, ps, ha.trans e1, e2, fun pos cv hc => ?_⟩
    obtain ⟨c, q1, q2⟩ := e3 pos cv hc
    exact ⟨c, q1, e.keep c _ q2 (S.notCode q2)⟩
theorem Sim.ne (S : Sim K ww r st H) (hp : H p = none) : ∀ b ∈ r, b ≠ p := fun b hb z => by
  obtain ⟨o, e, _⟩ := S.tracked b hb
  rw [z, hp] at e; cases e
/-- a new object that is no place -/
theorem Sim.new {o : HO} (S : Sim K ww r st H) (hp : H p = none) : Sim K ww r st (upd H p o) :=
  ⟨S.len, S.nd, fun i c b h1 h2 => (S.at_ i c b h1 h2).ext (Ext.new hp) S (upd_ne (S.ne hp b (List.mem_of_getElem? h2)))⟩
theorem Ext.push {o : HO} (hp : H p = none) : Ext r H (r ++ [p]) (upd H p o) := ⟨⟨[p], rfl, fun b hb => by rw [List.mem_singleton.mp hb]; exact hp⟩, fun b u h _ => by rw [upd_ne (ne_of_none h hp)]; exact h⟩
/-- a new place -/
theorem Sim.push {o : HO} {c : Cell} (S : Sim K ww r st H) (hp : H p = none) (hc : CellR K ww (r ++ [p]) (upd H p o) p c) : Sim K ww (r ++ [p]) (st ++ [c]) (upd H p o) := by
  refine ⟨by simp [S.len], ?_, fun i c' b h1 h2 => ?_⟩
  · refine List.nodup_append.mpr ⟨S.nd, by simp, fun x hx y hy => ?_⟩
    rw [List.mem_singleton.mp hy]
    exact S.ne hp x hx
  · by_cases hi : i < st.length
    · rw [List.getElem?_append_left hi] at h1
      rw [List.getElem?_append_left (by rw [S.len]; exact hi)] at h2
      exact (S.at_ i c' b h1 h2).ext (Ext.push hp) S (upd_ne (S.ne hp b (List.mem_of_getElem? h2)))
    · rw [List.getElem?_append_right (by omega)] at h1
      rw [List.getElem?_append_right (by rw [S.len]; omega), S.len] at h2
      have h0 : i - st.length = 0 := by
        have := (List.getElem?_eq_some_iff.mp h1).1
        simp at this; omega
      rw [h0] at h1 h2
      cases h1; cases h2
      exact hc
theorem Ext.mut {o : HO} (ha : a ∈ r) : Ext r H r (upd H a o) := ⟨⟨[], by simp, by simp⟩, fun b u h hb => by rw [upd_ne (fun z => hb (by rw [z]; exact ha))]; exact h⟩
/-- a place is written -/
theorem Sim.put {o : HO} {c : Cell} {i : Nat} (S : Sim K ww r st H) (hi : r[i]? = some a) (hc : CellR K ww r (upd H a o) a c) : Sim K ww r (st.set i c) (upd H a o) := by
  have hm := List.mem_of_getElem? hi
  refine ⟨by simp [S.len], S.nd, fun j c' b h1 h2 => ?_⟩
  by_cases hj : i = j
  · subst hj
    rw [hi] at h2; cases h2
    have : i < st.length := by have := (List.getElem?_eq_some_iff.mp h1).1; simpa using this
    rw [List.getElem?_set_self this] at h1
    cases h1
    exact hc
  · rw [List.getElem?_set_ne hj] at h1
    refine (S.at_ j c' b h1 h2).ext (Ext.mut hm) S (upd_ne fun z => hj ?_)
    subst z
    obtain ⟨l1, e1⟩ := List.getElem?_eq_some_iff.mp hi
    obtain ⟨l2, e2⟩ := List.getElem?_eq_some_iff.mp h2
    exact (List.getElem_inj S.nd).mp (e1.trans e2.symm)
theorem Sim.get (S : Sim K ww r st H) {n : Nat} {c : Cell} (h : st[n]? = some c) : ∃ b, r[n]? = some b ∧ CellR K ww r H b c := by
  have hn : n < r.length := by rw [S.len]; exact (List.getElem?_eq_some_iff.mp h).1
  exact ⟨r[n], List.getElem?_eq_getElem hn, S.at_ n c _ h (List.getElem?_eq_getElem hn)⟩
end

/-! ### operators -/
def sizeTop : Nat := 16777216
theorem sizeTop_eq : sizeTop = sizeLine := by rw [sizeLine_eq]; rfl
def newC (c : Cell) : M PV := fun st => .ok (.loc st.length) (st ++ [c])
def getL (n : Nat) : Store → Option (List PV) := fun st => match st[n]? with
  | some (.lst xs) => some xs
  | _ => none
/-- a list that may be written -/
def getM (n : Nat) : Store → Option (List PV) := fun st => match st[n]? with
  | some (.lst xs) => some xs
  | _ => none
section
variable {K : PySem.W.Frag} {ww : World} {r : List Addr} {H : Hp} {st : Store}
theorem getM_at {n : Nat} {xs : List PV} (h : getM n st = some xs) : st[n]? = some (.lst xs) := by
  unfold getM at h
  split at h
  · rename_i ys e; cases h; exact e
  · cases h
theorem Sim.getM (S : Sim K ww r st H) {n : Nat} {xs : List PV} (h : getM n st = some xs) : ∃ b vs, r[n]? = some b ∧ H b = some (.lst vs) ∧ RepL K r H xs vs := by
  obtain ⟨b, e1, vs, e2, e3⟩ := S.get (getM_at h)
  exact ⟨b, vs, e1, e2, e3⟩
theorem Sim.getL (S : Sim K ww r st H) {n : Nat} {xs : List PV} (h : getL n st = some xs) : ∃ b vs, r[n]? = some b ∧ SqL K H b vs ∧ RepL K r H xs vs := by
  unfold Mi.getL at h
  split at h
  · rename_i ys e
    cases h
    obtain ⟨b, e1, vs, e2, e3⟩ := S.get e
    exact ⟨b, vs, e1, SqL.of e2, e3⟩
  · cases h
end
def x2 (o : PV → PV → M PV) (fa fb : Ev → M PV) : Ev → M PV := fun env => bnd (fa env) fun x => bnd (fb env) fun y => o x y
def x1 (o : PV → M PV) (fa : Ev → M PV) : Ev → M PV := fun env => bnd (fa env) fun x => o x
/-- an operator's function, by values -/
def R2V (X : Cx) (o : PV → PV → M PV) (rr : R2) : Prop := ∀ (W : WX) (r : List Addr) (st : Store) (H : Hp) (x y : PV) (x' y' : V) (Q : VK), Sim X.K X.w r st H → Rep X.K r H x x' → Rep X.K r H y y' → Post X W (okV X Q) r H (o x y st) → rr x' y' H Q
def R1V (X : Cx) (o : PV → M PV) (rr : V → Hp → VK → Prop) : Prop := ∀ (W : WX) (r : List Addr) (st : Store) (H : Hp) (x : PV) (x' : V) (Q : VK), Sim X.K X.w r st H → Rep X.K r H x x' → Post X W (okV X Q) r H (o x st) → rr x' H Q
section
variable {X : Cx} {a b : Expr} {fa fb : Ev → M PV} {pos : Pos}
theorem re_op {op : Operator} {o : PV → PV → M PV} {rr : R2} (ho : OpR X (binaryOp op) rr) (hv : R2V X o rr) (ha : RE X a fa) (hb : RE X b fb) : RE X (.BinOp a op b pos) (x2 o fa fb) := by
  intro W tk r st s H env Q E S P
  refine w_pe (pe_op ho pe_w pe_w) ?_
  refine ha.seq tk E S P fun r1 st1 H1 x x' e1 E1 S1 rx P1 => hb.seq tk E1 S1 P1 fun r2 st2 H2 y y' e2 E2 S2 ry P2 => ?_
  exact hv W r2 st2 H2 x y x' y' Q S2 (e2.rep S1 rx) ry P2
theorem re_un {op : UnaryOp} {o : PV → M PV} {rr : V → Hp → VK → Prop} (ho : UnR X (unaryOp op) rr) (hv : R1V X o rr) (ha : RE X a fa) : RE X (.UnaryOp op a pos) (x1 o fa) := by
  intro W tk r st s H env Q E S P
  refine w_pe (pe_un ho pe_w) ?_
  exact ha.seq tk E S P fun r1 st1 H1 x x' e1 E1 S1 rx P1 => hv W r1 st1 H1 x x' Q S1 rx P1
theorem re_cmp {op : CmpOp} {o : PV → PV → M PV} {rr : R2} (ho : OpR X (compareOp op) rr) (hv : R2V X o rr) (ha : RE X a fa) (hb : RE X b fb) (hm : behindInMarks op b = false) : RE X (.Compare a [op] [b] pos) (x2 o fa fb) := by
  intro W tk r st s H env Q E S P
  refine w_pe (pe_cmpR ho pe_w pe_w hm) ?_
  refine ha.seq tk E S P fun r1 st1 H1 x x' e1 E1 S1 rx P1 => hb.seq tk E1 S1 P1 fun r2 st2 H2 y y' e2 E2 S2 ry P2 => ?_
  exact hv W r2 st2 H2 x y x' y' Q S2 (e2.rep S1 rx) ry P2
/-- a value as a test -/
def toB : PV → M Bool
  | .bl b => ret b
  | _ => bad
def asB (f : Ev → M PV) : Ev → M Bool := fun env => bnd (f env) toB
theorem Post.asB {W : WX} {r : List Addr} {H : Hp} {st : Store} {x : PV} {x' : V} {Q : Bool → Hp → Prop} (S : Sim X.K X.w r st H) (rx : Rep X.K r H x x') (P : Post X W (okB Q) r H (toB x st)) : ∃ k, x' = .bl k ∧ Q k H := by
  cases x with
  | bl b => exact ⟨b, by simpa only [Rep] using rx, Post.now P S⟩
  | _ => exact P.elim
theorem rt_cmp {op : CmpOp} {o : PV → PV → M PV} {rr : R2} (ho : OpR X (compareOp op) rr) (hv : R2V X o rr) (ha : RE X a fa) (hb : RE X b fb) (hm : behindInMarks op b = false) : RT X (.Compare a [op] [b] pos) (asB (x2 o fa fb)) := by
  intro W tk r st s H env Q E S P
  refine w_pt (pt_cmpR ho pe_w pe_w hm) ?_
  have P' : Post X W (okV X fun x H' => ∃ k, x = .bl k ∧ Q k H') r H (x2 o fa fb env st) := (post_bnd P).imp fun x st1 r1 H1 e1 S1 q x' rx => Post.asB S1 rx q
  refine ha.seq tk E S P' fun r1 st1 H1 x x' e1 E1 S1 rx P1 => hb.seq tk E1 S1 P1 fun r2 st2 H2 y y' e2 E2 S2 ry P2 => ?_
  exact hv W r2 st2 H2 x y x' y' _ S2 (e2.rep S1 rx) ry P2
theorem rt_val {e : Expr} {f : Ev → M PV} (h : RE X e f) (he : ∀ whole, isTrue e X.env whole = (do let v ← whole; standAt e.pos; holding [v] (truthy v)) := by intro _; rfl) : RT X e (asB f) := by
  intro W tk r st s H env Q E S P
  refine w_pt (pt_val pe_w he) ?_
  exact h.seq tk E S P fun r1 st1 H1 x x' e1 E1 S1 rx P1 => Post.asB S1 rx P1
/-! and, or, not -/
def bAnd (fa fb : Ev → M Bool) : Ev → M Bool := fun env => bnd (fa env) fun x => if x = true then fb env else ret false
def bOr (fa fb : Ev → M Bool) : Ev → M Bool := fun env => bnd (fa env) fun x => if x = true then ret true else fb env
def bNot (fa : Ev → M Bool) : Ev → M Bool := fun env => bnd (fa env) fun x => ret (!x)
/-- a test whatever its whole is -/
@[irreducible] def WW (X : Cx) (e : Expr) : TT := fun s H Q => ∀ (whole : Sem Value) pins sh, Inv X pins s H sh → wpAny (model X.prog X.w) X.A (isTrue e X.env whole) (TP X pins s Q) X.xe sh
theorem pw_w {e : Expr} : PW X e (WW X e) := ⟨fun whole pins sh s H Q I h => by unfold WW at h; exact h whole pins sh I⟩
theorem w_pw {e : Expr} {t : TT} {s : L2.St} {H : Hp} {Q : Bool → Hp → Prop} (h : PW X e t) (q : t s H Q) : WW X e s H Q := by unfold WW; exact fun whole pins sh I => h.run whole pins sh s H Q I q
def RW (X : Cx) (e : Expr) (f : Ev → M Bool) : Prop := ∀ W, Takes X W → ∀ r st s H env Q, EnvR X.K r H env s → Sim X.K X.w r st H → Post X W (okB Q) r H (f env st) → WW X e s H Q
theorem RW.rt {e : Expr} {f : Ev → M Bool} (h : RW X e f) : RT X e f := fun W tk r st s H env Q E S P => w_pt pw_w.pt (h W tk r st s H env Q E S P)
variable {ta tb : Ev → M Bool} {rest : List Expr}
theorem rw_and1 (ha : RT X a ta) : RW X (.BoolOp .And [a] pos) ta := fun W tk r st s H env Q E S P => w_pw (pw_and1 pt_w) (ha W tk r st s H env Q E S P)
theorem rw_or1 (ha : RT X a ta) : RW X (.BoolOp .Or [a] pos) ta := fun W tk r st s H env Q E S P => w_pw (pw_or1 pt_w) (ha W tk r st s H env Q E S P)
theorem rw_and (ha : RT X a ta) (hb : RW X (.BoolOp .And (b :: rest) pos) tb) : RW X (.BoolOp .And (a :: b :: rest) pos) (bAnd ta tb) := by
  intro W tk r st s H env Q E S P
  refine w_pw (pw_and pt_w pw_w) ?_
  refine ha.seq tk E S P fun r1 st1 H1 x e1 E1 S1 P1 => ?_
  cases x with
  | true => exact iteT (hb W tk r1 st1 s H1 env Q E1 S1 P1)
  | false => exact iteF (Post.now P1 S1)
theorem rw_or (ha : RT X a ta) (hb : RW X (.BoolOp .Or (b :: rest) pos) tb) : RW X (.BoolOp .Or (a :: b :: rest) pos) (bOr ta tb) := by
  intro W tk r st s H env Q E S P
  refine w_pw (pw_or pt_w pw_w) ?_
  refine ha.seq tk E S P fun r1 st1 H1 x e1 E1 S1 P1 => ?_
  cases x with
  | true => exact iteT (Post.now P1 S1)
  | false => exact iteF (hb W tk r1 st1 s H1 env Q E1 S1 P1)
theorem rt_not (ha : RT X a ta) : RT X (.UnaryOp .Not a pos) (bNot ta) := by
  intro W tk r st s H env Q E S P
  refine w_pt (pt_not pt_w) ?_
  exact ha.seq tk E S P fun r1 st1 H1 x e1 E1 S1 P1 => Post.now P1 S1
end
end Mi
namespace Mi
open PySem PySem.Spec PyProof.Rows L2
section
variable {K : PySem.W.Frag} {ww : World} {r : List Addr} {H : Hp} {st : Store} {p : Addr} {xs : List PV} {vs : List V}
theorem rep_non {v : V} : Rep K r H .non v ↔ v = .non := by simp only [Rep]
theorem rep_bl {b : Bool} {v : V} : Rep K r H (.bl b) v ↔ v = .bl b := by simp only [Rep]
theorem rep_int {i : Int} {v : V} : Rep K r H (.int i) v ↔ v = .int i := by simp only [Rep]
theorem rep_str {x : Str} {v : V} : Rep K r H (.str x) v ↔ v = .str x := by simp only [Rep]
theorem rep_tup {v : V} : Rep K r H (.tup xs) v ↔ ∃ a vs, v = .ref a ∧ SqT K H a vs ∧ RepL K r H xs vs := by simp only [Rep]
theorem rep_kl {v : V} : Rep K r H (.kl xs) v ↔ ∃ a vs, v = .ref a ∧ SqR K H a vs ∧ RepL K r H xs vs := by simp only [Rep]
theorem rep_loc {n : Nat} {v : V} : Rep K r H (.loc n) v ↔ ∃ a, v = .ref a ∧ r[n]? = some a := by simp only [Rep]
theorem Rep.newT (S : Sim K ww r st H) (hp : H p = none) (h : RepL K r H xs vs) : Rep K r (upd H p (.tup vs)) (.tup xs) (.ref p) :=
  rep_tup.mpr ⟨p, vs, rfl, SqT.of upd_same, (Ext.new hp).repL S h⟩
theorem Rep.place {n : Nat} {a : Addr} (h : r[n]? = some a) : Rep K r H (.loc n) (.ref a) := rep_loc.mpr ⟨a, rfl, h⟩
theorem Rep.last : Rep K (r ++ [p]) H (.loc r.length) (.ref p) := Rep.place (by simp)
end
section
variable {X : Cx} {W : WX} {r : List Addr} {H : Hp} {st : Store} {p : Addr} {xs : List PV} {vs : List V} {Q : VK}
theorem Post.val {v : PV} {v' : V} (P : Post X W (okV X Q) r H (.ok v st)) (S : Sim X.K X.w r st H) (h : Rep X.K r H v v') : Q v' H := Post.now P S v' h
theorem Post.newT (P : Post X W (okV X Q) r H (.ok (.tup xs) st)) (S : Sim X.K X.w r st H) (hp : H p = none) (h : RepL X.K r H xs vs) : Q (.ref p) (upd H p (.tup vs)) :=
  P r _ (Ext.new hp) (S.new hp) _ (Rep.newT S hp h)
theorem Post.newL (P : Post X W (okV X Q) r H (newC (.lst xs) st)) (S : Sim X.K X.w r st H) (hp : H p = none) (h : RepL X.K r H xs vs) : Q (.ref p) (upd H p (.lst vs)) := by
  have e : Ext r H (r ++ [p]) (upd H p (.lst vs)) := Ext.push hp
  refine P (r ++ [p]) _ e (S.push hp ⟨vs, upd_same, e.repL S h⟩) _ ?_
  rw [← S.len]
  exact Rep.last
end
def addV : PV → PV → M PV
  | .int i, .int j => ret (.int (i + j))
  | .tup xs, .tup ys => if xs.length + ys.length ≤ sizeTop then ret (.tup (xs ++ ys)) else bad
  | .loc m, .loc n => fun st => match getM m st, getM n st with
    | some xs, some ys => if xs.length + ys.length ≤ sizeTop then newC (.lst (xs ++ ys)) st else .bad
    | _, _ => .bad
  | .str a, .str b => if a.length + b.length ≤ sizeTop then ret (.str (a ++ b)) else bad
  | _, _ => bad
def subV : PV → PV → M PV
  | .int i, .int j => ret (.int (i - j))
  | _, _ => bad
/-- how many figures a number has, up to one -/
def big (i : Int) : Nat := i.natAbs.log2
def mulV : PV → PV → M PV
  | .int i, .int j => if big i + big j < 1000000 then ret (.int (i * j)) else bad
  | .loc m, .int k => fun st => match getM m st with
    | some xs => if -(2 ^ 63) ≤ k ∧ k < 2 ^ 63 ∧ xs.length * k.toNat ≤ sizeTop then newC (.lst (List.replicate k.toNat xs).flatten) st else .bad
    | none => .bad
  | .tup xs, .int k => if 2 ≤ k ∧ k ≤ 1000 ∧ 0 < xs.length ∧ xs.length ≤ 1000 then ret (.tup (List.replicate k.toNat xs).flatten) else bad
  | _, _ => bad
def fdivV : PV → PV → M PV
  | .int i, .int j => if 0 < j ∧ big j < 9000 then ret (.int (i / j)) else bad
  | _, _ => bad
def modV : PV → PV → M PV
  | .int i, .int j => if 0 < j then ret (.int (i % j)) else bad
  | _, _ => bad
def powV : PV → PV → M PV
  | .int i, .int j => if 0 ≤ j ∧ j ≤ 1000000 ∧ i.natAbs < 2 ^ 64 then ret (.int (i ^ j.toNat)) else bad
  | _, _ => bad
def negV : PV → M PV
  | .int i => ret (.int (-i))
  | _ => bad
def cmpI (p : Int → Int → Bool) : PV → PV → M PV
  | .int i, .int j => ret (.bl (p i j))
  | _, _ => bad
def isNonB : PV → Bool
  | .non => true
  | _ => false
def isN : PV → PV → M PV := fun x y => if isNonB y = true then ret (.bl (isNonB x)) else bad
def notN : PV → PV → M PV := fun x y => if isNonB y = true then ret (.bl (!isNonB x)) else bad
section
variable {X : Cx}
theorem v_int2 {o : Int → Int → M PV} {g : PV → PV → M PV} {rr : R2} (hg : ∀ x y W r st H Q, Post X W (okV X Q) r H (g x y st) → ∃ i j, x = .int i ∧ y = .int j)
    (h : ∀ W r st H Q i j, Sim X.K X.w r st H → Post X W (okV X Q) r H (g (.int i) (.int j) st) → rr (.int i) (.int j) H Q) : R2V X g rr := by
  intro W r st H x y x' y' Q S rx ry P
  obtain ⟨i, j, rfl, rfl⟩ := hg x y W r st H Q P
  rw [rep_int.mp rx, rep_int.mp ry]
  exact h W r st H Q i j S P
theorem v_add : R2V X addV (fun x y H Q => rI0 (fun i j => .int (i + j)) x y H Q ∨ rCatA X.K x y H Q ∨ rCat x y H Q ∨ ∃ i j, x = .str i ∧ y = .str j ∧ i.length + j.length ≤ sizeLine ∧ Q (.str (i ++ j)) H) := by
  intro W r st H x y x' y' Q S rx ry P
  unfold addV at P
  split at P
  · rw [rep_int.mp rx, rep_int.mp ry]
    exact .inl ⟨_, _, rfl, rfl, P.val S (rep_int.mpr rfl)⟩
  · rename_i xs ys
    split at P
    · rename_i hz
      obtain ⟨a, vs, rfl, h1, h2⟩ := rep_tup.mp rx
      obtain ⟨b, ws, rfl, h3, h4⟩ := rep_tup.mp ry
      refine .inr (.inl ⟨a, b, vs, ws, rfl, rfl, h1, h3, by rw [← h2.length, ← h4.length, ← sizeTop_eq]; exact hz, fun e => ?_, fun _ e => ?_, fun _ _ p hp => P.newT S hp (h2.append h4)⟩)
      · subst e
        have := h2.length
        obtain rfl : xs = [] := List.length_eq_zero_iff.mp this
        exact P.val S ry
      · subst e
        have := h4.length
        obtain rfl : ys = [] := List.length_eq_zero_iff.mp this
        rw [List.append_nil] at P
        exact P.val S rx
    · exact P.elim
  · rename_i m n
    split at P
    · rename_i xs ys e1 e2
      split at P
      · rename_i hz
        obtain ⟨a, rfl, h1⟩ := rep_loc.mp rx
        obtain ⟨b, rfl, h2⟩ := rep_loc.mp ry
        obtain ⟨a', vs, h3, h4, h5⟩ := S.getM e1
        obtain ⟨b', ws, h6, h7, h8⟩ := S.getM e2
        rw [h1] at h3; cases h3
        rw [h2] at h6; cases h6
        exact .inr (.inr (.inl ⟨a, b, vs, ws, rfl, rfl, h4, h7, by rw [← h5.length, ← h8.length, ← sizeTop_eq]; exact hz, fun p hp => P.newL S hp (h5.append h8)⟩))
      · exact P.elim
    · exact P.elim
  · split at P
    · rename_i hz
      rw [rep_str.mp rx, rep_str.mp ry]
      exact .inr (.inr (.inr ⟨_, _, rfl, rfl, by rw [← sizeTop_eq]; exact hz, P.val S (rep_str.mpr rfl)⟩))
    · exact P.elim
  · exact P.elim
theorem v_sub : R2V X subV (rI0 fun i j => .int (i - j)) := by
  intro W r st H x y x' y' Q S rx ry P
  unfold subV at P
  split at P
  · rw [rep_int.mp rx, rep_int.mp ry]
    exact ⟨_, _, rfl, rfl, P.val S (rep_int.mpr rfl)⟩
  · exact P.elim
theorem RepL.times {K : PySem.W.Frag} {r : List Addr} {H : Hp} {xs : List PV} {vs : List V} (h : RepL K r H xs vs) : ∀ n : Nat, RepL K r H (List.replicate n xs).flatten (List.replicate n vs).flatten
  | 0 => by simp [RepL]
  | n + 1 => by
    rw [List.replicate_succ, List.replicate_succ, List.flatten_cons, List.flatten_cons]
    exact h.append (RepL.times h n)
theorem v_mul : R2V X mulV (fun x y H Q => rI CMulW (fun i j => .int (i * j)) x y H Q ∨ rRep x y H Q ∨ rRepT X.K x y H Q) := by
  intro W r st H x y x' y' Q S rx ry P
  unfold mulV at P
  split at P
  · split at P
    · rename_i hz
      rw [rep_int.mp rx, rep_int.mp ry]
      exact .inl ⟨_, _, rfl, rfl, hz, P.val S (rep_int.mpr rfl)⟩
    · exact P.elim
  · rename_i m k
    split at P
    · rename_i xs e1
      split at P
      · rename_i hz
        obtain ⟨a, rfl, h1⟩ := rep_loc.mp rx
        obtain ⟨a', vs, h3, h4, h5⟩ := S.getM e1
        rw [h1] at h3; cases h3
        rw [rep_int.mp ry]
        exact .inr (.inl ⟨a, k, vs, rfl, rfl, h4, hz.1, hz.2.1, by rw [← h5.length, ← sizeTop_eq]; exact hz.2.2, fun p hp => P.newL S hp (h5.times _)⟩)
      · exact P.elim
    · exact P.elim
  · rename_i xs k
    split at P
    · rename_i hz
      obtain ⟨a, vs, rfl, h1, h2⟩ := rep_tup.mp rx
      rw [rep_int.mp ry]
      have hl := h2.length
      refine .inr (.inr ⟨a, k, vs, rfl, rfl, h1, fun z => ?_, hz.1, hz.2.1, by rw [← hl]; exact hz.2.2.2, fun p hp => P.newT S hp (h2.times _)⟩)
      have := hz.2.2.1
      rw [z] at hl
      simp at hl
      rw [hl] at this
      simp at this
    · exact P.elim
  · exact P.elim
theorem v_fdiv : R2V X fdivV (rI CDivW fun i j => .int (i / j)) := by
  intro W r st H x y x' y' Q S rx ry P
  unfold fdivV at P
  split at P
  · split at P
    · rename_i hz
      rw [rep_int.mp rx, rep_int.mp ry]
      exact ⟨_, _, rfl, rfl, hz, P.val S (rep_int.mpr rfl)⟩
    · exact P.elim
  · exact P.elim
theorem v_mod : R2V X modV (rI (fun _ j => 0 < j) fun i j => .int (i % j)) := by
  intro W r st H x y x' y' Q S rx ry P
  unfold modV at P
  split at P
  · split at P
    · rename_i hz
      rw [rep_int.mp rx, rep_int.mp ry]
      exact ⟨_, _, rfl, rfl, hz, P.val S (rep_int.mpr rfl)⟩
    · exact P.elim
  · exact P.elim
theorem v_pow : R2V X powV (rI CPow fun i j => .int (i ^ j.toNat)) := by
  intro W r st H x y x' y' Q S rx ry P
  unfold powV at P
  split at P
  · split at P
    · rename_i hz
      rw [rep_int.mp rx, rep_int.mp ry]
      exact ⟨_, _, rfl, rfl, hz, P.val S (rep_int.mpr rfl)⟩
    · exact P.elim
  · exact P.elim
theorem v_neg : R1V X negV (rU fun i => .int (-i)) := by
  intro W r st H x x' Q S rx P
  unfold negV at P
  split at P
  · rw [rep_int.mp rx]
    exact ⟨_, rfl, P.val S (rep_int.mpr rfl)⟩
  · exact P.elim
theorem v_cmpI {p : Int → Int → Bool} : R2V X (cmpI p) (rI0 fun i j => .bl (p i j)) := by
  intro W r st H x y x' y' Q S rx ry P
  unfold cmpI at P
  split at P
  · rw [rep_int.mp rx, rep_int.mp ry]
    exact ⟨_, _, rfl, rfl, P.val S (rep_bl.mpr rfl)⟩
  · exact P.elim
theorem rep_isNon {K : PySem.W.Frag} {r : List Addr} {H : Hp} {x : PV} {v : V} (h : Rep K r H x v) : decide (v = .non) = isNonB x := by
  cases x with
  | non => rw [rep_non.mp h]; rfl
  | bl b => rw [rep_bl.mp h]; rfl
  | int i => rw [rep_int.mp h]; rfl
  | str s => rw [rep_str.mp h]; rfl
  | tup xs => obtain ⟨a, vs, rfl, _⟩ := rep_tup.mp h; rfl
  | loc n => obtain ⟨a, rfl, _⟩ := rep_loc.mp h; rfl
  | kl xs => obtain ⟨a, vs, rfl, _⟩ := rep_kl.mp h; rfl
theorem v_isN : R2V X isN (fun x y H Q => y = .non ∧ Q (.bl (decide (x = .non))) H) := by
  intro W r st H x y x' y' Q S rx ry P
  unfold isN at P
  split at P
  · rename_i hy
    rw [rep_isNon rx]
    exact ⟨of_decide_eq_true ((rep_isNon ry).trans hy), P.val S (rep_bl.mpr rfl)⟩
  · exact P.elim
theorem v_notN : R2V X notN (fun x y H Q => y = .non ∧ Q (.bl (!decide (x = .non))) H) := by
  intro W r st H x y x' y' Q S rx ry P
  unfold notN at P
  split at P
  · rename_i hy
    rw [rep_isNon rx]
    exact ⟨of_decide_eq_true ((rep_isNon ry).trans hy), P.val S (rep_bl.mpr rfl)⟩
  · exact P.elim
end

/-! ### data as a whole -/
mutual
def D0 (f : Nat → Option PyData) : PV → Option PyData
  | .non => some .none
  | .bl b => some (.bool b)
  | .int i => some (.int i)
  | .str x => some (.str x)
  | .tup xs => match D0L f xs with
    | some ds => some (.tuple ds)
    | none => none
  | .loc n => f n
  | .kl xs => match D0L f xs with
    | some ds => some (.list ds)
    | none => none
def D0L (f : Nat → Option PyData) : List PV → Option (List PyData)
  | [] => some []
  | x :: xs => match D0 f x, D0L f xs with
    | some d, some ds => some (d :: ds)
    | _, _ => none
end
def flS (st : Store) : Nat → Nat → Option PyData
  | 0, _ => none
  | k + 1, n => match getL n st with
    | some xs => match D0L (flS st k) xs with
      | some ds => some (.list ds)
      | none => none
    | none => none
def toD (st : Store) (x : PV) : Option PyData := D0 (flS st 4) x
section
variable {K : PySem.W.Frag} {ww : World} {r : List Addr} {H : Hp} {st : Store}
mutual
theorem dp_D0 {f : Nat → Option PyData} (hf : ∀ n d v, f n = some d → Rep K r H (.loc n) v → Dp K H v d) : ∀ (x : PV) (d : PyData) (v : V), D0 f x = some d → Rep K r H x v → Dp K H v d
  | .non, d, v, h, q => by simp only [D0] at h; cases h; rw [rep_non.mp q]; exact .non
  | .bl b, d, v, h, q => by simp only [D0] at h; cases h; rw [rep_bl.mp q]; exact .bl b
  | .int i, d, v, h, q => by simp only [D0] at h; cases h; rw [rep_int.mp q]; exact .int i
  | .str x, d, v, h, q => by simp only [D0] at h; cases h; rw [rep_str.mp q]; exact .str x
  | .tup xs, d, v, h, q => by
    simp only [D0] at h
    split at h
    · rename_i ds e
      cases h
      obtain ⟨a, vs, rfl, h1, h2⟩ := rep_tup.mp q
      exact .tup h1 (dp_D0L hf xs ds vs e h2)
    · cases h
  | .loc n, d, v, h, q => by simp only [D0] at h; exact hf n d v h q
  | .kl xs, d, v, h, q => by
    simp only [D0] at h
    split at h
    · rename_i ds e
      cases h
      obtain ⟨a, vs, rfl, h1, h2⟩ := rep_kl.mp q
      exact .lst h1.sq (dp_D0L hf xs ds vs e h2)
    · cases h
theorem dp_D0L {f : Nat → Option PyData} (hf : ∀ n d v, f n = some d → Rep K r H (.loc n) v → Dp K H v d) : ∀ (xs : List PV) (ds : List PyData) (vs : List V), D0L f xs = some ds → RepL K r H xs vs → DpAll K H vs ds
  | [], ds, vs, h, q => by
    simp only [D0L] at h; cases h
    simp only [RepL] at q; subst q
    exact .nil
  | x :: xs, ds, vs, h, q => by
    simp only [D0L] at h
    split at h
    · rename_i d ds' e1 e2
      cases h
      simp only [RepL] at q
      obtain ⟨v, ws, rfl, q1, q2⟩ := q
      exact .cons (dp_D0 hf x d v e1 q1) (dp_D0L hf xs ds' ws e2 q2)
    · cases h
end
theorem dp_flS (S : Sim K ww r st H) : ∀ (k n : Nat) (d : PyData) (v : V), flS st k n = some d → Rep K r H (.loc n) v → Dp K H v d
  | 0, n, d, v, h, q => by simp [flS] at h
  | k + 1, n, d, v, h, q => by
    unfold flS at h
    split at h
    · rename_i xs e
      split at h
      · rename_i ds e2
        cases h
        obtain ⟨a, rfl, h1⟩ := rep_loc.mp q
        obtain ⟨b, vs, h2, h3, h4⟩ := S.getL e
        rw [h1] at h2; cases h2
        exact .lst h3 (dp_D0L (dp_flS S k) xs ds vs e2 h4)
      · cases h
    · cases h
theorem dp_toD (S : Sim K ww r st H) {x : PV} {d : PyData} {v : V} (h : toD st x = some d) (q : Rep K r H x v) : Dp K H v d := dp_D0 (dp_flS S 4) x d v h q
end
def eqP (neg : Bool) (x y : PV) : M PV := fun st => match toD st x, toD st y with
  | some d, some e => if SeqAt.shaped d = true ∧ SeqAt.shaped e = true then .ok (.bl (if neg then !PyData.eqv d e else PyData.eqv d e)) st else .bad
  | _, _ => .bad
/-- x in a list -/
def inP (neg : Bool) (x y : PV) : M PV := fun st => match toD st x, toD st y with
  | some d, some (.list ds) => if SeqAt.shaped d = true ∧ SeqAt.shaped (.list ds) = true then .ok (.bl (if neg then !(ds.any fun z => PyData.eqv z d) else ds.any fun z => PyData.eqv z d)) st else .bad
  | _, _ => .bad
section
variable {X : Cx}
theorem v_eq : R2V X (eqP false) (rEqD X.K) := by
  intro W r st H x y x' y' Q S rx ry P
  unfold eqP at P
  split at P
  · rename_i d e h1 h2
    split at P
    · rename_i hs
      exact ⟨d, e, dp_toD S h1 rx, dp_toD S h2 ry, hs.1, hs.2, P.val S (rep_bl.mpr rfl)⟩
    · exact P.elim
  · exact P.elim
theorem v_ne : R2V X (eqP true) (rNeD X.K) := by
  intro W r st H x y x' y' Q S rx ry P
  unfold eqP at P
  split at P
  · rename_i d e h1 h2
    split at P
    · rename_i hs
      exact ⟨d, e, dp_toD S h1 rx, dp_toD S h2 ry, hs.1, hs.2, P.val S (rep_bl.mpr rfl)⟩
    · exact P.elim
  · exact P.elim
theorem v_in : R2V X (inP false) (rInD X.K) := by
  intro W r st H x y x' y' Q S rx ry P
  unfold inP at P
  split at P
  · rename_i d ds h1 h2
    split at P
    · rename_i hs
      exact ⟨d, ds, dp_toD S h1 rx, dp_toD S h2 ry, hs.1, hs.2, P.val S (rep_bl.mpr rfl)⟩
    · exact P.elim
  · exact P.elim
theorem v_notIn : R2V X (inP true) (rNotInD X.K) := by
  intro W r st H x y x' y' Q S rx ry P
  unfold inP at P
  split at P
  · rename_i d ds h1 h2
    split at P
    · rename_i hs
      exact ⟨d, ds, dp_toD S h1 rx, dp_toD S h2 ry, hs.1, hs.2, P.val S (rep_bl.mpr rfl)⟩
    · exact P.elim
  · exact P.elim
end
end Mi
namespace Mi
open PySem PySem.Spec PyProof.Rows L2
/-! ### argument lists, displays -/
def aNil : Ev → M (List PV) := fun _ => ret []
def aCons (f : Ev → M PV) (g : Ev → M (List PV)) : Ev → M (List PV) := fun env => bnd (f env) fun x => bnd (g env) fun xs => ret (x :: xs)
def tupV (xs : List PV) : M PV := if xs.length ≤ sizeTop then ret (.tup xs) else bad
def lstV (xs : List PV) : M PV := if xs.length ≤ sizeTop then newC (.lst xs) else bad
def xA (o : List PV → M PV) (f : Ev → M (List PV)) : Ev → M PV := fun env => bnd (f env) o
section
variable {X : Cx} {e : Expr} {es : List Expr} {f : Ev → M PV} {g : Ev → M (List PV)} {pos : Pos}
theorem ra_nil : RA X [] aNil := fun W tk r st s H env Q E S P => w_pa pa_nil (Post.now P S [] (by simp only [RepL]))
theorem repL_cons {K : PySem.W.Frag} {r : List Addr} {H : Hp} {x : PV} {v : V} {xs : List PV} {vs : List V} (h : Rep K r H x v) (g : RepL K r H xs vs) : RepL K r H (x :: xs) (v :: vs) := by simp only [RepL]; exact ⟨v, vs, rfl, h, g⟩
theorem ra_cons (ha : RE X e f) (hr : RA X es g) (hs : starEach (e :: es) X.env = (false, eval e X.env) :: starEach es X.env := by rfl) : RA X (e :: es) (aCons f g) := by
  intro W tk r st s H env Q E S P
  refine w_pa (pa_cons pe_w pa_w hs) ?_
  refine ha.seq tk E S P fun r1 st1 H1 x x' e1 E1 S1 rx P1 => hr.seq tk E1 S1 P1 fun r2 st2 H2 xs xs' e2 E2 S2 rxs P2 => ?_
  exact Post.now P2 S2 _ (repL_cons (e2.rep S1 rx) rxs)
theorem re_tup {x1} (h : RA X es g) : RE X (.Tuple es x1 pos) (xA tupV g) := by
  intro W tk r st s H env Q E S P
  refine w_pe (pe_tup pa_w) ?_
  refine h.seq tk E S P fun r1 st1 H1 xs xs' e1 E1 S1 rx P1 => ?_
  unfold tupV at P1
  split at P1
  · rename_i hz
    exact ⟨by rw [← rx.length, ← sizeTop_eq]; exact hz, fun p hp => P1.newT S1 hp rx⟩
  · exact P1.elim
theorem re_lst (h : RA X es g) : RE X (.List es pos) (xA lstV g) := by
  intro W tk r st s H env Q E S P
  refine w_pe (pe_lst pa_w) ?_
  refine h.seq tk E S P fun r1 st1 H1 xs xs' e1 E1 S1 rx P1 => ?_
  unfold lstV at P1
  split at P1
  · rename_i hz
    exact ⟨by rw [← rx.length, ← sizeTop_eq]; exact hz, fun p hp => P1.newL S1 hp rx⟩
  · exact P1.elim
end
/-! ### dicts, by keys -/
def getP {κ : Type} [DecidableEq κ] (kvs : List (κ × PV)) (k : κ) : Option PV := (kvs.find? fun kv => decide (kv.1 = k)).map (·.2)
def putP {κ : Type} [DecidableEq κ] (kvs : List (κ × PV)) (k : κ) (v : PV) : List (κ × PV) :=
  if (kvs.any fun kv => decide (kv.1 = k)) = true then kvs.map fun kv => if kv.1 = k then (kv.1, v) else kv else kvs ++ [(k, v)]
section
variable {K : PySem.W.Frag} {ww : World} {r : List Addr} {H : Hp} {κ : Type} [DecidableEq κ]
theorem RepD.length : ∀ {xs : List (κ × PV)} {ws : List (κ × V)}, RepD K r H xs ws → xs.length = ws.length
  | [], ws, h => by simp only [RepD] at h; subst h; rfl
  | (k, x) :: xs, ws, h => by simp only [RepD] at h; obtain ⟨v, ws', rfl, _, h⟩ := h; simp [RepD.length h]
theorem RepD.get : ∀ {xs : List (κ × PV)} {ws : List (κ × V)} (k : κ), RepD K r H xs ws → (∀ x, getP xs k = some x → ∃ v, valV ws k = some v ∧ Rep K r H x v) ∧ (getP xs k = none → valV ws k = none)
  | [], ws, k, h => by simp only [RepD] at h; subst h; exact ⟨fun x e => by simp [getP] at e, fun _ => rfl⟩
  | (j, y) :: xs, ws, k, h => by
    simp only [RepD] at h
    obtain ⟨v, ws', rfl, h1, h⟩ := h
    have ih := RepD.get k h
    by_cases e : j = k
    · subst e
      refine ⟨fun x q => ?_, fun q => ?_⟩
      · simp [getP] at q; subst q; exact ⟨v, valV_pos rfl, h1⟩
      · simp [getP] at q
    · have q1 : getP ((j, y) :: xs) k = getP xs k := by simp [getP, List.find?_cons, e]
      have q2 : valV ((j, v) :: ws') k = valV ws' k := valV_neg e
      rw [q1, q2]
      exact ih
theorem RepD.any : ∀ {xs : List (κ × PV)} {ws : List (κ × V)} (k : κ), RepD K r H xs ws → (xs.any fun kv => decide (kv.1 = k)) = ws.any fun kv => decide (kv.1 = k)
  | [], ws, k, h => by simp only [RepD] at h; subst h; rfl
  | (j, y) :: xs, ws, k, h => by
    simp only [RepD] at h
    obtain ⟨v, ws', rfl, h1, h⟩ := h
    simp [RepD.any k h]
theorem RepD.repl : ∀ {xs : List (κ × PV)} {ws : List (κ × V)} (k : κ) {y : PV} {u : V}, RepD K r H xs ws → Rep K r H y u →
    RepD K r H (xs.map fun kv => if kv.1 = k then (kv.1, y) else kv) (ws.map fun kv => if kv.1 = k then (kv.1, u) else kv)
  | [], ws, k, y, u, h, q => by simp only [RepD] at h; subst h; simp [RepD]
  | (j, z) :: xs, ws, k, y, u, h, q => by
    simp only [RepD] at h
    obtain ⟨v, ws', rfl, h1, h⟩ := h
    have ih := RepD.repl k h q
    by_cases e : j = k
    · simp only [List.map_cons, if_pos e, RepD]; exact ⟨u, _, rfl, q, ih⟩
    · simp only [List.map_cons, if_neg e, RepD]; exact ⟨v, _, rfl, h1, ih⟩
theorem RepD.snoc : ∀ {xs : List (κ × PV)} {ws : List (κ × V)} (k : κ) {y : PV} {u : V}, RepD K r H xs ws → Rep K r H y u → RepD K r H (xs ++ [(k, y)]) (ws ++ [(k, u)])
  | [], ws, k, y, u, h, q => by simp only [RepD] at h; subst h; simp only [List.nil_append, RepD]; exact ⟨u, [], rfl, q, rfl⟩
  | (j, z) :: xs, ws, k, y, u, h, q => by
    simp only [RepD] at h
    obtain ⟨v, ws', rfl, h1, h⟩ := h
    simp only [List.cons_append, RepD]
    exact ⟨v, _, rfl, h1, RepD.snoc k h q⟩
theorem RepD.put {xs : List (κ × PV)} {ws : List (κ × V)} (k : κ) {y : PV} {u : V} (h : RepD K r H xs ws) (q : Rep K r H y u) : RepD K r H (putP xs k y) (putK ws k u) := by
  unfold putP putK
  rw [h.any k]
  split
  · exact h.repl k q
  · exact h.snoc k q
theorem rep_keyK {x : PV} {v : V} {k : Key} (e : keyK x = some k) (h : Rep K r H x v) : v = kV k := by
  unfold keyK at e
  split at e
  · cases e; exact rep_int.mp h
  · cases e; exact rep_str.mp h
  · cases e
theorem rep_keysT : ∀ {xs : List PV} {vs : List V} {ks : List Key}, keysT xs = some ks → RepL K r H xs vs → vs = ks.map kV
  | [], vs, ks, e, h => by simp only [keysT] at e; cases e; simp only [RepL] at h; subst h; rfl
  | x :: xs, vs, ks, e, h => by
    simp only [keysT] at e
    split at e
    · rename_i k ks' e1 e2
      cases e
      simp only [RepL] at h
      obtain ⟨v, ws, rfl, h1, h2⟩ := h
      rw [rep_keyK e1 h1, rep_keysT e2 h2]
      rfl
    · cases e
end
/-- what a dict with int and text keys holds -/
def getD (n : Nat) (k : PV) : Store → Option (Option PV) := fun st => match st[n]?, keyK k with
  | some (.dk kvs), some j => some (getP kvs j)
  | _, _ => none
section
variable {K : PySem.W.Frag} {ww : World} {r : List Addr} {H : Hp} {st : Store}
theorem Sim.getD (S : Sim K ww r st H) {n : Nat} {k : PV} {k' : V} {o : Option PV} (rk : Rep K r H k k') (h : getD n k st = some o) :
    ∃ b o', r[n]? = some b ∧ IsD H b ∧ DGet H b k' o' ∧ (∀ x, o = some x → ∃ v, o' = some v ∧ Rep K r H x v) ∧ (o = none → o' = none) := by
  unfold Mi.getD at h
  split at h
  · rename_i kvs j e1 e2
    cases h
    obtain ⟨b, h1, ws, h2, h3⟩ := S.get e1
    rw [rep_keyK e2 rk]
    exact ⟨b, _, h1, .inl ⟨ws, .inl h2⟩, DGet.k h2, (h3.get j).1, (h3.get j).2⟩
  · cases h
end
end Mi
namespace Mi
open PySem PySem.Spec PyProof.Rows L2
/-! ### items, slices -/
def optV (o : Option PV) : M PV := match o with
  | some v => ret v
  | none => bad
def ixV : PV → PV → M PV
  | .tup xs, .int i => optV (atI xs i)
  | .loc n, k => fun st => match getL n st, k with
    | some xs, .int i => optV (atI xs i) st
    | some _, _ => .bad
    | none, k => match Mi.getD n k st with
      | some (some v) => .ok v st
      | _ => .bad
  | _, _ => bad
def rIxD : R2 := fun x y H Q => ∃ a v, x = .ref a ∧ DGet H a y (some v) ∧ Q v H
section
variable {X : Cx}
theorem ix_dict (hu : X.A.units + 1 < cLine) : IxR X rIxD := by
  intro value slice pins s σ H x y v u Q I rx ry h hs
  obtain ⟨a, w, rfl, g, q⟩ := h
  obtain rfl : v = Value.ref a := rx
  exact tail_any (dict_typeIs I g) PySem.F.slot_dict_getitem.lookup (d_getItem hu I g ry fun w' s3 I3 rw' => ⟨w, H, I3, rw', q⟩) hs
theorem RepL.atI {K : PySem.W.Frag} {r : List Addr} {H : Hp} {xs : List PV} {vs : List V} {i : Int} {x : PV} (h : RepL K r H xs vs) (e : atI xs i = some x) : ∃ v, L2.atI vs i = some v ∧ Rep K r H x v := by
  unfold L2.atI at e ⊢
  rw [← h.length]
  cases hj : ixN xs.length i with
  | none => rw [hj] at e; cases e
  | some j => rw [hj] at e; exact h.get e
theorem Post.opt {W : WX} {r : List Addr} {H : Hp} {st : Store} {o : Option PV} {Q : VK} (P : Post X W (okV X Q) r H (optV o st)) : ∃ v, o = some v ∧ Post X W (okV X Q) r H (.ok v st) := by
  cases o with
  | none => exact P.elim
  | some v => exact ⟨v, rfl, P⟩
theorem v_ix : R2V X ixV (fun x y H Q => rIxL X.K x y H Q ∨ rIxT X.K x y H Q ∨ rIxD x y H Q) := by
  intro W r st H x y x' y' Q S rx ry P
  unfold ixV at P
  split at P
  · rename_i xs i
    obtain ⟨v, e, P⟩ := Post.opt P
    obtain ⟨a, vs, rfl, h1, h2⟩ := rep_tup.mp rx
    obtain ⟨v', e', rv⟩ := h2.atI e
    exact .inr (.inl ⟨a, vs, i, v', rfl, rep_int.mp ry, h1, e', P.val S rv⟩)
  · rename_i n k
    obtain ⟨a, rfl, h1⟩ := rep_loc.mp rx
    split at P
    · rename_i xs i e1
      obtain ⟨v, e, P⟩ := Post.opt P
      obtain ⟨a', vs, h2, h3, h4⟩ := S.getL e1
      rw [h1] at h2; cases h2
      obtain ⟨v', e', rv⟩ := h4.atI e
      exact .inl ⟨a, vs, i, v', rfl, rep_int.mp ry, h3, e', P.val S rv⟩
    · exact P.elim
    · split at P
      · rename_i v e
        obtain ⟨b, o', h2, _, h3, h4, _⟩ := S.getD ry e
        rw [h1] at h2; cases h2
        obtain ⟨v', e', rv⟩ := h4 v rfl
        subst e'
        exact .inr (.inr ⟨a, v', rfl, h3, P.val S rv⟩)
      · exact P.elim
  · exact P.elim
variable {a b : Expr} {fa fb : Ev → M PV} {pos : Pos}
theorem re_ix (hu : X.A.units + 1 < cLine) (ha : RE X a fa) (hb : RE X b fb) (hs : PlainIx b := by intro _ _; rfl) : RE X (.Subscript a b pos) (x2 ixV fa fb) := by
  intro W tk r st s H env Q E S P
  refine w_pe (pe_ix (ix_list.or (ix_tup.or (ix_dict hu))) pe_w pe_w hs) ?_
  refine ha.seq tk E S P fun r1 st1 H1 x x' e1 E1 S1 rx P1 => hb.seq tk E1 S1 P1 fun r2 st2 H2 y y' e2 E2 S2 ry P2 => ?_
  exact v_ix W r2 st2 H2 x y x' y' Q S2 (e2.rep S1 rx) ry P2
/-! slices -/
def cutP (xs : List PV) (lo hi : Option Int) : List PV := (xs.drop (HT.sIx xs.length 0 lo)).take (HT.sIx xs.length xs.length hi - HT.sIx xs.length 0 lo)
theorem RepL.drop {K : PySem.W.Frag} {r : List Addr} {H : Hp} : ∀ {xs : List PV} {vs : List V} (n : Nat), RepL K r H xs vs → RepL K r H (xs.drop n) (vs.drop n)
  | xs, vs, 0, h => h
  | [], vs, n + 1, h => by simp only [RepL] at h; subst h; simp [RepL]
  | x :: xs, vs, n + 1, h => by
    simp only [RepL] at h
    obtain ⟨v, ws, rfl, _, h⟩ := h
    exact RepL.drop n h
theorem RepL.take {K : PySem.W.Frag} {r : List Addr} {H : Hp} : ∀ {xs : List PV} {vs : List V} (n : Nat), RepL K r H xs vs → RepL K r H (xs.take n) (vs.take n)
  | xs, vs, 0, h => by simp [RepL]
  | [], vs, n + 1, h => by simp only [RepL] at h; subst h; simp [RepL]
  | x :: xs, vs, n + 1, h => by
    simp only [RepL] at h
    obtain ⟨v, ws, rfl, h1, h⟩ := h
    simp only [List.take_succ_cons, RepL]
    exact ⟨v, _, rfl, h1, RepL.take n h⟩
theorem RepL.cut {K : PySem.W.Frag} {r : List Addr} {H : Hp} {xs : List PV} {vs : List V} {lo hi : Option Int} (h : RepL K r H xs vs) : RepL K r H (cutP xs lo hi) (cutV vs lo hi) := by
  unfold cutP cutV
  rw [h.length]
  exact (h.drop _).take _
/-- a part of a slice -/
def RO (X : Cx) (e : Option Expr) (f : Ev → M (Option Int)) : Prop := ∀ W, Takes X W → ∀ r st s H env (Q : Option Int → Hp → Prop), EnvR X.K r H env s → Sim X.K X.w r st H →
  Post X W (fun o _ _ H' => Q o H') r H (f env st) → ∀ pins sh, Inv X pins s H sh → wpAny (model X.prog X.w) X.A (evalPart e X.env) (fun u s' => ∃ o H', Inv X pins s H' s' ∧ IsPart u o ∧ Q o H') X.xe sh
def oNone : Ev → M (Option Int) := fun _ => ret none
def toI : PV → M (Option Int)
  | .int i => ret (some i)
  | _ => bad
def oSome (f : Ev → M PV) : Ev → M (Option Int) := fun env => bnd (f env) toI
theorem ro_none : RO X none oNone := fun W tk r st s H env Q E S P pins sh I => po_none.run pins sh s H Q I (Post.now P S)
theorem ro_some {e : Expr} {f : Ev → M PV} (h : RE X e f) : RO X (some e) (oSome f) := fun W tk r st s H env Q E S P pins sh I =>
  (po_some pe_w).run pins sh s H Q I (h.seq tk E S P fun r1 st1 H1 x x' e1 E1 S1 rx P1 => by
    cases x with
    | int i => exact ⟨i, rep_int.mp rx, Post.now P1 S1⟩
    | _ => exact P1.elim)
def sliceV (x : PV) (lo hi : Option Int) : M PV := match x with
  | .tup xs => ret (.tup (cutP xs lo hi))
  | .loc n => fun st => match getL n st with
    | some xs => newC (.lst (cutP xs lo hi)) st
    | none => .bad
  | _ => bad
def xSl (f : Ev → M PV) (g h : Ev → M (Option Int)) : Ev → M PV := fun env => bnd (f env) fun x => bnd (g env) fun lo => bnd (h env) fun hi => sliceV x lo hi
theorem re_slice {e : Expr} {lo hi : Option Expr} {f : Ev → M PV} {g h : Ev → M (Option Int)} {p2 : Pos} (he : RE X e f) (hl : RO X lo g) (hh : RO X hi h) : RE X (.Subscript e (.Slice lo hi none p2) pos) (xSl f g h) := by
  intro W tk r st s H env Q E S P
  have pl : ∀ (o : Option Expr), PO X o (fun s H Q => ∀ pins sh, Inv X pins s H sh → wpAny (model X.prog X.w) X.A (evalPart o X.env) (fun u s' => ∃ o H', Inv X pins s H' s' ∧ IsPart u o ∧ Q o H') X.xe sh) := fun o => ⟨fun pins sh s H Q I z => z pins sh I⟩
  refine w_pe (pe_slice (sl_list.or sl_tupA) pe_w (pl lo) (pl hi)) ?_
  refine he.seq tk E S P fun r1 st1 H1 x x' e1 E1 S1 rx P1 => ?_
  refine hl W tk r1 st1 s H1 env _ E1 S1 ((post_bnd P1).imp fun l st2 r2 H2 e2 S2 P2 => ?_)
  refine hh W tk r2 st2 s H2 env _ (E1.ext e2 S1) S2 ((post_bnd P2).imp fun u st3 r3 H3 e3 S3 P3 => ?_)
  have rx3 : Rep X.K r3 H3 x x' := e3.rep S2 (e2.rep S1 rx)
  unfold sliceV at P3
  split at P3
  · rename_i xs
    obtain ⟨a, vs, rfl, h1, h2⟩ := rep_tup.mp rx3
    refine .inr ⟨a, vs, rfl, h1, fun hw => ?_, fun _ p hp => P3.newT S3 hp h2.cut⟩
    have hc : cutP xs l u = xs := by
      unfold cutP
      rw [← h2.length] at hw
      rw [hw.1, hw.2]
      simp
    rw [hc] at P3
    exact P3.val S3 rx3
  · rename_i n
    split at P3
    · rename_i xs e
      obtain ⟨a, rfl, h1⟩ := rep_loc.mp rx3
      obtain ⟨a', vs, h2, h3, h4⟩ := S3.getL e
      rw [h1] at h2; cases h2
      exact .inl ⟨a, vs, rfl, h3, fun p hp => P3.newL S3 hp h4.cut⟩
    · exact P3.elim
  · exact P3.elim
end

/-! ### built-ins -/
def RCV (X : Cx) (o : List PV → M PV) (rr : List V → Hp → VK → Prop) : Prop := ∀ (W : WX) (r : List Addr) (st : Store) (H : Hp) (xs : List PV) (vs : List V) (Q : VK), Sim X.K X.w r st H → RepL X.K r H xs vs → Post X W (okV X Q) r H (o xs st) → rr vs H Q
section
variable {X : Cx} {x : Str} {p pos : Pos} {e : Expr} {es : List Expr} {g : Ev → M (List PV)} {id T : String} {rr : List V → Hp → VK → Prop} {o : List PV → M PV}
theorem re_callB (hc : CallR X (.builtin id) rr) (hv' : RCV X o rr) (hg : Gl X x) (hm : X.mg x = none) (hv : bootBuiltins x = some (.builtin id)) (ha : RA X (e :: es) g) (hn : x ≠ "__name__" := by decide) (hdb : (x == ("__debug__" : Str)) = false := by decide)
    (he : starEach (e :: es) X.env = (false, eval e X.env) :: starEach es X.env := by rfl) (hpl : (backTo pos (starEach es X.env)).any (·.1) = false := by rfl) : RE X (.Call (.Name x p) (e :: es) [] pos) (xA o g) := by
  intro W tk r st s H env Q E S P
  refine w_pe (pe_callB hc hg hm hv pa_w hn hdb he hpl) ?_
  exact ha.seq tk E S P fun r1 st1 H1 xs xs' e1 E1 S1 rx P1 => hv' W r1 st1 H1 xs xs' Q S1 rx P1
theorem re_callTy (hc : CallR X (.type T) rr) (hv' : RCV X o rr) (hg : Gl X x) (hm : X.mg x = none) (hv : bootBuiltins x = some (.type T)) (ha : RA X (e :: es) g) (hn : x ≠ "__name__" := by decide) (hdb : (x == ("__debug__" : Str)) = false := by decide)
    (he : starEach (e :: es) X.env = (false, eval e X.env) :: starEach es X.env := by rfl) (hpl : (backTo pos (starEach es X.env)).any (·.1) = false := by rfl) : RE X (.Call (.Name x p) (e :: es) [] pos) (xA o g) := by
  intro W tk r st s H env Q E S P
  refine w_pe (pe_callTy hc hg hm hv pa_w hn hdb he hpl) ?_
  exact ha.seq tk E S P fun r1 st1 H1 xs xs' e1 E1 S1 rx P1 => hv' W r1 st1 H1 xs xs' Q S1 rx P1
/-- a module's name for a built-in function (gcd) -/
theorem re_callM (hc : CallR X (.builtin id) rr) (hv' : RCV X o rr) (hg : Gl X x) (hm : X.mg x = some (.builtin id)) (ha : RA X (e :: es) g) (hdb : (x == ("__debug__" : Str)) = false := by decide)
    (he : starEach (e :: es) X.env = (false, eval e X.env) :: starEach es X.env := by rfl) (hpl : (backTo pos (starEach es X.env)).any (·.1) = false := by rfl) : RE X (.Call (.Name x p) (e :: es) [] pos) (xA o g) := by
  intro W tk r st s H env Q E S P
  refine w_pe (pe_callBfun hc hg hm pa_w hdb he hpl) ?_
  exact ha.seq tk E S P fun r1 st1 H1 xs xs' e1 E1 S1 rx P1 => hv' W r1 st1 H1 xs xs' Q S1 rx P1
end
def gcdV : List PV → M PV
  | [.int a, .int b] => ret (.int ((Nat.gcd a.natAbs b.natAbs : Nat) : Int))
  | _ => bad
def absV' : List PV → M PV
  | [.int i] => ret (.int (if i < 0 then -i else i))
  | _ => bad
def intV : List PV → M PV
  | [.int i] => ret (.int i)
  | [.bl b] => ret (.int (if b then 1 else 0))
  | _ => bad
def lenV : List PV → M PV
  | [.tup xs] => ret (.int xs.length)
  | [.kl xs] => ret (.int xs.length)
  | [.loc n] => fun st => match getL n st with
    | some xs => .ok (.int xs.length) st
    | none => .bad
  | _ => bad
def listV : List PV → M PV
  | [.tup xs] => newC (.lst xs)
  | [.kl xs] => newC (.lst xs)
  | [.loc n] => fun st => match getL n st with
    | some xs => newC (.lst xs) st
    | none => .bad
  | _ => bad
def tupleV : List PV → M PV
  | [.tup xs] => ret (.tup xs)
  | [.loc n] => fun st => match getL n st with
    | some xs => .ok (.tup xs) st
    | none => .bad
  | _ => bad
def blsOf : List PV → Option (List Bool)
  | [] => some []
  | .bl b :: xs => match blsOf xs with
    | some bs => some (b :: bs)
    | none => none
  | _ :: _ => none
def anyV : List PV → M PV
  | [.loc n] => fun st => match (getL n st).bind blsOf with
    | some bs => .ok (.bl (bs.any id)) st
    | none => .bad
  | _ => bad
def allV : List PV → M PV
  | [.loc n] => fun st => match (getL n st).bind blsOf with
    | some bs => .ok (.bl (bs.all id)) st
    | none => .bad
  | _ => bad
def min2V : List PV → M PV
  | [.int i, .int j] => ret (.int (if j < i then j else i))
  | _ => bad
def max2V : List PV → M PV
  | [.int i, .int j] => ret (.int (if j > i then j else i))
  | _ => bad
section
variable {X : Cx} {K : PySem.W.Frag} {ww : World} {r : List Addr} {H : Hp}
theorem repL1 {x : PV} {vs : List V} (h : RepL K r H [x] vs) : ∃ v, vs = [v] ∧ Rep K r H x v := by
  simp only [RepL] at h
  obtain ⟨v, ws, rfl, h1, rfl⟩ := h
  exact ⟨v, rfl, h1⟩
theorem repL2 {x y : PV} {vs : List V} (h : RepL K r H [x, y] vs) : ∃ v w, vs = [v, w] ∧ Rep K r H x v ∧ Rep K r H y w := by
  simp only [RepL] at h
  obtain ⟨v, ws, rfl, h1, w, us, rfl, h2, rfl⟩ := h
  exact ⟨v, w, rfl, h1, h2⟩
theorem blsOf_rep : ∀ {xs : List PV} {bs : List Bool} {vs : List V}, blsOf xs = some bs → RepL K r H xs vs → vs = bs.map V.bl
  | [], bs, vs, e, h => by simp only [blsOf] at e; cases e; simp only [RepL] at h; subst h; rfl
  | x :: xs, bs, vs, e, h => by
    cases x with
    | bl b =>
      simp only [blsOf] at e
      split at e
      · rename_i cs e1
        cases e
        simp only [RepL] at h
        obtain ⟨v, ws, rfl, h1, h2⟩ := h
        rw [rep_bl.mp h1, blsOf_rep e1 h2]
        rfl
      · cases e
    | _ => simp only [blsOf] at e; cases e
theorem c_gcd : RCV X gcdV rGcd := by
  intro W r st H xs vs Q S rx P
  unfold gcdV at P
  split at P
  · obtain ⟨v, w, rfl, h1, h2⟩ := repL2 rx
    rw [rep_int.mp h1, rep_int.mp h2]
    exact ⟨_, _, rfl, P.val S (rep_int.mpr rfl)⟩
  · exact P.elim
theorem c_abs : RCV X absV' (fun xs H Q => ∃ i, xs = [.int i] ∧ Q (.int (if i < 0 then -i else i)) H) := by
  intro W r st H xs vs Q S rx P
  unfold absV' at P
  split at P
  · obtain ⟨v, rfl, h1⟩ := repL1 rx
    rw [rep_int.mp h1]
    exact ⟨_, rfl, P.val S (rep_int.mpr rfl)⟩
  · exact P.elim
theorem c_int : RCV X intV (fun xs H Q => (∃ i, xs = [.int i] ∧ Q (.int i) H) ∨ ∃ k, xs = [.bl k] ∧ Q (.int (if k then 1 else 0)) H) := by
  intro W r st H xs vs Q S rx P
  unfold intV at P
  split at P
  · obtain ⟨v, rfl, h1⟩ := repL1 rx
    rw [rep_int.mp h1]
    exact .inl ⟨_, rfl, P.val S (rep_int.mpr rfl)⟩
  · obtain ⟨v, rfl, h1⟩ := repL1 rx
    rw [rep_bl.mp h1]
    exact .inr ⟨_, rfl, P.val S (rep_int.mpr rfl)⟩
  · exact P.elim
theorem c_len : RCV X lenV (fun xs H Q => ∃ p ys, xs = [.ref p] ∧ (SqL X.K H p ys ∨ SqT X.K H p ys) ∧ Q (.int ys.length) H) := by
  intro W r st H xs vs Q S rx P
  unfold lenV at P
  split at P
  · obtain ⟨v, rfl, h1⟩ := repL1 rx
    obtain ⟨a, ws, rfl, h2, h3⟩ := rep_tup.mp h1
    exact ⟨a, ws, rfl, .inr h2, by rw [← h3.length]; exact P.val S (rep_int.mpr rfl)⟩
  · obtain ⟨v, rfl, h1⟩ := repL1 rx
    obtain ⟨a, ws, rfl, h2, h3⟩ := rep_kl.mp h1
    exact ⟨a, ws, rfl, .inl h2.sq, by rw [← h3.length]; exact P.val S (rep_int.mpr rfl)⟩
  · obtain ⟨v, rfl, h1⟩ := repL1 rx
    obtain ⟨a, rfl, h2⟩ := rep_loc.mp h1
    split at P
    · rename_i ys e
      obtain ⟨b, ws, h3, h4, h5⟩ := S.getL e
      rw [h2] at h3; cases h3
      exact ⟨a, ws, rfl, .inl h4, by rw [← h5.length]; exact P.val S (rep_int.mpr rfl)⟩
    · exact P.elim
  · exact P.elim
theorem c_list : RCV X listV (fun xs H Q => ∃ p ys, xs = [.ref p] ∧ (SqL X.K H p ys ∨ SqT X.K H p ys) ∧ ∀ l, H l = none → Q (.ref l) (upd H l (.lst ys))) := by
  intro W r st H xs vs Q S rx P
  unfold listV at P
  split at P
  · obtain ⟨v, rfl, h1⟩ := repL1 rx
    obtain ⟨a, ws, rfl, h2, h3⟩ := rep_tup.mp h1
    exact ⟨a, ws, rfl, .inr h2, fun p hp => P.newL S hp h3⟩
  · obtain ⟨v, rfl, h1⟩ := repL1 rx
    obtain ⟨a, ws, rfl, h2, h3⟩ := rep_kl.mp h1
    exact ⟨a, ws, rfl, .inl h2.sq, fun p hp => P.newL S hp h3⟩
  · obtain ⟨v, rfl, h1⟩ := repL1 rx
    obtain ⟨a, rfl, h2⟩ := rep_loc.mp h1
    split at P
    · rename_i ys e
      obtain ⟨b, ws, h3, h4, h5⟩ := S.getL e
      rw [h2] at h3; cases h3
      exact ⟨a, ws, rfl, .inl h4, fun p hp => P.newL S hp h5⟩
    · exact P.elim
  · exact P.elim
theorem c_tuple : RCV X tupleV (fun xs H Q => ∃ p ys, xs = [.ref p] ∧ ((SqL X.K H p ys ∧ ∀ l, H l = none → Q (.ref l) (upd H l (.tup ys))) ∨ (SqT X.K H p ys ∧ Q (.ref p) H))) := by
  intro W r st H xs vs Q S rx P
  unfold tupleV at P
  split at P
  · obtain ⟨v, rfl, h1⟩ := repL1 rx
    obtain ⟨a, ws, rfl, h2, h3⟩ := rep_tup.mp h1
    exact ⟨a, ws, rfl, .inr ⟨h2, P.val S h1⟩⟩
  · obtain ⟨v, rfl, h1⟩ := repL1 rx
    obtain ⟨a, rfl, h2⟩ := rep_loc.mp h1
    split at P
    · rename_i ys e
      obtain ⟨b, ws, h3, h4, h5⟩ := S.getL e
      rw [h2] at h3; cases h3
      exact ⟨a, ws, rfl, .inl ⟨h4, fun p hp => P.newT S hp h5⟩⟩
    · exact P.elim
  · exact P.elim
theorem c_any : RCV X anyV (rAny X.K) := by
  intro W r st H xs vs Q S rx P
  unfold anyV at P
  split at P
  · obtain ⟨v, rfl, h1⟩ := repL1 rx
    obtain ⟨a, rfl, h2⟩ := rep_loc.mp h1
    split at P
    · rename_i bs e
      obtain ⟨ys, e1, e2⟩ := Option.bind_eq_some_iff.mp e
      obtain ⟨b, ws, h3, h4, h5⟩ := S.getL e1
      rw [h2] at h3; cases h3
      rw [blsOf_rep e2 h5] at h4
      exact ⟨a, bs, rfl, h4, P.val S (rep_bl.mpr rfl)⟩
    · exact P.elim
  · exact P.elim
theorem c_all : RCV X allV (rAll X.K) := by
  intro W r st H xs vs Q S rx P
  unfold allV at P
  split at P
  · obtain ⟨v, rfl, h1⟩ := repL1 rx
    obtain ⟨a, rfl, h2⟩ := rep_loc.mp h1
    split at P
    · rename_i bs e
      obtain ⟨ys, e1, e2⟩ := Option.bind_eq_some_iff.mp e
      obtain ⟨b, ws, h3, h4, h5⟩ := S.getL e1
      rw [h2] at h3; cases h3
      rw [blsOf_rep e2 h5] at h4
      exact ⟨a, bs, rfl, h4, P.val S (rep_bl.mpr rfl)⟩
    · exact P.elim
  · exact P.elim
theorem c_min2 : RCV X min2V (fun xs H Q => ∃ i j, xs = [.int i, .int j] ∧ Q (.int (if j < i then j else i)) H) := by
  intro W r st H xs vs Q S rx P
  unfold min2V at P
  split at P
  · obtain ⟨v, w, rfl, h1, h2⟩ := repL2 rx
    rw [rep_int.mp h1, rep_int.mp h2]
    exact ⟨_, _, rfl, P.val S (rep_int.mpr rfl)⟩
  · exact P.elim
theorem c_max2 : RCV X max2V (fun xs H Q => ∃ i j, xs = [.int i, .int j] ∧ Q (.int (if j > i then j else i)) H) := by
  intro W r st H xs vs Q S rx P
  unfold max2V at P
  split at P
  · obtain ⟨v, w, rfl, h1, h2⟩ := repL2 rx
    rw [rep_int.mp h1, rep_int.mp h2]
    exact ⟨_, _, rfl, P.val S (rep_int.mpr rfl)⟩
  · exact P.elim
end
end Mi
namespace Mi
open PySem PySem.Spec PyProof.Rows L2
/-! ### targets -/
def gSet (i : Nat) : PV → Ev → M Ev := fun v env => ret (env.set i (some v))
def tgNil : List PV → Ev → M Ev := fun vs env => match vs with
  | [] => ret env
  | _ => bad
def tgCons (g : PV → Ev → M Ev) (h : List PV → Ev → M Ev) : List PV → Ev → M Ev := fun vs env => match vs with
  | v :: vs => bnd (g v env) fun env => h vs env
  | [] => bad
def tgTup (n : Nat) (h : List PV → Ev → M Ev) : PV → Ev → M Ev := fun v env => match v with
  | .tup xs => if xs.length = n then h xs env else bad
  | _ => bad
def putV : PV → PV → PV → M PV
  | .loc n, k, v => fun st => match getM n st, k with
    | some xs, .int i => match ixN xs.length i with
      | some j => .ok .non (st.set n (.lst (xs.set j v)))
      | none => .bad
    | some _, _ => .bad
    | none, k => match st[n]?, keyK k with
      | some (.dk kvs), some j => if kvs.length < sizeTop then .ok .non (st.set n (.dk (putP kvs j v))) else .bad
      | _, _ => .bad
  | _, _, _ => bad
def tgSub (fo fi : Ev → M PV) : PV → Ev → M Ev := fun v env => bnd (fo env) fun o => bnd (fi env) fun i => bnd (putV o i v) fun _ => ret env
def RGs (X : Cx) (ts : List Expr) (T : List Nat) (f : List PV → Ev → M Ev) : Prop := ∀ W, Takes X W → ∀ r st s H env vs vs' (Q : L2.St → Hp → Prop), EnvR X.K r H env s → Sim X.K X.w r st H → RepL X.K r H vs vs' →
  Post X W (okG X T s Q) r H (f vs env st) →
  ∀ pins sh us, Inv X pins s H sh → Vals vs' us → wpAny (model X.prog X.w) X.A (assignInOrder ((assignEach ts X.env).map (·.2)) us) (fun _ s' => ∃ σ' H', Inv X pins σ' H' s' ∧ Q σ' H') X.xe sh
def WGs (X : Cx) (ts : List Expr) : TGs := fun vs s H Q => ∀ pins sh us, Inv X pins s H sh → Vals vs us → wpAny (model X.prog X.w) X.A (assignInOrder ((assignEach ts X.env).map (·.2)) us) (fun _ s' => ∃ σ' H', Inv X pins σ' H' s' ∧ Q σ' H') X.xe sh
section
variable {X : Cx} {pos : Pos}
theorem pgs_w {ts : List Expr} : PGs X ts (WGs X ts) := ⟨fun pins sh s H vs us Q I q h => h pins sh us I q⟩
theorem rg_name {i : Nat} {x : Str} (hN : X.N.Nodup) (hi : X.N[i]? = some x) (hx : Loc X.env.scope x) (hf : X.fn x = true ∨ X.env.scope.names.lookup x = some .local := by first | exact .inl rfl | exact .inr rfl | assumption) : RG X (.Name x pos) [i] (gSet i) := by
  intro W tk r st s H env v v' Q E S rv P
  refine w_pg (pg_name hN hi hx hf) ?_
  refine Post.now P S _ (E.set rv) ⟨by simp, fun j hj => ?_⟩
  rw [List.getElem?_set_ne fun z => hj (by simp [z])]
theorem rgs_nil : RGs X [] [] tgNil := by
  intro W tk r st s H env vs vs' Q E S rv P pins sh us I q
  cases vs with
  | nil =>
    simp only [RepL] at rv
    subst rv
    exact pgs_nil.run pins sh s H [] us Q I q ⟨rfl, Post.now P S _ E (But.refl _ _)⟩
  | cons v vs => exact P.elim
theorem rgs_cons {e : Expr} {es : List Expr} {g : PV → Ev → M Ev} {h : List PV → Ev → M Ev} {T U : List Nat} (h1 : RG X e T g) (h2 : RGs X es U h)
    (hs : (assignEach (e :: es) X.env).map (·.2) = assign e X.env :: (assignEach es X.env).map (·.2) := by rfl) : RGs X (e :: es) (T ++ U) (tgCons g h) := by
  intro W tk r st s H env vs vs' Q E S rv P pins sh us I q
  cases vs with
  | nil => exact P.elim
  | cons v vs =>
    simp only [RepL] at rv
    obtain ⟨v1, ws, rfl, r1, r2⟩ := rv
    refine (pgs_cons pg_w pgs_w hs).run pins sh s H _ us Q I q ⟨v1, ws, rfl, ?_⟩
    exact h1 W tk r st s H env v v1 _ E S r1 ((post_bnd P).imp fun env1 st1 r' H' e1 S1 P1 s1 E1 B1 pins1 sh1 us1 I1 q1 => h2 W tk r' st1 s1 H' env1 vs ws Q E1 S1 (e1.repL S r2) (P1.imp fun env2 st2 r2 H2 _ _ z s2 E2 B2 => z s2 E2 (B1.trans B2)) pins1 sh1 us1 I1 q1)
theorem rg_tup {es : List Expr} {k n : Nat} {h : List PV → Ev → M Ev} {T : List Nat} (hc : X.calm = true) (hg : RGs X es T h)
    (hn : (assignEach es X.env).length = n := by rfl) (hst : (assignEach es X.env).findIdx? (·.1) = none := by rfl) : RG X (.Tuple es k pos) T (tgTup n h) := by
  intro W tk r st s H env v v' Q E S rv P
  refine w_pg (pg_tup hc pgs_w hn hst) ?_
  unfold tgTup at P
  split at P
  · rename_i xs
    split at P
    · rename_i hz
      obtain ⟨a, vs, rfl, h1, h2⟩ := rep_tup.mp rv
      exact ⟨a, vs, rfl, h1, by rw [← h2.length]; exact hz, fun pins sh us I q => hg W tk r st s H env xs vs Q E S h2 P pins sh us I q⟩
    · exact P.elim
  · exact P.elim
/-- o[i] = v, by values -/
theorem v_put {W : WX} {r2 : List Addr} {st2 : Store} {H2 : Hp} {s : L2.St} {env : Ev} {x y v : PV} {x' y' v' : V} {Q : L2.St → Hp → Prop} (S2 : Sim X.K X.w r2 st2 H2) (E2 : EnvR X.K r2 H2 env s) (rx2 : Rep X.K r2 H2 x x') (ry : Rep X.K r2 H2 y y') (rv2 : Rep X.K r2 H2 v v')
    (P2 : Post X W (okG X [] s Q) r2 H2 (bnd (putV x y v) (fun _ => ret env) st2)) : rSetL x' y' v' H2 (fun H' => Q s H') ∨ rSetD x' y' v' H2 (fun H' => Q s H') := by
  unfold bnd at P2
  unfold putV at P2
  cases x with
  | loc n =>
    obtain ⟨a, rfl, h1⟩ := rep_loc.mp rx2
    dsimp only at P2
    split at P2
    · rename_i a1 st3 hq
      split at hq
      · rename_i xs j0 g1
        split at hq
        · rename_i j hj
          cases hq
          obtain ⟨a', vs, h2, h3, h4⟩ := S2.getM g1
          rw [h1] at h2; cases h2
          refine .inl ⟨a, vs, j0, j, rfl, rep_int.mp ry, h3, by rw [← h4.length]; exact hj, ?_⟩
          have hm : a ∈ r2 := List.mem_of_getElem? h1
          have ee : Ext r2 H2 r2 (upd H2 a (.lst (vs.set j v'))) := Ext.mut hm
          have hset : RepL X.K r2 H2 (xs.set j v) (vs.set j v') := by
            have gen : ∀ (xs : List PV) (vs : List V) (j : Nat), RepL X.K r2 H2 xs vs → RepL X.K r2 H2 (xs.set j v) (vs.set j v') := by
              intro xs
              induction xs with
              | nil => intro vs j h; simp only [RepL] at h; subst h; simp [RepL]
              | cons y ys ih =>
                intro vs j h
                simp only [RepL] at h
                obtain ⟨w, ws, rfl, q1, q2⟩ := h
                cases j with
                | zero => simp only [List.set_cons_zero, RepL]; exact ⟨_, _, rfl, rv2, q2⟩
                | succ j => simp only [List.set_cons_succ, RepL]; exact ⟨_, _, rfl, q1, ih ws j q2⟩
            exact gen xs vs j h4
          have S3 := S2.put (o := .lst (vs.set j v')) (c := .lst (xs.set j v)) h1 ⟨_, upd_same, ee.repL S2 hset⟩
          exact P2 r2 _ ee S3 s (E2.ext ee S2) (But.refl _ _)
        · cases hq
      · cases hq
      · split at hq
        · rename_i kvs j g1 g2
          split at hq
          · rename_i hz
            cases hq
            obtain ⟨b, h2, ws, h3, h4⟩ := S2.get g1
            rw [h1] at h2; cases h2
            rw [rep_keyK g2 ry]
            refine .inr ⟨a, _, rfl, DPut.k h3 (by rw [← h4.length, ← sizeTop_eq]; exact hz), ?_⟩
            have hm : a ∈ r2 := List.mem_of_getElem? h1
            have ee : Ext r2 H2 r2 (upd H2 a (.dK (putK ws j v'))) := Ext.mut hm
            have S3 := S2.put (o := .dK (putK ws j v')) (c := .dk (putP kvs j v)) h1 ⟨_, upd_same, (h4.put j rv2).ext ee S2⟩
            exact P2 r2 _ ee S3 s (E2.ext ee S2) (But.refl _ _)
          · cases hq
        · cases hq
    · rename_i hq
      split at hq
      · split at hq <;> cases hq
      · cases hq
      · split at hq
        · split at hq <;> cases hq
        · cases hq
    · exact P2.elim
  | _ => exact P2.elim

/-- the store, as it is read -/
def SubA (X : Cx) (o i : Expr) (pos : Pos) : Prop := ∀ v, assign (.Subscript o i pos) X.env v = (do let ov ← holding [v] (eval o X.env); let iv ← holding [v, ov] (eval i X.env); standAt pos; holding [v, ov, iv] (setItem ov iv v); release [v, ov, iv] [])
theorem rg_sub {o i : Expr} {fo fi : Ev → M PV} (hu : X.A.units + 1 < cLine) (ho : RE X o fo) (hi : RE X i fi) (ha : SubA X o i pos := by intro _; rfl) : RG X (.Subscript o i pos) [] (tgSub fo fi) := by
  intro W tk r st s H env v v' Q E S rv P
  have both : PSet X (fun o i v H Q => rSetL o i v H Q ∨ rSetD o i v H Q) := by
    intro pins s σ H o i v ov iv u Q I ro ri rv h
    rcases h with h | h
    · exact set_list pins s σ H o i v ov iv u Q I ro ri rv h
    · exact set_dict hu pins s σ H o i v ov iv u Q I ro ri rv h
  refine w_pg (pg_sub pe_w pe_w both ha) ?_
  refine ho.seq tk E S P fun r1 st1 H1 x x' e1 E1 S1 rx P1 => hi.seq tk E1 S1 P1 fun r2 st2 H2 y y' e2 E2 S2 ry P2 => ?_
  exact v_put S2 E2 (e2.rep S1 rx) ry (e2.rep S1 (e1.rep S rv)) P2
end

/-! ### statements -/
def sNop : Ev → M Flw := fun env => ret (.nx env)
def sBrk : Ev → M Flw := fun env => ret (.bk env)
def sCnt : Ev → M Flw := fun env => ret (.ct env)
def thenS (g : Ev → M Flw) : Flw → M Flw
  | .nx env => g env
  | fl => ret fl
def sSeq (f g : Ev → M Flw) : Ev → M Flw := fun env => bnd (f env) (thenS g)
def sEx (f : Ev → M PV) : Ev → M Flw := fun env => bnd (f env) fun _ => ret (.nx env)
def sRet (f : Ev → M PV) : Ev → M Flw := fun env => bnd (f env) fun v => ret (.rt v)
def sRetN : Ev → M Flw := fun _ => ret (.rt .non)
def sAsg (f : Ev → M PV) (g : PV → Ev → M Ev) : Ev → M Flw := fun env => bnd (f env) fun v => bnd (g v env) fun env1 => ret (.nx env1)
def sPar (i j : Nat) (f : Ev → M (List PV)) : Ev → M Flw := fun env => bnd (f env) fun vs => match vs with
  | [v, w] => ret (.nx ((env.set i (some v)).set j (some w)))
  | _ => bad
def sPar3 (i j l : Nat) (f : Ev → M (List PV)) : Ev → M Flw := fun env => bnd (f env) fun vs => match vs with
  | [u, v, w] => ret (.nx (((env.set i (some u)).set j (some v)).set l (some w)))
  | _ => bad
def sIf (c : Ev → M Bool) (f g : Ev → M Flw) : Ev → M Flw := fun env => bnd (c env) fun b => if b = true then f env else g env
def stepL (g : Ev → M Flw) : Flw → M Flw
  | .nx env => g env
  | .ct env => g env
  | .bk env => ret (.nx env)
  | .rt v => ret (.rt v)
def sWhile (c : Ev → M Bool) (f : Ev → M Flw) : Nat → Ev → M Flw
  | 0, _ => bad
  | k + 1, env => bnd (c env) fun b => if b = true then bnd (f env) (stepL (sWhile c f k)) else ret (.nx env)
section
variable {X : Cx} {pos : Pos} {e : Expr} {f : Ev → M PV} {t : Stmt} {ts : List Stmt} {g h : Ev → M Flw}
theorem rss_nil : RSs X [] sNop := fun W tk r st s H env D E S P => w_pss pss_nil (Post.now P S s E)
theorem rss_one (h1 : RS X t g) : RSs X [t] g := fun W tk r st s H env D E S P => w_pss (pss_one ps_w) (h1 W tk r st s H env D E S P)
theorem rss_cons (h1 : RS X t g) (h2 : RSs X ts h) : RSs X (t :: ts) (sSeq g h) := by
  intro W tk r st s H env D E S P
  refine w_pss (pss_cons ps_w pss_w) ?_
  refine h1 W tk r st s H env { D with nx := WSs X ts D } E S ((post_bnd P).imp fun fl st1 r1 H1 e1 S1 P1 => ?_)
  cases fl with
  | nx env1 => exact fun s1 E1 => h2 W tk r1 st1 s1 H1 env1 D E1 S1 P1
  | rt v => exact fun v' rv => Post.now (W := W) P1 S1 v' rv
  | bk env1 => exact fun s1 E1 => Post.now (W := W) P1 S1 s1 E1
  | ct env1 => exact fun s1 E1 => Post.now (W := W) P1 S1 s1 E1
theorem rs_pass : RS X (.Pass pos) sNop := fun W tk r st s H env D E S P => w_ps ps_pass (Post.now P S s E)
theorem rs_break : RS X (.Break pos) sBrk := fun W tk r st s H env D E S P => w_ps ps_break (Post.now P S s E)
theorem rs_continue : RS X (.Continue pos) sCnt := fun W tk r st s H env D E S P => w_ps ps_continue (Post.now P S s E)
theorem rs_expr (he : RE X e f) (hs : swapsWith e none pos.line X.env = pure false := by rfl) : RS X (.Expr e pos) (sEx f) := by
  intro W tk r st s H env D E S P
  refine w_ps (ps_expr pe_w hs) ?_
  exact he.seq tk E S P fun r1 st1 H1 x x' e1 E1 S1 rx P1 => Post.now P1 S1 s E1
theorem rs_ret (he : RE X e f) : RS X (.Return (some e) pos) (sRet f) := by
  intro W tk r st s H env D E S P
  refine w_ps (ps_ret pe_w) ?_
  exact he.seq tk E S P fun r1 st1 H1 x x' e1 E1 S1 rx P1 => Post.now P1 S1 x' rx
theorem rs_retN : RS X (.Return none pos) sRetN := fun W tk r st s H env D E S P => w_ps ps_retN (Post.now P S .non (rep_non.mpr rfl))
theorem rs_set {i : Nat} {x : Str} {pos' : Pos} (hN : X.N.Nodup) (hi : X.N[i]? = some x) (hx : Loc X.env.scope x) (he : RE X e f) (hs : swapsWith e (some (.Name x pos')) pos.line X.env = pure false := by rfl)
    (hf : X.fn x = true ∨ X.env.scope.names.lookup x = some .local := by first | exact .inl rfl | exact .inr rfl | assumption) : RS X (.Assign [.Name x pos'] e pos) (sAsg f (gSet i)) := by
  intro W tk r st s H env D E S P
  refine w_ps (ps_set hN hi hx pe_w hs hf) ?_
  exact he.seq tk E S P fun r1 st1 H1 x x' e1 E1 S1 rx P1 => Post.now P1 S1 _ (E1.set rx)
theorem rs_asg {tg : Expr} {T : List Nat} {tf : PV → Ev → M Ev} (he : RE X e f) (hg : RG X tg T tf) (hs : swapsWithSole [tg] e pos.line X.env = pure false := by rfl) (hw : swappedStores [tg] e X.env = pure none := by rfl)
    (h1 : (assignEach [tg] X.env).map (·.2) = [assign tg X.env] := by rfl) : RS X (.Assign [tg] e pos) (sAsg f tf) := by
  intro W tk r st s H env D E S P
  refine w_ps (ps_asg pe_w pg_w hs hw h1) ?_
  refine he.seq tk E S P fun r1 st1 H1 x x' e1 E1 S1 rx P1 => ?_
  exact hg W tk r1 st1 s H1 env x x' _ E1 S1 rx ((post_bnd P1).imp fun env1 st2 r2 H2 e2 S2 P2 s1 E3 _ => Post.now P2 S2 s1 E3)
theorem rs_par {i j : Nat} {x y : Str} {a b : Expr} {ga : Ev → M (List PV)} {px py pt : Pos} {kt k2 pt2} (hc : X.calm = true) (hN : X.N.Nodup) (hi : X.N[i]? = some x) (hj : X.N[j]? = some y) (hij : i ≠ j)
    (hx : X.env.scope.names.lookup x = some .local) (hy : X.env.scope.names.lookup y = some .local) (ha : RA X [a, b] ga)
    (hw : swappedStores [.Tuple [.Name x px, .Name y py] kt pt] (.Tuple [a, b] k2 pt2) X.env = pure (some [x, y]))
    (hs : swapsWithSole [.Tuple [.Name x px, .Name y py] kt pt] (.Tuple [a, b] k2 pt2) pos.line X.env = pure false := by rfl) :
    RS X (.Assign [.Tuple [.Name x px, .Name y py] kt pt] (.Tuple [a, b] k2 pt2) pos) (sPar i j ga) := by
  intro W tk r st s H env D E S P
  refine w_ps (ps_par hc hN hi hj hij hx hy pa_w hw hs) ?_
  refine ha.seq tk E S P fun r1 st1 H1 xs xs' e1 E1 S1 rx P1 => ?_
  split at P1
  · obtain ⟨v, w, rfl, q1, q2⟩ := repL2 rx
    exact ⟨v, w, rfl, Post.now P1 S1 _ ((E1.set q1).set q2)⟩
  · exact P1.elim
theorem rs_par3 {i j l : Nat} {x y z : Str} {a b c : Expr} {ga : Ev → M (List PV)} {px py pz pt : Pos} {kt k2 pt2} (hc : X.calm = true) (hN : X.N.Nodup) (hi : X.N[i]? = some x) (hj : X.N[j]? = some y) (hl : X.N[l]? = some z) (hij : i ≠ j) (hil : i ≠ l) (hjl : j ≠ l)
    (hx : X.env.scope.names.lookup x = some .local) (hy : X.env.scope.names.lookup y = some .local) (hz : X.env.scope.names.lookup z = some .local) (ha : RA X [a, b, c] ga)
    (hw : swappedStores [.Tuple [.Name x px, .Name y py, .Name z pz] kt pt] (.Tuple [a, b, c] k2 pt2) X.env = pure (some [x, y, z]))
    (hs : swapsWithSole [.Tuple [.Name x px, .Name y py, .Name z pz] kt pt] (.Tuple [a, b, c] k2 pt2) pos.line X.env = pure false := by rfl) :
    RS X (.Assign [.Tuple [.Name x px, .Name y py, .Name z pz] kt pt] (.Tuple [a, b, c] k2 pt2) pos) (sPar3 i j l ga) := by
  intro W tk r st s H env D E S P
  refine w_ps (ps_par3 hc hN hi hj hl hij hil hjl hx hy hz pa_w hw hs) ?_
  refine ha.seq tk E S P fun r1 st1 H1 xs xs' e1 E1 S1 rx P1 => ?_
  split at P1
  · simp only [RepL] at rx
    obtain ⟨u, ws, rfl, q1, v, us, rfl, q2, w, zs, rfl, q3, rfl⟩ := rx
    exact ⟨u, v, w, rfl, Post.now P1 S1 _ (((E1.set q1).set q2).set q3)⟩
  · exact P1.elim
theorem rs_if {c : Expr} {a b : List Stmt} {tc : Ev → M Bool} (hc : RT X c tc) (ha : RSs X a g) (hb : RSs X b h) : RS X (.If c a b pos) (sIf tc g h) := by
  intro W tk r st s H env D E S P
  refine w_ps (ps_if pt_w pss_w pss_w) ?_
  refine hc.seq tk E S P fun r1 st1 H1 b e1 E1 S1 P1 => ?_
  cases b with
  | true => exact iteT (ha W tk r1 st1 s H1 env D E1 S1 P1)
  | false => exact iteF (hb W tk r1 st1 s H1 env D E1 S1 P1)
theorem step_imp {W : WX} {D D' : Ends} {F : Ev → M Flw} {r : List Addr} {H : Hp} {res : Res Flw} (hnx : D'.nx = D'.ct) (hbk : D'.bk = D.nx) (hrt : D'.rt = D.rt)
    (hn : ∀ env st r1 H1 s1, Ext r H r1 H1 → EnvR X.K r1 H1 env s1 → Sim X.K X.w r1 st H1 → Post X W (okS X D) r1 H1 (F env st) → D'.nx s1 H1)
    (P : Post X W (fun fl st1 r1 H1 => Post X W (okS X D) r1 H1 (stepL F fl st1)) r H res) : Post X W (okS X D') r H res := by
  refine P.imp fun fl st1 r1 H1 e1 S1 P1 => ?_
  cases fl with
  | nx env1 => exact fun s1 E1 => hn env1 st1 r1 H1 s1 e1 E1 S1 P1
  | ct env1 => exact fun s1 E1 => by rw [← hnx]; exact hn env1 st1 r1 H1 s1 e1 E1 S1 P1
  | bk env1 => exact fun s1 E1 => by rw [hbk]; exact Post.now P1 S1 s1 E1
  | rt v => exact fun v' rv => by rw [hrt]; exact Post.now P1 S1 v' rv
theorem rs_while {c : Expr} {body : List Stmt} {tc : Ev → M Bool} {n : Nat} (hp : PassesOwn (model X.prog X.w) X.A X.env X.xe) (hc : RT X c tc) (hb : RSs X body g) : RS X (.While c body [] pos) (sWhile tc g n) := by
  intro W tk r st s H env D E S P
  refine w_ps (ps_while hp pt_w pss_w) ?_
  refine ⟨fun m s H => ∃ r st env, EnvR X.K r H env s ∧ Sim X.K X.w r st H ∧ Post X W (okS X D) r H (sWhile tc g m env st), ⟨n, r, st, env, E, S, P⟩, ?_⟩
  rintro m s H ⟨r, st, env, E, S, P⟩
  cases m with
  | zero => exact P.elim
  | succ k =>
    refine hc.seq tk E S (k := fun b => if b = true then bnd (g env) (stepL (sWhile tc g k)) else ret (.nx env)) P fun r1 st1 H1 b e1 E1 S1 P1 => ?_
    cases b with
    | false => exact iteF (Post.now P1 S1 s E1)
    | true =>
      refine iteT ⟨fun s H => ∃ r st env, EnvR X.K r H env s ∧ Sim X.K X.w r st H ∧ Post X W (okS X D) r H (sWhile tc g k env st), fun s' H' q => ⟨k, Nat.lt_succ_self k, q⟩, ?_⟩
      exact hb W tk r1 st1 s H1 env _ E1 S1 (step_imp (D := D) rfl rfl rfl (fun env st r1 H1 s1 _ E S P => ⟨r1, st, env, E, S, P⟩) (post_bnd P1))
end
end Mi
namespace Mi
open PySem PySem.Spec PyProof.Rows L2
/-! ### more of values and tests -/
def vAnd (fa fb : Ev → M PV) : Ev → M PV := fun env => bnd (asB fa env) fun x => if x = true then fb env else ret (.bl false)
def vOr (fa fb : Ev → M PV) : Ev → M PV := fun env => bnd (asB fa env) fun x => if x = true then ret (.bl true) else fb env
def vNot (fa : Ev → M PV) : Ev → M PV := fun env => bnd (asB fa env) fun x => ret (.bl (!x))
def vIf (c : Ev → M Bool) (fa fb : Ev → M PV) : Ev → M PV := fun env => bnd (c env) fun x => if x = true then fa env else fb env
def vChain (o o' : PV → PV → M PV) (fa fb fc : Ev → M PV) : Ev → M PV := fun env => bnd (fa env) fun x => bnd (fb env) fun y => bnd (o x y) fun z => bnd (toB z) fun k => if k = true then bnd (fc env) fun w => o' y w else ret (.bl false)
section
variable {X : Cx} {a b c : Expr} {fa fb fc : Ev → M PV} {tc : Ev → M Bool} {pos : Pos} {rest : List Expr}
theorem asB_seq {W : WX} {r : List Addr} {H : Hp} {st : Store} {s : L2.St} {env : Ev} {α : Type} {ok : α → Store → List Addr → Hp → Prop} (ha : RE X a fa) (tk : Takes X W) (E : EnvR X.K r H env s) (S : Sim X.K X.w r st H) {k : Bool → M α}
    (P : Post X W ok r H (bnd (asB fa env) k st)) {R : V → Hp → Prop}
    (hk : ∀ r1 st1 H1 b, Ext r H r1 H1 → EnvR X.K r1 H1 env s → Sim X.K X.w r1 st1 H1 → Post X W ok r1 H1 (k b st1) → R (.bl b) H1) : WE X a s H R := by
  have P' : Post X W ok r H (bnd (fa env) (fun x => bnd (toB x) k) st) := by
    have e : bnd (asB fa env) k st = bnd (fa env) (fun x => bnd (toB x) k) st := by
      unfold asB bnd
      cases fa env st <;> rfl
    rw [← e]; exact P
  refine ha.seq tk E S P' fun r1 st1 H1 x x' e1 E1 S1 rx P1 => ?_
  cases x with
  | bl b => rw [rep_bl.mp rx]; exact hk r1 st1 H1 b e1 E1 S1 P1
  | _ => exact P1.elim
theorem re_one {op : BoolOp} (ha : RE X a fa) : RE X (.BoolOp op [a] pos) fa := fun W tk r st s H env Q E S P => w_pe (pe_one pe_w) (ha W tk r st s H env Q E S P)
theorem re_and (ha : RE X a fa) (hb : RE X (.BoolOp .And (b :: rest) pos) fb) : RE X (.BoolOp .And (a :: b :: rest) pos) (vAnd fa fb) := by
  intro W tk r st s H env Q E S P
  refine w_pe (pe_and pe_w pe_w) ?_
  refine asB_seq ha tk E S P fun r1 st1 H1 x e1 E1 S1 P1 => ⟨x, rfl, ?_⟩
  cases x with
  | true => exact iteT (hb W tk r1 st1 s H1 env Q E1 S1 P1)
  | false => exact iteF (P1.val S1 (rep_bl.mpr rfl))
theorem re_or (ha : RE X a fa) (hb : RE X (.BoolOp .Or (b :: rest) pos) fb) : RE X (.BoolOp .Or (a :: b :: rest) pos) (vOr fa fb) := by
  intro W tk r st s H env Q E S P
  refine w_pe (pe_or pe_w pe_w) ?_
  refine asB_seq ha tk E S P fun r1 st1 H1 x e1 E1 S1 P1 => ⟨x, rfl, ?_⟩
  cases x with
  | true => exact iteT (P1.val S1 (rep_bl.mpr rfl))
  | false => exact iteF (hb W tk r1 st1 s H1 env Q E1 S1 P1)
theorem re_not (ha : RE X a fa) : RE X (.UnaryOp .Not a pos) (vNot fa) := by
  intro W tk r st s H env Q E S P
  refine w_pe (pe_not pe_w) ?_
  exact asB_seq ha tk E S P fun r1 st1 H1 x e1 E1 S1 P1 => ⟨x, rfl, P1.val S1 (rep_bl.mpr rfl)⟩
theorem re_ifx (hc : RT X c tc) (ha : RE X a fa) (hb : RE X b fb) : RE X (.IfExp c a b pos) (vIf tc fa fb) := by
  intro W tk r st s H env Q E S P
  refine w_pe (pe_ifExp pt_w pe_w pe_w) ?_
  refine hc.seq tk E S P fun r1 st1 H1 x e1 E1 S1 P1 => ?_
  cases x with
  | true => exact iteT (ha W tk r1 st1 s H1 env Q E1 S1 P1)
  | false => exact iteF (hb W tk r1 st1 s H1 env Q E1 S1 P1)
theorem re_chain {op op' : CmpOp} {o o' : PV → PV → M PV} {rr rr' : R2} (ho : OpR X (compareOp op) rr) (ho' : OpR X (compareOp op') rr') (hv : R2V X o rr) (hv' : R2V X o' rr') (ha : RE X a fa) (hb : RE X b fb) (hc : RE X c fc)
    (hm : lastMarks [op, op'] [b, c] = false := by with_unfolding_all rfl) : RE X (.Compare a [op, op'] [b, c] pos) (vChain o o' fa fb fc) := by
  intro W tk r st s H env Q E S P
  refine w_pe (pe_chain ho ho' pe_w pe_w pe_w hm) ?_
  refine ha.seq tk E S P fun r1 st1 H1 x x' e1 E1 S1 rx P1 => hb.seq tk E1 S1 P1 fun r2 st2 H2 y y' e2 E2 S2 ry P2 => ?_
  refine hv W r2 st2 H2 x y x' y' _ S2 (e2.rep S1 rx) ry ((post_bnd P2).imp fun z st3 r3 H3 e3 S3 P3 z' rz => ?_)
  cases z with
  | bl k =>
    refine ⟨k, rep_bl.mp rz, ?_⟩
    have P3' : Post X W (okV X Q) r3 H3 ((if k = true then bnd (fc env) fun w => o' y w else ret (.bl false)) st3) := P3
    cases k with
    | true =>
      refine ite_tt ?_
      rw [if_pos rfl] at P3'
      exact hc.seq tk (E2.ext e3 S2) S3 P3' fun r4 st4 H4 w w' e4 E4 S4 rw P4 => hv' W r4 st4 H4 y w y' w' Q S4 (e4.rep S3 (e3.rep S2 ry)) rw P4
    | false => exact ite_ff (P3'.val S3 (rep_bl.mpr rfl))
  | _ => exact P3.elim
end

section
variable {K : PySem.W.Frag} {ww : World} {r : List Addr} {H H' : Hp} {st : Store}
mutual
theorem Rep.more {q : List Addr} : ∀ {x : PV} {v : V}, Rep K r H x v → Rep K (r ++ q) H x v
  | .non, v, h => by simpa only [Rep] using h
  | .bl b, v, h => by simpa only [Rep] using h
  | .int i, v, h => by simpa only [Rep] using h
  | .str x, v, h => by simpa only [Rep] using h
  | .tup xs, v, h => by
    simp only [Rep] at h ⊢
    obtain ⟨a, vs, e1, e2, e3⟩ := h
    exact ⟨a, vs, e1, e2, RepL.more e3⟩
  | .loc n, v, h => by
    simp only [Rep] at h ⊢
    obtain ⟨a, e1, e2⟩ := h
    exact ⟨a, e1, by rw [List.getElem?_append_left (List.getElem?_eq_some_iff.mp e2).1]; exact e2⟩
  | .kl xs, v, h => by
    simp only [Rep] at h ⊢
    obtain ⟨a, vs, e1, e2, e3⟩ := h
    exact ⟨a, vs, e1, e2, RepL.more e3⟩
theorem RepL.more {q : List Addr} : ∀ {xs : List PV} {vs : List V}, RepL K r H xs vs → RepL K (r ++ q) H xs vs
  | [], vs, h => by simpa only [RepL] using h
  | x :: xs, vs, h => by
    simp only [RepL] at h ⊢
    obtain ⟨v, ws, e1, e2, e3⟩ := h
    exact ⟨v, ws, e1, Rep.more e2, RepL.more e3⟩
end
mutual
theorem Rep.lift (hT : ∀ b a vs, SqB K H b a vs → SqB K H' b a vs) : ∀ {x : PV} {v : V}, Rep K r H x v → Rep K r H' x v
  | .non, v, h => by simpa only [Rep] using h
  | .bl b, v, h => by simpa only [Rep] using h
  | .int i, v, h => by simpa only [Rep] using h
  | .str x, v, h => by simpa only [Rep] using h
  | .tup xs, v, h => by
    simp only [Rep] at h ⊢
    obtain ⟨a, vs, e1, e2, e3⟩ := h
    exact ⟨a, vs, e1, hT false _ _ e2, RepL.lift hT e3⟩
  | .loc n, v, h => by simpa only [Rep] using h
  | .kl xs, v, h => by
    simp only [Rep] at h ⊢
    obtain ⟨a, vs, e1, e2, e3⟩ := h
    exact ⟨a, vs, e1, hT true _ _ e2, RepL.lift hT e3⟩
theorem RepL.lift (hT : ∀ b a vs, SqB K H b a vs → SqB K H' b a vs) : ∀ {xs : List PV} {vs : List V}, RepL K r H xs vs → RepL K r H' xs vs
  | [], vs, h => by simpa only [RepL] using h
  | x :: xs, vs, h => by
    simp only [RepL] at h ⊢
    obtain ⟨v, ws, e1, e2, e3⟩ := h
    exact ⟨v, ws, e1, Rep.lift hT e2, RepL.lift hT e3⟩
end
end
/-- what a walk needs of later heaps: the places stay, tuples stay -/
def Ew (K : PySem.W.Frag) (r : List Addr) (H : Hp) (r' : List Addr) (H' : Hp) : Prop := (∃ q, r' = r ++ q) ∧ ∀ b a vs, SqB K H b a vs → SqB K H' b a vs
theorem Ext.ew {K : PySem.W.Frag} {ww : World} {r r' : List Addr} {H H' : Hp} {st : Store} (e : Ext r H r' H') (S : Sim K ww r st H) : Ew K r H r' H' := ⟨let ⟨q, h, _⟩ := e.pre; ⟨q, h⟩, e.sqB S⟩
theorem Ew.get {K : PySem.W.Frag} {r r1 : List Addr} {H H1 : Hp} (e : Ew K r H r1 H1) {i : Nat} {a : Addr} (h : r[i]? = some a) : r1[i]? = some a := by
  obtain ⟨⟨q, rfl⟩, _⟩ := e
  rw [List.getElem?_append_left (List.getElem?_eq_some_iff.mp h).1]
  exact h
theorem Ew.repL {K : PySem.W.Frag} {r r1 : List Addr} {H H1 : Hp} (e : Ew K r H r1 H1) {xs : List PV} {vs : List V} (h : RepL K r H xs vs) : RepL K r1 H1 xs vs := by
  obtain ⟨⟨q, rfl⟩, k⟩ := e
  exact (RepL.lift k h).more
theorem Ew.trans {K : PySem.W.Frag} {r r1 r2 : List Addr} {H H1 H2 : Hp} (e : Ew K r H r1 H1) (f : Ew K r1 H1 r2 H2) : Ew K r H r2 H2 := by
  obtain ⟨⟨q, rfl⟩, k⟩ := e
  obtain ⟨⟨q2, rfl⟩, k2⟩ := f
  exact ⟨⟨q ++ q2, by simp⟩, fun b a vs h => k2 b a vs (k b a vs h)⟩
theorem Ew.refl {K : PySem.W.Frag} (r : List Addr) (H : Hp) : Ew K r H r H := ⟨⟨[], by simp⟩, fun _ _ _ h => h⟩
/-! ### what is walked -/
inductive Itm where
  | stop | item (v : PV) | bad
abbrev Nx := Nat → Store → Itm
/-- from (r0, H0) on the walk's turns are the function's -/
def JOk (X : Cx) (r0 : List Addr) (H0 : Hp) (J : It) (nx : Nx) : Prop := ∀ i r st H, Ew X.K r0 H0 r H → Sim X.K X.w r st H → (nx i st = .stop → J.stop i H) ∧
  ∀ v, nx i st = .item v → J.go i H ∧ ∀ x H', J.yld i H x H' → Ext r H r H' ∧ Sim X.K X.w r st H' ∧ Rep X.K r H' v x
def okN (X : Cx) (R : It → Hp → Prop) : Nx → Store → List Addr → Hp → Prop := fun nx _ r' H' => ∀ J, JOk X r' H' J nx → R J H'
@[irreducible] def WI (X : Cx) (tg iter : Expr) : TI := fun s H R => ∀ pins sh, Inv X pins s H sh → wpAny (model X.prog X.w) X.A (eval iter X.env) (fun v s1 => wpAny (model X.prog X.w) X.A (pyIter v) (PIE X pins s tg R) X.xe s1) X.xe sh
def RI (X : Cx) (tg iter : Expr) (f : Ev → M Nx) : Prop := ∀ W, Takes X W → ∀ r st s H env (R : It → Hp → Prop), EnvR X.K r H env s → Sim X.K X.w r st H → Post X W (okN X R) r H (f env st) → WI X tg iter s H R
def nxT (xs : List PV) : Nx := fun i _ => match xs[i]? with
  | some v => .item v
  | none => .stop
def nxL (n : Nat) : Nx := fun i st => match getL n st with
  | some xs => match xs[i]? with
    | some v => .item v
    | none => .stop
  | none => .bad
def nxR (lo : Int) (n : Nat) : Nx := fun i _ => if i < n then .item (.int (lo + (i : Nat))) else .stop
def itV : PV → M Nx
  | .tup xs => ret (nxT xs)
  | .loc n => fun st => match getL n st with
    | some _ => .ok (nxL n) st
    | none => .bad
  | _ => bad
def xIt (f : Ev → M PV) : Ev → M Nx := fun env => bnd (f env) itV
def rng1 : List PV → M Nx
  | [.int j] => if -(2 ^ 62) ≤ j ∧ j < 2 ^ 62 then ret (nxR 0 j.toNat) else bad
  | _ => bad
def rng2 : List PV → M Nx
  | [.int i, .int j] => if (-(2 ^ 62) ≤ i ∧ i < 2 ^ 62) ∧ -(2 ^ 62) ≤ j ∧ j < 2 ^ 62 then ret (nxR i (j - i).toNat) else bad
  | _ => bad
def xRng (o : List PV → M Nx) (f : Ev → M (List PV)) : Ev → M Nx := fun env => bnd (f env) o
section
variable {X : Cx} {tg : Expr}
theorem pi_w {iter : Expr} : PI X tg iter (WI X tg iter) := ⟨fun pins sh s H R I h => by unfold WI at h; exact h pins sh I⟩
theorem w_pi {iter : Expr} {t : TI} {s : L2.St} {H : Hp} {R : It → Hp → Prop} (h : PI X tg iter t) (q : t s H R) : WI X tg iter s H R := by unfold WI; exact fun pins sh I => h.run pins sh s H R I q
theorem wi_run {iter : Expr} {s : L2.St} {H : Hp} {R : It → Hp → Prop} (h : WI X tg iter s H R) : ∀ pins sh, Inv X pins s H sh → wpAny (model X.prog X.w) X.A (eval iter X.env) (fun v s1 => wpAny (model X.prog X.w) X.A (pyIter v) (PIE X pins s tg R) X.xe s1) X.xe sh := by unfold WI at h; exact h
theorem jok_tup {r0 : List Addr} {H0 : Hp} {st0 : Store} {a : Addr} {xs : List PV} {vs : List V} (S0 : Sim X.K X.w r0 st0 H0) (h1 : SqT X.K H0 a vs) (h2 : RepL X.K r0 H0 xs vs) : JOk X r0 H0 (Itt X.K a) (nxT xs) := by
  intro i r st H e S
  have k1 : SqT X.K H a vs := e.2 false _ _ h1
  have k2 := e.repL h2
  refine ⟨fun q => ?_, fun v q => ?_⟩
  · unfold nxT at q
    split at q
    · cases q
    · rename_i q1
      exact ⟨vs, k1, by rw [← k2.length]; exact List.getElem?_eq_none_iff.mp q1⟩
  · unfold nxT at q
    split at q
    · rename_i v1 q1
      cases q
      obtain ⟨v', e1, e2⟩ := k2.get q1
      refine ⟨⟨vs, v', k1, e1⟩, fun x H' y => ?_⟩
      obtain ⟨rfl, y⟩ := y
      have e3 := y vs k1
      rw [e1] at e3; cases e3
      exact ⟨Ext.refl _ _, S, e2⟩
    · cases q
theorem jok_lst {r0 : List Addr} {H0 : Hp} {n : Nat} {a : Addr} (h1 : r0[n]? = some a) : JOk X r0 H0 (Itl X.K a) (nxL n) := by
  intro i r st H e S
  have h2 := e.get h1
  refine ⟨fun q => ?_, fun v q => ?_⟩
  · unfold nxL at q
    split at q
    · rename_i xs g
      split at q
      · cases q
      · rename_i q1
        obtain ⟨b, vs, q2, q3, q4⟩ := S.getL g
        rw [h2] at q2; cases q2
        exact ⟨vs, q3, by rw [← q4.length]; exact List.getElem?_eq_none_iff.mp q1⟩
    · cases q
  · unfold nxL at q
    split at q
    · rename_i xs g
      split at q
      · rename_i v1 q1
        cases q
        obtain ⟨b, vs, q2, q3, q4⟩ := S.getL g
        rw [h2] at q2; cases q2
        obtain ⟨v', e1, e2⟩ := q4.get q1
        refine ⟨⟨vs, v', q3, e1⟩, fun x H' y => ?_⟩
        obtain ⟨rfl, y⟩ := y
        have e3 := y vs q3
        rw [e1] at e3; cases e3
        exact ⟨Ext.refl _ _, S, e2⟩
      · cases q
    · cases q
theorem jok_rng {r0 : List Addr} {H0 : Hp} {lo : Int} {n : Nat} : JOk X r0 H0 (Itr lo n) (nxR lo n) := by
  intro i r st H e S
  unfold nxR
  refine ⟨fun q => ?_, fun v q => ?_⟩
  · split at q
    · cases q
    · rename_i h; exact Nat.le_of_not_lt h
  · split at q
    · rename_i h
      cases q
      refine ⟨h, fun x H' y => ?_⟩
      obtain ⟨rfl, rfl⟩ := y
      exact ⟨Ext.refl _ _, S, rep_int.mpr rfl⟩
    · cases q
theorem Post.itV {W : WX} {r : List Addr} {H : Hp} {st : Store} {x : PV} {v : V} {R : It → Hp → Prop} (S : Sim X.K X.w r st H) (rx : Rep X.K r H x v) (P : Post X W (okN X R) r H (itV x st)) :
    (∃ xs, x = .tup xs ∧ ∃ a, v = .ref a ∧ (∃ vs, SqT X.K H a vs) ∧ R (Itt X.K a) H) ∨ (∃ n, x = .loc n ∧ ∃ a, v = .ref a ∧ (∃ vs, SqL X.K H a vs) ∧ R (Itl X.K a) H) := by
  unfold Mi.itV at P
  split at P
  · rename_i xs
    obtain ⟨a, vs, rfl, h1, h2⟩ := rep_tup.mp rx
    exact .inl ⟨xs, rfl, a, rfl, ⟨vs, h1⟩, Post.now P S _ (jok_tup S h1 h2)⟩
  · rename_i n
    split at P
    · rename_i xs g
      obtain ⟨a, rfl, h1⟩ := rep_loc.mp rx
      obtain ⟨b, vs, h2, h3, h4⟩ := S.getL g
      rw [h1] at h2; cases h2
      exact .inr ⟨n, rfl, a, rfl, ⟨vs, h3⟩, Post.now P S _ (jok_lst h1)⟩
    · exact P.elim
  · exact P.elim
theorem ri_val {e : Expr} {f : Ev → M PV} (he : RE X e f) : RI X tg e (xIt f) := by
  intro W tk r st s H env R E S P
  cases h : f env st with
  | bad => unfold xIt bnd at P; rw [h] at P; exact P.elim
  | exc c f' v e1 st1 =>
    refine w_pi (pi_tup pe_w) ?_
    refine he W tk r st s H env _ E S ?_
    unfold xIt bnd at P
    rw [h] at P ⊢
    exact P
  | ok x st1 =>
    have hP := post_bndE P
    cases x with
    | loc n =>
      refine w_pi (pi_list pe_w) ?_
      refine he W tk r st s H env _ E S (hP.imp fun x1 st2 r1 H1 e1 S1 P1 v rv => ?_)
      rw [h] at P1
      obtain ⟨q, P1⟩ := P1
      cases q
      rcases Post.itV S1 rv P1 with ⟨xs, z, _⟩ | ⟨_, _, a, h1, h2, h3⟩
      · cases z
      · exact ⟨a, h1, h2, h3⟩
    | _ =>
      refine w_pi (pi_tup pe_w) ?_
      refine he W tk r st s H env _ E S (hP.imp fun x1 st2 r1 H1 e1 S1 P1 v rv => ?_)
      rw [h] at P1
      obtain ⟨q, P1⟩ := P1
      cases q
      rcases Post.itV S1 rv P1 with ⟨_, _, a, h1, h2, h3⟩ | ⟨n, z, _⟩
      · exact ⟨a, h1, h2, h3⟩
      · cases z
theorem ri_rng1 {a : Expr} {g : Ev → M (List PV)} {p pos : Pos} (hg : Gl X "range") (hm : X.mg "range" = none) (ha : RA X [a] g) (hs : starEach [a] X.env = [(false, eval a X.env)] := by rfl) : RI X tg (.Call (.Name "range" p) [a] [] pos) (xRng rng1 g) := by
  intro W tk r st s H env R E S P
  refine w_pi (pi_range1 hg hm pa_w hs) ?_
  refine ha.seq tk E S P fun r1 st1 H1 xs xs' e1 E1 S1 rx P1 => ?_
  unfold rng1 at P1
  split at P1
  · split at P1
    · rename_i hz
      obtain ⟨v, rfl, h1⟩ := repL1 rx
      rw [rep_int.mp h1]
      exact ⟨_, rfl, hz.1, hz.2, Post.now P1 S1 _ jok_rng⟩
    · exact P1.elim
  · exact P1.elim
theorem ri_rng2 {a b : Expr} {g : Ev → M (List PV)} {p pos : Pos} (hg : Gl X "range") (hm : X.mg "range" = none) (ha : RA X [a, b] g) (hs : starEach [a, b] X.env = [(false, eval a X.env), (false, eval b X.env)] := by rfl) (hs2 : starEach [b] X.env = [(false, eval b X.env)] := by rfl) :
    RI X tg (.Call (.Name "range" p) [a, b] [] pos) (xRng rng2 g) := by
  intro W tk r st s H env R E S P
  refine w_pi (pi_range2 hg hm pa_w hs hs2) ?_
  refine ha.seq tk E S P fun r1 st1 H1 xs xs' e1 E1 S1 rx P1 => ?_
  unfold rng2 at P1
  split at P1
  · split at P1
    · rename_i hz
      obtain ⟨v, w, rfl, h1, h2⟩ := repL2 rx
      rw [rep_int.mp h1, rep_int.mp h2]
      exact ⟨_, _, rfl, ⟨hz.1.1, hz.1.2, hz.2.1, hz.2.2⟩, Post.now P1 S1 _ jok_rng⟩
    · exact P1.elim
  · exact P1.elim
end
/-! ### for -/
def loopF (nx : Nx) (g : PV → Ev → M Ev) (body : Ev → M Flw) : Nat → Nat → Ev → M Flw
  | 0, _, _ => bad
  | k + 1, i, env => fun st => match nx i st with
    | .stop => .ok (.nx env) st
    | .item v => bnd (g v env) (fun e1 => bnd (body e1) (stepL (loopF nx g body k (i + 1)))) st
    | .bad => .bad
def sFor (n : Nat) (fi : Ev → M Nx) (g : PV → Ev → M Ev) (body : Ev → M Flw) : Ev → M Flw := fun env => bnd (fi env) fun nx => loopF nx g body n 0 env
section
variable {X : Cx} {pos : Pos}
theorem rs_for {tg iter : Expr} {body : List Stmt} {fi : Ev → M Nx} {T : List Nat} {g : PV → Ev → M Ev} {fb : Ev → M Flw} {n : Nat} (hp : PassesOwn (model X.prog X.w) X.A X.env X.xe) (hc : X.calm = true) (hi : RI X tg iter fi) (hg : RG X tg T g) (hb : RSs X body fb)
    (hs : ∀ x, foldedSetIterable iter X.env x = pure x := by intro _; rfl) : RS X (.For tg iter body [] pos) (sFor n fi g fb) := by
  intro W tk r st s H env D E S P
  refine w_ps (ps_for hp hc pi_w pg_w pss_w hs) ?_
  refine hi W tk r st s H env _ E S ((post_bnd P).imp fun nx st1 r1 H1 e1 S1 P1 J hJ => ?_)
  refine ⟨fun i m s H => ∃ r st env, Ext r1 H1 r H ∧ EnvR X.K r H env s ∧ Sim X.K X.w r st H ∧ Post X W (okS X D) r H (loopF nx g fb m i env st), ⟨n, r1, st1, env, Ext.refl _ _, E.ext e1 S, S1, P1⟩, ?_⟩
  rintro i m s H ⟨r, st, env, e, E, S, P⟩
  cases m with
  | zero => exact P.elim
  | succ k =>
    have hj := hJ i r st H (e.ew S1) S
    unfold loopF at P
    cases h : nx i st with
    | bad => rw [h] at P; exact P.elim
    | stop =>
      rw [h] at P
      exact .inl ⟨hj.1 h, Post.now P S s E⟩
    | item v =>
      rw [h] at P
      obtain ⟨hgo, hy⟩ := hj.2 v h
      refine .inr ⟨hgo, fun s H => ∃ r st env, Ext r1 H1 r H ∧ EnvR X.K r H env s ∧ Sim X.K X.w r st H ∧ Post X W (okS X D) r H (loopF nx g fb k (i + 1) env st), fun s' H' q => ⟨k, Nat.lt_succ_self k, q⟩, fun x H' y => ?_⟩
      obtain ⟨e2, S2, rv⟩ := hy x H' y
      refine hg W tk r st s H' env v x _ (E.ext e2 S) S2 rv ((post_bnd (Post.mono P e2 S2)).imp fun env1 st3 r3 H3 e3 S3 P3 s3 E3 _ => ?_)
      refine hb W tk r3 st3 s3 H3 env1 _ E3 S3 (step_imp (D := D) rfl rfl rfl (fun env st r4 H4 s4 e4 E4 S4 P4 => ⟨r4, st, env, ?_, E4, S4, P4⟩) (post_bnd P3))
      exact ((e.trans e2 S).trans e3 S2).trans e4 S3
end
end Mi
namespace Mi
open PySem PySem.Spec PyProof.Rows L2
/-! ### a new list, made item by item -/
def noX {α : Type} (m : M α) : M α := fun st => match m st with
  | .ok a st1 => .ok a st1
  | .exc _ _ _ _ _ => .bad
  | .bad => .bad
def wipeE (env : Ev) : List Nat → Ev
  | [] => env
  | v :: vs => (wipeE env vs).set v none
def compF (nx : Nx) (g : PV → Ev → M Ev) (c : Ev → M Bool) (e : Ev → M PV) : Nat → Nat → List PV → Ev → M PV
  | 0, _, _, _ => bad
  | k + 1, i, acc, env => fun st => match nx i st with
    | .stop => newC (.lst acc) st
    | .item v => bnd (noX (g v env)) (fun e1 => bnd (noX (c e1)) fun b => if b = true then bnd (noX (e e1)) (fun y => if acc.length < sizeTop then compF nx g c e k (i + 1) (acc ++ [y]) env else bad) else compF nx g c e k (i + 1) acc env) st
    | .bad => .bad
def xLc (n : Nat) (vs : List Nat) (fi : Ev → M Nx) (g : PV → Ev → M Ev) (c : Ev → M Bool) (e : Ev → M PV) : Ev → M PV := fun env => bnd (fi env) fun nx => compF nx g c e n 0 [] (wipeE env vs)
def bYes : Ev → M Bool := fun _ => ret true
section
variable {K : PySem.W.Frag} {ww : World} {r : List Addr} {H : Hp} {st : Store}
theorem wipeE_len (env : Ev) : ∀ vs : List Nat, (wipeE env vs).length = env.length
  | [] => rfl
  | v :: vs => by unfold wipeE; rw [List.length_set, wipeE_len env vs]
theorem EnvR.wipe {env : Ev} {s : L2.St} (h : EnvR K r H env s) : ∀ vs : List Nat, EnvR K r H (wipeE env vs) (L2.wipe s vs)
  | [] => h
  | v :: vs => by
    have ih := EnvR.wipe h vs
    unfold wipeE L2.wipe
    refine ⟨by rw [List.length_set, List.length_set]; exact ih.1, fun j y e => ?_⟩
    by_cases hj : v = j
    · subst hj
      by_cases hv : v < (wipeE env vs).length
      · rw [List.getElem?_set_self hv] at e; cases e
      · rw [List.getElem?_eq_none (by simpa using hv)] at e; cases e
    · rw [List.getElem?_set_ne hj] at e ⊢
      exact ih.2 j y e
theorem wipe_at {s : L2.St} {j : Nat} : ∀ {vs : List Nat}, j < s.length → (L2.wipe s vs)[j]? = if j ∈ vs then some none else s[j]?
  | [], _ => by simp [L2.wipe]
  | v :: vs, hl => by
    have ih := wipe_at (s := s) (j := j) (vs := vs) hl
    unfold L2.wipe
    by_cases hj : v = j
    · subst hj
      rw [List.getElem?_set_self (by rw [wipe_length]; exact hl)]
      simp
    · rw [List.getElem?_set_ne hj, ih]
      have : j ≠ v := fun z => hj z.symm
      simp [this]
/-- stores at wiped slots alone -/
theorem wipe_but {s s2 : L2.St} {T vs : List Nat} (hT : ∀ j ∈ T, j ∈ vs) (b : But T (L2.wipe s vs) s2) : L2.wipe s2 vs = L2.wipe s vs := by
  have hl : s2.length = s.length := b.1.trans (wipe_length s vs)
  apply List.ext_getElem?
  intro j
  by_cases hj : j < s.length
  · rw [wipe_at (by rw [hl]; exact hj), wipe_at hj]
    by_cases hm : j ∈ vs
    · simp [hm]
    · simp only [hm, if_false]
      have := b.2 j fun z => hm (hT j z)
      rw [this, wipe_at hj]
      simp [hm]
  · rw [List.getElem?_eq_none (by rw [wipe_length, hl]; omega), List.getElem?_eq_none (by rw [wipe_length]; omega)]
theorem RepD.more {κ : Type} {q : List Addr} : ∀ {xs : List (κ × PV)} {ws : List (κ × V)}, RepD K r H xs ws → RepD K (r ++ q) H xs ws
  | [], ws, h => by simpa only [RepD] using h
  | (k, x) :: xs, ws, h => by
    simp only [RepD] at h ⊢
    obtain ⟨v, ws', e1, e2, e3⟩ := h
    exact ⟨v, ws', e1, e2.more, RepD.more e3⟩
theorem PairT.more {q : List Addr} : ∀ {ps : List (List Key × PV)} {xs : List (List Key × Addr × Value)}, PairT K r H ps xs → PairT K (r ++ q) H ps xs
  | [], xs, h => by simpa only [PairT] using h
  | (k, x) :: ps, xs, h => by
    simp only [PairT] at h ⊢
    obtain ⟨b, u, v, ys, e1, e2, e3, e4, e5⟩ := h
    exact ⟨b, u, v, ys, e1, e2, e3, e4.more, PairT.more e5⟩
theorem CellR.more {q : List Addr} {a : Addr} {c : Cell} (h : CellR K ww r H a c) : CellR K ww (r ++ q) H a c := by
  cases c with
  | lst xs => obtain ⟨vs, e1, e2⟩ := h; exact ⟨vs, e1, e2.more⟩
  | dk kvs => obtain ⟨ws, e1, e2⟩ := h; exact ⟨ws, e1, e2.more⟩
  | dt kvs => obtain ⟨ws, e1, e2, e3⟩ := h; exact ⟨ws, e1, e2.more, e3⟩
  | tb q P => exact h
/-- an object that was tracked already becomes a place -/
theorem Sim.adopt {D : Addr} {c : Cell} (S : Sim K ww r st H) (hD : D ∉ r) (hc : CellR K ww r H D c) : Sim K ww (r ++ [D]) (st ++ [c]) H := by
  refine ⟨by simp [S.len], ?_, fun i c' b h1 h2 => ?_⟩
  · refine List.nodup_append.mpr ⟨S.nd, by simp, fun x hx y hy z => ?_⟩
    rw [List.mem_singleton.mp hy] at z
    exact hD (z ▸ hx)
  · by_cases hi : i < st.length
    · rw [List.getElem?_append_left hi] at h1
      rw [List.getElem?_append_left (by rw [S.len]; exact hi)] at h2
      exact (S.at_ i c' b h1 h2).more
    · rw [List.getElem?_append_right (by omega)] at h1
      rw [List.getElem?_append_right (by rw [S.len]; omega), S.len] at h2
      have h0 : i - st.length = 0 := by
        have := (List.getElem?_eq_some_iff.mp h1).1
        simp at this; omega
      rw [h0] at h1 h2
      cases h1; cases h2
      exact hc.more
end
section
variable {K : PySem.W.Frag} {ww : World} {r : List Addr} {H H' : Hp} {st : Store}
theorem RepD.lift {κ : Type} (hT : ∀ b a vs, SqB K H b a vs → SqB K H' b a vs) : ∀ {xs : List (κ × PV)} {ws : List (κ × V)}, RepD K r H xs ws → RepD K r H' xs ws
  | [], ws, h => by simpa only [RepD] using h
  | (k, x) :: xs, ws, h => by
    simp only [RepD] at h ⊢
    obtain ⟨v, ws', e1, e2, e3⟩ := h
    exact ⟨v, ws', e1, e2.lift hT, RepD.lift hT e3⟩
theorem PairT.lift (hT : ∀ b a vs, SqB K H b a vs → SqB K H' b a vs) : ∀ {ps : List (List Key × PV)} {xs : List (List Key × Addr × Value)}, PairT K r H ps xs → PairT K r H' ps xs
  | [], xs, h => by simpa only [PairT] using h
  | (k, x) :: ps, xs, h => by
    simp only [PairT] at h ⊢
    obtain ⟨b, u, v, ys, e1, e2, e3, e4, e5⟩ := h
    exact ⟨b, u, v, ys, e1, hT false _ _ e2, e3, e4.lift hT, PairT.lift hT e5⟩
theorem CellR.lift {a : Addr} {c : Cell} (hT : ∀ b a vs, SqB K H b a vs → SqB K H' b a vs) (hC : ∀ c q, H c = some (LamX.CodeO c q) → H' c = some (LamX.CodeO c q)) (ha : H' a = H a) (h : CellR K ww r H a c) : CellR K ww r H' a c := by
  cases c with
  | lst xs => obtain ⟨vs, e1, e2⟩ := h; exact ⟨vs, ha.trans e1, e2.lift hT⟩
  | dk kvs => obtain ⟨ws, e1, e2⟩ := h; exact ⟨ws, ha.trans e1, e2.lift hT⟩
  | dt kvs => obtain ⟨ws, e1, e2, e3⟩ := h; exact ⟨ws, ha.trans e1, e2.lift hT, e3⟩
  | tb q P =>
    obtain ⟨e0, ps, e1, e2, e3⟩ := h
    exact ⟨e0, ps, ha.trans e1, e2, fun pos cv hc => let ⟨c, q1, q2⟩ := e3 pos cv hc; ⟨c, q1, hC c q q2⟩⟩
theorem Sim.lift (hT : ∀ b a vs, SqB K H b a vs → SqB K H' b a vs) (hC : ∀ c q, H c = some (LamX.CodeO c q) → H' c = some (LamX.CodeO c q)) (ha : ∀ a ∈ r, H' a = H a) (S : Sim K ww r st H) : Sim K ww r st H' :=
  ⟨S.len, S.nd, fun i c a h1 h2 => (S.at_ i c a h1 h2).lift hT hC (ha a (List.mem_of_getElem? h2))⟩
theorem EnvR.lift {env : Ev} {s : L2.St} (hT : ∀ b a vs, SqB K H b a vs → SqB K H' b a vs) (h : EnvR K r H env s) : EnvR K r H' env s :=
  ⟨h.1, fun i x q => let ⟨v, e1, e2⟩ := h.2 i x q; ⟨v, e1, e2.lift hT⟩⟩
theorem upd_codeO {D : Addr} {o0 o : HO} (hD : H D = some o0) (hp : plainO o0) : ∀ c q, H c = some (LamX.CodeO c q) → upd H D o c = some (LamX.CodeO c q) := fun c q h => by
  rw [upd_ne fun z => ?_]
  · exact h
  · rw [z, hD] at h
    cases h
    exact plain_code hp rfl
theorem upd_sqO {D : Addr} {o0 o : HO} (hD : H D = some o0) (hp : plainO o0) : ∀ b a vs, SqB K H b a vs → SqB K (upd H D o) b a vs
  | false, a, vs, q => by
    have q' : SqT K H a vs := q
    rcases q' with (q | ⟨ob, q⟩) | q
    · exact .inl (.inl (by rw [upd_ne (ne_of q hD (by intro z; subst z; exact hp))]; exact q))
    · exact .inl (.inr ⟨ob, by rw [upd_ne (ne_of q hD (by intro z; subst z; exact hp))]; exact q⟩)
    · exact .inr q
  | true, a, vs, q => by
    have q' : SqR K H a vs := q
    rcases q' with ⟨ob, q⟩ | q
    · exact .inl ⟨ob, by rw [upd_ne (ne_of q hD (by intro z; subst z; exact hp))]; exact q⟩
    · exact .inr q
theorem upd_sqT {D : Addr} {us : List V} {o : HO} (hD : H D = some (.lst us)) : ∀ b a vs, SqB K H b a vs → SqB K (upd H D o) b a vs := upd_sqO hD trivial
end
theorem ite_of {b : Bool} {A B : Prop} (h1 : b = true → A) (h2 : b = false → B) : if b = true then A else B := by
  cases b with
  | true => exact iteT (h1 rfl)
  | false => exact iteF (h2 rfl)
abbrev no4 : WX := fun _ _ _ _ => False
/-- within a comprehension's block -/
abbrev Blk (X : Cx) (scope : Scope) (P : Cx → Prop) : Prop := ∀ (s : Shared) (H : Hp) (C : Addr) (cl : List (Str × Addr)) (fp : List Addr), P (X.blk s H scope (compEnvC scope cl C X.env) fp)
/-- a clause's tests -/
def RTs (X : Cx) (ifs : List Expr) (f : Ev → M Bool) : Prop := ∀ W, Takes X W → ∀ r st s H env (Q : Bool → Hp → Prop), EnvR X.K r H env s → Sim X.K X.w r st H → Post X W (okB Q) r H (f env st) → ∀ pins sh, Inv X pins s H sh →
  wpAny (model X.prog X.w) X.A (forIn ifs true fun c r => if r = true then do let ok ← isTrue c X.env (eval c X.env); pure (ForInStep.yield ok) else pure (ForInStep.yield r)) (TP X pins s Q) X.xe sh
section
variable {X : Cx}
theorem rts_nil : RTs X [] bYes := fun W tk r st s H env Q E S P pins sh I => pts_nil.run pins sh s H Q I (Post.now P S)
theorem rts_one {c : Expr} {f : Ev → M Bool} (h : RT X c f) : RTs X [c] f := fun W tk r st s H env Q E S P pins sh I => (pts_one pt_w).run pins sh s H Q I (h W tk r st s H env Q E S P)
abbrev gB (X : Cx) (scope : Scope) (tg : Expr) : TG := fun v s H Q => ∀ (s0 : Shared) (H0 : Hp) (C : Addr) (cl : List (Str × Addr)) (fp : List Addr), WG (X.blk s0 H0 scope (compEnvC scope cl C X.env) fp) tg v s H Q
abbrev tB (X : Cx) (scope : Scope) (ifs : List Expr) : TT := fun s H Q => ∀ (s0 : Shared) (H0 : Hp) (C : Addr) (cl : List (Str × Addr)) (fp : List Addr), ∀ pins sh, Inv (X.blk s0 H0 scope (compEnvC scope cl C X.env) fp) pins s H sh →
      wpAny (model X.prog X.w) X.A (forIn ifs true fun c r => if r = true then do let ok ← isTrue c (compEnvC scope cl C X.env) (eval c (compEnvC scope cl C X.env)); pure (ForInStep.yield ok) else pure (ForInStep.yield r)) (TP (X.blk s0 H0 scope (compEnvC scope cl C X.env) fp) pins s Q) (fun _ _ => False) sh
abbrev eB (X : Cx) (scope : Scope) (elt : Expr) : TE := fun s H Q => ∀ (s0 : Shared) (H0 : Hp) (C : Addr) (cl : List (Str × Addr)) (fp : List Addr), WE (X.blk s0 H0 scope (compEnvC scope cl C X.env) fp) elt s H Q
theorem lc_read {elt tg iter : Expr} {ifs : List Expr} {scope : Scope} {own : List (Str × Nat)} {n : Nat} {fi : Ev → M Nx} {T : List Nat} {g : PV → Ev → M Ev} {c : Ev → M Bool} {e : Ev → M PV} (hi : RI X tg iter fi)
    (hT : ∀ j ∈ T, j ∈ own.map (·.2)) (hg : Blk X scope fun Y => RG Y tg T g) (ht : Blk X scope fun Y => RTs Y ifs c) (he : Blk X scope fun Y => RE Y elt e) {W : WX} (tk : Takes X W) {r : List Addr} {st : Store} {s : L2.St} {H : Hp} {env : Ev} {Q : VK}
    (E : EnvR X.K r H env s) (S : Sim X.K X.w r st H) (P : Post X W (okV X Q) r H (xLc n (own.map (·.2)) fi g c e env st)) : tLc (WI X tg iter) (gB X scope tg) (tB X scope ifs) (eB X scope elt) (own.map (·.2)) s H Q := by
  refine hi W tk r st s H env _ E S ((post_bnd P).imp fun nx st1 r1 H1 e1 S1 P1 J hJ D hD => ?_)
  have E1 := E.ext e1 S
  have hDr : D ∉ r1 := fun z => S1.ne hD D z rfl
  refine ⟨fun i m H => ∃ r st acc acc', Ext r1 H1 r H ∧ EnvR X.K r H (wipeE env (own.map (·.2))) (L2.wipe s (own.map (·.2))) ∧ Sim X.K X.w r st H ∧ D ∉ r ∧ H D = some (.lst acc') ∧ RepL X.K r H acc acc' ∧
    Post X W (okV X Q) r1 H1 (compF nx g c e m i acc (wipeE env (own.map (·.2))) st), ⟨n, r1, st1, [], [], Ext.new hD, (E1.ext (Ext.new hD) S1).wipe _, S1.new hD, hDr, upd_same, by simp only [RepL], P1⟩, ?_⟩
  rintro i m H ⟨r, st, acc, acc', e0, E0, S0, d1, d2, d3, P0⟩
  cases m with
  | zero => exact P0.elim
  | succ k =>
    have hj := hJ i r st H (e0.ew S1) S0
    unfold compF at P0
    cases h : nx i st with
    | bad => rw [h] at P0; exact P0.elim
    | stop =>
      rw [h] at P0
      refine .inl ⟨hj.1 h, ?_⟩
      obtain ⟨⟨q, rfl, hq⟩, hk⟩ := e0
      refine P0 ((r1 ++ q) ++ [D]) H ⟨⟨q ++ [D], by simp, fun a ha => ?_⟩, hk⟩ (S0.adopt d1 ⟨acc', d2, d3⟩) _ ?_
      · rcases List.mem_append.mp ha with z | z
        · exact hq a z
        · rw [List.mem_singleton.mp z]; exact hD
      · rw [← S0.len]
        exact Rep.last
    | item v =>
      rw [h] at P0
      obtain ⟨hgo, hy⟩ := hj.2 v h
      refine .inr ⟨hgo, fun H => ∃ r st acc acc', Ext r1 H1 r H ∧ EnvR X.K r H (wipeE env (own.map (·.2))) (L2.wipe s (own.map (·.2))) ∧ Sim X.K X.w r st H ∧ D ∉ r ∧ H D = some (.lst acc') ∧ RepL X.K r H acc acc' ∧
        Post X W (okV X Q) r1 H1 (compF nx g c e k (i + 1) acc (wipeE env (own.map (·.2))) st), fun H' q => ⟨k, Nat.lt_succ_self k, q⟩, fun x H' y => ?_⟩
      obtain ⟨e2, S2, rv⟩ := hy x H' y
      have stay : ∀ {ra : List Addr} {Ha : Hp} {rb : List Addr} {Hb : Hp} {us : List V}, Ext ra Ha rb Hb → D ∉ ra → Ha D = some (.lst us) → D ∉ rb ∧ Hb D = some (.lst us) := fun {ra Ha rb Hb us} e n h => by
        obtain ⟨⟨q, rfl, hq⟩, hk⟩ := e
        refine ⟨fun z => ?_, hk D _ h n⟩
        rcases List.mem_append.mp z with z | z
        · exact n z
        · rw [hq D z] at h; cases h
      obtain ⟨d4, d5⟩ := stay e2 d1 d2
      intro s0 H0 C cl fp
      have P0' : Post X W (okV X Q) r1 H1 (bnd (noX (g v (wipeE env (own.map (·.2))))) (fun e1 => bnd (noX (c e1)) fun b => if b = true then bnd (noX (e e1)) (fun y => if acc.length < sizeTop then compF nx g c e k (i + 1) (acc ++ [y]) (wipeE env (own.map (·.2))) else bad) else compF nx g c e k (i + 1) acc (wipeE env (own.map (·.2)))) st) := P0
      refine hg s0 H0 C cl fp no4 takes0 r st _ H' _ v x _ (E0.ext e2 S0) S2 rv ?_
      unfold bnd noX at P0'
      cases hg1 : g v (wipeE env (own.map (·.2))) st with
      | bad => rw [hg1] at P0'; exact P0'.elim
      | exc _ _ _ _ _ => rw [hg1] at P0'; exact P0'.elim
      | ok env1 st3 =>
        rw [hg1] at P0'
        intro r3 H3 e3 S3 s3 E3 B3
        refine ⟨wipe_but hT B3, fun s0 H0 C cl fp pins sh I => ?_⟩
        refine ht s0 H0 C cl fp no4 takes0 r3 st3 s3 H3 env1 _ E3 S3 ?_ pins sh I
        dsimp only at P0'
        cases hc1 : c env1 st3 with
        | bad => rw [hc1] at P0'; exact P0'.elim
        | exc _ _ _ _ _ => rw [hc1] at P0'; exact P0'.elim
        | ok b st4 =>
          rw [hc1] at P0'
          intro r4 H4 e4 S4
          obtain ⟨d6, d7⟩ := stay e3 d4 d5
          obtain ⟨d8, d9⟩ := stay e4 d6 d7
          have e34 := (e2.trans e3 S2).trans e4 S3
          refine ite_of (b := b) (fun hb => ?_) (fun hb => ?_)
          rotate_left
          · subst hb
            dsimp only at P0'
            rw [if_neg Bool.false_ne_true] at P0'
            exact ⟨r4, st4, acc, acc', e0.trans e34 S0, E0.ext e34 S0, S4, d8, d9, e34.repL S0 d3, P0'⟩
          · subst hb
            intro s0 H0 C cl fp
            refine he s0 H0 C cl fp no4 takes0 r4 st4 s3 H4 env1 _ (E3.ext e4 S3) S4 ?_
            dsimp only at P0'
            rw [if_pos rfl] at P0'
            cases he1 : e env1 st4 with
            | bad => rw [he1] at P0'; exact P0'.elim
            | exc _ _ _ _ _ => rw [he1] at P0'; exact P0'.elim
            | ok y st5 =>
              rw [he1] at P0'
              dsimp only at P0'
              intro r5 H5 e5 S5 y' ry
              obtain ⟨d10, d11⟩ := stay e5 d8 d9
              have e05 := e34.trans e5 S4
              split at P0'
              · rename_i hz
                have ra := e05.repL S0 d3
                refine ⟨acc', d11, by rw [← ra.length, ← sizeTop_eq]; exact hz, ?_⟩
                have hu := upd_sqT (K := X.K) (o := .lst (acc' ++ [y'])) d11
                have e15 := e0.trans e05 S0
                refine ⟨r5, st5, acc ++ [y], acc' ++ [y'], ⟨e15.pre, fun a o q1 q2 => ?_⟩, (E0.ext e05 S0).lift hu, S5.lift hu (upd_codeO d11 trivial) fun b hb => upd_ne fun z => d10 (z ▸ hb), d10, upd_same, (ra.append (RepL.one ry)).lift hu, P0'⟩
                rw [upd_ne (ne_of_none q1 hD)]
                exact e15.keep a o q1 q2
              · exact P0'.elim

theorem re_lc {elt tg iter : Expr} {ifs : List Expr} {scope : Scope} {own : List (Str × Nat)} {pos : Pos} {n : Nat} {fi : Ev → M Nx} {T : List Nat} {g : PV → Ev → M Ev} {c : Ev → M Bool} {e : Ev → M PV} (hc : X.calm = true) (hN : X.N.Nodup) (hi : RI X tg iter fi) (ok : BlkOk X.N X.env.scope scope own)
    (hT : ∀ j ∈ T, j ∈ own.map (·.2)) (hg : Blk X scope fun Y => RG Y tg T g) (ht : Blk X scope fun Y => RTs Y ifs c) (he : Blk X scope fun Y => RE Y elt e) (hs : ∀ x, foldedSetIterable iter X.env x = pure x := by intro _; rfl) :
    RE X (.ListComp elt [⟨tg, iter, ifs, 0⟩] scope pos) (xLc n (own.map (·.2)) fi g c e) := fun W tk r st s H env Q E S P =>
  w_pe (pe_lc (g := gB X scope tg) (tt := tB X scope ifs) (te := eB X scope elt) hc hN pi_w ok (fun s0 H0 C cl fp => ⟨fun pins sh s H v u Q I rv h => wg_run (h s0 H0 C cl fp) pins sh u I rv⟩) (fun s0 H0 C cl fp => ⟨fun pins sh s H Q I h => h s0 H0 C cl fp pins sh I⟩)
    (fun s0 H0 C cl fp => ⟨fun pins sh s H Q I h => we_run (h s0 H0 C cl fp) pins sh I⟩) hs) (lc_read hi hT hg ht he tk E S P)
/-- name = [..] on one line, the name a local -/
theorem rs_setLc {i : Nat} {y : Str} {py : Pos} {elt tg iter : Expr} {ifs : List Expr} {scope : Scope} {own : List (Str × Nat)} {pos spos : Pos} {n : Nat} {fi : Ev → M Nx} {T : List Nat} {g : PV → Ev → M Ev} {c : Ev → M Bool} {e : Ev → M PV} (hc : X.calm = true) (hN : X.N.Nodup) (hy : X.N[i]? = some y) (hyl : X.env.scope.names.lookup y = some .local)
    (hsw : swapsWith (.ListComp elt [⟨tg, iter, ifs, 0⟩] scope pos) (some (.Name y py)) spos.line X.env = pure true) (hi : RI X tg iter fi) (ok : BlkOk X.N X.env.scope scope own)
    (hT : ∀ j ∈ T, j ∈ own.map (·.2)) (hg : Blk X scope fun Y => RG Y tg T g) (ht : Blk X scope fun Y => RTs Y ifs c) (he : Blk X scope fun Y => RE Y elt e) (hs : ∀ x, foldedSetIterable iter X.env x = pure x := by intro _; rfl) :
    RS X (.Assign [.Name y py] (.ListComp elt [⟨tg, iter, ifs, 0⟩] scope pos) spos) (sAsg (xLc n (own.map (·.2)) fi g c e) (gSet i)) := by
  intro W tk r st s H env D E S P
  refine w_ps (ps_setLc (g := gB X scope tg) (tt := tB X scope ifs) (te := eB X scope elt) hc hN hy hyl hsw pi_w ok (fun s0 H0 C cl fp => ⟨fun pins sh s H v u Q I rv h => wg_run (h s0 H0 C cl fp) pins sh u I rv⟩) (fun s0 H0 C cl fp => ⟨fun pins sh s H Q I h => h s0 H0 C cl fp pins sh I⟩)
    (fun s0 H0 C cl fp => ⟨fun pins sh s H Q I h => we_run (h s0 H0 C cl fp) pins sh I⟩) hs) ?_
  exact lc_read hi hT hg ht he tk E S ((post_bnd P).imp fun v st1 r1 H1 e1 S1 P1 v' rv => Post.now P1 S1 _ ((E.ext e1 S).set rv))
end
end Mi
namespace Mi
open PySem PySem.Spec PyProof.Rows L2
/-! ### defs and their calls -/
def runB (n : Nat) (b : Ev → M Flw) : List PV → M PV := fun xs st => match b (xs.map some ++ List.replicate (n - xs.length) none) st with
  | .ok (.rt v) st' => .ok v st'
  | .ok (.nx _) st' => .ok .non st'
  | .ok _ _ => .bad
  | .exc c f v _ st' => .exc c f v [] st'
  | .bad => .bad
/-- what is wanted behind a call -/
def PostF (K : PySem.W.Frag) (w : World) (mg : Str → Option Value) (r : List Addr) (H : Hp) (Q : VK) (E : XK) : Res PV → Prop
  | .ok v st => ∀ r' H' v', Ext r H r' H' → Sim K w r' st H' → Rep K r' H' v v' → Q v' H'
  | .exc c f v _ st => ∀ r' H' v' C d, Ext r H r' H' → Sim K w r' st H' → Rep K r' H' v v' → mg c = some (.ref C) → H' d = some (.xd [(f, v')]) → E (.ref C) (some d) H'
  | .bad => False
structure FnM (P : Program) (w : World) (K : PySem.W.Frag) (mg : Str → Option Value) (base : Heap) (k : Nat) (f : Addr) (fd : FuncData) (ps : List Str) (g : List PV → M PV) : Prop where
  run : ∀ (A : Around) (outer : List Env) (s : Shared) (H : Hp) (args : Args) (us : List Value) (vs : List V) (Q : VK) (E : XK) (r : List Addr) (st : Store) (xs : List PV), Room k A → A.guards = some [] → Env0 P w K mg base A outer s H →
    BindsTo s fd args (ps.zip us) → Vals vs us → RepL K r H xs vs → xs.length = ps.length → Sim K w r st H → PostF K w mg r H Q E (g xs st) → codeAny (model P w) A (.call (.ref f) args) (CR (L2.CX P w) outer P w H s Q E) s
theorem FnM.mono {P : Program} {w : World} {K : PySem.W.Frag} {mg : Str → Option Value} {base : Heap} {j k : Nat} {f : Addr} {fd : FuncData} {ps : List Str} {g : List PV → M PV} (F : FnM P w K mg base j f fd ps g) (h : j ≤ k) : FnM P w K mg base k f fd ps g :=
  ⟨fun A outer s H args us vs Q E r st xs hr => F.run A outer s H args us vs Q E r st xs (hr.mono h)⟩
theorem envR_start {K : PySem.W.Frag} {r : List Addr} {H : Hp} {N : List Str} {xs : List PV} {vs : List V} (h : RepL K r H xs vs) : EnvR K r H (xs.map some ++ List.replicate (N.length - xs.length) none) (L2.start N vs) := by
  refine ⟨by simp [L2.start, h.length], fun i x e => ?_⟩
  by_cases hi : i < xs.length
  · rw [List.getElem?_append_left (by simpa using hi), List.getElem?_map] at e
    cases hx : xs[i]? with
    | none => rw [hx] at e; cases e
    | some y =>
      rw [hx] at e; cases e
      obtain ⟨v, e1, e2⟩ := h.get hx
      refine ⟨v, ?_, e2⟩
      unfold L2.start
      rw [List.getElem?_append_left (by simpa [← h.length] using hi), List.getElem?_map, e1]
      rfl
  · rw [List.getElem?_append_right (by simpa using hi), List.getElem?_replicate] at e
    split at e <;> cases e
/-- a def of the text, by its body -/
theorem FnM.of {P : Program} {w : World} {K : PySem.W.Frag} {mg : Str → Option Value} {base : Heap} {x qual : Str} {t : Stmt} {f : Addr} {fd : FuncData} {N ps : List Str} {k : Nat} {b : Ev → M Flw} (F : Fun K x qual t f fd) (S : FnScope N ps (defScope t))
    (hbody : ∀ (cdv : Value) (A : Around) (outer : List Env) (s : Shared) (H : Hp) (E : XK), Room k (A.deeper (envOfC qual (defScope t) s.heap.objs.size f cdv)) → A.guards = some [] →
      RSs (cxOf (L2.CX P w) P w K mg base N qual (defScope t) f cdv A outer s H E) (defBody t) b) : FnM P w K mg base (k + 1) f fd ps (runB N.length b) := by
  obtain ⟨oc, od, kV, doc, pm, an, cdv, ct, osl, rfl, lk, hcd⟩ := F.ex
  refine ⟨fun A outer s H args us vs Q E r st xs hr hgd e0 hb rv hx hl hS hP => ?_⟩
  refine LamX.run_ofS lk hcd S hr e0 hb rv (by rw [← hx.length]; exact hl) fun hr' => ⟨_, pss_w, ?_⟩
  refine hbody cdv A outer s H E hr' hgd (fun cls d _ H => E cls d H) (takes_of rfl rfl rfl rfl) r st _ H _ _ (envR_start hx) hS ?_
  unfold runB at hP
  cases hq : b (xs.map some ++ List.replicate (N.length - xs.length) none) st with
  | bad => rw [hq] at hP; exact hP.elim
  | exc c f v env st' =>
    rw [hq] at hP
    exact fun r' H' s' v' C d e1 S1 _ q1 q2 q3 => hP r' H' v' C d e1 S1 q1 q2 q3
  | ok fl st' =>
    rw [hq] at hP
    cases fl with
    | rt v => exact fun r' H' e1 S1 v' q => hP r' H' v' e1 S1 q
    | nx env => exact fun r' H' e1 S1 s' q => hP r' H' .non e1 S1 (rep_non.mpr rfl)
    | bk env => exact hP.elim
    | ct env => exact hP.elim
def callM (env : Ev) (m : M PV) : M PV := fun st => match m st with
  | .ok v st' => .ok v st'
  | .exc c f v _ st' => .exc c f v env st'
  | .bad => .bad
def xCall (g : List PV → M PV) (f : Ev → M (List PV)) : Ev → M PV := fun env => bnd (f env) fun xs => callM env (g xs)
section
variable {X : Cx} {k : Nat} {f : Addr} {fd : FuncData} {ps : List Str} {g : List PV → M PV} {x : Str} {p pos : Pos} {e : Expr} {es : List Expr} {ga : Ev → M (List PV)}
theorem run_m {W : WX} {pins : List (Addr × Obj)} {s : L2.St} {H : Hp} {sh : Shared} {Q : VK} {us : List Value} {vs : List V} {r : List Addr} {st : Store} {xs : List PV} {env : Ev} (tk : Takes X W) (F : FnM X.prog X.w X.K X.mg X.base k f fd ps g) (hr : Room k X.A) (hgd : X.A.guards = some [])
    (hb : Binds X.K fd ps []) (I : Inv X pins s H sh) (rv : Vals vs us) (hx : RepL X.K r H xs vs) (hl : xs.length = ps.length) (E : EnvR X.K r H env s) (S : Sim X.K X.w r st H) (P : Post X W (okV X Q) r H (callM env (g xs) st)) :
    wpAny (model X.prog X.w) X.A (call (.ref f) us) (EP X pins s Q) X.xe sh := by
  have hlu : us.length = ps.length := by rw [← rv.length, ← hx.length]; exact hl
  have hb' := hb sh us I.kIn (by simpa using hlu)
  rw [List.append_nil] at hb'
  have hP : PostF X.K X.w X.mg r H Q (L2.WE W s) (g xs st) := by
    unfold callM at P
    cases hq : g xs st with
    | bad => rw [hq] at P; exact P.elim
    | ok v st' => rw [hq] at P; exact fun r' H' v' e1 S1 q => P r' H' e1 S1 v' q
    | exc c f' v _ st' => rw [hq] at P; exact fun r' H' v' C d e1 S1 q1 q2 q3 => P r' H' s v' C d e1 S1 (E.ext e1 S) q1 q2 q3
  refine wpAny_call (codeAny_mono (F.run X.A X.stack sh H ⟨us, []⟩ us vs Q (L2.WE W s) r st xs hr hgd I.env0 hb' rv hx hl S hP) fun res s' hq => ?_)
  cases res with
  | error e => exact passAt tk s pins H sh e s' I hq
  | ok fl =>
    cases fl with
    | ret u => exact I.after hq
    | next => exact False.elim hq
    | brk => exact False.elim hq
    | cont => exact False.elim hq
/-- how many arguments the mirror takes is how many there are -/
theorem re_call (F : FnM X.prog X.w X.K X.mg X.base k f fd ps g) (hr : Room k X.A) (hgd : X.A.guards = some []) (hg : Gl X x) (hm : X.mg x = some (.ref f)) (hk : PySem.W.keepIn X.K (.ref f) = true) (hb : Binds X.K fd ps []) (ha : RA X (e :: es) ga)
    (hl : ps.length = (e :: es).length := by rfl) (hdb : (x == ("__debug__" : Str)) = false := by decide) (he : starEach (e :: es) X.env = (false, eval e X.env) :: starEach es X.env := by rfl) (hpl : (backTo pos (starEach es X.env)).any (·.1) = false := by rfl) :
    RE X (.Call (.Name x p) (e :: es) [] pos) (fun env => bnd (ga env) fun xs => if xs.length = ps.length then callM env (g xs) else bad) := by
  intro W tk r st s H env Q E S P
  refine we_mk fun pins sh I => ?_
  refine wpAny_Call_Name_kw (ld_glob I hg hm ?_ hdb)
  refine PySem.W.callWith_K (h₀ := X.base) I.ok.mod.kin hk (thn (wa_run (ha.seq tk E S P (R := fun vs H1 => ∃ r1 st1 xs, EnvR X.K r1 H1 env s ∧ Sim X.K X.w r1 st1 H1 ∧ RepL X.K r1 H1 xs vs ∧ Post X W (okV X Q) r1 H1 ((if xs.length = ps.length then callM env (g xs) else bad) st1))
    (fun r1 st1 H1 xs xs' e1 E1 S1 rx P1 => ⟨r1, st1, xs, E1, S1, rx, P1⟩)) pos pins sh I) fun us s1 ⟨vs, H1, I1, rv, q⟩ => ⟨I1.kIn, ?_⟩) he hpl
  obtain ⟨r1, st1, xs, E1, S1, rx, P1⟩ := q
  split at P1
  · rename_i hz
    exact run_m tk F hr hgd hb I1 rv rx hz E1 S1 P1
  · exact P1.elim
theorem re_call0 (F : FnM X.prog X.w X.K X.mg X.base k f fd [] g) (hr : Room k X.A) (hgd : X.A.guards = some []) (hg : Gl X x) (hm : X.mg x = some (.ref f)) (hk : PySem.W.keepIn X.K (.ref f) = true) (hb : Binds X.K fd [] [])
    (hdb : (x == ("__debug__" : Str)) = false := by decide) : RE X (.Call (.Name x p) [] [] pos) (fun env => callM env (g [])) := by
  intro W tk r st s H env Q E S P
  refine we_mk fun pins sh I => ?_
  refine wpAny_Call_Name_kw (ld_glob I hg hm ?_ hdb)
  exact PySem.W.callWith_K0 I.kIn hk (run_m (vs := []) (xs := []) tk F hr hgd hb I .nil (by simp only [RepL]) rfl E S P)
end

/-! ### methods of lists -/
def chkL : PV → M Unit
  | .loc n => fun st => match getM n st with
    | some _ => .ok () st
    | none => .bad
  | _ => bad
def appV : PV → List PV → M PV
  | .loc n, [v] => fun st => match getM n st with
    | some xs => if xs.length < sizeTop then .ok .non (st.set n (.lst (xs ++ [v]))) else .bad
    | none => .bad
  | _, _ => bad
def popV : PV → M PV
  | .loc n => fun st => match getM n st with
    | some xs => match xs[xs.length - 1]? with
      | some v => .ok v (st.set n (.lst xs.dropLast))
      | none => .bad
    | none => .bad
  | _ => bad
def xMt (o : PV → List PV → M PV) (f : Ev → M PV) (g : Ev → M (List PV)) : Ev → M PV := fun env => bnd (f env) fun x => bnd (chkL x) fun _ => bnd (g env) fun xs => o x xs
theorem chkL_ok {X : Cx} {W : WX} {α : Type} {ok : α → Store → List Addr → Hp → Prop} {r : List Addr} {H : Hp} {st : Store} {x : PV} {v : V} {m : Unit → M α} (S : Sim X.K X.w r st H) (rx : Rep X.K r H x v) (P : Post X W ok r H (bnd (chkL x) m st)) :
    ∃ n a xs vs, x = .loc n ∧ v = .ref a ∧ r[n]? = some a ∧ getM n st = some xs ∧ H a = some (.lst vs) ∧ RepL X.K r H xs vs ∧ Post X W ok r H (m () st) := by
  cases x with
  | loc n =>
    obtain ⟨a, rfl, h1⟩ := rep_loc.mp rx
    unfold bnd chkL at P
    dsimp only at P
    cases hm : getM n st with
    | none => rw [hm] at P; exact P.elim
    | some xs =>
      rw [hm] at P
      obtain ⟨b, vs, q1, q2, q3⟩ := S.getM hm
      rw [h1] at q1; cases q1
      exact ⟨n, a, xs, vs, rfl, rfl, h1, hm, q2, q3, P⟩
  | _ => exact P.elim
theorem Post.setL {X : Cx} {W : WX} {r : List Addr} {H : Hp} {st : Store} {n : Nat} {a : Addr} {v : PV} {v' : V} {ys : List PV} {ws : List V} {Q : VK} (P : Post X W (okV X Q) r H (.ok v (st.set n (.lst ys)))) (S : Sim X.K X.w r st H) (h : r[n]? = some a) (hv : Rep X.K r H v v') (hy : RepL X.K r H ys ws) :
    Q v' (upd H a (.lst ws)) := by
  have ee : Ext r H r (upd H a (.lst ws)) := Ext.mut (List.mem_of_getElem? h)
  exact P r _ ee (S.put h ⟨ws, upd_same, ee.repL S hy⟩) v' (ee.rep S hv)
section
variable {X : Cx} {o e : Expr} {f fe : Ev → M PV} {apos cpos : Pos}
theorem re_append (ho : RE X o f) (he : RE X e fe) (hbase : attributeBase o "append" X.env (eval o X.env) = eval o X.env := by rfl)
    (hfew : ((backTo cpos (starEach [e] X.env)).all (fun x => !x.1) && (backToKw cpos (keywordEach [] X.env)).all (fun x => x.1.isSome)
      && decide (([e] : List Expr).length + ([] : List Keyword).length + (if ([] : List Keyword).isEmpty then 0 else 1) < 30)) = true := by rfl)
    (hline : (apos.endLine == cpos.line) = true := by rfl) (hs : starEach [e] X.env = (false, eval e X.env) :: starEach [] X.env := by rfl) (hplain : (backTo cpos (starEach [] X.env)).any (·.1) = false := by rfl) :
    RE X (.Call (.Attribute o "append" apos) [e] [] cpos) (xMt appV f (aCons fe aNil)) := by
  intro W tk r st s H env Q E S P
  refine w_pe (pe_bm PySem.F.plainAttrs_list PySem.F.slot_list_append PySem.F.type_list_append mt_append pe_w pa_w hbase hfew hline hs hplain) ?_
  refine ho.seq tk E S P fun r1 st1 H1 x x' e1 E1 S1 rx P1 => ?_
  obtain ⟨n, a, xs0, vs0, rfl, rfl, h1, hm, q2, q3, P1⟩ := chkL_ok S1 rx P1
  refine ⟨.inl ⟨rfl, _, SqL.of q2⟩, ?_⟩
  refine (ra_cons he ra_nil hs).seq tk E1 S1 P1 fun r2 st3 H2 xs xs' e2 E2 S2 rx2 P2 => ?_
  have h2 := e2.get h1
  cases xs with
  | nil => exact P2.elim
  | cons v' tl =>
    cases tl with
    | cons _ _ => exact P2.elim
    | nil =>
      unfold appV at P2
      dsimp only at P2
      split at P2
      · rename_i ys g1
        split at P2
        · rename_i hz
          obtain ⟨b, vs, q4, q5, q6⟩ := S2.getM g1
          rw [h2] at q4; cases q4
          obtain ⟨w, rfl, q7⟩ := repL1 rx2
          exact ⟨a, vs, w, rfl, rfl, q5, by rw [← q6.length, ← sizeTop_eq]; exact hz, P2.setL S2 h2 (rep_non.mpr rfl) (q6.append (RepL.one q7))⟩
        · exact P2.elim
      · exact P2.elim
theorem re_pop (ho : RE X o f) (hbase : attributeBase o "pop" X.env (eval o X.env) = eval o X.env := by rfl) (hline : (apos.endLine == cpos.line) = true := by rfl) :
    RE X (.Call (.Attribute o "pop" apos) [] [] cpos) (x1 popV f) := by
  intro W tk r st s H env Q E S P
  refine w_pe (pe_bm0 PySem.F.plainAttrs_list PySem.F.slot_list_pop PySem.F.type_list_pop mt_pop pe_w hbase hline) ?_
  refine ho.seq tk E S P fun r1 st1 H1 x x' e1 E1 S1 rx P1 => ?_
  unfold popV at P1
  split at P1
  · rename_i n
    split at P1
    · rename_i xs g1
      split at P1
      · rename_i v hv
        obtain ⟨a, rfl, h1⟩ := rep_loc.mp rx
        obtain ⟨b, vs, q1, q2, q3⟩ := S1.getM g1
        rw [h1] at q1; cases q1
        obtain ⟨v', e1', rv⟩ := q3.get hv
        refine ⟨.inl ⟨rfl, _, SqL.of q2⟩, a, vs, v', rfl, rfl, q2, by rw [← q3.length]; exact e1', ?_⟩
        refine P1.setL S1 h1 rv ?_
        rw [List.dropLast_eq_take, List.dropLast_eq_take, q3.length]
        exact q3.take _
      · exact P1.elim
    · exact P1.elim
  · exact P1.elim
end
end Mi
namespace Mi
open PySem PySem.Spec PyProof.Rows L2
/-! ### short words for the generated derivations -/
def xCallN (n : Nat) (g : List PV → M PV) (f : Ev → M (List PV)) : Ev → M PV := fun env => bnd (f env) fun xs => if xs.length = n then callM env (g xs) else bad
def truV : PV → M Bool
  | .non => ret false
  | .bl b => ret b
  | .int i => ret (i != 0)
  | .tup xs => ret (!xs.isEmpty)
  | .loc n => fun st => match getL n st with
    | some xs => .ok (!xs.isEmpty) st
    | none => .bad
  | .str _ => bad
  | .kl _ => bad
def xTru (f : Ev → M PV) : Ev → M Bool := fun env => bnd (f env) truV
/-- a type's name -/
def tyN : PV → Store → Option String
  | .non, _ => some "NoneType"
  | .bl _, _ => some "bool"
  | .int _, _ => some "int"
  | .str _, _ => some "str"
  | .tup _, _ => some "tuple"
  | .loc n, st => match st[n]? with
    | some (.lst _) => some "list"
    | some (.dk _) => some "dict"
    | some (.dt _) => none
    | some (.tb _ _) => none
    | none => none
  | .kl _, _ => none
def subB (t T : String) : Bool := decide (t = T) || (decide (t = "bool") && decide (T = "int"))
def isiV (T : String) (x : PV) : M PV := fun st => match tyN x st with
  | some t => .ok (.bl (subB t T)) st
  | none => .bad
section
variable {X : Cx}
theorem rv (i : Nat) {x : Str} {pos : Pos} (hN : X.N[i]? = some x := by rfl) (hv : Vis X.env.scope x := by first | exact Or.inl rfl | exact Or.inr (Or.inl rfl) | exact Or.inr (Or.inr rfl)) (hd : (x == ("__debug__" : Str)) = false := by decide)
    (hcd : (x == ("__classdict__" : Str)) = false := by decide) : RE X (.Name x pos) (xVar i) := re_var hN hv hd hcd
theorem re_callN {k : Nat} {f : Addr} {fd : FuncData} {ps : List Str} {g : List PV → M PV} {x : Str} {p pos : Pos} {e : Expr} {es : List Expr} {ga : Ev → M (List PV)} (F : FnM X.prog X.w X.K X.mg X.base k f fd ps g) (hr : Room k X.A) (hgd : X.A.guards = some []) (hg : Gl X x)
    (hm : X.mg x = some (.ref f)) (hk : PySem.W.keepIn X.K (.ref f) = true) (hb : Binds X.K fd ps []) (ha : RA X (e :: es) ga) (hdb : (x == ("__debug__" : Str)) = false := by decide)
    (he : starEach (e :: es) X.env = (false, eval e X.env) :: starEach es X.env := by rfl) (hpl : (backTo pos (starEach es X.env)).any (·.1) = false := by rfl) : RE X (.Call (.Name x p) (e :: es) [] pos) (xCallN ps.length g ga) := by
  intro W tk r st s H env Q E S P
  refine we_mk fun pins sh I => ?_
  refine wpAny_Call_Name_kw (ld_glob I hg hm ?_ hdb)
  refine PySem.W.callWith_K (h₀ := X.base) I.ok.mod.kin hk (thn (wa_run (ha.seq tk E S P (R := fun vs H1 => ∃ r1 st1 xs, EnvR X.K r1 H1 env s ∧ Sim X.K X.w r1 st1 H1 ∧ RepL X.K r1 H1 xs vs ∧ Post X W (okV X Q) r1 H1 ((if xs.length = ps.length then callM env (g xs) else bad) st1))
    (fun r1 st1 H1 xs xs' e1 E1 S1 rx P1 => ⟨r1, st1, xs, E1, S1, rx, P1⟩)) pos pins sh I) fun us s1 ⟨vs, H1, I1, rv, q⟩ => ⟨I1.kIn, ?_⟩) he hpl
  obtain ⟨r1, st1, xs, E1, S1, rx, P1⟩ := q
  split at P1
  · rename_i hz
    exact run_m tk F hr hgd hb I1 rv rx hz E1 S1 P1
  · exact P1.elim
theorem rt_truth {a : Expr} {f : Ev → M PV} (ha : RE X a f) (he : ∀ whole, isTrue a X.env whole = (do let v ← whole; standAt a.pos; holding [v] (truthy v)) := by intro _; rfl) : RT X a (xTru f) := by
  intro W tk r st s H env Q E S P
  refine w_pt (pt_truth pe_w he) ?_
  refine ha.seq tk E S P fun r1 st1 H1 x x' e1 E1 S1 rx P1 => ?_
  cases x with
  | non => rw [rep_non.mp rx]; exact ⟨false, rfl, Post.now P1 S1⟩
  | bl b => rw [rep_bl.mp rx]; exact ⟨b, rfl, Post.now P1 S1⟩
  | int i => rw [rep_int.mp rx]; exact ⟨_, rfl, Post.now P1 S1⟩
  | str s => exact P1.elim
  | kl xs => exact P1.elim
  | tup xs =>
    obtain ⟨a, vs, rfl, h1, h2⟩ := rep_tup.mp rx
    have e : xs.isEmpty = vs.isEmpty := by
      have := h2.length
      cases xs <;> cases vs <;> simp_all
    refine ⟨!vs.isEmpty, .inr (.inl ⟨vs, h1, rfl⟩), ?_⟩
    rw [← e]; exact Post.now P1 S1
  | loc n =>
    obtain ⟨a, rfl, h1⟩ := rep_loc.mp rx
    unfold truV at P1
    dsimp only at P1
    split at P1
    · rename_i xs g
      obtain ⟨b, vs, q1, q2, q3⟩ := S1.getL g
      rw [h1] at q1; cases q1
      have e : xs.isEmpty = vs.isEmpty := by
        have := q3.length
        cases xs <;> cases vs <;> simp_all
      refine ⟨!vs.isEmpty, .inl ⟨vs, q2, rfl⟩, ?_⟩
      rw [← e]; exact Post.now P1 S1
    · exact P1.elim
/-- a module's own tuple, int, text -/
theorem re_gtup {x : Str} {a : Addr} {vs : List V} {xs : List PV} {pos : Pos} (hg : Gl X x) (hm : X.mg x = some (.ref a)) (hT : ∀ H, SqT X.K H a vs) (hx : ∀ r H, RepL X.K r H xs vs) (hd : (x == ("__debug__" : Str)) = false := by decide) : RE X (.Name x pos) (xC (.tup xs)) :=
  fun W tk r st s H env Q E S P => w_pe (pe_glob (v := .ref a) hg hm rfl hd) (P.val S (rep_tup.mpr ⟨a, vs, rfl, hT H, hx r H⟩))
theorem re_gint {x : Str} {i : Int} {pos : Pos} (hg : Gl X x) (hm : ∃ t, X.mg x = some (.int i t)) (hd : (x == ("__debug__" : Str)) = false := by decide) : RE X (.Name x pos) (xC (.int i)) :=
  fun W tk r st s H env Q E S P => w_pe (let ⟨t, h⟩ := hm; pe_glob (v := .int i) hg h ⟨t, rfl⟩ hd) (P.val S (rep_int.mpr rfl))
theorem boot_int' : bootBuiltins "int" = some (.type "int") := by decide +kernel
theorem boot_list' : bootBuiltins "list" = some (.type "list") := by decide +kernel
theorem boot_tuple' : bootBuiltins "tuple" = some (.type "tuple") := by decide +kernel
theorem boot_abs' : bootBuiltins "abs" = some (.builtin "abs") := by decide +kernel
theorem boot_any' : bootBuiltins "any" = some (.builtin "any") := by decide +kernel
theorem boot_all' : bootBuiltins "all" = some (.builtin "all") := by decide +kernel
theorem boot_min' : bootBuiltins "min" = some (.builtin "min") := by decide +kernel
theorem boot_max' : bootBuiltins "max" = some (.builtin "max") := by decide +kernel
theorem boot_isi' : bootBuiltins "isinstance" = some (.builtin "isinstance") := by decide +kernel
theorem boot_bool' : bootBuiltins "bool" = some (.type "bool") := by decide +kernel
theorem boot_str' : bootBuiltins "str" = some (.type "str") := by decide +kernel
/-! isinstance of a built-in type -/
theorem kit_sub {K : PySem.W.Frag} {t T : String} (ht : t ∈ ["NoneType", "bool", "int", "str", "tuple", "list", "dict"]) (hT : T ∈ ["bool", "int", "str", "tuple", "list", "dict"]) : PySem.W.kitOne K (.type t) (.type T) = some (subB t T) := by
  refine kit_ty ?_
  have all : (["NoneType", "bool", "int", "str", "tuple", "list", "dict"].all fun t => ["bool", "int", "str", "tuple", "list", "dict"].all fun T => decide (kitB t T = some (subB t T))) = true := by decide +kernel
  exact of_decide_eq_true (List.all_eq_true.mp (List.all_eq_true.mp all t ht) T hT)
theorem rep_ty {r : List Addr} {H : Hp} {st : Store} {x : PV} {v : V} {t : String} (S : Sim X.K X.w r st H) (rx : Rep X.K r H x v) (h : tyN x st = some t) : TyX X.K H v (.type t) ∧ t ∈ ["NoneType", "bool", "int", "str", "tuple", "list", "dict"] := by
  cases x with
  | non => cases h; rw [rep_non.mp rx]; exact ⟨.base .non, by decide⟩
  | bl b => cases h; rw [rep_bl.mp rx]; exact ⟨.base (.bl b), by decide⟩
  | int i => cases h; rw [rep_int.mp rx]; exact ⟨.base (.int i), by decide⟩
  | str s => cases h; rw [rep_str.mp rx]; exact ⟨.base (.str s), by decide⟩
  | tup xs =>
    cases h
    obtain ⟨a, vs, rfl, h1, h2⟩ := rep_tup.mp rx
    refine ⟨?_, by decide⟩
    rcases h1 with (h1 | ⟨o, h1⟩) | ⟨o, its, n, h1, h3, _⟩
    · exact .base (.tup h1)
    · exact .fTuple h1
    · exact .kTuple h1 h3
  | loc n =>
    obtain ⟨a, rfl, h1⟩ := rep_loc.mp rx
    unfold tyN at h
    dsimp only at h
    cases hc : st[n]? with
    | none => rw [hc] at h; cases h
    | some c =>
      rw [hc] at h
      obtain ⟨b, q1, q2⟩ := S.get hc
      rw [h1] at q1; cases q1
      cases c with
      | lst xs => cases h; obtain ⟨vs, q, _⟩ := q2; exact ⟨.base (.lst q), by decide⟩
      | dk kvs => cases h; obtain ⟨ws, q, _⟩ := q2; exact ⟨.base (.dK q), by decide⟩
      | dt kvs => cases h
      | tb q P => cases h
  | kl xs => cases h
theorem re_isi {T : Str} {Ts : String} {a : Expr} {f : Ev → M PV} {p q pos : Pos} (hm : X.mg "isinstance" = none) (hmT : X.mg T = none) (hT : Ts ∈ ["bool", "int", "str", "tuple", "list", "dict"]) (hvT : bootBuiltins T = some (.type Ts)) (hg : Gl X "isinstance") (hgT : Gl X T) (ha : RE X a f)
    (hn : T ≠ "__name__" := by decide) (hdb : (T == ("__debug__" : Str)) = false := by decide) (he : starEach (a :: [.Name T q]) X.env = (false, eval a X.env) :: starEach [.Name T q] X.env := by rfl) (hpl : (backTo pos (starEach [.Name T q] X.env)).any (·.1) = false := by rfl)
    (he2 : starEach [.Name T q] X.env = (false, eval (.Name T q) X.env) :: starEach [] X.env := by rfl) : RE X (.Call (.Name "isinstance" p) [a, .Name T q] [] pos) (x1 (isiV Ts) f) := by
  intro W tk r st s H env Q E S P
  refine w_pe (pe_callB call_isi hg hm boot_isi' (pa_cons pe_w (pa_cons (pe_bltn (v := .ty Ts) hgT hmT hvT rfl hn hdb) pa_nil he2) he) (by decide) (by decide) he hpl) ?_
  refine ha.seq tk E S P fun r1 st1 H1 x x' e1 E1 S1 rx P1 => ?_
  unfold isiV at P1
  split at P1
  · rename_i t g
    obtain ⟨h1, h2⟩ := rep_ty S1 rx g
    exact ⟨x', .ty Ts, .type t, .type Ts, _, rfl, .ty Ts, h1, kit_sub h2 hT, P1.val S1 (rep_bl.mpr rfl)⟩
  · exact P1.elim
/-! built-ins by name -/
section
variable {e : Expr} {es : List Expr} {g : Ev → M (List PV)} {p pos : Pos}
theorem b_len (hm : X.mg "len" = none) (hg : Gl X "len") (ha : RA X (e :: es) g) (he : starEach (e :: es) X.env = (false, eval e X.env) :: starEach es X.env := by rfl) (hpl : (backTo pos (starEach es X.env)).any (·.1) = false := by rfl) : RE X (.Call (.Name "len" p) (e :: es) [] pos) (xA lenV g) :=
  re_callB call_len_seq c_len hg hm PySem.boot_len ha (by decide) (by decide) he hpl
theorem b_abs (hm : X.mg "abs" = none) (hg : Gl X "abs") (ha : RA X (e :: es) g) (he : starEach (e :: es) X.env = (false, eval e X.env) :: starEach es X.env := by rfl) (hpl : (backTo pos (starEach es X.env)).any (·.1) = false := by rfl) : RE X (.Call (.Name "abs" p) (e :: es) [] pos) (xA absV' g) :=
  re_callB call_abs c_abs hg hm boot_abs' ha (by decide) (by decide) he hpl
theorem b_any (hc : X.calm = true) (hm : X.mg "any" = none) (hg : Gl X "any") (ha : RA X (e :: es) g) (he : starEach (e :: es) X.env = (false, eval e X.env) :: starEach es X.env := by rfl) (hpl : (backTo pos (starEach es X.env)).any (·.1) = false := by rfl) : RE X (.Call (.Name "any" p) (e :: es) [] pos) (xA anyV g) :=
  re_callB (cr_any hc) c_any hg hm boot_any' ha (by decide) (by decide) he hpl
theorem b_all (hc : X.calm = true) (hm : X.mg "all" = none) (hg : Gl X "all") (ha : RA X (e :: es) g) (he : starEach (e :: es) X.env = (false, eval e X.env) :: starEach es X.env := by rfl) (hpl : (backTo pos (starEach es X.env)).any (·.1) = false := by rfl) : RE X (.Call (.Name "all" p) (e :: es) [] pos) (xA allV g) :=
  re_callB (cr_all hc) c_all hg hm boot_all' ha (by decide) (by decide) he hpl
theorem b_min (hc : X.calm = true) (hm : X.mg "min" = none) (hg : Gl X "min") (ha : RA X (e :: es) g) (he : starEach (e :: es) X.env = (false, eval e X.env) :: starEach es X.env := by rfl) (hpl : (backTo pos (starEach es X.env)).any (·.1) = false := by rfl) : RE X (.Call (.Name "min" p) (e :: es) [] pos) (xA min2V g) :=
  re_callB (call_min2 hc) c_min2 hg hm boot_min' ha (by decide) (by decide) he hpl
theorem b_max (hc : X.calm = true) (hm : X.mg "max" = none) (hg : Gl X "max") (ha : RA X (e :: es) g) (he : starEach (e :: es) X.env = (false, eval e X.env) :: starEach es X.env := by rfl) (hpl : (backTo pos (starEach es X.env)).any (·.1) = false := by rfl) : RE X (.Call (.Name "max" p) (e :: es) [] pos) (xA max2V g) :=
  re_callB (call_max2 hc) c_max2 hg hm boot_max' ha (by decide) (by decide) he hpl
theorem b_int (hm : X.mg "int" = none) (hg : Gl X "int") (ha : RA X (e :: es) g) (he : starEach (e :: es) X.env = (false, eval e X.env) :: starEach es X.env := by rfl) (hpl : (backTo pos (starEach es X.env)).any (·.1) = false := by rfl) : RE X (.Call (.Name "int" p) (e :: es) [] pos) (xA intV g) :=
  re_callTy call_int1 c_int hg hm boot_int' ha (by decide) (by decide) he hpl
theorem b_list (hm : X.mg "list" = none) (hg : Gl X "list") (ha : RA X (e :: es) g) (he : starEach (e :: es) X.env = (false, eval e X.env) :: starEach es X.env := by rfl) (hpl : (backTo pos (starEach es X.env)).any (·.1) = false := by rfl) : RE X (.Call (.Name "list" p) (e :: es) [] pos) (xA listV g) :=
  re_callTy call_list_of c_list hg hm boot_list' ha (by decide) (by decide) he hpl
theorem b_tuple (hm : X.mg "tuple" = none) (hg : Gl X "tuple") (ha : RA X (e :: es) g) (he : starEach (e :: es) X.env = (false, eval e X.env) :: starEach es X.env := by rfl) (hpl : (backTo pos (starEach es X.env)).any (·.1) = false := by rfl) : RE X (.Call (.Name "tuple" p) (e :: es) [] pos) (xA tupleV g) :=
  re_callTy call_tuple_of c_tuple hg hm boot_tuple' ha (by decide) (by decide) he hpl
theorem b_gcd (hm : X.mg "gcd" = some (.builtin "math.gcd")) (hg : Gl X "gcd") (ha : RA X (e :: es) g) (he : starEach (e :: es) X.env = (false, eval e X.env) :: starEach es X.env := by rfl) (hpl : (backTo pos (starEach es X.env)).any (·.1) = false := by rfl) : RE X (.Call (.Name "gcd" p) (e :: es) [] pos) (xA gcdV g) :=
  re_callM cr_gcd c_gcd hg hm ha (by decide) he hpl
end
/-! operators by name -/
section
variable {a b : Expr} {fa fb : Ev → M PV} {pos : Pos}
theorem o_add (ha : RE X a fa) (hb : RE X b fb) : RE X (.BinOp a .Add b pos) (x2 addV fa fb) := re_op (op_add.or (op_catA.or (op_cat.or op_add_str))) v_add ha hb
theorem o_sub (ha : RE X a fa) (hb : RE X b fb) : RE X (.BinOp a .Sub b pos) (x2 subV fa fb) := re_op op_sub v_sub ha hb
theorem o_mul (ha : RE X a fa) (hb : RE X b fb) : RE X (.BinOp a .Mult b pos) (x2 mulV fa fb) := re_op (op_mulW.or (op_rep.or op_repT)) v_mul ha hb
theorem o_fdiv (ha : RE X a fa) (hb : RE X b fb) : RE X (.BinOp a .FloorDiv b pos) (x2 fdivV fa fb) := re_op op_fdivW v_fdiv ha hb
theorem o_mod (ha : RE X a fa) (hb : RE X b fb) : RE X (.BinOp a .Mod b pos) (x2 modV fa fb) := re_op op_mod v_mod ha hb
theorem o_pow (ha : RE X a fa) (hb : RE X b fb) : RE X (.BinOp a .Pow b pos) (x2 powV fa fb) := re_op op_pow v_pow ha hb
theorem o_neg (ha : RE X a fa) : RE X (.UnaryOp .USub a pos) (x1 negV fa) := re_un un_neg v_neg ha
def ltV := cmpI fun i j => decide (i < j)
def leV := cmpI fun i j => decide (i ≤ j)
def gtV := cmpI fun i j => decide (j < i)
def geV := cmpI fun i j => decide (j ≤ i)
theorem o_lt (ha : RE X a fa) (hb : RE X b fb) : RE X (.Compare a [.Lt] [b] pos) (x2 ltV fa fb) := re_cmp op_lt v_cmpI ha hb (nomark _)
theorem o_le (ha : RE X a fa) (hb : RE X b fb) : RE X (.Compare a [.LtE] [b] pos) (x2 leV fa fb) := re_cmp op_le v_cmpI ha hb (nomark _)
theorem o_gt (ha : RE X a fa) (hb : RE X b fb) : RE X (.Compare a [.Gt] [b] pos) (x2 gtV fa fb) := re_cmp op_gt v_cmpI ha hb (nomark _)
theorem o_ge (ha : RE X a fa) (hb : RE X b fb) : RE X (.Compare a [.GtE] [b] pos) (x2 geV fa fb) := re_cmp op_ge v_cmpI ha hb (nomark _)
theorem o_eq (hu : X.A.units + 64 < cLine) (ha : RE X a fa) (hb : RE X b fb) : RE X (.Compare a [.Eq] [b] pos) (x2 (eqP false) fa fb) := re_cmp (op_eqD hu) v_eq ha hb (nomark _)
theorem o_ne (hu : X.A.units + 64 < cLine) (ha : RE X a fa) (hb : RE X b fb) : RE X (.Compare a [.NotEq] [b] pos) (x2 (eqP true) fa fb) := re_cmp (op_neD hu) v_ne ha hb (nomark _)
theorem o_in (hu : X.A.units + 65 < cLine) (ha : RE X a fa) (hb : RE X b fb) (hm : behindInMarks .In b = false := by rfl) : RE X (.Compare a [.In] [b] pos) (x2 (inP false) fa fb) := re_cmp (op_inD hu) v_in ha hb hm
theorem o_nin (hu : X.A.units + 65 < cLine) (ha : RE X a fa) (hb : RE X b fb) (hm : behindInMarks .NotIn b = false := by rfl) : RE X (.Compare a [.NotIn] [b] pos) (x2 (inP true) fa fb) := re_cmp (op_notInD hu) v_notIn ha hb hm
theorem o_is (ha : RE X a fa) (hb : RE X b fb) : RE X (.Compare a [.Is] [b] pos) (x2 isN fa fb) := re_cmp op_isN v_isN ha hb (nomark _)
theorem o_isnt (ha : RE X a fa) (hb : RE X b fb) : RE X (.Compare a [.IsNot] [b] pos) (x2 notN fa fb) := re_cmp op_notN v_notN ha hb (nomark _)
theorem t_lt (ha : RE X a fa) (hb : RE X b fb) : RT X (.Compare a [.Lt] [b] pos) (asB (x2 ltV fa fb)) := rt_cmp op_lt v_cmpI ha hb (nomark _)
theorem t_le (ha : RE X a fa) (hb : RE X b fb) : RT X (.Compare a [.LtE] [b] pos) (asB (x2 leV fa fb)) := rt_cmp op_le v_cmpI ha hb (nomark _)
theorem t_gt (ha : RE X a fa) (hb : RE X b fb) : RT X (.Compare a [.Gt] [b] pos) (asB (x2 gtV fa fb)) := rt_cmp op_gt v_cmpI ha hb (nomark _)
theorem t_ge (ha : RE X a fa) (hb : RE X b fb) : RT X (.Compare a [.GtE] [b] pos) (asB (x2 geV fa fb)) := rt_cmp op_ge v_cmpI ha hb (nomark _)
theorem t_eq (hu : X.A.units + 64 < cLine) (ha : RE X a fa) (hb : RE X b fb) : RT X (.Compare a [.Eq] [b] pos) (asB (x2 (eqP false) fa fb)) := rt_cmp (op_eqD hu) v_eq ha hb (nomark _)
theorem t_ne (hu : X.A.units + 64 < cLine) (ha : RE X a fa) (hb : RE X b fb) : RT X (.Compare a [.NotEq] [b] pos) (asB (x2 (eqP true) fa fb)) := rt_cmp (op_neD hu) v_ne ha hb (nomark _)
theorem t_in (hu : X.A.units + 65 < cLine) (ha : RE X a fa) (hb : RE X b fb) (hm : behindInMarks .In b = false := by rfl) : RT X (.Compare a [.In] [b] pos) (asB (x2 (inP false) fa fb)) := rt_cmp (op_inD hu) v_in ha hb hm
theorem t_nin (hu : X.A.units + 65 < cLine) (ha : RE X a fa) (hb : RE X b fb) (hm : behindInMarks .NotIn b = false := by rfl) : RT X (.Compare a [.NotIn] [b] pos) (asB (x2 (inP true) fa fb)) := rt_cmp (op_notInD hu) v_notIn ha hb hm
theorem t_is (ha : RE X a fa) (hb : RE X b fb) : RT X (.Compare a [.Is] [b] pos) (asB (x2 isN fa fb)) := rt_cmp op_isN v_isN ha hb (nomark _)
theorem t_isnt (ha : RE X a fa) (hb : RE X b fb) : RT X (.Compare a [.IsNot] [b] pos) (asB (x2 notN fa fb)) := rt_cmp op_notN v_notN ha hb (nomark _)
end
/-- code that the mirror never comes to -/
def sBad : Ev → M Flw := fun _ => bad
theorem rs_never {t : Stmt} : RS X t sBad := fun W tk r st s H env D E S P => P.elim
end
theorem FnM.ofD {P : Program} {w : World} {K : PySem.W.Frag} {mg : Str → Option Value} {base : Heap} {x : Str} {pa : Arguments} {bd : List Stmt} {sc : Scope} {f : Addr} {fd : FuncData} {N ps : List Str} {k : Nat} {b : Ev → M Flw} (F : FunD K x x pa bd sc [] [] f fd) (S : FnScope N ps sc)
    (hbody : ∀ (cdv : Value) (A : Around) (outer : List Env) (s : Shared) (H : Hp) (E : XK), Room k (A.deeper (envOfC x sc s.heap.objs.size f cdv)) → A.guards = some [] →
      RSs (cxOf (L2.CX P w) P w K mg base N x sc f cdv A outer s H E) bd b) : FnM P w K mg base (k + 1) f fd ps (runB N.length b) := by
  obtain ⟨oc, od, dV, kV, doc, pm, an, cdv, ct, osl, rfl, lk, hcd, _, _⟩ := F.ex
  refine ⟨fun A outer s H args us vs Q E r st xs hr hgd e0 hb rv hx hl hS hP => ?_⟩
  refine LamX.run_ofS lk hcd S hr e0 hb rv (by rw [← hx.length]; exact hl) fun hr' => ⟨_, pss_w, ?_⟩
  refine hbody cdv A outer s H E hr' hgd (fun cls d _ H => E cls d H) (takes_of rfl rfl rfl rfl) r st _ H _ _ (envR_start hx) hS ?_
  unfold runB at hP
  cases hq : b (xs.map some ++ List.replicate (N.length - xs.length) none) st with
  | bad => rw [hq] at hP; exact hP.elim
  | exc c f v env st' =>
    rw [hq] at hP
    exact fun r' H' s' v' C d e1 S1 _ q1 q2 q3 => hP r' H' v' C d e1 S1 q1 q2 q3
  | ok fl st' =>
    rw [hq] at hP
    cases fl with
    | rt v => exact fun r' H' e1 S1 v' q => hP r' H' v' e1 S1 q
    | nx env => exact fun r' H' e1 S1 s' q => hP r' H' .non e1 S1 (rep_non.mpr rfl)
    | bk env => exact hP.elim
    | ct env => exact hP.elim
end Mi
namespace Mi
open PySem PySem.Spec PyProof.Rows L2
def fu : Nat := 1000000
/-- where a def of the top stands -/
def Loc (K : PySem.W.Frag) (mg : Str → Option Value) (x : Str) (t : Stmt) : Prop := ∃ f fd, FunD K x x (defArgs t) (defBody t) (defScope t) [] [] f fd ∧ mg x = some (.ref f)
/-- a def that may be called: what it does -/
def Cal (P : Program) (w : World) (K : PySem.W.Frag) (mg : Str → Option Value) (base : Heap) (x : Str) (k : Nat) (ps : List Str) (g : List PV → M PV) : Prop :=
  ∃ f fd, FnM P w K mg base k f fd ps g ∧ mg x = some (.ref f) ∧ PySem.W.keepIn K (.ref f) = true ∧ Binds K fd ps []
theorem Cal.of {P : Program} {w : World} {K : PySem.W.Frag} {mg : Str → Option Value} {base : Heap} {x : Str} {t : Stmt} {N ps : List Str} {k : Nat} {b : Ev → M Flw} (L : Loc K mg x t) (S : FnScope N ps (defScope t))
    (hb : ∀ (kV doc pm : Value) (an : Option Addr) (cdv ct : Value) (us : List Value), us.length = ps.length → bindArgs (PySem.W.fnOf x x (defArgs t) (defBody t) (defScope t) .none kV doc pm an cdv ct) ⟨us, []⟩ = pure (ps.zip us))
    (hbody : ∀ (f : Addr) (cdv : Value) (A : Around) (outer : List Env) (s : Shared) (H : Hp) (E : XK), Room k (A.deeper (envOfC x (defScope t) s.heap.objs.size f cdv)) → A.guards = some [] →
      RSs (cxOf (L2.CX P w) P w K mg base N x (defScope t) f cdv A outer s H E) (defBody t) b) : Cal P w K mg base x (k + 1) ps (runB N.length b) := by
  obtain ⟨f, fd, F, hm⟩ := L
  exact ⟨f, fd, FnM.ofD F S (hbody f), hm, F.kp, F.bindsN hb⟩
theorem Room.units65 {k : Nat} {A : Around} (r : Room k A) : A.units + 65 < cLine := by have := r.un; omega
section
variable {X : Cx}
theorem c_ {k j n : Nat} {ps : List Str} {g : List PV → M PV} {x : Str} {p pos : Pos} {e : Expr} {es : List Expr} {ga : Ev → M (List PV)} (C : Cal X.prog X.w X.K X.mg X.base x k ps g) (hr : Room j X.A) (hgd : X.A.guards = some []) (hg : Gl X x) (ha : RA X (e :: es) ga)
    (hk : k ≤ j := by decide) (hn : ps.length = n := by rfl) (hdb : (x == ("__debug__" : Str)) = false := by decide) (he : starEach (e :: es) X.env = (false, eval e X.env) :: starEach es X.env := by rfl) (hpl : (backTo pos (starEach es X.env)).any (·.1) = false := by rfl) :
    RE X (.Call (.Name x p) (e :: es) [] pos) (xCallN n g ga) := by
  subst hn
  obtain ⟨f, fd, F, hm, kp, hb⟩ := C
  exact re_callN F (hr.mono hk) hgd hg hm kp hb ha hdb he hpl
end
end Mi
namespace Mi
open PySem PySem.Spec PyProof.Rows L2
/-- a tuple among the module's names -/
def GTup (K : PySem.W.Frag) (mg : Str → Option Value) (x : Str) (xs : List PV) : Prop := ∃ a vs, mg x = some (.ref a) ∧ (∀ H, SqT K H a vs) ∧ ∀ r H, RepL K r H xs vs
section
variable {X : Cx} {pos : Pos}
theorem re_gt {x : Str} {xs : List PV} (hg : Gl X x) (h : GTup X.K X.mg x xs) (hd : (x == ("__debug__" : Str)) = false := by decide) : RE X (.Name x pos) (xC (.tup xs)) := by
  obtain ⟨a, vs, h1, h2, h3⟩ := h
  exact re_gtup hg h1 h2 h3 hd
/-! name op= e, of numbers -/
def addI : PV → PV → M PV
  | .int i, .int j => ret (.int (i + j))
  | _, _ => bad
def sAug (o : PV → PV → M PV) (i : Nat) (f : Ev → M PV) : Ev → M Flw := fun env => bnd (xVar i env) fun x => bnd (f env) fun y => bnd (o x y) fun z => ret (.nx (env.set i (some z)))
theorem rs_aug {i : Nat} {x : Str} {e : Expr} {f : Ev → M PV} {op : Operator} {pos' : Pos} {o : PV → PV → M PV} {ip : TIp} (hp : PIp X op ip)
    (hv : ∀ (W : WX) (r : List Addr) (st : Store) (H : Hp) (x y : PV) (x' y' : V) (Q : VK), Sim X.K X.w r st H → Rep X.K r H x x' → Rep X.K r H y y' → Post X W (okV X Q) r H (o x y st) → ip x' y' H Q)
    (hN : X.N.Nodup) (hi : X.N[i]? = some x) (hx : L2.Loc X.env.scope x) (he : RE X e f)
    (hf : X.fn x = true ∨ X.env.scope.names.lookup x = some .local := by first | exact .inl rfl | exact .inr rfl | assumption) : RS X (.AugAssign (.Name x pos') op e pos) (sAug o i f) := by
  intro W tk r st s H env D E S P
  refine w_ps (ps_aug hN hi hx pe_w hp hf) ?_
  unfold sAug at P
  have hP := post_bndE P
  unfold xVar at hP P
  cases h : env[i]? with
  | none => simp only [h] at hP; exact hP.elim
  | some u =>
    cases u with
    | none => simp only [h] at hP; exact hP.elim
    | some v =>
      simp only [h] at P
      obtain ⟨v', e1, e2⟩ := E.2 i v h
      refine ⟨v', e1, ?_⟩
      have P0 : Post X W (okS X D) r H (bnd (f env) (fun y => bnd (o v y) fun z => ret (.nx (env.set i (some z)))) st) := P
      refine he.seq tk E S P0 fun r1 st1 H1 y y' e1 E1 S1 ry P1 => ?_
      refine hv W r1 st1 H1 v y v' y' _ S1 (Ext.rep (by assumption) S e2) ry ((post_bnd P1).imp fun z st2 r2 H2 e3 S2 P2 z' rz => ?_)
      exact Post.now P2 S2 _ ((E1.ext e3 S1).set rz)
theorem rs_aug_add {i : Nat} {x : Str} {e : Expr} {f : Ev → M PV} {pos' : Pos} (hN : X.N.Nodup) (hi : X.N[i]? = some x) (hx : L2.Loc X.env.scope x) (he : RE X e f)
    (hf : X.fn x = true ∨ X.env.scope.names.lookup x = some .local := by first | exact .inl rfl | exact .inr rfl | assumption) : RS X (.AugAssign (.Name x pos') .Add e pos) (sAug addI i f) :=
  rs_aug ip_add (fun W r st H x y x' y' Q S rx ry P => by
    unfold addI at P
    split at P
    · rw [rep_int.mp rx, rep_int.mp ry]
      exact ⟨_, _, rfl, rfl, P.val S (rep_int.mpr rfl)⟩
    · exact P.elim) hN hi hx he hf
theorem rs_aug_sub {i : Nat} {x : Str} {e : Expr} {f : Ev → M PV} {pos' : Pos} (hN : X.N.Nodup) (hi : X.N[i]? = some x) (hx : L2.Loc X.env.scope x) (he : RE X e f)
    (hf : X.fn x = true ∨ X.env.scope.names.lookup x = some .local := by first | exact .inl rfl | exact .inr rfl | assumption) : RS X (.AugAssign (.Name x pos') .Sub e pos) (sAug subV i f) :=
  rs_aug ip_sub (fun W r st H x y x' y' Q S rx ry P => v_sub W r st H x y x' y' Q S rx ry P) hN hi hx he hf
end
end Mi
namespace Mi
open PySem PySem.Spec PyProof.Rows L2
/-! ### enumerate over a tuple -/
theorem enuNew {v : Value} {o : Obj} {Hh : Heap → Prop} (Bg : Begins v o Hh) :
    Meets (Builtin.«enumerate.__new__» ⟨[.type "enumerate", v], []⟩) (fun _ Rr sh => Hh sh.heap ∧
      Rr (.ok (.ret (.ref (sh.heap.push o).objs.size))) { sh with heap := (sh.heap.push o).push { cls := .type "enumerate", data := .fields #[.none, .bool false, .ref sh.heap.objs.size, rawInt 0, .none, .none] } }) :=
  .of_wp fun prog w A Rr sh h => by
    obtain ⟨hp, g, d, tk, os⟩ := sh; obtain ⟨h1, h⟩ := h
    have hsu := sub_enumerate
    have q1 : ∀ {A' : Around} {EE : Value → Shared → Prop} {QQ : Value → Shared → Prop}, QQ (.ref hp.objs.size) ⟨hp.push o, g, d, tk, os⟩ → wpAny (model prog w) A' (pyIter v) QQ EE ⟨hp, g, d, tk, os⟩ :=
      fun q => Bg.iter prog w _ _ ⟨hp, g, d, tk, os⟩ _ h1 q
    wp_walk using q1
    refine wpAny_stack_any fun stk => wpAny_pure ?_
    split
    · rename_i c _ _ _ _ _
      cases (c == Value.type "enumerate")
      · wp_walk using q1
        exact ⟨_, rfl, h⟩
      · wp_walk using q1
        exact ⟨_, rfl, h⟩
    · wp_walk using q1
      exact ⟨_, rfl, h⟩
theorem enuCall {prog : Program} {w : World} {A : Around} {EE : Value → Shared → Prop} {sh : Shared} {v : Value} {o : Obj} {Hh : Heap → Prop} {QQ : Value → Shared → Prop} (Bg : Begins v o Hh) (h1 : Hh sh.heap)
    (h : ∀ h', IsEnum h' (sh.heap.objs.size + 1) sh.heap.objs.size 0 .none → h'.get? sh.heap.objs.size = some o → (∀ b o, sh.heap.get? b = some o → h'.get? b = some o) → QQ (.ref (sh.heap.objs.size + 1)) { sh with heap := h' }) :
    wpAny (model prog w) A (call (.type "enumerate") [v]) QQ EE sh := by
  refine callType_new F.called_enumerate (by decide) (F.typeCall_enumerate_1 _) (F.newCall_enumerate_1 _) (fun ob => F.args_object_init_2 ob _) F.entry_enumerate_new (enuNew Bg) ⟨h1, ?_⟩
  have hz : (sh.heap.push o).objs.size = sh.heap.objs.size + 1 := Heap.size_push ..
  show _ ∧ _
  rw [hz]
  have he : IsEnum ((sh.heap.push o).push { cls := .type "enumerate", data := .fields #[.none, .bool false, .ref sh.heap.objs.size, rawInt 0, .none, .none] }) (sh.heap.objs.size + 1) sh.heap.objs.size 0 .none := by
    have hh := Heap.get?_push_size (sh.heap.push o) (o := { cls := .type "enumerate", data := .fields #[.none, .bool false, .ref sh.heap.objs.size, rawInt 0, .none, .none] }) rfl
    rw [hz] at hh; exact hh
  exact ⟨⟨_, he, rfl⟩, h _ he (Heap.get?_push_of_some _ (Heap.get?_push_size _ Bg.free)) fun b o x => Heap.get?_push_of_some _ (Heap.get?_push_of_some _ x)⟩
def IteT (K : PySem.W.Frag) (a : Addr) : It :=
  ⟨fun i H => ∃ (xs : List V) (x : V), SqT K H a xs ∧ xs[i]? = some x, fun i H v H' => ∃ T x, v = .ref T ∧ H T = none ∧ H' = upd H T (.tup [.int (i : Nat), x]) ∧ ∀ xs, SqT K H a xs → xs[i]? = some x, fun i H => ∃ xs : List V, SqT K H a xs ∧ xs.length ≤ i⟩
theorem turn_enuT {P : Program} {w : World} {K : PySem.W.Frag} {elts : List Expr} {kk : Nat} {tpos : Pos} (a e it : Addr) (hai : a ≠ it) (hae : a ≠ e) :
    Turn P w K (.Tuple elts kk tpos) (IteT K a) [e, it] e (fun i h => (∃ old, IsEnum h e it ((i : Nat) : Int) old) ∧ h.IsTupleIter it a i ∧ e ≠ it) where
  mem := by simp
  obj := fun i h st b hb => by
    obtain ⟨⟨old, he⟩, ⟨o, ho, hc, hd⟩, _⟩ := st
    rcases (by simpa using hb : b = e ∨ b = it) with z | z
    · rw [z]; exact ⟨_, he, fun v q => nomatch q⟩
    · rw [z]; exact ⟨o, ho, fun v q => by rw [hd] at q; cases q⟩
  keep := fun i h h' st k => let ⟨⟨old, he⟩, hi, hne⟩ := st; ⟨⟨old, k e (by simp) _ he⟩, hi.at fun o q => k it (by simp) o q, hne⟩
  item := by
    intro X hP hw hK hc i pins s σ H E I hf st hg
    subst hP hw hK
    obtain ⟨⟨old, he⟩, hit, hne⟩ := st
    obtain ⟨xs, x, hq, hx⟩ := hg
    obtain ⟨its, rv, p, hz⟩ := I.tuple hq
    have pt : s.heap.IsTuple a its.toArray := p
    obtain ⟨u, hu, ru⟩ := rv.get hx
    have hel : e < s.heap.objs.size := Heap.lt_size he
    have hil : it < s.heap.objs.size := by obtain ⟨_, q, _⟩ := hit; exact Heap.lt_size q
    have hlen := (List.getElem?_eq_some_iff.mp hu).1
    have Dr := Draws.tuple (prog := X.prog) (w := X.w) (A := X.A.in1) (I.ok.hd hc) it a hai its.toArray
    refine wpAny_pyNext_enum_itemD Dr he ⟨hit, pt⟩ (by simpa using hlen) hne (by simp only [List.mem_cons, List.not_mem_nil, or_false, not_or]; exact ⟨hne, fun z => hae z.symm⟩) fun y h' tk hy ho hst hT hsz hk => ?_
    obtain ⟨hit', _⟩ := hst
    obtain rfl : y = u := by
      have hy' : its[i]? = some y := by simpa using hy
      rw [hu] at hy'; cases hy'; rfl
    refine ⟨_, rfl, wpAny_letOwnedTupleGo_enum (s := { s with heap := h', toks := tk + 1 }) ho fun h'' he' sb => ?_⟩
    have hT2 : h''.get? s.heap.objs.size = some { cls := .type "tuple", data := .seq #[.int i tk, y] } := (sb.2 _ (Nat.ne_of_gt hel)).trans hT
    have nw : ObjOk X.prog X.w (upd H s.heap.objs.size (.tup [.int (i : Nat), x])) h'' s.heap.objs.size (.tup [.int (i : Nat), x]) := ⟨by show 2 ≤ sizeLine; decide, [.int i tk, y], .cons ⟨_, rfl⟩ (.cons ru .nil), ⟨_, hT2, rfl, _, rfl⟩⟩
    have I1 : Inv X pins σ (upd H s.heap.objs.size (.tup [.int (i : Nat), x])) { s with heap := h'', toks := tk + 1 } :=
      I.turnedNew (t' := tk + 1) (ch := [e, it]) (fun b ob hb q => (sb.2 b (fun z => hb (by simp [z]))).trans (hk b ob (fun z => hb (by simp [z])) (fun z => hb (by simp [z])) q)) hf (Nat.le_refl _) nw
    refine ⟨.ref s.heap.objs.size, _, I1, rfl, ⟨_, x, rfl, I.hok.fresh (Nat.le_refl _), rfl, fun ys hy => by rw [I.tuple_inj hy hq]; exact hx⟩, ⟨⟨y, ?_⟩, hit'.at fun o q => (sb.2 it (Ne.symm hne)).trans q, hne⟩, fun b hb => ?_⟩
    · rw [show ((i + 1 : Nat) : Int) = (i : Int) + 1 by omega]; exact he'
    · have hb' : b < s.heap.objs.size := by
        rcases (by simpa using hb : b = e ∨ b = it) with z | z
        · rw [z]; exact hel
        · rw [z]; exact hil
      rw [upd_ne (Nat.ne_of_lt hb')]
      exact (hf b hb).1
  done := by
    intro X hP hw hK hc i pins s σ H E I hf st hg
    subst hP hw hK
    obtain ⟨⟨old, he⟩, hit, hne⟩ := st
    obtain ⟨xs, hq, hx⟩ := hg
    obtain ⟨its, rv, p, hz⟩ := I.tuple hq
    have pt : s.heap.IsTuple a its.toArray := p
    obtain ⟨f0, f1, f2, f3, f4, f5⟩ := hf it (by simp)
    have hl := rv.length
    have hT : s.TypeIs (.ref e) "enumerate" := ⟨_, he, rfl⟩
    unfold pyNext
    refine wpAny_bind (wpAny_attempt (wpAny_callSpecial?_slot (name := Str.ofString "__next__") hT F.slot_enumerate_next (wpAny_call_entry F.slot_enumerate_next hT F.entry_enumerate_next ?_ (F.args_enumerate_next_1 _))))
    show wpAny _ _ (field (.ref e) 2 >>= _) _ _ _
    refine wpAny_bind (wpAny_field he rfl (x := .ref it) rfl ?_)
    refine wpAny_bind (PySem.wpAny_nextOf_tuple_end (I.ok.hd hc) hit pt (by simp; omega) fun h' x he' hx' => ?_)
    obtain ⟨o, ho, hcl⟩ := hx'
    refine wpAny_bind (wpAny_isInstance (T := "StopIteration") (b := true) ⟨o, ho, hcl⟩ isSubtype_stop ?_)
    exact wpAny_pure ⟨rfl, I.turned (t' := s.toks) (fun b o hb q => he' b o hb q) f0 f1 f3 f4 f5⟩
  self := fun A i s Q E st h => let ⟨⟨_, he⟩, _⟩ := st; wpAny_pyIter_enum he h
def iEnuT (K : PySem.W.Frag) (ta : TA) : TI := fun σ H R => ta σ H fun vs H1 => ∃ a xs, vs = [.ref a] ∧ SqT K H1 a xs ∧ R (IteT K a) H1
theorem pi_enuT {X : Cx} {e : Expr} {ta : TA} {p pos tpos : Pos} {elts : List Expr} {kk : Nat} (hg : Gl X "enumerate") (hm : X.mg "enumerate" = none) (ha : PA X [e] ta) (hs : starEach [e] X.env = [(false, eval e X.env)] := by rfl) :
    PI X (.Tuple elts kk tpos) (.Call (.Name "enumerate" p) [e] [] pos) (iEnuT X.K ta) := by
  refine ⟨fun pins s σ H R I h => ?_⟩
  refine Call_ (ld_blt I hg hm boot_enumerate (PyProof.Rows.callWith_type1 (thn (ha.run pos pins s σ H _ I h) fun us s1 ⟨vs, H1, I1, r1, q1⟩ => ?_) hs rfl))
  obtain ⟨a, xs, ex, hq, q⟩ := q1
  subst ex
  cases r1 with
  | cons r rr =>
    cases rr
    cases r
    obtain ⟨its, rv, p', hz⟩ := I1.tuple hq
    have pt : s1.heap.IsTuple a its.toArray := p'
    have hal : a < s1.heap.objs.size := by obtain ⟨_, q, _⟩ := id pt; exact Heap.lt_size q
    refine enuCall (begins_tuple a its.toArray) pt fun h' he hit hk => wpAny_pyIter_enum he ?_
    have I2 : Inv X pins σ H1 { s1 with heap := h' } := I1.kept (t' := s1.toks) hk
    refine ⟨s1.heap.objs.size + 1, [s1.heap.objs.size + 1, s1.heap.objs.size], _, _, H1, rfl, I2, turn_enuT a (s1.heap.objs.size + 1) s1.heap.objs.size (Nat.ne_of_lt hal) (Nat.ne_of_lt (Nat.lt_succ_of_lt hal)), ⟨⟨.none, he⟩, ⟨_, hit, rfl, rfl⟩, Nat.succ_ne_self _⟩, fun b hb => ?_, q⟩
    have hle : s1.heap.objs.size ≤ b := by
      rcases (by simpa using hb : b = s1.heap.objs.size + 1 ∨ b = s1.heap.objs.size) with z | z
      · rw [z]; exact Nat.le_add_right _ _
      · rw [z]; exact Nat.le_refl _
    exact I1.fpOk hle (I1.hok.fresh hle)
end Mi
namespace Mi
open PySem PySem.Spec PyProof.Rows L2
/-! ### more that is walked -/
def nxC (lo c : Int) (n : Nat) : Nx := fun i _ => if i < n then .item (.int (lo + (i : Nat) * c)) else .stop
def rng3 : List PV → M Nx
  | [.int i, .int j, .int c] => if c ≠ 0 ∧ c.natAbs < 1073741824 ∧ Builtin.Range.small i j c = true ∧ Builtin.Range.rangeSize i j c = ((Builtin.Range.rangeSize i j c).toNat : Nat) then ret (nxC i c (Builtin.Range.rangeSize i j c).toNat) else bad
  | _ => bad
/-- pairs of a number and what stands there -/
def nxE (f : Nx) : Nx := fun i st => match f i st with
  | .stop => .stop
  | .item v => .item (.tup [.int (i : Nat), v])
  | .bad => .bad
def enuI : List PV → M Nx
  | [.tup xs] => ret (nxE (nxT xs))
  | [.loc n] => fun st => match getL n st with
    | some _ => .ok (nxE (nxL n)) st
    | none => .bad
  | _ => bad
def nxZ (f g : Nx) : Nx := fun i st => match f i st, g i st with
  | .bad, _ => .bad
  | _, .bad => .bad
  | .stop, _ => .stop
  | _, .stop => .stop
  | .item v, .item w => .item (.tup [v, w])
def zipI : List PV → M Nx
  | [.tup xs, .tup ys] => ret (nxZ (nxT xs) (nxT ys))
  | [.loc m, .loc n] => fun st => match getL m st, getL n st with
    | some _, some _ => .ok (nxZ (nxL m) (nxL n)) st
    | _, _ => .bad
  | _ => bad
section
variable {X : Cx} {tg : Expr}
theorem jok_rngC {r0 : List Addr} {H0 : Hp} {lo c : Int} {n : Nat} : JOk X r0 H0 (Itc lo c n) (nxC lo c n) := by
  intro i r st H e S
  unfold nxC
  refine ⟨fun q => ?_, fun v q => ?_⟩
  · split at q
    · cases q
    · rename_i h; exact Nat.le_of_not_lt h
  · split at q
    · rename_i h
      cases q
      refine ⟨h, fun x H' y => ?_⟩
      obtain ⟨rfl, rfl⟩ := y
      exact ⟨Ext.refl _ _, S, rep_int.mpr rfl⟩
    · cases q
theorem ri_rng3 {a b c : Expr} {g : Ev → M (List PV)} {p pos : Pos} (hg : Gl X "range") (hm : X.mg "range" = none) (ha : RA X [a, b, c] g)
    (hs : starEach [a, b, c] X.env = (false, eval a X.env) :: starEach [b, c] X.env := by rfl) (hpl : (backTo pos (starEach [b, c] X.env)).any (·.1) = false := by rfl) : RI X tg (.Call (.Name "range" p) [a, b, c] [] pos) (xRng rng3 g) := by
  intro W tk r st s H env R E S P
  refine w_pi (pi_range3 hg hm pa_w hs hpl) ?_
  refine ha.seq tk E S P fun r1 st1 H1 xs xs' e1 E1 S1 rx P1 => ?_
  unfold rng3 at P1
  split at P1
  · split at P1
    · rename_i hz
      simp only [RepL] at rx
      obtain ⟨u, ws, rfl, q1, v, us, rfl, q2, w, zs, rfl, q3, rfl⟩ := rx
      rw [rep_int.mp q1, rep_int.mp q2, rep_int.mp q3]
      exact ⟨_, _, _, _, rfl, ⟨hz.1, hz.2.1, hz.2.2.1, hz.2.2.2⟩, Post.now P1 S1 _ jok_rngC⟩
    · exact P1.elim
  · exact P1.elim
theorem new_pair {K : PySem.W.Frag} {ww : World} {r : List Addr} {H : Hp} {st : Store} {T : Addr} {v w : PV} {v' w' : V} (S : Sim K ww r st H) (hT : H T = none) (h1 : Rep K r H v v') (h2 : Rep K r H w w') :
    Ext r H r (upd H T (.tup [v', w'])) ∧ Sim K ww r st (upd H T (.tup [v', w'])) ∧ Rep K r (upd H T (.tup [v', w'])) (.tup [v, w]) (.ref T) :=
  ⟨Ext.new hT, S.new hT, Rep.newT S hT (repL_cons h1 (RepL.one h2))⟩
theorem jok_enuT {r0 : List Addr} {H0 : Hp} {st0 : Store} {a : Addr} {xs : List PV} {vs : List V} (S0 : Sim X.K X.w r0 st0 H0) (h1 : SqT X.K H0 a vs) (h2 : RepL X.K r0 H0 xs vs) : JOk X r0 H0 (IteT X.K a) (nxE (nxT xs)) := by
  intro i r st H e S
  have k1 : SqT X.K H a vs := e.2 false _ _ h1
  have k2 := e.repL h2
  unfold nxE nxT
  cases q1 : xs[i]? with
  | none => exact ⟨fun _ => ⟨vs, k1, by rw [← k2.length]; exact List.getElem?_eq_none_iff.mp q1⟩, fun v q => (nomatch q)⟩
  | some y =>
    refine ⟨fun q => (nomatch q), fun v q => ?_⟩
    cases q
    obtain ⟨y', e1, e2⟩ := k2.get q1
    refine ⟨⟨vs, y', k1, e1⟩, fun x H' z => ?_⟩
    obtain ⟨T, x', rfl, hT, rfl, hx⟩ := z
    have e3 := hx vs k1
    rw [e1] at e3; cases e3
    exact new_pair S hT (rep_int.mpr rfl) e2
theorem jok_enuL {r0 : List Addr} {H0 : Hp} {n : Nat} {a : Addr} (h1 : r0[n]? = some a) : JOk X r0 H0 (Ite X.K a) (nxE (nxL n)) := by
  intro i r st H e S
  have h2 := e.get h1
  unfold nxE nxL
  cases g : getL n st with
  | none => exact ⟨fun q => (nomatch q), fun v q => (nomatch q)⟩
  | some xs =>
    obtain ⟨b, vs, q2, q3, q4⟩ := S.getL g
    rw [h2] at q2; cases q2
    dsimp only
    cases q1 : xs[i]? with
    | none => exact ⟨fun _ => ⟨vs, q3, by rw [← q4.length]; exact List.getElem?_eq_none_iff.mp q1⟩, fun v q => (nomatch q)⟩
    | some y =>
      refine ⟨fun q => (nomatch q), fun v q => ?_⟩
      cases q
      obtain ⟨y', e1, e2⟩ := q4.get q1
      refine ⟨⟨vs, y', q3, e1⟩, fun x H' z => ?_⟩
      obtain ⟨T, x', rfl, hT, rfl, hx⟩ := z
      have e3 := hx vs q3
      rw [e1] at e3; cases e3
      exact new_pair S hT (rep_int.mpr rfl) e2
theorem ri_enu {e : Expr} {g : Ev → M (List PV)} {p pos tpos : Pos} {elts : List Expr} {kk : Nat} (hg : Gl X "enumerate") (hm : X.mg "enumerate" = none) (ha : RA X [e] g) (hs : starEach [e] X.env = [(false, eval e X.env)] := by rfl) :
    RI X (.Tuple elts kk tpos) (.Call (.Name "enumerate" p) [e] [] pos) (xRng enuI g) := by
  intro W tk r st s H env R E S P
  cases h : g env st with
  | bad => unfold xRng bnd at P; rw [h] at P; exact P.elim
  | exc c f' v e1 st1 =>
    refine w_pi (pi_enum hg hm pa_w hs) ?_
    refine ha W tk r st s H env _ E S ?_
    unfold xRng bnd at P
    rw [h] at P ⊢
    exact P
  | ok x st1 =>
    have hP := post_bndE P
    have key : (∃ n, x = [.loc n]) ∨ ∃ xs, x = [.tup xs] := by
      unfold xRng bnd at P
      rw [h] at P
      dsimp only at P
      unfold enuI at P
      split at P
      · exact .inr ⟨_, rfl⟩
      · exact .inl ⟨_, rfl⟩
      · exact P.elim
    rcases key with ⟨n, rfl⟩ | ⟨xs, rfl⟩
    · refine w_pi (pi_enum hg hm pa_w hs) ?_
      refine ha W tk r st s H env _ E S (hP.imp fun x1 st2 r1 H1 e1 S1 P1 v rv => ?_)
      rw [h] at P1
      obtain ⟨q, P1⟩ := P1
      cases q
      obtain ⟨v', rfl, h1⟩ := repL1 rv
      obtain ⟨a, rfl, h2⟩ := rep_loc.mp h1
      unfold enuI at P1
      dsimp only at P1
      cases g1 : getL n st1 with
      | none => rw [g1] at P1; exact P1.elim
      | some ys =>
        rw [g1] at P1
        obtain ⟨b, vs, q2, q3, q4⟩ := S1.getL g1
        rw [h2] at q2; cases q2
        exact ⟨a, vs, rfl, q3, Post.now P1 S1 _ (jok_enuL h2)⟩
    · refine w_pi (pi_enuT hg hm pa_w hs) ?_
      refine ha W tk r st s H env _ E S (hP.imp fun x1 st2 r1 H1 e1 S1 P1 v rv => ?_)
      rw [h] at P1
      obtain ⟨q, P1⟩ := P1
      cases q
      obtain ⟨v', rfl, h1⟩ := repL1 rv
      obtain ⟨a, vs, rfl, h2, h3⟩ := rep_tup.mp h1
      exact ⟨a, vs, rfl, h2, Post.now (show Post X W (okN X R) r1 H1 (.ok (nxE (nxT xs)) st1) from P1) S1 _ (jok_enuT S1 h2 h3)⟩
theorem jok_zipT {r0 : List Addr} {H0 : Hp} {st0 : Store} {a b : Addr} {xs ys : List PV} {vs ws : List V} (S0 : Sim X.K X.w r0 st0 H0) (h1 : SqT X.K H0 a vs) (h2 : RepL X.K r0 H0 xs vs) (h3 : SqT X.K H0 b ws) (h4 : RepL X.K r0 H0 ys ws) : JOk X r0 H0 (RZ.ItzT X.K a b) (nxZ (nxT xs) (nxT ys)) := by
  intro i r st H e S
  have k1 : SqT X.K H a vs := e.2 false _ _ h1
  have k2 := e.repL h2
  have k3 : SqT X.K H b ws := e.2 false _ _ h3
  have k4 := e.repL h4
  unfold nxZ nxT
  cases q1 : xs[i]? with
  | none =>
    have hl : vs.length ≤ i := by rw [← k2.length]; exact List.getElem?_eq_none_iff.mp q1
    cases q2 : ys[i]? with
    | none => exact ⟨fun _ => ⟨vs, ws, k1, k3, .inl hl⟩, fun v q => (nomatch q)⟩
    | some y => exact ⟨fun _ => ⟨vs, ws, k1, k3, .inl hl⟩, fun v q => (nomatch q)⟩
  | some x =>
    cases q2 : ys[i]? with
    | none => exact ⟨fun _ => ⟨vs, ws, k1, k3, .inr (by rw [← k4.length]; exact List.getElem?_eq_none_iff.mp q2)⟩, fun v q => (nomatch q)⟩
    | some y =>
      refine ⟨fun q => (nomatch q), fun v q => ?_⟩
      cases q
      obtain ⟨x', e1, e2⟩ := k2.get q1
      obtain ⟨y', e3, e4⟩ := k4.get q2
      refine ⟨⟨vs, ws, x', y', k1, k3, e1, e3⟩, fun u H' z => ?_⟩
      obtain ⟨T, x'', y'', rfl, hT, rfl, hx, hy⟩ := z
      have e5 := hx vs k1
      rw [e1] at e5; cases e5
      have e6 := hy ws k3
      rw [e3] at e6; cases e6
      exact new_pair S hT e2 e4
theorem jok_zipL {r0 : List Addr} {H0 : Hp} {m n : Nat} {a b : Addr} (h1 : r0[m]? = some a) (h3 : r0[n]? = some b) : JOk X r0 H0 (Itz X.K a b) (nxZ (nxL m) (nxL n)) := by
  intro i r st H e S
  have k1 := e.get h1
  have k3 := e.get h3
  unfold nxZ nxL
  cases g1 : getL m st with
  | none => exact ⟨fun q => (nomatch q), fun v q => (nomatch q)⟩
  | some xs =>
    obtain ⟨_, vs, p1, p2, p3⟩ := S.getL g1
    rw [k1] at p1; cases p1
    cases g2 : getL n st with
    | none =>
      dsimp only
      cases q1 : xs[i]? with
      | none => exact ⟨fun q => (nomatch q), fun v q => (nomatch q)⟩
      | some x => exact ⟨fun q => (nomatch q), fun v q => (nomatch q)⟩
    | some ys =>
      obtain ⟨_, ws, p4, p5, p6⟩ := S.getL g2
      rw [k3] at p4; cases p4
      dsimp only
      cases q1 : xs[i]? with
      | none =>
        have hl : vs.length ≤ i := by rw [← p3.length]; exact List.getElem?_eq_none_iff.mp q1
        cases q2 : ys[i]? with
        | none => exact ⟨fun _ => ⟨vs, ws, p2, p5, .inl hl⟩, fun v q => (nomatch q)⟩
        | some y => exact ⟨fun _ => ⟨vs, ws, p2, p5, .inl hl⟩, fun v q => (nomatch q)⟩
      | some x =>
        cases q2 : ys[i]? with
        | none => exact ⟨fun _ => ⟨vs, ws, p2, p5, .inr (by rw [← p6.length]; exact List.getElem?_eq_none_iff.mp q2)⟩, fun v q => (nomatch q)⟩
        | some y =>
          refine ⟨fun q => (nomatch q), fun v q => ?_⟩
          cases q
          obtain ⟨x', e1, e2⟩ := p3.get q1
          obtain ⟨y', e3, e4⟩ := p6.get q2
          refine ⟨⟨vs, ws, x', y', p2, p5, e1, e3⟩, fun u H' z => ?_⟩
          obtain ⟨T, x'', y'', rfl, hT, rfl, hx, hy⟩ := z
          have e5 := hx vs p2
          rw [e1] at e5; cases e5
          have e6 := hy ws p5
          rw [e3] at e6; cases e6
          exact new_pair S hT e2 e4
theorem ri_zip {e e2 : Expr} {g : Ev → M (List PV)} {p pos tpos : Pos} {elts : List Expr} {kk : Nat} (hg : Gl X "zip") (hm : X.mg "zip" = none) (ha : RA X [e, e2] g)
    (hs : starEach [e, e2] X.env = (false, eval e X.env) :: starEach [e2] X.env := by rfl) (hpl : (backTo pos (starEach [e2] X.env)).any (·.1) = false := by rfl) : RI X (.Tuple elts kk tpos) (.Call (.Name "zip" p) [e, e2] [] pos) (xRng zipI g) := by
  intro W tk r st s H env R E S P
  refine w_pi (RZ.pi_zipA hg hm pa_w hs hpl) ?_
  refine ha.seq tk E S P fun r1 st1 H1 xs xs' e1 E1 S1 rx P1 => ?_
  unfold zipI at P1
  split at P1
  · obtain ⟨v, w, rfl, q1, q2⟩ := repL2 rx
    obtain ⟨a, vs, rfl, q3, q4⟩ := rep_tup.mp q1
    obtain ⟨b, ws, rfl, q5, q6⟩ := rep_tup.mp q2
    exact ⟨a, b, vs, ws, rfl, .inr ⟨q3, q5, Post.now P1 S1 _ (jok_zipT S1 q3 q4 q5 q6)⟩⟩
  · split at P1
    · rename_i m n _ ys zs g1 g2
      obtain ⟨v, w, rfl, q1, q2⟩ := repL2 rx
      obtain ⟨a, rfl, q3⟩ := rep_loc.mp q1
      obtain ⟨b, rfl, q4⟩ := rep_loc.mp q2
      obtain ⟨_, vs, p1, p2, p3⟩ := S1.getL g1
      rw [q3] at p1; cases p1
      obtain ⟨_, ws, p4, p5, p6⟩ := S1.getL g2
      rw [q4] at p4; cases p4
      exact ⟨a, b, vs, ws, rfl, .inl ⟨p2, p5, Post.now P1 S1 _ (jok_zipL q3 q4)⟩⟩
    · exact P1.elim
  · exact P1.elim
end
end Mi
namespace Mi
open PySem PySem.Spec PyProof.Rows L2
/-! ### a new list over two sources -/
def inF (nx : Nx) (g : PV → Ev → M Ev) (c : Ev → M Bool) (e : Ev → M PV) : Nat → Nat → List PV → Ev → M (List PV)
  | 0, _, _, _ => bad
  | k + 1, j, acc, env => fun st => match nx j st with
    | .stop => .ok acc st
    | .item v => bnd (noX (g v env)) (fun e1 => bnd (noX (c e1)) fun b => if b = true then bnd (noX (e e1)) (fun y => if acc.length < sizeTop then inF nx g c e k (j + 1) (acc ++ [y]) env else bad) else inF nx g c e k (j + 1) acc env) st
    | .bad => .bad
def comp2F (nx : Nx) (g : PV → Ev → M Ev) (c : Ev → M Bool) (fi : Ev → M Nx) (vs1 : List Nat) (g1 : PV → Ev → M Ev) (c1 : Ev → M Bool) (e : Ev → M PV) (n : Nat) : Nat → Nat → List PV → Ev → M PV
  | 0, _, _, _ => bad
  | k + 1, i, acc, env => fun st => match nx i st with
    | .stop => newC (.lst acc) st
    | .item v => bnd (noX (g v env)) (fun e1 => bnd (noX (c e1)) fun b => if b = true then bnd (noX (fi e1)) (fun nx1 => bnd (inF nx1 g1 c1 e n 0 acc (wipeE e1 vs1)) fun acc' => comp2F nx g c fi vs1 g1 c1 e n k (i + 1) acc' env) else comp2F nx g c fi vs1 g1 c1 e n k (i + 1) acc env) st
    | .bad => .bad
def xLc2 (n : Nat) (vs vs1 : List Nat) (fi : Ev → M Nx) (g : PV → Ev → M Ev) (c : Ev → M Bool) (fi1 : Ev → M Nx) (g1 : PV → Ev → M Ev) (c1 : Ev → M Bool) (e : Ev → M PV) : Ev → M PV := fun env => bnd (fi env) fun nx => comp2F nx g c fi1 vs1 g1 c1 e n n 0 [] (wipeE env vs)
section
variable {X : Cx}
abbrev iB (X : Cx) (scope : Scope) (tg iter : Expr) : TI := fun s H R => ∀ (s0 : Shared) (H0 : Hp) (C : Addr) (cl : List (Str × Addr)) (fp : List Addr), WI (X.blk s0 H0 scope (compEnvC scope cl C X.env) fp) tg iter s H R
theorem stayD {D : Addr} {ra : List Addr} {Ha : Hp} {rb : List Addr} {Hb : Hp} {us : List V} (e : Ext ra Ha rb Hb) (n : D ∉ ra) (h : Ha D = some (.lst us)) : D ∉ rb ∧ Hb D = some (.lst us) := by
  obtain ⟨⟨q, rfl, hq⟩, hk⟩ := e
  refine ⟨fun z => ?_, hk D _ h n⟩
  rcases List.mem_append.mp z with z | z
  · exact n z
  · rw [hq D z] at h; cases h
theorem lc2_read {elt tg iter tg1 iter1 : Expr} {ifs ifs1 : List Expr} {scope : Scope} {own : List (Str × Nat)} {n : Nat} {vs1 : List Nat} {fi fi1 : Ev → M Nx} {T T1 : List Nat} {g g1 : PV → Ev → M Ev} {c c1 : Ev → M Bool} {e : Ev → M PV} (hi : RI X tg iter fi)
    (hT : ∀ j ∈ T, j ∈ own.map (·.2)) (hT1 : ∀ j ∈ T1, j ∈ vs1) (hg : Blk X scope fun Y => RG Y tg T g) (ht : Blk X scope fun Y => RTs Y ifs c) (hi1 : Blk X scope fun Y => RI Y tg1 iter1 fi1) (hg1 : Blk X scope fun Y => RG Y tg1 T1 g1) (ht1 : Blk X scope fun Y => RTs Y ifs1 c1)
    (he : Blk X scope fun Y => RE Y elt e) {W : WX} (tk : Takes X W) {r : List Addr} {st : Store} {s : L2.St} {H : Hp} {env : Ev} {Q : VK}
    (E : EnvR X.K r H env s) (S : Sim X.K X.w r st H) (P : Post X W (okV X Q) r H (xLc2 n (own.map (·.2)) vs1 fi g c fi1 g1 c1 e env st)) :
    tLc2 (WI X tg iter) (gB X scope tg) (tB X scope ifs) (iB X scope tg1 iter1) (gB X scope tg1) (tB X scope ifs1) (eB X scope elt) (own.map (·.2)) vs1 s H Q := by
  refine hi W tk r st s H env _ E S ((post_bnd P).imp fun nx st1 r1 H1 e1 S1 P1 J hJ D hD => ?_)
  have E1 := E.ext e1 S
  have hDr : D ∉ r1 := fun z => S1.ne hD D z rfl
  refine ⟨fun i m H => ∃ r st acc acc', Ext r1 H1 r H ∧ EnvR X.K r H (wipeE env (own.map (·.2))) (L2.wipe s (own.map (·.2))) ∧ Sim X.K X.w r st H ∧ D ∉ r ∧ H D = some (.lst acc') ∧ RepL X.K r H acc acc' ∧
    Post X W (okV X Q) r1 H1 (comp2F nx g c fi1 vs1 g1 c1 e n m i acc (wipeE env (own.map (·.2))) st), ⟨n, r1, st1, [], [], Ext.new hD, (E1.ext (Ext.new hD) S1).wipe _, S1.new hD, hDr, upd_same, by simp only [RepL], P1⟩, ?_⟩
  rintro i m H ⟨r, st, acc, acc', e0, E0, S0, d1, d2, d3, P0⟩
  cases m with
  | zero => exact P0.elim
  | succ k =>
    have hj := hJ i r st H (e0.ew S1) S0
    unfold comp2F at P0
    cases h : nx i st with
    | bad => rw [h] at P0; exact P0.elim
    | stop =>
      rw [h] at P0
      refine .inl ⟨hj.1 h, ?_⟩
      obtain ⟨⟨q, rfl, hq⟩, hk⟩ := e0
      refine P0 ((r1 ++ q) ++ [D]) H ⟨⟨q ++ [D], by simp, fun a ha => ?_⟩, hk⟩ (S0.adopt d1 ⟨acc', d2, d3⟩) _ ?_
      · rcases List.mem_append.mp ha with z | z
        · exact hq a z
        · rw [List.mem_singleton.mp z]; exact hD
      · rw [← S0.len]
        exact Rep.last
    | item v =>
      rw [h] at P0
      obtain ⟨hgo, hy⟩ := hj.2 v h
      refine .inr ⟨hgo, fun H => ∃ r st acc acc', Ext r1 H1 r H ∧ EnvR X.K r H (wipeE env (own.map (·.2))) (L2.wipe s (own.map (·.2))) ∧ Sim X.K X.w r st H ∧ D ∉ r ∧ H D = some (.lst acc') ∧ RepL X.K r H acc acc' ∧
        Post X W (okV X Q) r1 H1 (comp2F nx g c fi1 vs1 g1 c1 e n k (i + 1) acc (wipeE env (own.map (·.2))) st), fun H' q => ⟨k, Nat.lt_succ_self k, q⟩, fun x H' y => ?_⟩
      obtain ⟨e2, S2, rv⟩ := hy x H' y
      obtain ⟨d4, d5⟩ := stayD e2 d1 d2
      intro s0 H0 C cl fp
      have P0' : Post X W (okV X Q) r1 H1 (bnd (noX (g v (wipeE env (own.map (·.2))))) (fun e1 => bnd (noX (c e1)) fun b => if b = true then bnd (noX (fi1 e1)) (fun nx1 => bnd (inF nx1 g1 c1 e n 0 acc (wipeE e1 vs1)) fun acc' => comp2F nx g c fi1 vs1 g1 c1 e n k (i + 1) acc' (wipeE env (own.map (·.2)))) else comp2F nx g c fi1 vs1 g1 c1 e n k (i + 1) acc (wipeE env (own.map (·.2)))) st) := P0
      refine hg s0 H0 C cl fp no4 takes0 r st _ H' _ v x _ (E0.ext e2 S0) S2 rv ?_
      unfold bnd noX at P0'
      cases hga : g v (wipeE env (own.map (·.2))) st with
      | bad => rw [hga] at P0'; exact P0'.elim
      | exc _ _ _ _ _ => rw [hga] at P0'; exact P0'.elim
      | ok env1 st3 =>
        rw [hga] at P0'
        intro r3 H3 e3 S3 s3 E3 B3
        refine ⟨wipe_but hT B3, fun s0 H0 C cl fp pins sh I => ?_⟩
        refine ht s0 H0 C cl fp no4 takes0 r3 st3 s3 H3 env1 _ E3 S3 ?_ pins sh I
        dsimp only at P0'
        cases hc1 : c env1 st3 with
        | bad => rw [hc1] at P0'; exact P0'.elim
        | exc _ _ _ _ _ => rw [hc1] at P0'; exact P0'.elim
        | ok b st4 =>
          rw [hc1] at P0'
          intro r4 H4 e4 S4
          obtain ⟨d6, d7⟩ := stayD e3 d4 d5
          obtain ⟨d8, d9⟩ := stayD e4 d6 d7
          have e34 := (e2.trans e3 S2).trans e4 S3
          refine ite_of (b := b) (fun hb => ?_) (fun hb => ?_)
          rotate_left
          · subst hb
            dsimp only at P0'
            rw [if_neg Bool.false_ne_true] at P0'
            exact ⟨r4, st4, acc, acc', e0.trans e34 S0, E0.ext e34 S0, S4, d8, d9, e34.repL S0 d3, P0'⟩
          · subst hb
            intro s0 H0 C cl fp
            refine hi1 s0 H0 C cl fp no4 takes0 r4 st4 s3 H4 env1 _ (E3.ext e4 S3) S4 ?_
            dsimp only at P0'
            rw [if_pos rfl] at P0'
            cases hf1 : fi1 env1 st4 with
            | bad => rw [hf1] at P0'; exact P0'.elim
            | exc _ _ _ _ _ => rw [hf1] at P0'; exact P0'.elim
            | ok nx1 st5 =>
              rw [hf1] at P0'
              dsimp only at P0'
              intro r5 H5 e5 S5 J1 hJ1
              obtain ⟨d10, d11⟩ := stayD e5 d8 d9
              have e05 := e34.trans e5 S4
              have P5 : Post X W (okV X Q) r1 H1 (bnd (inF nx1 g1 c1 e n 0 acc (wipeE env1 vs1)) (fun acc' => comp2F nx g c fi1 vs1 g1 c1 e n k (i + 1) acc' (wipeE env (own.map (·.2)))) st5) := P0'
              refine ⟨fun j l H => ∃ r st acc acc', Ext r1 H1 r H ∧ Ew X.K r5 H5 r H ∧ EnvR X.K r H (wipeE env (own.map (·.2))) (L2.wipe s (own.map (·.2))) ∧ EnvR X.K r H env1 s3 ∧ Sim X.K X.w r st H ∧ D ∉ r ∧ H D = some (.lst acc') ∧ RepL X.K r H acc acc' ∧
                Post X W (okV X Q) r1 H1 (bnd (inF nx1 g1 c1 e l j acc (wipeE env1 vs1)) (fun acc' => comp2F nx g c fi1 vs1 g1 c1 e n k (i + 1) acc' (wipeE env (own.map (·.2)))) st),
                ⟨n, r5, st5, acc, acc', e0.trans e05 S0, Ew.refl _ _, E0.ext e05 S0, E3.ext (e4.trans e5 S4) S3, S5, d10, d11, e05.repL S0 d3, P5⟩, ?_⟩
              rintro j l H ⟨r, st, acc, acc', f0, fw, F0, F3, T0, g1', g2', g3', P6⟩
              cases l with
              | zero => exact P6.elim
              | succ l =>
                have hj1 := hJ1 j r st H fw T0
                unfold inF at P6
                cases hn1 : nx1 j st with
                | bad => unfold bnd at P6; dsimp only at P6; rw [hn1] at P6; exact P6.elim
                | stop =>
                  unfold bnd at P6
                  dsimp only at P6
                  rw [hn1] at P6
                  exact .inl ⟨hj1.1 hn1, r, st, acc, acc', f0, F0, T0, g1', g2', g3', P6⟩
                | item v1 =>
                  obtain ⟨hgo1, hy1⟩ := hj1.2 v1 hn1
                  refine .inr ⟨hgo1, fun H => ∃ r st acc acc', Ext r1 H1 r H ∧ Ew X.K r5 H5 r H ∧ EnvR X.K r H (wipeE env (own.map (·.2))) (L2.wipe s (own.map (·.2))) ∧ EnvR X.K r H env1 s3 ∧ Sim X.K X.w r st H ∧ D ∉ r ∧ H D = some (.lst acc') ∧ RepL X.K r H acc acc' ∧
                    Post X W (okV X Q) r1 H1 (bnd (inF nx1 g1 c1 e l (j + 1) acc (wipeE env1 vs1)) (fun acc' => comp2F nx g c fi1 vs1 g1 c1 e n k (i + 1) acc' (wipeE env (own.map (·.2)))) st), fun H' q => ⟨l, Nat.lt_succ_self l, q⟩, fun x H' y => ?_⟩
                  obtain ⟨t2, T2, rv1⟩ := hy1 x H' y
                  obtain ⟨g4', g5'⟩ := stayD t2 g1' g2'
                  unfold bnd at P6
                  dsimp only at P6
                  rw [hn1] at P6
                  unfold noX at P6
                  dsimp only at P6
                  intro s0 H0 C cl fp
                  refine hg1 s0 H0 C cl fp no4 takes0 r st _ H' _ v1 x _ ((F3.ext t2 T0).wipe vs1) T2 rv1 ?_
                  cases hgb : g1 v1 (wipeE env1 vs1) st with
                  | bad => rw [hgb] at P6; exact P6.elim
                  | exc _ _ _ _ _ => rw [hgb] at P6; exact P6.elim
                  | ok env2 st6 =>
                    rw [hgb] at P6
                    intro r6 H6 t3 T3 s6 E6 B6
                    refine ⟨wipe_but hT1 B6, fun s0 H0 C cl fp pins sh I => ?_⟩
                    refine ht1 s0 H0 C cl fp no4 takes0 r6 st6 s6 H6 env2 _ E6 T3 ?_ pins sh I
                    dsimp only at P6
                    cases hcb : c1 env2 st6 with
                    | bad => rw [hcb] at P6; exact P6.elim
                    | exc _ _ _ _ _ => rw [hcb] at P6; exact P6.elim
                    | ok b st7 =>
                      rw [hcb] at P6
                      intro r7 H7 t4 T4
                      obtain ⟨g6', g7'⟩ := stayD t3 g4' g5'
                      obtain ⟨g8', g9'⟩ := stayD t4 g6' g7'
                      have t34 := (t2.trans t3 T2).trans t4 T3
                      refine ite_of (b := b) (fun hb => ?_) (fun hb => ?_)
                      rotate_left
                      · subst hb
                        dsimp only at P6
                        rw [if_neg Bool.false_ne_true] at P6
                        exact ⟨r7, st7, acc, acc', f0.trans t34 T0, fw.trans (t34.ew T0), F0.ext t34 T0, F3.ext t34 T0, T4, g8', g9', t34.repL T0 g3', P6⟩
                      · subst hb
                        intro s0 H0 C cl fp
                        refine he s0 H0 C cl fp no4 takes0 r7 st7 s6 H7 env2 _ (E6.ext t4 T3) T4 ?_
                        dsimp only at P6
                        rw [if_pos rfl] at P6
                        cases heb : e env2 st7 with
                        | bad => rw [heb] at P6; exact P6.elim
                        | exc _ _ _ _ _ => rw [heb] at P6; exact P6.elim
                        | ok y st8 =>
                          rw [heb] at P6
                          dsimp only at P6
                          intro r8 H8 t5 T5 y' ry
                          obtain ⟨g10', g11'⟩ := stayD t5 g8' g9'
                          have t05 := t34.trans t5 T4
                          by_cases hz : acc.length < sizeTop
                          · rw [if_pos hz] at P6
                            have ra := t05.repL T0 g3'
                            refine ⟨acc', g11', by rw [← ra.length, ← sizeTop_eq]; exact hz, ?_⟩
                            have hu := upd_sqT (K := X.K) (o := .lst (acc' ++ [y'])) g11'
                            have e15 := f0.trans t05 T0
                            refine ⟨r8, st8, acc ++ [y], acc' ++ [y'], ⟨e15.pre, fun a o q1 q2 => ?_⟩, fw.trans ⟨(t05.ew T0).1, fun b a vs h => hu b a vs ((t05.ew T0).2 b a vs h)⟩, (F0.ext t05 T0).lift hu, (F3.ext t05 T0).lift hu, T5.lift hu (upd_codeO g11' trivial) fun b hb => upd_ne fun z => g10' (z ▸ hb), g10', upd_same, (ra.append (RepL.one ry)).lift hu, P6⟩
                            rw [upd_ne (ne_of_none q1 hD)]
                            exact e15.keep a o q1 q2
                          · rw [if_neg hz] at P6
                            exact P6.elim
theorem re_lc2 {elt tg iter tg1 iter1 : Expr} {ifs ifs1 : List Expr} {scope : Scope} {own : List (Str × Nat)} {pos : Pos} {n : Nat} {vs1 : List Nat} {fi fi1 : Ev → M Nx} {T T1 : List Nat} {g g1 : PV → Ev → M Ev} {c c1 : Ev → M Bool} {e : Ev → M PV} (hc : X.calm = true) (hN : X.N.Nodup) (hi : RI X tg iter fi)
    (ok : BlkOk X.N X.env.scope scope own) (hv : ∀ i ∈ vs1, i ∈ own.map (·.2)) (hT : ∀ j ∈ T, j ∈ own.map (·.2)) (hT1 : ∀ j ∈ T1, j ∈ vs1) (hg : Blk X scope fun Y => RG Y tg T g) (ht : Blk X scope fun Y => RTs Y ifs c) (hi1 : Blk X scope fun Y => RI Y tg1 iter1 fi1) (hg1 : Blk X scope fun Y => RG Y tg1 T1 g1)
    (ht1 : Blk X scope fun Y => RTs Y ifs1 c1) (he : Blk X scope fun Y => RE Y elt e) (hs : ∀ x, foldedSetIterable iter X.env x = pure x := by intro _; rfl) (hs1 : ∀ env x, foldedSetIterable iter1 env x = pure x := by intro _ _; rfl) :
    RE X (.ListComp elt [⟨tg, iter, ifs, 0⟩, ⟨tg1, iter1, ifs1, 0⟩] scope pos) (xLc2 n (own.map (·.2)) vs1 fi g c fi1 g1 c1 e) := fun W tk r st s H env Q E S P =>
  w_pe (pe_lc2 (wi := WI X tg iter) (g := gB X scope tg) (tt := tB X scope ifs) (wi1 := iB X scope tg1 iter1) (g1 := gB X scope tg1) (tt1 := tB X scope ifs1) (te := eB X scope elt) hc hN pi_w ok hv (fun s0 H0 C cl fp => ⟨fun pins sh s H v u Q I rv h => wg_run (h s0 H0 C cl fp) pins sh u I rv⟩) (fun s0 H0 C cl fp => ⟨fun pins sh s H Q I h => h s0 H0 C cl fp pins sh I⟩)
    (fun s0 H0 C cl fp => ⟨fun pins sh s H R I h => wi_run (h s0 H0 C cl fp) pins sh I⟩) (fun s0 H0 C cl fp => ⟨fun pins sh s H v u Q I rv h => wg_run (h s0 H0 C cl fp) pins sh u I rv⟩) (fun s0 H0 C cl fp => ⟨fun pins sh s H Q I h => h s0 H0 C cl fp pins sh I⟩)
    (fun s0 H0 C cl fp => ⟨fun pins sh s H Q I h => we_run (h s0 H0 C cl fp) pins sh I⟩) hs hs1) (lc2_read hi hT hT1 hg ht hi1 hg1 ht1 he tk E S P)
end
end Mi
namespace Mi
open PySem PySem.Spec PyProof.Rows L2
/-! ### dicts by keys that are tuples -/
def dtAt (n : Nat) (st : Store) : Option (List (List Key × PV)) := match st[n]? with
  | some (.dt kvs) => some kvs
  | some (.dk []) => some []
  | _ => none
/-- the dict at a lies as xs -/
def TD (w : World) (H : Hp) (a : Addr) (xs : List (List Key × Addr × Value)) : Prop := H a = some (.ext (rawD w a xs)) ∨ (H a = some (.dK []) ∧ xs = [])
def KeysT (K : PySem.W.Frag) (H : Hp) (xs : List (List Key × Addr × Value)) : Prop := ∀ x ∈ xs, SqT K H x.2.1 (x.1.map kV)
section
variable {K : PySem.W.Frag} {w : World} {r : List Addr} {H : Hp} {st : Store}
theorem Sim.dtAt (S : Sim K w r st H) {n : Nat} {kvs : List (List Key × PV)} (h : Mi.dtAt n st = some kvs) : ∃ b xs, r[n]? = some b ∧ TD w H b xs ∧ PairT K r H kvs xs ∧ kvs.length ≤ sizeLine := by
  unfold Mi.dtAt at h
  split at h
  · rename_i kvs' e
    cases h
    obtain ⟨b, h1, xs, h2, h3, h4⟩ := S.get e
    exact ⟨b, xs, h1, .inl h2, h3, h4⟩
  · rename_i e
    cases h
    obtain ⟨b, h1, ws, h2, h3⟩ := S.get e
    simp only [RepD] at h3
    subst h3
    exact ⟨b, [], h1, .inr ⟨h2, rfl⟩, by simp only [PairT], Nat.zero_le _⟩
  · cases h
theorem PairT.keys : ∀ {kvs : List (List Key × PV)} {xs : List (List Key × Addr × Value)}, PairT K r H kvs xs → KeysT K H xs
  | [], xs, h => by simp only [PairT] at h; subst h; exact fun x hx => nomatch hx
  | (k, x) :: ps, xs, h => by
    simp only [PairT] at h
    obtain ⟨b, u, v, ys, rfl, e2, e3, e4, e5⟩ := h
    intro z hz
    rcases List.mem_cons.mp hz with q | q
    · subst q; exact e2
    · exact PairT.keys e5 z q
theorem PairT.len : ∀ {kvs : List (List Key × PV)} {xs : List (List Key × Addr × Value)}, PairT K r H kvs xs → kvs.length = xs.length
  | [], xs, h => by simp only [PairT] at h; subst h; rfl
  | (k, x) :: ps, xs, h => by
    simp only [PairT] at h
    obtain ⟨b, u, v, ys, rfl, e2, e3, e4, e5⟩ := h
    simp [PairT.len e5]
theorem PairT.val : ∀ {kvs : List (List Key × PV)} {xs : List (List Key × Addr × Value)} (k : List Key), PairT K r H kvs xs → (∀ x, getP kvs k = some x → ∃ p v, atKey xs k = some p ∧ RelV v p.2 ∧ Rep K r H x v) ∧ (getP kvs k = none → atKey xs k = none)
  | [], xs, k, h => by simp only [PairT] at h; subst h; exact ⟨fun x e => by simp [getP] at e, fun _ => rfl⟩
  | (j, x) :: ps, xs, k, h => by
    simp only [PairT] at h
    obtain ⟨b, u, v, ys, rfl, e2, e3, e4, e5⟩ := h
    have ih := PairT.val k e5
    by_cases e : j = k
    · subst e
      refine ⟨fun y q => ?_, fun q => ?_⟩
      · simp [getP] at q; subst q; exact ⟨(b, u), v, by simp [atKey], e3, e4⟩
      · simp [getP] at q
    · have q1 : getP ((j, x) :: ps) k = getP ps k := by simp [getP, List.find?_cons, e]
      have q2 : atKey ((j, b, u) :: ys) k = atKey ys k := by simp [atKey, List.find?_cons, e]
      rw [q1, q2]
      exact ih
theorem PairT.repl : ∀ {kvs : List (List Key × PV)} {xs : List (List Key × Addr × Value)} (k : List Key) {y : PV} {v : V} {u : Value}, PairT K r H kvs xs → RelV v u → Rep K r H y v → PairT K r H (kvs.map fun kv => if kv.1 = k then (kv.1, y) else kv) (xs.map (putAt k u))
  | [], xs, k, y, v, u, h, q, q' => by simp only [PairT] at h; subst h; simp [PairT]
  | (j, x) :: ps, xs, k, y, v, u, h, q, q' => by
    simp only [PairT] at h
    obtain ⟨b, u1, v1, ys, rfl, e2, e3, e4, e5⟩ := h
    have ih := PairT.repl k e5 q q'
    by_cases e : j = k
    · simp only [List.map_cons, putAt, if_pos e, PairT]
      exact ⟨b, u, v, _, rfl, e2, q, q', ih⟩
    · simp only [List.map_cons, putAt, if_neg e, PairT]
      exact ⟨b, u1, v1, _, rfl, e2, e3, e4, ih⟩
theorem PairT.snoc : ∀ {kvs : List (List Key × PV)} {xs : List (List Key × Addr × Value)} (k : List Key) {y : PV} {b : Addr} {v : V} {u : Value}, PairT K r H kvs xs → SqT K H b (k.map kV) → RelV v u → Rep K r H y v → PairT K r H (kvs ++ [(k, y)]) (xs ++ [(k, b, u)])
  | [], xs, k, y, b, v, u, h, hb, q, q' => by simp only [PairT] at h; subst h; simp only [List.nil_append, PairT]; exact ⟨b, u, v, [], rfl, hb, q, q', rfl⟩
  | (j, x) :: ps, xs, k, y, b, v, u, h, hb, q, q' => by
    simp only [PairT] at h
    obtain ⟨b1, u1, v1, ys, rfl, e2, e3, e4, e5⟩ := h
    simp only [List.cons_append, PairT]
    exact ⟨b1, u1, v1, _, rfl, e2, e3, e4, PairT.snoc k e5 hb q q'⟩
theorem getP_any {κ : Type} [DecidableEq κ] (kvs : List (κ × PV)) (k : κ) : (kvs.any fun kv => decide (kv.1 = k)) = (getP kvs k).isSome := by
  unfold getP
  rw [Option.isSome_map, List.isSome_find?]
theorem PairT.put {kvs : List (List Key × PV)} {xs : List (List Key × Addr × Value)} (k : List Key) {y : PV} {b : Addr} {v : V} {u : Value} (h : PairT K r H kvs xs) (hb : SqT K H b (k.map kV)) (q : RelV v u) (q' : Rep K r H y v) : PairT K r H (putP kvs k y) (storedH xs k b u) := by
  unfold putP storedH
  rw [getP_any]
  cases e : getP kvs k with
  | none =>
    rw [(h.val k).2 e]
    exact h.snoc k hb q q'
  | some x =>
    obtain ⟨p, v1, e1, _⟩ := (h.val k).1 x e
    rw [e1]
    exact h.repl k q q'
end
section
variable {X : Cx} {pins : List (Addr × Obj)} {σ : L2.St} {H : Hp} {s : Shared} {a b : Addr} {k : List Key} {xs : List (List Key × Addr × Value)}
theorem key_sq (I : Inv X pins σ H s) (h : SqT X.K H b (k.map kV)) : (tupleKind (mixKind X.prog X.w)).is s.heap k b := by
  obtain ⟨its, rv, ⟨o, h1, h2, n, h3⟩, _⟩ := I.tuple h
  exact ⟨o, its.toArray, n, h1, h2, h3, by simpa using items_are rv⟩
theorem mut_td (t : TD X.w H a xs) : Mut (H a) := by
  rcases t with t | ⟨t, _⟩
  · rw [t]; exact True.intro
  · rw [t]; exact True.intro
theorem TD.dict (I : Inv X pins σ H s) (t : TD X.w H a xs) (hk : KeysT X.K H xs) : (a == sysModules) = false ∧ s.heap.DictOfH (tupleKind (mixKind X.prog X.w)) a xs := by
  rcases t with t | ⟨t, rfl⟩
  · obtain ⟨⟨hd, o, es, ep, h1, h2, h3, h4, h5⟩, _, _⟩ := (show ObjOk X.prog X.w H s.heap a (.ext (rawD X.w a xs)) from I.hok a _ t)
    exact ⟨hd, o, es, ep, h1, h2, h3, h4, fun x hx => key_sq I (hk x hx), h5⟩
  · obtain ⟨_, hd, vs, rel, o, es, ep, h1, h2, h3, _, h4, _⟩ := dk_of I.hok t
    cases rel
    have hn : es.toList = [] := by
      generalize es.toList = l at h4
      cases h4
      rfl
    exact ⟨hd, o, es, ep, h1, h2, h3, hn, fun x hx => (List.not_mem_nil hx).elim, List.nodup_nil⟩
theorem td_write {h' : Heap} {t' : Nat} (I : Inv X pins σ H s) (mu : Mut (H a)) (hd : (a == sysModules) = false) (hs : Heap.SameBut a s.heap h') (dd : h'.DictOfH (tupleKind (mixKind X.prog X.w)) a xs) :
    Inv X pins σ (upd H a (.ext (rawD X.w a xs))) { s with heap := h', toks := t' } := by
  obtain ⟨o, es, ep, h1, h2, h3, h4, h5, h6⟩ := dd
  refine d_write I mu hs ⟨o, h1⟩ ⟨⟨hd, o, es, ep, h1, h2, h3, h4, h6⟩, ⟨o, h1⟩, fun ha hb q k => ?_⟩
  obtain ⟨q0, o', es', ep', q1, q2, q3, q4, q5⟩ := q
  exact ⟨q0, o', es', ep', k _ q1, q2, q3, q4, q5⟩
/-- the value at a key -/
theorem td_get {A : Around} {E : Value → Shared → Prop} {p : Addr × Value} {Q : Value → Shared → Prop} (hu : A.units + 1 < cLine) (I : Inv X pins σ H s) (t : TD X.w H a xs) (hk : KeysT X.K H xs) (hb : SqT X.K H b (k.map kV)) (hp : atKey xs k = some p)
    (h : ∀ s', Inv X pins σ H s' → Q p.2 s') : wpAny (model X.prog X.w) A (getItem (.ref a) (.ref b)) Q E s :=
  wpAny_getItem_heap (tupleKind_room_in1 hu) (key_sq I hb) (t.dict I hk).2 hp (h _ (I.tok _))
theorem td_get2 {A : Around} {E : Value → Shared → Prop} {u : Value} {Q : Value → Shared → Prop} (hu : A.units + 1 < cLine) (I : Inv X pins σ H s) (t : TD X.w H a xs) (hk : KeysT X.K H xs) (hb : SqT X.K H b (k.map kV))
    (h : ∀ s', Inv X pins σ H s' → Q (((atKey xs k).map (·.2)).getD u) s') : wpAny (model X.prog X.w) A (call (.builtin "dict.get") [.ref a, .ref b, u]) Q E s := by
  obtain ⟨hd, dd⟩ := t.dict I hk
  exact call_meetsIn PySem.F.slot_dict_get dd.typeIs PySem.F.entry_dict_get (PySem.F.args_dict_get_3 _ _ _) (meetsH_dict_get_default (tupleKind (mixKind X.prog X.w)) a b hd u) ⟨tupleKind_room_in1 hu, k, xs, key_sq I hb, dd, h _ (I.tok _)⟩
theorem td_set {A : Around} {E : Value → Shared → Prop} {u : Value} {Q : Unit → Shared → Prop} (hu : A.units + 1 < cLine) (I : Inv X pins σ H s) (t : TD X.w H a xs) (hk : KeysT X.K H xs) (hb : SqT X.K H b (k.map kV)) (hz : xs.length ≤ sizeLine)
    (h : ∀ s', Inv X pins σ (upd H a (.ext (rawD X.w a (storedH xs k b u)))) s' → Q () s') : wpAny (model X.prog X.w) A (setItem (.ref a) (.ref b) u) Q E s := by
  obtain ⟨hd, dd⟩ := t.dict I hk
  exact wpAny_setItem_heap (hsz := hz) (tupleKind_room_in1 hu) (key_sq I hb) dd fun h' dd' hs => h _ (td_write I (mut_td t) hd hs dd')
theorem td_dictSet {E : Value → Shared → Prop} {u : Value} {Q : Unit → Shared → Prop} (hu : X.A.units < cLine) (I : Inv X pins σ H s) (t : TD X.w H a xs) (hk : KeysT X.K H xs) (hb : SqT X.K H b (k.map kV)) (hz : xs.length ≤ sizeLine)
    (h : ∀ s', Inv X pins σ (upd H a (.ext (rawD X.w a (storedH xs k b u)))) s' → Q () s') : wpAny (model X.prog X.w) X.A (dictSet a (.ref b) u) Q E s := by
  obtain ⟨hd, dd⟩ := t.dict I hk
  exact wpAny_dictSet_heap (hsz := hz) hu (key_sq I hb) dd fun h' dd' hs => h _ (td_write I (mut_td t) hd hs dd')
end
end Mi
namespace Mi
open PySem PySem.Spec PyProof.Rows L2
def ixA : PV → PV → M PV
  | .loc n, .tup ks => fun st => match Mi.dtAt n st, keysT ks with
    | some kvs, some k => match getP kvs k with
      | some v => .ok v st
      | none => .bad
    | _, _ => .bad
  | x, y => ixV x y
def putA : PV → PV → PV → M PV
  | .loc n, .tup ks, v => fun st => match Mi.dtAt n st, keysT ks with
    | some kvs, some k => if kvs.length < sizeTop then .ok .non (st.set n (.dt (putP kvs k v))) else .bad
    | _, _ => .bad
  | x, y, v => putV x y v
def tgSubA (fo fi : Ev → M PV) : PV → Ev → M Ev := fun v env => bnd (fo env) fun o => bnd (fi env) fun i => bnd (putA o i v) fun _ => ret env
/-- d.get(k, x) -/
def getA : PV → PV → PV → M PV
  | .loc n, .tup ks, v => fun st => match Mi.dtAt n st, keysT ks with
    | some kvs, some k => .ok ((getP kvs k).getD v) st
    | _, _ => .bad
  | .loc n, y, v => fun st => match Mi.getD n y st with
    | some o => .ok (o.getD v) st
    | none => .bad
  | _, _, _ => bad
def x3 (o : PV → PV → PV → M PV) (fa fb fc : Ev → M PV) : Ev → M PV := fun env => bnd (fa env) fun x => bnd (fb env) fun y => bnd (fc env) fun z => o x y z
section
variable {K : PySem.W.Frag} {w : World} {r : List Addr} {H : Hp} {st : Store}
theorem Rep.key {xs : List PV} {ks : List Key} {v : V} (h : Rep K r H (.tup xs) v) (e : keysT xs = some ks) : ∃ b, v = .ref b ∧ SqT K H b (ks.map kV) := by
  obtain ⟨b, vs, rfl, h1, h2⟩ := rep_tup.mp h
  rw [rep_keysT e h2] at h1
  exact ⟨b, rfl, h1⟩
/-- the dict is written -/
theorem Sim.putT {n : Nat} {a b : Addr} {kvs : List (List Key × PV)} {xs : List (List Key × Addr × Value)} {k : List Key} {v : V} {u : Value} {y : PV} (S : Sim K w r st H) (h1 : r[n]? = some a) (pt : PairT K r H kvs xs) (hz : kvs.length < sizeLine) (hb : SqT K H b (k.map kV)) (q : RelV v u) (q' : Rep K r H y v) :
    Ext r H r (upd H a (.ext (rawD w a (storedH xs k b u)))) ∧ Sim K w r (st.set n (.dt (putP kvs k y))) (upd H a (.ext (rawD w a (storedH xs k b u)))) := by
  have ee : Ext r H r (upd H a (.ext (rawD w a (storedH xs k b u)))) := Ext.mut (List.mem_of_getElem? h1)
  refine ⟨ee, S.put h1 ⟨_, upd_same, (pt.put k hb q q').ext ee S, ?_⟩⟩
  unfold putP
  split
  · rw [List.length_map]; omega
  · rw [List.length_append]; simp; omega
end
section
variable {X : Cx} {a b c : Expr} {fa fb fc : Ev → M PV} {pos : Pos}
def rIxT2 (X : Cx) : R2 := fun x y H Q => ∃ a b k xs p v, x = .ref a ∧ y = .ref b ∧ TD X.w H a xs ∧ KeysT X.K H xs ∧ SqT X.K H b (k.map kV) ∧ atKey xs k = some p ∧ RelV v p.2 ∧ Q v H
theorem ix_dt (hu : X.A.units + 1 < cLine) : IxR X (rIxT2 X) := by
  intro value slice pins s σ H x y v u Q I rx ry h hs
  obtain ⟨a, b, k, xs, p, w, rfl, rfl, t, hk, hb, hp, hv, q⟩ := h
  obtain rfl : v = Value.ref a := rx
  obtain rfl : u = Value.ref b := ry
  exact tail_any ((t.dict I hk).2.typeIs) PySem.F.slot_dict_getitem.lookup (td_get hu I t hk hb hp fun s3 I3 => ⟨w, H, I3, hv, q⟩) hs
theorem v_ixA : R2V X ixA (fun x y H Q => rIxL X.K x y H Q ∨ rIxT X.K x y H Q ∨ rIxD x y H Q ∨ rIxT2 X x y H Q) := by
  intro W r st H x y x' y' Q S rx ry P
  have old : Post X W (okV X Q) r H (ixV x y st) → rIxL X.K x' y' H Q ∨ rIxT X.K x' y' H Q ∨ rIxD x' y' H Q ∨ rIxT2 X x' y' H Q := fun P => by
    rcases v_ix W r st H x y x' y' Q S rx ry P with h | h | h
    · exact .inl h
    · exact .inr (.inl h)
    · exact .inr (.inr (.inl h))
  unfold ixA at P
  split at P
  · rename_i n ks
    split at P
    · rename_i kvs k e1 e2
      split at P
      · rename_i v e3
        obtain ⟨a, xs, h1, t, pt, _⟩ := S.dtAt e1
        obtain ⟨a', rfl, h2⟩ := rep_loc.mp rx
        rw [h1] at h2; cases h2
        obtain ⟨b, rfl, hb⟩ := ry.key e2
        obtain ⟨p, v', e4, e5, e6⟩ := (pt.val k).1 v e3
        exact .inr (.inr (.inr ⟨a, b, k, xs, p, v', rfl, rfl, t, pt.keys, hb, e4, e5, P.val S e6⟩))
      · exact P.elim
    · exact P.elim
  · exact old P
theorem re_ixA (hu : X.A.units + 1 < cLine) (ha : RE X a fa) (hb : RE X b fb) (hs : PlainIx b := by intro _ _; rfl) : RE X (.Subscript a b pos) (x2 ixA fa fb) := by
  intro W tk r st s H env Q E S P
  refine w_pe (pe_ix (ix_list.or (ix_tup.or ((ix_dict hu).or (ix_dt hu)))) pe_w pe_w hs) ?_
  refine ha.seq tk E S P fun r1 st1 H1 x x' e1 E1 S1 rx P1 => hb.seq tk E1 S1 P1 fun r2 st2 H2 y y' e2 E2 S2 ry P2 => ?_
  exact v_ixA W r2 st2 H2 x y x' y' Q S2 (e2.rep S1 rx) ry P2
def rSetT2 (X : Cx) : TSet := fun o i v H Q => ∃ a b k xs, o = .ref a ∧ i = .ref b ∧ TD X.w H a xs ∧ KeysT X.K H xs ∧ SqT X.K H b (k.map kV) ∧ xs.length ≤ sizeLine ∧ ∀ u, RelV v u → Q (upd H a (.ext (rawD X.w a (storedH xs k b u))))
theorem set_dt (hu : X.A.units + 1 < cLine) : PSet X (rSetT2 X) := by
  intro pins s σ H o i v ov iv u Q I ro ri rv h
  obtain ⟨a, b, k, xs, rfl, rfl, t, hk, hb, hz, q⟩ := h
  obtain rfl : ov = Value.ref a := ro
  obtain rfl : iv = Value.ref b := ri
  exact td_set hu I t hk hb hz fun s' I' => ⟨_, I', q u rv⟩
theorem rg_subA {o i : Expr} {fo fi : Ev → M PV} (hu : X.A.units + 1 < cLine) (ho : RE X o fo) (hi : RE X i fi) (ha : SubA X o i pos := by intro _; rfl) : RG X (.Subscript o i pos) [] (tgSubA fo fi) := by
  intro W tk r st s H env v v' Q E S rv P
  have all : PSet X (fun o i v H Q => (rSetL o i v H Q ∨ rSetD o i v H Q) ∨ rSetT2 X o i v H Q) := by
    intro pins s σ H o i v ov iv u Q I ro ri rv h
    rcases h with (h | h) | h
    · exact set_list pins s σ H o i v ov iv u Q I ro ri rv h
    · exact set_dict hu pins s σ H o i v ov iv u Q I ro ri rv h
    · exact set_dt hu pins s σ H o i v ov iv u Q I ro ri rv h
  refine w_pg (pg_sub pe_w pe_w all ha) ?_
  refine ho.seq tk E S P fun r1 st1 H1 x x' e1 E1 S1 rx P1 => hi.seq tk E1 S1 P1 fun r2 st2 H2 y y' e2 E2 S2 ry P2 => ?_
  have rx2 := e2.rep S1 rx
  have rv2 := e2.rep S1 (e1.rep S rv)
  have old : Post X W (okG X [] s Q) r2 H2 (bnd (putV x y v) (fun _ => ret env) st2) → (rSetL x' y' v' H2 (fun H' => Q s H') ∨ rSetD x' y' v' H2 (fun H' => Q s H')) ∨ rSetT2 X x' y' v' H2 (fun H' => Q s H') := fun P => .inl (v_put S2 E2 rx2 ry rv2 P)
  unfold putA at P2
  split at P2
  · rename_i v0 n ks
    unfold bnd at P2
    dsimp only at P2
    cases e1 : Mi.dtAt n st2 with
    | none => rw [e1] at P2; exact P2.elim
    | some kvs =>
      cases e2 : keysT ks with
      | none => rw [e1, e2] at P2; exact P2.elim
      | some k =>
        rw [e1, e2] at P2
        dsimp only at P2
        by_cases hz : kvs.length < sizeTop
        · rw [if_pos hz] at P2
          obtain ⟨a, xs, h1, t, pt, _⟩ := S2.dtAt e1
          obtain ⟨a', rfl, h2⟩ := rep_loc.mp rx2
          rw [h1] at h2; cases h2
          obtain ⟨b, rfl, hb⟩ := ry.key e2
          rw [sizeTop_eq] at hz
          refine .inr ⟨a, b, k, xs, rfl, rfl, t, pt.keys, hb, by rw [← pt.len]; exact Nat.le_of_lt hz, fun u ru => ?_⟩
          obtain ⟨ee, S3⟩ := S2.putT h1 pt hz hb ru rv2
          exact P2 r2 _ ee S3 s (E2.ext ee S2) (But.refl _ _)
        · rw [if_neg hz] at P2; exact P2.elim
  · exact old P2
def isDk : PV → M Unit
  | .loc n => fun st => match st[n]? with
    | some (.dk _) => .ok () st
    | some (.dt _) => .ok () st
    | _ => .bad
  | _ => bad
def xGet (fa fb fc : Ev → M PV) : Ev → M PV := fun env => bnd (fa env) fun x => bnd (isDk x) fun _ => bnd (fb env) fun y => bnd (fc env) fun z => getA x y z
theorem isDk_at {W : WX} {α : Type} {ok : α → Store → List Addr → Hp → Prop} {r : List Addr} {H : Hp} {st : Store} {x : PV} {x' : V} {k : Unit → M α} (S : Sim X.K X.w r st H) (rx : Rep X.K r H x x') (P : Post X W ok r H (bnd (isDk x) k st)) :
    ∃ n d, x = .loc n ∧ x' = .ref d ∧ r[n]? = some d ∧ Post X W ok r H (k () st) ∧ ∀ pins s sh, Inv X pins s H sh → sh.TypeIs (.ref d) "dict" ∧ (∀ b, Value.ref d = .ref b → ∃ ob, sh.heap.get? b = some ob ∧ ob.dict = none) := by
  unfold isDk at P
  split at P
  · rename_i n
    obtain ⟨d, rfl, h1⟩ := rep_loc.mp rx
    refine ⟨n, d, rfl, rfl, h1, ?_⟩
    unfold bnd at P
    dsimp only at P
    cases e : st[n]? with
    | none => rw [e] at P; exact P.elim
    | some cl =>
      rw [e] at P
      obtain ⟨b, h2, h3⟩ := S.get e
      rw [h1] at h2; cases h2
      cases cl with
      | lst xs => exact P.elim
      | tb q Pa => exact P.elim
      | dk kvs =>
        obtain ⟨ws, h4, _⟩ := h3
        exact ⟨P, fun pins s sh I => let ⟨t1, t2, _⟩ := isD_at I (.inl ⟨ws, .inl h4⟩); ⟨t1, t2⟩⟩
      | dt kvs =>
        obtain ⟨xs, h4, h5, _⟩ := h3
        refine ⟨P, fun pins s sh I => ?_⟩
        obtain ⟨_, dd⟩ := TD.dict I (.inl h4) h5.keys
        refine ⟨dd.typeIs, fun b q => ?_⟩
        cases q
        obtain ⟨ob, _, _, g1, g2, _⟩ := dd
        exact ⟨ob, g1, g2.2.1⟩
  · exact P.elim
theorem getA_run {W : WX} {r : List Addr} {H : Hp} {st : Store} {n : Nat} {d : Addr} {y z : PV} {y' z' : V} {s : L2.St} {Q : VK} (hu : X.A.units + 1 < cLine) (S : Sim X.K X.w r st H) (hn : r[n]? = some d) (ry : Rep X.K r H y y') (rz : Rep X.K r H z z') (P : Post X W (okV X Q) r H (getA (.loc n) y z st)) :
    ∀ pins sh u t, Inv X pins s H sh → RelV y' u → RelV z' t → wpAny (model X.prog X.w) X.A (call (.builtin "dict.get") [.ref d, u, t]) (EP X pins s Q) X.xe sh := by
  intro pins sh u t I ru rt
  have plain : (∀ o, Mi.getD n y st = some o → Post X W (okV X Q) r H (.ok (o.getD z) st) → wpAny (model X.prog X.w) X.A (call (.builtin "dict.get") [.ref d, u, t]) (EP X pins s Q) X.xe sh) := fun o e P => by
    obtain ⟨b, o', h1, _, g, h2, h3⟩ := S.getD ry e
    rw [hn] at h1; cases h1
    refine d_get2 hu I g ru rt fun w' s' I' rw' => ⟨_, H, I', rw', ?_⟩
    cases o with
    | none => rw [h3 rfl]; exact P.val S rz
    | some v =>
      obtain ⟨v', e', rv⟩ := h2 v rfl
      rw [e']
      exact P.val S rv
  have rest : Post X W (okV X Q) r H ((match Mi.getD n y st with | some o => Res.ok (o.getD z) st | none => Res.bad)) → wpAny (model X.prog X.w) X.A (call (.builtin "dict.get") [.ref d, u, t]) (EP X pins s Q) X.xe sh := fun P => by
    cases e : Mi.getD n y st with
    | none => rw [e] at P; exact P.elim
    | some o => rw [e] at P; exact plain o e P
  cases y with
  | tup ks =>
    unfold getA at P
    cases e1 : Mi.dtAt n st with
    | none => simp only [e1] at P; exact P.elim
    | some kvs =>
      cases e2 : keysT ks with
      | none => simp only [e1, e2] at P; exact P.elim
      | some k =>
        simp only [e1, e2] at P
        obtain ⟨a, xs, h1, t1, pt, _⟩ := S.dtAt e1
        rw [hn] at h1; cases h1
        obtain ⟨b, rfl, hb⟩ := ry.key e2
        obtain rfl : u = Value.ref b := ru
        refine td_get2 hu I t1 pt.keys hb fun s' I' => ?_
        cases e3 : getP kvs k with
        | none =>
          rw [(pt.val k).2 e3]
          rw [e3] at P
          exact ⟨z', H, I', rt, P.val S rz⟩
        | some v =>
          obtain ⟨p, v', e4, e5, e6⟩ := (pt.val k).1 v e3
          rw [e4]
          rw [e3] at P
          exact ⟨v', H, I', e5, P.val S e6⟩
  | _ => exact rest P
/-- d.get(k, x) -/
theorem re_dget2 {apos cpos : Pos} (hu : X.A.units + 1 < cLine) (ha : RE X a fa) (hb : RE X b fb) (hc : RE X c fc) (hm : M2 X a "get" apos b c cpos := by exact ⟨rfl, rfl, rfl, rfl⟩) : RE X (.Call (.Attribute a "get" apos) [b, c] [] cpos) (xGet fa fb fc) := by
  intro W tk r st s H env Q E S P
  refine we_mk fun pins sh I => ?_
  have main : WE X a s H (fun x H1 => ∃ d, x = .ref d ∧ (∀ pins s sh, Inv X pins s H1 sh → sh.TypeIs (.ref d) "dict" ∧ (∀ b, Value.ref d = .ref b → ∃ ob, sh.heap.get? b = some ob ∧ ob.dict = none)) ∧
      WE X b s H1 fun y H2 => WE X c s H2 fun z H3 => ∀ pins sh u t, Inv X pins s H3 sh → RelV y u → RelV z t → wpAny (model X.prog X.w) X.A (call (.builtin "dict.get") [.ref d, u, t]) (EP X pins s Q) X.xe sh) := by
    refine ha.seq tk E S P fun r1 st1 H1 x x' e1 E1 S1 rx P1 => ?_
    obtain ⟨n, d, rfl, rfl, hn, P2, ty⟩ := isDk_at S1 rx P1
    refine ⟨d, rfl, ty, ?_⟩
    refine hb.seq tk E1 S1 P2 fun r2 st2 H2 y y' e2 E2 S2 ry P3 => hc.seq tk E2 S2 P3 fun r3 st3 H3 z z' e3 E3 S3 rz P4 => ?_
    exact getA_run hu S3 (e3.get (e2.get hn)) (e3.rep S2 ry) rz P4
  refine wpAny_Call_method hm.base hm.few hm.line PySem.F.plainAttrs_dict PySem.F.slot_dict_get PySem.F.type_dict_get (thn (we_run main pins sh I) fun u s1 ⟨x, H1, I1, rx, d, ex, ty, q1⟩ => ?_)
  subst ex
  obtain rfl : u = Value.ref d := rx
  obtain ⟨t1, t2⟩ := ty _ _ _ I1
  refine ⟨t1, t2, ?_⟩
  rw [hm.trees]
  exact Calls.callWith_builtin rfl (Calls.evalArgs_plain (Calls.spliced_cons (thn (we_run q1 pins s1 I1) fun iv s2 ⟨y, H2, I2, ry, q2⟩ => Calls.spliced_cons (thn (we_run q2 pins s2 I2) fun fv s3 ⟨z, H3, I3, rz, q3⟩ => Calls.spliced_nil (q3 pins s3 iv fv I3 ry rz)))))
end
end Mi
namespace Mi
open PySem PySem.Spec PyProof.Rows L2
/-! ### new dicts -/
def xDNew : Ev → M PV := fun _ => newC (.dk [])
def RepP (K : PySem.W.Frag) (r : List Addr) (H : Hp) : List (PV × PV) → List (V × V) → Prop
  | [], ws => ws = []
  | (x, y) :: ps, ws => ∃ x' y' ws', ws = (x', y') :: ws' ∧ Rep K r H x x' ∧ Rep K r H y y' ∧ RepP K r H ps ws'
def kvsP : List (PV × PV) → Option (List (Key × PV))
  | [] => some []
  | (x, y) :: ps => match keyK x, kvsP ps with
    | some k, some kvs => some ((k, y) :: kvs)
    | _, _ => none
def mergeP (kvs more : List (Key × PV)) : List (Key × PV) := more.foldl (fun acc kv => putP acc kv.1 kv.2) kvs
def dispV (ps : List (PV × PV)) : M PV := match kvsP ps with
  | some kvs => if kvs.length ≤ 15 then newC (.dk (mergeP [] kvs)) else bad
  | none => bad
def pNil : Ev → M (List (PV × PV)) := fun _ => ret []
def pCons (f g : Ev → M PV) (h : Ev → M (List (PV × PV))) : Ev → M (List (PV × PV)) := fun env => bnd (f env) fun x => bnd (g env) fun y => bnd (h env) fun ps => ret ((x, y) :: ps)
def xDisp (f : Ev → M (List (PV × PV))) : Ev → M PV := fun env => bnd (f env) dispV
section
variable {K : PySem.W.Frag} {w : World} {r r1 : List Addr} {H H1 : Hp} {st : Store}
theorem RepP.ext (e : Ext r H r1 H1) (S : Sim K w r st H) : ∀ {ps : List (PV × PV)} {ws : List (V × V)}, RepP K r H ps ws → RepP K r1 H1 ps ws
  | [], ws, h => by simpa only [RepP] using h
  | (x, y) :: ps, ws, h => by
    simp only [RepP] at h ⊢
    obtain ⟨x', y', ws', e1, e2, e3, e4⟩ := h
    exact ⟨x', y', ws', e1, e.rep S e2, e.rep S e3, RepP.ext e S e4⟩
theorem RepP.kvs : ∀ {ps : List (PV × PV)} {ws : List (V × V)} {kvs : List (Key × PV)}, RepP K r H ps ws → kvsP ps = some kvs → ∃ vs, ws = vs.map (fun kv => (kV kv.1, kv.2)) ∧ RepD K r H kvs vs
  | [], ws, kvs, h, e => by
    simp only [RepP] at h; subst h
    simp only [kvsP] at e; cases e
    exact ⟨[], rfl, by simp only [RepD]⟩
  | (x, y) :: ps, ws, kvs, h, e => by
    simp only [RepP] at h
    obtain ⟨x', y', ws', rfl, e2, e3, e4⟩ := h
    simp only [kvsP] at e
    split at e
    · rename_i k kvs' q1 q2
      cases e
      obtain ⟨vs, rfl, h2⟩ := RepP.kvs e4 q2
      refine ⟨(k, y') :: vs, ?_, ?_⟩
      · rw [rep_keyK q1 e2]; rfl
      · simp only [RepD]; exact ⟨y', vs, rfl, e3, h2⟩
    · cases e
theorem RepD.merge : ∀ {more : List (Key × PV)} {ms : List (Key × V)} {kvs : List (Key × PV)} {vs : List (Key × V)}, RepD K r H more ms → RepD K r H kvs vs → RepD K r H (mergeP kvs more) (mergeK vs ms)
  | [], ms, kvs, vs, h, g => by simp only [RepD] at h; subst h; exact g
  | (k, x) :: more, ms, kvs, vs, h, g => by
    simp only [RepD] at h
    obtain ⟨v, ws, rfl, h1, h2⟩ := h
    exact RepD.merge (more := more) (ms := ws) h2 (g.put k h1)
end
def okP (X : Cx) (Q : List (V × V) → Hp → Prop) : List (PV × PV) → Store → List Addr → Hp → Prop := fun ps _ r' H' => ∀ ps', RepP X.K r' H' ps ps' → Q ps' H'
def RPs (X : Cx) (pos : Pos) (keys : List (Option Expr)) (values : List Expr) (f : Ev → M (List (PV × PV))) : Prop := ∃ trs, PPs X pos keys values trs ∧ ∀ W, Takes X W → ∀ r st s H env Q, EnvR X.K r H env s → Sim X.K X.w r st H → Post X W (okP X Q) r H (f env st) → tPairs trs s H Q
section
variable {X : Cx} {pos : Pos}
theorem re_dnew : RE X (.Dict [] [] pos) xDNew := fun W tk r st s H env Q E S P => w_pe pe_dnewK fun p hp => by
  have e : Ext r H (r ++ [p]) (upd H p (.dK [])) := Ext.push hp
  refine P (r ++ [p]) _ e (S.push hp ⟨[], upd_same, by simp only [RepD]⟩) _ ?_
  rw [← S.len]
  exact Rep.last
theorem rps_nil : RPs X pos [] [] pNil := ⟨[], pps_nil, fun W tk r st s H env Q E S P => Post.now (ok := okP X Q) P S [] (by simp only [RepP])⟩
theorem rps_cons {k v : Expr} {ks : List (Option Expr)} {vs : List Expr} {f g : Ev → M PV} {h : Ev → M (List (PV × PV))} (hk : RE X k f) (hv : RE X v g) (hr : RPs X pos ks vs h) : RPs X pos (some k :: ks) (v :: vs) (pCons f g h) := by
  obtain ⟨trs, pp, q⟩ := hr
  refine ⟨(WE X k, WE X v) :: trs, pps_cons pe_w pe_w pp, fun W tk r st s H env Q E S P => ?_⟩
  refine hk.seq tk E S P fun r1 st1 H1 x x' e1 E1 S1 rx P1 => hv.seq tk E1 S1 P1 fun r2 st2 H2 y y' e2 E2 S2 ry P2 => ?_
  refine q W tk r2 st2 s H2 env _ E2 S2 ((post_bnd P2).imp fun ps st3 r3 H3 e3 S3 P3 ps' rp => ?_)
  refine Post.now P3 S3 _ ?_
  simp only [RepP]
  exact ⟨x', y', ps', rfl, e3.rep S2 (e2.rep S1 rx), e3.rep S2 ry, rp⟩
theorem re_disp {keys : List (Option Expr)} {values : List Expr} {f : Ev → M (List (PV × PV))} (h : RPs X pos keys values f) (hall : keys.all (·.isSome) = true := by rfl) (hl : keys.length = values.length := by rfl) (h0 : keys ≠ [] := by intro z; cases z) (h15 : keys.length ≤ 15 := by decide) : RE X (.Dict keys values pos) (xDisp f) := by
  intro W tk r st s H env Q E S P
  obtain ⟨trs, pp, q⟩ := h
  refine w_pe (pe_disp pp hall hl h0 h15) fun p hp => ?_
  have e0 : Ext r H r (upd H p (.dK [])) := Ext.new hp
  have hpr : p ∉ r := fun z => S.ne hp p z rfl
  refine q W tk r st s _ env _ (E.ext e0 S) (S.new hp) ?_
  unfold xDisp bnd at P
  cases hf : f env st with
  | bad => rw [hf] at P; exact P.elim
  | exc c f' v env1 st1 =>
    rw [hf] at P
    have P' : Post X W (okP X fun _ _ => True) r H (.exc c f' v env1 st1) := P
    exact Post.mono (ok := okP X _) (show Post X W (okP X _) r H (.exc c f' v env1 st1) from P) e0 (S.new hp)
  | ok ps st1 =>
    rw [hf] at P
    dsimp only at P
    intro r1 H1 e1 S1 ps' rp
    have e01 := e0.trans e1 (S.new hp)
    have stay : p ∉ r1 ∧ H1 p = some (.dK []) := by
      obtain ⟨⟨z, rfl, hz⟩, hk⟩ := e1
      refine ⟨fun m => ?_, hk p _ upd_same hpr⟩
      rcases List.mem_append.mp m with m | m
      · exact hpr m
      · have := hz p m; rw [upd_same] at this; cases this
    refine ⟨stay.2, ?_⟩
    unfold dispV at P
    cases e : kvsP ps with
    | none => rw [e] at P; exact P.elim
    | some kvs =>
      rw [e] at P
      dsimp only at P
      by_cases hz : kvs.length ≤ 15
      · rw [if_pos hz] at P
        obtain ⟨vs, rfl, rd⟩ := rp.kvs e
        refine ⟨vs, rfl, by rw [← rd.length]; exact hz, ?_⟩
        have hu := upd_sqO (K := X.K) (o := .dK (mergeK [] vs)) stay.2 trivial
        have S2 : Sim X.K X.w r1 st1 (upd H1 p (.dK (mergeK [] vs))) := S1.lift hu (upd_codeO stay.2 trivial) fun b hb => upd_ne fun z => stay.1 (z ▸ hb)
        have rd2 : RepD X.K r1 (upd H1 p (.dK (mergeK [] vs))) (mergeP [] kvs) (mergeK [] vs) := (RepD.merge rd (by simp only [RepD])).lift hu
        have S3 := S2.adopt (D := p) (c := .dk (mergeP [] kvs)) stay.1 ⟨_, upd_same, rd2⟩
        obtain ⟨⟨z, hz1, hz2⟩, hk⟩ := e01
        refine P (r1 ++ [p]) _ ⟨⟨z ++ [p], by rw [hz1, List.append_assoc], fun a ha => ?_⟩, fun a o q1 q2 => ?_⟩ S3 _ ?_
        · rcases List.mem_append.mp ha with m | m
          · exact hz2 a m
          · rw [List.mem_singleton.mp m]; exact hp
        · rw [upd_ne (ne_of_none q1 hp)]
          exact hk a o q1 q2
        · rw [← S1.len]
          exact Rep.last
      · rw [if_neg hz] at P; exact P.elim
end
end Mi
namespace Mi
open PySem PySem.Spec PyProof.Rows L2
/-! ### list(d), the keys tuples -/
def keyP : Key → PV
  | .inl i => .int i
  | .inr x => .str x
def tupP (k : List Key) : PV := .tup (k.map keyP)
def listA : List PV → M PV
  | [.loc n] => fun st => match Mi.dtAt n st with
    | some kvs => newC (.lst (kvs.map fun kv => tupP kv.1)) st
    | none => listV [.loc n] st
  | xs => listV xs
section
variable {K : PySem.W.Frag} {w : World} {r : List Addr} {H : Hp} {st : Store}
theorem repL_keys : ∀ k : List Key, RepL K r H (k.map keyP) (k.map kV)
  | [] => by simp only [List.map_nil, RepL]
  | .inl i :: k => by simp only [List.map_cons, RepL]; exact ⟨_, _, rfl, rep_int.mpr rfl, repL_keys k⟩
  | .inr x :: k => by simp only [List.map_cons, RepL]; exact ⟨_, _, rfl, rep_str.mpr rfl, repL_keys k⟩
theorem rep_tupP {b : Addr} {k : List Key} (h : SqT K H b (k.map kV)) : Rep K r H (tupP k) (.ref b) := rep_tup.mpr ⟨b, _, rfl, h, repL_keys k⟩
theorem PairT.repKeys : ∀ {kvs : List (List Key × PV)} {xs : List (List Key × Addr × Value)}, PairT K r H kvs xs → RepL K r H (kvs.map fun kv => tupP kv.1) (xs.map fun x => V.ref x.2.1)
  | [], xs, h => by simp only [PairT] at h; subst h; simp only [List.map_nil, RepL]
  | (k, x) :: ps, xs, h => by
    simp only [PairT] at h
    obtain ⟨b, u, v, ys, rfl, e2, e3, e4, e5⟩ := h
    simp only [List.map_cons, RepL]
    exact ⟨_, _, rfl, rep_tupP e2, PairT.repKeys e5⟩
end
section
variable {X : Cx}
def rListT2 (X : Cx) : List V → Hp → VK → Prop := fun xs H Q => ∃ d es, xs = [V.ref d] ∧ TD X.w H d es ∧ KeysT X.K H es ∧ es.length ≤ sizeLine ∧ ∀ p, H p = none → Q (.ref p) (upd H p (.lst (es.map fun x => V.ref x.2.1)))
theorem refs_vals : ∀ es : List (List Key × Addr × Value), Vals (es.map fun x => V.ref x.2.1) (es.map fun x => Value.ref x.2.1)
  | [] => .nil
  | _ :: es => .cons rfl (refs_vals es)
theorem call_listT2 (hc : X.calm = true) : CallR X (.type "list") (rListT2 X) := by
  intro pins s σ H xs us Q I rs h
  obtain ⟨d, es, rfl, t, hk, hz, q⟩ := h
  obtain ⟨u, rfl, rx⟩ := rs.one
  cases rx
  obtain ⟨hd, o, ar, ep, ho, hx, hdt, he, _, _⟩ := t.dict I hk
  have l1 : ar.size = es.length := size_of_entries he
  refine PySem.W.kdl_call (kdl_raw hd hx hdt) (I.ok.hd hc) ho (by omega) fun h' tk acc' c' kp e it => ?_
  have ea : acc'.toList = es.map fun x => Value.ref x.2.1 := by
    have hl : acc'.toList.length = es.length := by rw [Array.length_toList, it.1, l1]
    refine List.ext_getElem (by rw [hl, List.length_map]) fun j h1 h2 => ?_
    obtain ⟨en, hen, hv⟩ := it.2 j _ (by rw [← Array.getElem?_toList]; exact List.getElem?_eq_getElem h1)
    have hj : j < es.length := by omega
    have qe := entry_at he j
    rw [hen, List.getElem?_eq_getElem hj] at qe
    rw [hv, Option.some.inj qe, List.getElem_map]
    rfl
  refine ⟨.ref s.heap.objs.size, _, I.laid (t' := tk) (o := .lst (es.map fun x => V.ref x.2.1)) kp (Nat.le_refl _) ⟨by rw [List.length_map]; exact hz, acc'.toList, c', by rw [ea]; exact refs_vals es, by rw [Array.toArray_toList]; exact e⟩, rfl, q _ (I.hok.fresh (Nat.le_refl _))⟩
theorem c_listA : RCV X listA (fun xs H Q => (∃ p ys, xs = [.ref p] ∧ (SqL X.K H p ys ∨ SqT X.K H p ys) ∧ ∀ l, H l = none → Q (.ref l) (upd H l (.lst ys))) ∨ rListT2 X xs H Q) := by
  intro W r st H xs vs Q S rx P
  unfold listA at P
  split at P
  · rename_i n
    cases e : Mi.dtAt n st with
    | none => rw [e] at P; exact .inl (c_list W r st H _ vs Q S rx P)
    | some kvs =>
      rw [e] at P
      obtain ⟨v, rfl, h1⟩ := repL1 rx
      obtain ⟨a, rfl, h2⟩ := rep_loc.mp h1
      obtain ⟨b, es, h3, t, pt, hz⟩ := S.dtAt e
      rw [h2] at h3; cases h3
      exact .inr ⟨a, es, rfl, t, pt.keys, by rw [← pt.len]; exact hz, fun p hp => P.newL S hp pt.repKeys⟩
  · exact .inl (c_list W r st H _ vs Q S rx P)
theorem b_listA {e : Expr} {es : List Expr} {g : Ev → M (List PV)} {p pos : Pos} (hc : X.calm = true) (hm : X.mg "list" = none) (hg : Gl X "list") (ha : RA X (e :: es) g) (he : starEach (e :: es) X.env = (false, eval e X.env) :: starEach es X.env := by rfl) (hpl : (backTo pos (starEach es X.env)).any (·.1) = false := by rfl) :
    RE X (.Call (.Name "list" p) (e :: es) [] pos) (xA listA g) := re_callTy (call_list_of.or (call_listT2 hc)) c_listA hg hm boot_list' ha (by decide) (by decide) he hpl
end
end Mi
namespace Mi
open PySem PySem.Spec PyProof.Rows L2
/-! ### a new dict, made key by key -/
/-- what stands behind D[y] = z in a comprehension -/
abbrev DsT := Addr → V → V → Hp → (Hp → Prop) → Prop
def PDs (Y : Cx) (ds : DsT) : Prop := ∀ (pins : List (Addr × Obj)) (s : Shared) (σ : L2.St) (H : Hp) (D : Addr) (y z : V) (u t : Value) (N : Hp → Prop) (E : Value → Shared → Prop), Inv Y pins σ H s → RelV y u → RelV z t → ds D y z H N →
  wpAny (model Y.prog Y.w) Y.A (dictSet D u t) (fun _ s' => ∃ H', Inv Y pins σ H' s' ∧ N H') E s
def rDs (X : Cx) : DsT := fun D y z H N => (∃ kvs k, y = kV k ∧ H D = some (.dK kvs) ∧ kvs.length < sizeLine ∧ N (upd H D (.dK (putK kvs k z)))) ∨
  ∃ xs k b, y = .ref b ∧ TD X.w H D xs ∧ KeysT X.K H xs ∧ SqT X.K H b (k.map kV) ∧ xs.length ≤ sizeLine ∧ ∀ u, RelV z u → N (upd H D (.ext (rawD X.w D (storedH xs k b u))))
theorem pds_of {Y : Cx} (hu : Y.A.units < cLine) : PDs Y (rDs Y) := by
  intro pins s σ H D y z u t N E I ry rz h
  rcases h with ⟨kvs, k, rfl, hD, hz, q⟩ | ⟨xs, k, b, rfl, td, hk, hb, hz, q⟩
  · exact d_dictSet I hD hz ry rz fun s' I' => ⟨_, I', q⟩
  · obtain rfl : u = Value.ref b := ry
    exact td_dictSet hu I td hk hb hz fun s' I' => ⟨_, I', q t rz⟩
section
variable {X : Cx}
def tDcA (wi : TI) (g : TG) (tt : TT) (tk tv : TE) (ds : DsT) (vs : List Nat) : TE := fun σ H Q => wi σ H fun J H1 => ∀ D, H1 D = none → ∃ W : Nat → Nat → Hp → Prop, (∃ m, W 0 m (upd H1 D (.dK []))) ∧ ∀ i m H, W i m H →
  (J.stop i H ∧ Q (.ref D) H) ∨ (J.go i H ∧ ∃ Nx : Hp → Prop, (∀ H', Nx H' → ∃ m', m' < m ∧ W (i + 1) m' H') ∧ ∀ x H', J.yld i H x H' → g x (L2.wipe σ vs) H' fun σ2 H2 => L2.wipe σ2 vs = L2.wipe σ vs ∧ tt σ2 H2 fun b H3 =>
    if b = true then tk σ2 H3 fun y H4 => tv σ2 H4 fun z H5 => ds D y z H5 Nx else Nx H3)
theorem pe_dcA {kx vx tg iter : Expr} {ifs : List Expr} {scope : Scope} {own : List (Str × Nat)} {pos : Pos} {wi : TI} {g : TG} {tt : TT} {tk tv : TE} {ds : DsT} (hc : X.calm = true) (hN : X.N.Nodup) (hi : PI X tg iter wi) (ok : BlkOk X.N X.env.scope scope own) (hg : Blk X scope fun Y => PG Y tg g) (ht : Blk X scope fun Y => PTs Y ifs tt) (hk : Blk X scope fun Y => PE Y kx tk)
    (he : Blk X scope fun Y => PE Y vx tv) (hd : Blk X scope fun Y => PDs Y ds) (hs : ∀ x, foldedSetIterable iter X.env x = pure x) : PE X (.DictComp kx vx [⟨tg, iter, ifs, 0⟩] scope pos) (tDcA wi g tt tk tv ds (own.map (·.2))) := by
  refine ⟨fun pins sA σ HA Q I h => ?_⟩
  rw [arm_eval_DictComp]
  have hfr : ∀ y ∈ scope.names, y.2 = .free → ∃ c, X.env.cells.lookup y.1 = some c := fun y hy e => (ok.free y hy e).elim (fun k => I.ok.has _ (.inl k)) fun k => I.ok.has _ (.inr k)
  refine wpAny_comprehension_free (use := none) rfl hs (closure_ok hfr) ok.kind (fun y hy e => by rw [ok.uniq y hy, e]) (thn (hi.run pins sA σ HA _ I h) fun xv sB hx => thn hx fun itv sC hC => ?_)
  obtain ⟨it, fp, tn, J, HC, rfl, IC, T, stC, fC, q⟩ := hC
  refine wpAny_newObj_type (newEnv_comp ?_)
  generalize hDa : sC.heap.objs.size = D
  have hDn : HC D = none := IC.hok.fresh (Nat.le_of_eq hDa)
  obtain ⟨W, ⟨m0, w0⟩, turn⟩ := q D hDn
  generalize hsD : ({ sC with heap := sC.heap.push { cls := .type "dict", data := .dict #[] } } : Shared) = sD
  have ID : Inv X pins σ (upd HC D (.dK [])) sD := by
    rw [← hsD]
    exact IC.laid (t' := sC.toks) (fun b o e => Heap.get?_push_of_some _ e) (Nat.le_of_eq hDa) (by rw [← hDa]; exact dk_empty sC.heap IC.big)
  have hpD : sD.heap = sC.heap.push { cls := .type "dict", data := .dict #[] } := by rw [← hsD]
  have szf : ∀ b ∈ fp, b < sC.heap.objs.size := fun b hb => let ⟨o, e, _⟩ := T.obj _ _ stC b hb; Heap.lt_size e
  have fD : ∀ b ∈ fp, FpOk X pins (upd HC D (.dK [])) b ∧ b < sD.heap.objs.size := fun b hb => ⟨⟨by rw [upd_ne (by rw [← hDa]; exact Nat.ne_of_lt (szf b hb))]; exact (fC b hb).1, (fC b hb).2⟩, by rw [hpD, Heap.size_push]; exact Nat.lt_succ_of_lt (szf b hb)⟩
  have stD : tn 0 sD.heap := T.keep _ _ _ stC fun b _ o e => by rw [hpD]; exact Heap.get?_push_of_some _ e
  have IE := block_start ID ok hN fD
  have pg := hg sD (upd HC D (.dK [])) sD.heap.objs.size (cellsFrom (sD.heap.objs.size + 1) scope.names (cloFrom X.env.cells scope.names [])) fp
  have pt := ht sD (upd HC D (.dK [])) sD.heap.objs.size (cellsFrom (sD.heap.objs.size + 1) scope.names (cloFrom X.env.cells scope.names [])) fp
  have pk := hk sD (upd HC D (.dK [])) sD.heap.objs.size (cellsFrom (sD.heap.objs.size + 1) scope.names (cloFrom X.env.cells scope.names [])) fp
  have pv := he sD (upd HC D (.dK [])) sD.heap.objs.size (cellsFrom (sD.heap.objs.size + 1) scope.names (cloFrom X.env.cells scope.names [])) fp
  have pd := hd sD (upd HC D (.dK [])) sD.heap.objs.size (cellsFrom (sD.heap.objs.size + 1) scope.names (cloFrom X.env.cells scope.names [])) fp
  show codeAny _ _ (.compStart (.DictComp kx vx [⟨tg, iter, ifs, 0⟩] scope pos) 0 (.ref it) (.ref D) (compEnvC scope (cellsFrom (sD.heap.objs.size + 1) scope.names (cloFrom X.env.cells scope.names [])) sD.heap.objs.size X.env)) (compPost (model X.prog X.w) X.A X.xe none _ (.ref D) sD.heap.objs.size) { sD with heap := pushCells (sD.heap.push { cls := .type "dict", data := .dict #[] }) scope.names }
  have nfp : ∀ b ∈ fp, (upd HC D (.dK [])) b = none := fun b hb => (fD b hb).1.1
  generalize hce : compEnvC scope (cellsFrom (sD.heap.objs.size + 1) scope.names (cloFrom X.env.cells scope.names [])) sD.heap.objs.size X.env = ce at IE pg pt pk pv pd ⊢
  have cL : ce.locals = sD.heap.objs.size := by subst hce; rfl
  generalize hHD : upd HC D (.dK []) = HD at ID IE pg pt pk pv pd w0 nfp fD
  generalize hsE : ({ sD with heap := pushCells (sD.heap.push { cls := .type "dict", data := .dict #[] }) scope.names } : Shared) = sE at IE ⊢
  have stE : tn 0 sE.heap := T.keep _ _ _ stD fun b _ o e => by rw [← hsE]; exact pushCells_keeps _ _ _ _ (Heap.get?_push_of_some _ e)
  have stat : ∀ {σ' : L2.St} {H' : Hp} {s' : Shared}, Inv (X.blk sD HD scope ce fp) [] σ' H' s' → (∀ b ∈ fp, H' b = none) → ∀ b ∈ fp, FpOk (X.blk sD HD scope ce fp) [] H' b := fun {σ' H' s'} I' hn b hb =>
    ⟨hn b hb, (I'.ok.exf b hb).1, I'.ok.exfs b hb, .inl hb, fun x c e => (I'.ok.exf b hb).2 x c e, fun p hp => absurd (show p ∈ ([] : List (Addr × Obj)) ++ [] from hp) (by simp)⟩
  refine codeAny_compStart_dict ?_ (T.self X.A 0 _ _ _ stE ?_)
  all_goals
    refine compLoop_anyD (fun n s' => ∃ i H', Inv (X.blk sD HD scope ce fp) [] (L2.wipe σ (own.map (·.2))) H' s' ∧ tn i s'.heap ∧ (∀ b ∈ fp, H' b = none) ∧ W i n H') ?_ m0 ⟨0, HD, IE, stE, nfp, w0⟩
    rintro n sF ⟨i, HF, IF, stF, nF, wF⟩
    rcases turn i n HF wF with ⟨stop, qq⟩ | ⟨go, Nx, hNx, step⟩
    · refine thnF (T.done (X.blk sD HD scope ce fp) rfl rfl rfl hc i [] sF _ HF (fun _ _ => False) IF (stat IF nF) stF stop) fun r sG ⟨hr, IG⟩ => ?_
      subst hr
      have IR : Inv X pins σ HF sG := ID.call' (ch := fp) IG.os IG.base IG.hok IG.bare fun b hb => ⟨(fD b hb).1.2.2.2.1, (fD b hb).1.2.1, (fD b hb).1.2.2.2.2.1, (fD b hb).1.2.2.2.2.2⟩
      have nC : HF sD.heap.objs.size = none := by
        have z : HF ce.locals = none := IG.free
        rwa [cL] at z
      obtain ⟨m, hn, _⟩ := IG.loc
      have hn : sG.heap.Ns ce.locals m := hn
      rw [cL] at hn
      obtain ⟨f0, f1, f2, f3, f4, f5⟩ := ID.fpOk (Nat.le_refl _) (show HD sD.heap.objs.size = none from ID.hok.fresh (Nat.le_refl _))
      exact ⟨m, hn, fun h'' sb => ⟨.ref D, HF, IR.turned (t' := sG.toks) (fun b o hb e => (sb.2 b hb).trans e) nC f1 f3 f4 f5, rfl, qq⟩⟩
    · refine thnF (T.item (X.blk sD HD scope ce fp) rfl rfl rfl hc i [] sF _ HF (fun _ _ => False) IF (stat IF nF) stF go) fun r sG ⟨u, hr, hG⟩ => ?_
      subst hr
      refine thnF hG fun _ sH ⟨x, HH, IH, rH, yH, stH, nH⟩ => ?_
      refine thnF (pg.run _ sH _ HH x u _ (IH.pinned (stat IH nH) (T.obj _ _ stH)) rH (step x HH yH)) fun _ sJ ⟨σ8, HJ, IJ, hwJ, qJ⟩ => ?_
      refine thnF (pt.run _ sJ σ8 HJ _ IJ qJ) fun b sK ⟨HK, IK, qK⟩ => ?_
      have fin : ∀ {s' : Shared} {H' : Hp}, Inv (X.blk sD HD scope ce fp) ([] ++ pinsAt fp sH.heap) σ8 H' s' → Nx H' → ∃ m, m < n ∧ ∃ i H', Inv (X.blk sD HD scope ce fp) [] (L2.wipe σ (own.map (·.2))) H' s' ∧ tn i s'.heap ∧ (∀ b ∈ fp, H' b = none) ∧ W i m H' := fun {s' H'} I' nx => by
        obtain ⟨m', hm, w'⟩ := hNx H' nx
        have pin' : ∀ b ∈ fp, ∀ o, sH.heap.get? b = some o → s'.heap.get? b = some o ∧ H' b = none := fun b hb o e => let z := I'.pin (b, o) (List.mem_append_right _ (List.mem_append_right _ (mem_pinsAt hb e))); ⟨z.1, z.2.1⟩
        refine ⟨m', hm, i + 1, H', (I'.unpinned (pins := [])).weak (by rw [← hwJ, wipe_length]) (fun j v e => ?_), T.keep _ _ _ stH fun b hb o e => (pin' b hb o e).1, fun b hb => let ⟨o, e, _⟩ := T.obj _ _ stH b hb; (pin' b hb o e).2, w'⟩
        rw [← hwJ] at e
        exact (wipe_some e).1
      cases b with
      | false =>
        simp only [Bool.false_eq_true, if_false] at qK ⊢
        exact fin IK qK
      | true =>
        simp only [if_true] at qK ⊢
        refine thnF (pk.run _ sK σ8 HK _ IK qK) fun z sL ⟨yk, HL, IL, rL, qL⟩ => thnF (pv.run _ sL σ8 HL _ IL qL) fun z2 sM ⟨yv, HM, IM, rM, qM⟩ => ?_
        exact thnF (pd _ sM σ8 HM D yk yv z z2 _ _ IM rL rM qM) fun _ sN ⟨HN, IN, nx⟩ => fin IN nx
end
end Mi
namespace Mi
open PySem PySem.Spec PyProof.Rows L2
def putC : Cell → PV → PV → Option Cell
  | .dk kvs, k, v => match keyK k with
    | some j => if kvs.length < sizeTop then some (.dk (putP kvs j v)) else none
    | none => match kvs, k with
      | [], .tup ks => match keysT ks with
        | some j => some (.dt (putP [] j v))
        | none => none
      | _, _ => none
  | .dt kvs, .tup ks, v => match keysT ks with
    | some j => if kvs.length < sizeTop then some (.dt (putP kvs j v)) else none
    | none => none
  | _, _, _ => none
def dcF (nx : Nx) (g : PV → Ev → M Ev) (c : Ev → M Bool) (kx vx : Ev → M PV) : Nat → Nat → Cell → Ev → M PV
  | 0, _, _, _ => bad
  | k + 1, i, acc, env => fun st => match nx i st with
    | .stop => newC acc st
    | .item v => bnd (noX (g v env)) (fun e1 => bnd (noX (c e1)) fun b => if b = true then bnd (noX (kx e1)) (fun y => bnd (noX (vx e1)) fun z => match putC acc y z with
      | some acc' => dcF nx g c kx vx k (i + 1) acc' env
      | none => bad) else dcF nx g c kx vx k (i + 1) acc env) st
    | .bad => .bad
def xDc (n : Nat) (vs : List Nat) (fi : Ev → M Nx) (g : PV → Ev → M Ev) (c : Ev → M Bool) (kx vx : Ev → M PV) : Ev → M PV := fun env => bnd (fi env) fun nx => dcF nx g c kx vx n 0 (.dk []) (wipeE env vs)
section
variable {X : Cx}
theorem putC_ok {r : List Addr} {H : Hp} {D : Addr} {acc acc' : Cell} {y z : PV} {y' z' : V} {N : Hp → Prop} (hc : CellR X.K X.w r H D acc) (ry : Rep X.K r H y y') (rz : Rep X.K r H z z') (e : putC acc y z = some acc')
    (hN : ∀ o, (∀ b a vs, SqB X.K H b a vs → SqB X.K (upd H D o) b a vs) → (∀ c q, H c = some (LamX.CodeO c q) → upd H D o c = some (LamX.CodeO c q)) → CellR X.K X.w r (upd H D o) D acc' → N (upd H D o)) : rDs X D y' z' H N := by
  cases acc with
  | lst xs => unfold putC at e; cases e
  | tb q P => unfold putC at e; cases e
  | dk kvs =>
    obtain ⟨ws, hD, rd⟩ := hc
    unfold putC at e
    dsimp only at e
    cases hk : keyK y with
    | some j =>
      rw [hk] at e
      dsimp only at e
      by_cases hz : kvs.length < sizeTop
      · rw [if_pos hz] at e
        cases e
        refine .inl ⟨ws, j, rep_keyK hk ry, hD, by rw [← rd.length, ← sizeTop_eq]; exact hz, ?_⟩
        have hu := upd_sqO (K := X.K) (o := .dK (putK ws j z')) hD trivial
        exact hN _ hu (upd_codeO hD trivial) ⟨_, upd_same, (rd.put j rz).lift hu⟩
      · rw [if_neg hz] at e; cases e
    | none =>
      rw [hk] at e
      dsimp only at e
      split at e
      · rename_i _ ks
        cases hj : keysT ks with
        | none => rw [hj] at e; cases e
        | some j =>
          rw [hj] at e
          cases e
          simp only [RepD] at rd
          subst rd
          obtain ⟨b, rfl, hb⟩ := ry.key hj
          refine .inr ⟨[], j, b, rfl, .inr ⟨hD, rfl⟩, (fun x hx => nomatch hx), hb, Nat.zero_le _, fun u ru => ?_⟩
          have hu := upd_sqO (K := X.K) (o := .ext (rawD X.w D (storedH [] j b u))) hD trivial
          have pt : PairT X.K r H [] [] := by simp only [PairT]
          exact hN _ hu (upd_codeO hD trivial) ⟨_, upd_same, (pt.put j hb ru rz).lift hu, by rw [sizeLine_eq]; simp [putP]⟩
      · cases e
  | dt kvs =>
    obtain ⟨xs, hD, pt, hl⟩ := hc
    cases y with
    | tup ks =>
      unfold putC at e
      dsimp only at e
      cases hj : keysT ks with
      | none => rw [hj] at e; cases e
      | some j =>
        rw [hj] at e
        dsimp only at e
        by_cases hz : kvs.length < sizeTop
        · rw [if_pos hz] at e
          cases e
          obtain ⟨b, rfl, hb⟩ := ry.key hj
          refine .inr ⟨xs, j, b, rfl, .inl hD, pt.keys, hb, by rw [← pt.len]; exact hl, fun u ru => ?_⟩
          have hu := upd_sqO (K := X.K) (o := .ext (rawD X.w D (storedH xs j b u))) hD ⟨_, _, _, rfl⟩
          refine hN _ hu (upd_codeO hD ⟨_, _, _, rfl⟩) ⟨_, upd_same, (pt.put j hb ru rz).lift hu, ?_⟩
          rw [sizeTop_eq] at hz
          unfold putP
          split
          · rw [List.length_map]; omega
          · rw [List.length_append]; simp; omega
        · rw [if_neg hz] at e; cases e
    | _ => unfold putC at e; cases e
theorem stayO {D : Addr} {ra : List Addr} {Ha : Hp} {rb : List Addr} {Hb : Hp} {o : HO} (e : Ext ra Ha rb Hb) (n : D ∉ ra) (h : Ha D = some o) : D ∉ rb ∧ Hb D = Ha D := by
  obtain ⟨⟨q, rfl, hq⟩, hk⟩ := e
  refine ⟨fun z => ?_, (hk D _ h n).trans h.symm⟩
  rcases List.mem_append.mp z with z | z
  · exact n z
  · rw [hq D z] at h; cases h
theorem CellR.there {K : PySem.W.Frag} {w : World} {r : List Addr} {H : Hp} {D : Addr} {c : Cell} (h : CellR K w r H D c) : ∃ o, H D = some o := by
  cases c with
  | lst xs => obtain ⟨vs, e, _⟩ := h; exact ⟨_, e⟩
  | dk kvs => obtain ⟨ws, e, _⟩ := h; exact ⟨_, e⟩
  | dt kvs => obtain ⟨ws, e, _⟩ := h; exact ⟨_, e⟩
  | tb q P => obtain ⟨_, ws, e, _⟩ := h; exact ⟨_, e⟩
theorem stayC {K : PySem.W.Frag} {w : World} {D : Addr} {ra : List Addr} {Ha : Hp} {rb : List Addr} {Hb : Hp} {st : Store} {c : Cell} (e : Ext ra Ha rb Hb) (S : Sim K w ra st Ha) (n : D ∉ ra) (h : CellR K w ra Ha D c) : D ∉ rb ∧ CellR K w rb Hb D c := by
  obtain ⟨o, ho⟩ := h.there
  obtain ⟨n', e'⟩ := stayO e n ho
  exact ⟨n', h.ext e S e'⟩
abbrev kB (X : Cx) (scope : Scope) : DsT := fun D y z H N => ∀ (s0 : Shared) (H0 : Hp) (C : Addr) (cl : List (Str × Addr)) (fp : List Addr), rDs (X.blk s0 H0 scope (compEnvC scope cl C X.env) fp) D y z H N
theorem re_dc {kx vx tg iter : Expr} {ifs : List Expr} {scope : Scope} {own : List (Str × Nat)} {pos : Pos} {n : Nat} {fi : Ev → M Nx} {T : List Nat} {g : PV → Ev → M Ev} {c : Ev → M Bool} {ek ev : Ev → M PV} (hu : X.A.units < cLine) (hc : X.calm = true) (hN : X.N.Nodup) (hi : RI X tg iter fi)
    (ok : BlkOk X.N X.env.scope scope own) (hT : ∀ j ∈ T, j ∈ own.map (·.2)) (hg : Blk X scope fun Y => RG Y tg T g) (ht : Blk X scope fun Y => RTs Y ifs c) (hk : Blk X scope fun Y => RE Y kx ek) (he : Blk X scope fun Y => RE Y vx ev) (hs : ∀ x, foldedSetIterable iter X.env x = pure x := by intro _; rfl) :
    RE X (.DictComp kx vx [⟨tg, iter, ifs, 0⟩] scope pos) (xDc n (own.map (·.2)) fi g c ek ev) := by
  intro W tk r st s H env Q E S P
  refine w_pe (pe_dcA (g := gB X scope tg) (tt := tB X scope ifs) (tk := eB X scope kx) (tv := eB X scope vx) (ds := kB X scope) hc hN pi_w ok (fun s0 H0 C cl fp => ⟨fun pins sh s H v u Q I rv h => wg_run (h s0 H0 C cl fp) pins sh u I rv⟩) (fun s0 H0 C cl fp => ⟨fun pins sh s H Q I h => h s0 H0 C cl fp pins sh I⟩)
    (fun s0 H0 C cl fp => ⟨fun pins sh s H Q I h => we_run (h s0 H0 C cl fp) pins sh I⟩) (fun s0 H0 C cl fp => ⟨fun pins sh s H Q I h => we_run (h s0 H0 C cl fp) pins sh I⟩) (fun s0 H0 C cl fp pins s σ H D y z u t N E I ry rz h => pds_of (Y := X.blk s0 H0 scope (compEnvC scope cl C X.env) fp) hu pins s σ H D y z u t N E I ry rz (h s0 H0 C cl fp)) hs) ?_
  refine hi W tk r st s H env _ E S ((post_bnd P).imp fun nx st1 r1 H1 e1 S1 P1 J hJ D hD => ?_)
  have E1 := E.ext e1 S
  have hDr : D ∉ r1 := fun z => S1.ne hD D z rfl
  refine ⟨fun i m H => ∃ r st acc, Ext r1 H1 r H ∧ EnvR X.K r H (wipeE env (own.map (·.2))) (L2.wipe s (own.map (·.2))) ∧ Sim X.K X.w r st H ∧ D ∉ r ∧ CellR X.K X.w r H D acc ∧ Post X W (okV X Q) r1 H1 (dcF nx g c ek ev m i acc (wipeE env (own.map (·.2))) st),
    ⟨n, r1, st1, .dk [], Ext.new hD, (E1.ext (Ext.new hD) S1).wipe _, S1.new hD, hDr, ⟨[], upd_same, by simp only [RepD]⟩, P1⟩, ?_⟩
  rintro i m H ⟨r, st, acc, e0, E0, S0, d1, d2, P0⟩
  cases m with
  | zero => exact P0.elim
  | succ k =>
    have hj := hJ i r st H (e0.ew S1) S0
    unfold dcF at P0
    cases h : nx i st with
    | bad => rw [h] at P0; exact P0.elim
    | stop =>
      rw [h] at P0
      refine .inl ⟨hj.1 h, ?_⟩
      obtain ⟨⟨q, rfl, hq⟩, hk⟩ := e0
      refine P0 ((r1 ++ q) ++ [D]) H ⟨⟨q ++ [D], by simp, fun a ha => ?_⟩, hk⟩ (S0.adopt d1 d2) _ ?_
      · rcases List.mem_append.mp ha with z | z
        · exact hq a z
        · rw [List.mem_singleton.mp z]; exact hD
      · rw [← S0.len]
        exact Rep.last
    | item v =>
      rw [h] at P0
      obtain ⟨hgo, hy⟩ := hj.2 v h
      refine .inr ⟨hgo, fun H => ∃ r st acc, Ext r1 H1 r H ∧ EnvR X.K r H (wipeE env (own.map (·.2))) (L2.wipe s (own.map (·.2))) ∧ Sim X.K X.w r st H ∧ D ∉ r ∧ CellR X.K X.w r H D acc ∧ Post X W (okV X Q) r1 H1 (dcF nx g c ek ev k (i + 1) acc (wipeE env (own.map (·.2))) st), fun H' q => ⟨k, Nat.lt_succ_self k, q⟩, fun x H' y => ?_⟩
      obtain ⟨e2, S2, rv⟩ := hy x H' y
      obtain ⟨d4, d5⟩ := stayC e2 S0 d1 d2
      intro s0 H0 C cl fp
      unfold bnd noX at P0
      dsimp only at P0
      refine hg s0 H0 C cl fp no4 takes0 r st _ H' _ v x _ (E0.ext e2 S0) S2 rv ?_
      cases hg1 : g v (wipeE env (own.map (·.2))) st with
      | bad => rw [hg1] at P0; exact P0.elim
      | exc _ _ _ _ _ => rw [hg1] at P0; exact P0.elim
      | ok env1 st3 =>
        rw [hg1] at P0
        intro r3 H3 e3 S3 s3 E3 B3
        refine ⟨wipe_but hT B3, fun s0 H0 C cl fp pins sh I => ?_⟩
        refine ht s0 H0 C cl fp no4 takes0 r3 st3 s3 H3 env1 _ E3 S3 ?_ pins sh I
        dsimp only at P0
        cases hc1 : c env1 st3 with
        | bad => rw [hc1] at P0; exact P0.elim
        | exc _ _ _ _ _ => rw [hc1] at P0; exact P0.elim
        | ok b st4 =>
          rw [hc1] at P0
          intro r4 H4 e4 S4
          obtain ⟨d6, d7⟩ := stayC e3 S2 d4 d5
          obtain ⟨d8, d9⟩ := stayC e4 S3 d6 d7
          have e34 := (e2.trans e3 S2).trans e4 S3
          refine ite_of (b := b) (fun hb => ?_) (fun hb => ?_)
          rotate_left
          · subst hb
            dsimp only at P0
            rw [if_neg Bool.false_ne_true] at P0
            exact ⟨r4, st4, acc, e0.trans e34 S0, E0.ext e34 S0, S4, d8, d9, P0⟩
          · subst hb
            intro s0 H0 C cl fp
            refine hk s0 H0 C cl fp no4 takes0 r4 st4 s3 H4 env1 _ (E3.ext e4 S3) S4 ?_
            dsimp only at P0
            rw [if_pos rfl] at P0
            cases hk1 : ek env1 st4 with
            | bad => rw [hk1] at P0; exact P0.elim
            | exc _ _ _ _ _ => rw [hk1] at P0; exact P0.elim
            | ok y st5 =>
              rw [hk1] at P0
              dsimp only at P0
              intro r5 H5 e5 S5 y' ry
              obtain ⟨d10, d11⟩ := stayC e5 S4 d8 d9
              intro s0 H0 C cl fp
              refine he s0 H0 C cl fp no4 takes0 r5 st5 s3 H5 env1 _ ((E3.ext e4 S3).ext e5 S4) S5 ?_
              cases he1 : ev env1 st5 with
              | bad => rw [he1] at P0; exact P0.elim
              | exc _ _ _ _ _ => rw [he1] at P0; exact P0.elim
              | ok z st6 =>
                rw [he1] at P0
                dsimp only at P0
                intro r6 H6 e6 S6 z' rz
                obtain ⟨d12, d13⟩ := stayC e6 S5 d10 d11
                have e06 := (e34.trans e5 S4).trans e6 S5
                cases hp : putC acc y z with
                | none => rw [hp] at P0; exact P0.elim
                | some acc' =>
                  rw [hp] at P0
                  dsimp only at P0
                  intro s0 H0 C cl fp
                  refine putC_ok (X := X.blk s0 H0 scope (compEnvC scope cl C X.env) fp) d13 (e6.rep S5 ry) rz hp fun o hu hco hcell => ?_
                  have e16 := e0.trans e06 S0
                  refine ⟨r6, st6, acc', ⟨e16.pre, fun a ob q1 q2 => ?_⟩, (E0.ext e06 S0).lift hu, S6.lift hu hco fun b hb => upd_ne fun z => d12 (z ▸ hb), d12, hcell, P0⟩
                  rw [upd_ne (ne_of_none q1 hD)]
                  exact e16.keep a ob q1 q2
theorem un_of {A : Around} {k : Nat} (hr : Room k A) : A.units < cLine := Nat.lt_of_succ_lt (hu_of hr)
end
end Mi
namespace Mi
open PySem PySem.Spec PyProof.Rows L2
/-! ### an own error is raised: raise C(e), its __init__ being self.fld = a -/
def spI (K : PySem.W.Frag) (fld : Str) : Sp := fun vs H Q _ => ∃ a C y, vs = [.ref a, y] ∧ OexC K C ∧ PySem.W.findIn K (.ref C) fld = some none ∧ H a = some (exo a C none) ∧ ∀ d, H d = none → d ≠ a → Q .non (upd (upd H d (exd d [(fld, y)])) a (exo a C (some d)))
theorem init_ok {P : Program} {w : World} {K : PySem.W.Frag} {mg : Str → Option Value} {base : Heap} {qual fld a : Str} {t : Stmt} {f : Addr} {fd : FuncData} {N : List Str} (F : FunD K "__init__" qual (defArgs t) (defBody t) (defScope t) [] [] f fd) (S : FnScope ["self", a] ["self", a] (defScope t))
    (hb : ∃ p1 p2 p3 p4, defBody t = [.Assign [.Attribute (.Name "self" p1) fld p2] (.Name a p3) p4]) (hsw : ∀ X : Cx, ∀ p1 p2 p3 p4 : Pos, swapsWith (.Name a p3) (some (.Attribute (.Name "self" p1) fld p2)) p4.line X.env = pure false)
    (hs : (defScope t).names.lookup ("self" : Str) = some .local) (ha : (defScope t).names.lookup a = some .local) (hd : (a == ("__debug__" : Str)) = false) (hcd : (a == ("__classdict__" : Str)) = false) : FnOk P w K mg base CX0 1 f fd ["self", a] (spI K fld) := by
  obtain ⟨p1, p2, p3, p4, hb⟩ := hb
  refine F.ok S (fun vs H Q E h => by obtain ⟨a, C, y, rfl, _⟩ := h; rfl) fun cdv A outer s H vs Q E hr hsp => ?_
  obtain ⟨b, C, y, rfl, T, hno, hb0, q⟩ := hsp
  rw [hb]
  refine ⟨_, pss_one (ps_ost (pe_var (i := 0) rfl (.inl hs) (by decide) (by decide)) (pe_var (i := 1) rfl (.inl ha) hd hcd) (hsw _ _ _ _ _)), ?_⟩
  refine ⟨y, rfl, .ref b, rfl, b, C, rfl, T, hno, .inl ⟨hb0, fun d hd hne => q d hd hne⟩⟩
/-- a class whose errors keep one thing -/
def ExK (P : Program) (w : World) (K : PySem.W.Frag) (mg : Str → Option Value) (base : Heap) (c fld : Str) : Prop := ∃ C fI fd a, mg c = some (.ref C) ∧ OexC K C ∧ PySem.W.findIn K (.ref C) "__init__" = some (some (.ref fI)) ∧ PySem.W.typeIn K (.ref fI) = some (.type "function") ∧
  PySem.W.findIn K (.ref C) fld = some none ∧ FnOk P w K mg base CX0 1 fI fd ["self", a] (spI K fld) ∧ Binds K fd ["self", a] []
def sRaise (c fld : Str) (f : Ev → M (List PV)) : Ev → M Flw := fun env => bnd (f env) fun vs => match vs with
  | [v] => fun st => .exc c fld v env st
  | _ => bad
theorem rs_raise {X : Cx} {c fld : Str} {e : Expr} {es : List Expr} {p pos pos' : Pos} {g : Ev → M (List PV)} (G : ExK X.prog X.w X.K X.mg X.base c fld) (hc : X.calm = true) (hr : Room 2 X.A) (hg : Gl X c) (ha : RA X (e :: es) g) (hdb : (c == ("__debug__" : Str)) = false := by decide)
    (he : starEach (e :: es) X.env = (false, eval e X.env) :: starEach es X.env := by rfl) (hpl : (backTo pos (starEach es X.env)).any (·.1) = false := by rfl) : RS X (.Raise (some (.Call (.Name c p) (e :: es) [] pos)) none pos') (sRaise c fld g) := by
  intro W tk r st s H env D E S P
  obtain ⟨C, fI, fd, a, hm, T, iC, tI, hno, F, hb⟩ := G
  refine w_ps (ps_raise hc tk (pmk_oex T iC tI F hr hb .nil (fun _ _ _ _ _ _ _ h => False.elim h) hg hm pa_w hdb he hpl)) ?_
  refine ha.seq tk E S P fun r1 st1 H1 xs xs' e1 E1 S1 rx P1 => ?_
  split at P1
  · rename_i v
    obtain ⟨v', rfl, rv⟩ := repL1 rx
    refine ⟨by simp, fun b hb => ⟨b, C, v', rfl, T, hno, upd_same, fun d hd hne => ?_⟩⟩
    have hd1 : H1 d = none := by rwa [upd_ne hne] at hd
    refine ⟨rfl, d, [(fld, v')], upd_same, ?_, hd1, ?_⟩
    · rw [upd_ne hne, upd_same]
    · have heq : ∀ x, x ≠ b → x ≠ d → (upd (del (upd (upd (upd H1 b (exo b C none)) d (exd d [(fld, v')])) b (exo b C (some d))) b) d (.xd [(fld, v')])) x = H1 x := fun x h1 h2 => by
        rw [upd_ne h2, del_ne h1, upd_ne h1, upd_ne h2, upd_ne h1]
      have ee : Ext r1 H1 r1 (upd (del (upd (upd (upd H1 b (exo b C none)) d (exd d [(fld, v')])) b (exo b C (some d))) b) d (.xd [(fld, v')])) := ⟨⟨[], by simp, by simp⟩, fun x o h _ => by
        rw [heq x (ne_of_none h hb) (ne_of_none h hd1)]; exact h⟩
      have S2 : Sim X.K X.w r1 st1 (upd (del (upd (upd (upd H1 b (exo b C none)) d (exd d [(fld, v')])) b (exo b C (some d))) b) d (.xd [(fld, v')])) := ⟨S1.len, S1.nd, fun i cl x h1 h2 => (S1.at_ i cl x h1 h2).ext ee S1 (heq x (S1.ne hb x (List.mem_of_getElem? h2)) (S1.ne hd1 x (List.mem_of_getElem? h2)))⟩
      exact P1 r1 _ s v' C d ee S2 (E1.ext ee S1) (ee.rep S1 rv) hm upd_same
  · exact P1.elim
/-- no more depth -/
theorem Cal.none {P : Program} {w : World} {K : PySem.W.Frag} {mg : Str → Option Value} {base : Heap} {x : Str} {t : Stmt} {N ps : List Str} {k : Nat} (L : Loc K mg x t) (S : FnScope N ps (defScope t))
    (hb : ∀ (kV doc pm : Value) (an : Option Addr) (cdv ct : Value) (us : List Value), us.length = ps.length → bindArgs (PySem.W.fnOf x x (defArgs t) (defBody t) (defScope t) .none kV doc pm an cdv ct) ⟨us, []⟩ = pure (ps.zip us)) : Cal P w K mg base x k ps (fun _ => bad) := by
  obtain ⟨f, fd, F, hm⟩ := L
  exact ⟨f, fd, ⟨fun A outer s H args us vs Q E r st xs hr hgd e0 hb rv hx hl hS hP => hP.elim⟩, hm, F.kp, F.bindsN hb⟩
end Mi
namespace Mi
open PySem PySem.Spec PyProof.Rows L2
/-! ### repr of tuples and lists -/
def isRefP : PV → Bool
  | .tup _ => true
  | .loc _ => true
  | _ => false
def reprV : List PV → M PV
  | [x] => fun st => match toD st x with
    | some d => if isRefP x = true ∧ d.showable = true ∧ d.hasDict = false ∧ d.depth ≤ 60 ∧ d.shown.length ≤ sizeTop then .ok (.str d.shown) st else .bad
    | none => .bad
  | _ => bad
def rRepr (X : Cx) : List V → Hp → VK → Prop := fun xs H Q => ∃ a d, xs = [.ref a] ∧ Dp X.K H (.ref a) d ∧ d.showable = true ∧ d.hasDict = false ∧ d.depth ≤ 60 ∧ d.shown.length ≤ sizeLine ∧ Q (.str d.shown) H
section
variable {X : Cx}
theorem call_repr (hgd : X.A.guards = some []) (hu : X.A.units + 64 < cLine) : CallR X (.builtin "repr") (rRepr X) := by
  intro pins s σ H xs us Q I rs h
  obtain ⟨a, d, rfl, dp, hs, hd, hz, hl, q⟩ := h
  obtain ⟨u, rfl, rx⟩ := rs.one
  obtain rfl : u = Value.ref a := rx
  obtain ⟨as, r⟩ := Dp.reads I d (.ref a) (.ref a) dp rfl
  exact PySem.repr_of_reads' r hs (fun z => by rw [hd] at z; cases z) hgd (by omega) (fun _ _ e => e) (fun h' u tk hk => ⟨.str d.shown, H, I.kept hk, ⟨u, rfl⟩, q⟩) hl
theorem c_repr : RCV X reprV (rRepr X) := by
  intro W r st H xs vs Q S rx P
  unfold reprV at P
  split at P
  · rename_i x
    obtain ⟨v, rfl, h1⟩ := repL1 rx
    cases e : toD st x with
    | none => rw [e] at P; exact P.elim
    | some d =>
      rw [e] at P
      dsimp only at P
      by_cases hz : isRefP x = true ∧ d.showable = true ∧ d.hasDict = false ∧ d.depth ≤ 60 ∧ d.shown.length ≤ sizeTop
      · rw [if_pos hz] at P
        have dp := dp_toD S e h1
        obtain ⟨z0, z1, z2, z3, z4⟩ := hz
        have hr : ∃ a, v = .ref a := by
          cases x with
          | tup xs => obtain ⟨a, _, rfl, _⟩ := rep_tup.mp h1; exact ⟨a, rfl⟩
          | loc n => obtain ⟨a, rfl, _⟩ := rep_loc.mp h1; exact ⟨a, rfl⟩
          | _ => cases z0
        obtain ⟨a, rfl⟩ := hr
        exact ⟨a, d, rfl, dp, z1, z2, z3, by rw [← sizeTop_eq]; exact z4, P.val S (rep_str.mpr rfl)⟩
      · rw [if_neg hz] at P; exact P.elim
  · exact P.elim
theorem boot_repr' : bootBuiltins "repr" = some (.builtin "repr") := by decide +kernel
theorem b_repr {e : Expr} {es : List Expr} {g : Ev → M (List PV)} {p pos : Pos} (hgd : X.A.guards = some []) (hu : X.A.units + 64 < cLine) (hm : X.mg "repr" = none) (hg : Gl X "repr") (ha : RA X (e :: es) g) (he : starEach (e :: es) X.env = (false, eval e X.env) :: starEach es X.env := by rfl) (hpl : (backTo pos (starEach es X.env)).any (·.1) = false := by rfl) :
    RE X (.Call (.Name "repr" p) (e :: es) [] pos) (xA reprV g) := re_callB (call_repr hgd hu) c_repr hg hm boot_repr' ha (by decide) (by decide) he hpl
end
end Mi
namespace Mi
open PySem PySem.Spec PyProof.Rows L2
/-! ### list(range(..)), tuple(range(..)) -/
def rgP (a b : Int) : List PV := (List.range (b - a).toNat).map fun i => PV.int (a + (i : Nat))
def okRg (a b : Int) : Bool := decide (-(2 ^ 62) ≤ a ∧ a < 2 ^ 62 ∧ -(2 ^ 62) ≤ b ∧ b < 2 ^ 62 ∧ (b - a).toNat ≤ 2 ^ 24)
def rgArg1 : PV → M (Int × Int)
  | .int n => ret (0, n)
  | _ => bad
def rgArg2 : PV → PV → M (Int × Int)
  | .int i, .int j => ret (i, j)
  | _, _ => bad
def xRg1 (f : Ev → M PV) : Ev → M (Int × Int) := fun env => bnd (f env) rgArg1
def xRg2 (f g : Ev → M PV) : Ev → M (Int × Int) := fun env => bnd (f env) fun x => bnd (g env) fun y => rgArg2 x y
def lstRg (ab : Int × Int) : M PV := if okRg ab.1 ab.2 = true then newC (.lst (rgP ab.1 ab.2)) else bad
def tupRg (ab : Int × Int) : M PV := if okRg ab.1 ab.2 = true then ret (.tup (rgP ab.1 ab.2)) else bad
def xRgU (o : Int × Int → M PV) (f : Ev → M (Int × Int)) : Ev → M PV := fun env => bnd (f env) o
section
variable {K : PySem.W.Frag} {w : World} {r : List Addr} {H : Hp} {st : Store}
theorem repL_ints : ∀ ns : List Int, RepL K r H (ns.map PV.int) (ns.map V.int)
  | [] => by simp only [List.map_nil, RepL]
  | n :: ns => by simp only [List.map_cons, RepL]; exact ⟨_, _, rfl, rep_int.mpr rfl, repL_ints ns⟩
theorem repL_rg (a b : Int) : RepL K r H (rgP a b) (rgV a b) := by
  have h := repL_ints (K := K) (r := r) (H := H) ((List.range (b - a).toNat).map fun i => a + (i : Nat))
  rw [List.map_map, List.map_map] at h
  exact h
end
/-- an expression that makes a range -/
def RRg (X : Cx) (e : Expr) (f : Ev → M (Int × Int)) : Prop := ∃ t, PRg X e t ∧ ∀ W, Takes X W → ∀ r st s H env (Q : Int → Int → Hp → Prop), EnvR X.K r H env s → Sim X.K X.w r st H → Post X W (fun ab _ r' H' => Q ab.1 ab.2 H') r H (f env st) → t s H Q
section
variable {X : Cx} {a b e : Expr} {fa fb : Ev → M PV} {p pos : Pos} {f : Ev → M (Int × Int)}
theorem rr_1 (hg : Gl X "range") (hm : X.mg "range" = none) (ha : RE X a fa) (na : starEach [a] X.env = (false, eval a X.env) :: starEach [] X.env := by rfl) : RRg X (.Call (.Name "range" p) [a] [] pos) (xRg1 fa) := by
  refine ⟨_, prg_1 hg hm pe_w na, fun W tk r st s H env Q E S P => ?_⟩
  refine ha.seq tk E S P fun r1 st1 H1 x x' e1 E1 S1 rx P1 => ?_
  unfold rgArg1 at P1
  split at P1
  · exact ⟨_, rep_int.mp rx, Post.now P1 S1⟩
  · exact P1.elim
theorem rr_2 (hg : Gl X "range") (hm : X.mg "range" = none) (ha : RE X a fa) (hb : RE X b fb) (na : starEach [a, b] X.env = (false, eval a X.env) :: starEach [b] X.env := by rfl) (nb : starEach [b] X.env = (false, eval b X.env) :: starEach [] X.env := by rfl) (hp : (backTo pos (starEach [b] X.env)).any (·.1) = false := by rfl) :
    RRg X (.Call (.Name "range" p) [a, b] [] pos) (xRg2 fa fb) := by
  refine ⟨_, prg_2 hg hm pe_w pe_w na nb hp, fun W tk r st s H env Q E S P => ?_⟩
  refine ha.seq tk E S P fun r1 st1 H1 x x' e1 E1 S1 rx P1 => hb.seq tk E1 S1 P1 fun r2 st2 H2 y y' e2 E2 S2 ry P2 => ?_
  have rx2 := e2.rep S1 rx
  unfold rgArg2 at P2
  split at P2
  · exact ⟨_, _, rep_int.mp rx2, rep_int.mp ry, Post.now P2 S2⟩
  · exact P2.elim
theorem rgOk_of {i j : Int} (h : okRg i j = true) : RgOk i j := by
  unfold okRg at h
  have q := of_decide_eq_true h
  exact q
theorem re_listRg (hc : X.calm = true) (hg : Gl X "list") (hm : X.mg "list" = none) (he : RRg X e f) (na : starEach [e] X.env = (false, eval e X.env) :: starEach [] X.env := by rfl) : RE X (.Call (.Name "list" p) [e] [] pos) (xRgU lstRg f) := by
  intro W tk r st s H env Q E S P
  obtain ⟨t, pr, q⟩ := he
  refine w_pe (pe_listRg hc hg hm pr na) ?_
  refine q W tk r st s H env _ E S ((post_bnd P).imp fun ab st1 r1 H1 e1 S1 P1 => ?_)
  unfold lstRg at P1
  by_cases h : okRg ab.1 ab.2 = true
  · rw [if_pos h] at P1
    exact ⟨rgOk_of h, fun p hp => P1.newL S1 hp (repL_rg _ _)⟩
  · rw [if_neg h] at P1; exact P1.elim
theorem re_tupRg (hc : X.calm = true) (hg : Gl X "tuple") (hm : X.mg "tuple" = none) (he : RRg X e f) (na : starEach [e] X.env = (false, eval e X.env) :: starEach [] X.env := by rfl) : RE X (.Call (.Name "tuple" p) [e] [] pos) (xRgU tupRg f) := by
  intro W tk r st s H env Q E S P
  obtain ⟨t, pr, q⟩ := he
  refine w_pe (pe_tupRg hc hg hm pr na) ?_
  refine q W tk r st s H env _ E S ((post_bnd P).imp fun ab st1 r1 H1 e1 S1 P1 => ?_)
  unfold tupRg at P1
  by_cases h : okRg ab.1 ab.2 = true
  · rw [if_pos h] at P1
    exact ⟨rgOk_of h, fun p hp => P1.newT S1 hp (repL_rg _ _)⟩
  · rw [if_neg h] at P1; exact P1.elim
end
/-! ### sorted(xs), ints -/
def insI (x : Int) : List Int → List Int
  | [] => [x]
  | y :: ys => if x ≤ y then x :: y :: ys else y :: insI x ys
def sortI : List Int → List Int
  | [] => []
  | x :: xs => insI x (sortI xs)
theorem insI_perm (x : Int) : ∀ ys : List Int, (insI x ys).Perm (x :: ys)
  | [] => .refl _
  | y :: ys => by
    unfold insI
    split
    · exact .refl _
    · exact ((insI_perm x ys).cons y).trans (.swap x y ys)
theorem sortI_perm : ∀ xs : List Int, (sortI xs).Perm xs
  | [] => .refl _
  | x :: xs => (insI_perm x (sortI xs)).trans ((sortI_perm xs).cons x)
theorem insI_sorted (x : Int) : ∀ {ys : List Int}, ys.Pairwise (· ≤ ·) → (insI x ys).Pairwise (· ≤ ·)
  | [], _ => List.pairwise_singleton _ _
  | y :: ys, h => by
    unfold insI
    have h' := List.pairwise_cons.mp h
    split
    · rename_i hx
      exact List.pairwise_cons.mpr ⟨fun z hz => by
        rcases List.mem_cons.mp hz with q | q
        · subst q; exact hx
        · exact Int.le_trans hx (h'.1 z q), h⟩
    · rename_i hx
      refine List.pairwise_cons.mpr ⟨fun z hz => ?_, insI_sorted x h'.2⟩
      rcases List.mem_cons.mp ((insI_perm x ys).mem_iff.mp hz) with q | q
      · subst q; omega
      · exact h'.1 z q
theorem sortI_sorted : ∀ xs : List Int, (sortI xs).Pairwise (· ≤ ·)
  | [] => .nil
  | x :: xs => insI_sorted x (sortI_sorted xs)
theorem sorted_uniq : ∀ {xs ys : List Int}, xs.Perm ys → xs.Pairwise (· ≤ ·) → ys.Pairwise (· ≤ ·) → xs = ys
  | [], ys, h, _, _ => (List.nil_perm.mp h).symm
  | x :: xs, [], h, _, _ => by have := h.length_eq; simp at this
  | x :: xs, y :: ys, h, h1, h2 => by
    have a1 := List.pairwise_cons.mp h1
    have a2 := List.pairwise_cons.mp h2
    have hxy : x = y := by
      have m1 : x ∈ y :: ys := h.mem_iff.mp List.mem_cons_self
      have m2 : y ∈ x :: xs := h.mem_iff.mpr List.mem_cons_self
      rcases List.mem_cons.mp m1 with q | q
      · exact q
      · rcases List.mem_cons.mp m2 with q2 | q2
        · exact q2.symm
        · have := a1.1 y q2; have := a2.1 x q; omega
    subst hxy
    rw [sorted_uniq (List.perm_cons x |>.mp h) a1.2 a2.2]
def intsP : List PV → Option (List Int)
  | [] => some []
  | .int i :: xs => match intsP xs with
    | some ns => some (i :: ns)
    | none => none
  | _ :: _ => none
theorem intsP_eq : ∀ {xs : List PV} {ns : List Int}, intsP xs = some ns → xs = ns.map PV.int
  | [], ns, h => by simp only [intsP] at h; cases h; rfl
  | x :: xs, ns, h => by
    cases x with
    | int i =>
      simp only [intsP] at h
      cases e : intsP xs with
      | none => rw [e] at h; cases h
      | some ms => rw [e] at h; cases h; rw [intsP_eq e]; rfl
    | _ => simp [intsP] at h
theorem repL_ints_eq {K : PySem.W.Frag} {r : List Addr} {H : Hp} : ∀ {ns : List Int} {vs : List V}, RepL K r H (ns.map PV.int) vs → vs = ns.map V.int
  | [], vs, h => by simpa only [List.map_nil, RepL] using h
  | n :: ns, vs, h => by
    simp only [List.map_cons, RepL] at h
    obtain ⟨v, ws, rfl, h1, h2⟩ := h
    rw [rep_int.mp h1, repL_ints_eq h2]
    rfl
def sortedV : List PV → M PV
  | [.loc n] => fun st => match getL n st with
    | some xs => match intsP xs with
      | some ns => newC (.lst ((sortI ns).map PV.int)) st
      | none => .bad
    | none => .bad
  | _ => bad
section
variable {X : Cx}
theorem c_sorted : RCV X sortedV (rSortedI X.K) := by
  intro W r st H xs vs Q S rx P
  unfold sortedV at P
  split at P
  · rename_i n
    obtain ⟨v, rfl, h1⟩ := repL1 rx
    obtain ⟨a, rfl, h2⟩ := rep_loc.mp h1
    cases e1 : getL n st with
    | none => rw [e1] at P; exact P.elim
    | some ys =>
      rw [e1] at P
      dsimp only at P
      cases e2 : intsP ys with
      | none => rw [e2] at P; exact P.elim
      | some ns =>
        rw [e2] at P
        obtain ⟨b, us, q1, q2, q3⟩ := S.getL e1
        rw [h2] at q1; cases q1
        rw [intsP_eq e2] at q3
        rw [repL_ints_eq q3] at q2
        refine ⟨a, ns, rfl, q2, fun ns' p hp hs hn => ?_⟩
        rw [sorted_uniq (hp.trans (sortI_perm ns).symm) hs (sortI_sorted ns)]
        exact P.newL S hn (repL_ints _)
  · exact P.elim
theorem boot_sorted' : bootBuiltins "sorted" = some (.builtin "sorted") := by decide +kernel
theorem b_sorted {e : Expr} {es : List Expr} {g : Ev → M (List PV)} {p pos : Pos} (hm : X.mg "sorted" = none) (hg : Gl X "sorted") (ha : RA X (e :: es) g) (he : starEach (e :: es) X.env = (false, eval e X.env) :: starEach es X.env := by rfl) (hpl : (backTo pos (starEach es X.env)).any (·.1) = false := by rfl) :
    RE X (.Call (.Name "sorted" p) (e :: es) [] pos) (xA sortedV g) := re_callB cr_sortedI c_sorted hg hm boot_sorted' ha (by decide) (by decide) he hpl
end
end Mi
namespace Mi
open PySem PySem.Spec PyProof.Rows L2
/-- name = [.. for .. for ..] on one line, the name a local -/
theorem rs_setLc2 {X : Cx} {i : Nat} {y : Str} {py : Pos} {elt tg iter tg1 iter1 : Expr} {ifs ifs1 : List Expr} {scope : Scope} {own : List (Str × Nat)} {pos spos : Pos} {n : Nat} {vs1 : List Nat} {fi fi1 : Ev → M Nx} {T T1 : List Nat} {g g1 : PV → Ev → M Ev} {c c1 : Ev → M Bool} {e : Ev → M PV} (hc : X.calm = true) (hN : X.N.Nodup)
    (hy : X.N[i]? = some y) (hyl : X.env.scope.names.lookup y = some .local) (hsw : swapsWith (.ListComp elt [⟨tg, iter, ifs, 0⟩, ⟨tg1, iter1, ifs1, 0⟩] scope pos) (some (.Name y py)) spos.line X.env = pure true) (hi : RI X tg iter fi)
    (ok : BlkOk X.N X.env.scope scope own) (hv : ∀ i ∈ vs1, i ∈ own.map (·.2)) (hT : ∀ j ∈ T, j ∈ own.map (·.2)) (hT1 : ∀ j ∈ T1, j ∈ vs1) (hg : Blk X scope fun Y => RG Y tg T g) (ht : Blk X scope fun Y => RTs Y ifs c) (hi1 : Blk X scope fun Y => RI Y tg1 iter1 fi1) (hg1 : Blk X scope fun Y => RG Y tg1 T1 g1)
    (ht1 : Blk X scope fun Y => RTs Y ifs1 c1) (he : Blk X scope fun Y => RE Y elt e) (hs : ∀ x, foldedSetIterable iter X.env x = pure x := by intro _; rfl) (hs1 : ∀ env x, foldedSetIterable iter1 env x = pure x := by intro _ _; rfl) :
    RS X (.Assign [.Name y py] (.ListComp elt [⟨tg, iter, ifs, 0⟩, ⟨tg1, iter1, ifs1, 0⟩] scope pos) spos) (sAsg (xLc2 n (own.map (·.2)) vs1 fi g c fi1 g1 c1 e) (gSet i)) := by
  intro W tk r st s H env D E S P
  refine w_ps (ps_setLc2 (wi := WI X tg iter) (g := gB X scope tg) (tt := tB X scope ifs) (wi1 := iB X scope tg1 iter1) (g1 := gB X scope tg1) (tt1 := tB X scope ifs1) (te := eB X scope elt) hc hN hy hyl hsw pi_w ok hv (fun s0 H0 C cl fp => ⟨fun pins sh s H v u Q I rv h => wg_run (h s0 H0 C cl fp) pins sh u I rv⟩) (fun s0 H0 C cl fp => ⟨fun pins sh s H Q I h => h s0 H0 C cl fp pins sh I⟩)
    (fun s0 H0 C cl fp => ⟨fun pins sh s H R I h => wi_run (h s0 H0 C cl fp) pins sh I⟩) (fun s0 H0 C cl fp => ⟨fun pins sh s H v u Q I rv h => wg_run (h s0 H0 C cl fp) pins sh u I rv⟩) (fun s0 H0 C cl fp => ⟨fun pins sh s H Q I h => h s0 H0 C cl fp pins sh I⟩)
    (fun s0 H0 C cl fp => ⟨fun pins sh s H Q I h => we_run (h s0 H0 C cl fp) pins sh I⟩) hs hs1) ?_
  exact lc2_read hi hT hT1 hg ht hi1 hg1 ht1 he tk E S ((post_bnd P).imp fun v st1 r1 H1 e1 S1 P1 v' rv => Post.now P1 S1 _ ((E.ext e1 S).set rv))
/-! ### d.setdefault(k, x) -/
def setdA : PV → PV → PV → M PV
  | .loc n, .tup ks, v => fun st => match Mi.dtAt n st, keysT ks with
    | some kvs, some k => match getP kvs k with
      | some x => .ok x st
      | none => if kvs.length < sizeTop then .ok v (st.set n (.dt (putP kvs k v))) else .bad
    | _, _ => .bad
  | .loc n, y, v => fun st => match st[n]?, keyK y with
    | some (.dk kvs), some k => match getP kvs k with
      | some x => if kvs.length < sizeTop then .ok x st else .bad
      | none => if kvs.length < sizeTop then .ok v (st.set n (.dk (putP kvs k v))) else .bad
    | _, _ => .bad
  | _, _, _ => bad
def xSetd (fa fb fc : Ev → M PV) : Ev → M PV := fun env => bnd (fa env) fun x => bnd (isDk x) fun _ => bnd (fb env) fun y => bnd (fc env) fun z => setdA x y z
section
variable {X : Cx} {a b c : Expr} {fa fb fc : Ev → M PV}
theorem setdA_run {W : WX} {r : List Addr} {H : Hp} {st : Store} {n : Nat} {d : Addr} {y z : PV} {y' z' : V} {s : L2.St} {Q : VK} (hu : X.A.units + 1 < cLine) (S : Sim X.K X.w r st H) (hn : r[n]? = some d) (ry : Rep X.K r H y y') (rz : Rep X.K r H z z') (P : Post X W (okV X Q) r H (setdA (.loc n) y z st)) :
    ∀ pins sh u t, Inv X pins s H sh → RelV y' u → RelV z' t → wpAny (model X.prog X.w) X.A (call (.builtin "dict.setdefault") [.ref d, u, t]) (EP X pins s Q) X.xe sh := by
  intro pins sh u t I ru rt
  have rest : Post X W (okV X Q) r H ((match st[n]?, keyK y with
      | some (.dk kvs), some k => match getP kvs k with
        | some x => if kvs.length < sizeTop then Res.ok x st else .bad
        | none => if kvs.length < sizeTop then .ok z (st.set n (.dk (putP kvs k z))) else .bad
      | _, _ => .bad)) → wpAny (model X.prog X.w) X.A (call (.builtin "dict.setdefault") [.ref d, u, t]) (EP X pins s Q) X.xe sh := fun P => by
    split at P
    · rename_i kvs k e1 e2
      obtain ⟨b, h1, ws, h2, h3⟩ := S.get e1
      rw [hn] at h1; cases h1
      rw [rep_keyK e2 ry] at ru
      have hz : kvs.length < sizeTop := by
        split at P
        · split at P
          · assumption
          · exact P.elim
        · split at P
          · assumption
          · exact P.elim
      refine d_setd I h2 ru rt (by rw [← h3.length, ← sizeTop_eq]; exact hz) (fun v hv w' s4 I4 rw' => ?_) fun hv w' s4 I4 rw' => ?_
      · cases e3 : getP kvs k with
        | none => rw [(h3.get k).2 e3] at hv; cases hv
        | some x =>
          rw [e3] at P
          dsimp only at P
          rw [if_pos hz] at P
          obtain ⟨v0, e4, rv0⟩ := (h3.get k).1 x e3
          rw [hv] at e4; cases e4
          exact ⟨_, H, I4, rw', P.val S rv0⟩
      · cases e3 : getP kvs k with
        | some x =>
          obtain ⟨v0, e4, rv0⟩ := (h3.get k).1 x e3
          rw [hv] at e4; cases e4
        | none =>
          rw [e3] at P
          dsimp only at P
          rw [if_pos hz] at P
          have ee : Ext r H r (upd H d (.dK (putK ws k z'))) := Ext.mut (List.mem_of_getElem? hn)
          have S3 := S.put (o := .dK (putK ws k z')) (c := .dk (putP kvs k z)) hn ⟨_, upd_same, (h3.put k rz).ext ee S⟩
          exact ⟨z', _, I4, rw', P r _ ee S3 _ (ee.rep S rz)⟩
    · exact P.elim
  cases y with
  | tup ks =>
    unfold setdA at P
    cases e1 : Mi.dtAt n st with
    | none => simp only [e1] at P; exact P.elim
    | some kvs =>
      cases e2 : keysT ks with
      | none => simp only [e1, e2] at P; exact P.elim
      | some k =>
        simp only [e1, e2] at P
        obtain ⟨a, xs, h1, t1, pt, hl⟩ := S.dtAt e1
        rw [hn] at h1; cases h1
        obtain ⟨b, rfl, hb⟩ := ry.key e2
        obtain rfl : u = Value.ref b := ru
        obtain ⟨hd, dd⟩ := t1.dict I pt.keys
        refine call_setdefault_heap (tupleKind_room_in1 hu) (key_sq I hb) hd dd (fun p hp => ?_) (fun hno h' dd' hs => ?_) (by rw [← pt.len]; exact hl)
        · cases e3 : getP kvs k with
          | none => rw [(pt.val k).2 e3] at hp; cases hp
          | some x =>
            rw [e3] at P
            obtain ⟨p', v', e4, e5, e6⟩ := (pt.val k).1 x e3
            rw [hp] at e4; cases e4
            exact ⟨v', H, I.tok _, e5, P.val S e6⟩
        · cases e3 : getP kvs k with
          | some x =>
            obtain ⟨p', v', e4, e5, e6⟩ := (pt.val k).1 x e3
            rw [hno] at e4; cases e4
          | none =>
            rw [e3] at P
            dsimp only at P
            by_cases hz : kvs.length < sizeTop
            · rw [if_pos hz] at P
              rw [sizeTop_eq] at hz
              obtain ⟨ee, S3⟩ := S.putT hn pt hz hb rt rz
              exact ⟨z', _, td_write I (mut_td t1) hd hs dd', rt, P r _ ee S3 _ (ee.rep S rz)⟩
            · rw [if_neg hz] at P; exact P.elim
  | _ => exact rest P
theorem re_setd {apos cpos : Pos} (hu : X.A.units + 1 < cLine) (ha : RE X a fa) (hb : RE X b fb) (hc : RE X c fc) (hm : M2 X a "setdefault" apos b c cpos := by exact ⟨rfl, rfl, rfl, rfl⟩) : RE X (.Call (.Attribute a "setdefault" apos) [b, c] [] cpos) (xSetd fa fb fc) := by
  intro W tk r st s H env Q E S P
  refine we_mk fun pins sh I => ?_
  have main : WE X a s H (fun x H1 => ∃ d, x = .ref d ∧ (∀ pins s sh, Inv X pins s H1 sh → sh.TypeIs (.ref d) "dict" ∧ (∀ b, Value.ref d = .ref b → ∃ ob, sh.heap.get? b = some ob ∧ ob.dict = none)) ∧
      WE X b s H1 fun y H2 => WE X c s H2 fun z H3 => ∀ pins sh u t, Inv X pins s H3 sh → RelV y u → RelV z t → wpAny (model X.prog X.w) X.A (call (.builtin "dict.setdefault") [.ref d, u, t]) (EP X pins s Q) X.xe sh) := by
    refine ha.seq tk E S P fun r1 st1 H1 x x' e1 E1 S1 rx P1 => ?_
    obtain ⟨n, d, rfl, rfl, hn, P2, ty⟩ := isDk_at S1 rx P1
    refine ⟨d, rfl, ty, ?_⟩
    refine hb.seq tk E1 S1 P2 fun r2 st2 H2 y y' e2 E2 S2 ry P3 => hc.seq tk E2 S2 P3 fun r3 st3 H3 z z' e3 E3 S3 rz P4 => ?_
    exact setdA_run hu S3 (e3.get (e2.get hn)) (e3.rep S2 ry) rz P4
  refine wpAny_Call_method hm.base hm.few hm.line PySem.F.plainAttrs_dict PySem.F.slot_dict_setdefault PySem.F.type_dict_setdefault (thn (we_run main pins sh I) fun u s1 ⟨x, H1, I1, rx, d, ex, ty, q1⟩ => ?_)
  subst ex
  obtain rfl : u = Value.ref d := rx
  obtain ⟨t1, t2⟩ := ty _ _ _ I1
  refine ⟨t1, t2, ?_⟩
  rw [hm.trees]
  exact Calls.callWith_builtin rfl (Calls.evalArgs_plain (Calls.spliced_cons (thn (we_run q1 pins s1 I1) fun iv s2 ⟨y, H2, I2, ry, q2⟩ => Calls.spliced_cons (thn (we_run q2 pins s2 I2) fun fv s3 ⟨z, H3, I3, rz, q3⟩ => Calls.spliced_nil (q3 pins s3 iv fv I3 ry rz)))))
end
end Mi
namespace Mi
open PySem PySem.Spec PyProof.Rows L2
/-! ### the law is called -/
theorem law_m {P : Program} {w : World} {K : PySem.W.Frag} {mg mb : Str → Option Value} {k : Nat} {fa a : Addr} {fd : FuncData} {x : Str} {g : List PV → M PV} {sh : Shared} {us : List Value} {ns : List Int} (KX : K.In sh.heap) (hns : sh.heap.Ns mainGlobals mg) (hb : sh.heap.Ns builtinsNs mb)
    (hbb : ∀ x : Str, x ≠ "__name__" → mb x = bootBuiltins x) (hlim : sh.heap.NoLimit) (hg : sh.gens = #[]) (ha : sh.heap.get? a = some { cls := .type "list", data := .seq us.toArray }) (hi : IntsAre us ns) (hl : ns.length ≤ sizeLine) (hr : Room k callerA)
    (F : ∀ bs : Heap, K.In bs → bs.Ns mainGlobals mg → FnM P w K mg bs k fa fd [x] g) (hbind : ∀ (s : Shared) (u : Value), BindsTo s fd ⟨[u], []⟩ [(x, u)]) (hm : ∃ st, g [.kl (ns.map PV.int)] [] = .ok (.bl true) st) :
    codeAny (model P w) callerA (.call (.ref fa) ⟨[.ref a], []⟩) (fun r s' => r = .ok (.ret (.bool true)) ∧ OldK sh.heap s'.heap ∧ s'.os = sh.os ∧ AllBare s'.gens) sh := by
  have rv := vals_ints hi
  have lenU := hi.length
  have main : ∀ H : Hp, (∀ b, H b = none ∨ (b = a ∧ ∃ o xs, H b = some (.frz o (.lst xs)))) → SqR K H a (ns.map V.int) → HOk P w H sh.heap → (H a ≠ none → K.lookup a = none) →
      codeAny (model P w) callerA (.call (.ref fa) ⟨[.ref a], []⟩) (fun r s' => r = .ok (.ret (.bool true)) ∧ OldK sh.heap s'.heap ∧ s'.os = sh.os ∧ AllBare s'.gens) sh := fun H hO hS hok hK => by
    have seqNo : ∀ {b : Addr} {o : Obj}, sh.heap.get? b = some o → (∀ xs n, o.data ≠ .seq xs n) → H b = none := fun {b o} e d => (hO b).elim id fun ⟨q, _⟩ => by
      subst q
      rw [ha] at e
      cases e
      exact absurd rfl (d _ _)
    have nsT : ∀ {b : Addr} {m : Str → Option Value}, sh.heap.Ns b m → (hidT sh.heap H).Ns b m := fun {b m} ⟨o, es, ep, e, d, q⟩ => ⟨o, es, ep, hidT_get e (seqNo e fun xs n z => by rw [d] at z; cases z), d, q⟩
    have inT : K.In (hidT sh.heap H) := fun b o e => hidT_get (KX b o e) ((hO b).elim id fun ⟨q, _, _, z⟩ => by
      subst q
      rw [hK (by rw [z]; simp)] at e
      cases e)
    have md : Mod K mg (hidT sh.heap H) := ⟨inT, nsT hns, ⟨mb, nsT hb, hbb⟩, let ⟨mc, h1, h2⟩ := hlim; ⟨mc, nsT h1, h2⟩⟩
    have ev : Env0 P w K mg (hidT sh.heap H) callerA [] sh H := ⟨rfl, md, fun b o e => of_hidT e, Nat.le_of_eq (hidT_size _ _), trivial, fun b hb => absurd (show b ∈ ([] : List Addr) from hb) (by simp), hok, .of_eq hg⟩
    obtain ⟨st, hm⟩ := hm
    have sim : Sim K w [] [] H := ⟨rfl, List.nodup_nil, fun i c b h1 h2 => by simp at h1⟩
    have rep : RepL K [] H [.kl (ns.map PV.int)] [.ref a] := RepL.one (rep_kl.mpr ⟨a, _, rfl, hS, repL_ints ns⟩)
    refine codeAny_mono ((F _ inT (nsT hns)).run callerA [] sh H ⟨[.ref a], []⟩ [.ref a] [.ref a] (fun v _ => v = .bl true) (fun _ _ _ => False) [] [] [.kl (ns.map PV.int)] hr rfl ev (hbind sh (.ref a)) (.cons rfl .nil) rep rfl sim ?_) fun r s' h => ?_
    · rw [hm]
      exact fun r' H' v' _ _ q => rep_bl.mp q
    · cases r with
      | error e =>
        obtain ⟨_, _, _, _, _, _, _, _, _, _, _, _, z⟩ := (show L2.CX P w [] H sh (fun _ _ _ => False) e s' from h)
        exact z.elim
      | ok fl =>
        cases fl with
        | next => exact False.elim h
        | brk => exact False.elim h
        | cont => exact False.elim h
        | ret u =>
          obtain ⟨v, H', h1, h2, un, hok', rv', q⟩ := h
          have q' : v = .bl true := q
          subst q'
          obtain rfl : u = Value.bool true := rv'
          refine ⟨rfl, OldK.of_keep fun b o e => ?_, h1, h2⟩
          rcases hO b with z | ⟨_, ob, xs, z⟩
          · exact un.keep b o e z (fun z => absurd (show b ∈ ([] : List Addr) from z) (by simp)) (by simp)
          · obtain ⟨e1, _⟩ := hok b _ z
            obtain ⟨e2, _⟩ := hok' b _ (un.frzs b ob _ z)
            rw [e] at e1; cases e1
            exact e2
  cases hk : K.lookup a with
  | some o =>
    have e := KX a o hk
    rw [ha] at e
    cases e
    exact main (fun _ => none) (fun _ => .inl rfl) (.inr ⟨_, us.toArray, _, hk, rfl, rfl, rfl, by rw [List.size_toArray, lenU]; exact hl, by simpa using rv⟩) (fun b u z => by cases (show (none : Option HO) = some u from z)) fun z => absurd rfl z
  | none =>
    refine main (fun b => if b = a then some (.frz { cls := .type "list", data := .seq us.toArray } (.lst (ns.map V.int))) else none) (fun b => ?_) (.inl ⟨_, if_pos rfl⟩) (fun b u z => ?_) fun _ => hk
    · by_cases q : b = a
      · exact .inr ⟨q, _, _, if_pos q⟩
      · exact .inl (if_neg q)
    · by_cases q : b = a
      · cases (if_pos q).symm.trans z
        subst q
        exact ⟨ha, by rw [List.length_map]; exact hl, us, _, rv, ha⟩
      · cases (if_neg q).symm.trans z
/-- from the head to the mirror of the law -/
theorem walk_m {l : PySem.W.OpenLaw} {n k : Nat} {q : Program} {loose : List Str} {XP : (Str → Option Value) → Heap → Prop} {YP : World → Heap → Prop} {d : DefRec} {x : Str} {g : List PV → M PV} (hn : l.most = some n) (hn2 : n ≤ sizeLine) (hdf : d.params.defaults = []) (hr : Room k callerA)
    (F : ∀ (w : World) (mg : Str → Option Value) (fa : Addr) (h : Heap), YP w h → h.Ns mainGlobals mg → mg d.name = some (.ref fa) → ∃ (K : PySem.W.Frag) (fd : FuncData), K.In h ∧ (∀ (s : Shared) (u : Value), BindsTo s fd ⟨[u], []⟩ [(x, u)]) ∧ ∀ bs : Heap, K.In bs → bs.Ns mainGlobals mg → FnM l.prog w K mg bs k fa fd [x] g)
    (hm : ∀ ns : List Int, ns.length ≤ n → ∃ st, g [.kl (ns.map PV.int)] [] = .ok (.bl true) st) : PySem.W.WalkO q loose XP YP l.row.toRowW d [] (fun f vs => PySem.call f vs) := by
  refine Att.attach_call hn hdf fun w s0 sh mg mb fa o pm cd doc a us ns G Y ho hd hcd hmg hobj hints hlen hg => ?_
  obtain ⟨K, fd, KX, hb, hF⟩ := F w mg fa _ Y G.T.g hmg
  exact law_m KX G.T.g G.T.b G.T.builtins G.T.nolimit hg hobj hints (Nat.le_trans hlen hn2) hr hF hb (hm ns hlen)
end Mi
namespace Mi
open PySem PySem.Spec PyProof.Rows L2
/-! ### fractions -/
def frac (q : Rat) : PV := .tup [.int q.num, .int q.den]
/-- at most n bits -/
def Sm (n : Nat) (q : Rat) : Prop := q.num.natAbs < 2 ^ n ∧ q.den < 2 ^ n
theorem log2_lt {n k : Nat} (hk : 0 < k) (h : n < 2 ^ k) : n.log2 < k := by
  by_cases hn : n = 0
  · subst hn; simpa using hk
  · exact (Nat.log2_lt hn).mpr h
theorem frac_divInt (t b : Int) (hb : 0 < b) : PV.tup [.int (t / ((Nat.gcd t.natAbs b.natAbs : Nat) : Int)), .int (b / ((Nat.gcd t.natAbs b.natAbs : Nat) : Int))] = frac (Rat.divInt t b) := by
  unfold frac
  rw [Rat.num_divInt, Rat.den_divInt]
  have e : (b.gcd t : Nat) = Nat.gcd t.natAbs b.natAbs := by rw [Int.gcd_comm]; rfl
  rw [if_neg (by omega), e, Int.sign_eq_one_of_pos hb, Int.one_mul]
  have : ((b.natAbs / Nat.gcd t.natAbs b.natAbs : Nat) : Int) = b / ((Nat.gcd t.natAbs b.natAbs : Nat) : Int) := by
    rw [Int.natCast_ediv, Int.natAbs_of_nonneg (by omega)]
  rw [this]
theorem big_lt {n : Nat} (hn : 0 < n) {i : Int} (h : i.natAbs < 2 ^ n) : big i < n := log2_lt hn h
theorem sm_add {m n : Nat} {p q : Rat} (hp : Sm m p) (hq : Sm n q) : Sm (m + n + 1) (p + q) := by
  have pd : 0 < p.den := p.den_pos
  have qd : 0 < q.den := q.den_pos
  have h := Rat.divInt_add_divInt p.num q.num (d₁ := (p.den : Int)) (d₂ := (q.den : Int)) (by omega) (by omega)
  rw [Rat.num_divInt_den, Rat.num_divInt_den] at h
  have hbp : (0 : Int) < (p.den : Int) * (q.den : Int) := Int.mul_pos (by omega) (by omega)
  have hdd : p.den * q.den < 2 ^ (m + n) := by rw [Nat.pow_add]; exact Nat.mul_lt_mul'' hp.2 hq.2
  have h1 : p.num.natAbs * q.den < 2 ^ (m + n) := by rw [Nat.pow_add]; exact Nat.mul_lt_mul'' hp.1 hq.2
  have h2 : q.num.natAbs * p.den < 2 ^ (m + n) := by rw [Nat.pow_add, Nat.mul_comm (2 ^ m)]; exact Nat.mul_lt_mul'' hq.1 hp.2
  have h3 : (p.num * (q.den : Int) + q.num * (p.den : Int)).natAbs < 2 ^ (m + n + 1) := by
    have a1 : (p.num * (q.den : Int)).natAbs = p.num.natAbs * q.den := by rw [Int.natAbs_mul, Int.natAbs_natCast]
    have a2 : (q.num * (p.den : Int)).natAbs = q.num.natAbs * p.den := by rw [Int.natAbs_mul, Int.natAbs_natCast]
    have a3 := Int.natAbs_add_le (p.num * (q.den : Int)) (q.num * (p.den : Int))
    rw [Nat.pow_succ]
    omega
  rw [h]
  unfold Sm
  rw [Rat.num_divInt, Rat.den_divInt, if_neg (by omega), Int.sign_eq_one_of_pos hbp, Int.one_mul]
  refine ⟨?_, ?_⟩
  · rw [Int.natAbs_ediv_of_dvd]
    · exact Nat.lt_of_le_of_lt (Nat.div_le_self _ _) h3
    · exact Int.gcd_dvd_right _ _
  · refine Nat.lt_of_le_of_lt (Nat.div_le_self _ _) ?_
    rw [Int.natAbs_mul, Int.natAbs_natCast, Int.natAbs_natCast, Nat.pow_succ]
    omega
theorem sm_divInt {n : Nat} {t b : Int} (hb : 0 < b) (h1 : t.natAbs < 2 ^ n) (h2 : b.natAbs < 2 ^ n) : Sm n (Rat.divInt t b) := by
  unfold Sm
  rw [Rat.num_divInt, Rat.den_divInt, if_neg (by omega), Int.sign_eq_one_of_pos hb, Int.one_mul]
  refine ⟨?_, Nat.lt_of_le_of_lt (Nat.div_le_self _ _) h2⟩
  rw [Int.natAbs_ediv_of_dvd (Int.gcd_dvd_right _ _)]
  exact Nat.lt_of_le_of_lt (Nat.div_le_self _ _) h1
theorem mul_divInt (p q : Rat) : p * q = Rat.divInt (p.num * q.num) ((p.den : Int) * (q.den : Int)) := by
  have pd : 0 < p.den := p.den_pos
  have qd : 0 < q.den := q.den_pos
  have h := Rat.divInt_mul_divInt p.num q.num (d₁ := (p.den : Int)) (d₂ := (q.den : Int))
  rw [Rat.num_divInt_den, Rat.num_divInt_den] at h
  exact h
theorem add_divInt (p q : Rat) : p + q = Rat.divInt (p.num * (q.den : Int) + q.num * (p.den : Int)) ((p.den : Int) * (q.den : Int)) := by
  have pd : 0 < p.den := p.den_pos
  have qd : 0 < q.den := q.den_pos
  have h := Rat.divInt_add_divInt p.num q.num (d₁ := (p.den : Int)) (d₂ := (q.den : Int)) (by omega) (by omega)
  rw [Rat.num_divInt_den, Rat.num_divInt_den] at h
  exact h
theorem sm_mul {m n : Nat} {p q : Rat} (hp : Sm m p) (hq : Sm n q) : Sm (m + n) (p * q) := by
  have pd : 0 < p.den := p.den_pos
  have qd : 0 < q.den := q.den_pos
  rw [mul_divInt]
  refine sm_divInt (Int.mul_pos (by omega) (by omega)) ?_ ?_
  · rw [Int.natAbs_mul, Nat.pow_add]; exact Nat.mul_lt_mul'' hp.1 hq.1
  · rw [Int.natAbs_mul, Int.natAbs_natCast, Int.natAbs_natCast, Nat.pow_add]; exact Nat.mul_lt_mul'' hp.2 hq.2
theorem sm_neg {n : Nat} {q : Rat} (h : Sm n q) : Sm n (-q) := ⟨by rw [Rat.neg_num, Int.natAbs_neg]; exact h.1, by rw [Rat.neg_den]; exact h.2⟩
theorem sm_pos {n : Nat} {q : Rat} (h : Sm n q) : 0 < n := by
  have := h.2
  have := q.den_pos
  rcases Nat.eq_zero_or_pos n with z | z
  · subst z; omega
  · exact z
theorem Sm.mono {m n : Nat} {q : Rat} (h : Sm m q) (hmn : m ≤ n) : Sm n q := ⟨Nat.lt_of_lt_of_le h.1 (Nat.pow_le_pow_right (by decide) hmn), Nat.lt_of_lt_of_le h.2 (Nat.pow_le_pow_right (by decide) hmn)⟩
theorem frac_inj {p q : Rat} (h : frac p = frac q) : p = q := by
  unfold frac at h
  injection h with h
  injection h with h1 h2
  injection h1 with h1
  injection h2 with h2
  injection h2 with h2
  exact Rat.ext h1 (by omega)
/-- p < q, by numbers -/
theorem lt_num (p q : Rat) : p < q ↔ p.num * (q.den : Int) < q.num * (p.den : Int) := Rat.lt_iff p q
end Mi
namespace Mi
open PySem PySem.Spec PyProof.Rows L2
/-! ### loops of the mirror, by invariants -/
/-- a for over n things: it runs to its end, or leaves with a value -/
theorem loop_inv {nx : Nx} {g : PV → Ev → M Ev} {body : Ev → M Flw} {n : Nat} {vf : Nat → PV} (Iv : Nat → Ev → Store → Prop) (Rv : PV → Store → Prop) (hn : ∀ i env st, i < n → Iv i env st → nx i st = .item (vf i)) (hz : ∀ env st, Iv n env st → nx n st = .stop)
    (hs : ∀ i env st, i < n → Iv i env st → (∃ env' st', (bnd (g (vf i) env) body st = .ok (.nx env') st' ∨ bnd (g (vf i) env) body st = .ok (.ct env') st') ∧ Iv (i + 1) env' st') ∨ ∃ v st', bnd (g (vf i) env) body st = .ok (.rt v) st' ∧ Rv v st') :
    ∀ k i env st, i ≤ n → n - i < k → Iv i env st → (∃ env' st', loopF nx g body k i env st = .ok (.nx env') st' ∧ Iv n env' st') ∨ ∃ v st', loopF nx g body k i env st = .ok (.rt v) st' ∧ Rv v st'
  | 0, i, env, st, hi, hk, h => by omega
  | k + 1, i, env, st, hi, hk, h => by
    by_cases hlt : i < n
    · have e : loopF nx g body (k + 1) i env st = bnd (bnd (g (vf i) env) body) (stepL (loopF nx g body k (i + 1))) st := by
        conv => lhs; unfold loopF
        rw [hn i env st hlt h]
        unfold bnd
        dsimp only
        cases g (vf i) env st <;> rfl
      rw [e]
      rcases hs i env st hlt h with ⟨env', st', q, h'⟩ | ⟨v, st', q, hv⟩
      · have e2 : bnd (bnd (g (vf i) env) body) (stepL (loopF nx g body k (i + 1))) st = loopF nx g body k (i + 1) env' st' := by
          unfold bnd at q ⊢
          rcases q with q | q <;> rw [q] <;> rfl
        rw [e2]
        exact loop_inv Iv Rv hn hz hs k (i + 1) env' st' hlt (by omega) h'
      · refine .inr ⟨v, st', ?_, hv⟩
        unfold bnd at q ⊢
        rw [q]
        rfl
    · have e : i = n := by omega
      subst e
      refine .inl ⟨env, st, ?_, h⟩
      unfold loopF
      rw [hz env st h]
/-- a comprehension over n things -/
theorem comp_inv {nx : Nx} {g : PV → Ev → M Ev} {c : Ev → M Bool} {e : Ev → M PV} {n : Nat} {vf : Nat → PV} {env : Ev} (Iv : Nat → List PV → Store → Prop) (hn : ∀ i acc st, i < n → Iv i acc st → nx i st = .item (vf i)) (hz : ∀ acc st, Iv n acc st → nx n st = .stop)
    (hs : ∀ i acc st, i < n → Iv i acc st → ∃ env1 st1 b st2, g (vf i) env st = .ok env1 st1 ∧ c env1 st1 = .ok b st2 ∧ (b = false → Iv (i + 1) acc st2) ∧ (b = true → ∃ y st3, e env1 st2 = .ok y st3 ∧ acc.length < sizeTop ∧ Iv (i + 1) (acc ++ [y]) st3)) :
    ∀ k i acc st, i ≤ n → n - i < k → Iv i acc st → ∃ acc' st', compF nx g c e k i acc env st = newC (.lst acc') st' ∧ Iv n acc' st'
  | 0, i, acc, st, hi, hk, h => by omega
  | k + 1, i, acc, st, hi, hk, h => by
    by_cases hlt : i < n
    · obtain ⟨env1, st1, b, st2, q1, q2, q3, q4⟩ := hs i acc st hlt h
      have hx := hn i acc st hlt h
      cases b with
      | false =>
        obtain ⟨acc', st', e1, e2⟩ := comp_inv Iv hn hz hs k (i + 1) acc st2 hlt (by omega) (q3 rfl)
        refine ⟨acc', st', ?_, e2⟩
        unfold compF
        rw [hx]
        unfold bnd noX
        dsimp only
        rw [q1]
        dsimp only
        rw [q2]
        exact e1
      | true =>
        obtain ⟨y, st3, q5, q6, q7⟩ := q4 rfl
        obtain ⟨acc', st', e1, e2⟩ := comp_inv Iv hn hz hs k (i + 1) (acc ++ [y]) st3 hlt (by omega) q7
        refine ⟨acc', st', ?_, e2⟩
        unfold compF
        rw [hx]
        unfold bnd noX
        dsimp only
        rw [q1]
        dsimp only
        rw [q2]
        dsimp only
        rw [if_pos rfl]
        rw [q5]
        dsimp only
        rw [if_pos q6]
        exact e1
    · have e0 : i = n := by omega
      subst e0
      refine ⟨acc, st, ?_, h⟩
      unfold compF
      rw [hz acc st h]
/-- a while that ends: a measure that falls -/
theorem while_inv {c : Ev → M Bool} {body : Ev → M Flw} (Iv : Ev → Store → Prop) (μ : Ev → Store → Nat) (Rv : PV → Store → Prop)
    (hs : ∀ env st, Iv env st → ∃ b st1, c env st = .ok b st1 ∧ (b = true → (∃ env' st', (body env st1 = .ok (.nx env') st' ∨ body env st1 = .ok (.ct env') st') ∧ Iv env' st' ∧ μ env' st' < μ env st) ∨ ∃ v st', body env st1 = .ok (.rt v) st' ∧ Rv v st')) :
    ∀ k env st, μ env st < k → Iv env st → (∃ env' st0 st', sWhile c body k env st = .ok (.nx env') st' ∧ Iv env' st0 ∧ c env' st0 = .ok false st') ∨ ∃ v st', sWhile c body k env st = .ok (.rt v) st' ∧ Rv v st'
  | 0, env, st, hk, h => by omega
  | k + 1, env, st, hk, h => by
    obtain ⟨b, st1, q1, q2⟩ := hs env st h
    cases b with
    | false =>
      refine .inl ⟨env, st, st1, ?_, h, q1⟩
      unfold sWhile bnd
      rw [q1]
      rfl
    | true =>
      rcases q2 rfl with ⟨env', st', q, h', hm⟩ | ⟨v, st', q, hv⟩
      · have e : sWhile c body (k + 1) env st = sWhile c body k env' st' := by
          conv => lhs; unfold sWhile
          unfold bnd
          rw [q1]
          dsimp only
          rw [if_pos rfl]
          rcases q with q | q <;> rw [q] <;> rfl
        rw [e]
        exact while_inv Iv μ Rv hs k env' st' (by omega) h'
      · refine .inr ⟨v, st', ?_, hv⟩
        unfold sWhile bnd
        rw [q1]
        dsimp only
        rw [if_pos rfl]
        rw [q]
        rfl
end Mi
namespace Mi
open PySem PySem.Spec PyProof.Rows L2
/-! ### t[::-1] -/
theorem fm_congr {α β : Type} {f g : α → Option β} : ∀ {l : List α}, (∀ x ∈ l, f x = g x) → l.filterMap f = l.filterMap g
  | [], _ => rfl
  | x :: l, h => by
    rw [List.filterMap_cons, List.filterMap_cons, h x List.mem_cons_self, fm_congr fun y hy => h y (List.mem_cons_of_mem _ hy)]
theorem rev_pick (xs : Array Value) : ((List.range xs.size).filterMap fun (m : Nat) => xs[((xs.size : Int) - 1 + (m : Int) * (-1)).toNat]?).toArray = xs.toList.reverse.toArray := by
  have e : (List.range xs.size).filterMap (fun (m : Nat) => xs[((xs.size : Int) - 1 + (m : Int) * (-1)).toNat]?) = ((List.range xs.size).map fun k => xs.size - 1 - k).filterMap (xs[·]?) := by
    rw [List.filterMap_map]
    refine fm_congr fun k hk => ?_
    have hk' := List.mem_range.mp hk
    show xs[((xs.size : Int) - 1 + (k : Int) * (-1)).toNat]? = xs[xs.size - 1 - k]?
    rw [show ((xs.size : Int) - 1 + (k : Int) * (-1)).toNat = xs.size - 1 - k by omega]
  rw [e, PySem.W.krv_range, List.filterMap_reverse, PySem.W.krv_all]
theorem rev_applied {prog : Program} {w : World} {A : Around} {EE : Value → Shared → Prop} {sh : Shared} {sl : Addr} {vl vu vs : Value} {n : Nat} {QQ : Int × Int × Nat → Shared → Prop} (hs : sh.heap.IsSliceOf sl vl vu vs) (pl : IsPart vl none) (pu : IsPart vu none) (ps : IsPart vs (some (-1)))
    (h : QQ ((n : Int) - 1, -1, n) sh) : wpAny (model prog w) A (Builtin.Slice.sliceApplied (.ref sl) (pure (n : Int))) QQ EE sh := by
  obtain ⟨ob, hob, hcb, hdb⟩ := id hs
  unfold Builtin.Slice.sliceApplied Builtin.Slice.sliceFields
  refine wpAny_bind (wpAny_bind (wpAny_field hob hdb (x := vl) rfl (wpAny_bind (wpAny_field hob hdb (x := vu) rfl (wpAny_bind (wpAny_field hob hdb (x := vs) rfl (wpAny_pure ?_)))))))
  refine wpAny_bind (HT.slicePart_ ps ?_)
  show wpAny _ _ (if ((-1 : Int) == 0) = true then _ else _) _ _ sh
  rw [if_neg (by decide)]
  refine wpAny_bind (HT.slicePart_ pl (wpAny_bind (HT.slicePart_ pu (wpAny_bind (wpAny_pure ?_)))))
  have e1 : Builtin.Slice.sliceAdjust none none (-1) (n : Int) = ((n : Int) - 1, -1) := by
    unfold Builtin.Slice.sliceAdjust
    rfl
  have e2 : Builtin.Slice.slicePlaces ((n : Int) - 1) (-1) (-1) = n := by
    unfold Builtin.Slice.slicePlaces
    have h1 : ¬ ((-1 : Int) > 0) := by decide
    simp only [h1, if_false]
    by_cases hn : n = 0
    · subst hn; rfl
    · rw [if_pos (by omega)]
      have : ((n : Int) - 1 - -1 - 1) / (- -1) + 1 = (n : Int) := by
        rw [show (- -1 : Int) = 1 by decide, Int.ediv_one]; omega
      omega
  show wpAny _ _ (match Builtin.Slice.sliceAdjust none none (-1) (n : Int) with | (lo, hi) => pure (lo, (-1 : Int), Builtin.Slice.slicePlaces lo hi (-1))) _ _ sh
  rw [e1]
  show wpAny _ _ (pure ((n : Int) - 1, (-1 : Int), Builtin.Slice.slicePlaces ((n : Int) - 1) (-1) (-1))) _ _ sh
  rw [e2]
  exact wpAny_pure h
theorem rev_getItem {prog : Program} {w : World} {A : Around} {EE : Value → Shared → Prop} {sh : Shared} {t sl : Addr} {items : Array Value} {vl vu vs : Value} {QQ : Value → Shared → Prop} (ht : IsTup sh.heap t items) (hs : sh.heap.IsSliceOf sl vl vu vs) (pl : IsPart vl none) (pu : IsPart vu none) (ps : IsPart vs (some (-1)))
    (h : QQ (.ref sh.heap.objs.size) { sh with heap := sh.heap.push { cls := .type "tuple", data := .seq items.toList.reverse.toArray } }) (hsz : items.size ≤ sizeLine) : wpAny (model prog w) A (getItem (.ref t) (.ref sl)) QQ EE sh := by
  have hok : sizeOk (.seq items.toList.reverse.toArray) := by
    show items.toList.reverse.toArray.size ≤ sizeLine
    rw [List.size_toArray, List.length_reverse, Array.length_toList]
    exact hsz
  obtain ⟨ob, hob, hcb, hdb⟩ := id hs
  have hTy : sh.TypeIs (.ref sl) "slice" := ⟨ob, hob, hcb⟩
  unfold getItem
  try with_reducible refine wpAny_holding ?_
  first | refine wpAny_bind (wpAny_pure ?_) | skip
  refine wpAny_bind (wpAny_sequenceKey ht.typeIs (by decide) ?_)
  refine wpAny_bind (wpAny_callSpecial?_slot (name := Str.ofString "__getitem__") ht.typeIs PyProof.Rows.slot_tuple_getitem (wpAny_call_entry PyProof.Rows.slot_tuple_getitem ht.typeIs entry_tuple_getitem ?_ (args_tuple_getitem _ _)))
  show wpAny _ _ (Builtin.Tuple.tupleItemsOf (.ref t) >>= _) _ _ sh
  refine wpAny_bind (PyProof.Rows.tupleItemsOf_ ht ?_)
  refine wpAny_bind (wpAny_typeOf hTy ?_)
  rw [if_pos (by decide)]
  refine wpAny_bind (rev_applied hs pl pu ps ?_)
  have hno : ¬ ((((items.size : Int) - 1) == 0 && (-1 : Int) == 1 && items.size == items.size) = true) := by
    intro q
    rw [Bool.and_eq_true, Bool.and_eq_true] at q
    exact absurd q.1.2 (by decide)
  show wpAny _ _ (if (((items.size : Int) - 1) == 0 && (-1 : Int) == 1 && items.size == items.size) = true then _ else _) _ _ sh
  rw [if_neg hno, rev_pick]
  first
    | exact wpAny_bind (m := Builtin.Tuple.tupleExact _) (wpAny_newObj_type (wpAny_pure ⟨_, rfl, wpAny_pure h⟩) hok)
    | exact wpAny_bind (m := Builtin.Tuple.tupleExact _) (wpAny_newObj_type (wpAny_bind (wpAny_pure (wpAny_pure ⟨_, rfl, wpAny_pure h⟩))) hok)
    | exact wpAny_bind (wpAny_bind (m := Builtin.Tuple.tupleExact _) (wpAny_newObj_type (wpAny_pure (wpAny_pure ⟨_, rfl, wpAny_pure h⟩)) hok))
    | exact wpAny_bind (wpAny_bind (m := Builtin.Tuple.tupleExact _) (wpAny_newObj_type (wpAny_pure ⟨_, rfl, wpAny_pure h⟩) hok))
def revV : PV → M PV
  | .tup xs => ret (.tup xs.reverse)
  | .loc n => fun st => match getL n st with
    | some xs => newC (.lst xs.reverse) st
    | none => .bad
  | _ => bad
theorem RepL.rev {K : PySem.W.Frag} {r : List Addr} {H : Hp} : ∀ {xs : List PV} {vs : List V}, RepL K r H xs vs → RepL K r H xs.reverse vs.reverse
  | [], vs, h => by simp only [RepL] at h; subst h; simp only [List.reverse_nil, RepL]
  | x :: xs, vs, h => by
    simp only [RepL] at h
    obtain ⟨v, ws, rfl, h1, h2⟩ := h
    rw [List.reverse_cons, List.reverse_cons]
    exact h2.rev.append (RepL.one h1)
section
variable {X : Cx}
def tRevA (X : Cx) (te : TE) : TE := fun σ H Q => te σ H fun x H1 => ∃ a xs, x = .ref a ∧ ((SqL X.K H1 a xs ∧ ∀ p, H1 p = none → Q (.ref p) (upd H1 p (.lst xs.reverse))) ∨ (SqT X.K H1 a xs ∧ ∀ p, H1 p = none → Q (.ref p) (upd H1 p (.tup xs.reverse))))
theorem pe_revA {e : Expr} {te : TE} {k : Nat} {p1 p2 p3 pos : Pos} (he : PE X e te) : PE X (.Subscript e (.Slice none none (some (.UnaryOp .USub (.Constant (.int 1) k p1) p2)) p3) pos) (tRevA X te) := by
  refine ⟨fun pins s σ H Q I h => ?_⟩
  refine Subscript_ (thn (he.run pins s σ H _ I h) fun v s1 ⟨x, H1, I1, r1, q1⟩ => ?_)
  obtain ⟨a, xs, rfl, q1⟩ := q1
  cases r1
  have stp : PO X (some (.UnaryOp .USub (.Constant (.int 1) k p1) p2)) (tPart (tUn (rU fun i => .int (-i)) (tC (.int 1)))) := po_some (pe_un un_neg pe_int)
  refine wpAny_Slice (thn (po_none.run pins s1 σ H1 (fun o H2 => o = none ∧ H2 = H1) I1 ⟨rfl, rfl⟩) fun vl s2 ⟨l, H2, I2, pl, el, e2⟩ => thn (po_none.run pins s2 σ H2 (fun o H3 => o = none ∧ H3 = H2) I2 ⟨rfl, rfl⟩) fun vu s3 ⟨u, H3, I3, pu, eu, e3⟩ => thn (stp.run pins s3 σ H3 (fun o H4 => o = some (-1) ∧ H4 = H3) I3 ⟨1, rfl, -1, rfl, rfl, rfl⟩) fun vs s4 ⟨o, H4, I4, ps, eo, e4⟩ => ?_)
  subst el e2 eu e3 eo e4
  have IS : Inv X pins σ H4 { s4 with heap := s4.heap.push { cls := .type "slice", data := .fields #[vl, vu, vs] } } := I4.kept (t' := s4.toks) fun b ob q => Heap.get?_push_of_some _ q
  show wpAny (model X.prog X.w) X.A (subscriptTail e (.Slice none none (some (.UnaryOp .USub (.Constant (.int 1) k p1) p2)) p3) (.ref a) (.ref s4.heap.objs.size)) (EP X pins σ Q) X.xe { s4 with heap := s4.heap.push { cls := .type "slice", data := .fields #[vl, vu, vs] } }
  rcases q1 with ⟨hx, q⟩ | ⟨hx, q⟩
  · obtain ⟨its, rv, ht, hz⟩ := IS.list hx
    have hlen := rv.length
    refine tail_any (ops := [.ref a, .ref s4.heap.objs.size]) ht.isList.typeIs (PySem.slot_list_getitem.lookup) ?_ (by with_unfolding_all rfl)
    refine wpAny_getItem_list_slice ht.isList (Heap.IsSliceOf.new _ vl vu vs) pl pu ps (by decide) ?_ (by rw [List.size_toArray]; omega)
    rw [PySem.W.krv_pick]
    exact ⟨.ref _, _, IS.laid (t' := s4.toks) (o := .lst xs.reverse) (fun b ob q => Heap.get?_push_of_some _ q) (Nat.le_refl _) ⟨by rw [List.length_reverse]; exact hz, _, 0, rv.reverse, Heap.get?_push_size _ rfl⟩, rfl, q _ (IS.hok.fresh (Nat.le_refl _))⟩
  · obtain ⟨its, rv, ht, hz⟩ := IS.tuple hx
    have hlen := rv.length
    refine tail_any (ops := [.ref a, .ref s4.heap.objs.size]) ht.typeIs PyProof.Rows.slot_tuple_getitem.lookup ?_ (by with_unfolding_all rfl)
    refine rev_getItem ht (Heap.IsSliceOf.new _ vl vu vs) pl pu ps ?_ (by rw [List.size_toArray]; omega)
    exact ⟨.ref _, _, IS.laid (t' := s4.toks) (o := .tup xs.reverse) (fun b ob q => Heap.get?_push_of_some _ q) (Nat.le_refl _) ⟨by rw [List.length_reverse]; exact hz, _, rv.reverse, IsTup.new _ _⟩, rfl, q _ (IS.hok.fresh (Nat.le_refl _))⟩
theorem re_rev {e : Expr} {f : Ev → M PV} {k : Nat} {p1 p2 p3 pos : Pos} (he : RE X e f) : RE X (.Subscript e (.Slice none none (some (.UnaryOp .USub (.Constant (.int 1) k p1) p2)) p3) pos) (x1 revV f) := by
  intro W tk r st s H env Q E S P
  refine w_pe (pe_revA pe_w) ?_
  refine he.seq tk E S P fun r1 st1 H1 x x' e1 E1 S1 rx P1 => ?_
  unfold revV at P1
  split at P1
  · rename_i xs
    obtain ⟨a, vs, rfl, h1, h2⟩ := rep_tup.mp rx
    exact ⟨a, vs, rfl, .inr ⟨h1, fun p hp => P1.newT S1 hp h2.rev⟩⟩
  · rename_i n
    obtain ⟨a, rfl, h1⟩ := rep_loc.mp rx
    cases g : getL n st1 with
    | none => rw [g] at P1; exact P1.elim
    | some xs =>
      rw [g] at P1
      obtain ⟨b, vs, q1, q2, q3⟩ := S1.getL g
      rw [h1] at q1; cases q1
      exact ⟨a, vs, rfl, .inl ⟨q2, fun p hp => P1.newL S1 hp q3.rev⟩⟩
  · exact P1.elim
end
end Mi
namespace Mi
open PySem PySem.Spec PyProof.Rows L2
/-! ### stores that only grow -/
def Gr (st st' : Store) : Prop := ∃ q, st' = st ++ q
theorem Gr.refl (st : Store) : Gr st st := ⟨[], by simp⟩
theorem Gr.trans {a b c : Store} (h : Gr a b) (k : Gr b c) : Gr a c := by
  obtain ⟨p, rfl⟩ := h
  obtain ⟨q, rfl⟩ := k
  exact ⟨p ++ q, by simp⟩
theorem Gr.new (st : Store) (c : Cell) : Gr st (st ++ [c]) := ⟨[c], rfl⟩
theorem Gr.at {a b : Store} (h : Gr a b) {n : Nat} {c : Cell} (e : a[n]? = some c) : b[n]? = some c := by
  obtain ⟨q, rfl⟩ := h
  rw [List.getElem?_append_left (List.getElem?_eq_some_iff.mp e).1]
  exact e
theorem Gr.len {a b : Store} (h : Gr a b) : a.length ≤ b.length := by
  obtain ⟨q, rfl⟩ := h
  simp
theorem Gr.set {a b : Store} (h : Gr a b) {n : Nat} (c : Cell) (hn : a.length ≤ n) : Gr a (b.set n c) := by
  obtain ⟨q, rfl⟩ := h
  exact ⟨q.set (n - a.length) c, by rw [List.set_append_right _ _ hn]⟩
theorem at_new (st : Store) (c : Cell) : (st ++ [c])[st.length]? = some c := by simp
theorem gl {st : Store} {n : Nat} {xs : List PV} (h : st[n]? = some (.lst xs)) : getL n st = some xs := by unfold getL; rw [h]
theorem gm {st : Store} {n : Nat} {xs : List PV} (h : st[n]? = some (.lst xs)) : getM n st = some xs := by unfold getM; rw [h]
theorem bnd_ok {α β : Type} {m : M α} {k : α → M β} {st st' : Store} {a : α} (h : m st = .ok a st') : bnd m k st = k a st' := by unfold bnd; rw [h]
theorem seq_nx {f g : Ev → M Flw} {env env' : Ev} {st st' : Store} (h : f env st = .ok (.nx env') st') : sSeq f g env st = g env' st' := by unfold sSeq bnd; rw [h]; rfl
theorem seq_rt {f g : Ev → M Flw} {env : Ev} {st st' : Store} {v : PV} (h : f env st = .ok (.rt v) st') : sSeq f g env st = .ok (.rt v) st' := by unfold sSeq bnd; rw [h]; rfl
theorem asg_ok {f : Ev → M PV} {i : Nat} {env : Ev} {st st' : Store} {v : PV} (h : f env st = .ok v st') : sAsg f (gSet i) env st = .ok (.nx (env.set i (some v))) st' := by unfold sAsg bnd; rw [h]; rfl
theorem ret_ok {f : Ev → M PV} {env : Ev} {st st' : Store} {v : PV} (h : f env st = .ok v st') : sRet f env st = .ok (.rt v) st' := by unfold sRet bnd; rw [h]; rfl
theorem run_rt {n : Nat} {b : Ev → M Flw} {xs : List PV} {st st' : Store} {v : PV} (h : b (xs.map some ++ List.replicate (n - xs.length) none) st = .ok (.rt v) st') : runB n b xs st = .ok v st' := by unfold runB; rw [h]
theorem callM_ok {m : M PV} {st st' : Store} {v : PV} (h : m st = .ok v st') (env : Ev) : callM env m st = .ok v st' := by unfold callM; rw [h]
/-- the value, the store grown -/
def Ok (m : Res PV) (st : Store) (v : PV) : Prop := ∃ st', m = .ok v st' ∧ Gr st st'
/-- a new list -/
def OkL (m : Res PV) (st : Store) (xs : List PV) : Prop := ∃ st' n, m = .ok (.loc n) st' ∧ Gr st st' ∧ st.length ≤ n ∧ st'[n]? = some (.lst xs)
theorem okL_new {st0 st : Store} (g : Gr st0 st) (xs : List PV) : OkL (newC (.lst xs) st) st0 xs :=
  ⟨_, _, rfl, g.trans (Gr.new _ _), g.len, at_new _ _⟩
theorem fm_range (xs : List PV) (f : PV → Option PV) : (List.range xs.length).filterMap (fun i => (xs[i]?).bind f) = xs.filterMap f := by
  induction xs with
  | nil => rfl
  | cons x xs ih =>
    rw [List.length_cons, List.range_succ_eq_map, List.filterMap_cons, List.filterMap_map]
    simp only [List.getElem?_cons_zero, Option.bind_some, List.filterMap_cons]
    have e : ((fun i => ((x :: xs)[i]?).bind f) ∘ Nat.succ) = fun i => (xs[i]?).bind f := by
      funext i
      simp
    rw [e, ih]
/-- a comprehension -/
theorem comp_ok {nx : Nx} {g : PV → Ev → M Ev} {c : Ev → M Bool} {e : Ev → M PV} {env : Ev} {st0 : Store} {n k : Nat} {vf : Nat → PV} (F : Nat → Option PV)
    (hnx : ∀ st, Gr st0 st → ∀ i, i < n → nx i st = .item (vf i)) (hz : ∀ st, Gr st0 st → nx n st = .stop)
    (hs : ∀ i st, i < n → Gr st0 st → ∃ env1 b st2, g (vf i) env st = .ok env1 st ∧ c env1 st = .ok b st2 ∧ Gr st st2 ∧ (b = false → F i = none) ∧ (b = true → ∃ y st3, e env1 st2 = .ok y st3 ∧ Gr st2 st3 ∧ F i = some y))
    (hsz : n < sizeTop) (hk : n < k) : OkL (compF nx g c e k 0 [] env st0) st0 ((List.range n).filterMap F) := by
  obtain ⟨acc, st', e1, g1, rfl⟩ := comp_inv (vf := vf) (env := env) (fun i acc st => Gr st0 st ∧ acc = (List.range i).filterMap F) (fun i acc st hi h => hnx st h.1 i hi) (fun acc st h => hz st h.1) (fun i acc st hi h => by
    obtain ⟨g0, rfl⟩ := h
    obtain ⟨env1, b, st2, q1, q2, q3, q4, q5⟩ := hs i st hi g0
    refine ⟨env1, st, b, st2, q1, q2, fun hb => ⟨g0.trans q3, ?_⟩, fun hb => ?_⟩
    · rw [List.range_succ, List.filterMap_append]
      simp [q4 hb]
    · obtain ⟨y, st3, q6, q7, q8⟩ := q5 hb
      refine ⟨y, st3, q6, ?_, (g0.trans q3).trans q7, ?_⟩
      · refine Nat.lt_of_le_of_lt (List.length_filterMap_le _ _) ?_
        rw [List.length_range]; omega
      · rw [List.range_succ, List.filterMap_append]
        simp [q8]) k 0 [] st0 (Nat.zero_le _) hk ⟨Gr.refl _, rfl⟩
  rw [e1]
  exact okL_new g1 _
theorem lc_ok {fi : Ev → M Nx} {nx : Nx} {vs : List Nat} {g : PV → Ev → M Ev} {c : Ev → M Bool} {e : Ev → M PV} {env : Ev} {st st0 : Store} {n : Nat} {vf : Nat → PV} (F : Nat → Option PV) (hfi : fi env st = .ok nx st0) (g0 : Gr st st0)
    (hnx : ∀ st, Gr st0 st → ∀ i, i < n → nx i st = .item (vf i)) (hz : ∀ st, Gr st0 st → nx n st = .stop)
    (hs : ∀ i st, i < n → Gr st0 st → ∃ env1 b st2, g (vf i) (wipeE env vs) st = .ok env1 st ∧ c env1 st = .ok b st2 ∧ Gr st st2 ∧ (b = false → F i = none) ∧ (b = true → ∃ y st3, e env1 st2 = .ok y st3 ∧ Gr st2 st3 ∧ F i = some y))
    (hsz : n < 1000000) : OkL (xLc fu vs fi g c e env st) st ((List.range n).filterMap F) := by
  obtain ⟨st', l, e1, e2, e3, e4⟩ := comp_ok F hnx hz hs (by unfold sizeTop; omega) (show n < fu by unfold fu; omega)
  exact ⟨st', l, by unfold xLc bnd; rw [hfi]; exact e1, g0.trans e2, Nat.le_trans g0.len e3, e4⟩
/-- over a list -/
theorem lc_list {fi : Ev → M Nx} {l : Nat} {xs : List PV} {vs : List Nat} {g : PV → Ev → M Ev} {c : Ev → M Bool} {e : Ev → M PV} {env : Ev} {st st0 : Store} (f : PV → Option PV) (hfi : fi env st = .ok (nxL l) st0) (g0 : Gr st st0) (hl : st0[l]? = some (.lst xs))
    (hs : ∀ x st', x ∈ xs → Gr st0 st' → ∃ env1 b st2, g x (wipeE env vs) st' = .ok env1 st' ∧ c env1 st' = .ok b st2 ∧ Gr st' st2 ∧ (b = false → f x = none) ∧ (b = true → ∃ y st3, e env1 st2 = .ok y st3 ∧ Gr st2 st3 ∧ f x = some y))
    (hsz : xs.length < 1000000) : OkL (xLc fu vs fi g c e env st) st (xs.filterMap f) := by
  have h := lc_ok (vs := vs) (g := g) (c := c) (e := e) (n := xs.length) (vf := fun i => (xs[i]?).getD .non) (fun i => (xs[i]?).bind f) hfi g0 (fun st1 g1 i hi => by
    unfold nxL
    rw [gl (g1.at hl)]
    simp [hi]) (fun st1 g1 => by
    unfold nxL
    rw [gl (g1.at hl)]
    simp) (fun i st1 hi g1 => by
    have := hs xs[i] st1 (List.getElem_mem hi) g1
    rw [List.getElem?_eq_getElem hi]
    exact this) hsz
  rw [fm_range] at h
  exact h
theorem lc_tup {fi : Ev → M Nx} {xs : List PV} {vs : List Nat} {g : PV → Ev → M Ev} {c : Ev → M Bool} {e : Ev → M PV} {env : Ev} {st st0 : Store} (f : PV → Option PV) (hfi : fi env st = .ok (nxT xs) st0) (g0 : Gr st st0)
    (hs : ∀ x st', x ∈ xs → Gr st0 st' → ∃ env1 b st2, g x (wipeE env vs) st' = .ok env1 st' ∧ c env1 st' = .ok b st2 ∧ Gr st' st2 ∧ (b = false → f x = none) ∧ (b = true → ∃ y st3, e env1 st2 = .ok y st3 ∧ Gr st2 st3 ∧ f x = some y))
    (hsz : xs.length < 1000000) : OkL (xLc fu vs fi g c e env st) st (xs.filterMap f) := by
  have h := lc_ok (vs := vs) (g := g) (c := c) (e := e) (n := xs.length) (vf := fun i => (xs[i]?).getD .non) (fun i => (xs[i]?).bind f) hfi g0 (fun st1 g1 i hi => by
    unfold nxT
    simp [hi]) (fun st1 g1 => by
    unfold nxT
    simp) (fun i st1 hi g1 => by
    have := hs xs[i] st1 (List.getElem_mem hi) g1
    rw [List.getElem?_eq_getElem hi]
    exact this) hsz
  rw [fm_range] at h
  exact h
/-- a for that runs to its end -/
theorem for_ok {nx : Nx} {g : PV → Ev → M Ev} {body : Ev → M Flw} {n : Nat} {vf : Nat → PV} {env : Ev} {st : Store} (Iv : Nat → Ev → Store → Prop) (hn : ∀ i env st, i < n → Iv i env st → nx i st = .item (vf i)) (hz : ∀ env st, Iv n env st → nx n st = .stop)
    (hs : ∀ i env st, i < n → Iv i env st → ∃ env' st', bnd (g (vf i) env) body st = .ok (.nx env') st' ∧ Iv (i + 1) env' st') (h0 : Iv 0 env st) (hk : n < 1000000) :
    ∃ env' st', loopF nx g body fu 0 env st = .ok (.nx env') st' ∧ Iv n env' st' := by
  rcases loop_inv (vf := vf) Iv (fun _ _ => False) hn hz (fun i env st hi h => by
    obtain ⟨env', st', e, h'⟩ := hs i env st hi h
    exact .inl ⟨env', st', .inl e, h'⟩) fu 0 env st (Nat.zero_le _) (by unfold fu; omega) h0 with h | ⟨v, st', _, z⟩
  · exact h
  · exact z.elim
end Mi
namespace Mi
open PySem PySem.Spec PyProof.Rows L2
/-! ### two by two, again and again -/
theorem xv {env : Ev} {i : Nat} {v : PV} (h : env[i]? = some (some v)) (st : Store) : xVar i env st = .ok v st := by unfold xVar; rw [h]
def round {α : Type} (f : α → α → α) : List α → List α
  | x :: y :: r => f x y :: round f r
  | r => r
section
variable {α : Type} (f : α → α → α)
theorem round_len : ∀ xs : List α, (round f xs).length = (xs.length + 1) / 2
  | [] => by simp [round]
  | [x] => by simp [round]
  | x :: y :: r => by
    have := round_len r
    simp only [round, List.length_cons]
    omega
theorem round_get : ∀ (xs : List α) (i : Nat) (x y : α), xs[2 * i]? = some x → xs[2 * i + 1]? = some y → (round f xs)[i]? = some (f x y)
  | [], i, x, y, h, _ => by simp at h
  | [a], i, x, y, h, k => by
    have := (List.getElem?_eq_some_iff.mp k).1
    simp at this
  | a :: b :: r, 0, x, y, h, k => by
    simp at h k
    subst h; subst k
    simp [round]
  | a :: b :: r, i + 1, x, y, h, k => by
    have e1 : 2 * (i + 1) = 2 * i + 1 + 1 := by omega
    rw [e1] at h k
    simp only [List.getElem?_cons_succ] at h k
    simp only [round, List.getElem?_cons_succ]
    exact round_get r i x y h k
theorem round_tail : ∀ (xs : List α) (i : Nat), xs.length / 2 ≤ i → (round f xs)[i]? = xs[i + xs.length / 2]?
  | [], i, _ => by simp [round]
  | [a], i, _ => by simp [round]
  | a :: b :: r, 0, h => by simp only [List.length_cons] at h; omega
  | a :: b :: r, i + 1, h => by
    have e : (a :: b :: r).length / 2 = r.length / 2 + 1 := by simp only [List.length_cons]; omega
    rw [e] at h ⊢
    have e2 : i + 1 + (r.length / 2 + 1) = (i + r.length / 2) + 1 + 1 := by omega
    rw [e2]
    simp only [round, List.getElem?_cons_succ]
    exact round_tail r i (by omega)
end
/-- things and their values -/
def RL {α : Type} (R : Store → α → PV → Prop) (st : Store) (xs : List α) (vs : List PV) : Prop := xs.length = vs.length ∧ ∀ (i : Nat) (x : α) (v : PV), xs[i]? = some x → vs[i]? = some v → R st x v
/-- the sums of two neighbours -/
def xPairs (a : Nat) (g : List PV → M PV) : Ev → M PV := xLc fu [a] (xRng rng3 (aCons (xC (.int (0))) (aCons (x2 subV (xA lenV (aCons (xVar 1) aNil)) (xC (.int (1)))) (aCons (xC (.int (2))) aNil)))) (gSet a) bYes (xCallN 2 g (aCons (x2 ixA (xVar 1) (xVar a)) (aCons (x2 ixA (xVar 1) (x2 addV (xVar a) (xC (.int (1))))) aNil)))
theorem fits_small {i : Int} (h0 : -2 ≤ i) (h : i < 2000000) : Builtin.Range.rangeFitsLong i = true := by
  unfold Builtin.Range.rangeFitsLong
  simp
  omega
theorem rng3_two {m : Nat} (hm : m < 1000000) (st : Store) : rng3 [.int 0, .int m, .int 2] st = .ok (nxC 0 2 ((m + 1) / 2)) st := by
  have h1 : Builtin.Range.rangeSize 0 m 2 = (((m + 1) / 2 : Nat) : Int) := by
    unfold Builtin.Range.rangeSize
    rw [if_pos (by decide)]
    split <;> omega
  have h2 : Builtin.Range.small 0 m 2 = true := by
    unfold Builtin.Range.small
    rw [h1, fits_small (by decide) (by decide), fits_small (i := (m : Int)) (by omega) (by omega), fits_small (i := 2) (by decide) (by decide), fits_small (i := (((m + 1) / 2 : Nat) : Int)) (by omega) (by omega), if_pos (by decide), fits_small (i := (m : Int) + (2 - 1)) (by omega) (by omega)]
    simp
  unfold rng3
  dsimp only
  rw [h1]
  rw [if_pos ⟨by decide, by decide, h2, rfl⟩]
  rfl
theorem ix_at {st : Store} {n : Nat} {xs : List PV} {i : Int} {j : Nat} {v : PV} (h : st[n]? = some (.lst xs)) (e : i = (j : Nat)) (g : xs[j]? = some v) : ixA (.loc n) (.int i) st = .ok v st := by
  subst e
  have hlt := (List.getElem?_eq_some_iff.mp g).1
  have e : atI xs (j : Int) = some v := by
    unfold atI ixN
    rw [if_pos (by omega), if_pos (by omega)]
    exact g
  unfold ixA ixV
  dsimp only
  rw [gl h]
  dsimp only
  rw [e]
  rfl
theorem len_at {st : Store} {n : Nat} {xs : List PV} (h : st[n]? = some (.lst xs)) : lenV [.loc n] st = .ok (.int xs.length) st := by
  unfold lenV
  dsimp only
  rw [gl h]
section
variable {α : Type} {R : Store → α → PV → Prop} {f : α → α → α} {g : List PV → M PV} {st0 : Store}
theorem pairs_ok {a : Nat} {env : Ev} {st : Store} {n : Nat} {xs : List α} {vs : List PV} (hR : ∀ {st st' x v}, Gr st st' → R st x v → R st' x v) (ha : a ≠ 1) (hal : a < env.length) (he : env[1]? = some (some (.loc n))) (hn : st[n]? = some (.lst vs)) (hx : RL R st xs vs) (h2 : 2 ≤ xs.length) (hsz : xs.length < 1000000)
    (hg : ∀ (i : Nat) st' x y v w, Gr st st' → xs[2 * i]? = some x → xs[2 * i + 1]? = some y → R st' x v → R st' y w → ∃ z st2, g [v, w] st' = .ok z st2 ∧ Gr st' st2 ∧ R st2 (f x y) z) :
    ∃ st' m zs, xPairs a g env st = .ok (.loc m) st' ∧ Gr st st' ∧ st'[m]? = some (.lst zs) ∧ zs.length = xs.length / 2 ∧ ∀ (i : Nat) x y z, xs[2 * i]? = some x → xs[2 * i + 1]? = some y → zs[i]? = some z → R st' (f x y) z := by
  have hlen : vs.length = xs.length := hx.1.symm
  have e1 : xRng rng3 (aCons (xC (.int (0))) (aCons (x2 subV (xA lenV (aCons (xVar 1) aNil)) (xC (.int (1)))) (aCons (xC (.int (2))) aNil))) env st = .ok (nxC 0 2 (xs.length / 2)) st := by
    have r := rng3_two (m := xs.length - 1) (by omega) st
    have c : ((xs.length - 1 : Nat) : Int) = (vs.length : Int) - 1 := by omega
    rw [c] at r
    have c2 : (xs.length - 1 + 1) / 2 = xs.length / 2 := by omega
    rw [c2] at r
    simp [xRng, aCons, aNil, xC, bnd, Mi.ret, x2, xA, xv he, len_at hn, subV, r]
  have hw : (wipeE env [a])[1]? = some (some (.loc n)) := by
    simp only [wipeE]
    rw [List.getElem?_set_ne ha]; exact he
  obtain ⟨acc, st', q1, g1, q2, q3⟩ := comp_inv (nx := nxC 0 2 (xs.length / 2)) (g := gSet a) (c := bYes) (e := xCallN 2 g (aCons (x2 ixA (xVar 1) (xVar a)) (aCons (x2 ixA (xVar 1) (x2 addV (xVar a) (xC (.int (1))))) aNil))) (n := xs.length / 2) (vf := fun i => .int (0 + (i : Nat) * 2)) (env := wipeE env [a])
    (fun i acc st' => Gr st st' ∧ acc.length = i ∧ ∀ (j : Nat) x y z, xs[2 * j]? = some x → xs[2 * j + 1]? = some y → acc[j]? = some z → R st' (f x y) z) (fun i acc st' hi h => by unfold nxC; rw [if_pos hi]) (fun acc st' h => by unfold nxC; rw [if_neg (by omega)]) (fun i acc st' hi h => by
      obtain ⟨g0, hacc, h⟩ := h
      have i1 : 2 * i + 1 < xs.length := by omega
      have x1 : xs[2 * i]? = some (xs[2 * i]'(by omega)) := List.getElem?_eq_getElem _
      have y1 : xs[2 * i + 1]? = some xs[2 * i + 1] := List.getElem?_eq_getElem _
      have v1 : vs[2 * i]? = some (vs[2 * i]'(by omega)) := List.getElem?_eq_getElem _
      have w1 : vs[2 * i + 1]? = some (vs[2 * i + 1]'(by omega)) := List.getElem?_eq_getElem _
      obtain ⟨z, st2, p1, p2, p3⟩ := hg i st' _ _ _ _ g0 x1 y1 (hR g0 (hx.2 _ _ _ x1 v1)) (hR g0 (hx.2 _ _ _ y1 w1))
      refine ⟨(wipeE env [a]).set a (some (.int (0 + (i : Nat) * 2))), st', true, st', rfl, rfl, (fun z => by cases z), fun _ => ⟨z, st2, ?_, by unfold sizeTop; omega, g0.trans p2, by simp [hacc], fun j x y z' hxj hyj hz => ?_⟩⟩
      · have hn' := g0.at hn
        have a1 : ((wipeE env [a]).set a (some (.int (0 + (i : Nat) * 2))))[1]? = some (some (.loc n)) := by rw [List.getElem?_set_ne ha]; exact hw
        have a2 : ((wipeE env [a]).set a (some (.int (0 + (i : Nat) * 2))))[a]? = some (some (.int (0 + (i : Nat) * 2))) := by rw [List.getElem?_set_self (by simp [wipeE]; exact hal)]
        have b1 := ix_at (i := 0 + (i : Int) * 2) hn' (by omega) v1
        have b2 := ix_at (i := 0 + (i : Int) * 2 + 1) hn' (by omega) w1
        simp only [xCallN, aCons, aNil, x2, bnd, xv a1, xv a2, b1, b2, xC, Mi.ret, addV, List.length, callM_ok p1, if_true]
      · by_cases hj : j < i
        · rw [List.getElem?_append_left (by omega)] at hz
          exact hR p2 (h j x y z' hxj hyj hz)
        · have hlt := (List.getElem?_eq_some_iff.mp hz).1
          have e : j = i := by
            simp only [List.length_append, List.length_cons, List.length_nil] at hlt
            omega
          subst e
          rw [List.getElem?_append_right (by omega), hacc] at hz
          simp at hz
          rw [x1] at hxj; rw [y1] at hyj
          cases hxj; cases hyj
          rw [← hz]; exact p3)
    fu 0 [] st (Nat.zero_le _) (by unfold fu; omega) ⟨Gr.refl _, rfl, fun j x y z _ _ hz => by simp at hz⟩
  refine ⟨st' ++ [.lst acc], st'.length, acc, ?_, g1.trans (Gr.new _ _), at_new _ _, q2, fun i x y z h1 h2 h3 => hR (Gr.new _ _) (q3 i x y z h1 h2 h3)⟩
  unfold xPairs xLc bnd
  rw [e1]
  exact q1
end
theorem cut_drop (xs : List PV) (k : Nat) : cutP xs (some (k : Int)) none = xs.drop k := by
  unfold cutP
  rw [HT.sIx_nat, HT.sIx_none]
  by_cases h : k ≤ xs.length
  · rw [Nat.min_eq_left h, List.take_of_length_le (by simp)]
  · rw [Nat.min_eq_right (by omega), List.drop_of_length_le (Nat.le_refl _), List.drop_of_length_le (by omega)]
    simp
theorem cut_take (xs : List PV) (k : Nat) : cutP xs none (some (k : Int)) = xs.take k := by
  unfold cutP
  rw [HT.sIx_nat, HT.sIx_none]
  simp only [List.drop_zero, Nat.sub_zero]
  by_cases h : k ≤ xs.length
  · rw [Nat.min_eq_left h]
  · rw [Nat.min_eq_right (by omega), List.take_of_length_le (Nat.le_refl _), List.take_of_length_le (by omega)]
def muL (e : Ev) (st : Store) : Nat := match (show Option (Option PV) from e[1]?) with
  | some (some (.loc n)) => match getL n st with
    | some ws => ws.length
    | none => 0
  | _ => 0
theorem muL_eq {e : Ev} {st : Store} {n : Nat} {ws : List PV} (h1 : e[1]? = some (some (.loc n))) (h2 : st[n]? = some (.lst ws)) : muL e st = ws.length := by
  unfold muL
  rw [h1]
  dsimp only
  rw [gl h2]
def xRounds (a : Nat) (g : List PV → M PV) : Ev → M Flw := sWhile (asB (x2 gtV (xA lenV (aCons (xVar 1) aNil)) (xC (.int (1)))))
  (sSeq (sAsg (xPairs a g) (gSet 2))
  (sAsg (x2 addV (xVar 2) (xSl (xVar 1) (oSome (x2 mulV (xC (.int (2))) (xA lenV (aCons (xVar 2) aNil)))) oNone)) (gSet 1))) fu
section
variable {α : Type} {R : Store → α → PV → Prop} {f : α → α → α} {g : List PV → M PV}
theorem rounds_ok {a : Nat} {env : Ev} {st0 : Store} {n : Nat} {xs : List α} {vs : List PV} (Pi : List α → Prop) (hR : ∀ {st st' x v}, Gr st st' → R st x v → R st' x v) (ha : a ≠ 1) (hal : a < env.length) (h2l : 2 < env.length) (he : env[1]? = some (some (.loc n))) (hn : st0[n]? = some (.lst vs)) (hx : RL R st0 xs vs) (hsz : xs.length < 1000000)
    (h0 : Pi xs) (hPi : ∀ ys, Pi ys → 2 ≤ ys.length → Pi (round f ys))
    (hg : ∀ ys, Pi ys → ∀ (i : Nat) st' x y v w, Gr st0 st' → ys[2 * i]? = some x → ys[2 * i + 1]? = some y → R st' x v → R st' y w → ∃ z st2, g [v, w] st' = .ok z st2 ∧ Gr st' st2 ∧ R st2 (f x y) z) :
    ∃ env' st' n' ys ws, xRounds a g env st0 = .ok (.nx env') st' ∧ Gr st0 st' ∧ env'.length = env.length ∧ env'[1]? = some (some (.loc n')) ∧ st'[n']? = some (.lst ws) ∧ RL R st' ys ws ∧ Pi ys ∧ ys.length ≤ 1 ∧ (xs.length = 0 ↔ ys.length = 0) := by
  let Iv : Ev → Store → Prop := fun e st => ∃ n' ys ws, Gr st0 st ∧ e.length = env.length ∧ e[1]? = some (some (.loc n')) ∧ st[n']? = some (.lst ws) ∧ RL R st ys ws ∧ Pi ys ∧ ys.length ≤ xs.length ∧ (xs.length = 0 ↔ ys.length = 0)
  rcases while_inv (c := asB (x2 gtV (xA lenV (aCons (xVar 1) aNil)) (xC (.int (1))))) (body := (sSeq (sAsg (xPairs a g) (gSet 2))
  (sAsg (x2 addV (xVar 2) (xSl (xVar 1) (oSome (x2 mulV (xC (.int (2))) (xA lenV (aCons (xVar 2) aNil)))) oNone)) (gSet 1)))) Iv muL (fun _ _ => False) (fun e st h => by
    obtain ⟨n', ys, ws, g0, el, e1, e2, e3, e4, e5, e6⟩ := h
    have hlen := e3.1
    refine ⟨decide (1 < (ws.length : Int)), st, ?_, fun hb => .inl ?_⟩
    · simp [asB, x2, xA, aCons, aNil, xv e1, len_at e2, xC, bnd, Mi.ret, gtV, cmpI, toB]
    · have hb' : 1 < (ws.length : Int) := by simpa using hb
      obtain ⟨st1, m, zs, p1, p2, p3, p4, p5⟩ := pairs_ok (R := R) (f := f) (g := g) (xs := ys) hR ha (by rw [el]; exact hal) e1 e2 e3 (by omega) (by omega) fun i st' x y v w k q1 q2 q3 q4 => hg ys e4 i st' x y v w (g0.trans k) q1 q2 q3 q4
      have a1 : (e.set 2 (some (.loc m)))[1]? = some (some (.loc n')) := by rw [List.getElem?_set_ne (by decide)]; exact e1
      have a2 : (e.set 2 (some (.loc m)))[2]? = some (some (.loc m)) := by rw [List.getElem?_set_self (by rw [el]; exact h2l)]
      have q2 := p2.at e2
      have sl : newC (.lst (cutP ws (some ((2 * zs.length : Nat) : Int)) none)) st1 = .ok (.loc st1.length) (st1 ++ [.lst (ws.drop (2 * zs.length))]) := by rw [cut_drop]; rfl
      have p3' := (Gr.new st1 (.lst (ws.drop (2 * zs.length)))).at p3
      have nw := at_new st1 (.lst (ws.drop (2 * zs.length)))
      have g1 : Gr st1 (st1 ++ [.lst (ws.drop (2 * zs.length))]) := Gr.new _ _
      generalize hs2 : st1 ++ [Cell.lst (ws.drop (2 * zs.length))] = st2 at *
      have hm : mulV (.int 2) (.int (zs.length : Nat)) st1 = .ok (.int ((2 * zs.length : Nat) : Int)) st1 := by
        unfold mulV
        dsimp only
        have : big (zs.length : Int) < 250 := big_lt (by decide) (by
          rw [Int.natAbs_natCast]
          have : zs.length < 2 ^ 20 := by omega
          exact Nat.lt_of_lt_of_le this (Nat.pow_le_pow_right (by decide) (by decide)))
        have : big 2 = 1 := by decide
        rw [if_pos (by omega)]
        simp [Mi.ret]
      have ad : addV (.loc m) (.loc st1.length) st2 = newC (.lst (zs ++ ws.drop (2 * zs.length))) st2 := by
        unfold addV
        dsimp only
        rw [gm p3', gm nw]
        dsimp only
        rw [if_pos]
        simp only [List.length_drop]
        unfold sizeTop
        omega
      refine ⟨(e.set 2 (some (.loc m))).set 1 (some (.loc st2.length)), st2 ++ [.lst (zs ++ ws.drop (2 * zs.length))], .inl ?_, ⟨st2.length, round f ys, zs ++ ws.drop (2 * zs.length), ((g0.trans p2).trans g1).trans (Gr.new _ _), by simp [el], ?_, at_new _ _, ⟨?_, ?_⟩, hPi ys e4 (by omega), ?_, ?_⟩, ?_⟩
      · simp only [sSeq, sAsg, bnd, p1, gSet, Mi.ret, thenS, x2, xv a1, xv a2, xSl, oSome, oNone, xC, xA, aCons, aNil, len_at p3, hm, toI, sliceV, gl q2, sl, ad]
        rfl
      · rw [List.getElem?_set_self (by simp [el]; omega)]
      · rw [round_len]
        simp only [List.length_append, List.length_drop]
        omega
      · intro i x v hi hv
        have gg : Gr st (st2 ++ [.lst (zs ++ ws.drop (2 * zs.length))]) := (p2.trans g1).trans (Gr.new _ _)
        have gg1 : Gr st1 (st2 ++ [.lst (zs ++ ws.drop (2 * zs.length))]) := g1.trans (Gr.new _ _)
        by_cases hlt : i < zs.length
        · rw [List.getElem?_append_left hlt] at hv
          have hx : ys[2 * i]? = some (ys[2 * i]'(by omega)) := List.getElem?_eq_getElem _
          have hy : ys[2 * i + 1]? = some (ys[2 * i + 1]'(by omega)) := List.getElem?_eq_getElem _
          rw [round_get f ys i _ _ hx hy] at hi
          cases hi
          exact hR gg1 (p5 i _ _ v hx hy hv)
        · rw [List.getElem?_append_right (by omega), List.getElem?_drop] at hv
          rw [round_tail f ys i (by omega)] at hi
          have ei : 2 * zs.length + (i - zs.length) = i + ys.length / 2 := by omega
          rw [ei] at hv
          exact hR gg (e3.2 _ x v hi hv)
      · rw [round_len]; omega
      · rw [round_len]; omega
      · rw [muL_eq e1 e2, muL_eq (n := st2.length) (by rw [List.getElem?_set_self (by simp [el]; omega)]) (at_new _ _)]
        simp only [List.length_append, List.length_drop]
        omega) fu env st0 (by rw [muL_eq he hn]; unfold fu; have := hx.1; omega) ⟨n, xs, vs, Gr.refl _, rfl, he, hn, hx, h0, Nat.le_refl _, Iff.rfl⟩ with ⟨env', st1, st', e1, ⟨n', ys, ws, g0, el, q1, q2, q3, q4, q5, q6⟩, e2⟩ | ⟨v, st', _, z⟩
  · have hlen := q3.1
    simp [asB, x2, xA, aCons, aNil, xv q1, len_at q2, xC, bnd, Mi.ret, gtV, cmpI, toB] at e2
    obtain ⟨e3, rfl⟩ := e2
    exact ⟨env', st1, n', ys, ws, e1, g0, el, q1, q2, q3, q4, by omega, q6⟩
  · exact z.elim
end
/-- a list, perhaps an old one -/
def OkR (m : Res PV) (st : Store) (xs : List PV) : Prop := ∃ st' n, m = .ok (.loc n) st' ∧ Gr st st' ∧ st'[n]? = some (.lst xs)
theorem OkL.r {m : Res PV} {st : Store} {xs : List PV} (h : OkL m st xs) : OkR m st xs := by
  obtain ⟨st', n, h1, h2, _, h3⟩ := h
  exact ⟨st', n, h1, h2, h3⟩
theorem lc_rel {α : Type} {R : Store → α → PV → Prop} {fi : Ev → M Nx} {l : Nat} {xs : List α} {vs : List PV} {ws : List Nat} {g : PV → Ev → M Ev} {e : Ev → M PV} {env : Ev} {st : Store} (hR : ∀ {st st' x v}, Gr st st' → R st x v → R st' x v)
    (hfi : fi env st = .ok (nxL l) st) (hl : st[l]? = some (.lst vs)) (hlen : xs.length = vs.length) (hsz : xs.length < 1000000)
    (hs : ∀ (i : Nat) (x : α) (v : PV) st', xs[i]? = some x → vs[i]? = some v → Gr st st' → ∃ env1 z st2, g v (wipeE env ws) st' = .ok env1 st' ∧ e env1 st' = .ok z st2 ∧ Gr st' st2 ∧ R st2 x z) :
    ∃ st' m zs, xLc fu ws fi g bYes e env st = .ok (.loc m) st' ∧ Gr st st' ∧ st'[m]? = some (.lst zs) ∧ RL R st' xs zs := by
  obtain ⟨acc, st', q1, g1, q2, q3⟩ := comp_inv (nx := nxL l) (g := g) (c := bYes) (e := e) (n := xs.length) (vf := fun i => (vs[i]?).getD .non) (env := wipeE env ws)
    (fun i acc st' => Gr st st' ∧ acc.length = i ∧ ∀ (j : Nat) x z, xs[j]? = some x → acc[j]? = some z → R st' x z) (fun i acc st' hi h => by
      unfold nxL; rw [gl (h.1.at hl)]; simp [← hlen, hi]) (fun acc st' h => by unfold nxL; rw [gl (h.1.at hl)]; simp [hlen]) (fun i acc st' hi h => by
      obtain ⟨g0, hacc, h⟩ := h
      have x1 : xs[i]? = some xs[i] := List.getElem?_eq_getElem hi
      have v1 : vs[i]? = some (vs[i]'(by omega)) := List.getElem?_eq_getElem _
      obtain ⟨env1, z, st2, p0, p1, p2, p3⟩ := hs i _ _ st' x1 v1 g0
      refine ⟨env1, st', true, st', by rw [v1]; exact p0, rfl, (fun z => by cases z), fun _ => ⟨z, st2, p1, by unfold sizeTop; omega, g0.trans p2, by simp [hacc], fun j x z' hxj hz => ?_⟩⟩
      by_cases hj : j < i
      · rw [List.getElem?_append_left (by omega)] at hz
        exact hR p2 (h j x z' hxj hz)
      · have hlt := (List.getElem?_eq_some_iff.mp hz).1
        have e : j = i := by
          simp only [List.length_append, List.length_cons, List.length_nil] at hlt
          omega
        subst e
        rw [List.getElem?_append_right (by omega), hacc] at hz
        simp at hz
        rw [x1] at hxj
        cases hxj
        rw [← hz]; exact p3)
    fu 0 [] st (Nat.zero_le _) (by unfold fu; omega) ⟨Gr.refl _, rfl, fun j x z _ hz => by simp at hz⟩
  refine ⟨st' ++ [.lst acc], st'.length, acc, ?_, g1.trans (Gr.new _ _), at_new _ _, q2.symm, fun i x z h1 h3 => hR (Gr.new _ _) (q3 i x z h1 h3)⟩
  unfold xLc bnd
  rw [hfi]
  exact q1
end Mi
namespace Mi
open PySem PySem.Spec PyProof.Rows L2
/-! ### an exception caught, clause by clause -/
/-- the exception ea has come down in the frame of X -/
def Lnd (X : Cx) (pins : List (Addr × Obj)) (σ : L2.St) (H : Hp) (ea : Addr) (cls : Value) (d : Option Addr) (s : Shared) : Prop :=
  ∃ (G : Heap) (s0 : Shared), Inv X pins σ H s0 ∧ (∀ b o, s0.heap.get? b = some o → b ∉ frs X.stack → G.get? b = some o) ∧ HandSPX.FlyingZ G (X.env :: X.outer) ea (Zc cls d) s.heap ∧ s0.heap.UpToSlots s.heap ∧ H ea = none ∧ s.os = s0.os ∧ AllBare s.gens
section
variable {X : Cx} {pins : List (Addr × Obj)} {σ : L2.St} {H : Hp} {ea : Addr} {cls : Value} {d : Option Addr} {s : Shared}
theorem Lnd.inv (h : Lnd X pins σ H ea cls d s) : Inv X pins σ H s := by
  obtain ⟨G, s0, I, ng, fz, up, _, os, ag⟩ := h
  exact I.landed ng fz.1 up os ag
theorem Lnd.obj (hs : X.stack = X.env :: X.outer) (hf : X.env.frame = some X.env.locals) (h : Lnd X pins σ H ea cls d s) : ∃ oe vs, s.heap.get? ea = some oe ∧ Zc cls d oe ∧ oe.data = .fields vs ∧ H ea = none ∧ ea ≠ X.env.locals ∧ ea ∉ X.fs := by
  obtain ⟨G, s0, I, ng, fz, up, na, os, ag⟩ := h
  obtain ⟨oe, vs, he, hz, hd⟩ := fz.there
  have out : ea ∉ frs (X.env :: X.outer) := fun hm => by
    obtain ⟨_, o', e', hnf⟩ := fz.2.2.1.mem hm
    rw [he] at e'
    cases e'
    exact hnf vs hd
  refine ⟨oe, vs, he, hz, hd, na, fun z => out ?_, fun hm => out ?_⟩
  · exact List.mem_filterMap.mpr ⟨X.env, by simp, by rw [hf, z]⟩
  · obtain ⟨e, h1, h2⟩ := List.mem_filterMap.mp hm
    exact List.mem_filterMap.mpr ⟨e, List.mem_cons_of_mem _ h1, h2⟩
theorem Lnd.again {M : Model} {A : Around} {E : Value → Shared → Prop} {Q : Unit → Shared → Prop} (h : Lnd X pins σ H ea cls d s) (hQ : ∀ h', Lnd X pins σ H ea cls d { s with heap := h' } → Q () { s with heap := h' }) : wpAny M A (setFlight (.ref ea) none) Q E s := by
  obtain ⟨G, s0, I, ng, fz, up, na, os, ag⟩ := h
  exact HandSPX.lands_againZ fz fun h' fz' up' => hQ h' ⟨G, s0, I, ng, fz', up.trans up', na, os, ag⟩
/-- a clause 'except x as n': the suite, if it is of that class, else what stands behind -/
theorem clause_as {x n : Str} {c : Value} {i : Nat} {suite : List Stmt} {b0 : Stmt} {np pos : Pos} {rest : List ExceptHandler} {D : Ends} {b : Bool} {ts : TS} (hs : X.stack = X.env :: X.outer) (hf : X.env.frame = some X.env.locals) (hN : X.N.Nodup) (hi : X.N[i]? = some n) (hln : X.env.kindOf n = some .local) (hc : Names X x c) (hb : PySem.W.exmOne X.K cls c = some b)
    (hyes : b = true → (∀ (oe : Obj) (pn : List (Addr × Obj)), Zc cls d oe → (∃ vs, oe.data = .fields vs) → PSs (X.suite ea ((ea, oe) :: pn)) (b0 :: suite) ts) ∧ ts { nx := fun σ' H' => D.nx (σ'.set i none) H', rt := D.rt, bk := fun σ' H' => D.bk (σ'.set i none) H', ct := fun σ' H' => D.ct (σ'.set i none) H' } (σ.set i (some (.ref ea))) H)
    (L : Lnd X pins σ H ea cls d s) (hno : b = false → wpAny (model X.prog X.w) X.A (handleBy (.ref ea) X.env rest) (SP X pins D) X.xe s) :
    wpAny (model X.prog X.w) X.A (handleBy (.ref ea) X.env (.ExceptHandler (some (.Name x np)) (some n) (b0 :: suite) pos :: rest)) (SP X pins D) X.xe s := by
  have ok := L.inv.ok
  obtain ⟨oe, vs, he, hz, hd, na, nL, nF⟩ := L.obj hs hf
  have S := L.inv.suite he hd na nL nF
  refine wpAny_handleBy_cons (codeAny_handlers_test ?_) (by intro z; cases z)
  have ty : PySem.W.Looks (model X.prog X.w) s.heap (typeOf (.ref ea)) cls := fun A Q E s' k q => wpAny_typeOf_ref (k _ _ he) (hz.1.symm ▸ q)
  have looks := PySem.W.exm_one (M := model X.prog X.w) (L.inv.kIn) ty hb
  have named : ∀ {Q : Value → Shared → Prop} {E : Value → Shared → Prop}, Q c s → wpAny (model X.prog X.w) (X.A.mark (some (.ref ea))) (eval (.Name x np) X.env) Q E s := fun q => by
    obtain ⟨hg, hdbg, hm | ⟨hm, hv, hnn⟩⟩ := hc
    · exact ld_glob (X := X.suite ea ((ea, oe) :: (X.pn ++ pins))) S hg hm q hdbg
    · exact ld_blt (X := X.suite ea ((ea, oe) :: (X.pn ++ pins))) S hg hm hv q hnn hdbg
  refine named (looks.here ?_)
  cases b with
  | false => exact hno rfl
  | true =>
    obtain ⟨hsu, want⟩ := hyes rfl
    refine codeAny_handlers_suite_as (L.again fun h' L' => ?_)
    obtain ⟨oe', vs', he', hz', hd', _, _, _⟩ := L'.obj hs hf
    have S' := L'.inv.suite he' hd' na nL nF
    refine store_ok (X := X.suite ea ((ea, oe') :: (X.pn ++ pins))) (v := .ref ea) S' hN hi (.inl hln) rfl (fun s5 S5 => ?_) (.inr hln)
    have back : ∀ {σ6 : L2.St} {H6 : Hp} {s6 : Shared} {R : Shared → Prop}, Inv (X.suite ea ((ea, oe') :: (X.pn ++ pins))) [] σ6 H6 s6 → (∀ s7, Inv X pins (σ6.set i none) H6 s7 → R s7) → wpAny (model X.prog X.w) X.A (do bindName X.env n .none; unbindBehindTheSuite X.env n pos) (fun _ s7 => R s7) X.xe s6 :=
      fun S6 hq => gone_ok (S6.unsuite ok) hN hi hln hq
    refine wpAny_mono ((hsu oe' (X.pn ++ pins) hz' ⟨_, hd'⟩).run [] s5 _ H _ S5 want) (fun fl s6 hsp => ?_) (fun _ _ z => z.elim)
    cases fl with
    | ret u =>
      obtain ⟨v6, σ6, H6, S6, r6, q6⟩ := hsp
      exact back S6 fun s7 J7 => ⟨_, _, _, J7, r6, q6⟩
    | next =>
      obtain ⟨σ6, H6, S6, q6⟩ := hsp
      exact back S6 fun s7 J7 => ⟨_, _, J7, q6⟩
    | brk =>
      obtain ⟨σ6, H6, S6, q6⟩ := hsp
      exact back S6 fun s7 J7 => ⟨_, _, J7, q6⟩
    | cont =>
      obtain ⟨σ6, H6, S6, q6⟩ := hsp
      exact back S6 fun s7 J7 => ⟨_, _, J7, q6⟩
/-- the body's wish W; what comes of the landed exception is told by cl -/
theorem try_ok {body : List Stmt} {h0 : ExceptHandler} {hds : List ExceptHandler} {pos : Pos} {D : Ends} {W : WX} {tb : WX → TS} (hs : X.stack = X.env :: X.outer) (hf : X.env.frame = some X.env.locals) (I : Inv X pins σ H s)
    (hb : ∀ (pn : List (Addr × Obj)) (xe : Value → Shared → Prop), Takes (X.tr pn xe) W → PassesOwn (model X.prog X.w) X.A X.env xe → PSs (X.tr pn xe) body (tb W)) (want : tb W D σ H)
    (cl : ∀ σ' H' ea cls d s', W cls d σ' H' → Lnd X pins σ' H' ea cls d s' → wpAny (model X.prog X.w) X.A (handleBy (.ref ea) X.env (h0 :: hds)) (SP X pins D) X.xe s') :
    wpAny (model X.prog X.w) X.A (exec (.Try body (h0 :: hds) [] [] pos) X.env) (SP X pins D) X.xe s := by
  have ok := I.ok
  have hfr : X.A.frames = some (X.env :: X.outer) := ok.frames.trans (congrArg some hs)
  refine wpAny_Try_except ?_
  have caught : Takes (X.tr (X.pn ++ pins) (fun e s1 => wpAny (model X.prog X.w) X.A (noteFrame e X.env) (fun _ s2 => wpAny (model X.prog X.w) X.A (setFlight e none) (fun _ s3 => wpAny (model X.prog X.w) X.A (handleBy e X.env (h0 :: hds)) (SP X pins D) X.xe s3) X.xe s2) X.xe s1)) W := fun u s' xx => by
    obtain ⟨ea, G, sI, pins', σ', H', cls, d, rfl, J', ng, up, sky, na, os, ag, w⟩ := xx
    have sky2 : Sky G (X.env :: X.outer) ea (Zc cls d) X.env.locals s'.heap := hs ▸ sky
    exact Sky.land Zc.steady hfr hf sky2 fun h3 fz up3 => cl σ' H' ea cls d _ w ⟨G, sI, J'.ofTry ok, ng, fz, up.trans up3, na, os, ag⟩
  refine wpAny_mono ((hb _ _ caught PassesOwn.looking).run [] s σ H D (I.toTry _) want) (fun fl s1 hsp => ?_) fun e s1 he => he
  cases fl with
  | ret u =>
    obtain ⟨v, σ', H', J', r, q⟩ := hsp
    exact ⟨v, σ', H', J'.ofTry ok, r, q⟩
  | next =>
    obtain ⟨σ', H', J', q⟩ := hsp
    exact wpAny_execs_nil ⟨σ', H', J'.ofTry ok, q⟩
  | brk =>
    obtain ⟨σ', H', J', q⟩ := hsp
    exact ⟨σ', H', J'.ofTry ok, q⟩
  | cont =>
    obtain ⟨σ', H', J', q⟩ := hsp
    exact ⟨σ', H', J'.ofTry ok, q⟩
end
end Mi
namespace Mi
open PySem PySem.Spec PyProof.Rows L2
/-! ### a lambda is made -/
abbrev lq (X : Cx) : Str := X.env.qual ++ "<lambda>"
/-- the table of the def's code: each code object in it bears the lambdas' name -/
def Tb (H : Hp) (P : Addr) (q : Str) (ps : Array Value) : Prop := H P = some (.tbl ps) ∧ TriplesOk ps.toList ∧ ∀ (pos : Pos) (cv : Value), codeAmong pos ps.toList = some cv → ∃ c, cv = .ref c ∧ H c = some (LamX.CodeO c q)
/-- the lambda as it lies -/
abbrev lamObj (X : Cx) (params : Arguments) (body : Expr) (scope : Scope) (dV doc pm : Value) (c' : Addr) (ctv : Value) : Obj := PySem.W.kdv_obj "<lambda>" (lq X) params (.expr body) scope (cloFrom X.env.cells scope.names []) dV doc pm c' ctv
/-- what is known behind the making -/
structure Made (X : Cx) (pins : List (Addr × Obj)) (σ : L2.St) (H H1 : Hp) (s s' : Shared) (P : Addr) (params : Arguments) (body : Expr) (scope : Scope) (dV : Value) (f c' : Addr) (ps' : Array Value) : Prop where
  inv : Inv X pins σ H1 s'
  ob : ∃ doc pm ctv, s'.heap.get? f = some (lamObj X params body scope dV doc pm c' ctv)
  fn : H1 f = none
  fr : f ∉ frs X.stack
  co : H1 c' = some (LamX.CodeO c' (lq X))
  tb : Tb H1 P (lq X) ps'
  keep : ∀ b o, b ≠ P → H b = some o → H1 b = some o
  old : ∀ b o, b ≠ P → s.heap.get? b = some o → s'.heap.get? b = some o
  new : ∀ b, s.heap.objs.size ≤ b ∨ H b ≠ none ∨ H1 b = none
  tabs : ∀ (pos : Pos) (cv : Value) (c : Addr), codeAmong pos ps'.toList = some cv → cv = .ref c → H c = some (LamX.CodeO c (lq X)) ∨ H c = none
theorem tail_inv {X : Cx} {pins : List (Addr × Obj)} {σ : L2.St} {H : Hp} {s : Shared} {c P : Addr} {ps : Array Value} {params : Arguments} {body : Expr} {scope : Scope} {pos : Pos} {dV : Value} {E : Value → Shared → Prop} {Q : Value → Shared → Prop} (I : Inv X pins σ H s) (TB : LamX.TabB X.base X.mg c P) (hcode : X.env.code = .ref c)
    (T : Tb H P (lq X) ps) (hfree : ∀ y ∈ scope.names, y.2 = .free → ∃ c, X.env.cells.lookup y.1 = some c)
    (h : ∀ f c' ps' H1 s', Made X pins σ H H1 s s' P params body scope dV f c' ps' → Q (.ref f) s') : wpAny (model X.prog X.w) X.A (makeTail "<lambda>" (lq X) params (.expr body) scope X.env dV .none none pos pos.line) Q E s := by
  obtain ⟨hP, ht, ha⟩ := T
  have bP := TB.bm.keeps I.bk
  have oP : s.heap.get? P = some { cls := .none, data := .fields ps } := I.hok P _ hP
  have far : ∀ f, s.heap.objs.size ≤ f → f ∉ frs X.stack := fun f hf z => by
    rcases List.mem_cons.mp (I.stkSub _ z) with e | e
    · have := I.lt
      rw [← e] at this
      exact absurd hf (Nat.not_le_of_lt this)
    · exact I.nofs hf e
  cases hc : codeAmong pos ps.toList with
  | some cv =>
    obtain ⟨c', e, hco⟩ := ha pos cv hc
    subst e
    refine PySem.W.kdv_makeTailHit (mg := X.mg) (c := c) (P := P) (ps := ps) (closure_ok hfree) I.ok.glob (I.mod.glob.keeps I.bk) hcode (TB.code.keeps I.bk) oP ht hc bP fun ctv doc h' tk hx hsz => ?_
    refine h _ c' ps H _ ⟨I.kept fun b o e => Heap.get?_push_of_some _ (hx b o e), ⟨doc, _, ctv, Heap.get?_push_size _ rfl⟩, I.hok.fresh hsz, far _ hsz, hco, ⟨hP, ht, ha⟩, fun _ _ _ e => e, fun b o _ e => Heap.get?_push_of_some _ (hx b o e), fun b => ?_, fun p cv c q1 q2 => ?_⟩
    · cases z : H b with
      | none => exact .inr (.inr rfl)
      | some o => exact .inr (.inl (by simp))
    · obtain ⟨c2, e1, e2⟩ := ha p cv q1
      rw [q2] at e1
      cases e1
      exact .inl e2
  | none =>
    refine PySem.W.kdv_makeTail (mg := X.mg) (c := c) (P := P) (ps := ps) (closure_ok hfree) I.ok.glob (I.mod.glob.keeps I.bk) hcode (TB.code.keeps I.bk) oP ht hc TB.gP bP fun c' ctv doc h' tk hx hge hlt hrec htb => ?_
    obtain ⟨c2, oc, vs, t, e2, hoc, hd, hv⟩ := hrec
    cases e2
    have hsz : s.heap.objs.size ≤ h'.objs.size := by omega
    have nC : H c' = none := I.hok.fresh hge
    have nPc : P ≠ c' := ne_of_none hP nC
    have eL : (ps ++ #[rawInt pos.line, rawInt pos.col, .ref c']).toList = ps.toList ++ [rawInt pos.line, rawInt pos.col, .ref c'] := by simp
    have kp : ∀ b o, b ≠ P → H b = some o → upd (upd H P (.tbl (ps ++ #[rawInt pos.line, rawInt pos.col, .ref c']))) c' (LamX.CodeO c' (lq X)) b = some o := fun b o n e => by
      rw [upd_ne (ne_of_none e nC), upd_ne n]
      exact e
    refine h _ c' (ps ++ #[rawInt pos.line, rawInt pos.col, .ref c']) _ _ ⟨LamX.inv_table (more := #[rawInt pos.line, rawInt pos.col, .ref c']) I hP (fun b o hb e => Heap.get?_push_of_some _ (hx b o hb e)) (Heap.get?_push_of_some _ htb) hge ⟨oc, vs, t, Heap.get?_push_of_some _ hoc, hd, hv⟩,
      ⟨doc, _, ctv, Heap.get?_push_size _ rfl⟩, ?_, far _ hsz, upd_same, ⟨by rw [upd_ne nPc, upd_same], by rw [eL]; exact PySem.TriplesOk_snoc _ _ _ _ ht, fun p' cv hcv => ?_⟩, kp, fun b o n e => Heap.get?_push_of_some _ (hx b o n e), fun b => ?_, fun p cv c3 q1 q2 => ?_⟩
    · have n1 : h'.objs.size ≠ c' := by omega
      have n2 : h'.objs.size ≠ P := Nat.ne_of_gt (Nat.lt_of_lt_of_le (Heap.lt_size oP) hsz)
      rw [upd_ne n1, upd_ne n2]
      exact I.hok.fresh hsz
    · rw [eL] at hcv
      rcases LamX.among_app _ ht hcv with z | z
      · obtain ⟨c0, e1, e2⟩ := ha p' cv z
        refine ⟨c0, e1, kp c0 _ (fun w => ?_) e2⟩
        rw [w, hP] at e2
        exact LamX.codeO_ne _ (Option.some.inj e2).symm
      · exact ⟨c', z, upd_same⟩
    · by_cases hb : s.heap.objs.size ≤ b
      · exact .inl hb
      · by_cases hbP : b = P
        · right; left
          rw [hbP, hP]
          simp
        · have hbc : b ≠ c' := by omega
          cases z : H b with
          | none =>
            right; right
            rw [upd_ne hbc, upd_ne hbP]
            exact z
          | some o => exact .inr (.inl (by simp))
    · rw [eL] at q1
      rcases LamX.among_app _ ht q1 with z | z
      · obtain ⟨c0, e1, e2⟩ := ha p cv z
        rw [q2] at e1
        cases e1
        exact .inl e2
      · rw [q2] at z
        cases z
        exact .inr nC
end Mi
namespace Mi
open PySem PySem.Spec PyProof.Rows L2
/-! ### a lambda is called -/
/-- the lambda's names: parameters of its own, captured ones, globals -/
structure LmS (N : List Str) (sc scope : Scope) (own : List Str) : Prop where
  kind : scope.kind = .function
  co : scope.isCoroutine = false
  gen : scope.isGenerator = false
  nocell : ∀ y ∈ scope.names, y.2 ≠ .cell
  loc : ∀ y ∈ scope.names, y.2 = .local → y.1 ∉ N
  par : ∀ y ∈ own, scope.names.lookup y = some .local
  free : ∀ y ∈ scope.names, y.2 = .free → sc.names.lookup y.1 = some .cell ∨ sc.names.lookup y.1 = some .free
section
variable {X : Cx} {pins : List (Addr × Obj)} {σ : L2.St} {H HZ : Hp} {s s1 : Shared}
theorem LmS.has {scope : Scope} {own : List Str} (L : LmS X.N X.env.scope scope own) (ok : X.Ok) : ∀ y ∈ scope.names, y.2 = .free → ∃ c, X.env.cells.lookup y.1 = some c := fun y hy e =>
  ok.has _ (L.free y hy e)
/-- the lambda's start -/
theorem lam_in {A : Around} {outer : List Env} {E : XK} {scope : Scope} {f c' : Addr} {h1 : Heap} {tk : Nat} {own : List Str} {m : Str → Option Value} (I : Inv X pins σ H s) (L : LmS X.N X.env.scope scope own) (e0 : Env0 X.prog X.w X.K X.mg X.base A outer s1 HZ) (hd : A.handled = none)
    (un : Un (frs X.stack) [] H HZ s.heap s1.heap) (hns : h1.Ns s1.heap.objs.size m) (kp : ∀ b o, s1.heap.get? b = some o → h1.get? b = some o) :
    Inv (LamX.lamCx X A outer s1 HZ E scope f c') [] σ HZ { s1 with heap := h1, toks := tk } := by
  have hfree := L.has I.ok
  have old : ∀ {y c}, (cloFrom X.env.cells scope.names []).lookup y = some c → X.env.cells.lookup y = some c := fun {y c} e => by
    rcases cloFrom_mem (PySem.mem_of_lookup e) with hm | ⟨q1, q2⟩
    · cases hm
    · obtain ⟨c1, hc⟩ := hfree _ q1 rfl
      have hc : X.env.cells.lookup y = some c1 := hc
      have : c = c1 := by rw [q2, hc] <;> rfl
      rw [this]; exact hc
  have there : ∀ {y}, scope.names.lookup y = some .free → ∃ c, (cloFrom X.env.cells scope.names []).lookup y = some c := fun {y} hl =>
    mem_lookup (cloFrom_has (cells := X.env.cells) (acc := []) (PySem.mem_of_lookup hl))
  have cellK : ∀ {c : Addr} {v : Option Value}, H c = none → s.heap.IsCell c v → h1.IsCell c v := fun {c v} n ⟨o, ho, hdt⟩ => by
    obtain ⟨sl, q⟩ := un.any ho n (by simp)
    exact ⟨_, kp _ _ q, hdt⟩
  have none_ : ∀ b : Addr, b ∉ (LamX.lamCx X A outer s1 HZ E scope f c').ex := fun b z => absurd (show b ∈ ([] : List Addr) from z) (by simp)
  refine { ok := ?_, os := rfl, bare := e0.bare, base := Un.kept kp, loc := ⟨m, hns, fun i y v a1 a2 a3 => ?_⟩, cell := fun y c e => ?_, free := e0.hok.fresh (Nat.le_refl _), freeC := fun y c e => ?_, pin := fun q hq => absurd (show q ∈ ([] : List (Addr × Obj)) ++ [] from hq) (by simp), hok := e0.hok.kept kp, len := I.len }
  · refine { mod := e0.mod, kind := L.kind, glob := rfl, blt := rfl, above := Nat.le_refl _, inj := fun y z c q1 q2 => I.ok.inj y z c (old q1) (old q2), has := fun y hy => ?_, cab := fun y c z _ => ?_, hd := fun _ => hd, frames := Around.frames_deeper e0.frames, stk := .inr ⟨rfl, rfl⟩, exf := fun b z => absurd z (none_ b), bs := e0.bs, bsz := e0.bsz, noex := fun b _ _ => none_ b, exfs := fun b z => absurd z (none_ b), funs := e0.funs, frf := e0.frf }
    · have hy : scope.names.lookup y = some .cell ∨ scope.names.lookup y = some .free := hy
      rcases hy with hy | hy
      · exact absurd rfl (L.nocell _ (PySem.mem_of_lookup hy))
      · exact there hy
    · have z : false = true := z
      cases z
  · have a3 : Vis scope y := a3
    rcases a3 with k | k | k
    · exact absurd (List.mem_of_getElem? (show X.N[i]? = some y from a1)) (L.loc _ (PySem.mem_of_lookup k) rfl)
    · exact absurd rfl (L.nocell _ (PySem.mem_of_lookup k))
    · obtain ⟨m0, _, hl⟩ := I.loc
      have up := L.free _ (PySem.mem_of_lookup k) rfl
      have hvis : Vis X.env.scope y := up.elim (fun z => .inr (.inl z)) fun z => .inr (.inr z)
      obtain ⟨w', r, q⟩ := hl i y v a1 a2 hvis
      obtain ⟨c2, q2⟩ := there k
      have q1 := old q2
      refine ⟨w', r, .inr ⟨.inr k, c2, q2, ?_⟩⟩
      rcases q with ⟨kl, _⟩ | ⟨_, c3, e3, z⟩
      · have kl : X.env.scope.names.lookup y = some .local := kl
        rcases up with z | z <;> rw [show X.env.scope.names.lookup y = _ from z] at kl <;> cases kl
      · rw [q1] at e3
        cases e3
        exact cellK (I.freeC y _ q1) z
  · obtain ⟨w', z⟩ := I.cell y c (old e)
    exact ⟨w', cellK (I.freeC y c (old e)) z⟩
  · obtain ⟨v, o, ho, hdt⟩ := I.cell y c (old e)
    exact un.free c o ho (I.freeC y c (old e)) (by simp)
/-- the call of it in a frame Z above: it runs its body, over what X's names hold -/
theorem lam_call {Z : Cx} {pinsZ : List (Addr × Obj)} {σZ : L2.St} {params : Arguments} {body : Expr} {scope : Scope} {dV doc pm ctv : Value} {f c' : Addr} {own : List Str} {us : List Value} {k : Nat} {W : WX} {E : XK} {Q : VK} (I : Inv X pins σ H s) (L : LmS X.N X.env.scope scope own)
    (hp : Z.prog = X.prog) (hw : Z.w = X.w) (hK : Z.K = X.K) (hmg : Z.mg = X.mg) (hba : Z.base = X.base) (hH : Z.stack.tail = X.stack) (un : Un (frs X.stack) [] H HZ s.heap s1.heap) (IZ : Inv Z pinsZ σZ HZ s1) (hdZ : Z.A.handled = none)
    (hob : s1.heap.get? f = some (lamObj X params body scope dV doc pm c' ctv)) (hco : HZ c' = some (LamX.CodeO c' (lq X))) (hbind : BindsTo s1 (PySem.W.kdv_fn "<lambda>" (lq X) params (.expr body) scope (cloFrom X.env.cells scope.names []) dV doc pm (.ref c') ctv) ⟨[], []⟩ (own.zip us))
    (tk : Takes Z W) (hW : ∀ cls d σ' H', E cls d H' → W cls d σ' H') (hr : Room (k + 1) Z.A)
    (hbody : ∀ (s2 : Shared), Room k (Z.A.deeper (LamX.lamEnv X scope s1.heap.objs.size f c')) → WE (LamX.lamCx X Z.A Z.stack s1 HZ E scope f c') body σ HZ Q) :
    wpAny (model Z.prog Z.w) Z.A (call (.ref f) []) (EP Z pinsZ σZ Q) Z.xe s1 := by
  obtain ⟨⟨oc, vs, t, hoc, hdc, hvc⟩, _, _⟩ := IZ.hok c' _ hco
  have e0 := IZ.env0
  rw [hp, hw, hK, hmg, hba] at e0
  have lim := IZ.nolimit
  have rc : codeAny (model X.prog X.w) Z.A (.call (.ref f) ⟨[], []⟩) (CR (L2.CX X.prog X.w) Z.stack X.prog X.w HZ s1 Q E) s1 := by
    refine PySem.W.kla_callFunE hr.depth hob rfl L.co L.gen rfl ⟨c', oc, vs, t, rfl, hoc, hdc, hvc⟩ (hbind _ _ _ _ ?_)
    refine wpAny_newFunctionEnv L.nocell (fun ⟨n, v⟩ hy => L.par n (List.of_mem_zip hy).1) (fun h1 hns hsb => ⟨lim.fresh _ hsb, ?_⟩) L.kind
    show codeAny _ _ (.expr body (LamX.lamEnv X scope s1.heap.objs.size f c')) _ _
    have kp : ∀ b o, s1.heap.get? b = some o → h1.get? b = some o := fun b o e => hsb.extBut b o (Nat.ne_of_lt (Heap.lt_size e)) (Heap.get?_push_of_some _ e)
    have J := lam_in (E := E) (f := f) (c' := c') (tk := s1.toks + (own.zip us).length) I L e0 hdZ un hns kp
    refine PySem.W.kla_codeExpr (wpAny_mono (we_run (hbody s1 (hr.deeper _)) [] _ J) (fun v s' hq => ?_) fun e s' hq => hq)
    obtain ⟨w', H', J', rv, q⟩ := hq
    exact ⟨w', H', J'.os, J'.bare, J'.base, J'.hok, rv, q⟩
  rw [hp, hw]
  refine wpAny_call (codeAny_mono rc fun r s' hq => ?_)
  cases r with
  | error e =>
    refine passes_call tk hW pinsZ σZ HZ s1 e s' IZ ?_
    rw [hp, hw]
    exact hq
  | ok fl =>
    cases fl with
    | ret u =>
      refine IZ.after ?_
      rw [hp, hw]
      exact hq
    | next => exact False.elim hq
    | brk => exact False.elim hq
    | cont => exact False.elim hq
end
end Mi
namespace Mi
open PySem PySem.Spec PyProof.Rows L2
/-! ### what a def tells of a lambda's call: in a list, or by the word of its error -/
/-- q: the lambdas' name, P: the table; c1, c2: the errors that are told, w1, w2 their words, fl their field -/
def xHeard (q : Str) (P : Addr) (c1 w1 c2 w2 fl : Str) (g : Ev → M PV) : Ev → M PV := fun env (st : Store) => match (show Option Cell from st[0]?) with
  | some (.tb q' P') => if q' = q ∧ P' = P then match g env st with
    | .ok v st' => lstV [v] st'
    | .exc c f v _ st' => if c = c1 ∧ f = fl then .ok (.tup [.str w1, v]) st' else if c = c2 ∧ f = fl then .ok (.tup [.str w2, v]) st' else .bad
    | .bad => .bad
    else .bad
  | _ => .bad
/-- the def that hears -/
structure HearD (K : PySem.W.Frag) (mg : Str → Option Value) (x : Str) (t : Stmt) (a n c1 w1 c2 w2 fl : Str) (C1 C2 : Addr) : Prop where
  loc : Loc K mg x t
  sc : FnScope [a, n] [a] (defScope t)
  bnd : ∀ (kV doc pm : Value) (an : Option Addr) (cdv ct : Value) (us : List Value), us.length = 1 → bindArgs (PySem.W.fnOf x x (defArgs t) (defBody t) (defScope t) .none kV doc pm an cdv ct) ⟨us, []⟩ = pure ([a].zip us)
  body : ∃ (p1 p2 p3 p4 p5 p6 p7 p8 p9 p10 p11 q5 q6 q7 q8 q9 q10 q11 p0 : Pos) (j j2 : Nat) (k k2 : _), defBody t = [.Try [.Return (some (.List [.Call (.Name a p1) [] [] p2] p3)) p4] [.ExceptHandler (some (.Name c1 p5)) (some n) [.Return (some (.Tuple [.Constant (.str w1) j p6, .Attribute (.Name n p7) fl p8] k p9)) p10] p11,
    .ExceptHandler (some (.Name c2 q5)) (some n) [.Return (some (.Tuple [.Constant (.str w2) j2 q6, .Attribute (.Name n q7) fl q8] k2 q9)) q10] q11] [] [] p0]
  va : (defScope t).names.lookup a = some .local
  vn : (defScope t).names.lookup n = some .local
  g1 : (defScope t).names.lookup c1 = some .globalImplicit
  g2 : (defScope t).names.lookup c2 = some .globalImplicit
  da : (a == ("__debug__" : Str)) = false ∧ (a == ("__classdict__" : Str)) = false
  dn : (n == ("__debug__" : Str)) = false ∧ (n == ("__classdict__" : Str)) = false
  d1 : (c1 == ("__debug__" : Str)) = false
  d2 : (c2 == ("__debug__" : Str)) = false
  m1 : mg c1 = some (.ref C1)
  m2 : mg c2 = some (.ref C2)
  x1 : XfC K C1
  x2 : XfC K C2
  n1 : PySem.W.findIn K (.ref C1) fl = some none
  n2 : PySem.W.findIn K (.ref C2) fl = some none
  e11 : PySem.W.exmOne K (.ref C1) (.ref C1) = some true
  e21 : PySem.W.exmOne K (.ref C2) (.ref C1) = some false
  e22 : PySem.W.exmOne K (.ref C2) (.ref C2) = some true
/-- the defaults of the lambda as they lie -/
def DfAt (X : Cx) (H : Hp) (h : Heap) (dV : Value) (us : List Value) : Prop := (us = [] ∧ dV = .none) ∨ us ≠ [] ∧ ∃ T0, dV = .ref T0 ∧ h.get? T0 = some (PySem.W.kdv_tup us) ∧ H T0 = none ∧ T0 ∉ frs X.stack
def DfH (h : Heap) (dV : Value) (us : List Value) : Prop := (us = [] ∧ dV = .none) ∨ us ≠ [] ∧ ∃ T0, dV = .ref T0 ∧ h.get? T0 = some (PySem.W.kdv_tup us)
/-- what is asked of a lambda's making, its binding -/
structure LamD (X : Cx) (params : Arguments) (body : Expr) (scope : Scope) (pos : Pos) (own : List Str) : Prop where
  mkl : ∀ (pins : List (Addr × Obj)) (σ : L2.St) (H : Hp) (s : Shared) (Q : Value → Shared → Prop), Inv X pins σ H s →
    (∀ dV s1 us, Inv X pins σ H s1 → us.length = own.length → DfAt X H s1.heap dV us → wpAny (model X.prog X.w) X.A (makeTail "<lambda>" (lq X) params (.expr body) scope X.env dV .none none pos pos.line) Q X.xe s1) → wpAny (model X.prog X.w) X.A (eval (.Lambda params body scope pos) X.env) Q X.xe s
  bd : ∀ (s : Shared) (cl : List (Str × Addr)) (dV doc pm cv ctv : Value) (us : List Value), us.length = own.length → DfH s.heap dV us → BindsTo s (PySem.W.kdv_fn "<lambda>" (lq X) params (.expr body) scope cl dV doc pm cv ctv) ⟨[], []⟩ (own.zip us)
  nm : LmS X.N X.env.scope scope own
theorem Sim.made {X : Cx} {pins : List (Addr × Obj)} {σ : L2.St} {H H1 : Hp} {s s' : Shared} {P : Addr} {params : Arguments} {body : Expr} {scope : Scope} {dV : Value} {f c' : Addr} {ps' : Array Value} {r : List Addr} {st : Store} (S : Sim X.K X.w r st H) (h0 : st[0]? = some (.tb (lq X) P))
    (M : Made X pins σ H H1 s s' P params body scope dV f c' ps') : Ext r H r H1 ∧ Sim X.K X.w r st H1 := by
  obtain ⟨b, hb, eb, ps, hP, _⟩ := S.get h0
  subst eb
  have hm := List.mem_of_getElem? hb
  have ex : Ext r H r H1 := ⟨⟨[], by simp, by simp⟩, fun a o e na => M.keep a o (fun z => na (z ▸ hm)) e⟩
  refine ⟨ex, S.len, S.nd, fun i c a h1 h2 => ?_⟩
  by_cases ha : a = b
  · subst ha
    have i0 : i = 0 := by
      obtain ⟨l1, e1⟩ := List.getElem?_eq_some_iff.mp hb
      obtain ⟨l2, e2⟩ := List.getElem?_eq_some_iff.mp h2
      exact (List.getElem_inj S.nd).mp (e2.trans e1.symm)
    subst i0
    rw [h0] at h1
    cases h1
    exact ⟨rfl, ps', M.tb⟩
  · obtain ⟨o, ho, _⟩ := S.tracked a (List.mem_of_getElem? h2)
    exact (S.at_ i c a h1 h2).ext ex S ((M.keep a o ha ho).trans ho.symm)
theorem ws_mk {X : Cx} {t : Stmt} {s : L2.St} {H : Hp} {D : Ends} (h : ∀ pins sh, Inv X pins s H sh → wpAny (model X.prog X.w) X.A (exec t X.env) (SP X pins D) X.xe sh) : WS X t D s H := by unfold WS; exact h
theorem re_heard {X : Cx} {k : Nat} {x a n c1 w1 c2 w2 fl : Str} {t : Stmt} {C1 C2 cc P : Addr} {params : Arguments} {body : Expr} {scope : Scope} {lpos p pos : Pos} {gb : Ev → M PV} {own : List Str} (D : HearD X.K X.mg x t a n c1 w1 c2 w2 fl C1 C2) (hg : Gl X x) (TB : LamX.TabB X.base X.mg cc P) (hcode : X.env.code = .ref cc) (hr : Room (k + 2) X.A) (hgd : X.A.guards = some [])
    (L : LamD X params body scope lpos own) (hdb : (x == ("__debug__" : Str)) = false)
    (hbody : ∀ (A : Around) (outer : List Env) (s : Shared) (H : Hp) (E : XK) (f c' : Addr), Room k (LamX.lamCx X A outer s H E scope f c').A → (LamX.lamCx X A outer s H E scope f c').A.guards = some [] → RE (LamX.lamCx X A outer s H E scope f c') body gb) :
    RE X (.Call (.Name x p) [.Lambda params body scope lpos] [] pos) (xHeard (lq X) P c1 w1 c2 w2 fl gb) := by
  intro W tk r st s H env Q E S P0
  refine we_mk fun pins sh I => ?_
  -- the table
  have h0 : st[0]? = some (.tb (lq X) P) ∧ Post X W (okV X Q) r H (match gb env st with
    | .ok v st' => lstV [v] st'
    | .exc c f v _ st' => if c = c1 ∧ f = fl then .ok (.tup [.str w1, v]) st' else if c = c2 ∧ f = fl then .ok (.tup [.str w2, v]) st' else .bad
    | .bad => .bad) := by
    unfold xHeard at P0
    split at P0
    · rename_i q' P' e
      split at P0
      · rename_i hq
        obtain ⟨rfl, rfl⟩ := hq
        exact ⟨e, P0⟩
      · exact P0.elim
    · exact P0.elim
  obtain ⟨h0, P1⟩ := h0
  obtain ⟨b, hb, eb, ps, hP, ht, ha⟩ := S.get h0
  subst eb
  obtain ⟨g, fd, F, hm⟩ := D.loc
  obtain ⟨oc, od, dVg, kV, doc, pm, an, cdv, ct, osl, rfl, lk, hcg, hdf, _⟩ := F.ex
  have hbg := F.bindsN (ps := [a]) D.bnd
  refine wpAny_Call_Name_kw (ld_glob I hg hm ?_ hdb)
  refine PySem.W.callWith_K (h₀ := X.base) I.ok.mod.kin F.kp ?_ (by rfl) (by rfl)
  show wpAny _ _ (spliced ((false, eval (.Lambda params body scope lpos) X.env) :: backTo pos (starEach [] X.env))) _ _ sh
  refine Calls.spliced_cons (L.mkl pins s H sh _ I fun dV s1 us I1 hul hdfl => tail_inv I1 TB hcode ⟨hP, ht, ha⟩ (L.nm.has I.ok) fun f c' ps' H1 s' M => ?_)
  refine Calls.spliced_nil ⟨M.inv.kIn, ?_⟩
  obtain ⟨ex, S1⟩ := S.made h0 M
  have E1 := E.ext ex S
  have P2 := P1.mono ex S1
  obtain ⟨doc', pm', ctv, hob⟩ := M.ob
  -- the defaults lie on
  have hdf' : ∀ (h' : Heap), (∀ T0 o, s'.heap.get? T0 = some o → H1 T0 = none → T0 ∉ frs X.stack → h'.get? T0 = some o) → DfH h' dV us := fun h' kp => by
    rcases hdfl with q | ⟨hu, T0, e, ho, hn, hf⟩
    · exact .inl q
    · have nP : T0 ≠ b := fun z => by rw [z, hP] at hn; cases hn
      refine .inr ⟨hu, T0, e, kp T0 _ (M.old T0 _ nP ho) ?_ hf⟩
      rcases M.new T0 with z | z | z
      · exact absurd (Heap.lt_size ho) (Nat.not_lt_of_le z)
      · exact absurd hn z
      · exact z
  -- what comes of the body
  let Ql : VK := fun v' H' => ∃ v st' r', gb env st = .ok v st' ∧ Ext r H1 r' H' ∧ Sim X.K X.w r' st' H' ∧ Rep X.K r' H' v v'
  let Ep : XK := fun cls d H' => ∃ c f v ev st' r' v' C dd, gb env st = .exc c f v ev st' ∧ Ext r H1 r' H' ∧ Sim X.K X.w r' st' H' ∧ Rep X.K r' H' v v' ∧ X.mg c = some (.ref C) ∧ cls = .ref C ∧ d = some dd ∧ H' dd = some (.xd [(f, v')])
  obtain ⟨p1, p2, p3, p4, p5, p6, p7, p8, p9, p10, p11, q5, q6, q7, q8, q9, q10, q11, p0, j, j2, kk, kk2, hbd⟩ := D.body
  have rc : codeAny (model X.prog X.w) X.A (.call (.ref g) ⟨[.ref f], []⟩) (CR (L2.CX X.prog X.w) X.stack X.prog X.w H1 s' Q (fun _ _ _ => False)) s' := by
    have hb1 := hbg s' [.ref f] M.inv.kIn rfl
    rw [List.append_nil] at hb1
    refine LamX.run_ofS (N := [a, n]) (ps := [a]) (us := [.ref f]) (vs := [.ref f]) lk hcg D.sc hr M.inv.env0 hb1 (.cons rfl .nil) rfl fun hr' => ?_
    rw [hbd]
    refine ⟨_, pss_one ps_w, ws_mk fun pinsZ sZ IZ => ?_⟩
    let tAct : TE := fun σZ HZ Q' => σZ[0]? = some (some (.ref f)) ∧ HZ = H1 ∧ ∀ v' H', Ql v' H' → Q' v' H'
    refine try_ok (W := fun cls d _ H' => Ep cls d H') (tb := fun _ => tRet (tLst (tCons tAct tNil))) rfl rfl IZ (fun pn xe tkZ _ => pss_one (ps_ret (pe_lst (pa_cons ?_ pa_nil)))) ?_ (fun σ' H' ea cls d s2 hE Ld => ?_)
    · -- the call of the lambda
      refine ⟨fun pinsZ sZ σZ HZ Q' IZ' hh => ?_⟩
      obtain ⟨hs, hH, hq⟩ := hh
      subst hH
      refine wpAny_Call_Name_kw (thn ((pe_var (pos := p1) (i := 0) rfl (.inl D.va) D.da.1 D.da.2).run pinsZ sZ σZ HZ (fun v H' => v = .ref f ∧ H' = HZ) IZ' ⟨.ref f, hs, rfl, rfl⟩) fun u s3 hu => ?_)
      obtain ⟨v, H', I3, r3, ev, eH⟩ := hu
      subst ev
      subst eH
      obtain rfl : u = Value.ref f := r3
      have un : Un (frs X.stack) [] H' H' s'.heap s3.heap := I3.base
      have of3 := un.keep f _ hob M.fn M.fr (by simp)
      refine PySem.W.callWith_F0 ⟨_, _, _, _, of3⟩ ?_
      have bd := L.bd s3 (cloFrom X.env.cells scope.names []) dV doc' pm' (.ref c') ctv us hul (hdf' s3.heap fun T0 o h1 h2 h3 => un.keep T0 o h1 h2 h3 (by simp))
      refine lam_call (k := k) (W := fun cls d _ H' => Ep cls d H') (E := Ep) M.inv L.nm rfl rfl rfl rfl rfl rfl un I3 hr'.hd of3 M.co bd tkZ (fun _ _ _ _ h => h) hr' (fun s4 hr4 => ?_)
      refine hbody _ _ s3 H' Ep f c' hr4 hgd (fun cls d _ H' => Ep cls d H') (takes_of rfl rfl rfl rfl) r st s H' env Q' E1 S1 ?_
      cases hgb : gb env st with
      | bad => rw [hgb] at P2; exact P2.elim
      | ok v st' => exact fun r' H2 e2 S2 v' rv => hq v' H2 ⟨v, st', r', hgb, e2, S2, rv⟩
      | exc c fl' v ev st' => exact fun r' H2 s2 v' C d e2 S2 _ rv hC hd => ⟨c, fl', v, ev, st', r', v', C, d, hgb, e2, S2, rv, hC, rfl, rfl, hd⟩
    · -- it is told in a list
      refine ⟨rfl, rfl, fun v' H2 hql => ?_⟩
      obtain ⟨v, st', r', hgb, e2, S2, rv⟩ := hql
      rw [hgb] at P2
      have P3 : Post X W (okV X Q) r' H2 (lstV [v] st') := P2.mono e2 S2
      have el : lstV [v] st' = newC (.lst [v]) st' := by unfold lstV; rw [if_pos (by unfold sizeTop; simp)]
      rw [el] at P3
      exact ⟨by rw [sizeLine_eq]; simp, fun p hp => P3.newL S2 hp (RepL.one rv)⟩
    · -- it is told by its word
      obtain ⟨c, f2, v, ev, st', r', v', C, dd, hgb, e2, S2, rv, hC, rfl, rfl, hdd⟩ := hE
      have hlen : 1 < σ'.length := by rw [Ld.inv.len]; show 1 < 2; decide
      rw [hgb] at P2
      dsimp only at P2
      by_cases k1 : c = c1 ∧ f2 = fl
      · rw [if_pos k1] at P2
        obtain ⟨rfl, rfl⟩ := k1
        have hCC : C = C1 := by have := D.m1.symm.trans hC; cases this; rfl
        subst hCC
        refine clause_as (b := true) (c := .ref C) rfl rfl (by exact D.sc.nd) (i := 1) rfl D.vn ⟨D.g1, D.d1, .inl D.m1⟩ D.e11 (fun _ => ⟨fun oe pn hz hf => pss_one (ps_ret (pe_tup (pa_cons pe_str (pa_cons (pe_xf D.x1 D.n1 hz hf (pe_var (i := 1) rfl (.inl D.vn) D.dn.1 D.dn.2)) pa_nil)))), ?_⟩) Ld (fun z => by cases z)
        refine ⟨.ref ea, by rw [List.getElem?_set_self hlen], rfl, rfl, dd, _, v', rfl, hdd, by simp [List.lookup], by rw [sizeLine_eq]; simp, fun p hp => ?_⟩
        have P3 : Post X W (okV X Q) r' H' (.ok (.tup [.str w1, v]) st') := P2.mono e2 S2
        exact P3.newT S2 hp (by simp only [RepL]; exact ⟨_, _, rfl, by simp only [Rep], _, _, rfl, rv, rfl⟩)
      · rw [if_neg k1] at P2
        by_cases k2 : c = c2 ∧ f2 = fl
        · rw [if_pos k2] at P2
          obtain ⟨rfl, rfl⟩ := k2
          have hCC : C = C2 := by have := D.m2.symm.trans hC; cases this; rfl
          subst hCC
          refine clause_as (b := false) (c := .ref C1) (ts := fun _ _ _ => True) rfl rfl (by exact D.sc.nd) (i := 1) rfl D.vn ⟨D.g1, D.d1, .inl D.m1⟩ D.e21 (fun z => by cases z) Ld (fun _ => ?_)
          refine clause_as (b := true) (c := .ref C) rfl rfl (by exact D.sc.nd) (i := 1) rfl D.vn ⟨D.g2, D.d2, .inl D.m2⟩ D.e22 (fun _ => ⟨fun oe pn hz hf => pss_one (ps_ret (pe_tup (pa_cons pe_str (pa_cons (pe_xf D.x2 D.n2 hz hf (pe_var (i := 1) rfl (.inl D.vn) D.dn.1 D.dn.2)) pa_nil)))), ?_⟩) Ld (fun z => by cases z)
          refine ⟨.ref ea, by rw [List.getElem?_set_self hlen], rfl, rfl, dd, _, v', rfl, hdd, by simp [List.lookup], by rw [sizeLine_eq]; simp, fun p hp => ?_⟩
          have P3 : Post X W (okV X Q) r' H' (.ok (.tup [.str w2, v]) st') := P2.mono e2 S2
          exact P3.newT S2 hp (by simp only [RepL]; exact ⟨_, _, rfl, by simp only [Rep], _, _, rfl, rv, rfl⟩)
        · rw [if_neg k2] at P2
          exact P2.elim
  refine wpAny_call (codeAny_mono rc fun res s2 hq => ?_)
  cases res with
  | error e =>
    obtain ⟨_, _, _, _, _, _, _, _, _, _, _, _, z⟩ := hq
    exact z.elim
  | ok fw =>
    cases fw with
    | ret u => exact M.inv.after hq
    | next => exact False.elim hq
    | brk => exact False.elim hq
    | cont => exact False.elim hq
end Mi
namespace Mi
open PySem PySem.Spec PyProof.Rows L2
/-! ### the law is called, a table of lambdas with it -/
theorem law_mT {P : Program} {w : World} {K : PySem.W.Frag} {mg mb : Str → Option Value} {k : Nat} {fa a cc Pt : Addr} {q : Str} {fd : FuncData} {x : Str} {g : List PV → M PV} {sh : Shared} {us : List Value} {ns : List Int} (KX : K.In sh.heap) (hns : sh.heap.Ns mainGlobals mg) (hb : sh.heap.Ns builtinsNs mb)
    (hbb : ∀ x : Str, x ≠ "__name__" → mb x = bootBuiltins x) (hlim : sh.heap.NoLimit) (hg : sh.gens = #[]) (ha : sh.heap.get? a = some { cls := .type "list", data := .seq us.toArray }) (hi : IntsAre us ns) (hl : ns.length ≤ sizeLine) (hr : Room k callerA)
    (hT : sh.heap.get? Pt = some { cls := .none, data := .fields #[] }) (nT : K.lookup Pt = none) (hC : PySem.W.CodeHd sh.heap cc Pt)
    (hbm : ∃ (bm : Addr) (ob : Obj), mg "__builtins__" = some (.ref bm) ∧ bm ≠ builtinsNs ∧ sh.heap.get? bm = some ob ∧ ob.cls = .type "module" ∧ ob.dict = some builtinsNs ∧ ob.data = .plain)
    (F : ∀ bs : Heap, K.In bs → bs.Ns mainGlobals mg → LamX.TabB bs mg cc Pt → FnM P w K mg bs k fa fd [x] g) (hbind : ∀ (s : Shared) (u : Value), BindsTo s fd ⟨[u], []⟩ [(x, u)]) (hm : ∃ st, g [.kl (ns.map PV.int)] [.tb q Pt] = .ok (.bl true) st) :
    codeAny (model P w) callerA (.call (.ref fa) ⟨[.ref a], []⟩) (fun r s' => r = .ok (.ret (.bool true)) ∧ OldK sh.heap s'.heap ∧ s'.os = sh.os ∧ AllBare s'.gens) sh := by
  have rv := vals_ints hi
  have lenU := hi.length
  have aP : a ≠ Pt := fun z => by
    rw [z, hT] at ha
    have := congrArg Obj.data (Option.some.inj ha)
    cases this
  have main : ∀ H : Hp, H Pt = some (.tbl #[]) → (∀ b, b ≠ Pt → H b = none ∨ (b = a ∧ ∃ o xs, H b = some (.frz o (.lst xs)))) → SqR K H a (ns.map V.int) → HOk P w H sh.heap → (H a ≠ none → K.lookup a = none) →
      codeAny (model P w) callerA (.call (.ref fa) ⟨[.ref a], []⟩) (fun r s' => r = .ok (.ret (.bool true)) ∧ OldK sh.heap s'.heap ∧ s'.os = sh.os ∧ AllBare s'.gens) sh := fun H hP hO hS hok hK => by
    -- what is neither a list nor the table is not tracked
    have free : ∀ {b : Addr} {o : Obj}, sh.heap.get? b = some o → (∀ xs n, o.data ≠ .seq xs n) → o.data ≠ .fields #[] → H b = none := fun {b o} e d1 d2 => by
      have bP : b ≠ Pt := fun z => by rw [z, hT] at e; cases e; exact d2 rfl
      rcases hO b bP with z | ⟨z, _⟩
      · exact z
      · rw [z, ha] at e
        cases e
        exact absurd rfl (d1 _ _)
    have nsT : ∀ {b : Addr} {m : Str → Option Value}, sh.heap.Ns b m → (hidT sh.heap H).Ns b m := fun {b m} ⟨o, es, ep, e, d, qq⟩ => by
      refine ⟨o, es, ep, hidT_get e (free e (fun xs n z => ?_) fun z => ?_), d, qq⟩
      · rw [d] at z; cases z
      · rw [d] at z; cases z
    have inT : K.In (hidT sh.heap H) := fun b o e => by
      have bP : b ≠ Pt := fun z => by rw [z, nT] at e; cases e
      refine hidT_get (KX b o e) ?_
      rcases hO b bP with z | ⟨rfl, _, _, z⟩
      · exact z
      · rw [hK (by rw [z]; simp)] at e
        cases e
    have md : Mod K mg (hidT sh.heap H) := ⟨inT, nsT hns, ⟨mb, nsT hb, hbb⟩, let ⟨mc, h1, h2⟩ := hlim; ⟨mc, nsT h1, h2⟩⟩
    have tb : LamX.TabB (hidT sh.heap H) mg cc Pt := by
      refine ⟨?_, ?_, fun z => ?_⟩
      · obtain ⟨o, vs, file, tf, flags, tg, inF, text, tt, e1, r1, r2, r3, r4⟩ := hC
        refine ⟨o, vs, file, tf, flags, tg, inF, text, tt, hidT_get e1 (free e1 (fun xs n z => ?_) fun z => ?_), r1, r2, r3, r4⟩
        · rw [r2] at z; cases z
        · rw [r2] at z; cases z; simp at r3
      · obtain ⟨bm, ob, b1, b2, b3, b4, b5, b6⟩ := hbm
        refine ⟨bm, ob, b1, b2, fun z => ?_, fun z => ?_, hidT_get b3 (free b3 (fun xs n z => ?_) fun z => ?_), b4, b5, b6⟩
        · obtain ⟨o, es, ep, e, hd, _⟩ := hns
          rw [z, e] at b3; cases b3; rw [hd] at b6; cases b6
        · rw [z, hT] at b3; cases b3; cases b6
        · rw [b6] at z; cases z
        · rw [b6] at z; cases z
      · obtain ⟨o, es, ep, e, hd, _⟩ := hns
        rw [z, hT] at e; cases e; cases hd
    have ev : Env0 P w K mg (hidT sh.heap H) callerA [] sh H := ⟨rfl, md, fun b o e => of_hidT e, Nat.le_of_eq (hidT_size _ _), trivial, fun b hb => absurd (show b ∈ ([] : List Addr) from hb) (by simp), hok, .of_eq hg⟩
    obtain ⟨st, hm⟩ := hm
    have sim : Sim K w [Pt] [.tb q Pt] H := by
      refine ⟨rfl, by simp, fun i c b h1 h2 => ?_⟩
      cases i with
      | zero =>
        cases h1; cases h2
        exact ⟨rfl, #[], hP, True.intro, fun pos cv hc => by simp [codeAmong] at hc⟩
      | succ i => simp at h1
    have rep : RepL K [Pt] H [.kl (ns.map PV.int)] [.ref a] := RepL.one (rep_kl.mpr ⟨a, _, rfl, hS, repL_ints ns⟩)
    refine codeAny_mono ((F _ inT (nsT hns) tb).run callerA [] sh H ⟨[.ref a], []⟩ [.ref a] [.ref a] (fun v _ => v = .bl true) (fun _ _ _ => False) [Pt] [.tb q Pt] [.kl (ns.map PV.int)] hr rfl ev (hbind sh (.ref a)) (.cons rfl .nil) rep rfl sim ?_) fun r s' h => ?_
    · rw [hm]
      exact fun r' H' v' _ _ qq => rep_bl.mp qq
    · cases r with
      | error e =>
        obtain ⟨_, _, _, _, _, _, _, _, _, _, _, _, z⟩ := (show L2.CX P w [] H sh (fun _ _ _ => False) e s' from h)
        exact z.elim
      | ok fl =>
        cases fl with
        | next => exact False.elim h
        | brk => exact False.elim h
        | cont => exact False.elim h
        | ret u =>
          obtain ⟨v, H', h1, h2, un, hok', rv', qq⟩ := h
          have qq' : v = .bl true := qq
          subst qq'
          obtain rfl : u = Value.bool true := rv'
          have keep : ∀ b o, b ≠ Pt → sh.heap.get? b = some o → s'.heap.get? b = some o := fun b o nb e => by
            rcases hO b nb with z | ⟨_, ob, xs, z⟩
            · exact un.keep b o e z (fun z => absurd (show b ∈ ([] : List Addr) from z) (by simp)) (by simp)
            · obtain ⟨e1, _⟩ := hok b _ z
              obtain ⟨e2, _⟩ := hok' b _ (un.frzs b ob _ z)
              rw [e] at e1; cases e1
              exact e2
          obtain ⟨more, z⟩ := un.tbls Pt #[] hP
          have grown : s'.heap.get? Pt = some { cls := .none, data := .fields (#[] ++ more) } := hok' Pt _ z
          rw [Array.empty_append] at grown
          refine ⟨rfl, { old := fun b o e => ?_, there := fun b o e => ?_ }, h1, h2⟩
          · by_cases hbP : b = Pt
            · subst hbP
              rw [hT] at e
              cases e
              exact .inr (.inl ⟨(hC.tab hT).isCodeTable, rfl, #[], more, rfl, by rw [Array.empty_append]; exact grown⟩)
            · exact .inl (keep b o hbP e)
          · by_cases hbP : b = Pt
            · subst hbP
              exact ⟨_, grown⟩
            · exact ⟨o, keep b o hbP e⟩
  cases hk : K.lookup a with
  | some o =>
    have e := KX a o hk
    rw [ha] at e
    cases e
    refine main (fun b => if b = Pt then some (.tbl #[]) else none) (if_pos rfl) (fun b nb => .inl (if_neg nb)) (.inr ⟨_, us.toArray, _, hk, rfl, rfl, rfl, by rw [List.size_toArray, lenU]; exact hl, by simpa using rv⟩) (fun b u z => ?_) fun z => absurd (if_neg aP) z
    by_cases hbP : b = Pt
    · cases (if_pos hbP).symm.trans z
      subst hbP
      exact hT
    · cases (if_neg hbP).symm.trans z
  | none =>
    refine main (fun b => if b = Pt then some (.tbl #[]) else if b = a then some (.frz { cls := .type "list", data := .seq us.toArray } (.lst (ns.map V.int))) else none) (if_pos rfl) (fun b nb => ?_) (.inl ⟨_, (if_neg aP).trans (if_pos rfl)⟩) (fun b u z => ?_) fun _ => hk
    · by_cases qa : b = a
      · exact .inr ⟨qa, _, _, (if_neg nb).trans (if_pos qa)⟩
      · exact .inl ((if_neg nb).trans (if_neg qa))
    · by_cases hbP : b = Pt
      · cases (if_pos hbP).symm.trans z
        subst hbP
        exact hT
      · have z := (if_neg hbP).symm.trans z
        by_cases qa : b = a
        · cases (if_pos qa).symm.trans z
          subst qa
          exact ⟨ha, by rw [List.length_map]; exact hl, us, _, rv, ha⟩
        · cases (if_neg qa).symm.trans z
/-- from the head to the mirror of the law, its lambdas' table with it -/
theorem walk_mT {l : PySem.W.OpenLaw} {n k : Nat} {pr : Program} {loose : List Str} {XP : (Str → Option Value) → Heap → Prop} {YP : World → Heap → Prop} {d : DefRec} {x q : Str} {g : Addr → List PV → M PV} (hn : l.most = some n) (hn2 : n ≤ sizeLine) (hdf : d.params.defaults = []) (hr : Room k callerA)
    (F : ∀ (w : World) (mg : Str → Option Value) (fa : Addr) (h : Heap), YP w h → h.Ns mainGlobals mg → mg d.name = some (.ref fa) → ∃ (K : PySem.W.Frag) (fd : FuncData) (cc Pt : Addr), K.In h ∧ (∀ (s : Shared) (u : Value), BindsTo s fd ⟨[u], []⟩ [(x, u)]) ∧
      h.get? Pt = some { cls := .none, data := .fields #[] } ∧ K.lookup Pt = none ∧ PySem.W.CodeHd h cc Pt ∧ ∀ bs : Heap, K.In bs → bs.Ns mainGlobals mg → LamX.TabB bs mg cc Pt → FnM l.prog w K mg bs k fa fd [x] (g Pt))
    (hm : ∀ (Pt : Addr) (ns : List Int), ns.length ≤ n → ∃ st, g Pt [.kl (ns.map PV.int)] [.tb q Pt] = .ok (.bl true) st) : PySem.W.WalkO pr loose XP YP l.row.toRowW d [] (fun f vs => PySem.call f vs) := by
  refine Att.attach_call hn hdf fun w s0 sh mg mb fa o pm cd doc a us ns G Y ho hd hcd hmg hobj hints hlen hg => ?_
  obtain ⟨K, fd, cc, Pt, KX, hb, hT, nT, hC, hF⟩ := F w mg fa _ Y G.T.g hmg
  exact law_mT KX G.T.g G.T.b G.T.builtins G.T.nolimit hg hobj hints (Nat.le_trans hlen hn2) hr hT nT hC G.T.bmain hF hb (hm Pt ns hlen)
/-! ### lambdas of two sorts -/
theorem far_of {X : Cx} {pins : List (Addr × Obj)} {σ : L2.St} {H : Hp} {s : Shared} (I : Inv X pins σ H s) {f : Addr} (hf : s.heap.objs.size ≤ f) : f ∉ frs X.stack := fun z => by
  rcases List.mem_cons.mp (I.stkSub _ z) with e | e
  · have := I.lt
    rw [← e] at this
    exact absurd hf (Nat.not_le_of_lt this)
  · exact I.nofs hf e
/-- without parameters -/
theorem lamD0 {X : Cx} {params : Arguments} {body : Expr} {scope : Scope} {pos : Pos} (hp : defaultsOf params X.env = ([], [])) (hk : params.kwonlyargs = []) (hb : ∀ (q : Str) (cl : List (Str × Addr)) (doc pm cv ctv : Value), bindArgs (PySem.W.kdv_fn "<lambda>" q params (.expr body) scope cl .none doc pm cv ctv) ⟨[], []⟩ = pure [])
    (hn : LmS X.N X.env.scope scope []) : LamD X params body scope pos [] := by
  refine ⟨fun pins σ H s Q I h => ?_, fun s cl dV doc pm cv ctv us hl hd => ?_, hn⟩
  · refine PySem.W.kla_eval hp ?_
    rw [makeFunction_eq, hk]
    exact wpAny_bind (wpAny_pure (wpAny_bind (wpAny_pure (wpAny_bind (wpAny_pure (h .none s [] I rfl (.inl ⟨rfl, rfl⟩)))))))
  · have : us = [] := List.eq_nil_of_length_eq_zero hl
    subst this
    rcases hd with ⟨_, rfl⟩ | ⟨hu, _⟩
    · exact .of_eq (hb _ _ _ _ _ _)
    · exact absurd rfl hu
/-- with one parameter, an integer its default -/
theorem lamD1 {X : Cx} {params : Arguments} {body : Expr} {scope : Scope} {pos p1 : Pos} {own : Str} {i : Int} {j : Nat} (hp : params.defaults = [.Constant (.int i) j p1]) (hkd : params.kw_defaults = []) (hk : params.kwonlyargs = [])
    (hb : ∀ (s : Shared) (q : Str) (cl : List (Str × Addr)) (T0 : Addr) (u doc pm cv ctv : Value), s.heap.get? T0 = some (PySem.W.kdv_tup [u]) → BindsTo s (PySem.W.kdv_fn "<lambda>" q params (.expr body) scope cl (.ref T0) doc pm cv ctv) ⟨[], []⟩ [(own, u)])
    (hn : LmS X.N X.env.scope scope [own]) : LamD X params body scope pos [own] := by
  refine ⟨fun pins σ H s Q I h => ?_, fun s cl dV doc pm cv ctv us hl hd => ?_, hn⟩
  · refine PySem.W.kdv_lam (by rw [hp]; rfl) hkd ?_
    rw [hp]
    refine PySem.W.kdv_all1 ((pe_int (X := X) (i := i) (j := j) (pos := p1)).run pins s σ H (fun v H' => v = .int i ∧ H' = H) I ⟨rfl, rfl⟩ |> fun w => thn w fun u s1 hu => ?_)
    · obtain ⟨v, H', I1, _, _, eH⟩ := hu
      subst eH
      refine PySem.W.kdv_all0 ?_
      rw [makeFunction_eq, hk]
      refine wpAny_bind (wpAny_newTextTuple (wpAny_bind (wpAny_pure (wpAny_bind (wpAny_pure ?_)))))
      refine h (.ref s1.heap.objs.size) _ [u] (I1.kept (t' := s1.toks) fun b o e => Heap.get?_push_of_some _ e) rfl (.inr ⟨by simp, s1.heap.objs.size, rfl, Heap.get?_push_size _ rfl, I1.hok.fresh (Nat.le_refl _), far_of I1 (Nat.le_refl _)⟩)
  · rcases hd with ⟨rfl, _⟩ | ⟨hu, T0, rfl, ho⟩
    · simp at hl
    · match us, hl with
      | [u], _ => exact hb s _ cl T0 u doc pm cv ctv ho
end Mi
namespace Mi
open PySem PySem.Spec PyProof.Rows L2
/-! ### a def whose code object is known -/
theorem FnM.ofC {P : Program} {w : World} {K : PySem.W.Frag} {mg : Str → Option Value} {base : Heap} {x : Str} {pa : Arguments} {bd : List Stmt} {sc : Scope} {f : Addr} {fd : FuncData} {N ps : List Str} {k : Nat} {b : Ev → M Flw} {cv : Value} (F : FunD K x x pa bd sc [] [] f fd) (S : FnScope N ps sc) (hcv : fd.code = cv)
    (hbody : ∀ (A : Around) (outer : List Env) (s : Shared) (H : Hp) (E : XK), Room k (A.deeper (envOfC x sc s.heap.objs.size f cv)) → A.guards = some [] →
      RSs (cxOf (L2.CX P w) P w K mg base N x sc f cv A outer s H E) bd b) : FnM P w K mg base (k + 1) f fd ps (runB N.length b) := by
  obtain ⟨oc, od, dV, kV, doc, pm, an, cdv, ct, osl, rfl, lk, hcd, _, _⟩ := F.ex
  subst hcv
  refine ⟨fun A outer s H args us vs Q E r st xs hr hgd e0 hb rv hx hl hS hP => ?_⟩
  refine LamX.run_ofS lk hcd S hr e0 hb rv (by rw [← hx.length]; exact hl) fun hr' => ⟨_, pss_w, ?_⟩
  refine hbody A outer s H E hr' hgd (fun cls d _ H => E cls d H) (takes_of rfl rfl rfl rfl) r st _ H _ _ (envR_start hx) hS ?_
  unfold runB at hP
  cases hq : b (xs.map some ++ List.replicate (N.length - xs.length) none) st with
  | bad => rw [hq] at hP; exact hP.elim
  | exc c f v env st' =>
    rw [hq] at hP
    exact fun r' H' s' v' C d e1 S1 _ q1 q2 q3 => hP r' H' v' C d e1 S1 q1 q2 q3
  | ok fl st' =>
    rw [hq] at hP
    cases fl with
    | rt v => exact fun r' H' e1 S1 v' q => hP r' H' v' e1 S1 q
    | nx env => exact fun r' H' e1 S1 s' q => hP r' H' .non e1 S1 (rep_non.mpr rfl)
    | bk env => exact hP.elim
    | ct env => exact hP.elim
end Mi
namespace Mi
open PySem PySem.Spec PyProof.Rows L2
/-! ### from the head's facts -/
theorem clsB_ok {K : PySem.W.Frag} {C : Addr} (h : clsB K C = true) : ∃ nm q N bs bm sn sub ab col dd k0 k1 k2 k3 k5, K.lookup C = some (excClassObj nm q C N bs bm true sn sub ab col dd k0 k1 k2 k3 k5 "ValueError.__new__") ∧ HandSPX.refsVE bm = true := by
  unfold clsB at h
  split at h
  · rename_i c dd cd sl lk
    split at h
    · rename_i C' bm k0 k1 k2 k3 n k5 e1 e2
      simp only [Bool.and_eq_true, decide_eq_true_eq, Bool.not_eq_true'] at h
      obtain ⟨rfl, rfl, rfl, h1, h2, h3⟩ := h
      obtain ⟨nm, bs, mro, N, q, hdct, sn, sub, ab, col, hdel⟩ := cd
      dsimp only at e1 h2 h3
      subst e1 h2 h3
      obtain ⟨sl⟩ := sl
      dsimp only at e2
      subst e2
      exact ⟨nm, q, N, bs, bm, sn, sub, ab, col, dd, k0, k1, k2, k3, k5, lk, h1⟩
    · cases h
  · cases h
structure ExcFs (K : PySem.W.Frag) (x fld : Str) : Prop where
  ox : OexC K (He.ga K x)
  ini : PySem.W.findIn K (.ref (He.ga K x)) "__init__" = some (some (.ref (He.ma K (He.ga K x) "__init__")))
  tyI : PySem.W.typeIn K (.ref (He.ma K (He.ga K x) "__init__")) = some (.type "function")
  no : PySem.W.findIn K (.ref (He.ga K x)) fld = some none
  xf : XfC K (He.ga K x)
theorem excB_ok {K : PySem.W.Frag} {x fld : Str} (h : excB K x fld = true) : ExcFs K x fld := by
  unfold excB at h
  simp only [Bool.and_eq_true, decide_eq_true_eq] at h
  obtain ⟨h1, h2, h3, h4, h5, h6, h7, h8, h9⟩ := h
  exact ⟨⟨clsB_ok h1, h2, h3, h4, h5⟩, h6, h7, h8, xfB_ok h9⟩
theorem ExcFs.k {P : Program} {w : World} {K : PySem.W.Frag} {mg : Str → Option Value} {base : Heap} {x fld a qual : Str} {t : Stmt} {fd : FuncData} (h : ExcFs K x fld) (hm : mg x = some (.ref (He.ga K x))) (F : FunD K "__init__" qual (defArgs t) (defBody t) (defScope t) [] [] (He.ma K (He.ga K x) "__init__") fd)
    (S : FnScope ["self", a] ["self", a] (defScope t)) (hb : ∃ p1 p2 p3 p4, defBody t = [.Assign [.Attribute (.Name "self" p1) fld p2] (.Name a p3) p4]) (hsw : ∀ X : Cx, ∀ p1 p2 p3 p4 : Pos, swapsWith (.Name a p3) (some (.Attribute (.Name "self" p1) fld p2)) p4.line X.env = pure false)
    (hs : (defScope t).names.lookup ("self" : Str) = some .local) (ha : (defScope t).names.lookup a = some .local) (hd : (a == ("__debug__" : Str)) = false) (hcd : (a == ("__classdict__" : Str)) = false)
    (hbd : ∀ (kV doc pm : Value) (an : Option Addr) (cdv ct : Value) (us : List Value), us.length = 2 → bindArgs (PySem.W.fnOf "__init__" qual (defArgs t) (defBody t) (defScope t) .none kV doc pm an cdv ct) ⟨us, []⟩ = pure ((["self", a] : List Str).zip us)) : ExK P w K mg base x fld :=
  ⟨He.ga K x, _, fd, a, hm, h.ox, h.ini, h.tyI, h.no, init_ok (N := ["self", a]) F S hb hsw hs ha hd hcd, F.bindsN hbd⟩
theorem loc_of {K : PySem.W.Frag} {h : Heap} {mg : Str → Option Value} {fa : List He.Fa} {fn : List He.DefD} (X : K.In h) (G : h.Ns mainGlobals mg) (D : He.SaysD fa fn K) {x : Str} {t : Stmt} (i j : Nat) (hi : fn[i]? = some ⟨(x, none), x, x, defArgs t, defBody t, defScope t, [], []⟩ := by rfl) (hj : fa[j]? = some (.glo x) := by rfl) : Loc K mg x t := by
  obtain ⟨fd, F⟩ := D.def_ i hi
  exact ⟨_, fd, F, He.glo_ok X G (D.fact j hj)⟩
theorem code_at {K : PySem.W.Frag} {x : Str} {qual : Str} {pa : Arguments} {bd : List Stmt} {sc : Scope} {fd : FuncData} {p : Str × Option Str} (F : FunD K x qual pa bd sc [] [] (He.fAd K p) fd) : fd.code = .ref (He.codeOf K p) := by
  obtain ⟨oc, od, dV, kV, doc, pm, an, cdv, ct, osl, rfl, lk, hcd, _, _⟩ := F.ex
  obtain ⟨c, rfl⟩ := He.codeIn_ref hcd
  rw [He.codeOf_eq lk rfl]
end Mi
namespace Mi
open PySem PySem.Spec PyProof.Rows L2
/-! ### what a def tells of a call, clause by clause -/
/-- a clause: its class, the field, the word ahead of it -/
abbrev HCl := Str × Str × Option Str
def hRes (w : Option Str) (v : PV) : PV := match w with
  | some x => .tup [.str x, v]
  | none => v
def hFind : List HCl → Str → Str → Option (Option Str)
  | [], _, _ => none
  | e :: r, c, f => if e.1 = c then (if e.2.1 = f then some e.2.2 else none) else hFind r c f
def hTell (cs : List HCl) : Res PV → Res PV
  | .ok v st => lstV [v] st
  | .exc c f v _ st => match hFind cs c f with
    | some w => .ok (hRes w v) st
    | none => .bad
  | .bad => .bad
/-- j: where the table stands in the store -/
def xHears (j : Nat) (q : Str) (P : Addr) (cs : List HCl) (g : Ev → M PV) : Ev → M PV := fun env (st : Store) => match (show Option Cell from st[j]?) with
  | some (.tb q' P') => if q' = q ∧ P' = P then hTell cs (g env st) else .bad
  | _ => .bad
def HsOk (n : Str) : List HCl → List ExceptHandler → Prop
  | [], hs => hs = []
  | (c, f, some w) :: cs, hs => ∃ (p1 p2 p3 p4 p5 p6 p7 : Pos) (j : Nat) (k : Nat) (r : List ExceptHandler), hs = .ExceptHandler (some (.Name c p1)) (some n) [.Return (some (.Tuple [.Constant (.str w) j p2, .Attribute (.Name n p3) f p4] k p5)) p6] p7 :: r ∧ HsOk n cs r
  | (c, f, none) :: cs, hs => ∃ (p1 p3 p4 p6 p7 : Pos) (r : List ExceptHandler), hs = .ExceptHandler (some (.Name c p1)) (some n) [.Return (some (.Attribute (.Name n p3) f p4)) p6] p7 :: r ∧ HsOk n cs r
/-- what is known of a clause's class -/
structure HClOk (K : PySem.W.Frag) (mg : Str → Option Value) (sc : Scope) (A : Str → Addr) (e : HCl) : Prop where
  g : sc.names.lookup e.1 = some .globalImplicit
  d : (e.1 == ("__debug__" : Str)) = false
  m : mg e.1 = some (.ref (A e.1))
  x : XfC K (A e.1)
  no : PySem.W.findIn K (.ref (A e.1)) e.2.1 = some none
theorem hears_cl {X : Cx} {pins : List (Addr × Obj)} {σ : L2.St} {H : Hp} {ea : Addr} {s : Shared} {n : Str} {A : Str → Addr} {c f : Str} {v' : V} {dd : Addr} {D : Ends} {w : Option Str} (hs : X.stack = X.env :: X.outer) (hf : X.env.frame = some X.env.locals) (hN : X.N.Nodup) (hi : X.N[1]? = some n) (hln : X.env.kindOf n = some .local)
    (vn : Vis X.env.scope n) (dn : (n == ("__debug__" : Str)) = false ∧ (n == ("__classdict__" : Str)) = false) (hlen : 1 < σ.length) (Ld : Lnd X pins σ H ea (.ref (A c)) (some dd) s) (hdd : H dd = some (.xd [(f, v')]))
    (hQ : match w with
      | some x => ∀ p, H p = none → D.rt (.ref p) (upd H p (.tup [.str x, v']))
      | none => D.rt v' H) :
    ∀ (cs : List HCl) (hds : List ExceptHandler), HsOk n cs hds → (∀ e ∈ cs, HClOk X.K X.mg X.env.scope A e) → (∀ e ∈ cs, PySem.W.exmOne X.K (.ref (A c)) (.ref (A e.1)) = some (decide (c = e.1))) → hFind cs c f = some w →
      wpAny (model X.prog X.w) X.A (handleBy (.ref ea) X.env hds) (SP X pins D) X.xe s
  | [], hds, _, _, _, h => by cases h
  | (c', f', w') :: cs, hds, ho, hc, he, h => by
    have k := hc _ (List.mem_cons_self ..)
    have b := he _ (List.mem_cons_self ..)
    have ih := fun r hr hq => hears_cl (w := w) hs hf hN hi hln vn dn hlen Ld hdd hQ cs r hr (fun e h => hc e (List.mem_cons_of_mem _ h)) (fun e h => he e (List.mem_cons_of_mem _ h)) hq
    unfold hFind at h
    dsimp only at h k b
    by_cases e : c' = c
    · subst e
      rw [if_pos rfl] at h
      rw [decide_eq_true rfl] at b
      split at h
      · rename_i ef
        cases h
        subst ef
        cases w with
        | some x =>
          obtain ⟨p1, p2, p3, p4, p5, p6, p7, j, kk, r, rfl, hr⟩ := ho
          refine clause_as (b := true) (c := .ref (A c')) hs hf hN (i := 1) hi hln ⟨k.g, k.d, .inl k.m⟩ b (fun _ => ⟨fun oe pn hz hf => pss_one (ps_ret (pe_tup (pa_cons pe_str (pa_cons (pe_xf k.x k.no hz hf (pe_var (i := 1) hi vn dn.1 dn.2)) pa_nil)))), ?_⟩) Ld (fun z => by cases z)
          exact ⟨.ref ea, by rw [List.getElem?_set_self hlen], rfl, rfl, dd, _, v', rfl, hdd, by simp [List.lookup], by rw [sizeLine_eq]; simp, hQ⟩
        | none =>
          obtain ⟨p1, p3, p4, p6, p7, r, rfl, hr⟩ := ho
          refine clause_as (b := true) (c := .ref (A c')) hs hf hN (i := 1) hi hln ⟨k.g, k.d, .inl k.m⟩ b (fun _ => ⟨fun oe pn hz hf => pss_one (ps_ret (pe_xf k.x k.no hz hf (pe_var (i := 1) hi vn dn.1 dn.2))), ?_⟩) Ld (fun z => by cases z)
          exact ⟨.ref ea, by rw [List.getElem?_set_self hlen], rfl, rfl, dd, _, v', rfl, hdd, by simp [List.lookup], hQ⟩
      · cases h
    · rw [if_neg e] at h
      rw [decide_eq_false (fun z => e z.symm)] at b
      cases w' with
      | some x =>
        obtain ⟨p1, p2, p3, p4, p5, p6, p7, j, kk, r, rfl, hr⟩ := ho
        exact clause_as (b := false) (c := .ref (A c')) (ts := fun _ _ _ => True) hs hf hN (i := 1) hi hln ⟨k.g, k.d, .inl k.m⟩ b (fun z => by cases z) Ld (fun _ => ih r hr h)
      | none =>
        obtain ⟨p1, p3, p4, p6, p7, r, rfl, hr⟩ := ho
        exact clause_as (b := false) (c := .ref (A c')) (ts := fun _ _ _ => True) hs hf hN (i := 1) hi hln ⟨k.g, k.d, .inl k.m⟩ b (fun z => by cases z) Ld (fun _ => ih r hr h)
end Mi
namespace Mi
open PySem PySem.Spec PyProof.Rows L2
/-- the def that hears, clause by clause -/
structure HearsD (K : PySem.W.Frag) (mg : Str → Option Value) (x : Str) (t : Stmt) (a n : Str) (cs : List HCl) (Ad : Str → Addr) : Prop where
  loc : Loc K mg x t
  sc : FnScope [a, n] [a] (defScope t)
  bnd : ∀ (kV doc pm : Value) (an : Option Addr) (cdv ct : Value) (us : List Value), us.length = 1 → bindArgs (PySem.W.fnOf x x (defArgs t) (defBody t) (defScope t) .none kV doc pm an cdv ct) ⟨us, []⟩ = pure ([a].zip us)
  body : ∃ (p1 p2 p3 p4 p0 : Pos) (h : ExceptHandler) (hs : List ExceptHandler), defBody t = [.Try [.Return (some (.List [.Call (.Name a p1) [] [] p2] p3)) p4] (h :: hs) [] [] p0] ∧ HsOk n cs (h :: hs)
  va : (defScope t).names.lookup a = some .local
  vn : (defScope t).names.lookup n = some .local
  da : (a == ("__debug__" : Str)) = false ∧ (a == ("__classdict__" : Str)) = false
  dn : (n == ("__debug__" : Str)) = false ∧ (n == ("__classdict__" : Str)) = false
  cl : ∀ e ∈ cs, HClOk K mg (defScope t) Ad e
  em : ∀ e ∈ cs, ∀ e' ∈ cs, PySem.W.exmOne K (.ref (Ad e.1)) (.ref (Ad e'.1)) = some (decide (e.1 = e'.1))
theorem hFind_mem {c f : Str} {w : Option Str} : ∀ {cs : List HCl}, hFind cs c f = some w → ∃ e ∈ cs, e.1 = c
  | [], h => by cases h
  | e :: r, h => by
    unfold hFind at h
    by_cases k : e.1 = c
    · exact ⟨e, List.mem_cons_self .., k⟩
    · rw [if_neg k] at h
      obtain ⟨e', h1, h2⟩ := hFind_mem h
      exact ⟨e', List.mem_cons_of_mem _ h1, h2⟩
theorem Sim.madeJ {j : Nat} {X : Cx} {pins : List (Addr × Obj)} {σ : L2.St} {H H1 : Hp} {s s' : Shared} {P : Addr} {params : Arguments} {body : Expr} {scope : Scope} {dV : Value} {f c' : Addr} {ps' : Array Value} {r : List Addr} {st : Store} (S : Sim X.K X.w r st H) (h0 : st[j]? = some (.tb (lq X) P))
    (M : Made X pins σ H H1 s s' P params body scope dV f c' ps') : Ext r H r H1 ∧ Sim X.K X.w r st H1 := by
  obtain ⟨b, hb, eb, ps, hP, _⟩ := S.get h0
  subst eb
  have hm := List.mem_of_getElem? hb
  have ex : Ext r H r H1 := ⟨⟨[], by simp, by simp⟩, fun a o e na => M.keep a o (fun z => na (z ▸ hm)) e⟩
  refine ⟨ex, S.len, S.nd, fun i c a h1 h2 => ?_⟩
  by_cases ha : a = b
  · subst ha
    have i0 : i = j := by
      obtain ⟨l1, e1⟩ := List.getElem?_eq_some_iff.mp hb
      obtain ⟨l2, e2⟩ := List.getElem?_eq_some_iff.mp h2
      exact (List.getElem_inj S.nd).mp (e2.trans e1.symm)
    subst i0
    rw [h0] at h1
    cases h1
    exact ⟨rfl, ps', M.tb⟩
  · obtain ⟨o, ho, _⟩ := S.tracked a (List.mem_of_getElem? h2)
    exact (S.at_ i c a h1 h2).ext ex S ((M.keep a o ha ho).trans ho.symm)
theorem re_hears {j : Nat} {X : Cx} {k : Nat} {x a n : Str} {t : Stmt} {cs : List HCl} {Ad : Str → Addr} {cc P : Addr} {params : Arguments} {body : Expr} {scope : Scope} {lpos p pos : Pos} {gb : Ev → M PV} {own : List Str} (D : HearsD X.K X.mg x t a n cs Ad) (hg : Gl X x) (TB : LamX.TabB X.base X.mg cc P) (hcode : X.env.code = .ref cc) (hr : Room (k + 2) X.A) (hgd : X.A.guards = some [])
    (L : LamD X params body scope lpos own) (hdb : (x == ("__debug__" : Str)) = false)
    (hbody : ∀ (A : Around) (outer : List Env) (s : Shared) (H : Hp) (E : XK) (f c' : Addr), Room k (LamX.lamCx X A outer s H E scope f c').A → (LamX.lamCx X A outer s H E scope f c').A.guards = some [] → RE (LamX.lamCx X A outer s H E scope f c') body gb) :
    RE X (.Call (.Name x p) [.Lambda params body scope lpos] [] pos) (xHears j (lq X) P cs gb) := by
  intro W tk r st s H env Q E S P0
  refine we_mk fun pins sh I => ?_
  -- the table
  have h0 : st[j]? = some (.tb (lq X) P) ∧ Post X W (okV X Q) r H (hTell cs (gb env st)) := by
    unfold xHears at P0
    split at P0
    · rename_i q' P' e
      split at P0
      · rename_i hq
        obtain ⟨rfl, rfl⟩ := hq
        exact ⟨e, P0⟩
      · exact P0.elim
    · exact P0.elim
  obtain ⟨h0, P1⟩ := h0
  obtain ⟨b, hb, eb, ps, hP, ht, ha⟩ := S.get h0
  subst eb
  obtain ⟨g, fd, F, hm⟩ := D.loc
  obtain ⟨oc, od, dVg, kV, doc, pm, an, cdv, ct, osl, rfl, lk, hcg, hdf, _⟩ := F.ex
  have hbg := F.bindsN (ps := [a]) D.bnd
  refine wpAny_Call_Name_kw (ld_glob I hg hm ?_ hdb)
  refine PySem.W.callWith_K (h₀ := X.base) I.ok.mod.kin F.kp ?_ (by rfl) (by rfl)
  show wpAny _ _ (spliced ((false, eval (.Lambda params body scope lpos) X.env) :: backTo pos (starEach [] X.env))) _ _ sh
  refine Calls.spliced_cons (L.mkl pins s H sh _ I fun dV s1 us I1 hul hdfl => tail_inv I1 TB hcode ⟨hP, ht, ha⟩ (L.nm.has I.ok) fun f c' ps' H1 s' M => ?_)
  refine Calls.spliced_nil ⟨M.inv.kIn, ?_⟩
  obtain ⟨ex, S1⟩ := S.madeJ h0 M
  have E1 := E.ext ex S
  have P2 := P1.mono ex S1
  obtain ⟨doc', pm', ctv, hob⟩ := M.ob
  -- the defaults lie on
  have hdf' : ∀ (h' : Heap), (∀ T0 o, s'.heap.get? T0 = some o → H1 T0 = none → T0 ∉ frs X.stack → h'.get? T0 = some o) → DfH h' dV us := fun h' kp => by
    rcases hdfl with q | ⟨hu, T0, e, ho, hn, hf⟩
    · exact .inl q
    · have nP : T0 ≠ b := fun z => by rw [z, hP] at hn; cases hn
      refine .inr ⟨hu, T0, e, kp T0 _ (M.old T0 _ nP ho) ?_ hf⟩
      rcases M.new T0 with z | z | z
      · exact absurd (Heap.lt_size ho) (Nat.not_lt_of_le z)
      · exact absurd hn z
      · exact z
  -- what comes of the body
  let Ql : VK := fun v' H' => ∃ v st' r', gb env st = .ok v st' ∧ Ext r H1 r' H' ∧ Sim X.K X.w r' st' H' ∧ Rep X.K r' H' v v'
  let Ep : XK := fun cls d H' => ∃ c f v ev st' r' v' C dd, gb env st = .exc c f v ev st' ∧ Ext r H1 r' H' ∧ Sim X.K X.w r' st' H' ∧ Rep X.K r' H' v v' ∧ X.mg c = some (.ref C) ∧ cls = .ref C ∧ d = some dd ∧ H' dd = some (.xd [(f, v')])
  obtain ⟨p1, p2, p3, p4, p0, hh0, hhs, hbd, hho⟩ := D.body
  have rc : codeAny (model X.prog X.w) X.A (.call (.ref g) ⟨[.ref f], []⟩) (CR (L2.CX X.prog X.w) X.stack X.prog X.w H1 s' Q (fun _ _ _ => False)) s' := by
    have hb1 := hbg s' [.ref f] M.inv.kIn rfl
    rw [List.append_nil] at hb1
    refine LamX.run_ofS (N := [a, n]) (ps := [a]) (us := [.ref f]) (vs := [.ref f]) lk hcg D.sc hr M.inv.env0 hb1 (.cons rfl .nil) rfl fun hr' => ?_
    rw [hbd]
    refine ⟨_, pss_one ps_w, ws_mk fun pinsZ sZ IZ => ?_⟩
    let tAct : TE := fun σZ HZ Q' => σZ[0]? = some (some (.ref f)) ∧ HZ = H1 ∧ ∀ v' H', Ql v' H' → Q' v' H'
    refine try_ok (W := fun cls d _ H' => Ep cls d H') (tb := fun _ => tRet (tLst (tCons tAct tNil))) rfl rfl IZ (fun pn xe tkZ _ => pss_one (ps_ret (pe_lst (pa_cons ?_ pa_nil)))) ?_ (fun σ' H' ea cls d s2 hE Ld => ?_)
    · -- the call of the lambda
      refine ⟨fun pinsZ sZ σZ HZ Q' IZ' hh => ?_⟩
      obtain ⟨hs, hH, hq⟩ := hh
      subst hH
      refine wpAny_Call_Name_kw (thn ((pe_var (pos := p1) (i := 0) rfl (.inl D.va) D.da.1 D.da.2).run pinsZ sZ σZ HZ (fun v H' => v = .ref f ∧ H' = HZ) IZ' ⟨.ref f, hs, rfl, rfl⟩) fun u s3 hu => ?_)
      obtain ⟨v, H', I3, r3, ev, eH⟩ := hu
      subst ev
      subst eH
      obtain rfl : u = Value.ref f := r3
      have un : Un (frs X.stack) [] H' H' s'.heap s3.heap := I3.base
      have of3 := un.keep f _ hob M.fn M.fr (by simp)
      refine PySem.W.callWith_F0 ⟨_, _, _, _, of3⟩ ?_
      have bd := L.bd s3 (cloFrom X.env.cells scope.names []) dV doc' pm' (.ref c') ctv us hul (hdf' s3.heap fun T0 o h1 h2 h3 => un.keep T0 o h1 h2 h3 (by simp))
      refine lam_call (k := k) (W := fun cls d _ H' => Ep cls d H') (E := Ep) M.inv L.nm rfl rfl rfl rfl rfl rfl un I3 hr'.hd of3 M.co bd tkZ (fun _ _ _ _ h => h) hr' (fun s4 hr4 => ?_)
      refine hbody _ _ s3 H' Ep f c' hr4 hgd (fun cls d _ H' => Ep cls d H') (takes_of rfl rfl rfl rfl) r st s H' env Q' E1 S1 ?_
      cases hgb : gb env st with
      | bad => rw [hgb] at P2; exact (show False from P2).elim
      | ok v st' => exact fun r' H2 e2 S2 v' rv => hq v' H2 ⟨v, st', r', hgb, e2, S2, rv⟩
      | exc c fl' v ev st' => exact fun r' H2 s2 v' C d e2 S2 _ rv hC hd => ⟨c, fl', v, ev, st', r', v', C, d, hgb, e2, S2, rv, hC, rfl, rfl, hd⟩
    · -- it is told in a list
      refine ⟨rfl, rfl, fun v' H2 hql => ?_⟩
      obtain ⟨v, st', r', hgb, e2, S2, rv⟩ := hql
      rw [hgb] at P2
      have P3 : Post X W (okV X Q) r' H2 (lstV [v] st') := P2.mono e2 S2
      have el : lstV [v] st' = newC (.lst [v]) st' := by unfold lstV; rw [if_pos (by unfold sizeTop; simp)]
      rw [el] at P3
      exact ⟨by rw [sizeLine_eq]; simp, fun p hp => P3.newL S2 hp (RepL.one rv)⟩
    · -- it is told by its word
      obtain ⟨c, f2, v, ev, st', r', v', C, dd, hgb, e2, S2, rv, hC, rfl, rfl, hdd⟩ := hE
      have hlen : 1 < σ'.length := by rw [Ld.inv.len]; show 1 < 2; decide
      rw [hgb] at P2
      unfold hTell at P2
      dsimp only at P2
      cases hfd : hFind cs c f2 with
      | none => rw [hfd] at P2; exact P2.elim
      | some w =>
        rw [hfd] at P2
        dsimp only at P2
        obtain ⟨e0, he0, ec⟩ := hFind_mem hfd
        have hA : C = Ad c := by
          have q := (D.cl e0 he0).m
          rw [ec] at q
          have := q.symm.trans hC
          cases this; rfl
        subst hA
        refine hears_cl (w := w) (by rfl) (by rfl) (by exact D.sc.nd) (by rfl) (by exact D.vn) (by exact .inl D.vn) D.dn hlen Ld hdd ?_ cs _ hho (by exact D.cl) (fun e he => ?_) hfd
        · cases w with
          | some x =>
            intro p hp
            have P3 : Post X W (okV X Q) r' H' (.ok (.tup [.str x, v]) st') := P2.mono e2 S2
            exact P3.newT S2 hp (by simp only [RepL]; exact ⟨_, _, rfl, by simp only [Rep], _, _, rfl, rv, rfl⟩)
          | none =>
            have P3 : Post X W (okV X Q) r' H' (.ok v st') := P2.mono e2 S2
            exact P3.val S2 rv
        · have := D.em e0 he0 e he
          rw [ec] at this
          exact this
  refine wpAny_call (codeAny_mono rc fun res s2 hq => ?_)
  cases res with
  | error e =>
    obtain ⟨_, _, _, _, _, _, _, _, _, _, _, _, z⟩ := hq
    exact z.elim
  | ok fw =>
    cases fw with
    | ret u => exact M.inv.after hq
    | next => exact False.elim hq
    | brk => exact False.elim hq
    | cont => exact False.elim hq
end Mi
namespace Mi
open PySem PySem.Spec PyProof.Rows L2
/-! ### the law is called, some tables of lambdas with it -/
/-- a def with lambdas: their name, its code, its table -/
structure Tb1 where
  q : Str
  cc : Addr
  P : Addr
abbrev tabSt (ts : List Tb1) : Store := ts.map fun t => .tb t.q t.P
theorem law_mTs {P : Program} {w : World} {K : PySem.W.Frag} {mg mb : Str → Option Value} {k : Nat} {fa a : Addr} {ts : List Tb1} {fd : FuncData} {x : Str} {g : List PV → M PV} {sh : Shared} {us : List Value} {ns : List Int} (KX : K.In sh.heap) (hns : sh.heap.Ns mainGlobals mg) (hb : sh.heap.Ns builtinsNs mb)
    (hbb : ∀ x : Str, x ≠ "__name__" → mb x = bootBuiltins x) (hlim : sh.heap.NoLimit) (hg : sh.gens = #[]) (ha : sh.heap.get? a = some { cls := .type "list", data := .seq us.toArray }) (hi : IntsAre us ns) (hl : ns.length ≤ sizeLine) (hr : Room k callerA)
    (hT : ∀ t ∈ ts, sh.heap.get? t.P = some { cls := .none, data := .fields #[] }) (nT : ∀ t ∈ ts, K.lookup t.P = none) (hC : ∀ t ∈ ts, PySem.W.CodeHd sh.heap t.cc t.P) (nd : (ts.map (·.P)).Nodup)
    (hbm : ∃ (bm : Addr) (ob : Obj), mg "__builtins__" = some (.ref bm) ∧ bm ≠ builtinsNs ∧ sh.heap.get? bm = some ob ∧ ob.cls = .type "module" ∧ ob.dict = some builtinsNs ∧ ob.data = .plain)
    (F : ∀ bs : Heap, K.In bs → bs.Ns mainGlobals mg → (∀ t ∈ ts, LamX.TabB bs mg t.cc t.P) → FnM P w K mg bs k fa fd [x] g) (hbind : ∀ (s : Shared) (u : Value), BindsTo s fd ⟨[u], []⟩ [(x, u)]) (hm : ∃ st, g [.kl (ns.map PV.int)] (tabSt ts) = .ok (.bl true) st) :
    codeAny (model P w) callerA (.call (.ref fa) ⟨[.ref a], []⟩) (fun r s' => r = .ok (.ret (.bool true)) ∧ OldK sh.heap s'.heap ∧ s'.os = sh.os ∧ AllBare s'.gens) sh := by
  have rv := vals_ints hi
  have lenU := hi.length
  have aP : ∀ t ∈ ts, a ≠ t.P := fun t h z => by
    have := hT t h
    rw [← z, ha] at this
    have := congrArg Obj.data (Option.some.inj this)
    cases this
  have inP : ∀ {b : Addr}, b ∈ ts.map (·.P) → sh.heap.get? b = some { cls := .none, data := .fields #[] } := fun {b} h => by
    obtain ⟨t, ht, rfl⟩ := List.mem_map.mp h
    exact hT t ht
  have aPs : a ∉ ts.map (·.P) := fun h => by
    obtain ⟨t, ht, e⟩ := List.mem_map.mp h
    exact aP t ht e.symm
  have main : ∀ H : Hp, (∀ b ∈ ts.map (·.P), H b = some (.tbl #[])) → (∀ b, b ∉ ts.map (·.P) → H b = none ∨ (b = a ∧ ∃ o xs, H b = some (.frz o (.lst xs)))) → SqR K H a (ns.map V.int) → HOk P w H sh.heap → (H a ≠ none → K.lookup a = none) →
      codeAny (model P w) callerA (.call (.ref fa) ⟨[.ref a], []⟩) (fun r s' => r = .ok (.ret (.bool true)) ∧ OldK sh.heap s'.heap ∧ s'.os = sh.os ∧ AllBare s'.gens) sh := fun H hP hO hS hok hK => by
    -- what is neither a list nor a table is not tracked
    have free : ∀ {b : Addr} {o : Obj}, sh.heap.get? b = some o → (∀ xs n, o.data ≠ .seq xs n) → o.data ≠ .fields #[] → H b = none := fun {b o} e d1 d2 => by
      have bP : b ∉ ts.map (·.P) := fun z => by rw [inP z] at e; cases e; exact d2 rfl
      rcases hO b bP with z | ⟨z, _⟩
      · exact z
      · rw [z, ha] at e
        cases e
        exact absurd rfl (d1 _ _)
    have nsT : ∀ {b : Addr} {m : Str → Option Value}, sh.heap.Ns b m → (hidT sh.heap H).Ns b m := fun {b m} ⟨o, es, ep, e, d, qq⟩ => by
      refine ⟨o, es, ep, hidT_get e (free e (fun xs n z => ?_) fun z => ?_), d, qq⟩
      · rw [d] at z; cases z
      · rw [d] at z; cases z
    have inT : K.In (hidT sh.heap H) := fun b o e => by
      have bP : b ∉ ts.map (·.P) := fun z => by
        obtain ⟨t, ht, rfl⟩ := List.mem_map.mp z
        rw [nT t ht] at e; cases e
      refine hidT_get (KX b o e) ?_
      rcases hO b bP with z | ⟨rfl, _, _, z⟩
      · exact z
      · rw [hK (by rw [z]; simp)] at e
        cases e
    have md : Mod K mg (hidT sh.heap H) := ⟨inT, nsT hns, ⟨mb, nsT hb, hbb⟩, let ⟨mc, h1, h2⟩ := hlim; ⟨mc, nsT h1, h2⟩⟩
    have tb : ∀ t ∈ ts, LamX.TabB (hidT sh.heap H) mg t.cc t.P := fun t ht => by
      refine ⟨?_, ?_, fun z => ?_⟩
      · obtain ⟨o, vs, file, tf, flags, tg, inF, text, tt, e1, r1, r2, r3, r4⟩ := hC t ht
        refine ⟨o, vs, file, tf, flags, tg, inF, text, tt, hidT_get e1 (free e1 (fun xs n z => ?_) fun z => ?_), r1, r2, r3, r4⟩
        · rw [r2] at z; cases z
        · rw [r2] at z; cases z; simp at r3
      · obtain ⟨bm, ob, b1, b2, b3, b4, b5, b6⟩ := hbm
        refine ⟨bm, ob, b1, b2, fun z => ?_, fun z => ?_, hidT_get b3 (free b3 (fun xs n z => ?_) fun z => ?_), b4, b5, b6⟩
        · obtain ⟨o, es, ep, e, hd, _⟩ := hns
          rw [z, e] at b3; cases b3; rw [hd] at b6; cases b6
        · rw [z, hT t ht] at b3; cases b3; cases b6
        · rw [b6] at z; cases z
        · rw [b6] at z; cases z
      · obtain ⟨o, es, ep, e, hd, _⟩ := hns
        rw [z, hT t ht] at e; cases e; cases hd
    have ev : Env0 P w K mg (hidT sh.heap H) callerA [] sh H := ⟨rfl, md, fun b o e => of_hidT e, Nat.le_of_eq (hidT_size _ _), trivial, fun b hb => absurd (show b ∈ ([] : List Addr) from hb) (by simp), hok, .of_eq hg⟩
    obtain ⟨st, hm⟩ := hm
    have sim : Sim K w (ts.map (·.P)) (tabSt ts) H := by
      refine ⟨by simp [tabSt], nd, fun i c b h1 h2 => ?_⟩
      rw [List.getElem?_map] at h1 h2
      cases ht : ts[i]? with
      | none => rw [ht] at h1; cases h1
      | some t =>
        rw [ht] at h1 h2
        cases h1; cases h2
        exact ⟨rfl, #[], hP _ (List.mem_map.mpr ⟨t, List.mem_of_getElem? ht, rfl⟩), True.intro, fun pos cv hc => by simp [codeAmong] at hc⟩
    have rep : RepL K (ts.map (·.P)) H [.kl (ns.map PV.int)] [.ref a] := RepL.one (rep_kl.mpr ⟨a, _, rfl, hS, repL_ints ns⟩)
    refine codeAny_mono ((F _ inT (nsT hns) tb).run callerA [] sh H ⟨[.ref a], []⟩ [.ref a] [.ref a] (fun v _ => v = .bl true) (fun _ _ _ => False) (ts.map (·.P)) (tabSt ts) [.kl (ns.map PV.int)] hr rfl ev (hbind sh (.ref a)) (.cons rfl .nil) rep rfl sim ?_) fun r s' h => ?_
    · rw [hm]
      exact fun r' H' v' _ _ qq => rep_bl.mp qq
    · cases r with
      | error e =>
        obtain ⟨_, _, _, _, _, _, _, _, _, _, _, _, z⟩ := (show L2.CX P w [] H sh (fun _ _ _ => False) e s' from h)
        exact z.elim
      | ok fl =>
        cases fl with
        | next => exact False.elim h
        | brk => exact False.elim h
        | cont => exact False.elim h
        | ret u =>
          obtain ⟨v, H', h1, h2, un, hok', rv', qq⟩ := h
          have qq' : v = .bl true := qq
          subst qq'
          obtain rfl : u = Value.bool true := rv'
          have keep : ∀ b o, b ∉ ts.map (·.P) → sh.heap.get? b = some o → s'.heap.get? b = some o := fun b o nb e => by
            rcases hO b nb with z | ⟨_, ob, xs, z⟩
            · exact un.keep b o e z (fun z => absurd (show b ∈ ([] : List Addr) from z) (by simp)) (by simp)
            · obtain ⟨e1, _⟩ := hok b _ z
              obtain ⟨e2, _⟩ := hok' b _ (un.frzs b ob _ z)
              rw [e] at e1; cases e1
              exact e2
          have grown : ∀ t ∈ ts, ∃ more, s'.heap.get? t.P = some { cls := .none, data := .fields more } := fun t ht => by
            obtain ⟨more, z⟩ := un.tbls t.P #[] (hP _ (List.mem_map.mpr ⟨t, ht, rfl⟩))
            have g : s'.heap.get? t.P = some { cls := .none, data := .fields (#[] ++ more) } := hok' t.P _ z
            rw [Array.empty_append] at g
            exact ⟨more, g⟩
          refine ⟨rfl, { old := fun b o e => ?_, there := fun b o e => ?_ }, h1, h2⟩
          · by_cases hbP : b ∈ ts.map (·.P)
            · obtain ⟨t, ht, rfl⟩ := List.mem_map.mp hbP
              obtain ⟨more, g⟩ := grown t ht
              rw [hT t ht] at e
              cases e
              exact .inr (.inl ⟨((hC t ht).tab (hT t ht)).isCodeTable, rfl, #[], more, rfl, by rw [Array.empty_append]; exact g⟩)
            · exact .inl (keep b o hbP e)
          · by_cases hbP : b ∈ ts.map (·.P)
            · obtain ⟨t, ht, rfl⟩ := List.mem_map.mp hbP
              obtain ⟨more, g⟩ := grown t ht
              exact ⟨_, g⟩
            · exact ⟨o, keep b o hbP e⟩
  cases hk : K.lookup a with
  | some o =>
    have e := KX a o hk
    rw [ha] at e
    cases e
    refine main (fun b => if b ∈ ts.map (·.P) then some (.tbl #[]) else none) (fun b h => if_pos h) (fun b nb => .inl (if_neg nb)) (.inr ⟨_, us.toArray, _, hk, rfl, rfl, rfl, by rw [List.size_toArray, lenU]; exact hl, by simpa using rv⟩) (fun b u z => ?_) fun z => absurd (if_neg aPs) z
    by_cases hbP : b ∈ ts.map (·.P)
    · cases (if_pos hbP).symm.trans z
      exact inP hbP
    · cases (if_neg hbP).symm.trans z
  | none =>
    refine main (fun b => if b ∈ ts.map (·.P) then some (.tbl #[]) else if b = a then some (.frz { cls := .type "list", data := .seq us.toArray } (.lst (ns.map V.int))) else none) (fun b h => if_pos h) (fun b nb => ?_) (.inl ⟨_, (if_neg aPs).trans (if_pos rfl)⟩) (fun b u z => ?_) fun _ => hk
    · by_cases qa : b = a
      · exact .inr ⟨qa, _, _, (if_neg nb).trans (if_pos qa)⟩
      · exact .inl ((if_neg nb).trans (if_neg qa))
    · by_cases hbP : b ∈ ts.map (·.P)
      · cases (if_pos hbP).symm.trans z
        exact inP hbP
      · have z := (if_neg hbP).symm.trans z
        by_cases qa : b = a
        · cases (if_pos qa).symm.trans z
          subst qa
          exact ⟨ha, by rw [List.length_map]; exact hl, us, _, rv, ha⟩
        · cases (if_neg qa).symm.trans z
/-- from the head to the mirror of the law, all tables with it -/
theorem walk_mTs {l : PySem.W.OpenLaw} {n k : Nat} {pr : Program} {loose : List Str} {XP : (Str → Option Value) → Heap → Prop} {YP : World → Heap → Prop} {d : DefRec} {x : Str} {qs : List Str} {g : List Addr → List PV → M PV} (hn : l.most = some n) (hn2 : n ≤ sizeLine) (hdf : d.params.defaults = []) (hr : Room k callerA)
    (F : ∀ (w : World) (mg : Str → Option Value) (fa : Addr) (h : Heap), YP w h → h.Ns mainGlobals mg → mg d.name = some (.ref fa) → ∃ (K : PySem.W.Frag) (fd : FuncData) (ts : List Tb1), ts.map (·.q) = qs ∧ (ts.map (·.P)).Nodup ∧ K.In h ∧ (∀ (s : Shared) (u : Value), BindsTo s fd ⟨[u], []⟩ [(x, u)]) ∧
      (∀ t ∈ ts, h.get? t.P = some { cls := .none, data := .fields #[] }) ∧ (∀ t ∈ ts, K.lookup t.P = none) ∧ (∀ t ∈ ts, PySem.W.CodeHd h t.cc t.P) ∧ ∀ bs : Heap, K.In bs → bs.Ns mainGlobals mg → (∀ t ∈ ts, LamX.TabB bs mg t.cc t.P) → FnM l.prog w K mg bs k fa fd [x] (g (ts.map (·.P))))
    (hm : ∀ (ts : List Tb1) (ns : List Int), ts.map (·.q) = qs → ns.length ≤ n → ∃ st, g (ts.map (·.P)) [.kl (ns.map PV.int)] (tabSt ts) = .ok (.bl true) st) : PySem.W.WalkO pr loose XP YP l.row.toRowW d [] (fun f vs => PySem.call f vs) := by
  refine Att.attach_call hn hdf fun w s0 sh mg mb fa o pm cd doc a us ns G Y ho hd hcd hmg hobj hints hlen hg => ?_
  obtain ⟨K, fd, ts, hq, nd, KX, hb, hT, nT, hC, hF⟩ := F w mg fa _ Y G.T.g hmg
  exact law_mTs KX G.T.g G.T.b G.T.builtins G.T.nolimit hg hobj hints (Nat.le_trans hlen hn2) hr hT nT hC nd G.T.bmain hF hb (hm ts ns hq hlen)
end Mi
namespace Mi
open PySem PySem.Spec PyProof.Rows L2
/-- where a def of the top stands, and its code -/
def LocC (K : PySem.W.Frag) (mg : Str → Option Value) (x : Str) (t : Stmt) (cc : Addr) : Prop := ∃ f fd, FunD K x x (defArgs t) (defBody t) (defScope t) [] [] f fd ∧ mg x = some (.ref f) ∧ fd.code = .ref cc
theorem Cal.ofC {P : Program} {w : World} {K : PySem.W.Frag} {mg : Str → Option Value} {base : Heap} {x : Str} {t : Stmt} {N ps : List Str} {k : Nat} {b : Ev → M Flw} {cc : Addr} (L : LocC K mg x t cc) (S : FnScope N ps (defScope t))
    (hb : ∀ (kV doc pm : Value) (an : Option Addr) (cdv ct : Value) (us : List Value), us.length = ps.length → bindArgs (PySem.W.fnOf x x (defArgs t) (defBody t) (defScope t) .none kV doc pm an cdv ct) ⟨us, []⟩ = pure (ps.zip us))
    (hbody : ∀ (f : Addr) (A : Around) (outer : List Env) (s : Shared) (H : Hp) (E : XK), Room k (A.deeper (envOfC x (defScope t) s.heap.objs.size f (.ref cc))) → A.guards = some [] →
      RSs (cxOf (L2.CX P w) P w K mg base N x (defScope t) f (.ref cc) A outer s H E) (defBody t) b) : Cal P w K mg base x (k + 1) ps (runB N.length b) := by
  obtain ⟨f, fd, F, hm, hc⟩ := L
  exact ⟨f, fd, FnM.ofC F S hc (hbody f), hm, F.kp, F.bindsN hb⟩
def xCall0 (g : List PV → M PV) : Ev → M PV := fun env => callM env (g [])
theorem c0 {X : Cx} {k j : Nat} {g : List PV → M PV} {x : Str} {p pos : Pos} (C : Cal X.prog X.w X.K X.mg X.base x k [] g) (hr : Room j X.A) (hgd : X.A.guards = some []) (hg : Gl X x) (hk : k ≤ j := by decide) (hdb : (x == ("__debug__" : Str)) = false := by decide) : RE X (.Call (.Name x p) [] [] pos) (xCall0 g) := by
  obtain ⟨f, fd, F, hm, kp, hb⟩ := C
  exact re_call0 F (hr.mono hk) hgd hg hm kp hb hdb
end Mi
namespace Mi
open PySem PySem.Spec PyProof.Rows L2
/-! ### min of a list of ints -/
def minI : Int → List Int → Int
  | m, [] => m
  | m, x :: xs => minI (if x < m then x else m) xs
theorem minI_le : ∀ (xs : List Int) (m : Int), minI m xs ≤ m ∧ (∀ y ∈ xs, minI m xs ≤ y) ∧ (minI m xs = m ∨ minI m xs ∈ xs)
  | [], m => ⟨Int.le_refl _, fun y h => by simp at h, .inl rfl⟩
  | x :: xs, m => by
    obtain ⟨h1, h2, h3⟩ := minI_le xs (if x < m then x else m)
    unfold minI
    refine ⟨?_, fun y hy => ?_, ?_⟩
    · split at h1 <;> split <;> omega
    · rcases List.mem_cons.mp hy with q | q
      · subst q; split at h1 <;> split <;> omega
      · exact h2 y q
    · rcases h3 with q | q
      · by_cases e : x < m
        · rw [if_pos e] at q ⊢; exact .inr (by rw [q]; exact List.mem_cons_self ..)
        · rw [if_neg e] at q ⊢; exact .inl q
      · exact .inr (List.mem_cons_of_mem _ q)
def minLV : List PV → M PV
  | [.loc n] => fun st => match getL n st with
    | some xs => match intsP xs with
      | some (i :: ns) => .ok (.int (minI i ns)) st
      | _ => .bad
    | none => .bad
  | _ => bad
section
variable {X : Cx}
theorem c_minL : RCV X minLV (rMin X.K) := by
  intro W r st H xs vs Q S rx P
  unfold minLV at P
  split at P
  · rename_i n
    obtain ⟨v, rfl, h1⟩ := repL1 rx
    obtain ⟨a, rfl, h2⟩ := rep_loc.mp h1
    cases e1 : getL n st with
    | none => rw [e1] at P; exact P.elim
    | some ys =>
      rw [e1] at P
      dsimp only at P
      split at P
      · rename_i i ns e2
        obtain ⟨b, us, q1, q2, q3⟩ := S.getL e1
        rw [h2] at q1; cases q1
        rw [intsP_eq e2] at q3
        rw [repL_ints_eq q3] at q2
        refine ⟨a, i :: ns, rfl, q2, by simp, fun m hm hl => ?_⟩
        obtain ⟨g1, g2, g3⟩ := minI_le ns i
        have e : m = minI i ns := by
          have a1 : minI i ns ≤ m := by
            rcases List.mem_cons.mp hm with q | q
            · subst q; exact g1
            · exact g2 m q
          have a2 : m ≤ minI i ns := by
            rcases g3 with q | q
            · rw [q]; exact hl i (List.mem_cons_self ..)
            · exact hl _ (List.mem_cons_of_mem _ q)
          omega
        rw [e]
        exact P.val S (rep_int.mpr rfl)
      · exact P.elim
  · exact P.elim
theorem b_minL {e : Expr} {es : List Expr} {g : Ev → M (List PV)} {p pos : Pos} (hc : X.calm = true) (hm : X.mg "min" = none) (hg : Gl X "min") (ha : RA X (e :: es) g) (he : starEach (e :: es) X.env = (false, eval e X.env) :: starEach es X.env := by rfl) (hpl : (backTo pos (starEach es X.env)).any (·.1) = false := by rfl) :
    RE X (.Call (.Name "min" p) (e :: es) [] pos) (xA minLV g) := re_callB (cr_min hc) c_minL hg hm boot_min' ha (by decide) (by decide) he hpl
end
end Mi
namespace Mi
open PySem PySem.Spec PyProof.Rows L2
/-! ### zip of a tuple and a list -/
def zipM : List PV → M Nx
  | [.tup xs, .loc n] => fun st => match getL n st with
    | some _ => .ok (nxZ (nxT xs) (nxL n)) st
    | none => .bad
  | _ => bad
/-- a tuple at a, a list at b, as both stand at each turn -/
def ItzM (K : PySem.W.Frag) (a b : Addr) : It where
  go := fun i H => ∃ (xs ys : List V) (x y : V), (SqT K H a xs ∧ xs[i]? = some x) ∧ SqL K H b ys ∧ ys[i]? = some y
  yld := fun i H v H' => ∃ T x y, v = .ref T ∧ (H T = none ∧ H' = upd H T (.tup [x, y])) ∧ (∀ us, SqT K H a us → us[i]? = some x) ∧ ∀ us, SqL K H b us → us[i]? = some y
  stop := fun i H => ∃ xs ys : List V, (SqT K H a xs ∧ SqL K H b ys) ∧ (xs.length ≤ i ∨ ys.length ≤ i)
/-- how a zip made behind n cells stands at turn i -/
def ZmAt (n a b : Addr) (i : Nat) (h : Heap) : Prop :=
  (IsZip h (n + 4) (n + 2) (n + 3) .none ∧ IsTupOf2 h (n + 2) (.ref n) (.ref (n + 1))) ∧ (∃ x y, IsTupOf2 h (n + 3) x y) ∧ h.IsTupleIter n a i ∧ h.IsListIter (n + 1) b i
theorem zmSep {n a b : Nat} (ha : a < n) (hb : b < n) : ZipSep2 (n + 4) (n + 2) (n + 3) n (n + 1) [n, a] [n + 1, b] := by
  constructor <;> simp <;> (try unfold Addr at *) <;> omega
theorem zmEnds {n c : Addr} : c ∈ [n + 4, n + 2, n + 3, n, n + 1] ↔ c = n + 4 ∨ c = n + 2 ∨ c = n + 3 ∨ c = n ∨ c = n + 1 := by simp
theorem zm_lt {n a b : Addr} {i : Nat} {h : Heap} (st : ZmAt n a b i h) : n + 4 < h.objs.size := Heap.lt_size st.1.1
/-- an iterator over a tuple as zip wants it: where it is at its end, it draws just that -/
theorem drT {prog : Program} {w : World} {A : Around} (hh : A.handled = none) {it t : Addr} (hne : t ≠ it) {us : Array Value} {i : Nat} {h : Heap} (q : h.IsTupleIter it t i) (p : h.IsTuple t us) :
    ∃ (m : Nat) (G : Nat → Value → Prop) (St : Nat → Heap → Prop), Draws prog w A it [it, t] m G St ∧ St i h ∧ i ≤ m ∧ (us[i]? = none → i = m) := by
  by_cases z : us[i]? = none
  · refine ⟨i, fun _ _ => True, fun j g => j = i ∧ g.IsTupleIter it t i ∧ g.IsTuple t us, ⟨fun j g st => ?_, fun j g g' st k => ?_, fun j s Q E lt st _ => absurd st.1 (Nat.ne_of_lt lt), fun s Q E st hE => ?_⟩, ⟨rfl, q, p⟩, Nat.le_refl _, fun _ => rfl⟩
    · obtain ⟨_, ⟨o, ho, _⟩, _⟩ := st; exact ⟨o, ho⟩
    · exact ⟨st.1, st.2.1.at (k it (by simp)), st.2.2.at (k t (by simp))⟩
    · exact RZ.nextOf_tuple_end hh st.2.1 st.2.2 z hE
  · have lt : i < us.size := Nat.lt_of_not_le fun c => z (by simp [c])
    exact ⟨_, _, _, Draws.tuple hh it t hne us, ⟨q, p⟩, Nat.le_of_lt lt, fun c => absurd c z⟩
/-- an iterator over a list as zip wants it -/
theorem drL {prog : Program} {w : World} {A : Around} (hh : A.handled = none) {it t : Addr} (hne : t ≠ it) {us : Array Value} {i : Nat} {h : Heap} (q : h.IsListIter it t i) (p : h.IsList t us) :
    ∃ (m : Nat) (G : Nat → Value → Prop) (St : Nat → Heap → Prop), Draws prog w A it [it, t] m G St ∧ St i h ∧ i ≤ m ∧ (us[i]? = none → i = m) := by
  by_cases z : us[i]? = none
  · refine ⟨i, fun _ _ => True, fun j g => j = i ∧ g.IsListIter it t i ∧ g.IsList t us, ⟨fun j g st => ?_, fun j g g' st k => ?_, fun j s Q E lt st _ => absurd st.1 (Nat.ne_of_lt lt), fun s Q E st hE => ?_⟩, ⟨rfl, q, p⟩, Nat.le_refl _, fun _ => rfl⟩
    · obtain ⟨_, ⟨o, ho, _⟩, _⟩ := st; exact ⟨o, ho⟩
    · exact ⟨st.1, st.2.1.at (k it (by simp)), st.2.2.at (k t (by simp))⟩
    · exact wpAny_nextOf_list_end hh st.2.1 st.2.2 z hE
  · have lt : i < us.size := Nat.lt_of_not_le fun c => z (by simp [c])
    exact ⟨_, _, _, Draws.list hh it t hne us, ⟨q, p⟩, Nat.le_of_lt lt, fun c => absurd c z⟩
theorem turn_zipM {P : Program} {w : World} {K : PySem.W.Frag} {elts : List Expr} {kk : Nat} {tpos : Pos} {n a b : Addr} (ha : a < n) (hb : b < n) :
    Turn P w K (.Tuple elts kk tpos) (ItzM K a b) [n + 4, n + 2, n + 3, n, n + 1] (n + 4) (ZmAt n a b) where
  mem := by simp
  obj := fun i h ⟨⟨q4, q2⟩, ⟨x, y, q3⟩, ⟨o0, e0, _, d0⟩, ⟨o1, e1, _, d1⟩⟩ c hc => by
    rcases zmEnds.mp hc with rfl | rfl | rfl | rfl | rfl
    · exact ⟨_, q4, fun v q => nomatch q⟩
    · exact ⟨_, q2, fun v q => nomatch q⟩
    · exact ⟨_, q3, fun v q => nomatch q⟩
    · exact ⟨o0, e0, fun v q => by rw [d0] at q; cases q⟩
    · exact ⟨o1, e1, fun v q => by rw [d1] at q; cases q⟩
  keep := fun i h h' ⟨⟨q4, q2⟩, ⟨x, y, q3⟩, q0, q1⟩ k =>
    ⟨⟨k _ (by simp) _ q4, k _ (by simp) _ q2⟩, ⟨x, y, k _ (by simp) _ q3⟩, q0.at (k _ (by simp)), q1.at (k _ (by simp))⟩
  item := by
    intro X hP hw hK hc i pins s σ H E I hf st ⟨xs, ys, x, y, ⟨hx1, hx2⟩, hy1, hy2⟩
    subst hP hw hK
    have hn := zm_lt st
    obtain ⟨us, ru, pu, _⟩ := I.tuple hx1
    obtain ⟨ws, rw', pw, _⟩ := I.list hy1
    obtain ⟨u, eu, ru1⟩ := ru.get hx2
    obtain ⟨v, ev, rv1⟩ := rw'.get hy2
    obtain ⟨⟨q4, q2⟩, ⟨x0, y0, q3⟩, q0, q1⟩ := st
    have pt : s.heap.IsTuple a us.toArray := pu
    have lu := (List.getElem?_eq_some_iff.mp eu).1
    have lv := (List.getElem?_eq_some_iff.mp ev).1
    refine wpAny_pyNext_zipD2_item (zmSep ha hb) (Draws.tuple (A := X.A.in1) (I.ok.hd hc) n a (Nat.ne_of_lt ha) us.toArray) (Draws.list (A := X.A.in1) (I.ok.hd hc) (n + 1) b (Nat.ne_of_lt (Nat.lt_succ_of_lt hb)) ws.toArray)
      q4 q2 q3 ⟨q0, pt⟩ ⟨q1, pw.isList⟩ (by simpa using lu) (by simpa using lv) fun x1 x2 h1 tk g1 g2 r4 r3 st1 st2 rT hz hk => ?_
    have e1 : x1 = u := by
      have := g1; simp only [List.getElem?_toArray] at this; rw [eu] at this; cases this; rfl
    have e2 : x2 = v := by
      have := g2; simp only [List.getElem?_toArray] at this; rw [ev] at this; cases this; rfl
    subst e1 e2
    refine ⟨_, rfl, wpAny_letOwnedTupleGo_zip (s := { s with heap := h1, toks := tk }) r4 fun h2 z2 sb => ?_⟩
    have up : ∀ c o, c ≠ n + 4 → h1.get? c = some o → h2.get? c = some o := fun c o e => (sb.2 c e).trans
    have nT : ObjOk X.prog X.w (upd H s.heap.objs.size (.tup [x, y])) h2 s.heap.objs.size (.tup [x, y]) :=
      ⟨by show 2 ≤ sizeLine; decide, [x1, x2], .cons ru1 (.cons rv1 .nil), ⟨_, up _ _ (by unfold Addr at *; omega) rT, rfl, _, rfl⟩⟩
    refine ⟨.ref s.heap.objs.size, _, I.turnedNew (t' := tk) (ch := [n + 4, n + 2, n + 3, n, n + 1]) (fun c o hm e => ?_) hf (Nat.le_refl _) nT, rfl,
      ⟨_, x, y, rfl, ⟨I.hok.fresh (Nat.le_refl _), rfl⟩, fun l hl => by rw [I.tuple_inj hl hx1]; exact hx2, fun l hl => by rw [I.list_inj hl hy1]; exact hy2⟩,
      ⟨⟨z2, up _ _ (by unfold Addr at *; omega) (hk _ _ (by unfold Addr at *; omega) (by unfold Addr at *; omega) (by unfold Addr at *; omega) (by unfold Addr at *; omega) q2)⟩, ⟨_, _, up _ _ (by unfold Addr at *; omega) r3⟩, st1.1.at fun o => up _ o (by unfold Addr at *; omega), st2.1.at fun o => up _ o (by unfold Addr at *; omega)⟩, fun c hm => ?_⟩
    · have hm' : ¬ (c = n + 4 ∨ c = n + 2 ∨ c = n + 3 ∨ c = n ∨ c = n + 1) := fun z => hm (zmEnds.mpr z)
      exact up c o (by unfold Addr at *; omega) (hk c o (by unfold Addr at *; omega) (by unfold Addr at *; omega) (by unfold Addr at *; omega) (by unfold Addr at *; omega) e)
    · have hlt : c < s.heap.objs.size := by rcases zmEnds.mp hm with z | z | z | z | z <;> (unfold Addr at *; omega)
      rw [upd_ne (Nat.ne_of_lt hlt)]
      exact (hf c hm).1
  done := by
    intro X hP hw hK hc i pins s σ H E I hf st ⟨xs, ys, ⟨hx1, hy1⟩, hend⟩
    subst hP hw hK
    have hn := zm_lt st
    obtain ⟨us, ru, pu, _⟩ := I.tuple hx1
    obtain ⟨ws, rw', pw, _⟩ := I.list hy1
    obtain ⟨⟨q4, q2⟩, ⟨x0, y0, q3⟩, q0, q1⟩ := st
    have pt : s.heap.IsTuple a us.toArray := pu
    obtain ⟨m1, G1, S1, D1, t1, l1, z1⟩ := drT (prog := X.prog) (w := X.w) (A := X.A.in1) (I.ok.hd hc) (Nat.ne_of_lt ha) q0 pt
    obtain ⟨m2, G2, S2, D2, t2, l2, z2⟩ := drL (prog := X.prog) (w := X.w) (A := X.A.in1) (I.ok.hd hc) (Nat.ne_of_lt (Nat.lt_succ_of_lt hb)) q1 pw.isList
    have g1 := ru.length
    have g2 := rw'.length
    refine wpAny_pyNext_zipD2_end (zmSep ha hb) D1 D2 q4 q2 q3 t1 t2 l1 l2 (hend.imp (fun z => z1 (by simp; omega)) fun z => z2 (by simp; omega)) fun h' tk hk => ⟨rfl, I.turnedL (t' := tk) (ch := [n + 4, n + 2, n + 3, n, n + 1]) (fun c o hm e => ?_) hf⟩
    have hm' : ¬ (c = n + 4 ∨ c = n + 2 ∨ c = n + 3 ∨ c = n ∨ c = n + 1) := fun z => hm (zmEnds.mpr z)
    exact hk c o (by unfold Addr at *; omega) (by unfold Addr at *; omega) (by unfold Addr at *; omega) (by unfold Addr at *; omega) e
  self := fun A i s Q E st h => wpAny_pyIter_zip st.1.1 h
/-- what zip of a tuple and a list walks -/
def iZipM (K : PySem.W.Frag) (ta : TA) : TI := fun σ H R => ta σ H fun vs H1 => ∃ a b xs ys, vs = [.ref a, .ref b] ∧ (SqT K H1 a xs ∧ SqL K H1 b ys) ∧ R (ItzM K a b) H1
theorem pi_zipM {X : Cx} {e e2 : Expr} {ta : TA} {p pos tpos : Pos} {elts : List Expr} {kk : Nat} (gz : Gl X "zip") (mz : X.mg "zip" = none) (pa : PA X [e, e2] ta)
    (hs : starEach [e, e2] X.env = (false, eval e X.env) :: starEach [e2] X.env := by rfl) (hb : (backTo pos (starEach [e2] X.env)).any (·.1) = false := by rfl) : PI X (.Tuple elts kk tpos) (.Call (.Name "zip" p) [e, e2] [] pos) (iZipM X.K ta) := by
  constructor
  intro pins s σ H R I h
  refine Call_ (ld_blt I gz mz PyProof.Rows.boot_zip (PyProof.Rows.callWith_type1 (thn (pa.run pos pins s σ H _ I h) fun us s1 ⟨vs, H1, I1, r1, a, b, xs, ys, ev, ⟨hx, hy⟩, q⟩ => ?_) hs hb))
  subst ev
  cases r1 with
  | cons r0 r1 =>
    cases r1 with
    | cons r2 r1 =>
      cases r1
      cases r0
      cases r2
      obtain ⟨ws1, _, p1, _⟩ := I1.tuple hx
      obtain ⟨ws2, _, p2, _⟩ := I1.list hy
      have pt : s1.heap.IsTuple a ws1.toArray := p1
      have la : a < s1.heap.objs.size := by obtain ⟨o, ho, _⟩ := id pt; exact Heap.lt_size ho
      refine zip_begins2 (begins_tuple a ws1.toArray) (begins_list b ws2.toArray) pt p2.isList fun h' z4 z2 z3 i0 i1 hz hk => wpAny_pyIter_zip z4 ?_
      refine ⟨s1.heap.objs.size + 4, _, _, _, H1, rfl, I1.kept (t' := s1.toks) hk, turn_zipM la p2.lt, ⟨⟨z4, z2⟩, ⟨_, _, z3⟩, ⟨_, i0, rfl, rfl⟩, ⟨_, i1, rfl, rfl⟩⟩, fun c hm => ?_, q⟩
      have hle : s1.heap.objs.size ≤ c := by rcases zmEnds.mp hm with z | z | z | z | z <;> (unfold Addr at *; omega)
      exact I1.fpOk hle (I1.hok.fresh hle)
section
variable {X : Cx}
theorem jok_zipM {r0 : List Addr} {H0 : Hp} {st0 : Store} {n : Nat} {a b : Addr} {xs : List PV} {vs : List V} (S0 : Sim X.K X.w r0 st0 H0) (h1 : SqT X.K H0 a vs) (h2 : RepL X.K r0 H0 xs vs) (h3 : r0[n]? = some b) :
    JOk X r0 H0 (ItzM X.K a b) (nxZ (nxT xs) (nxL n)) := by
  intro i r st H e S
  have k1 : SqT X.K H a vs := e.2 false _ _ h1
  have k2 := e.repL h2
  have k3 := e.get h3
  have none1 : ∀ v : PV, nxZ (nxT xs) (nxL n) i st = .stop → getL n st ≠ none := by
    intro v q c
    unfold nxZ nxT nxL at q
    rw [c] at q
    cases z : xs[i]? <;> rw [z] at q <;> cases q
  cases g : getL n st with
  | none =>
    refine ⟨fun q => absurd g (none1 .non q), fun v q => ?_⟩
    unfold nxZ nxT nxL at q
    rw [g] at q
    cases z : xs[i]? <;> rw [z] at q <;> cases q
  | some ys =>
    obtain ⟨b', ws, p1, p2, p3⟩ := S.getL g
    rw [k3] at p1; cases p1
    have ez : nxZ (nxT xs) (nxL n) i st = match xs[i]?, ys[i]? with
        | some x, some y => .item (.tup [x, y])
        | _, _ => .stop := by
      unfold nxZ nxT nxL
      rw [g]
      dsimp only
      cases xs[i]? <;> cases ys[i]? <;> rfl
    rw [ez]
    cases z1 : xs[i]? with
    | none => exact ⟨fun _ => ⟨vs, ws, ⟨k1, p2⟩, .inl (by rw [← k2.length]; exact List.getElem?_eq_none_iff.mp z1)⟩, fun v q => nomatch q⟩
    | some x =>
      cases z2 : ys[i]? with
      | none => exact ⟨fun _ => ⟨vs, ws, ⟨k1, p2⟩, .inr (by rw [← p3.length]; exact List.getElem?_eq_none_iff.mp z2)⟩, fun v q => nomatch q⟩
      | some y =>
        obtain ⟨x', e1, e2⟩ := k2.get z1
        obtain ⟨y', e3, e4⟩ := p3.get z2
        refine ⟨fun q => (nomatch q), fun v q => ?_⟩
        cases q
        refine ⟨?goA, fun u H' q => ?_⟩
        case goA => exact ⟨vs, ws, x', y', ⟨k1, e1⟩, p2, e3⟩
        obtain ⟨T, x2, y2, eu, ⟨hT, eH⟩, f1, f2⟩ := q
        subst eu eH
        have c1 := f1 vs k1
        have c2 := f2 ws p2
        rw [e1] at c1; cases c1
        rw [e3] at c2; cases c2
        exact new_pair S hT e2 e4
theorem ri_zipM {e e2 : Expr} {g : Ev → M (List PV)} {p pos tpos : Pos} {elts : List Expr} {kk : Nat} (hg : Gl X "zip") (hm : X.mg "zip" = none) (ha : RA X [e, e2] g)
    (hs : starEach [e, e2] X.env = (false, eval e X.env) :: starEach [e2] X.env := by rfl) (hb : (backTo pos (starEach [e2] X.env)).any (·.1) = false := by rfl) : RI X (.Tuple elts kk tpos) (.Call (.Name "zip" p) [e, e2] [] pos) (xRng zipM g) := by
  intro W tk r st s H env R E S P
  refine w_pi (pi_zipM hg hm pa_w hs hb) ?_
  refine ha.seq tk E S P fun r1 st1 H1 xs xs' e1 E1 S1 rx P1 => ?_
  unfold zipM at P1
  split at P1
  · split at P1
    · rename_i g1
      obtain ⟨v, w, rfl, q1, q2⟩ := repL2 rx
      obtain ⟨a, vs, rfl, q3, q4⟩ := rep_tup.mp q1
      obtain ⟨b, rfl, q5⟩ := rep_loc.mp q2
      obtain ⟨b', ws, p1, p2, p3⟩ := S1.getL g1
      rw [q5] at p1; cases p1
      exact ⟨a, b, vs, ws, rfl, ⟨q3, p2⟩, Post.now P1 S1 _ (jok_zipM S1 q3 q4 q5)⟩
    · exact P1.elim
  · exact P1.elim
end
end Mi
namespace Lw
/-! ### sorted lists of numbers -/
theorem ratlt {a b c : Rat} (h : a < b) (k : b < c) : a < c := by
  have h1 := Rat.le_trans (Rat.le_of_lt h) (Rat.le_of_lt k)
  refine Rat.lt_of_le_of_ne h1 fun e => ?_
  subst e
  exact absurd (Rat.le_of_lt k) (Rat.not_le.mpr h)
def Asc (xs : List Rat) : Prop := xs.Pairwise (· < ·)
theorem asc_unique : ∀ {xs ys : List Rat}, Asc xs → Asc ys → (∀ x, x ∈ xs ↔ x ∈ ys) → xs = ys
  | [], [], _, _, _ => rfl
  | [], y :: ys, _, _, h => absurd ((h y).mpr (by simp)) (by simp)
  | x :: xs, [], _, _, h => absurd ((h x).mp (by simp)) (by simp)
  | x :: xs, y :: ys, hx, hy, h => by
    have hx' := List.pairwise_cons.mp hx
    have hy' := List.pairwise_cons.mp hy
    have e : x = y := by
      have h1 := (h x).mp (by simp)
      have h2 := (h y).mpr (by simp)
      rcases List.mem_cons.mp h1 with z | z
      · exact z
      · rcases List.mem_cons.mp h2 with w | w
        · exact w.symm
        · have a := hy'.1 x z
          have b := hx'.1 y w
          exact absurd (ratlt a b) (Rat.lt_irrefl)
    subst e
    have : xs = ys := asc_unique hx'.2 hy'.2 fun z => by
      have hz := h z
      simp only [List.mem_cons] at hz
      constructor
      · intro m
        have := hz.mp (.inr m)
        rcases this with w | w
        · subst w; exact absurd (hx'.1 z m) Rat.lt_irrefl
        · exact w
      · intro m
        have := hz.mpr (.inr m)
        rcases this with w | w
        · subst w; exact absurd (hy'.1 z m) Rat.lt_irrefl
        · exact w
    rw [this]
/-- where it belongs -/
def spotR (got : List Rat) (q : Rat) : Nat := (got.filter fun x => decide (x < q)).length
def insR (got : List Rat) (q : Rat) : List Rat := if q ∈ got then got else got.take (spotR got q) ++ [q] ++ got.drop (spotR got q)
def sortR (qs : List Rat) : List Rat := qs.foldl insR []
theorem spot_le (got : List Rat) (q : Rat) : spotR got q ≤ got.length := List.length_filter_le _ _
theorem asc_cut : ∀ {got : List Rat} {q : Rat}, Asc got → (∀ x ∈ got.take (spotR got q), x < q) ∧ ∀ x ∈ got.drop (spotR got q), ¬ x < q
  | [], q, _ => by simp [spotR]
  | x :: xs, q, h => by
    have h' := List.pairwise_cons.mp h
    have ih := asc_cut (got := xs) (q := q) h'.2
    by_cases hx : x < q
    · have e : spotR (x :: xs) q = spotR xs q + 1 := by simp [spotR, List.filter_cons, hx]
      rw [e]
      simp only [List.take_succ_cons, List.drop_succ_cons]
      refine ⟨fun y hy => ?_, ih.2⟩
      rcases List.mem_cons.mp hy with z | z
      · rw [z]; exact hx
      · exact ih.1 y z
    · have e : spotR (x :: xs) q = 0 := by
        unfold spotR
        rw [List.length_eq_zero_iff, List.filter_eq_nil_iff]
        intro y hy
        rcases List.mem_cons.mp hy with z | z
        · rw [z]; simpa using hx
        · have := h'.1 y z
          simp only [decide_eq_true_eq]
          exact fun w => hx (ratlt this w)
      rw [e]
      simp only [List.take_zero, List.drop_zero]
      refine ⟨by simp, fun y hy => ?_⟩
      rcases List.mem_cons.mp hy with z | z
      · rw [z]; exact hx
      · have := h'.1 y z
        exact fun w => hx (ratlt this w)
theorem rat_lt_of {a b : Rat} (h : ¬ b < a) (n : b ≠ a) : a < b := by
  have := Rat.not_lt.mp h
  exact Rat.lt_of_le_of_ne this fun z => n z.symm
theorem insR_spec {got : List Rat} (q : Rat) (h : Asc got) : Asc (insR got q) ∧ ∀ x, x ∈ insR got q ↔ x = q ∨ x ∈ got := by
  unfold insR
  by_cases hq : q ∈ got
  · rw [if_pos hq]
    exact ⟨h, fun x => ⟨.inr, fun z => z.elim (fun w => w ▸ hq) id⟩⟩
  · rw [if_neg hq]
    have c := asc_cut (q := q) h
    have mem : ∀ x, x ∈ got.take (spotR got q) ∨ x ∈ got.drop (spotR got q) ↔ x ∈ got := fun x => by
      rw [← List.mem_append, List.take_append_drop]
    refine ⟨?_, fun x => ?_⟩
    · unfold Asc
      have h2 : (got.take (spotR got q) ++ got.drop (spotR got q)).Pairwise (· < ·) := by rw [List.take_append_drop]; exact h
      have h3 := List.pairwise_append.mp h2
      rw [List.append_assoc, List.pairwise_append]
      refine ⟨h3.1, ?_, ?_⟩
      · rw [List.singleton_append, List.pairwise_cons]
        exact ⟨fun y hy => rat_lt_of (c.2 y hy) fun z => hq (z ▸ (mem y).mp (.inr hy)), h3.2.1⟩
      · intro a ha b hb
        rw [List.singleton_append] at hb
        rcases List.mem_cons.mp hb with z | z
        · rw [z]; exact c.1 a ha
        · exact h3.2.2 a ha b z
    · simp only [List.mem_append, List.mem_singleton]
      constructor
      · rintro ((z | z) | z)
        · exact .inr ((mem x).mp (.inl z))
        · exact .inl z
        · exact .inr ((mem x).mp (.inr z))
      · rintro (z | z)
        · exact .inl (.inr z)
        · rcases (mem x).mpr z with w | w
          · exact .inl (.inl w)
          · exact .inr w
theorem fold_ins : ∀ (qs : List Rat) (got : List Rat), Asc got → Asc (qs.foldl insR got) ∧ ∀ x, x ∈ qs.foldl insR got ↔ x ∈ got ∨ x ∈ qs
  | [], got, h => ⟨h, by simp⟩
  | q :: qs, got, h => by
    have s := insR_spec q h
    have f := fold_ins qs (insR got q) s.1
    refine ⟨f.1, fun x => ?_⟩
    rw [List.foldl_cons, f.2 x, s.2 x, List.mem_cons]
    constructor
    · rintro ((z | z) | z)
      · exact .inr (.inl z)
      · exact .inl z
      · exact .inr (.inr z)
    · rintro (z | z | z)
      · exact .inl (.inr z)
      · exact .inl (.inl z)
      · exact .inr z
theorem sortR_asc (qs : List Rat) : Asc (sortR qs) := (fold_ins qs [] List.Pairwise.nil).1
theorem sortR_mem (qs : List Rat) (x : Rat) : x ∈ sortR qs ↔ x ∈ qs := by
  have := (fold_ins qs [] List.Pairwise.nil).2 x
  simpa [sortR] using this
theorem insR_len (got : List Rat) (q : Rat) : (insR got q).length ≤ got.length + 1 := by
  unfold insR
  split
  · omega
  · have := spot_le got q
    simp; omega
theorem fold_ins_len : ∀ (qs : List Rat) (got : List Rat), (qs.foldl insR got).length ≤ got.length + qs.length
  | [], got => by simp
  | q :: qs, got => by
    have h1 := insR_len got q
    have h2 := fold_ins_len qs (insR got q)
    simp only [List.foldl_cons, List.length_cons]
    omega
theorem sortR_len (qs : List Rat) : (sortR qs).length ≤ qs.length := by simpa [sortR] using fold_ins_len qs []
theorem sortR_of_asc {qs : List Rat} (h : Asc qs) : sortR qs = qs := asc_unique (sortR_asc qs) h (sortR_mem qs)
theorem sortR_eq {qs ys : List Rat} (h : Asc ys) (m : ∀ x, x ∈ ys ↔ x ∈ qs) : ys = sortR qs := asc_unique h (sortR_asc qs) fun x => (m x).trans (sortR_mem qs x).symm
/-! ### two ascending lists as one -/
/-- those of others that stand ahead of one -/
def upTo (others : List Rat) (one : Rat) : List Rat := others.takeWhile fun x => decide (x < one)
def mergeR : List Rat → List Rat → List Rat
  | [], ys => ys
  | x :: xs, ys => (ys.takeWhile fun y => decide (y < x)) ++ x :: mergeR xs (ys.dropWhile fun y => decide (y < x))
theorem dropWhile_asc {ys : List Rat} (p : Rat → Bool) (h : Asc ys) : Asc (ys.dropWhile p) := h.sublist (List.dropWhile_sublist p)
theorem dw_ge : ∀ {ys : List Rat} {x : Rat}, Asc ys → ∀ y ∈ ys.dropWhile (fun y => decide (y < x)), ¬ y < x
  | [], x, _, y, h => by simp at h
  | z :: ys, x, h, y, hy => by
    have h' := List.pairwise_cons.mp h
    by_cases hz : z < x
    · rw [List.dropWhile_cons_of_pos (by simpa using hz)] at hy
      exact dw_ge h'.2 y hy
    · rw [List.dropWhile_cons_of_neg (by simpa using hz)] at hy
      rcases List.mem_cons.mp hy with w | w
      · rw [w]; exact hz
      · exact fun q => hz (ratlt (h'.1 y w) q)
theorem tw_lt : ∀ {ys : List Rat} {x : Rat}, ∀ y ∈ ys.takeWhile (fun y => decide (y < x)), y < x
  | [], x, y, h => by simp at h
  | z :: ys, x, y, hy => by
    by_cases hz : z < x
    · rw [List.takeWhile_cons_of_pos (by simpa using hz)] at hy
      rcases List.mem_cons.mp hy with w | w
      · rw [w]; exact hz
      · exact tw_lt y w
    · rw [List.takeWhile_cons_of_neg (by simpa using hz)] at hy
      simp at hy
theorem mergeR_mem : ∀ (xs ys : List Rat) (z : Rat), z ∈ mergeR xs ys ↔ z ∈ xs ∨ z ∈ ys
  | [], ys, z => by simp [mergeR]
  | x :: xs, ys, z => by
    have e : z ∈ ys ↔ z ∈ (ys.takeWhile fun y => decide (y < x)) ∨ z ∈ ys.dropWhile (fun y => decide (y < x)) := by
      rw [← List.mem_append, List.takeWhile_append_dropWhile]
    simp only [mergeR, List.mem_append, List.mem_cons, mergeR_mem xs _ z]
    rw [e]
    constructor
    · rintro (h | h | h | h) <;> simp [h]
    · rintro ((h | h) | h | h) <;> simp [h]
theorem mergeR_asc : ∀ (xs ys : List Rat), Asc xs → Asc ys → (∀ x ∈ xs, x ∉ ys) → Asc (mergeR xs ys)
  | [], ys, _, hy, _ => hy
  | x :: xs, ys, hx, hy, hd => by
    have hx' := List.pairwise_cons.mp hx
    have dsub := List.dropWhile_sublist (l := ys) (fun y => decide (y < x))
    have ih := mergeR_asc xs (ys.dropWhile fun y => decide (y < x)) hx'.2 (dropWhile_asc _ hy) fun z hz q => hd z (List.mem_cons_of_mem _ hz) (dsub.subset q)
    unfold mergeR Asc
    rw [List.pairwise_append]
    have hgt : ∀ b ∈ mergeR xs (ys.dropWhile fun y => decide (y < x)), x < b := fun b hb => by
      rcases (mergeR_mem _ _ _).mp hb with z | z
      · exact hx'.1 b z
      · exact rat_lt_of (dw_ge hy b z) fun w => hd x (by simp) (w ▸ dsub.subset z)
    refine ⟨hy.sublist (List.takeWhile_sublist _), List.pairwise_cons.mpr ⟨hgt, ih⟩, fun a ha b hb => ?_⟩
    have hax := tw_lt a ha
    rcases List.mem_cons.mp hb with z | z
    · rw [z]; exact hax
    · exact ratlt hax (hgt b z)
theorem mergeR_len : ∀ (xs ys : List Rat), (mergeR xs ys).length = xs.length + ys.length
  | [], ys => by simp [mergeR]
  | x :: xs, ys => by
    have e : ys.length = (ys.takeWhile fun y => decide (y < x)).length + (ys.dropWhile fun y => decide (y < x)).length := by
      rw [← List.length_append, List.takeWhile_append_dropWhile]
    simp only [mergeR, List.length_append, List.length_cons, mergeR_len xs]
    omega
/-! ### sums -/
def sumR (qs : List Rat) : Rat := qs.foldl (· + ·) 0
theorem fold_add (a : Rat) : ∀ qs : List Rat, qs.foldl (· + ·) a = a + qs.foldl (· + ·) 0
  | [] => by simp [Rat.add_zero]
  | q :: qs => by
    simp only [List.foldl_cons]
    rw [fold_add (a + q) qs, fold_add (0 + q) qs, Rat.zero_add, Rat.add_assoc]
theorem sumR_cons (q : Rat) (qs : List Rat) : sumR (q :: qs) = q + sumR qs := by
  unfold sumR
  rw [List.foldl_cons, fold_add, Rat.zero_add]
theorem sumR_nil : sumR [] = 0 := rfl
theorem sumR_one (q : Rat) : sumR [q] = q := by rw [sumR_cons, sumR_nil, Rat.add_zero]
theorem sumR_append : ∀ (xs ys : List Rat), sumR (xs ++ ys) = sumR xs + sumR ys
  | [], ys => by simp [sumR_nil, Rat.zero_add]
  | x :: xs, ys => by rw [List.cons_append, sumR_cons, sumR_cons, sumR_append xs ys, Rat.add_assoc]
/-- two by two -/
def pairR (f : Rat → Rat → Rat) : List Rat → List Rat
  | x :: y :: xs => f x y :: pairR f xs
  | _ => []
end Lw
namespace Lw
open PySem PySem.Spec L2 Mi
def p_NOUGHT : List PV := [.int (0), .int (1)]
def m_added : List PV → M PV := runB 10 (sSeq (sAsg (xVar 0) (tgTup 2 (tgCons (gSet 2) (tgCons (gSet 3) tgNil))))
  (sSeq (sAsg (xVar 1) (tgTup 2 (tgCons (gSet 4) (tgCons (gSet 5) tgNil))))
  (sSeq (sAsg (xA gcdV (aCons (xVar 3) (aCons (xVar 5) aNil))) (gSet 6))
  (sSeq (sAsg (x2 fdivV (xVar 3) (xVar 6)) (gSet 7))
  (sSeq (sAsg (x2 addV (x2 mulV (xVar 2) (x2 fdivV (xVar 5) (xVar 6))) (x2 mulV (xVar 4) (xVar 7))) (gSet 8))
  (sSeq (sAsg (xA gcdV (aCons (xVar 8) (aCons (xVar 6) aNil))) (gSet 9))
  (sRet (xA tupV (aCons (x2 fdivV (xVar 8) (xVar 9)) (aCons (x2 mulV (xVar 7) (x2 fdivV (xVar 5) (xVar 9))) aNil))))))))))
def m_is_under : List PV → M PV := runB 2 (sRet (x2 ltV (x2 mulV (x2 ixA (xVar 0) (xC (.int (0)))) (x2 ixA (xVar 1) (xC (.int (1))))) (x2 mulV (x2 ixA (xVar 1) (xC (.int (0)))) (x2 ixA (xVar 0) (xC (.int (1)))))))
def m_added_up : List PV → M PV := runB 4 (sSeq (sAsg (xA listA (aCons (xVar 0) aNil)) (gSet 1))
  (sSeq (sWhile (asB (x2 gtV (xA lenV (aCons (xVar 1) aNil)) (xC (.int (1)))))
  (sSeq (sAsg (xLc fu [3] (xRng rng3 (aCons (xC (.int (0))) (aCons (x2 subV (xA lenV (aCons (xVar 1) aNil)) (xC (.int (1)))) (aCons (xC (.int (2))) aNil)))) (gSet 3) bYes (xCallN 2 m_added (aCons (x2 ixA (xVar 1) (xVar 3)) (aCons (x2 ixA (xVar 1) (x2 addV (xVar 3) (xC (.int (1))))) aNil)))) (gSet 2))
  (sAsg (x2 addV (xVar 2) (xSl (xVar 1) (oSome (x2 mulV (xC (.int (2))) (xA lenV (aCons (xVar 2) aNil)))) oNone)) (gSet 1))) fu)
  (sRet (vIf (xTru (xVar 1)) (x2 ixA (xVar 1) (xC (.int (0)))) (xC (.tup p_NOUGHT))))))
def m_merged : List PV → M PV := runB 5 (sSeq (sAsg (xA lstV aNil) (gSet 2))
  (sSeq (sAsg (xC (.int (0))) (gSet 3))
  (sSeq (sFor fu (xIt (xVar 0)) (gSet 4)
  (sSeq (sWhile (bAnd (asB (x2 ltV (xVar 3) (xA lenV (aCons (xVar 1) aNil)))) (xTru (xCallN 2 m_is_under (aCons (x2 ixA (xVar 1) (xVar 3)) (aCons (xVar 4) aNil)))))
  (sSeq (sEx (xMt appV (xVar 2) (aCons (x2 ixA (xVar 1) (xVar 3)) aNil)))
  (sAug addI 3 (xC (.int (1))))) fu)
  (sEx (xMt appV (xVar 2) (aCons (xVar 4) aNil)))))
  (sRet (x2 addV (xVar 2) (xSl (xVar 1) (oSome (xVar 3)) oNone))))))
def m_in_order : List PV → M PV := runB 5 (sSeq (sAsg (xLc fu [3] (xIt (xVar 0)) (gSet 3) bYes (xA lstV (aCons (xVar 3) aNil))) (gSet 1))
  (sSeq (sWhile (asB (x2 gtV (xA lenV (aCons (xVar 1) aNil)) (xC (.int (1)))))
  (sSeq (sAsg (xLc fu [4] (xRng rng3 (aCons (xC (.int (0))) (aCons (x2 subV (xA lenV (aCons (xVar 1) aNil)) (xC (.int (1)))) (aCons (xC (.int (2))) aNil)))) (gSet 4) bYes (xCallN 2 m_merged (aCons (x2 ixA (xVar 1) (xVar 4)) (aCons (x2 ixA (xVar 1) (x2 addV (xVar 4) (xC (.int (1))))) aNil)))) (gSet 2))
  (sAsg (x2 addV (xVar 2) (xSl (xVar 1) (oSome (x2 mulV (xC (.int (2))) (xA lenV (aCons (xVar 2) aNil)))) oNone)) (gSet 1))) fu)
  (sRet (vIf (xTru (xVar 1)) (x2 ixA (xVar 1) (xC (.int (0)))) (xA lstV aNil)))))
def m_unlike_in_order : List PV → M PV := runB 2 (sRet (xCallN 1 m_in_order (aCons (xA listA (aCons (xDc fu [1] (xIt (xVar 0)) (gSet 1) bYes (xVar 1) (xC (.bl true))) aNil)) aNil)))
def m_is_integer : List PV → M PV := runB 1 (sRet (vAnd (x1 (isiV "int") (xVar 0)) (vNot (x1 (isiV "bool") (xVar 0)))))
def m_is_row : List PV → M PV := runB 2 (sRet (vAnd (x1 (isiV "tuple") (xVar 0)) (x2 (eqP false) (xA lenV (aCons (xVar 0) aNil)) (xVar 1))))
def m_is_row_within : List PV → M PV := runB 3 (sRet (vAnd (x1 (isiV "tuple") (xVar 0)) (vChain leV leV (xVar 1) (xA lenV (aCons (xVar 0) aNil)) (xVar 2))))
def m_is_called : List PV → M PV := runB 3 (sRet (vAnd (xCallN 2 m_is_row (aCons (xVar 0) (aCons (xVar 2) aNil))) (vAnd (x1 (isiV "str") (x2 ixA (xVar 0) (xC (.int (0))))) (x2 (eqP false) (x2 ixA (xVar 0) (xC (.int (0)))) (xVar 1)))))
def m_is_fraction : List PV → M PV := runB 3 (sSeq (sIf (bOr (bNot (xTru (x1 (isiV "tuple") (xVar 0)))) (asB (x2 (eqP true) (xA lenV (aCons (xVar 0) aNil)) (xC (.int (2))))))
  (sRet (xC (.bl false)))
  sNop)
  (sSeq (sAsg (xVar 0) (tgTup 2 (tgCons (gSet 1) (tgCons (gSet 2) tgNil))))
  (sSeq (sIf (bOr (bNot (xTru (x1 (isiV "int") (xVar 1)))) (bNot (xTru (x1 (isiV "int") (xVar 2)))))
  (sRet (xC (.bl false)))
  sNop)
  (sSeq (sIf (bOr (xTru (x1 (isiV "bool") (xVar 1))) (xTru (x1 (isiV "bool") (xVar 2))))
  (sRet (xC (.bl false)))
  sNop)
  (sRet (vAnd (x2 gtV (xVar 2) (xC (.int (0)))) (vOr (x2 (eqP false) (xVar 2) (xC (.int (1)))) (x2 (eqP false) (xA gcdV (aCons (xVar 1) (aCons (xVar 2) aNil))) (xC (.int (1)))))))))))
def m_is_weight : List PV → M PV := runB 1 (sRet (vAnd (xCallN 1 m_is_fraction (aCons (xVar 0) aNil)) (x2 gtV (x2 ixA (xVar 0) (xC (.int (0)))) (xC (.int (0))))))
def m_is_price : List PV → M PV := runB 1 (sRet (vAnd (xCallN 1 m_is_fraction (aCons (xVar 0) aNil)) (x2 geV (x2 ixA (xVar 0) (xC (.int (0)))) (xC (.int (0))))))
def mr_copied : Nat → List PV → M PV
  | 0 => fun _ => bad
  | j + 1 => runB 2 (sSeq (sIf (xTru (x1 (isiV "tuple") (xVar 0)))
  (sRet (xA tupleV (aCons (xLc fu [1] (xIt (xVar 0)) (gSet 1) bYes (vIf (bAnd (xTru (x1 (isiV "int") (xVar 1))) (bNot (xTru (x1 (isiV "bool") (xVar 1))))) (xA intV (aCons (xVar 1) aNil)) (xCallN 1 (mr_copied j) (aCons (xVar 1) aNil)))) aNil)))
  sNop)
  (sRet (vIf (xTru (xCallN 1 m_is_integer (aCons (xVar 0) aNil))) (xA intV (aCons (xVar 0) aNil)) (xVar 0))))
def m_copied : List PV → M PV := mr_copied 6
def m_is_piece : List PV → M PV := runB 1 (sSeq (sIf (xTru (xCallN 3 m_is_called (aCons (xVar 0) (aCons (xC (.str "mark")) (aCons (xC (.int (3))) aNil)))))
  (sRet (vAnd (xCallN 1 m_is_fraction (aCons (x2 ixA (xVar 0) (xC (.int (1)))) aNil)) (xCallN 1 m_is_price (aCons (x2 ixA (xVar 0) (xC (.int (2)))) aNil))))
  sNop)
  (sSeq (sIf (bNot (xTru (xCallN 3 m_is_called (aCons (xVar 0) (aCons (xC (.str "stretch")) (aCons (xC (.int (4))) aNil))))))
  (sRet (xC (.bl false)))
  sNop)
  (sSeq (sIf (bOr (bNot (xTru (xCallN 1 m_is_fraction (aCons (x2 ixA (xVar 0) (xC (.int (1)))) aNil)))) (bOr (bNot (xTru (xCallN 1 m_is_fraction (aCons (x2 ixA (xVar 0) (xC (.int (2)))) aNil)))) (bNot (xTru (xCallN 1 m_is_price (aCons (x2 ixA (xVar 0) (xC (.int (3)))) aNil))))))
  (sRet (xC (.bl false)))
  sNop)
  (sRet (xCallN 2 m_is_under (aCons (x2 ixA (xVar 0) (xC (.int (1)))) (aCons (x2 ixA (xVar 0) (xC (.int (2)))) aNil)))))))
def m_sure_score : List PV → M PV := runB 3 (sSeq (sIf (bNot (xTru (xCallN 3 m_is_row_within (aCons (xVar 0) (aCons (xC (.int (0))) (aCons (xC (.int (10))) aNil))))))
  (sRaise "BadScore" "number" (aCons (xC .non) aNil))
  sNop)
  (sSeq (sFor fu (xRng enuI (aCons (xVar 0) aNil)) (tgTup 2 (tgCons (gSet 1) (tgCons (gSet 2) tgNil)))
  (sIf (bNot (xTru (xCallN 1 m_is_piece (aCons (xVar 2) aNil))))
  (sRaise "BadScore" "number" (aCons (xVar 1) aNil))
  sNop))
  (sRet (xCallN 1 m_copied (aCons (xVar 0) aNil)))))
def m_marked : List PV → M PV := runB 4 (sSeq (sAsg xDNew (gSet 1))
  (sSeq (sFor fu (xIt (xVar 0)) (gSet 2)
  (sIf (asB (x2 (eqP false) (x2 ixA (xVar 2) (xC (.int (0)))) (xC (.str "mark"))))
  (sAsg (xCallN 2 m_added (aCons (xGet (xVar 1) (x2 ixA (xVar 2) (xC (.int (1)))) (xC (.tup p_NOUGHT))) (aCons (x2 ixA (xVar 2) (xC (.int (2)))) aNil))) (tgSubA (xVar 1) (x2 ixA (xVar 2) (xC (.int (1))))))
  sNop))
  (sRet (xLc fu [3] (xIt (xCallN 1 m_in_order (aCons (xA listA (aCons (xVar 1) aNil)) aNil))) (gSet 3) (asB (x2 (eqP true) (x2 ixA (xVar 1) (xVar 3)) (xC (.tup p_NOUGHT)))) (xA tupV (aCons (xC (.str "mark")) (aCons (xVar 3) (aCons (x2 ixA (xVar 1) (xVar 3)) aNil))))))))
def m_price_over : List PV → M PV := runB 4 (sRet (xCallN 1 m_added_up (aCons (xLc fu [3] (xIt (xVar 0)) (gSet 3) (bAnd (asB (x2 (eqP false) (x2 ixA (xVar 3) (xC (.int (0)))) (xC (.str "stretch")))) (bAnd (bNot (xTru (xCallN 2 m_is_under (aCons (xVar 1) (aCons (x2 ixA (xVar 3) (xC (.int (1)))) aNil))))) (bNot (xTru (xCallN 2 m_is_under (aCons (x2 ixA (xVar 3) (xC (.int (2)))) (aCons (xVar 2) aNil))))))) (x2 ixA (xVar 3) (xC (.int (3))))) aNil)))
def m_stretched : List PV → M PV := runB 9 (sSeq (sAsg (xCallN 1 m_unlike_in_order (aCons (xLc2 fu [7, 8] [8] (xIt (xVar 0)) (gSet 7) (asB (x2 (eqP false) (x2 ixA (xVar 7) (xC (.int (0)))) (xC (.str "stretch")))) (xIt (xSl (xVar 7) (oSome (xC (.int (1)))) (oSome (xC (.int (3)))))) (gSet 8) bYes (xVar 8)) aNil)) (gSet 1))
  (sSeq (sAsg (xA lstV aNil) (gSet 2))
  (sSeq (sFor fu (xRng rng1 (aCons (x2 subV (xA lenV (aCons (xVar 1) aNil)) (xC (.int (1)))) aNil)) (gSet 3)
  (sSeq (sPar 4 5 (aCons (x2 ixA (xVar 1) (xVar 3)) (aCons (x2 ixA (xVar 1) (x2 addV (xVar 3) (xC (.int (1))))) aNil)))
  (sSeq (sAsg (xCallN 3 m_price_over (aCons (xVar 0) (aCons (xVar 4) (aCons (xVar 5) aNil)))) (gSet 6))
  (sSeq (sIf (bAnd (xTru (xVar 2)) (bAnd (asB (x2 (eqP false) (x2 ixA (x2 ixA (xVar 2) (x1 negV (xC (.int (1))))) (xC (.int (2)))) (xVar 4))) (asB (x2 (eqP false) (x2 ixA (x2 ixA (xVar 2) (x1 negV (xC (.int (1))))) (xC (.int (3)))) (xVar 6)))))
  (sAsg (x2 ixA (x1 popV (xVar 2)) (xC (.int (1)))) (gSet 4))
  sNop)
  (sIf (asB (x2 (eqP true) (xVar 6) (xC (.tup p_NOUGHT))))
  (sEx (xMt appV (xVar 2) (aCons (xA tupV (aCons (xC (.str "stretch")) (aCons (xVar 4) (aCons (xVar 5) (aCons (xVar 6) aNil))))) aNil)))
  sNop)))))
  (sRet (xVar 2)))))
def m_plain_score : List PV → M PV := runB 1 (sRet (xA tupleV (aCons (x2 addV (xCallN 1 m_marked (aCons (xVar 0) aNil)) (xCallN 1 m_stretched (aCons (xVar 0) aNil))) aNil)))
def m_is_rung : List PV → M PV := runB 1 (sRet (vAnd (xCallN 2 m_is_row (aCons (xVar 0) (aCons (xC (.int (2))) aNil))) (vAnd (xCallN 1 m_is_fraction (aCons (x2 ixA (xVar 0) (xC (.int (0)))) aNil)) (xCallN 1 m_is_weight (aCons (x2 ixA (xVar 0) (xC (.int (1)))) aNil)))))
def m_wrong_rung : List PV → M PV := runB 3 (sSeq (sFor fu (xRng enuI (aCons (xVar 0) aNil)) (tgTup 2 (tgCons (gSet 1) (tgCons (gSet 2) tgNil)))
  (sSeq (sIf (bNot (xTru (xCallN 1 m_is_rung (aCons (xVar 2) aNil))))
  (sRet (xVar 1))
  sNop)
  (sIf (bAnd (asB (x2 gtV (xVar 1) (xC (.int (0))))) (bNot (xTru (xCallN 2 m_is_under (aCons (x2 ixA (x2 ixA (xVar 0) (x2 subV (xVar 1) (xC (.int (1))))) (xC (.int (0)))) (aCons (x2 ixA (xVar 2) (xC (.int (0)))) aNil))))))
  (sRet (xVar 1))
  sNop)))
  (sRet (xC .non)))
def m_sure_ladder : List PV → M PV := runB 2 (sSeq (sIf (bNot (xTru (xCallN 3 m_is_row_within (aCons (xVar 0) (aCons (xC (.int (0))) (aCons (xC (.int (10))) aNil))))))
  (sRaise "BadLadder" "number" (aCons (xC .non) aNil))
  sNop)
  (sSeq (sAsg (xCallN 1 m_wrong_rung (aCons (xVar 0) aNil)) (gSet 1))
  (sSeq (sIf (asB (x2 notN (xVar 1) (xC .non)))
  (sRaise "BadLadder" "number" (aCons (xVar 1) aNil))
  sNop)
  (sRet (xCallN 1 m_copied (aCons (xVar 0) aNil))))))
def m_need_ladder : List PV → M PV := runB 1 (sSeq (sEx (xCallN 1 m_sure_ladder (aCons (xVar 0) aNil)))
  (sRet (xVar 0)))
def m_as_score : List PV → M PV := runB 3 (sRet (xA tupleV (aCons (xLc fu [1, 2] (xIt (xCallN 1 m_sure_ladder (aCons (xVar 0) aNil))) (tgTup 2 (tgCons (gSet 1) (tgCons (gSet 2) tgNil))) bYes (xA tupV (aCons (xC (.str "mark")) (aCons (xVar 1) (aCons (xVar 2) aNil))))) aNil)))
def m_ladder_of : List PV → M PV := runB 3 (sSeq (sAsg (xCallN 1 m_plain_score (aCons (xCallN 1 m_sure_score (aCons (xVar 0) aNil)) aNil)) (gSet 1))
  (sSeq (sIf (xTru (xA anyV (aCons (xLc fu [2] (xIt (xVar 1)) (gSet 2) bYes (x2 (eqP false) (x2 ixA (xVar 2) (xC (.int (0)))) (xC (.str "stretch")))) aNil)))
  (sRet (xC .non))
  sNop)
  (sRet (xA tupleV (aCons (xLc fu [2] (xIt (xVar 1)) (gSet 2) bYes (xA tupV (aCons (x2 ixA (xVar 2) (xC (.int (1)))) (aCons (x2 ixA (xVar 2) (xC (.int (2)))) aNil)))) aNil)))))
def m__law_mixed : List PV → M PV := runB 2 (sSeq (sAsg (x2 modV (xA intV (aCons (xVar 0) aNil)) (xC (.int (2147483647)))) (gSet 0))
  (sRet (x2 modV (x2 mulV (x2 modV (x2 addV (x2 addV (x2 mulV (xVar 0) (x2 addV (xC (.int (48271))) (x2 mulV (x2 mulV (xC (.int (2))) (xVar 1)) (xVar 1)))) (x2 mulV (xC (.int (69621))) (xVar 1))) (xC (.int (11)))) (xC (.int (2147483647)))) (xC (.int (69621)))) (xC (.int (2147483629))))))
def m__law_begin : List PV → M PV := runB 3 (sSeq (sAsg (vIf (asB (x2 (eqP true) (xVar 0) (xA lstV aNil))) (xA listA (aCons (xVar 0) aNil)) (xA lstV (aCons (xC (.int (0))) aNil))) (gSet 1))
  (sRet (xDisp (pCons (xC (.str "cells")) (xVar 1) (pCons (xC (.str "lefts")) (xLc fu [2] (xIt (xVar 1)) (gSet 2) bYes (vIf (asB (x2 geV (xVar 2) (x2 powV (xC (.int (10))) (xC (.int (18)))))) (xVar 2) (xC (.int (0))))) (pCons (xC (.str "at")) (xC (.int (0))) (pCons (xC (.str "room")) (xC (.int (0))) pNil)))))))
def m__law_draw : List PV → M PV := runB 6 (sSeq (sAsg (x2 ixA (xVar 0) (xC (.str "at"))) (gSet 2))
  (sSeq (sAsg (x2 addV (xVar 2) (xC (.int (1)))) (tgSubA (xVar 0) (xC (.str "at"))))
  (sSeq (sAsg (x2 modV (xA intV (aCons (xVar 2) aNil)) (xA lenV (aCons (x2 ixA (xVar 0) (xC (.str "cells"))) aNil))) (gSet 3))
  (sSeq (sAsg (x2 ixA (x2 ixA (xVar 0) (xC (.str "lefts"))) (xVar 3)) (gSet 4))
  (sSeq (sIf (asB (x2 gtV (xVar 4) (xC (.int (0)))))
  (sSeq (sAsg (x2 fdivV (xVar 4) (xVar 1)) (tgSubA (x2 ixA (xVar 0) (xC (.str "lefts"))) (xVar 3)))
  (sRet (x2 modV (xA intV (aCons (xVar 4) aNil)) (xVar 1))))
  sNop)
  (sSeq (sAsg (xCallN 2 m__law_mixed (aCons (xCallN 2 m__law_mixed (aCons (x2 ixA (x2 ixA (xVar 0) (xC (.str "cells"))) (xVar 3)) (aCons (xVar 2) aNil))) (aCons (x2 addV (xC (.int (40))) (xVar 2)) aNil))) (gSet 5))
  (sRet (x2 modV (x2 fdivV (xA intV (aCons (x2 addV (x2 mulV (xVar 5) (xC (.int (2147483647)))) (xCallN 2 m__law_mixed (aCons (xVar 5) (aCons (x2 addV (xC (.int (7))) (xVar 2)) aNil)))) aNil)) (xC (.int (64)))) (xVar 1)))))))))
def m__law_ratio : List PV → M PV := runB 4 (sSeq (sPar 2 3 (aCons (xA absV' (aCons (xVar 0) aNil)) (aCons (xVar 1) aNil)))
  (sSeq (sWhile (asB (x2 (eqP true) (xVar 3) (xC (.int (0)))))
  (sPar 2 3 (aCons (xVar 3) (aCons (x2 modV (xA intV (aCons (xVar 2) aNil)) (xVar 3)) aNil))) fu)
  (sRet (xA tupV (aCons (x2 fdivV (xVar 0) (xVar 2)) (aCons (x2 fdivV (xVar 1) (xVar 2)) aNil))))))
def m__law_plus : List PV → M PV := runB 2 (sRet (xCallN 2 m__law_ratio (aCons (x2 addV (x2 mulV (x2 ixA (xVar 0) (xC (.int (0)))) (x2 ixA (xVar 1) (xC (.int (1))))) (x2 mulV (x2 ixA (xVar 1) (xC (.int (0)))) (x2 ixA (xVar 0) (xC (.int (1)))))) (aCons (x2 mulV (x2 ixA (xVar 0) (xC (.int (1)))) (x2 ixA (xVar 1) (xC (.int (1))))) aNil))))
def m__law_under : List PV → M PV := runB 2 (sRet (x2 ltV (x2 mulV (x2 ixA (xVar 0) (xC (.int (0)))) (x2 ixA (xVar 1) (xC (.int (1))))) (x2 mulV (x2 ixA (xVar 1) (xC (.int (0)))) (x2 ixA (xVar 0) (xC (.int (1)))))))
def m__law_sum : List PV → M PV := runB 3 (sSeq (sAsg (xA tupV (aCons (xC (.int (0))) (aCons (xC (.int (1))) aNil))) (gSet 1))
  (sSeq (sFor fu (xIt (xVar 0)) (gSet 2)
  (sAsg (xCallN 2 m__law_plus (aCons (xVar 1) (aCons (xVar 2) aNil))) (gSet 1)))
  (sRet (xVar 1))))
def m__law_sorted : List PV → M PV := runB 5 (sSeq (sAsg (xA lstV aNil) (gSet 1))
  (sSeq (sFor fu (xIt (xVar 0)) (gSet 2)
  (sSeq (sAsg (xA lenV (aCons (xLc fu [4] (xIt (xVar 1)) (gSet 4) (xTru (xCallN 2 m__law_under (aCons (xVar 4) (aCons (xVar 2) aNil)))) (xVar 4)) aNil)) (gSet 3))
  (sIf (asB (x2 (inP true) (xVar 2) (xVar 1)))
  (sAsg (x2 addV (x2 addV (xSl (xVar 1) oNone (oSome (xVar 3))) (xA lstV (aCons (xVar 2) aNil))) (xSl (xVar 1) (oSome (xVar 3)) oNone)) (gSet 1))
  sNop)))
  (sRet (xVar 1))))
def m__law_small : List PV → M PV := runB 1 (sRet (xCallN 2 m__law_ratio (aCons (x2 subV (xCallN 2 m__law_draw (aCons (xVar 0) (aCons (xC (.int (13))) aNil))) (xC (.int (6)))) (aCons (x2 addV (xC (.int (1))) (xCallN 2 m__law_draw (aCons (xVar 0) (aCons (xC (.int (2))) aNil)))) aNil))))
def m__law_score : List PV → M PV := runB 6 (sSeq (sAsg (xA lstV aNil) (gSet 2))
  (sSeq (sFor fu (xRng rng1 (aCons (xCallN 2 m__law_draw (aCons (xVar 0) (aCons (x2 addV (xVar 1) (xC (.int (1)))) aNil))) aNil)) (gSet 3)
  (sSeq (sPar 4 5 (aCons (xCallN 2 m__law_ratio (aCons (xCallN 2 m__law_draw (aCons (xVar 0) (aCons (xC (.int (4))) aNil))) (aCons (x2 addV (xC (.int (1))) (xCallN 2 m__law_draw (aCons (xVar 0) (aCons (xC (.int (2))) aNil)))) aNil))) (aCons (xCallN 1 m__law_small (aCons (xVar 0) aNil)) aNil)))
  (sIf (asB (x2 (eqP false) (xCallN 2 m__law_draw (aCons (xVar 0) (aCons (xC (.int (2))) aNil))) (xC (.int (0)))))
  (sEx (xMt appV (xVar 2) (aCons (xA tupV (aCons (xC (.str "mark")) (aCons (xVar 5) (aCons (xVar 4) aNil)))) aNil)))
  (sEx (xMt appV (xVar 2) (aCons (xA tupV (aCons (xC (.str "stretch")) (aCons (xVar 5) (aCons (xCallN 2 m__law_plus (aCons (xVar 5) (aCons (xCallN 2 m__law_ratio (aCons (x2 addV (xC (.int (1))) (xCallN 2 m__law_draw (aCons (xVar 0) (aCons (xC (.int (8))) aNil)))) (aCons (xC (.int (2))) aNil))) aNil))) (aCons (xVar 4) aNil))))) aNil))))))
  (sRet (xA tupleV (aCons (xVar 2) aNil)))))
def m__law_plain : List PV → M PV := runB 12 (sSeq (sAsg (xCallN 1 m__law_sorted (aCons (xLc fu [11] (xIt (xVar 0)) (gSet 11) (asB (x2 (eqP false) (x2 ixA (xVar 11) (xC (.int (0)))) (xC (.str "mark")))) (x2 ixA (xVar 11) (xC (.int (1))))) aNil)) (gSet 1))
  (sSeq (sAsg (xA lstV aNil) (gSet 2))
  (sSeq (sFor fu (xIt (xVar 1)) (gSet 3)
  (sSeq (sAsg (xCallN 1 m__law_sum (aCons (xLc fu [11] (xIt (xVar 0)) (gSet 11) (asB (x2 (eqP false) (xSl (xVar 11) oNone (oSome (xC (.int (2))))) (xA tupV (aCons (xC (.str "mark")) (aCons (xVar 3) aNil))))) (x2 ixA (xVar 11) (xC (.int (2))))) aNil)) (gSet 4))
  (sAsg (x2 addV (xVar 2) (vIf (asB (x2 (eqP true) (xVar 4) (xA tupV (aCons (xC (.int (0))) (aCons (xC (.int (1))) aNil))))) (xA lstV (aCons (xA tupV (aCons (xC (.str "mark")) (aCons (xVar 3) (aCons (xVar 4) aNil)))) aNil)) (xA lstV aNil))) (gSet 2))))
  (sSeq (sAsg (xLc fu [11] (xIt (xVar 0)) (gSet 11) (asB (x2 (eqP false) (x2 ixA (xVar 11) (xC (.int (0)))) (xC (.str "stretch")))) (xVar 11)) (gSet 5))
  (sSeq (sPar 6 7 (aCons (xCallN 1 m__law_sorted (aCons (x2 addV (xLc fu [11] (xIt (xVar 5)) (gSet 11) bYes (x2 ixA (xVar 11) (xC (.int (1))))) (xLc fu [11] (xIt (xVar 5)) (gSet 11) bYes (x2 ixA (xVar 11) (xC (.int (2)))))) aNil)) (aCons (xA lstV aNil) aNil)))
  (sSeq (sFor fu (xRng zipI (aCons (xVar 6) (aCons (xSl (xVar 6) (oSome (xC (.int (1)))) oNone) aNil))) (tgTup 2 (tgCons (gSet 8) (tgCons (gSet 9) tgNil)))
  (sSeq (sAsg (xLc fu [11] (xIt (xVar 5)) (gSet 11) (bNot (xTru (xCallN 2 m__law_under (aCons (xVar 8) (aCons (x2 ixA (xVar 11) (xC (.int (1)))) aNil))))) (xVar 11)) (gSet 10))
  (sSeq (sAsg (xCallN 1 m__law_sum (aCons (xLc fu [11] (xIt (xVar 10)) (gSet 11) (bNot (xTru (xCallN 2 m__law_under (aCons (x2 ixA (xVar 11) (xC (.int (2)))) (aCons (xVar 9) aNil))))) (x2 ixA (xVar 11) (xC (.int (3))))) aNil)) (gSet 4))
  (sIf (bAnd (asB (x2 (eqP true) (xVar 7) (xA lstV aNil))) (asB (x2 (eqP false) (xSl (x2 ixA (xVar 7) (x1 negV (xC (.int (1))))) (oSome (xC (.int (2)))) oNone) (xA tupV (aCons (xVar 8) (aCons (xVar 4) aNil))))))
  (sAsg (xA tupV (aCons (xC (.str "stretch")) (aCons (x2 ixA (x2 ixA (xVar 7) (x1 negV (xC (.int (1))))) (xC (.int (1)))) (aCons (xVar 9) (aCons (xVar 4) aNil))))) (tgSubA (xVar 7) (x1 negV (xC (.int (1))))))
  (sIf (asB (x2 (eqP true) (xVar 4) (xA tupV (aCons (xC (.int (0))) (aCons (xC (.int (1))) aNil)))))
  (sEx (xMt appV (xVar 7) (aCons (xA tupV (aCons (xC (.str "stretch")) (aCons (xVar 8) (aCons (xVar 9) (aCons (xVar 4) aNil))))) aNil)))
  sNop)))))
  (sRet (xA tupleV (aCons (x2 addV (xVar 2) (xVar 7)) aNil)))))))))
def m__law_ladder : List PV → M PV := runB 5 (sSeq (sAsg (xCallN 1 m__law_sorted (aCons (xLc fu [3] (xRng rng1 (aCons (xCallN 2 m__law_draw (aCons (xVar 0) (aCons (x2 addV (xVar 1) (xC (.int (1)))) aNil))) aNil)) (gSet 3) bYes (xCallN 1 m__law_small (aCons (xVar 0) aNil))) aNil)) (gSet 2))
  (sRet (xA tupleV (aCons (xLc fu [4] (xIt (xVar 2)) (gSet 4) bYes (xA tupV (aCons (xVar 4) (aCons (xCallN 2 m__law_ratio (aCons (x2 addV (xC (.int (1))) (xCallN 2 m__law_draw (aCons (xVar 0) (aCons (xC (.int (4))) aNil)))) (aCons (x2 addV (xC (.int (1))) (xCallN 2 m__law_draw (aCons (xVar 0) (aCons (xC (.int (2))) aNil)))) aNil))) aNil)))) aNil))))
def m__law_good : List PV → M PV := runB 10 (sSeq (sPar 1 2 (aCons (xCallN 2 m__law_ladder (aCons (xVar 0) (aCons (xC (.int (4))) aNil))) (aCons (xCallN 2 m__law_score (aCons (xVar 0) (aCons (xC (.int (4))) aNil))) aNil)))
  (sSeq (sAsg (xA tupleV (aCons (xLc fu [7, 8] (xIt (xVar 1)) (tgTup 2 (tgCons (gSet 7) (tgCons (gSet 8) tgNil))) bYes (xA tupV (aCons (xC (.str "mark")) (aCons (xVar 7) (aCons (xVar 8) aNil))))) aNil)) (gSet 3))
  (sSeq (sIf (asB (x2 (eqP true) (xA reprV (aCons (xA lstV (aCons (xCallN 1 m_as_score (aCons (xVar 1) aNil)) (aCons (xCallN 1 m_need_ladder (aCons (xVar 1) aNil)) aNil))) aNil)) (xA reprV (aCons (xA lstV (aCons (xVar 3) (aCons (xVar 1) aNil))) aNil))))
  (sRet (xC (.bl false)))
  sNop)
  (sSeq (sPar 4 5 (aCons (xCallN 1 m__law_plain (aCons (xVar 2) aNil)) (aCons (xC .non) aNil)))
  (sSeq (sIf (asB (x2 (eqP false) (xLc fu [9] (xIt (xVar 4)) (gSet 9) (asB (x2 (eqP false) (x2 ixA (xVar 9) (xC (.int (0)))) (xC (.str "stretch")))) (xC (.int (1)))) (xA lstV aNil)))
  (sAsg (xA tupleV (aCons (xLc fu [9] (xIt (xVar 4)) (gSet 9) bYes (xSl (xVar 9) (oSome (xC (.int (1)))) oNone)) aNil)) (gSet 5))
  sNop)
  (sSeq (sAsg (xA lstV (aCons (xCallN 1 m_ladder_of (aCons (xVar 2) aNil)) (aCons (xCallN 1 m_ladder_of (aCons (xCallN 1 m_as_score (aCons (xVar 1) aNil)) aNil)) (aCons (xCallN 1 m_ladder_of (aCons (xVar 2) aNil)) aNil)))) (gSet 6))
  (sRet (x2 (eqP false) (xA reprV (aCons (xVar 6) aNil)) (xA reprV (aCons (xA lstV (aCons (xVar 5) (aCons (xVar 1) (aCons (xVar 5) aNil)))) aNil))))))))))
abbrev cs__law_heard : List HCl := [("BadLadder", "number", some "ladder"), ("BadScore", "number", some "score")]
abbrev qT_law : Str := ("law" : Str) ++ ".<locals>." ++ "<lambda>"
def m_law (Ps : List Addr) : List PV → M PV := runB 12 (sSeq (sAsg (xCallN 1 m__law_begin (aCons (xVar 0) aNil)) (gSet 1))
  (sSeq (sFor fu (xRng rng1 (aCons (x2 addV (xC (.int (3))) (xA min2V (aCons (xA lenV (aCons (xVar 0) aNil)) (aCons (xC (.int (4))) aNil)))) aNil)) (gSet 2)
  (sIf (bNot (xTru (xCallN 1 m__law_good (aCons (xVar 1) aNil))))
  (sRet (xC (.bl false)))
  sNop))
  (sSeq (sAsg (xA tupV (aCons (xA tupV (aCons (xA tupV (aCons (xC (.int (0))) (aCons (xC (.int (1))) aNil))) (aCons (xA tupV (aCons (xC (.int (1))) (aCons (xC (.int (1))) aNil))) aNil))) (aCons (xA tupV (aCons (xA tupV (aCons (x1 negV (xC (.int (1)))) (aCons (xC (.int (1))) aNil))) (aCons (xA tupV (aCons (xC (.int (1))) (aCons (xC (.int (1))) aNil))) aNil))) aNil))) (tgTup 2 (tgCons (gSet 3) (tgCons (gSet 4) tgNil))))
  (sSeq (sAsg (xA lstV (aCons (xA tupV (aCons (xC .non) (aCons (xC .non) aNil))) (aCons (xA tupV (aCons (xA lstV (aCons (xVar 3) aNil)) (aCons (xC .non) aNil))) (aCons (xA tupV (aCons (xA tupleV (aCons (xLc fu [11] (xRng rng1 (aCons (xC (.int (11))) aNil)) (gSet 11) bYes (xA tupV (aCons (xA tupV (aCons (xVar 11) (aCons (xC (.int (1))) aNil))) (aCons (xA tupV (aCons (xC (.int (1))) (aCons (xC (.int (1))) aNil))) aNil)))) aNil)) (aCons (xC .non) aNil))) aNil)))) (gSet 5))
  (sSeq (sAsg (x2 addV (xVar 5) (xA lstV (aCons (xA tupV (aCons (xA tupV (aCons (xVar 3) (aCons (xVar 4) aNil))) (aCons (xC (.int (1))) aNil))) (aCons (xA tupV (aCons (xA tupV (aCons (xVar 3) (aCons (xVar 3) aNil))) (aCons (xC (.int (1))) aNil))) (aCons (xA tupV (aCons (xA tupV (aCons (xA tupV (aCons (xA tupV (aCons (xC (.int (0))) (aCons (xC (.int (1))) aNil))) (aCons (xA tupV (aCons (xC (.int (0))) (aCons (xC (.int (1))) aNil))) aNil))) aNil)) (aCons (xC (.int (0))) aNil))) (aCons (xA tupV (aCons (xA tupV (aCons (xC .non) aNil)) (aCons (xC (.int (0))) aNil))) aNil)))))) (gSet 5))
  (sSeq (sEx (xMt appV (xVar 5) (aCons (xA tupV (aCons (xA tupV (aCons (xVar 4) (aCons (xVar 3) (aCons (xA tupV (aCons (xA tupV (aCons (xC (.int (1))) (aCons (xC (.int (1))) aNil))) (aCons (xA tupV (aCons (x1 negV (xC (.int (1)))) (aCons (xC (.int (1))) aNil))) aNil))) aNil)))) (aCons (xC (.int (2))) aNil))) aNil)))
  (sSeq (sFor fu (xIt (x2 addV (xVar 5) (xA lstV (aCons (xA tupV (aCons (xA tupV (aCons (xA tupV (aCons (xC (.int (0))) (aCons (xC (.int (1))) aNil))) aNil)) (aCons (xC (.int (0))) aNil))) (aCons (xA tupV (aCons (xA tupV (aCons (xVar 4) (aCons (xA lstV (aCons (xA tupV (aCons (xC (.int (0))) (aCons (xC (.int (1))) aNil))) (aCons (xA tupV (aCons (xC (.int (1))) (aCons (xC (.int (1))) aNil))) aNil))) aNil))) (aCons (xC (.int (1))) aNil))) (aCons (xA tupV (aCons (xA tupV (aCons (xA tupV (aCons (xA tupV (aCons (xC (.int (2))) (aCons (xC (.int (2))) aNil))) (aCons (xA tupV (aCons (xC (.int (1))) (aCons (xC (.int (1))) aNil))) aNil))) aNil)) (aCons (xC (.int (0))) aNil))) aNil)))))) (tgTup 2 (tgCons (gSet 10) (tgCons (gSet 6) tgNil)))
  (sSeq (sAsg (xA lstV (aCons (xHears 0 qT_law (Ps.getD 0 0) cs__law_heard (xCallN 1 m_need_ladder (aCons (xVar 10) aNil))) (aCons (xHears 0 qT_law (Ps.getD 0 0) cs__law_heard (xCallN 1 m_as_score (aCons (xVar 10) aNil))) aNil))) (gSet 7))
  (sIf (asB (x2 (eqP true) (xVar 7) (x2 mulV (xA lstV (aCons (xA tupV (aCons (xC (.str "ladder")) (aCons (xVar 6) aNil))) aNil)) (xC (.int (2))))))
  (sRet (xC (.bl false)))
  sNop)))
  (sSeq (sIf (asB (x2 (eqP true) (xHears 0 qT_law (Ps.getD 0 0) cs__law_heard (xCallN 1 m_ladder_of (aCons (xA tupV (aCons (xA tupV (aCons (xC (.str "mark")) (aCons (xA tupV (aCons (xC (.int (0))) (aCons (xC (.int (1))) aNil))) (aCons (xA tupV (aCons (xC (.int (1))) (aCons (xC (.int (1))) aNil))) aNil)))) (aCons (xC .non) aNil))) aNil))) (xA tupV (aCons (xC (.str "score")) (aCons (xC (.int (1))) aNil)))))
  (sRet (xC (.bl false)))
  sNop)
  (sSeq (sAsg (xA tupleV (aCons (xLc fu [11] (xRng rng1 (aCons (xC (.int (10))) aNil)) (gSet 11) bYes (xA tupV (aCons (xA tupV (aCons (xVar 11) (aCons (xC (.int (1))) aNil))) (aCons (xA tupV (aCons (xC (.int (1))) (aCons (xC (.int (1))) aNil))) aNil)))) aNil)) (gSet 8))
  (sSeq (sIf (bOr (asB (x2 (eqP true) (xCallN 1 m_need_ladder (aCons (xVar 8) aNil)) (xVar 8))) (asB (x2 notN (xCallN 1 m_ladder_of (aCons (xA tupV (aCons (xA tupV (aCons (xC (.str "stretch")) (aCons (xA tupV (aCons (xC (.int (0))) (aCons (xC (.int (1))) aNil))) (aCons (xA tupV (aCons (xC (.int (1))) (aCons (xC (.int (1))) aNil))) (aCons (xA tupV (aCons (xC (.int (1))) (aCons (xC (.int (1))) aNil))) aNil))))) aNil)) aNil)) (xC .non))))
  (sRet (xC (.bl false)))
  sNop)
  (sSeq (sAsg (xA tupV (aCons (xA tupV (aCons (xC (.str "mark")) (aCons (xA tupV (aCons (xC (.int (2))) (aCons (xC (.int (1))) aNil))) (aCons (xA tupV (aCons (xC (.int (0))) (aCons (xC (.int (1))) aNil))) aNil)))) (aCons (xA tupV (aCons (xC (.str "stretch")) (aCons (xA tupV (aCons (xC (.int (0))) (aCons (xC (.int (1))) aNil))) (aCons (xA tupV (aCons (xC (.int (1))) (aCons (xC (.int (1))) aNil))) (aCons (xA tupV (aCons (xC (.int (0))) (aCons (xC (.int (1))) aNil))) aNil))))) aNil))) (gSet 9))
  (sRet (vAnd (x2 (eqP false) (xCallN 1 m_ladder_of (aCons (xVar 9) aNil)) (xA tupV aNil)) (x2 (eqP false) (xCallN 1 m_ladder_of (aCons (x2 mulV (xA tupV (aCons (xA tupV (aCons (xC (.str "mark")) (aCons (xA tupV (aCons (xC (.int (2))) (aCons (xC (.int (1))) aNil))) (aCons (xA tupV (aCons (xC (.int (1))) (aCons (xC (.int (2))) aNil))) aNil)))) aNil)) (xC (.int (2)))) aNil)) (xA tupV (aCons (xA tupV (aCons (xA tupV (aCons (xC (.int (2))) (aCons (xC (.int (1))) aNil))) (aCons (xA tupV (aCons (xC (.int (1))) (aCons (xC (.int (1))) aNil))) aNil))) aNil))))))))))))))))
end Lw
namespace Lw
open PySem PySem.Spec L2 Mi
theorem t_is_under {m n : Nat} (p q : Rat) (st : Store) (hp : Sm m p) (hq : Sm n q) (hmn : m + n ≤ 900000) : m_is_under [frac p, frac q] st = .ok (.bl (decide (p < q))) st := by
  have b1 := big_lt (sm_pos hp) hp.1
  have b2 := big_lt (sm_pos hq) hq.1
  have b3 : big (p.den : Int) < m := big_lt (sm_pos hp) (by simpa using hp.2)
  have b4 : big (q.den : Int) < n := big_lt (sm_pos hq) (by simpa using hq.2)
  have c1 : big p.num + big (q.den : Int) < 1000000 := by omega
  have c2 : big q.num + big (p.den : Int) < 1000000 := by omega
  have e : decide (p < q) = decide (p.num * (q.den : Int) < q.num * (p.den : Int)) := decide_eq_decide.mpr (lt_num p q)
  rw [e]
  simp [m_is_under, runB, sRet, bnd, x2, xVar, xC, Mi.ret, ixA, ixV, atI, ixN, optV, frac, mulV, ltV, cmpI, c1, c2]
theorem eqP_int (neg : Bool) (i j : Int) (st : Store) : eqP neg (.int i) (.int j) st = .ok (.bl (if neg then !decide (i = j) else decide (i = j))) st := by
  have e : PyData.eqv (.int i) (.int j) = decide (i = j) := by
    by_cases h : i = j
    · subst h; simp [PyData.eqv]
    · simp [PyData.eqv, h]
  unfold eqP toD D0
  dsimp only
  rw [if_pos ⟨rfl, rfl⟩, e]
theorem mod_log {a b : Nat} (hb : 0 < b) (hab : b ≤ a) (hm : 0 < a % b) : (a % b).log2 + 1 ≤ a.log2 := by
  have h : 2 * (a % b) ≤ a := by
    have h1 := Nat.div_add_mod a b
    have h2 : 1 ≤ a / b := Nat.div_pos hab hb
    have h3 : b * 1 ≤ b * (a / b) := Nat.mul_le_mul_left _ h2
    have h4 := Nat.mod_lt a hb
    omega
  have ha : a ≠ 0 := by omega
  refine (Nat.le_log2 ha).mpr ?_
  have := (Nat.le_log2 (n := a % b) (k := (a % b).log2) (by omega)).mp (Nat.le_refl _)
  rw [Nat.pow_succ]
  omega
/-- how many turns are left, at most -/
def eu (a b : Nat) : Nat := if b = 0 then 0 else 2 * (a.log2 + b.log2) + (if a < b then 2 else 1)
theorem eu_step {a b : Nat} (hb : 0 < b) : eu b (a % b) < eu a b := by
  unfold eu
  rw [if_neg (by omega : ¬ b = 0)]
  by_cases hm : a % b = 0
  · rw [if_pos hm]; split <;> omega
  · rw [if_neg hm]
    have h4 := Nat.mod_lt a hb
    rw [if_neg (by omega : ¬ b < a % b)]
    by_cases hab : a < b
    · rw [if_pos hab, Nat.mod_eq_of_lt hab]; omega
    · rw [if_neg hab]
      have := mod_log hb (by omega) (by omega : 0 < a % b)
      omega
theorem t__law_ratio {n : Nat} (t b : Int) (st : Store) (hb : 0 < b) (ht : t.natAbs < 2 ^ n) (hbn : b.natAbs < 2 ^ n) (hn : n ≤ 9000) : m__law_ratio [.int t, .int b] st = .ok (frac (Rat.divInt t b)) st := by
  have hn0 : 0 < n := by
    rcases Nat.eq_zero_or_pos n with z | z
    · subst z; omega
    · exact z
  let Iv : Ev → Store → Prop := fun env st' => st' = st ∧ ∃ x y : Nat, env = [some (.int t), some (.int b), some (.int x), some (.int y)] ∧ Nat.gcd x y = Nat.gcd t.natAbs b.natAbs
  let μ : Ev → Store → Nat := fun env _ => match env with
    | [_, _, some (.int x), some (.int y)] => eu x.natAbs y.natAbs
    | _ => 0
  have main := while_inv (c := asB (x2 (eqP true) (xVar 3) (xC (.int (0))))) (body := sPar 2 3 (aCons (xVar 3) (aCons (x2 modV (xA intV (aCons (xVar 2) aNil)) (xVar 3)) aNil))) Iv μ (fun _ _ => False) (fun env st' h => by
    obtain ⟨rfl, x, y, rfl, hg⟩ := h
    refine ⟨decide (y ≠ 0), st', ?_, fun hy => .inl ⟨[some (.int t), some (.int b), some (.int y), some (.int (x % y : Nat))], st', .inl ?_, ⟨rfl, y, x % y, rfl, ?_⟩, ?_⟩⟩
    · simp [asB, x2, xVar, xC, bnd, Mi.ret, eqP_int, toB]
    · have hy' : y ≠ 0 := by simpa using hy
      simp [sPar, aCons, aNil, xVar, bnd, Mi.ret, x2, xA, intV, modV, (by omega : 0 < y)]
    · rw [Nat.gcd_comm y, ← Nat.gcd_rec, Nat.gcd_comm, hg]
    · have hy' : y ≠ 0 := by simpa using hy
      exact eu_step (by omega))
  have hl : ∀ {x : Nat}, x < 2 ^ n → x.log2 < n := fun h => log2_lt hn0 h
  have hμ : μ [some (.int t), some (.int b), some (.int (t.natAbs : Nat)), some (.int (b.natAbs : Nat))] st < fu := by
    show eu ((t.natAbs : Nat) : Int).natAbs ((b.natAbs : Nat) : Int).natAbs < fu
    rw [Int.natAbs_natCast, Int.natAbs_natCast]
    have h1 := hl ht
    have h2 := hl hbn
    unfold eu fu
    split
    · omega
    · split <;> omega
  have hab : (if t < 0 then -t else t) = ((t.natAbs : Nat) : Int) := by split <;> omega
  have hbb : b = ((b.natAbs : Nat) : Int) := by omega
  have hg0 : 0 < Nat.gcd t.natAbs b.natAbs := Nat.gcd_pos_of_pos_right _ (by omega)
  have hgn : Nat.gcd t.natAbs b.natAbs < 2 ^ n := Nat.lt_of_le_of_lt (Nat.gcd_le_right _ (by omega)) hbn
  rcases main fu [some (.int t), some (.int b), some (.int (t.natAbs : Nat)), some (.int (b.natAbs : Nat))] st hμ ⟨rfl, t.natAbs, b.natAbs, rfl, rfl⟩ with ⟨env', st0, st', e1, ⟨rfl, x, y, rfl, hg⟩, e2⟩ | ⟨v, st', _, z⟩
  · simp [asB, x2, xVar, xC, bnd, Mi.ret, eqP_int, toB] at e2
    obtain ⟨hy, rfl⟩ := e2
    subst hy
    rw [Nat.gcd_zero_right] at hg
    subst hg
    rw [← frac_divInt t b hb]
    have hb0 : b ≠ 0 := by omega
    have c1 : (0 : Int) < ((Nat.gcd t.natAbs b.natAbs : Nat) : Int) := by omega
    have c2 : big ((Nat.gcd t.natAbs b.natAbs : Nat) : Int) < 9000 := Nat.lt_of_lt_of_le (big_lt hn0 (by simpa using hgn)) hn
    simp [m__law_ratio, runB, sSeq, sPar, bnd, aCons, aNil, xA, xVar, absV', Mi.ret, thenS, hab]
    rw [← hbb] at e1
    rw [e1]
    simp [sRet, bnd, xA, aCons, aNil, xVar, x2, fdivV, Mi.ret, c1, c2, tupV, sizeTop, hb0]
  · exact z.elim
end Lw
namespace Lw
open PySem PySem.Spec L2 Mi
theorem big_nat {n k : Nat} (hk : 0 < k) (h : n < 2 ^ k) {i : Int} (h0 : 0 ≤ i) (hi : i ≤ n) : big i < k := big_lt hk (by omega)
theorem mulV_ok {i j : Int} {m n : Nat} (st : Store) (hm : 0 < m) (hn : 0 < n) (hi : i.natAbs < 2 ^ m) (hj : j.natAbs < 2 ^ n) (h : m + n < 1000000) : mulV (.int i) (.int j) st = .ok (.int (i * j)) st := by
  have h1 := big_lt hm hi
  have h2 := big_lt hn hj
  unfold mulV
  dsimp only
  rw [if_pos (by omega)]
  rfl
def mixR (c k : Int) : Int := (c % 2147483647 * (48271 + 2 * k * k) + 69621 * k + 11) % 2147483647 * 69621 % 2147483629
theorem mixR_range (c k : Int) : 0 ≤ mixR c k ∧ mixR c k < 2147483629 := ⟨Int.emod_nonneg _ (by decide), Int.emod_lt_of_pos _ (by decide)⟩
theorem t__law_mixed (c k : Int) (st : Store) (h0 : 0 ≤ k) (hk : k < 1000000) : m__law_mixed [.int c, .int k] st = .ok (.int (mixR c k)) st := by
  have hc0 : 0 ≤ c % 2147483647 := Int.emod_nonneg _ (by decide)
  have hc1 : c % 2147483647 < 2147483647 := Int.emod_lt_of_pos _ (by decide)
  have hk2 : 0 ≤ 2 * k := by omega
  have hkk : 0 ≤ 2 * k * k := Int.mul_nonneg hk2 h0
  have hkk2 : 2 * k * k ≤ 2000000 * 1000000 := Int.mul_le_mul (by omega) (by omega) h0 (by omega)
  have e1 := mulV_ok (i := 2) (j := k) (m := 2) (n := 20) st (by decide) (by decide) (by decide) (by omega) (by decide)
  have e2 := mulV_ok (i := 2 * k) (j := k) (m := 21) (n := 20) st (by decide) (by decide) (by omega) (by omega) (by decide)
  have e3 := mulV_ok (i := c % 2147483647) (j := 48271 + 2 * k * k) (m := 31) (n := 42) st (by decide) (by decide) (by omega) (by omega) (by decide)
  have e4 := mulV_ok (i := 69621) (j := k) (m := 17) (n := 20) st (by decide) (by decide) (by decide) (by omega) (by decide)
  have hd0 : 0 ≤ (c % 2147483647 * (48271 + 2 * k * k) + 69621 * k + 11) % 2147483647 := Int.emod_nonneg _ (by decide)
  have hd1 : (c % 2147483647 * (48271 + 2 * k * k) + 69621 * k + 11) % 2147483647 < 2147483647 := Int.emod_lt_of_pos _ (by decide)
  have e5 := mulV_ok (i := (c % 2147483647 * (48271 + 2 * k * k) + 69621 * k + 11) % 2147483647) (j := 69621) (m := 31) (n := 17) st (by decide) (by decide) (by omega) (by decide) (by decide)
  simp [m__law_mixed, runB, sSeq, sAsg, sRet, bnd, x2, xA, aCons, aNil, xVar, xC, Mi.ret, intV, modV, gSet, thenS, addV, e1, e2, e3, e4, e5, mixR]
def dkv (c l : Nat) (a : Int) (room : PV) : List (Key × PV) := [(.inr "cells", .loc c), (.inr "lefts", .loc l), (.inr "at", .int a), (.inr "room", room)]
/-- the state of the draws -/
structure DrawS (st : Store) (d c l : Nat) (cells lefts : List Int) (a : Int) (room : PV) : Prop where
  hd : st[d]? = some (.dk (dkv c l a room))
  hc : st[c]? = some (.lst (cells.map .int))
  hl : st[l]? = some (.lst (lefts.map .int))
  dc : d ≠ c
  dl : d ≠ l
  cl : c ≠ l
  len : lefts.length = cells.length
  pos : 0 < cells.length
  few : cells.length ≤ 63
  a0 : 0 ≤ a
theorem g_at {c l : Nat} {a : Int} {room : PV} : getP (dkv c l a room) (.inr "at") = some (.int a) := rfl
theorem g_cells {c l : Nat} {a : Int} {room : PV} : getP (dkv c l a room) (.inr "cells") = some (.loc c) := rfl
theorem g_lefts {c l : Nat} {a : Int} {room : PV} : getP (dkv c l a room) (.inr "lefts") = some (.loc l) := rfl
theorem p_at {c l : Nat} {a b : Int} {room : PV} : putP (dkv c l a room) (.inr "at") (.int b) = dkv c l b room := rfl
section
variable {st : Store} {d c l : Nat} {cells lefts : List Int} {a : Int} {room : PV}
theorem getL_lst {st : Store} {n : Nat} {xs : List PV} (h : st[n]? = some (.lst xs)) : getL n st = some xs := by unfold getL; rw [h]
theorem getM_lst {st : Store} {n : Nat} {xs : List PV} (h : st[n]? = some (.lst xs)) : getM n st = some xs := by unfold getM; rw [h]
theorem getL_dk {st : Store} {n : Nat} {kvs : List (Key × PV)} (h : st[n]? = some (.dk kvs)) : getL n st = none := by unfold getL; rw [h]
theorem getM_dk {st : Store} {n : Nat} {kvs : List (Key × PV)} (h : st[n]? = some (.dk kvs)) : getM n st = none := by unfold getM; rw [h]
theorem ix_key {st : Store} {n : Nat} {kvs : List (Key × PV)} {x : Str} {v : PV} (h : st[n]? = some (.dk kvs)) (g : getP kvs (.inr x) = some v) : ixA (.loc n) (.str x) st = .ok v st := by
  unfold ixA ixV
  dsimp only
  rw [getL_dk h]
  unfold Mi.getD
  rw [h]
  dsimp only [keyK]
  rw [g]
theorem put_key {st : Store} {n : Nat} {kvs : List (Key × PV)} {x : Str} {v : PV} (h : st[n]? = some (.dk kvs)) (hz : kvs.length < sizeTop) : putA (.loc n) (.str x) v st = .ok .non (st.set n (.dk (putP kvs (.inr x) v))) := by
  unfold putA putV
  dsimp only
  rw [getM_dk h]
  dsimp only
  rw [h]
  dsimp only [keyK]
  rw [if_pos hz]
theorem ix_lst {st : Store} {n : Nat} {xs : List PV} {i : Int} {v : PV} (h : st[n]? = some (.lst xs)) (h0 : 0 ≤ i) (g : xs[i.toNat]? = some v) : ixA (.loc n) (.int i) st = .ok v st := by
  have hlt := (List.getElem?_eq_some_iff.mp g).1
  have e : atI xs i = some v := by
    unfold atI ixN
    rw [if_pos h0, if_pos (by omega)]
    exact g
  unfold ixA ixV
  dsimp only
  rw [getL_lst h]
  dsimp only
  rw [e]
  rfl
theorem put_lst {st : Store} {n : Nat} {xs : List PV} {i : Int} {v : PV} (h : st[n]? = some (.lst xs)) (h0 : 0 ≤ i) (hi : i < xs.length) : putA (.loc n) (.int i) v st = .ok .non (st.set n (.lst (xs.set i.toNat v))) := by
  unfold putA putV
  dsimp only
  rw [getM_lst h]
  dsimp only
  unfold ixN
  rw [if_pos h0, if_pos hi]
theorem t__law_draw (S : DrawS st d c l cells lefts a room) (ha : a < 900000) {many : Int} (hm : 0 < many) (hm2 : many.natAbs < 2 ^ 64) :
    ∃ v st' lefts', m__law_draw [.loc d, .int many] st = .ok (.int v) st' ∧ 0 ≤ v ∧ v < many ∧ DrawS st' d c l cells lefts' (a + 1) room ∧ (∀ i, i ≠ d → i ≠ l → st'[i]? = st[i]?) ∧ st'.length = st.length := by
  obtain ⟨hd, hc, hl, dc, dl, cl, len, pos, few, a0⟩ := S
  have hdlt : d < st.length := (List.getElem?_eq_some_iff.mp hd).1
  have hllt : l < st.length := (List.getElem?_eq_some_iff.mp hl).1
  have e1 := ix_key hd (g_at (c := c) (l := l) (a := a) (room := room))
  have e2 := put_key (x := "at") (v := .int (a + 1)) hd (by show 4 < sizeTop; decide)
  rw [p_at] at e2
  have hd1 : (st.set d (.dk (dkv c l (a + 1) room)))[d]? = some (.dk (dkv c l (a + 1) room)) := List.getElem?_set_self hdlt
  have hc1 : (st.set d (.dk (dkv c l (a + 1) room)))[c]? = some (.lst (cells.map .int)) := by rw [List.getElem?_set_ne dc]; exact hc
  have hl1 : (st.set d (.dk (dkv c l (a + 1) room)))[l]? = some (.lst (lefts.map .int)) := by rw [List.getElem?_set_ne dl]; exact hl
  have oth : ∀ i, i ≠ d → (st.set d (.dk (dkv c l (a + 1) room)))[i]? = st[i]? := fun i h => List.getElem?_set_ne (Ne.symm h)
  have lth : (st.set d (.dk (dkv c l (a + 1) room))).length = st.length := by simp
  generalize st.set d (.dk (dkv c l (a + 1) room)) = st1 at e2 hd1 hc1 hl1 oth lth
  have e3 := ix_key hd1 (g_cells (c := c) (l := l) (a := a + 1) (room := room))
  have e4 := ix_key hd1 (g_lefts (c := c) (l := l) (a := a + 1) (room := room))
  have hn : (0 : Int) < cells.length := by omega
  have hp0 : 0 ≤ a % (cells.length : Int) := Int.emod_nonneg _ (by omega)
  have hp1 : a % (cells.length : Int) < cells.length := Int.emod_lt_of_pos _ hn
  have hpn : (a % (cells.length : Int)).toNat < cells.length := by omega
  have e5 := ix_lst (v := .int (lefts.getD (a % (cells.length : Int)).toNat 0)) hl1 hp0 (by simp [List.getElem?_map, List.getElem?_eq_getElem (show (a % (cells.length : Int)).toNat < lefts.length by omega)])
  have e6 := ix_lst (v := .int (cells.getD (a % (cells.length : Int)).toNat 0)) hc1 hp0 (by simp [List.getElem?_map, List.getElem?_eq_getElem hpn])
  have elen : lenV [.loc c] st1 = .ok (.int cells.length) st1 := by
    unfold lenV
    dsimp only
    rw [getL_lst hc1]
    simp
  generalize lefts.getD (a % (cells.length : Int)).toNat 0 = left at e5
  generalize cells.getD (a % (cells.length : Int)).toNat 0 = cell at e6
  have hbm : big many < 64 := big_lt (by decide) hm2
  by_cases hleft : 0 < left
  · have e7 := put_lst (v := .int (left / many)) hl1 hp0 (by rw [List.length_map, len]; exact hp1)
    refine ⟨left % many, st1.set l (.lst ((lefts.map PV.int).set (a % (cells.length : Int)).toNat (.int (left / many)))), lefts.set (a % (cells.length : Int)).toNat (left / many), ?_, Int.emod_nonneg _ (by omega), Int.emod_lt_of_pos _ hm, ⟨?_, ?_, ?_, dc, dl, cl, by rw [List.length_set]; exact len, pos, few, by omega⟩, fun i h1 h2 => ?_, by rw [List.length_set]; exact lth⟩
    · simp [m__law_draw, runB, sSeq, sAsg, sRet, bnd, x2, xA, aCons, aNil, xVar, xC, Mi.ret, intV, gSet, thenS, addV, tgSubA, sIf, asB, gtV, cmpI, toB, e1, e2, e3, e4, e5, e7, elen, modV, fdivV, hn, pos, hleft, hm, Nat.lt_trans hbm (by decide : 64 < 9000)]
    · rw [List.getElem?_set_ne (Ne.symm dl)]; exact hd1
    · rw [List.getElem?_set_ne (Ne.symm cl)]; exact hc1
    · rw [List.getElem?_set_self (by omega), List.map_set]
    · rw [List.getElem?_set_ne (Ne.symm h2)]; exact oth i h1
  · have r1 := t__law_mixed cell a st1 a0 (by omega)
    have r2 := t__law_mixed (mixR cell a) (40 + a) st1 (by omega) (by omega)
    have hx := mixR_range (mixR cell a) (40 + a)
    have r3 := t__law_mixed (mixR (mixR cell a) (40 + a)) (7 + a) st1 (by omega) (by omega)
    have hy := mixR_range (mixR (mixR cell a) (40 + a)) (7 + a)
    have e8 := mulV_ok (i := mixR (mixR cell a) (40 + a)) (j := 2147483647) (m := 31) (n := 31) st1 (by decide) (by decide) (by omega) (by decide) (by decide)
    refine ⟨(mixR (mixR cell a) (40 + a) * 2147483647 + mixR (mixR (mixR cell a) (40 + a)) (7 + a)) / 64 % many, st1, lefts, ?_, Int.emod_nonneg _ (by omega), Int.emod_lt_of_pos _ hm, ⟨hd1, hc1, hl1, dc, dl, cl, len, pos, few, by omega⟩, fun i h1 _ => oth i h1, lth⟩
    have b64 : big 64 < 9000 := by decide
    simp [m__law_draw, runB, sSeq, sAsg, sRet, sNop, bnd, x2, xA, aCons, aNil, xVar, xC, Mi.ret, intV, gSet, thenS, addV, tgSubA, sIf, asB, gtV, cmpI, toB, xCallN, callM, e1, e2, e3, e4, e5, e6, e8, elen, modV, fdivV, hn, pos, hleft, hm, r1, r2, r3, b64]
end
theorem D0L_ints (f : Nat → Option PyData) : ∀ ns : List Int, D0L f (ns.map PV.int) = some (ns.map PyData.int)
  | [] => rfl
  | n :: ns => by simp only [List.map_cons, D0L, D0, D0L_ints f ns]
theorem canLay_ints : ∀ ns : List Int, PyData.canLayAll0 (ns.map PyData.int) = true
  | [] => rfl
  | n :: ns => by simp only [List.map_cons, PyData.canLayAll0, canLay_ints ns]; rfl
theorem depth_ints : ∀ ns : List Int, PyData.depthAll (ns.map PyData.int) ≤ 1
  | [] => by decide
  | n :: ns => by
    have := depth_ints ns
    simp only [List.map_cons, PyData.depthAll, PyData.depth]
    omega
theorem eq_kl (ns : List Int) (n : Nat) (st : Store) (hn : st[n]? = some (.lst [])) : eqP true (.kl (ns.map PV.int)) (.loc n) st = .ok (.bl (!ns.isEmpty)) st := by
  have h1 : toD st (.kl (ns.map PV.int)) = some (.list (ns.map PyData.int)) := by
    unfold toD
    simp only [D0, D0L_ints]
  have h2 : toD st (.loc n) = some (.list []) := by
    unfold toD
    simp only [D0]
    unfold flS
    rw [getL_lst hn]
    rfl
  have h3 : SeqAt.shaped (.list (ns.map PyData.int)) = true := by
    have := depth_ints ns
    unfold SeqAt.shaped
    simp only [PyData.canLay0, canLay_ints, PyData.depth, Bool.true_and]
    exact decide_eq_true (by omega)
  have h4 : SeqAt.shaped (.list []) = true := by decide
  have h5 : PyData.eqv (.list (ns.map PyData.int)) (.list []) = ns.isEmpty := by
    cases ns with
    | nil => rfl
    | cons n ns => rfl
  unfold eqP
  rw [h1, h2]
  dsimp only
  rw [if_pos ⟨h3, h4⟩, h5]
  rfl
theorem t__law_begin (ns : List Int) (hn : ns.length ≤ 63) : ∃ st c l cells lefts room, m__law_begin [.kl (ns.map PV.int)] [] = .ok (.loc (st.length - 1)) st ∧ DrawS st (st.length - 1) c l cells lefts 0 room := by
  -- the cells
  obtain ⟨st1, c, cells, hcell, hc, hpos, hfew⟩ : ∃ (st1 : Store) (c : Nat) (cells : List Int), vIf (asB (x2 (eqP true) (xVar 0) (xA lstV aNil))) (xA listA (aCons (xVar 0) aNil)) (xA lstV (aCons (xC (.int (0))) aNil)) [some (.kl (ns.map PV.int)), none, none] [] = .ok (.loc c) st1 ∧ st1[c]? = some (.lst (cells.map PV.int)) ∧ 0 < cells.length ∧ cells.length ≤ 63 := by
    have e := eq_kl ns 0 [.lst []] rfl
    cases ns with
    | nil =>
      refine ⟨[.lst [], .lst [.int 0]], 1, [0], ?_, rfl, by decide, by decide⟩
      simp [vIf, asB, x2, xVar, xA, aNil, aCons, bnd, Mi.ret, lstV, newC, sizeTop, toB, xC] at e ⊢
      simp [e]
      rfl
    | cons n ns =>
      refine ⟨[.lst [], .lst ((n :: ns).map PV.int)], 1, n :: ns, ?_, rfl, by simp, hn⟩
      simp [vIf, asB, x2, xVar, xA, aNil, aCons, bnd, Mi.ret, lstV, newC, sizeTop, toB, xC, listA, listV] at e ⊢
      simp [e]
      rfl
  have hlt : c < st1.length := (List.getElem?_eq_some_iff.mp hc).1
  -- the lefts
  let Iv : Nat → List PV → Store → Prop := fun i acc st' => st' = st1 ∧ ∃ ys : List Int, acc = ys.map PV.int ∧ ys.length = i
  have main := comp_inv (nx := nxL c) (g := gSet 2) (c := bYes) (e := vIf (asB (x2 geV (xVar 2) (x2 powV (xC (.int (10))) (xC (.int (18)))))) (xVar 2) (xC (.int (0)))) (n := cells.length) (vf := fun i => .int ((cells[i]?).getD 0)) (env := [some (.kl (ns.map PV.int)), some (.loc c), none]) Iv
    (fun i acc st' hi h => by
      obtain ⟨rfl, _⟩ := h
      unfold nxL
      rw [getL_lst hc]
      simp [hi])
    (fun acc st' h => by
      obtain ⟨rfl, _⟩ := h
      unfold nxL
      rw [getL_lst hc]
      simp)
    (fun i acc st' hi h => by
      obtain ⟨rfl, ys, rfl, hy⟩ := h
      refine ⟨[some (.kl (ns.map PV.int)), some (.loc c), some (.int ((cells[i]?).getD 0))], st', true, st', rfl, rfl, (fun z => by cases z), fun _ => ?_⟩
      have hz : (ys.map PV.int).length < sizeTop := by rw [List.length_map, hy]; unfold sizeTop; omega
      by_cases hb : (1000000000000000000 : Int) ≤ (cells[i]?).getD 0
      · refine ⟨.int ((cells[i]?).getD 0), st', ?_, hz, rfl, ys ++ [(cells[i]?).getD 0], by simp, by simp [hy]⟩
        simp [vIf, asB, x2, xVar, xC, bnd, Mi.ret, geV, cmpI, powV, toB]
        rw [if_pos hb]
        rfl
      · refine ⟨.int 0, st', ?_, hz, rfl, ys ++ [0], by simp, by simp [hy]⟩
        simp [vIf, asB, x2, xVar, xC, bnd, Mi.ret, geV, cmpI, powV, toB]
        rw [if_neg hb]
        rfl)
  obtain ⟨acc, st', e1, hst, lefts, rfl, hlen⟩ := main fu 0 [] st1 (Nat.zero_le _) (by unfold fu; omega) ⟨rfl, [], rfl, rfl⟩
  rw [hst] at e1
  have l1 : (st1 ++ [Cell.lst (lefts.map PV.int)]).length = st1.length + 1 := by rw [List.length_append]; rfl
  have l2 : ((st1 ++ [Cell.lst (lefts.map PV.int)]) ++ [Cell.dk (dkv c st1.length 0 (.int 0))]).length - 1 = st1.length + 1 := by rw [List.length_append, l1]; rfl
  refine ⟨(st1 ++ [.lst (lefts.map PV.int)]) ++ [.dk (dkv c st1.length 0 (.int 0))], c, st1.length, cells, lefts, .int 0, ?_, ?_⟩
  · have hmk : xLc fu [2] (xIt (xVar 1)) (gSet 2) bYes (vIf (asB (x2 geV (xVar 2) (x2 powV (xC (.int (10))) (xC (.int (18)))))) (xVar 2) (xC (.int (0)))) [some (.kl (ns.map PV.int)), some (.loc c), none] st1 = .ok (.loc st1.length) (st1 ++ [.lst (lefts.map PV.int)]) := by
      simp [xLc, xIt, xVar, bnd, itV, getL_lst hc, wipeE]
      exact e1
    have hdk : dispV [(.str "cells", .loc c), (.str "lefts", .loc st1.length), (.str "at", .int 0), (.str "room", .int 0)] (st1 ++ [Cell.lst (lefts.map PV.int)]) = .ok (.loc (st1.length + 1)) ((st1 ++ [Cell.lst (lefts.map PV.int)]) ++ [Cell.dk (dkv c st1.length 0 (.int 0))]) := by
      unfold dispV
      simp only [kvsP, keyK]
      rw [if_pos (by simp)]
      unfold newC
      rw [l1]
      rfl
    rw [l2]
    simp [m__law_begin, runB, sSeq, sAsg, bnd, hcell, gSet, Mi.ret, thenS, sRet, xDisp, pCons, pNil, xC, xVar, hmk, hdk]
  · rw [l2]
    refine ⟨?_, ?_, ?_, by omega, by omega, by omega, hlen, hpos, hfew, by decide⟩
    · rw [List.getElem?_append_right (by omega), l1]
      simp
    · rw [List.getElem?_append_left (by omega), List.getElem?_append_left hlt]
      exact hc
    · rw [List.getElem?_append_left (by omega), List.getElem?_append_right (Nat.le_refl _)]
      simp
end Lw
namespace Lw
open PySem PySem.Spec L2 Mi
/-! ### sums in least terms -/
theorem cop_lin {x y : Int} {β : Nat} (h : x.natAbs.Coprime β) : (x + y * (β : Int)).natAbs.Coprime β := by
  have hx : Nat.gcd (x + y * (β : Int)).natAbs β ∣ x.natAbs := by
    have h1 : ((Nat.gcd (x + y * (β : Int)).natAbs β : Nat) : Int) ∣ x + y * (β : Int) := by
      rw [← Int.dvd_natAbs]; exact Int.natCast_dvd_natCast.mpr (Nat.gcd_dvd_left _ _)
    have h2 : ((Nat.gcd (x + y * (β : Int)).natAbs β : Nat) : Int) ∣ y * (β : Int) :=
      Int.dvd_mul_of_dvd_right (Int.natCast_dvd_natCast.mpr (Nat.gcd_dvd_right _ _))
    have h3 := Int.dvd_sub h1 h2
    rw [Int.add_sub_cancel] at h3
    exact Int.ofNat_dvd_left.mp h3
  have : Nat.gcd (x + y * (β : Int)).natAbs β ∣ Nat.gcd x.natAbs β := Nat.dvd_gcd hx (Nat.gcd_dvd_right _ _)
  rw [h.gcd_eq_one] at this
  exact Nat.dvd_one.mp this
theorem frac_of {q : Rat} {n : Int} {d : Nat} (hd : 0 < d) (hc : n.natAbs.Coprime d) (h : q = Rat.divInt n d) : frac q = .tup [.int n, .int d] := by
  have e : q = { num := n, den := d, den_nz := by omega, reduced := hc } := by rw [h, Rat.mk_eq_divInt]
  rw [e]
  rfl
theorem add_frac (p q : Rat) : ∃ (g β δ r : Nat) (ω : Int), g = Nat.gcd p.den q.den ∧ p.den / g = β ∧ q.den / g = δ ∧ 0 < g ∧ 0 < r ∧ r = Nat.gcd (p.num * (δ : Int) + q.num * (β : Int)).natAbs g ∧ (p.num * (δ : Int) + q.num * (β : Int)) / (r : Int) = ω ∧ frac (p + q) = .tup [.int ω, .int ((β : Int) * ((q.den / r : Nat) : Int))] := by
  have pd : 0 < p.den := p.den_pos
  have qd : 0 < q.den := q.den_pos
  have hg : 0 < Nat.gcd p.den q.den := Nat.gcd_pos_of_pos_left _ pd
  obtain ⟨β, hβ⟩ := Nat.gcd_dvd_left p.den q.den
  obtain ⟨δ, hδ⟩ := Nat.gcd_dvd_right p.den q.den
  have eβ : p.den / Nat.gcd p.den q.den = β := Nat.div_eq_of_eq_mul_right hg hβ
  have eδ : q.den / Nat.gcd p.den q.den = δ := Nat.div_eq_of_eq_mul_right hg hδ
  have cβδ : Nat.Coprime β δ := by
    have := Nat.coprime_div_gcd_div_gcd hg
    rwa [eβ, eδ] at this
  have cp : p.num.natAbs.Coprime β := p.reduced.coprime_dvd_right ⟨Nat.gcd p.den q.den, by rw [Nat.mul_comm]; exact hβ⟩
  have cq : q.num.natAbs.Coprime δ := q.reduced.coprime_dvd_right ⟨Nat.gcd p.den q.den, by rw [Nat.mul_comm]; exact hδ⟩
  generalize hgg : Nat.gcd p.den q.den = g at *
  have hr : 0 < Nat.gcd (p.num * (δ : Int) + q.num * (β : Int)).natAbs g := Nat.gcd_pos_of_pos_right _ hg
  have w1 : (p.num * (δ : Int) + q.num * (β : Int)).natAbs.Coprime β := cop_lin (by rw [Int.natAbs_mul, Int.natAbs_natCast]; exact cp.mul_left cβδ.symm)
  have w2 : (p.num * (δ : Int) + q.num * (β : Int)).natAbs.Coprime δ := by
    rw [Int.add_comm]
    exact cop_lin (by rw [Int.natAbs_mul, Int.natAbs_natCast]; exact cq.mul_left cβδ)
  have hsum := add_divInt p q
  generalize hw : p.num * (δ : Int) + q.num * (β : Int) = w at *
  obtain ⟨γ, hγ⟩ := Nat.gcd_dvd_right w.natAbs g
  have hωd : ((Nat.gcd w.natAbs g : Nat) : Int) ∣ w := by rw [← Int.dvd_natAbs]; exact Int.natCast_dvd_natCast.mpr (Nat.gcd_dvd_left _ _)
  obtain ⟨ω, hω⟩ := hωd
  have cωγ : ω.natAbs.Coprime γ := by
    have h := Nat.coprime_div_gcd_div_gcd hr
    have e1 : w.natAbs / Nat.gcd w.natAbs g = ω.natAbs := Nat.div_eq_of_eq_mul_right hr (by conv => lhs; rw [hω]
                                                                                            rw [Int.natAbs_mul, Int.natAbs_natCast])
    have e2 : g / Nat.gcd w.natAbs g = γ := Nat.div_eq_of_eq_mul_right hr hγ
    rwa [e1, e2] at h
  have hωw : ω.natAbs ∣ w.natAbs := ⟨Nat.gcd w.natAbs g, by
    conv => lhs; rw [hω]
    rw [Int.natAbs_mul, Int.natAbs_natCast, Nat.mul_comm]⟩
  generalize hrr : Nat.gcd w.natAbs g = r at *
  have eq1 : q.den / r = γ * δ := Nat.div_eq_of_eq_mul_right hr (by rw [hδ, hγ, Nat.mul_assoc])
  have hβ0 : 0 < β := by rcases Nat.eq_zero_or_pos β with z | z
                         · rw [z] at hβ; omega
                         · exact z
  have hδ0 : 0 < δ := by rcases Nat.eq_zero_or_pos δ with z | z
                         · rw [z] at hδ; omega
                         · exact z
  have hγ0 : 0 < γ := by rcases Nat.eq_zero_or_pos γ with z | z
                         · rw [z] at hγ; omega
                         · exact z
  refine ⟨g, β, δ, r, ω, rfl, eβ, eδ, hg, hr, by rw [hw, hrr], by rw [hw, hω]; exact Int.mul_ediv_cancel_left _ (by omega), ?_⟩
  rw [eq1]
  have e3 : ((β : Int) * ((γ * δ : Nat) : Int)) = ((β * (γ * δ) : Nat) : Int) := by simp
  rw [e3]
  refine frac_of (Nat.mul_pos hβ0 (Nat.mul_pos hγ0 hδ0)) ?_ ?_
  · exact (w1.coprime_dvd_left hωw).mul_right (cωγ.mul_right (w2.coprime_dvd_left hωw))
  · rw [hsum, Rat.divInt_eq_divInt_iff (Int.ne_of_gt (Int.mul_pos (by omega) (by omega))) (Int.ne_of_gt (by exact_mod_cast Nat.mul_pos hβ0 (Nat.mul_pos hγ0 hδ0)))]
    have hp : (p.den : Int) = (r : Int) * γ * β := by rw [hβ, hγ]; simp
    have hq : (q.den : Int) = (r : Int) * γ * δ := by rw [hδ, hγ]; simp
    have hw2 : p.num * (δ : Int) + q.num * (β : Int) = r * ω := hw.trans hω
    rw [hp, hq]
    have e4 : p.num * ((r : Int) * γ * δ) + q.num * ((r : Int) * γ * β) = (r * γ) * (r * ω) := by
      rw [← hw2, Int.mul_add]
      ac_rfl
    rw [e4]
    simp only [Int.natCast_mul]
    ac_rfl
end Lw
namespace Lw
open PySem PySem.Spec L2 Mi
theorem t_added {m n : Nat} (p q : Rat) (st : Store) (hp : Sm m p) (hq : Sm n q) (hmn : m + n ≤ 8000) : m_added [frac p, frac q] st = .ok (frac (p + q)) st := by
  have pd : 0 < p.den := p.den_pos
  have qd : 0 < q.den := q.den_pos
  have hm := sm_pos hp
  have hn := sm_pos hq
  obtain ⟨g, β, δ, r, ω, hg, hβ, hδ, g0, r0, hr, hω, e⟩ := add_frac p q
  have hgp : g ≤ p.den := by rw [hg]; exact Nat.gcd_le_left _ pd
  have hrg : r ≤ g := by rw [hr]; exact Nat.gcd_le_right _ g0
  have hβp : β ≤ p.den := by rw [← hβ]; exact Nat.div_le_self _ _
  have hδq : δ ≤ q.den := by rw [← hδ]; exact Nat.div_le_self _ _
  have hqr : q.den / r ≤ q.den := Nat.div_le_self _ _
  obtain ⟨ε, hε⟩ : ∃ ε, q.den / r = ε := ⟨_, rfl⟩
  rw [hε] at e hqr
  have P2 := hp.2
  have Q2 := hq.2
  have b1 := big_lt hm hp.1
  have b2 := big_lt hn hq.1
  have b3 : big (β : Int) < m := big_lt hm (by rw [Int.natAbs_natCast]; omega)
  have b4 : big (δ : Int) < n := big_lt hn (by rw [Int.natAbs_natCast]; omega)
  have b5 : big (g : Int) < m := big_lt hm (by rw [Int.natAbs_natCast]; omega)
  have b6 : big (r : Int) < m := big_lt hm (by rw [Int.natAbs_natCast]; omega)
  have b7 : big (ε : Int) < n := big_lt hn (by rw [Int.natAbs_natCast]; omega)
  have c1 : big p.num + big (δ : Int) < 1000000 := by omega
  have c2 : big q.num + big (β : Int) < 1000000 := by omega
  have c3 : big (β : Int) + big (ε : Int) < 1000000 := by omega
  have c5 : big (g : Int) < 9000 := by omega
  have c6 : big (r : Int) < 9000 := by omega
  have d1 : (p.den : Int) / (g : Int) = (β : Int) := by rw [← hβ]; exact (Int.natCast_ediv _ _).symm
  have d2 : (q.den : Int) / (g : Int) = (δ : Int) := by rw [← hδ]; exact (Int.natCast_ediv _ _).symm
  have d3 : (q.den : Int) / (r : Int) = (ε : Int) := by rw [← hε]; exact (Int.natCast_ediv _ _).symm
  have g1 : (0 : Int) < (g : Int) := by omega
  have r1 : (0 : Int) < (r : Int) := by omega
  have s1 : gcdV [.int (p.den : Int), .int (q.den : Int)] st = .ok (.int (g : Int)) st := by
    unfold gcdV; simp [Mi.ret, hg]
  have s2 : gcdV [.int (p.num * (δ : Int) + q.num * (β : Int)), .int (g : Int)] st = .ok (.int (r : Int)) st := by
    unfold gcdV; simp [Mi.ret, hr]
  have f1 : fdivV (.int (p.den : Int)) (.int (g : Int)) st = .ok (.int (β : Int)) st := by unfold fdivV; dsimp only; rw [if_pos ⟨g1, c5⟩, d1]; rfl
  have f2 : fdivV (.int (q.den : Int)) (.int (g : Int)) st = .ok (.int (δ : Int)) st := by unfold fdivV; dsimp only; rw [if_pos ⟨g1, c5⟩, d2]; rfl
  have f3 : fdivV (.int (p.num * (δ : Int) + q.num * (β : Int))) (.int (r : Int)) st = .ok (.int ω) st := by unfold fdivV; dsimp only; rw [if_pos ⟨r1, c6⟩, hω]; rfl
  have f4 : fdivV (.int (q.den : Int)) (.int (r : Int)) st = .ok (.int (ε : Int)) st := by unfold fdivV; dsimp only; rw [if_pos ⟨r1, c6⟩, d3]; rfl
  have u1 : mulV (.int p.num) (.int (δ : Int)) st = .ok (.int (p.num * (δ : Int))) st := by unfold mulV; dsimp only; rw [if_pos c1]; rfl
  have u2 : mulV (.int q.num) (.int (β : Int)) st = .ok (.int (q.num * (β : Int))) st := by unfold mulV; dsimp only; rw [if_pos c2]; rfl
  have u3 : mulV (.int (β : Int)) (.int (ε : Int)) st = .ok (.int ((β : Int) * (ε : Int))) st := by unfold mulV; dsimp only; rw [if_pos c3]; rfl
  rw [e]
  simp [frac, m_added, runB, sSeq, sAsg, sRet, bnd, x2, xA, aCons, aNil, xVar, tgTup, tgCons, tgNil, gSet, thenS, Mi.ret, s1, s2, f1, f2, f3, f4, u1, u2, u3, addV, tupV, sizeTop]
end Lw
namespace Lw
open PySem PySem.Spec L2 Mi
theorem frac0 : frac 0 = .tup p_NOUGHT := rfl
theorem sm_zero {n : Nat} (h : 0 < n) : Sm n 0 := ⟨by simp; exact Nat.pow_pos (by decide), by
  show 1 < 2 ^ n
  exact Nat.one_lt_two_pow (by omega)⟩
theorem sm_sumR {s : Nat} : ∀ (qs : List Rat), (∀ q ∈ qs, Sm s q) → Sm (1 + qs.length * (s + 1)) (sumR qs)
  | [], _ => sm_zero (by omega)
  | q :: qs, h => by
    rw [sumR_cons]
    have h1 := h q (by simp)
    have h2 := sm_sumR qs fun x hx => h x (List.mem_cons_of_mem _ hx)
    refine (sm_add h1 h2).mono ?_
    simp only [List.length_cons, Nat.add_mul]
    omega
def wSum (L : List (Rat × Nat)) : Nat := (L.map fun x => x.2 + 1).sum
def addW (x y : Rat × Nat) : Rat × Nat := (x.1 + y.1, x.2 + y.2 + 1)
theorem round_sum : ∀ L : List (Rat × Nat), sumR ((round addW L).map (·.1)) = sumR (L.map (·.1)) ∧ wSum (round addW L) = wSum L
  | [] => ⟨rfl, rfl⟩
  | [x] => by simp [round]
  | x :: y :: r => by
    have h := round_sum r
    constructor
    · simp only [round, List.map_cons, sumR_cons, h.1, addW, Rat.add_assoc]
    · have := h.2
      simp only [wSum, round, List.map_cons, List.sum_cons, addW] at this ⊢
      omega
theorem wSum_le : ∀ {L : List (Rat × Nat)} {x : Rat × Nat}, x ∈ L → x.2 + 1 ≤ wSum L
  | [], x, h => by simp at h
  | y :: L, x, h => by
    simp only [wSum, List.map_cons, List.sum_cons]
    rcases List.mem_cons.mp h with e | e
    · subst e; omega
    · have := wSum_le e
      unfold wSum at this
      omega
theorem t_added_up {s : Nat} (qs : List Rat) (l : Nat) (st : Store) (hl : st[l]? = some (.lst (qs.map frac))) (hq : ∀ q ∈ qs, Sm s q) (hb : qs.length * (s + 1) ≤ 4000) : Ok (m_added_up [.loc l] st) st (frac (sumR qs)) := by
  have hlen : qs.length ≤ 4000 := by
    have : qs.length * 1 ≤ qs.length * (s + 1) := Nat.mul_le_mul_left _ (by omega)
    omega
  have d0 : Mi.dtAt l st = none := by unfold Mi.dtAt; rw [hl]
  have e0 : listA [.loc l] st = .ok (.loc st.length) (st ++ [.lst (qs.map frac)]) := by
    unfold listA
    dsimp only
    rw [d0]
    unfold listV
    dsimp only
    rw [gl hl]
    rfl
  have g1 := Gr.new st (.lst (qs.map frac))
  have n1 := at_new st (.lst (qs.map frac))
  generalize hs1 : st ++ [Cell.lst (qs.map frac)] = st1 at *
  obtain ⟨env', st', n', ys, ws, e1, g2, el, q1, q2, q3, ⟨q4, q4'⟩, q5, q6⟩ := rounds_ok (a := 3) (g := m_added) (env := [some (.loc l), some (.loc st.length), none, none]) (st0 := st1) (n := st.length) (xs := qs.map fun q => (q, s)) (vs := qs.map frac) (f := addW) (R := fun (_ : Store) (x : Rat × Nat) (v : PV) => v = frac x.1 ∧ Sm x.2 x.1)
    (fun L => sumR (L.map (·.1)) = sumR qs ∧ wSum L ≤ 4000) (fun {_ _ _ _} _ h => h) (by decide) (by simp) (by simp) rfl n1 ⟨by simp, fun i x v h1 h2 => by
      rw [List.getElem?_map] at h1 h2
      cases h : qs[i]? with
      | none => rw [h] at h1; cases h1
      | some q =>
        rw [h] at h1 h2
        cases h1; cases h2
        exact ⟨rfl, hq q (List.mem_of_getElem? h)⟩⟩ (by simp; omega) ⟨by rw [List.map_map]; exact congrArg sumR (List.map_id qs), by
      have : ∀ L : List Rat, wSum (L.map fun q => (q, s)) = L.length * (s + 1) := fun L => by
        induction L with
        | nil => simp [wSum]
        | cons q L ih =>
          unfold wSum at ih ⊢
          simp only [List.map_cons, List.sum_cons, ih, List.length_cons, Nat.add_mul]
          omega
      rw [this]; exact hb⟩ (fun L h _ => by rw [(round_sum L).1, (round_sum L).2]; exact h) fun L h i st' x y v w _ hx hy hv hw => by
      have h1 := wSum_le (List.mem_of_getElem? hx)
      have h2 := wSum_le (List.mem_of_getElem? hy)
      have := h.2
      refine ⟨_, st', by rw [hv.1, hw.1]; exact t_added x.1 y.1 st' hv.2 hw.2 (by omega), Gr.refl _, rfl, sm_add hv.2 hw.2⟩
  refine ⟨st', ?_, g1.trans g2⟩
  have e1' : sWhile (asB (x2 gtV (xA lenV (aCons (xVar 1) aNil)) (xC (.int (1)))))
      (sSeq (sAsg (xLc fu [3] (xRng rng3 (aCons (xC (.int (0))) (aCons (x2 subV (xA lenV (aCons (xVar 1) aNil)) (xC (.int (1)))) (aCons (xC (.int (2))) aNil)))) (gSet 3) bYes (xCallN 2 m_added (aCons (x2 ixA (xVar 1) (xVar 3)) (aCons (x2 ixA (xVar 1) (x2 addV (xVar 3) (xC (.int (1))))) aNil)))) (gSet 2))
      (sAsg (x2 addV (xVar 2) (xSl (xVar 1) (oSome (x2 mulV (xC (.int (2))) (xA lenV (aCons (xVar 2) aNil)))) oNone)) (gSet 1))) fu [some (.loc l), some (.loc st.length), none, none] st1 = .ok (.nx env') st' := e1
  have tail : vIf (xTru (xVar 1)) (x2 ixA (xVar 1) (xC (.int (0)))) (xC (.tup p_NOUGHT)) env' st' = .ok (frac (sumR qs)) st' := by
    have hlw := q3.1
    cases ys with
    | nil =>
      have : ws = [] := List.eq_nil_of_length_eq_zero (by rw [← hlw]; rfl)
      subst this
      rw [← q4]
      simp [vIf, xTru, xv q1, bnd, truV, gl q2, xC, Mi.ret]
      exact frac0
    | cons y r =>
      have : r = [] := by
        simp at q5
        exact q5
      subst this
      cases ws with
      | nil => simp at hlw
      | cons w r2 =>
        have : r2 = [] := List.eq_nil_of_length_eq_zero (by simpa using hlw.symm)
        subst this
        have hw := q3.2 0 y w rfl rfl
        have := ix_at (i := 0) (j := 0) (v := w) q2 rfl rfl
        simp [vIf, xTru, xv q1, bnd, truV, gl q2, xC, Mi.ret, x2, this]
        rw [hw.1, ← q4]
        simp [sumR_one]
  simp only [m_added_up, runB, sSeq, sAsg, sRet, bnd, xA, aCons, aNil, xVar, Mi.ret, gSet, thenS] at e1' ⊢
  simp [e0, List.replicate]
  rw [bnd_ok e1']
  simp [thenS, sRet, bnd, tail, Mi.ret]
theorem t__law_under {m n : Nat} (p q : Rat) (st : Store) (hp : Sm m p) (hq : Sm n q) (hmn : m + n ≤ 900000) : m__law_under [frac p, frac q] st = .ok (.bl (decide (p < q))) st := t_is_under p q st hp hq hmn
theorem t__law_plus {m n : Nat} (p q : Rat) (st : Store) (hp : Sm m p) (hq : Sm n q) (hmn : m + n ≤ 8000) : m__law_plus [frac p, frac q] st = .ok (frac (p + q)) st := by
  have pd : 0 < p.den := p.den_pos
  have qd : 0 < q.den := q.den_pos
  have hm := sm_pos hp
  have hn := sm_pos hq
  have b1 := big_lt hm hp.1
  have b2 := big_lt hn hq.1
  have b3 : big (p.den : Int) < m := big_lt hm (by simpa using hp.2)
  have b4 : big (q.den : Int) < n := big_lt hn (by simpa using hq.2)
  have c1 : big p.num + big (q.den : Int) < 1000000 := by omega
  have c2 : big q.num + big (p.den : Int) < 1000000 := by omega
  have c3 : big (p.den : Int) + big (q.den : Int) < 1000000 := by omega
  have hbp : (0 : Int) < (p.den : Int) * (q.den : Int) := Int.mul_pos (by omega) (by omega)
  have h1 : p.num.natAbs * q.den < 2 ^ (m + n) := by rw [Nat.pow_add]; exact Nat.mul_lt_mul'' hp.1 hq.2
  have h2 : q.num.natAbs * p.den < 2 ^ (m + n) := by rw [Nat.pow_add, Nat.mul_comm (2 ^ m)]; exact Nat.mul_lt_mul'' hq.1 hp.2
  have h4 : p.den * q.den < 2 ^ (m + n) := by rw [Nat.pow_add]; exact Nat.mul_lt_mul'' hp.2 hq.2
  have h3 : (p.num * (q.den : Int) + q.num * (p.den : Int)).natAbs < 2 ^ (m + n + 1) := by
    have a1 : (p.num * (q.den : Int)).natAbs = p.num.natAbs * q.den := by rw [Int.natAbs_mul, Int.natAbs_natCast]
    have a2 : (q.num * (p.den : Int)).natAbs = q.num.natAbs * p.den := by rw [Int.natAbs_mul, Int.natAbs_natCast]
    have a3 := Int.natAbs_add_le (p.num * (q.den : Int)) (q.num * (p.den : Int))
    rw [Nat.pow_succ]
    omega
  have h5 : ((p.den : Int) * (q.den : Int)).natAbs < 2 ^ (m + n + 1) := by
    rw [Int.natAbs_mul, Int.natAbs_natCast, Int.natAbs_natCast, Nat.pow_succ]
    omega
  have mk := t__law_ratio (p.num * (q.den : Int) + q.num * (p.den : Int)) ((p.den : Int) * (q.den : Int)) st hbp h3 h5 (by omega)
  rw [← add_divInt] at mk
  simp [m__law_plus, runB, sRet, bnd, x2, xVar, xC, Mi.ret, aCons, aNil, xCallN, callM, ixA, ixV, atI, ixN, optV, frac, mulV, addV, c1, c2, c3] at mk ⊢
  rw [mk]
theorem t__law_sum {s : Nat} (qs : List Rat) (l : Nat) (st : Store) (hl : st[l]? = some (.lst (qs.map frac))) (hq : ∀ q ∈ qs, Sm s q) (hb : 1 + qs.length * (s + 1) + s ≤ 7000) : m__law_sum [.loc l] st = .ok (frac (sumR qs)) st := by
  unfold m__law_sum runB sSeq sFor
  have hlen : qs.length * 1 ≤ qs.length * (s + 1) := Nat.mul_le_mul_left _ (by omega)
  obtain ⟨env', st', e1, rfl, x, rfl, _⟩ := for_ok (nx := nxL l) (g := gSet 2) (body := sAsg (xCallN 2 m__law_plus (aCons (xVar 1) (aCons (xVar 2) aNil))) (gSet 1)) (n := qs.length) (vf := fun i => frac ((qs[i]?).getD 0)) (env := [some (.loc l), some (.tup [.int 0, .int 1]), none]) (st := st)
    (fun i env st' => st' = st ∧ ∃ x, env = [some (.loc l), some (frac (sumR (qs.take i))), x] ∧ Sm (1 + i * (s + 1)) (sumR (qs.take i)))
    (fun i env st' hi h => by
      obtain ⟨rfl, _⟩ := h
      unfold nxL
      rw [gl hl]
      simp [hi])
    (fun env st' h => by
      obtain ⟨rfl, _⟩ := h
      unfold nxL
      rw [gl hl]
      simp)
    (fun i env st' hi h => by
      obtain ⟨rfl, x, rfl, hs⟩ := h
      have hq' := hq ((qs[i]?).getD 0) (by rw [List.getElem?_eq_getElem hi]; simp)
      have ad := t__law_plus (sumR (qs.take i)) ((qs[i]?).getD 0) st' hs hq' (by
        have : i * (s + 1) ≤ qs.length * (s + 1) := Nat.mul_le_mul_right _ (by omega)
        omega)
      have e : sumR (qs.take i) + (qs[i]?).getD 0 = sumR (qs.take (i + 1)) := by
        rw [List.take_succ, sumR_append]
        simp [hi, sumR_one]
      rw [e] at ad
      refine ⟨[some (.loc l), some (frac (sumR (qs.take (i + 1)))), some (frac ((qs[i]?).getD 0))], st', ?_, rfl, _, rfl, ?_⟩
      · simp [bnd, gSet, Mi.ret, sAsg, xCallN, aCons, aNil, xVar, callM, ad]
      · rw [← e]
        exact (sm_add hs hq').mono (by rw [Nat.add_mul]; omega))
    ⟨rfl, none, rfl, sm_zero (by omega)⟩ (by omega)
  rw [List.take_length] at e1
  have hit : xIt (xVar 0) [some (.loc l), some (.tup [.int 0, .int 1]), none] st' = .ok (nxL l) st' := by
    simp [xIt, xVar, bnd, itV, gl hl]
  simp [bnd, sAsg, xC, Mi.ret, gSet, thenS, hit, e1, sRet, xVar, xA, aCons, aNil, tupV, sizeTop]
end Lw
namespace Lw
open PySem PySem.Spec L2 Mi
theorem ap_ok {i : Nat} {e : Ev → M PV} {env : Ev} {st : Store} {n : Nat} {os : List PV} {v : PV} (h : env[i]? = some (some (.loc n))) (hn : st[n]? = some (.lst os)) (he : e env st = .ok v st) (hz : os.length < 1000000) :
    xMt appV (xVar i) (aCons e aNil) env st = .ok .non (st.set n (.lst (os ++ [v]))) := by
  have hz' : os.length < sizeTop := by unfold sizeTop; omega
  simp [xMt, bnd, xv h, chkL, gm hn, aCons, aNil, he, Mi.ret, appV, hz']
theorem set_at {st : Store} {n : Nat} {c d : Cell} (h : st[n]? = some c) : (st.set n d)[n]? = some d := by
  rw [List.getElem?_set_self (List.getElem?_eq_some_iff.mp h).1]
theorem mergeR_lt {x y : Rat} {r ys : List Rat} (h : y < x) : mergeR (x :: r) (y :: ys) = y :: mergeR (x :: r) ys := by
  simp [mergeR, h]
theorem mergeR_ge {x : Rat} {r ys : List Rat} (h : ∀ y, ys.head? = some y → ¬ y < x) : mergeR (x :: r) ys = x :: mergeR r ys := by
  cases ys with
  | nil => simp [mergeR]
  | cons y ys =>
    have := h y rfl
    simp [mergeR, this]
theorem t_merged {s : Nat} (xs ys : List Rat) (a b : Nat) (st : Store) (ha : st[a]? = some (.lst (xs.map frac))) (hb : st[b]? = some (.lst (ys.map frac))) (hx : ∀ q ∈ xs, Sm s q) (hy : ∀ q ∈ ys, Sm s q) (hs : s ≤ 8000) (hl : xs.length + ys.length < 100000) :
    OkL (m_merged [.loc a, .loc b] st) st ((mergeR xs ys).map frac) := by
  let Iw : Rat → List Rat → Ev → Store → Prop := fun x r env st' => Gr st st' ∧ ∃ (k : Nat) (o : List Rat), env = [some (.loc a), some (.loc b), some (.loc st.length), some (.int (k : Nat)), some (frac x)] ∧ k ≤ ys.length ∧ st'[st.length]? = some (.lst (o.map frac)) ∧ mergeR xs ys = o ++ mergeR (x :: r) (ys.drop k) ∧ o.length < 100000
  let If : Nat → Ev → Store → Prop := fun i env st' => Gr st st' ∧ ∃ (k : Nat) (o : List Rat) (z : Option PV), env = [some (.loc a), some (.loc b), some (.loc st.length), some (.int (k : Nat)), z] ∧ k ≤ ys.length ∧ st'[st.length]? = some (.lst (o.map frac)) ∧ mergeR xs ys = o ++ mergeR (xs.drop i) (ys.drop k) ∧ o.length < 100000
  have hlen := mergeR_len xs ys
  -- the inner loop
  have inner : ∀ (x : Rat) (r : List Rat), Sm s x → ∀ env st', Iw x r env st' → ∃ env2 st2, sWhile (bAnd (asB (x2 ltV (xVar 3) (xA lenV (aCons (xVar 1) aNil)))) (xTru (xCallN 2 m_is_under (aCons (x2 ixA (xVar 1) (xVar 3)) (aCons (xVar 4) aNil)))))
      (sSeq (sEx (xMt appV (xVar 2) (aCons (x2 ixA (xVar 1) (xVar 3)) aNil)))
      (sAug addI 3 (xC (.int (1))))) fu env st' = .ok (.nx env2) st2 ∧ Gr st st2 ∧ ∃ (k : Nat) (o : List Rat), env2 = [some (.loc a), some (.loc b), some (.loc st.length), some (.int (k : Nat)), some (frac x)] ∧ k ≤ ys.length ∧ st2[st.length]? = some (.lst (o.map frac)) ∧ mergeR xs ys = o ++ x :: mergeR r (ys.drop k) ∧ o.length + 1 < 100000 := by
    intro x r hsx env st' hI
    have cond : ∀ (k : Nat) st', Gr st st' → k ≤ ys.length → bAnd (asB (x2 ltV (xVar 3) (xA lenV (aCons (xVar 1) aNil)))) (xTru (xCallN 2 m_is_under (aCons (x2 ixA (xVar 1) (xVar 3)) (aCons (xVar 4) aNil)))) [some (.loc a), some (.loc b), some (.loc st.length), some (.int (k : Nat)), some (frac x)] st' = .ok (decide (∃ y, ys[k]? = some y ∧ y < x)) st' := by
      intro k st' g hk
      have hb' := g.at hb
      by_cases hlt : k < ys.length
      · have hy1 : ys[k]? = some ys[k] := List.getElem?_eq_getElem hlt
        have i1 := ix_at (i := (k : Int)) (j := k) (v := frac ys[k]) hb' rfl (by rw [List.getElem?_map, hy1]; rfl)
        have u1 := t_is_under ys[k] x st' (hy _ (List.getElem_mem hlt)) hsx (by omega)
        have e : decide (∃ y, ys[k]? = some y ∧ y < x) = decide (ys[k] < x) := decide_eq_decide.mpr ⟨fun ⟨y, h1, h2⟩ => by rw [hy1] at h1; cases h1; exact h2, fun h => ⟨_, hy1, h⟩⟩
        rw [e]
        simp [bAnd, asB, x2, xVar, bnd, xA, aCons, aNil, len_at hb', Mi.ret, ltV, cmpI, toB, hlt, xTru, xCallN, i1, callM_ok u1, truV]
      · have e : decide (∃ y, ys[k]? = some y ∧ y < x) = false := decide_eq_false fun ⟨y, h1, _⟩ => by
          have := (List.getElem?_eq_some_iff.mp h1).1
          omega
        rw [e]
        simp [bAnd, asB, x2, xVar, bnd, xA, aCons, aNil, len_at hb', Mi.ret, ltV, cmpI, toB, hlt]
    rcases while_inv (c := bAnd (asB (x2 ltV (xVar 3) (xA lenV (aCons (xVar 1) aNil)))) (xTru (xCallN 2 m_is_under (aCons (x2 ixA (xVar 1) (xVar 3)) (aCons (xVar 4) aNil))))) (body := (sSeq (sEx (xMt appV (xVar 2) (aCons (x2 ixA (xVar 1) (xVar 3)) aNil)))
      (sAug addI 3 (xC (.int (1)))))) (Iw x r) (fun env _ => match env with
        | [_, _, _, some (.int k), _] => ys.length - k.toNat
        | _ => 0) (fun _ _ => False) (fun env st' h => by
        obtain ⟨g, k, o, rfl, hk, ho, hm, hol⟩ := h
        refine ⟨_, st', cond k st' g hk, fun hbt => .inl ?_⟩
        obtain ⟨y, hy1, hyx⟩ := of_decide_eq_true hbt
        have hlt := (List.getElem?_eq_some_iff.mp hy1).1
        have hb' := g.at hb
        have i1 := ix_at (i := (k : Int)) (j := k) (v := frac y) hb' rfl (by rw [List.getElem?_map, hy1]; rfl)
        have hd : ys.drop k = y :: ys.drop (k + 1) := by
          rw [List.drop_eq_getElem_cons hlt]
          rw [List.getElem?_eq_getElem hlt] at hy1
          cases hy1; rfl
        have hm2 : mergeR xs ys = (o ++ [y]) ++ mergeR (x :: r) (ys.drop (k + 1)) := by
          rw [hm, hd, mergeR_lt hyx]; simp
        have hl2 : o.length + 1 < 100000 := by
          have := congrArg List.length hm2
          rw [hlen] at this
          simp at this
          omega
        have ap := ap_ok (i := 2) (e := x2 ixA (xVar 1) (xVar 3)) (env := [some (.loc a), some (.loc b), some (.loc st.length), some (.int (k : Nat)), some (frac x)]) (v := frac y) rfl ho (by simp [x2, bnd, xVar, i1]) (by rw [List.length_map]; omega)
        refine ⟨[some (.loc a), some (.loc b), some (.loc st.length), some (.int ((k + 1 : Nat) : Int)), some (frac x)], st'.set st.length (.lst (o.map frac ++ [frac y])), .inl ?_, ⟨g.set _ (Nat.le_refl _), k + 1, o ++ [y], rfl, hlt, ?_, hm2, by simpa using hl2⟩, ?_⟩
        · simp [sSeq, sEx, bnd, ap, Mi.ret, thenS, sAug, xVar, xC, addI]
        · rw [set_at ho]; simp
        · show ys.length - ((k + 1 : Nat) : Int).toNat < ys.length - (k : Int).toNat
          omega) fu env st' (by
        obtain ⟨g, k, o, rfl, hk, ho, hm, hol⟩ := hI
        show ys.length - (k : Int).toNat < fu
        unfold fu; omega) hI with ⟨env2, st0, st2, e1, ⟨g, k, o, rfl, hk, ho, hm, hol⟩, e2⟩ | ⟨v, st', _, z⟩
    · rw [cond k st0 g hk] at e2
      injection e2 with e2 e3
      subst e3
      have hno := of_decide_eq_false e2
      have hm2 : mergeR xs ys = o ++ x :: mergeR r (ys.drop k) := by
        rw [hm, mergeR_ge]
        intro y hy hyx
        rw [List.head?_drop] at hy
        exact hno ⟨y, hy, hyx⟩
      refine ⟨_, _, e1, g, k, o, rfl, hk, ho, hm2, ?_⟩
      have := congrArg List.length hm2
      rw [hlen] at this
      simp at this
      omega
    · exact z.elim
  -- the outer loop
  have n0 := at_new st (.lst [])
  have g0 := Gr.new st (.lst [])
  have out : newC (.lst []) st = .ok (.loc st.length) (st ++ [.lst []]) := rfl
  generalize hs1 : st ++ [Cell.lst []] = st1 at *
  obtain ⟨env', st', e1, g1, k, o, z, rfl, hk, ho, hm, hol⟩ := for_ok (nx := nxL a) (g := gSet 4) (body := sSeq (sWhile (bAnd (asB (x2 ltV (xVar 3) (xA lenV (aCons (xVar 1) aNil)))) (xTru (xCallN 2 m_is_under (aCons (x2 ixA (xVar 1) (xVar 3)) (aCons (xVar 4) aNil)))))
      (sSeq (sEx (xMt appV (xVar 2) (aCons (x2 ixA (xVar 1) (xVar 3)) aNil)))
      (sAug addI 3 (xC (.int (1))))) fu) (sEx (xMt appV (xVar 2) (aCons (xVar 4) aNil)))) (n := xs.length) (vf := fun i => frac ((xs[i]?).getD 0)) (env := [some (.loc a), some (.loc b), some (.loc st.length), some (.int 0), none]) (st := st1) If
    (fun i env st' hi h => by
      unfold nxL
      rw [gl (h.1.at ha)]
      simp [hi])
    (fun env st' h => by
      unfold nxL
      rw [gl (h.1.at ha)]
      simp)
    (fun i env st' hi h => by
      obtain ⟨g, k, o, z, rfl, hk, ho, hm, hol⟩ := h
      have hd : xs.drop i = xs[i] :: xs.drop (i + 1) := List.drop_eq_getElem_cons hi
      have hxi : (xs[i]?).getD 0 = xs[i] := by rw [List.getElem?_eq_getElem hi]; rfl
      rw [hxi]
      rw [hd] at hm
      obtain ⟨env2, st2, q1, q2, k2, o2, rfl, q3, q4, q5, q6⟩ := inner xs[i] (xs.drop (i + 1)) (hx _ (List.getElem_mem hi)) [some (.loc a), some (.loc b), some (.loc st.length), some (.int (k : Nat)), some (frac xs[i])] st' ⟨g, k, o, rfl, hk, ho, hm, hol⟩
      have ap := ap_ok (i := 2) (e := xVar 4) (env := [some (.loc a), some (.loc b), some (.loc st.length), some (.int (k2 : Nat)), some (frac xs[i])]) (v := frac xs[i]) rfl q4 rfl (by rw [List.length_map]; omega)
      refine ⟨_, st2.set st.length (.lst (o2.map frac ++ [frac xs[i]])), ?_, q2.set _ (Nat.le_refl _), k2, o2 ++ [xs[i]], some (frac xs[i]), rfl, q3, ?_, by rw [q5]; simp, by simp; omega⟩
      · show sSeq _ _ [some (.loc a), some (.loc b), some (.loc st.length), some (.int (k : Nat)), some (frac xs[i])] st' = _
        rw [seq_nx q1]
        simp [sEx, bnd, ap, Mi.ret]
      · rw [set_at q4]; simp)
    ⟨g0, 0, [], none, rfl, Nat.zero_le _, n0, by simp, by simp⟩ (by omega)
  have sl : newC (.lst (cutP (ys.map frac) (some (k : Int)) none)) st' = .ok (.loc st'.length) (st' ++ [.lst ((ys.drop k).map frac)]) := by rw [cut_drop, List.map_drop]; rfl
  have hb' := g1.at hb
  rw [List.drop_length] at hm
  have ho' := (Gr.new st' (.lst ((ys.drop k).map frac))).at ho
  have nw := at_new st' (.lst ((ys.drop k).map frac))
  have ad : addV (.loc st.length) (.loc st'.length) (st' ++ [.lst ((ys.drop k).map frac)]) = newC (.lst (o.map frac ++ (ys.drop k).map frac)) (st' ++ [.lst ((ys.drop k).map frac)]) := by
    unfold addV
    dsimp only
    rw [gm ho', gm nw]
    dsimp only
    rw [if_pos]
    simp only [List.length_map, List.length_drop]
    unfold sizeTop
    omega
  have e2 : (o.map frac ++ (ys.drop k).map frac) = (mergeR xs ys).map frac := by
    rw [hm]; simp [mergeR]
  rw [e2] at ad
  have e3 : m_merged [.loc a, .loc b] st = newC (.lst ((mergeR xs ys).map frac)) (st' ++ [.lst ((ys.drop k).map frac)]) := by
    have hit : xIt (xVar 0) [some (.loc a), some (.loc b), some (.loc st.length), some (.int 0), none] st1 = .ok (nxL a) st1 := by
      simp [xIt, xVar, bnd, itV, gl (g0.at ha)]
    have hfor : sFor fu (xIt (xVar 0)) (gSet 4) (sSeq (sWhile (bAnd (asB (x2 ltV (xVar 3) (xA lenV (aCons (xVar 1) aNil)))) (xTru (xCallN 2 m_is_under (aCons (x2 ixA (xVar 1) (xVar 3)) (aCons (xVar 4) aNil)))))
      (sSeq (sEx (xMt appV (xVar 2) (aCons (x2 ixA (xVar 1) (xVar 3)) aNil)))
      (sAug addI 3 (xC (.int (1))))) fu) (sEx (xMt appV (xVar 2) (aCons (xVar 4) aNil)))) [some (.loc a), some (.loc b), some (.loc st.length), some (.int 0), none] st1 = .ok (.nx [some (.loc a), some (.loc b), some (.loc st.length), some (.int (k : Nat)), z]) st' := by
      unfold sFor
      rw [bnd_ok hit]
      exact e1
    have hret : sRet (x2 addV (xVar 2) (xSl (xVar 1) (oSome (xVar 3)) oNone)) [some (.loc a), some (.loc b), some (.loc st.length), some (.int (k : Nat)), z] st' = .ok (.rt (.loc (st' ++ [Cell.lst ((ys.drop k).map frac)]).length)) ((st' ++ [.lst ((ys.drop k).map frac)]) ++ [.lst ((mergeR xs ys).map frac)]) := by
      simp only [sRet, x2, bnd, xVar, List.getElem?_cons_succ, List.getElem?_cons_zero, xSl, oSome, oNone, toI, Mi.ret, sliceV, gl hb', sl, ad]
      rfl
    unfold m_merged
    refine run_rt ?_
    show sSeq _ _ [some (.loc a), some (.loc b), none, none, none] st = _
    rw [seq_nx (st' := st1) (env' := [some (.loc a), some (.loc b), some (.loc st.length), none, none]) (by simp [sAsg, xA, aNil, bnd, Mi.ret, lstV, sizeTop, out, gSet]), seq_nx (st' := st1) (env' := [some (.loc a), some (.loc b), some (.loc st.length), some (.int 0), none]) (by simp [sAsg, xC, bnd, Mi.ret, gSet]), seq_nx hfor, hret]
  rw [e3]
  exact okL_new (g1.trans (Gr.new _ _)) _
end Lw
namespace Lw
open PySem PySem.Spec L2 Mi
theorem mergeR_perm : ∀ xs ys : List Rat, (mergeR xs ys).Perm (xs ++ ys)
  | [], ys => by simp [mergeR]
  | x :: xs, ys => by
    unfold mergeR
    have h := mergeR_perm xs (ys.dropWhile fun y => decide (y < x))
    refine (List.perm_middle).trans ?_
    rw [List.cons_append]
    refine List.Perm.cons x ?_
    refine (List.Perm.append_left _ h).trans ?_
    rw [← List.append_assoc]
    refine (List.Perm.append_right _ List.perm_append_comm).trans ?_
    rw [List.append_assoc, List.takeWhile_append_dropWhile]
theorem round_perm : ∀ L : List (List Rat), (round mergeR L).flatten.Perm L.flatten
  | [] => List.Perm.refl _
  | [x] => List.Perm.refl _
  | x :: y :: r => by
    simp only [round, List.flatten_cons]
    rw [← List.append_assoc]
    exact (mergeR_perm x y).append (round_perm r)
theorem round_asc : ∀ L : List (List Rat), (∀ x ∈ L, Asc x) → L.flatten.Nodup → ∀ x ∈ round mergeR L, Asc x
  | [], h, _, x, hx => h x hx
  | [y], h, _, x, hx => h x hx
  | y :: z :: r, h, hn, x, hx => by
    simp only [round, List.mem_cons] at hx
    simp only [List.flatten_cons] at hn
    have h1 := List.nodup_append.mp hn
    have h2 := List.nodup_append.mp h1.2.1
    rcases hx with e | e
    · rw [e]
      exact mergeR_asc y z (h y (by simp)) (h z (by simp)) fun q hq hz => h1.2.2 q hq q (List.mem_append_left _ hz) rfl
    · exact round_asc r (fun w hw => h w (by simp [hw])) h2.2.1 x e
theorem flat1 : ∀ qs : List Rat, (qs.map fun q => [q]).flatten = qs
  | [] => rfl
  | q :: qs => by simp only [List.map_cons, List.flatten_cons, flat1 qs]; rfl
theorem t_in_order {s : Nat} (qs : List Rat) (l : Nat) (st : Store) (hl : st[l]? = some (.lst (qs.map frac))) (hq : ∀ q ∈ qs, Sm s q) (hs : s ≤ 8000) (hn : qs.Nodup) (hz : qs.length < 50000) : OkR (m_in_order [.loc l] st) st ((sortR qs).map frac) := by
  let R : Store → List Rat → PV → Prop := fun st x v => ∃ n, v = .loc n ∧ st[n]? = some (.lst (x.map frac))
  have hR : ∀ {st st' : Store} {x : List Rat} {v : PV}, Gr st st' → R st x v → R st' x v := fun g ⟨n, h1, h2⟩ => ⟨n, h1, g.at h2⟩
  have hit : xIt (xVar 0) [some (.loc l), none, none, none, none] st = .ok (nxL l) st := by simp [xIt, xVar, bnd, itV, gl hl]
  obtain ⟨st1, m, zs, e0, g1, n1, r1⟩ := lc_rel (R := R) (ws := [3]) (g := gSet 3) (e := xA lstV (aCons (xVar 3) aNil)) (env := [some (.loc l), none, none, none, none]) (xs := qs.map fun q => [q]) hR hit hl (by simp) (by simp; omega) (fun i x v st' hx hv g => by
    rw [List.getElem?_map] at hx hv
    cases h : qs[i]? with
    | none => rw [h] at hx; cases hx
    | some q =>
      rw [h] at hx hv
      cases hx; cases hv
      exact ⟨_, .loc st'.length, st' ++ [.lst [frac q]], rfl, by simp [xA, aCons, aNil, bnd, xVar, wipeE, Mi.ret, lstV, sizeTop, newC], Gr.new _ _, st'.length, rfl, by rw [at_new]; rfl⟩)
  have pmem : ∀ L : List (List Rat), L.flatten.Perm qs → ∀ (i : Nat) x, L[i]? = some x → (∀ q ∈ x, Sm s q) := fun L h i x hx q hqx => hq q (h.mem_iff.mp (List.mem_flatten.mpr ⟨x, List.mem_of_getElem? hx, hqx⟩))
  have plen : ∀ L : List (List Rat), L.flatten.Perm qs → ∀ (i : Nat) x, L[i]? = some x → x.length ≤ qs.length := fun L h i x hx => by
    rw [← h.length_eq]
    exact (List.sublist_flatten_of_mem (List.mem_of_getElem? hx)).length_le
  obtain ⟨env', st', n', ys, ws, e1, g2, el, q1, q2, q3, ⟨q4, q4'⟩, q5, q6⟩ := rounds_ok (a := 4) (g := m_merged) (env := [some (.loc l), some (.loc m), none, none, none]) (st0 := st1) (n := m) (xs := qs.map fun q => [q]) (vs := zs) (f := mergeR) (R := R)
    (fun L => (∀ x ∈ L, Asc x) ∧ L.flatten.Perm qs) hR (by decide) (by simp) (by simp) rfl n1 r1 (by simp; omega) ⟨fun x hx => by
      obtain ⟨q, _, rfl⟩ := List.mem_map.mp hx
      exact List.pairwise_singleton _ _, by
      rw [flat1]⟩ (fun L h _ => ⟨round_asc L h.1 (h.2.nodup_iff.mpr hn), (round_perm L).trans h.2⟩) fun L h i st' x y v w _ hx hy hv hw => by
      obtain ⟨a, rfl, ha⟩ := hv
      obtain ⟨b, rfl, hb⟩ := hw
      have l1 := plen L h.2 _ _ hx
      have l2 := plen L h.2 _ _ hy
      obtain ⟨st2, c, k1, k2, _, k3⟩ := t_merged x y a b st' ha hb (pmem L h.2 _ _ hx) (pmem L h.2 _ _ hy) hs (by omega)
      exact ⟨_, st2, k1, k2, c, rfl, k3⟩
  have hlw := q3.1
  have hfirst : xLc fu [3] (xIt (xVar 0)) (gSet 3) bYes (xA lstV (aCons (xVar 3) aNil)) [some (.loc l), none, none, none, none] st = .ok (.loc m) st1 := e0
  cases ys with
  | nil =>
    have : ws = [] := List.eq_nil_of_length_eq_zero (by rw [← hlw]; rfl)
    subst this
    have hq0 : qs = [] := List.eq_nil_of_length_eq_zero (by rw [← q4'.length_eq]; rfl)
    have tail : vIf (xTru (xVar 1)) (x2 ixA (xVar 1) (xC (.int (0)))) (xA lstV aNil) env' st' = .ok (.loc st'.length) (st' ++ [.lst []]) := by
      simp [vIf, xTru, xv q1, bnd, truV, gl q2, xA, aNil, Mi.ret, lstV, sizeTop, newC]
    refine ⟨_, _, run_rt (st' := st' ++ [.lst []]) (v := .loc st'.length) ?_, (g1.trans g2).trans (Gr.new _ _), ?_⟩
    · show sSeq _ _ [some (.loc l), none, none, none, none] st = _
      rw [seq_nx (asg_ok hfirst)]
      show sSeq (xRounds 4 m_merged) _ [some (.loc l), some (.loc m), none, none, none] st1 = _
      rw [seq_nx e1, ret_ok tail]
    · rw [at_new, hq0]; rfl
  | cons y r =>
    have : r = [] := by
      simp at q5
      exact q5
    subst this
    cases ws with
    | nil => simp at hlw
    | cons w r2 =>
      have : r2 = [] := List.eq_nil_of_length_eq_zero (by simpa using hlw.symm)
      subst this
      obtain ⟨c, rfl, hc⟩ := q3.2 0 y w rfl rfl
      have ix := ix_at (i := 0) (j := 0) (v := .loc c) q2 rfl rfl
      have tail : vIf (xTru (xVar 1)) (x2 ixA (xVar 1) (xC (.int (0)))) (xA lstV aNil) env' st' = .ok (.loc c) st' := by
        simp [vIf, xTru, xv q1, bnd, truV, gl q2, xC, Mi.ret, x2, ix]
      refine ⟨st', c, run_rt ?_, g1.trans g2, ?_⟩
      · show sSeq _ _ [some (.loc l), none, none, none, none] st = _
        rw [seq_nx (asg_ok hfirst)]
        show sSeq (xRounds 4 m_merged) _ [some (.loc l), some (.loc m), none, none, none] st1 = _
        rw [seq_nx e1, ret_ok tail]
      · rw [hc]
        have e : y = sortR qs := sortR_eq (q4 y (by simp)) fun x => by
          have := q4'.mem_iff (a := x)
          simpa using this
        rw [e]
end Lw
namespace Lw
open PySem PySem.Spec L2 Mi
theorem subB_tup : subB "tuple" "tuple" = true := by decide
theorem subB_int : subB "int" "int" = true := by decide
theorem subB_intb : subB "int" "bool" = false := by decide
theorem subB_str : subB "str" "str" = true := by decide
theorem subB_strt : subB "str" "tuple" = false := by decide
theorem subB_stri : subB "str" "int" = false := by decide
theorem subB_tupi : subB "tuple" "int" = false := by decide
theorem subB_intt : subB "int" "tuple" = false := by decide
theorem t_is_integer (i : Int) (st : Store) : m_is_integer [.int i] st = .ok (.bl true) st := by
  simp [m_is_integer, runB, sRet, bnd, vAnd, vNot, asB, x1, xVar, isiV, tyN, subB_int, subB_intb, toB, Mi.ret]
theorem t_is_row (xs : List PV) (n : Nat) (st : Store) : m_is_row [.tup xs, .int (n : Nat)] st = .ok (.bl (decide (xs.length = n))) st := by
  simp [m_is_row, runB, sRet, bnd, vAnd, asB, x1, x2, xVar, isiV, tyN, subB_tup, toB, Mi.ret, xA, aCons, aNil, lenV, eqP_int, Int.ofNat_inj]
theorem t_is_row_within (xs : List PV) (m n : Nat) (st : Store) : m_is_row_within [.tup xs, .int (m : Nat), .int (n : Nat)] st = .ok (.bl (decide (m ≤ xs.length) && decide (xs.length ≤ n))) st := by
  by_cases h : m ≤ xs.length
  · simp [m_is_row_within, runB, sRet, bnd, vAnd, vChain, asB, x1, x2, xVar, isiV, tyN, subB_tup, toB, Mi.ret, xA, aCons, aNil, lenV, leV, cmpI, h]
  · simp [m_is_row_within, runB, sRet, bnd, vAnd, vChain, asB, x1, x2, xVar, isiV, tyN, subB_tup, toB, Mi.ret, xA, aCons, aNil, lenV, leV, cmpI, h]
theorem t_is_fraction (q : Rat) (st : Store) : m_is_fraction [frac q] st = .ok (.bl true) st := by
  have h1 := t_is_row [.int q.num, .int (q.den : Int)] 2 st
  have pd : 0 < q.den := q.den_pos
  have hg : Nat.gcd q.num.natAbs q.den = 1 := q.reduced
  simp at h1
  by_cases hd : (q.den : Int) = 1
  · simp [m_is_fraction, frac, runB, sSeq, sIf, sNop, sAsg, sRet, bnd, bNot, bOr, xTru, xCallN, aCons, aNil, xVar, xC, Mi.ret, callM, truV, thenS, tgTup, tgCons, tgNil, gSet, x1, isiV, tyN, subB_tup, subB_int, subB_intb, lenV, vAnd, vOr, asB, x2, gtV, cmpI, toB, pd, xA, gcdV, hg, eqP_int, hd]
  · simp [m_is_fraction, frac, runB, sSeq, sIf, sNop, sAsg, sRet, bnd, bNot, bOr, xTru, xCallN, aCons, aNil, xVar, xC, Mi.ret, callM, truV, thenS, tgTup, tgCons, tgNil, gSet, x1, isiV, tyN, subB_tup, subB_int, subB_intb, lenV, vAnd, vOr, asB, x2, gtV, cmpI, toB, pd, xA, gcdV, hg, eqP_int, hd]
theorem t_is_weight (q : Rat) (st : Store) (h : 0 < q) : m_is_weight [frac q] st = .ok (.bl true) st := by
  have hn : 0 < q.num := by
    have := (lt_num 0 q).mp h
    simpa using this
  have hf := t_is_fraction q st
  simp [m_is_weight, frac, runB, sRet, bnd, vAnd, asB, xCallN, aCons, aNil, xVar, xC, Mi.ret, callM, hf, toB, x2, ixA, ixV, atI, ixN, optV, gtV, cmpI, hn] at hf ⊢
theorem t_is_price (q : Rat) (st : Store) (h : 0 ≤ q) : m_is_price [frac q] st = .ok (.bl true) st := by
  have hn : 0 ≤ q.num := Rat.num_nonneg.mpr h
  have hf := t_is_fraction q st
  simp [m_is_price, frac, runB, sRet, bnd, vAnd, asB, xCallN, aCons, aNil, xVar, xC, Mi.ret, callM, hf, toB, x2, ixA, ixV, atI, ixN, optV, geV, cmpI, hn] at hf ⊢
/-! ### copies -/
def Pl : Nat → PV → Prop
  | 0, v => (∃ i, v = .int i) ∨ ∃ x, v = .str x
  | k + 1, v => (∃ i, v = .int i) ∨ (∃ x, v = .str x) ∨ ∃ xs, v = .tup xs ∧ xs.length < 100000 ∧ ∀ x ∈ xs, Pl k x
theorem Pl.mono : ∀ {k : Nat} {v : PV}, Pl k v → Pl (k + 1) v
  | 0, v, h => h.elim .inl fun h => .inr (.inl h)
  | k + 1, v, h => by
    rcases h with h | h | ⟨xs, h1, h2, h3⟩
    · exact .inl h
    · exact .inr (.inl h)
    · exact .inr (.inr ⟨xs, h1, h2, fun x hx => (h3 x hx).mono⟩)
theorem Pl.le {j k : Nat} {v : PV} (h : Pl j v) (e : j ≤ k) : Pl k v := by
  induction e with
  | refl => exact h
  | step _ ih => exact ih.mono
theorem pl_int (i : Int) (k : Nat) : Pl k (.int i) := by cases k <;> exact .inl ⟨i, rfl⟩
theorem pl_str (x : Str) (k : Nat) : Pl k (.str x) := by
  cases k
  · exact .inr ⟨x, rfl⟩
  · exact .inr (.inl ⟨x, rfl⟩)
theorem pl_tup {xs : List PV} {k : Nat} (h : ∀ x ∈ xs, Pl k x) (hz : xs.length < 100000) : Pl (k + 1) (.tup xs) := .inr (.inr ⟨xs, rfl, hz, h⟩)
theorem pl_frac (q : Rat) : Pl 1 (frac q) := pl_tup (fun x hx => by
  rcases List.mem_cons.mp hx with h | h
  · rw [h]; exact pl_int _ _
  · rw [List.mem_singleton.mp h]; exact pl_int _ _) (by simp)
theorem cp_int (k : Nat) (i : Int) (st : Store) : mr_copied (k + 1) [.int i] st = .ok (.int i) st := by
  simp [mr_copied, runB, sSeq, sIf, sNop, sRet, bnd, xTru, x1, xVar, isiV, tyN, subB_intt, truV, Mi.ret, thenS, xCallN, aCons, aNil, callM, t_is_integer, xA, intV, vIf]
theorem cp_str (k : Nat) (x : Str) (st : Store) : mr_copied (k + 1) [.str x] st = .ok (.str x) st := by
  have h : m_is_integer [.str x] st = .ok (.bl false) st := by
    simp [m_is_integer, runB, sRet, bnd, vAnd, vNot, asB, x1, xVar, isiV, tyN, subB_stri, toB, Mi.ret]
  simp [mr_copied, runB, sSeq, sIf, sNop, sRet, bnd, xTru, x1, xVar, isiV, tyN, subB_strt, truV, Mi.ret, thenS, xCallN, aCons, aNil, callM, h, vIf]
abbrev cpE (k : Nat) : Ev → M PV := vIf (bAnd (xTru (x1 (isiV "int") (xVar 1))) (bNot (xTru (x1 (isiV "bool") (xVar 1))))) (xA intV (aCons (xVar 1) aNil)) (xCallN 1 (mr_copied k) (aCons (xVar 1) aNil))
theorem cpE_call {k : Nat} {x : PV} {a : Option PV} {st st2 : Store} (hx : ∀ i, x ≠ .int i) (hb : ∀ b, x ≠ .bl b) (e : mr_copied k [x] st = .ok x st2) (hs : (∃ s, x = .str s) ∨ ∃ xs, x = .tup xs) : cpE k [a, some x] st = .ok x st2 := by
  rcases hs with ⟨s, rfl⟩ | ⟨xs, rfl⟩
  · simp [cpE, vIf, bAnd, bNot, xTru, x1, xVar, isiV, tyN, subB_stri, truV, Mi.ret, bnd, xCallN, aCons, aNil, callM_ok e]
  · simp [cpE, vIf, bAnd, bNot, xTru, x1, xVar, isiV, tyN, subB_tupi, truV, Mi.ret, bnd, xCallN, aCons, aNil, callM_ok e]
theorem cpE_int (k : Nat) (a : Option PV) (i : Int) (st : Store) : cpE k [a, some (.int i)] st = .ok (.int i) st := by
  simp [cpE, vIf, bAnd, bNot, xTru, x1, xVar, isiV, tyN, subB_int, subB_intb, truV, Mi.ret, bnd, xA, aCons, aNil, intV]
theorem cpE_ok {k : Nat} {x : PV} {a : Option PV} {st : Store} (h : Pl k x) (q : Ok (mr_copied (k + 1) [x] st) st x) : Ok (cpE (k + 1) [a, some x] st) st x := by
  obtain ⟨st2, e, g⟩ := q
  cases k with
  | zero =>
    rcases h with ⟨i, rfl⟩ | ⟨s, rfl⟩
    · exact ⟨st, cpE_int _ _ _ _, Gr.refl _⟩
    · exact ⟨st2, cpE_call (fun _ z => nomatch z) (fun _ z => nomatch z) e (.inl ⟨s, rfl⟩), g⟩
  | succ k =>
    rcases h with ⟨i, rfl⟩ | ⟨s, rfl⟩ | ⟨xs, rfl, _⟩
    · exact ⟨st, cpE_int _ _ _ _, Gr.refl _⟩
    · exact ⟨st2, cpE_call (fun _ z => nomatch z) (fun _ z => nomatch z) e (.inl ⟨s, rfl⟩), g⟩
    · exact ⟨st2, cpE_call (fun _ z => nomatch z) (fun _ z => nomatch z) e (.inr ⟨xs, rfl⟩), g⟩
theorem t_cp : ∀ (k : Nat) (v : PV) (st : Store), Pl k v → Ok (mr_copied (k + 1) [v] st) st v
  | 0, v, st, h => by
    rcases h with ⟨i, rfl⟩ | ⟨x, rfl⟩
    · exact ⟨st, cp_int 0 i st, Gr.refl _⟩
    · exact ⟨st, cp_str 0 x st, Gr.refl _⟩
  | k + 1, v, st, h => by
    rcases h with ⟨i, rfl⟩ | ⟨x, rfl⟩ | ⟨xs, rfl, hz, h⟩
    · exact ⟨st, cp_int _ i st, Gr.refl _⟩
    · exact ⟨st, cp_str _ x st, Gr.refl _⟩
    · obtain ⟨st', n, e1, g1, _, n1⟩ := lc_tup (xs := xs) (vs := [1]) (g := gSet 1) (c := bYes) (e := cpE (k + 1)) (env := [some (.tup xs), none]) (fi := xIt (xVar 0)) (st := st) (st0 := st) some (by simp [xIt, xVar, bnd, itV, Mi.ret]) (Gr.refl _) (fun x st' hx g => by
        obtain ⟨st2, e, g2⟩ := cpE_ok (a := some (.tup xs)) (h x hx) (t_cp k x st' (h x hx))
        exact ⟨[some (.tup xs), some x], true, st', rfl, rfl, Gr.refl _, (fun z => by cases z), fun _ => ⟨x, st2, e, g2, rfl⟩⟩) (by omega)
      rw [List.filterMap_some] at n1
      refine ⟨st', ?_, g1⟩
      have e2 : xA tupleV (aCons (xLc fu [1] (xIt (xVar 0)) (gSet 1) bYes (cpE (k + 1))) aNil) [some (.tup xs), none] st = .ok (.tup xs) st' := by
        simp [xA, aCons, aNil, bnd, e1, Mi.ret, tupleV, gl n1]
      unfold mr_copied
      refine run_rt ?_
      show sSeq _ _ [some (.tup xs), none] st = _
      refine seq_rt ?_
      simp only [sIf, bnd, xTru, x1, xVar, isiV, tyN, subB_tup, truV, Mi.ret, List.getElem?_cons_zero]
      rw [if_pos trivial]
      exact ret_ok e2
theorem t_copied {v : PV} (st : Store) (h : Pl 5 v) : Ok (m_copied [v] st) st v := t_cp 5 v st h
/-! ### ladders -/
def rungV (r : Rat × Rat) : PV := .tup [frac r.1, frac r.2]
def ladV (L : List (Rat × Rat)) : PV := .tup (L.map rungV)
structure LadOk (s : Nat) (L : List (Rat × Rat)) : Prop where
  len : L.length ≤ 10
  sm : ∀ r ∈ L, Sm s r.1 ∧ Sm s r.2
  pos : ∀ r ∈ L, 0 < r.2
  asc : Asc (L.map (·.1))
theorem t_is_rung (r : Rat × Rat) (st : Store) (h : 0 < r.2) : m_is_rung [rungV r] st = .ok (.bl true) st := by
  have h1 := t_is_row [frac r.1, frac r.2] 2 st
  simp at h1
  simp [m_is_rung, rungV, runB, sRet, bnd, vAnd, asB, xCallN, aCons, aNil, xVar, xC, Mi.ret, callM, h1, toB, x2, ixA, ixV, atI, ixN, optV, t_is_fraction, t_is_weight _ _ h]
theorem pl_lad {L : List (Rat × Rat)} (h : L.length < 100000) : Pl 5 (ladV L) := (pl_tup (k := 2) (fun x hx => by
  obtain ⟨r, _, rfl⟩ := List.mem_map.mp hx
  refine pl_tup (k := 1) (fun y hy => ?_) (by simp)
  rcases List.mem_cons.mp hy with e | e
  · rw [e]; exact pl_frac _
  · rw [List.mem_singleton.mp e]; exact pl_frac _) (by simpa using h)).le (by omega)
theorem t_wrong_rung {s : Nat} {L : List (Rat × Rat)} (st : Store) (h : LadOk s L) (hs : s ≤ 8000) : m_wrong_rung [ladV L] st = .ok .non st := by
  have hl := h.len
  have hit : xRng enuI (aCons (xVar 0) aNil) [some (ladV L), none, none] st = .ok (nxE (nxT (L.map rungV))) st := by simp [xRng, aCons, aNil, bnd, xVar, Mi.ret, enuI, ladV]
  obtain ⟨env', st', e1, rfl, x, y, rfl⟩ := for_ok (nx := nxE (nxT (L.map rungV))) (g := tgTup 2 (tgCons (gSet 1) (tgCons (gSet 2) tgNil))) (body := sSeq (sIf (bNot (xTru (xCallN 1 m_is_rung (aCons (xVar 2) aNil))))
      (sRet (xVar 1))
      sNop)
      (sIf (bAnd (asB (x2 gtV (xVar 1) (xC (.int (0))))) (bNot (xTru (xCallN 2 m_is_under (aCons (x2 ixA (x2 ixA (xVar 0) (x2 subV (xVar 1) (xC (.int (1))))) (xC (.int (0)))) (aCons (x2 ixA (xVar 2) (xC (.int (0)))) aNil))))))
      (sRet (xVar 1))
      sNop)) (n := L.length) (vf := fun i => .tup [.int (i : Nat), rungV ((L[i]?).getD (0, 0))]) (env := [some (ladV L), none, none]) (st := st)
    (fun i env st' => st' = st ∧ ∃ x y, env = [some (ladV L), x, y])
    (fun i env st' hi _ => by simp [nxE, nxT, hi])
    (fun env st' _ => by simp [nxE, nxT])
    (fun i env st' hi h0 => by
      obtain ⟨rfl, x, y, rfl⟩ := h0
      have e1 : (L[i]?).getD (0, 0) = L[i] := by rw [List.getElem?_eq_getElem hi]; rfl
      rw [e1]
      have hm := List.getElem_mem hi
      have r1 := t_is_rung L[i] st' (h.pos _ hm)
      refine ⟨[some (ladV L), some (.int (i : Nat)), some (rungV L[i])], st', ?_, rfl, _, _, rfl⟩
      by_cases h0 : i = 0
      · have r1' : m_is_rung [rungV L[0]] st' = .ok (.bl true) st' := by subst h0; exact r1
        subst h0
        simp [bnd, tgTup, tgCons, tgNil, gSet, Mi.ret, sSeq, sIf, bNot, xTru, xCallN, aCons, aNil, xVar, callM_ok r1', truV, sNop, thenS, bAnd, asB, x2, gtV, cmpI, toB, xC]
      · have hp : 0 < i := by omega
        have hlt : L[i - 1].1 < L[i].1 := by
          have := List.pairwise_iff_getElem.mp h.asc (i - 1) i (by simp; omega) (by simpa using hi) (by omega)
          simpa using this
        have hmp := List.getElem_mem (show i - 1 < L.length by omega)
        have u1 := t_is_under L[i - 1].1 L[i].1 st' (h.sm _ hmp).1 (h.sm _ hm).1 (by omega)
        rw [decide_eq_true hlt] at u1
        have a1 : ixA (ladV L) (.int ((i : Int) - 1)) st' = .ok (rungV L[i - 1]) st' := by
          have e : (i : Int) - 1 = ((i - 1 : Nat) : Int) := by omega
          rw [e]
          have hl1 : i - 1 < L.length := by omega
          simp [ixA, ladV, ixV, atI, ixN, optV, hl1, Mi.ret]
        have a2 : ∀ (r : Rat × Rat) st, ixA (rungV r) (.int 0) st = .ok (frac r.1) st := fun r st => rfl
        simp [bnd, tgTup, tgCons, tgNil, gSet, Mi.ret, sSeq, sIf, bNot, xTru, xCallN, aCons, aNil, xVar, callM_ok r1, truV, sNop, thenS, bAnd, asB, x2, gtV, cmpI, toB, xC, hp, subV, a1, a2, callM_ok u1])
    ⟨rfl, _, _, rfl⟩ (by omega)
  refine run_rt ?_
  show sSeq _ _ [some (ladV L), none, none] st' = _
  have hfor : sFor fu (xRng enuI (aCons (xVar 0) aNil)) (tgTup 2 (tgCons (gSet 1) (tgCons (gSet 2) tgNil))) (sSeq (sIf (bNot (xTru (xCallN 1 m_is_rung (aCons (xVar 2) aNil))))
      (sRet (xVar 1))
      sNop)
      (sIf (bAnd (asB (x2 gtV (xVar 1) (xC (.int (0))))) (bNot (xTru (xCallN 2 m_is_under (aCons (x2 ixA (x2 ixA (xVar 0) (x2 subV (xVar 1) (xC (.int (1))))) (xC (.int (0)))) (aCons (x2 ixA (xVar 2) (xC (.int (0)))) aNil))))))
      (sRet (xVar 1))
      sNop)) [some (ladV L), none, none] st' = .ok (.nx [some (ladV L), x, y]) st' := by
    unfold sFor
    rw [bnd_ok hit]
    exact e1
  rw [seq_nx hfor]
  rfl
theorem t_sure_ladder {s : Nat} {L : List (Rat × Rat)} (st : Store) (h : LadOk s L) (hs : s ≤ 8000) : Ok (m_sure_ladder [ladV L] st) st (ladV L) := by
  have hl := h.len
  have h1 := t_is_row_within (L.map rungV) 0 10 st
  have h2 := t_wrong_rung st h hs
  obtain ⟨st', h3, g⟩ := t_copied st (pl_lad (L := L) (by omega))
  refine ⟨st', ?_, g⟩
  simp [hl] at h1
  simp [ladV] at h2 h3 ⊢
  simp [m_sure_ladder, runB, sSeq, sIf, sNop, sRet, sAsg, bnd, bNot, xTru, xCallN, aCons, aNil, xVar, xC, Mi.ret, callM_ok h1, truV, thenS, callM_ok h2, gSet, asB, x2, notN, isNonB, toB, callM_ok h3]
theorem t_need_ladder {s : Nat} {L : List (Rat × Rat)} (st : Store) (h : LadOk s L) (hs : s ≤ 8000) : Ok (m_need_ladder [ladV L] st) st (ladV L) := by
  obtain ⟨st', h3, g⟩ := t_sure_ladder st h hs
  refine ⟨st', ?_, g⟩
  simp [m_need_ladder, runB, sSeq, sEx, sRet, bnd, xCallN, aCons, aNil, xVar, Mi.ret, callM_ok h3, thenS]
/-! ### scores -/
inductive Pc where
  | mark (m p : Rat)
  | str (lo hi p : Rat)
def pcV : Pc → PV
  | .mark m p => .tup [.str "mark", frac m, frac p]
  | .str lo hi p => .tup [.str "stretch", frac lo, frac hi, frac p]
def scV (S : List Pc) : PV := .tup (S.map pcV)
theorem t_as_score {s : Nat} {L : List (Rat × Rat)} (st : Store) (h : LadOk s L) (hs : s ≤ 8000) : Ok (m_as_score [ladV L] st) st (scV (L.map fun r => .mark r.1 r.2)) := by
  obtain ⟨st1, h3, g⟩ := t_sure_ladder st h hs
  have hl := h.len
  obtain ⟨st', n, e1, g1, _, n1⟩ := lc_tup (xs := L.map rungV) (vs := [1, 2]) (g := tgTup 2 (tgCons (gSet 1) (tgCons (gSet 2) tgNil))) (c := bYes) (e := xA tupV (aCons (xC (.str "mark")) (aCons (xVar 1) (aCons (xVar 2) aNil)))) (env := [some (ladV L), none, none]) (fi := xIt (xCallN 1 m_sure_ladder (aCons (xVar 0) aNil))) (st := st) (st0 := st1)
    (fun v => match v with
      | .tup [a, b] => some (.tup [.str "mark", a, b])
      | _ => none) (by simp [xIt, bnd, xCallN, aCons, aNil, xVar, Mi.ret, callM_ok h3]; rfl) g (fun x st' hx _ => by
    obtain ⟨r, hr, rfl⟩ := List.mem_map.mp hx
    exact ⟨[some (ladV L), some (frac r.1), some (frac r.2)], true, st', rfl, rfl, Gr.refl _, (fun z => by cases z), fun _ => ⟨_, st', by simp [xA, aCons, aNil, bnd, xC, xVar, Mi.ret, tupV, sizeTop], Gr.refl _, rfl⟩⟩) (by rw [List.length_map]; omega)
  refine ⟨st', ?_, g1⟩
  have e : (L.map rungV).filterMap (fun v => match v with
      | .tup [a, b] => some (.tup [.str "mark", a, b])
      | _ => none) = (L.map fun r => Pc.mark r.1 r.2).map pcV := by
    clear e1 n1 h3 h hl
    induction L with
    | nil => rfl
    | cons r L ih => simp only [List.map_cons, List.filterMap_cons, rungV, pcV, ih]
  rw [e] at n1
  refine run_rt (ret_ok ?_)
  show xA tupleV _ [some (ladV L), none, none] st = _
  simp [xA, aCons, aNil, bnd, e1, Mi.ret, tupleV, gl n1, scV]
end Lw
namespace Lw
open PySem PySem.Spec L2 Mi
/-! ### equality of plain values -/
mutual
def dt : PV → PyData
  | .non => .none
  | .bl b => .bool b
  | .int i => .int i
  | .str x => .str x
  | .tup xs => .tuple (dtL xs)
  | .loc _ => .none
  | .kl _ => .none
def dtL : List PV → List PyData
  | [] => []
  | x :: xs => dt x :: dtL xs
end
def At (v : PV) : Prop := v = .non ∨ (∃ i, v = .int i) ∨ ∃ x, v = .str x ∧ PyData.strOk x = true
def Pq : Nat → PV → Prop
  | 0, v => At v
  | k + 1, v => At v ∨ ∃ xs, v = .tup xs ∧ ∀ x ∈ xs, Pq k x
theorem Pq.mono : ∀ {k : Nat} {v : PV}, Pq k v → Pq (k + 1) v
  | 0, v, h => .inl h
  | k + 1, v, h => by
    rcases h with h | ⟨xs, h1, h2⟩
    · exact .inl h
    · exact .inr ⟨xs, h1, fun x hx => (h2 x hx).mono⟩
theorem Pq.le {j k : Nat} {v : PV} (h : Pq j v) (e : j ≤ k) : Pq k v := by
  induction e with
  | refl => exact h
  | step _ ih => exact ih.mono
theorem pq_at {v : PV} (h : At v) (k : Nat) : Pq k v := by
  cases k
  · exact h
  · exact .inl h
theorem pq_int (i : Int) (k : Nat) : Pq k (.int i) := pq_at (.inr (.inl ⟨i, rfl⟩)) k
theorem pq_str {x : Str} (h : PyData.strOk x = true) (k : Nat) : Pq k (.str x) := pq_at (.inr (.inr ⟨x, rfl, h⟩)) k
theorem pq_non (k : Nat) : Pq k .non := pq_at (.inl rfl) k
theorem pq_tup {xs : List PV} {k : Nat} (h : ∀ x ∈ xs, Pq k x) : Pq (k + 1) (.tup xs) := .inr ⟨xs, rfl, h⟩
theorem pq_frac (q : Rat) : Pq 1 (frac q) := pq_tup fun x hx => by
  rcases List.mem_cons.mp hx with h | h
  · rw [h]; exact pq_int _ _
  · rw [List.mem_singleton.mp h]; exact pq_int _ _
theorem all_dt {P : PV → Prop} {Q : PyData → Prop} (f : Nat → Option PyData) : ∀ xs : List PV, (∀ x ∈ xs, D0 f x = some (dt x)) → D0L f xs = some (dtL xs)
  | [], _ => rfl
  | x :: xs, h => by
    simp only [D0L, dtL, h x (by simp), all_dt (P := P) (Q := Q) f xs fun y hy => h y (List.mem_cons_of_mem _ hy)]
theorem lay_dt : ∀ xs : List PV, (∀ x ∈ xs, (dt x).canLay0 = true) → PyData.canLayAll0 (dtL xs) = true
  | [], _ => rfl
  | x :: xs, h => by simp only [dtL, PyData.canLayAll0, h x (by simp), lay_dt xs fun y hy => h y (List.mem_cons_of_mem _ hy), Bool.and_self]
theorem dep_dt {k : Nat} : ∀ xs : List PV, (∀ x ∈ xs, (dt x).depth ≤ k) → PyData.depthAll (dtL xs) ≤ k
  | [], _ => Nat.zero_le _
  | x :: xs, h => by
    simp only [dtL, PyData.depthAll]
    have := h x (by simp)
    have := dep_dt xs fun y hy => h y (List.mem_cons_of_mem _ hy)
    omega
theorem at_dt {v : PV} (f : Nat → Option PyData) (h : At v) : D0 f v = some (dt v) ∧ (dt v).canLay0 = true ∧ (dt v).depth = 0 := by
  rcases h with rfl | ⟨i, rfl⟩ | ⟨x, rfl, h⟩
  · exact ⟨rfl, rfl, rfl⟩
  · exact ⟨rfl, rfl, rfl⟩
  · exact ⟨rfl, by simpa [dt, PyData.canLay0] using h, rfl⟩
theorem pq_dt (f : Nat → Option PyData) : ∀ (k : Nat) (v : PV), Pq k v → D0 f v = some (dt v) ∧ (dt v).canLay0 = true ∧ (dt v).depth ≤ k
  | 0, v, h => ⟨(at_dt f h).1, (at_dt f h).2.1, Nat.le_of_eq (at_dt f h).2.2⟩
  | k + 1, v, h => by
    rcases h with h | ⟨xs, rfl, h⟩
    · exact ⟨(at_dt f h).1, (at_dt f h).2.1, by rw [(at_dt f h).2.2]; omega⟩
    · refine ⟨?_, ?_, ?_⟩
      · simp only [D0, all_dt (P := fun _ => True) (Q := fun _ => True) f xs fun x hx => (pq_dt f k x (h x hx)).1, dt]
      · simp only [dt, PyData.canLay0]
        exact lay_dt xs fun x hx => (pq_dt f k x (h x hx)).2.1
      · simp only [dt, PyData.depth]
        have := dep_dt xs fun x hx => (pq_dt f k x (h x hx)).2.2
        omega
theorem eqvAll_dt {P : PV → PV → Prop} : ∀ xs ys : List PV, (∀ x ∈ xs, ∀ y ∈ ys, (PyData.eqv (dt x) (dt y) = true ↔ x = y)) → (PyData.eqvAll (dtL xs) (dtL ys) = true ↔ xs = ys)
  | [], [], _ => by simp [dtL, PyData.eqvAll]
  | [], y :: ys, _ => by simp [dtL, PyData.eqvAll]
  | x :: xs, [], _ => by simp [dtL, PyData.eqvAll]
  | x :: xs, y :: ys, h => by
    simp only [dtL, PyData.eqvAll, Bool.and_eq_true, h x (by simp) y (by simp), eqvAll_dt (P := P) xs ys fun a ha b hb => h a (List.mem_cons_of_mem _ ha) b (List.mem_cons_of_mem _ hb), List.cons.injEq]
theorem at_eqv {v w : PV} (h : At v) (k : At w) : PyData.eqv (dt v) (dt w) = true ↔ v = w := by
  rcases h with rfl | ⟨i, rfl⟩ | ⟨x, rfl, _⟩ <;> rcases k with rfl | ⟨j, rfl⟩ | ⟨y, rfl, _⟩ <;> simp [dt, PyData.eqv]
theorem at_tup {v : PV} {ys : List PV} (h : At v) : (PyData.eqv (dt v) (dt (.tup ys)) = true ↔ v = .tup ys) ∧ (PyData.eqv (dt (.tup ys)) (dt v) = true ↔ .tup ys = v) := by
  rcases h with rfl | ⟨i, rfl⟩ | ⟨x, rfl, _⟩ <;> simp [dt, PyData.eqv]
theorem pq_eqv : ∀ (k : Nat) (v w : PV), Pq k v → Pq k w → (PyData.eqv (dt v) (dt w) = true ↔ v = w)
  | 0, v, w, h, g => at_eqv h g
  | k + 1, v, w, h, g => by
    rcases h with h | ⟨xs, rfl, h⟩
    · rcases g with g | ⟨ys, rfl, g⟩
      · exact at_eqv h g
      · exact (at_tup h).1
    · rcases g with g | ⟨ys, rfl, g⟩
      · exact (at_tup g).2
      · simp only [dt, PyData.eqv, PV.tup.injEq]
        exact eqvAll_dt (P := fun _ _ => True) xs ys fun x hx y hy => pq_eqv k x y (h x hx) (g y hy)
theorem shaped_pq {k : Nat} {v : PV} (h : Pq k v) (hk : k ≤ 60) : SeqAt.shaped (dt v) = true := by
  have h1 := pq_dt (fun _ => none) k v h
  unfold SeqAt.shaped
  rw [h1.2.1, Bool.true_and]
  exact decide_eq_true (by omega)
theorem eqP_eq {k : Nat} {v : PV} (neg : Bool) (st : Store) (h : Pq k v) (hk : k ≤ 60) : eqP neg v v st = .ok (.bl (!neg)) st := by
  have h1 := (pq_dt (flS st 4) k v h).1
  unfold eqP toD
  rw [h1]
  dsimp only
  rw [if_pos ⟨shaped_pq h hk, shaped_pq h hk⟩, (pq_eqv k v v h h).mpr rfl]
  cases neg <;> rfl
theorem eqP_ne {k : Nat} {v w : PV} (neg : Bool) (st : Store) (h : Pq k v) (g : Pq k w) (hk : k ≤ 60) (ne : v ≠ w) : eqP neg v w st = .ok (.bl neg) st := by
  have h1 := (pq_dt (flS st 4) k v h).1
  have g1 := (pq_dt (flS st 4) k w g).1
  have e : PyData.eqv (dt v) (dt w) = false := by
    cases z : PyData.eqv (dt v) (dt w) with
    | false => rfl
    | true => exact absurd ((pq_eqv k v w h g).mp z) ne
  unfold eqP toD
  rw [h1, g1]
  dsimp only
  rw [if_pos ⟨shaped_pq h hk, shaped_pq g hk⟩, e]
  cases neg <;> rfl
theorem ok_mark : PyData.strOk "mark" = true := by decide +kernel
theorem ok_str : PyData.strOk "stretch" = true := by decide +kernel
theorem eq_mm (neg : Bool) (st : Store) : eqP neg (.str "mark") (.str "mark") st = .ok (.bl (!neg)) st := eqP_eq (k := 0) neg st (pq_str ok_mark 0) (by decide)
theorem eq_ss (neg : Bool) (st : Store) : eqP neg (.str "stretch") (.str "stretch") st = .ok (.bl (!neg)) st := eqP_eq (k := 0) neg st (pq_str ok_str 0) (by decide)
theorem ms_ne : (PV.str "mark") ≠ .str "stretch" := fun h => by
  injection h with h
  exact absurd h (by decide)
theorem eq_ms (neg : Bool) (st : Store) : eqP neg (.str "mark") (.str "stretch") st = .ok (.bl neg) st := eqP_ne (k := 0) neg st (pq_str ok_mark 0) (pq_str ok_str 0) (by decide) ms_ne
theorem eq_sm (neg : Bool) (st : Store) : eqP neg (.str "stretch") (.str "mark") st = .ok (.bl neg) st := eqP_ne (k := 0) neg st (pq_str ok_str 0) (pq_str ok_mark 0) (by decide) ms_ne.symm
theorem frac_ne {p q : Rat} (h : p ≠ q) : frac p ≠ frac q := fun e => h (frac_inj e)
theorem eq_ff (neg : Bool) (p q : Rat) (st : Store) : eqP neg (frac p) (frac q) st = .ok (.bl (if neg then !decide (p = q) else decide (p = q))) st := by
  by_cases h : p = q
  · subst h
    rw [eqP_eq (k := 1) neg st (pq_frac p) (by decide)]
    cases neg <;> simp
  · rw [eqP_ne (k := 1) neg st (pq_frac p) (pq_frac q) (by decide) (frac_ne h)]
    cases neg <;> simp [h]
/-! ### scores that are such -/
def PcOk (s : Nat) : Pc → Prop
  | .mark m p => Sm s m ∧ Sm s p ∧ 0 ≤ p
  | .str lo hi p => Sm s lo ∧ Sm s hi ∧ Sm s p ∧ 0 ≤ p ∧ lo < hi
theorem t_is_piece {s : Nat} (p : Pc) (st : Store) (h : PcOk s p) (hs : s ≤ 8000) : m_is_piece [pcV p] st = .ok (.bl true) st := by
  cases p with
  | mark m p =>
    obtain ⟨h1, h2, h3⟩ := h
    have r := t_is_row [.str "mark", frac m, frac p] 3 st
    simp at r
    have c : m_is_called [pcV (.mark m p), .str "mark", .int 3] st = .ok (.bl true) st := by
      simp [m_is_called, pcV, runB, sRet, bnd, vAnd, asB, x1, x2, xCallN, aCons, aNil, xVar, xC, Mi.ret, callM, r, toB, ixA, ixV, atI, ixN, optV, isiV, tyN, subB_str, eq_mm]
    have f1 := t_is_fraction m st
    have f2 := t_is_price p st h3
    have a1 : ixA (pcV (.mark m p)) (.int 1) st = .ok (frac m) st := rfl
    have a2 : ixA (pcV (.mark m p)) (.int 2) st = .ok (frac p) st := rfl
    simp [m_is_piece, runB, sSeq, sIf, sRet, bnd, xTru, vAnd, asB, x2, xCallN, aCons, aNil, xVar, xC, Mi.ret, callM_ok c, truV, a1, a2, callM_ok f1, callM_ok f2, toB, thenS]
  | str lo hi p =>
    obtain ⟨h1, h2, h3, h4, h5⟩ := h
    have r3 := t_is_row [.str "stretch", frac lo, frac hi, frac p] 3 st
    have r4 := t_is_row [.str "stretch", frac lo, frac hi, frac p] 4 st
    simp at r3 r4
    have c : m_is_called [pcV (.str lo hi p), .str "mark", .int 3] st = .ok (.bl false) st := by
      simp [m_is_called, pcV, runB, sRet, bnd, vAnd, asB, x1, x2, xCallN, aCons, aNil, xVar, xC, Mi.ret, callM, r3, toB]
    have c4 : m_is_called [pcV (.str lo hi p), .str "stretch", .int 4] st = .ok (.bl true) st := by
      simp [m_is_called, pcV, runB, sRet, bnd, vAnd, asB, x1, x2, xCallN, aCons, aNil, xVar, xC, Mi.ret, callM, r4, toB, ixA, ixV, atI, ixN, optV, isiV, tyN, subB_str, eq_ss]
    have f1 := t_is_fraction lo st
    have f2 := t_is_fraction hi st
    have f3 := t_is_price p st h4
    have u := t_is_under lo hi st h1 h2 (by omega)
    rw [decide_eq_true h5] at u
    have a1 : ixA (pcV (.str lo hi p)) (.int 1) st = .ok (frac lo) st := rfl
    have a2 : ixA (pcV (.str lo hi p)) (.int 2) st = .ok (frac hi) st := rfl
    have a3 : ixA (pcV (.str lo hi p)) (.int 3) st = .ok (frac p) st := rfl
    simp [m_is_piece, runB, sSeq, sIf, sNop, sRet, bnd, xTru, bNot, bOr, asB, x2, xCallN, aCons, aNil, xVar, xC, Mi.ret, callM_ok c, callM_ok c4, truV, a1, a2, a3, callM_ok f1, callM_ok f2, callM_ok f3, callM_ok u, toB, thenS]
structure ScOk (s : Nat) (S : List Pc) : Prop where
  len : S.length ≤ 10
  ok : ∀ p ∈ S, PcOk s p
theorem pl_pc (p : Pc) : Pl 2 (pcV p) := by
  cases p with
  | mark m p =>
    refine pl_tup (k := 1) (fun y hy => ?_) (by simp)
    simp only [List.mem_cons, List.not_mem_nil, or_false] at hy
    rcases hy with e | e | e <;> rw [e]
    · exact pl_str _ _
    · exact pl_frac _
    · exact pl_frac _
  | str lo hi p =>
    refine pl_tup (k := 1) (fun y hy => ?_) (by simp)
    simp only [List.mem_cons, List.not_mem_nil, or_false] at hy
    rcases hy with e | e | e | e <;> rw [e]
    · exact pl_str _ _
    · exact pl_frac _
    · exact pl_frac _
    · exact pl_frac _
theorem pl_sc {S : List Pc} (h : S.length < 100000) : Pl 5 (scV S) := (pl_tup (k := 2) (fun x hx => by
  obtain ⟨r, _, rfl⟩ := List.mem_map.mp hx
  exact pl_pc r) (by simpa using h)).le (by omega)
theorem t_sure_score {s : Nat} {S : List Pc} (st : Store) (h : ScOk s S) (hs : s ≤ 8000) : Ok (m_sure_score [scV S] st) st (scV S) := by
  have hl := h.len
  obtain ⟨st2, h3, g⟩ := t_copied st (pl_sc (S := S) (by omega))
  refine ⟨st2, ?_, g⟩
  have h1 := t_is_row_within (S.map pcV) 0 10 st
  simp [hl] at h1
  have hit : xRng enuI (aCons (xVar 0) aNil) [some (scV S), none, none] st = .ok (nxE (nxT (S.map pcV))) st := by simp [xRng, aCons, aNil, bnd, xVar, Mi.ret, enuI, scV]
  obtain ⟨env', st', e1, rfl, x, y, rfl⟩ := for_ok (nx := nxE (nxT (S.map pcV))) (g := tgTup 2 (tgCons (gSet 1) (tgCons (gSet 2) tgNil))) (body := sIf (bNot (xTru (xCallN 1 m_is_piece (aCons (xVar 2) aNil))))
      (sRaise "BadScore" "number" (aCons (xVar 1) aNil))
      sNop) (n := S.length) (vf := fun i => .tup [.int (i : Nat), pcV ((S[i]?).getD (.mark 0 0))]) (env := [some (scV S), none, none]) (st := st)
    (fun i env st' => st' = st ∧ ∃ x y, env = [some (scV S), x, y])
    (fun i env st' hi _ => by simp [nxE, nxT, hi])
    (fun env st' _ => by simp [nxE, nxT])
    (fun i env st' hi h0 => by
      obtain ⟨rfl, x, y, rfl⟩ := h0
      have e1 : (S[i]?).getD (.mark 0 0) = S[i] := by rw [List.getElem?_eq_getElem hi]; rfl
      rw [e1]
      have r1 := t_is_piece S[i] st' (h.ok _ (List.getElem_mem hi)) hs
      refine ⟨[some (scV S), some (.int (i : Nat)), some (pcV S[i])], st', ?_, rfl, _, _, rfl⟩
      simp [bnd, tgTup, tgCons, tgNil, gSet, Mi.ret, sIf, bNot, xTru, xCallN, aCons, aNil, xVar, callM_ok r1, truV, sNop])
    ⟨rfl, _, _, rfl⟩ (by omega)
  refine run_rt ?_
  show sSeq _ _ [some (scV S), none, none] st' = _
  have hfor : sFor fu (xRng enuI (aCons (xVar 0) aNil)) (tgTup 2 (tgCons (gSet 1) (tgCons (gSet 2) tgNil))) (sIf (bNot (xTru (xCallN 1 m_is_piece (aCons (xVar 2) aNil))))
      (sRaise "BadScore" "number" (aCons (xVar 1) aNil))
      sNop) [some (scV S), none, none] st' = .ok (.nx [some (scV S), x, y]) st' := by
    unfold sFor
    rw [bnd_ok hit]
    exact e1
  rw [seq_nx (env' := [some (scV S), none, none]) (st' := st') (by simp [sIf, bnd, bNot, xTru, xCallN, aCons, aNil, xVar, xC, Mi.ret, scV, callM_ok h1, truV, sNop])]
  rw [seq_nx hfor, ret_ok (v := scV S) (st' := st2)]
  simp [xCallN, aCons, aNil, bnd, xVar, Mi.ret, callM_ok h3]
end Lw
namespace Lw
open PySem PySem.Spec L2 Mi
/-! ### dicts by fractions -/
def kq (q : Rat) : List Key := [.inl q.num, .inl (q.den : Int)]
def enc (x : Rat × Rat) : List Key × PV := (kq x.1, frac x.2)
def cellOf : List (Rat × Rat) → Cell
  | [] => .dk []
  | x :: D => .dt ((x :: D).map enc)
theorem kq_inj {p q : Rat} (h : kq p = kq q) : p = q := by
  unfold kq at h
  injection h with h1 h2
  injection h2 with h2 _
  injection h1 with h1
  injection h2 with h2
  exact Rat.ext h1 (by omega)
theorem kq_dec (p q : Rat) : decide (kq p = kq q) = decide (p = q) := decide_eq_decide.mpr ⟨kq_inj, fun h => by rw [h]⟩
theorem tupP_kq (q : Rat) : tupP (kq q) = frac q := rfl
theorem keys_frac (q : Rat) : keysT [.int q.num, .int (q.den : Int)] = some (kq q) := rfl
theorem dtAt_cell {st : Store} {d : Nat} {D : List (Rat × Rat)} (h : st[d]? = some (cellOf D)) : Mi.dtAt d st = some (D.map enc) := by
  unfold Mi.dtAt
  cases D with
  | nil => rw [h]; rfl
  | cons x D => rw [h]; rfl
def setR (D : List (Rat × Rat)) (m v : Rat) : List (Rat × Rat) := if m ∈ D.map (·.1) then D.map (fun x => if x.1 = m then (x.1, v) else x) else D ++ [(m, v)]
theorem setR_ne (D : List (Rat × Rat)) (m v : Rat) : setR D m v ≠ [] := by
  unfold setR
  split
  · rename_i h
    cases D with
    | nil => simp at h
    | cons x D => simp
  · simp
theorem putP_enc (D : List (Rat × Rat)) (m v : Rat) : putP (D.map enc) (kq m) (frac v) = (setR D m v).map enc := by
  have e : ((D.map enc).any fun kv => decide (kv.1 = kq m)) = decide (m ∈ D.map (·.1)) := by
    rw [Bool.eq_iff_iff, List.any_eq_true, decide_eq_true_eq]
    constructor
    · rintro ⟨x, hx, h⟩
      obtain ⟨y, hy, rfl⟩ := List.mem_map.mp hx
      exact List.mem_map.mpr ⟨y, hy, kq_inj (of_decide_eq_true h)⟩
    · intro h
      obtain ⟨y, hy, rfl⟩ := List.mem_map.mp h
      exact ⟨enc y, List.mem_map.mpr ⟨y, hy, rfl⟩, decide_eq_true rfl⟩
  unfold putP setR
  rw [e]
  by_cases h : m ∈ D.map (·.1)
  · rw [if_pos (decide_eq_true h), if_pos h, List.map_map, List.map_map]
    refine List.map_congr_left fun x _ => ?_
    show (if (enc x).1 = kq m then ((enc x).1, frac v) else enc x) = enc (if x.1 = m then (x.1, v) else x)
    by_cases hx : x.1 = m
    · have h2 : (enc x).1 = kq m := by rw [← hx]; rfl
      rw [if_pos h2, if_pos hx]
      rfl
    · have h2 : ¬ (enc x).1 = kq m := fun z => hx (kq_inj z)
      rw [if_neg h2, if_neg hx]
  · rw [if_neg (by simpa using h), if_neg h]
    simp [enc]
def totAt (ms : List (Rat × Rat)) (m : Rat) : Rat := sumR ((ms.filter fun x => decide (x.1 = m)).map (·.2))
/-- what the dict holds -/
structure Jd (ms D : List (Rat × Rat)) : Prop where
  nd : (D.map (·.1)).Nodup
  mem : ∀ m, m ∈ D.map (·.1) ↔ m ∈ ms.map (·.1)
  val : ∀ x ∈ D, x.2 = totAt ms x.1
  len : D.length ≤ ms.length
theorem totAt_none {ms : List (Rat × Rat)} {m : Rat} (h : m ∉ ms.map (·.1)) : totAt ms m = 0 := by
  unfold totAt
  have : (ms.filter fun x => decide (x.1 = m)) = [] := by
    rw [List.filter_eq_nil_iff]
    intro x hx
    simp only [decide_eq_true_eq]
    exact fun z => h (List.mem_map.mpr ⟨x, hx, z⟩)
  rw [this]; rfl
theorem totAt_snoc (ms : List (Rat × Rat)) (m p k : Rat) : totAt (ms ++ [(m, p)]) k = if m = k then totAt ms k + p else totAt ms k := by
  unfold totAt
  rw [List.filter_append, List.map_append, sumR_append]
  by_cases h : m = k
  · rw [if_pos h]
    simp [h, sumR_one]
  · rw [if_neg h]
    simp [h, sumR_nil, Rat.add_zero]
theorem find_enc (D : List (Rat × Rat)) (m : Rat) : getP (D.map enc) (kq m) = (D.find? fun x => decide (x.1 = m)).map fun x => frac x.2 := by
  unfold getP
  rw [List.find?_map]
  have : ((fun kv : List Key × PV => decide (kv.1 = kq m)) ∘ enc) = fun x => decide (x.1 = m) := by
    funext x
    simp only [Function.comp, enc]
    exact kq_dec _ _
  rw [this, Option.map_map]
  rfl
theorem Jd.get {ms D : List (Rat × Rat)} (J : Jd ms D) (m : Rat) : (getP (D.map enc) (kq m)).getD (.tup p_NOUGHT) = frac (totAt ms m) := by
  rw [find_enc]
  cases h : D.find? fun x => decide (x.1 = m) with
  | none =>
    have : m ∉ D.map (·.1) := fun z => by
      obtain ⟨x, hx, e⟩ := List.mem_map.mp z
      have := List.find?_eq_none.mp h x hx
      simp [e] at this
    rw [totAt_none fun z => this ((J.mem m).mpr z)]
    rfl
  | some x =>
    have h1 := List.mem_of_find?_eq_some h
    have h2 := List.find?_some h
    simp only [decide_eq_true_eq] at h2
    simp only [Option.map_some, Option.getD_some]
    rw [J.val x h1, h2]
theorem Jd.at {ms D : List (Rat × Rat)} (J : Jd ms D) {m : Rat} (hm : m ∈ ms.map (·.1)) : getP (D.map enc) (kq m) = some (frac (totAt ms m)) := by
  have h := J.get m
  cases g : getP (D.map enc) (kq m) with
  | some v => rw [g] at h; simp at h; rw [h]
  | none =>
    rw [find_enc] at g
    obtain ⟨x, hx, e⟩ := List.mem_map.mp ((J.mem m).mpr hm)
    have := List.find?_eq_none.mp (Option.map_eq_none_iff.mp g) x hx
    simp [e] at this
theorem Jd.step {ms D : List (Rat × Rat)} (J : Jd ms D) (m p : Rat) : Jd (ms ++ [(m, p)]) (setR D m (totAt ms m + p)) := by
  have keys : (setR D m (totAt ms m + p)).map (·.1) = if m ∈ D.map (·.1) then D.map (·.1) else D.map (·.1) ++ [m] := by
    unfold setR
    split
    · rw [List.map_map]
      refine List.map_congr_left fun x _ => ?_
      simp only [Function.comp]
      split <;> rfl
    · simp
  refine ⟨?_, fun k => ?_, fun x hx => ?_, ?_⟩
  · rw [keys]
    split
    · exact J.nd
    · rename_i h
      rw [List.nodup_append]
      refine ⟨J.nd, by simp, fun a ha b hb e => h ?_⟩
      rw [List.mem_singleton.mp hb] at e
      rw [← e]; exact ha
  · rw [keys, List.map_append, List.mem_append]
    split
    · rename_i h
      rw [J.mem k]
      constructor
      · exact .inl
      · rintro (z | z)
        · exact z
        · have : k = m := by simpa using z
          rw [this]; exact (J.mem m).mp h
    · rw [List.mem_append, J.mem k]
      simp
  · rw [totAt_snoc]
    unfold setR at hx
    split at hx
    · obtain ⟨y, hy, rfl⟩ := List.mem_map.mp hx
      by_cases e : y.1 = m
      · rw [if_pos e]
        simp only
        rw [if_pos e.symm, e]
      · rw [if_neg e, if_neg fun z => e z.symm]
        exact J.val y hy
    · rename_i h
      rcases List.mem_append.mp hx with z | z
      · have : m ≠ x.1 := fun w => h (by rw [w]; exact List.mem_map.mpr ⟨x, z, rfl⟩)
        rw [if_neg this]
        exact J.val x z
      · rw [List.mem_singleton.mp z]
        simp
  · have := congrArg List.length keys
    have h2 := J.len
    rw [List.length_map] at this
    rw [this]
    split <;> simp <;> omega
theorem fm_congr {α β : Type} {f g : α → Option β} : ∀ {xs : List α}, (∀ x ∈ xs, f x = g x) → xs.filterMap f = xs.filterMap g
  | [], _ => rfl
  | x :: xs, h => by rw [List.filterMap_cons, List.filterMap_cons, h x (by simp), fm_congr fun y hy => h y (List.mem_cons_of_mem _ hy)]
def marksOf (S : List Pc) : List (Rat × Rat) := S.filterMap fun p => match p with
  | .mark m p => some (m, p)
  | .str _ _ _ => none
theorem marksOf_len (S : List Pc) : (marksOf S).length ≤ S.length := List.length_filterMap_le _ _
theorem totAt_sm {s : Nat} {ms : List (Rat × Rat)} (h : ∀ x ∈ ms, Sm s x.2) (hl : ms.length ≤ 10) (m : Rat) : Sm (11 + 10 * s) (totAt ms m) := by
  have h1 := sm_sumR ((ms.filter fun x => decide (x.1 = m)).map (·.2)) (s := s) fun q hq => by
    obtain ⟨x, hx, rfl⟩ := List.mem_map.mp hq
    exact h x (List.mem_filter.mp hx).1
  refine h1.mono ?_
  rw [List.length_map]
  have : (ms.filter fun x => decide (x.1 = m)).length ≤ 10 := Nat.le_trans (List.length_filter_le _ _) hl
  have := Nat.mul_le_mul_right (s + 1) this
  omega
theorem ix_cell {st : Store} {d : Nat} {D ms : List (Rat × Rat)} (h : st[d]? = some (cellOf D)) (J : Jd ms D) {m : Rat} (hm : m ∈ ms.map (·.1)) : ixA (.loc d) (frac m) st = .ok (frac (totAt ms m)) st := by
  show ixA (.loc d) (.tup [.int m.num, .int (m.den : Int)]) st = _
  unfold ixA
  dsimp only
  rw [dtAt_cell h, keys_frac]
  dsimp only
  rw [J.at hm]
theorem get_cell {st : Store} {d : Nat} {D ms : List (Rat × Rat)} (h : st[d]? = some (cellOf D)) (J : Jd ms D) (m : Rat) : getA (.loc d) (frac m) (.tup p_NOUGHT) st = .ok (frac (totAt ms m)) st := by
  show getA (.loc d) (.tup [.int m.num, .int (m.den : Int)]) (.tup p_NOUGHT) st = _
  unfold getA
  dsimp only
  rw [dtAt_cell h, keys_frac]
  dsimp only
  rw [J.get m]
theorem put_cell {st : Store} {d : Nat} {D : List (Rat × Rat)} (h : st[d]? = some (cellOf D)) (m v : Rat) (hz : D.length < 100000) : putA (.loc d) (frac m) (frac v) st = .ok .non (st.set d (cellOf (setR D m v))) := by
  show putA (.loc d) (.tup [.int m.num, .int (m.den : Int)]) (frac v) st = _
  unfold putA
  dsimp only
  rw [dtAt_cell h, keys_frac]
  dsimp only
  rw [if_pos (by rw [List.length_map]; unfold sizeTop; omega), putP_enc]
  cases e : setR D m v with
  | nil => exact absurd e (setR_ne D m v)
  | cons x D' => rfl
theorem isDk_cell {st : Store} {d : Nat} {D : List (Rat × Rat)} (h : st[d]? = some (cellOf D)) : isDk (.loc d) st = .ok () st := by
  unfold isDk
  dsimp only
  rw [h]
  cases D <;> rfl
/-- the marks of plain scores -/
def markR (S : List Pc) : List (Rat × Rat) := (sortR ((marksOf S).map (·.1))).filterMap fun m => if totAt (marksOf S) m = 0 then none else some (m, totAt (marksOf S) m)
theorem markR_len (S : List Pc) : (markR S).length ≤ S.length := by
  unfold markR
  refine Nat.le_trans (List.length_filterMap_le _ _) (Nat.le_trans (sortR_len _) ?_)
  rw [List.length_map]
  exact marksOf_len S
theorem t_marked {s : Nat} {S : List Pc} (st : Store) (h : ScOk s S) (hs : s ≤ 400) : OkL (m_marked [scV S] st) st ((markR S).map fun x => pcV (.mark x.1 x.2)) := by
  have hl := h.len
  have g0 := Gr.new st (cellOf [])
  have n0 := at_new st (cellOf [])
  have hnew : xDNew [some (scV S), none, none, none] st = .ok (.loc st.length) (st ++ [cellOf []]) := rfl
  generalize hs1 : st ++ [cellOf []] = st1 at *
  have hsm : ∀ x ∈ marksOf S, Sm s x.2 := fun x hx => by
    obtain ⟨p, hp, e⟩ := List.mem_filterMap.mp hx
    have := h.ok p hp
    cases p with
    | mark m p => cases e; exact this.2.1
    | str _ _ _ => cases e
  obtain ⟨env', st', e1, g1, D, x, rfl, n1, J⟩ := for_ok (nx := nxT (S.map pcV)) (g := gSet 2) (body := sIf (asB (x2 (eqP false) (x2 ixA (xVar 2) (xC (.int (0)))) (xC (.str "mark"))))
      (sAsg (xCallN 2 m_added (aCons (xGet (xVar 1) (x2 ixA (xVar 2) (xC (.int (1)))) (xC (.tup p_NOUGHT))) (aCons (x2 ixA (xVar 2) (xC (.int (2)))) aNil))) (tgSubA (xVar 1) (x2 ixA (xVar 2) (xC (.int (1))))))
      sNop) (n := S.length) (vf := fun i => pcV ((S[i]?).getD (.mark 0 0))) (env := [some (scV S), some (.loc st.length), none, none]) (st := st1)
    (fun i env st' => Gr st st' ∧ ∃ D x, env = [some (scV S), some (.loc st.length), x, none] ∧ st'[st.length]? = some (cellOf D) ∧ Jd (marksOf (S.take i)) D)
    (fun i env st' hi _ => by simp [nxT, hi])
    (fun env st' _ => by simp [nxT])
    (fun i env st' hi h0 => by
      obtain ⟨g, D, x, rfl, n1, J⟩ := h0
      have e1 : (S[i]?).getD (.mark 0 0) = S[i] := by rw [List.getElem?_eq_getElem hi]; rfl
      have et : marksOf (S.take (i + 1)) = marksOf (S.take i) ++ marksOf [S[i]] := by
        rw [List.take_succ, List.getElem?_eq_getElem hi]
        unfold marksOf
        rw [List.filterMap_append]
        rfl
      rw [e1]
      have ok := h.ok _ (List.getElem_mem hi)
      cases hp : S[i] with
      | mark m p =>
        rw [hp] at ok et
        have hD : D.length < 100000 := by
          have h1 := J.len
          have h2 := marksOf_len (S.take i)
          rw [List.length_take] at h2
          omega
        have hml : (marksOf (S.take i)).length ≤ 10 := by
          have h2 := marksOf_len (S.take i)
          rw [List.length_take] at h2
          omega
        have hms : ∀ x ∈ marksOf (S.take i), Sm s x.2 := fun x hx => hsm x (by
          unfold marksOf at hx ⊢
          exact ((List.take_sublist i S).filterMap _).subset hx)
        have ad := t_added (totAt (marksOf (S.take i)) m) p st' (totAt_sm hms hml m) ok.2.1 (by omega)
        have gt := get_cell n1 J m
        have pt := put_cell n1 m (totAt (marksOf (S.take i)) m + p) hD
        have a0 : ixA (pcV (.mark m p)) (.int 0) st' = .ok (.str "mark") st' := rfl
        have a1 : ixA (pcV (.mark m p)) (.int 1) st' = .ok (frac m) st' := rfl
        have a2 : ixA (pcV (.mark m p)) (.int 2) st' = .ok (frac p) st' := rfl
        refine ⟨[some (scV S), some (.loc st.length), some (pcV (.mark m p)), none], st'.set st.length (cellOf (setR D m (totAt (marksOf (S.take i)) m + p))), ?_, g.set _ (Nat.le_refl _), _, _, rfl, set_at n1, ?_⟩
        · simp [bnd, gSet, Mi.ret, sIf, asB, x2, xVar, xC, a0, a1, a2, eq_mm, toB, sAsg, xCallN, aCons, aNil, xGet, isDk_cell n1, gt, callM_ok ad, tgSubA, pt]
        · rw [et]
          exact J.step m p
      | str lo hi p =>
        rw [hp] at et
        have a0 : ixA (pcV (.str lo hi p)) (.int 0) st' = .ok (.str "stretch") st' := rfl
        refine ⟨[some (scV S), some (.loc st.length), some (pcV (.str lo hi p)), none], st', ?_, g, D, _, rfl, n1, ?_⟩
        · simp [bnd, gSet, Mi.ret, sIf, asB, x2, xVar, xC, a0, eq_sm, toB, sNop]
        · rw [et]
          have : marksOf [Pc.str lo hi p] = [] := rfl
          rw [this, List.append_nil]
          exact J)
    ⟨g0, [], none, rfl, n0, ⟨by simp, by simp [marksOf], by simp, by simp⟩⟩ (by omega)
  rw [List.take_length] at J
  have hfor : sFor fu (xIt (xVar 0)) (gSet 2) (sIf (asB (x2 (eqP false) (x2 ixA (xVar 2) (xC (.int (0)))) (xC (.str "mark"))))
      (sAsg (xCallN 2 m_added (aCons (xGet (xVar 1) (x2 ixA (xVar 2) (xC (.int (1)))) (xC (.tup p_NOUGHT))) (aCons (x2 ixA (xVar 2) (xC (.int (2)))) aNil))) (tgSubA (xVar 1) (x2 ixA (xVar 2) (xC (.int (1))))))
      sNop) [some (scV S), some (.loc st.length), none, none] st1 = .ok (.nx [some (scV S), some (.loc st.length), x, none]) st' := by
    unfold sFor
    rw [bnd_ok (a := nxT (S.map pcV)) (st' := st1) (by simp [xIt, xVar, bnd, itV, scV, Mi.ret])]
    exact e1
  -- the keys
  have kl : listA [.loc st.length] st' = .ok (.loc st'.length) (st' ++ [.lst ((D.map (·.1)).map frac)]) := by
    unfold listA
    dsimp only
    rw [dtAt_cell n1]
    show newC _ st' = _
    rw [List.map_map, List.map_map]
    rfl
  have g2 := Gr.new st' (.lst ((D.map (·.1)).map frac))
  have n2 := at_new st' (.lst ((D.map (·.1)).map frac))
  have n1' := g2.at n1
  generalize hs2 : st' ++ [Cell.lst ((D.map (·.1)).map frac)] = st2 at *
  have hml := marksOf_len S
  have hDl := J.len
  have hmsm : ∀ q ∈ D.map (·.1), Sm s q := fun q hq => by
    obtain ⟨x, hx, rfl⟩ := List.mem_map.mp ((J.mem q).mp hq)
    obtain ⟨p, hp, e⟩ := List.mem_filterMap.mp hx
    have := h.ok p hp
    cases p with
    | mark m p => cases e; exact this.1
    | str _ _ _ => cases e
  obtain ⟨st3, k, e3, g3, n3⟩ := t_in_order (D.map (·.1)) st'.length st2 n2 hmsm (by omega) J.nd (by rw [List.length_map]; omega)
  have es : sortR (D.map (·.1)) = sortR ((marksOf S).map (·.1)) := sortR_eq (sortR_asc _) fun q => (sortR_mem _ _).trans (J.mem q)
  rw [es] at n3
  have n13 := g3.at n1'
  have sl := sortR_len ((marksOf S).map (·.1))
  rw [List.length_map] at sl
  obtain ⟨st4, j, e4, g4, l4, n4⟩ := Mi.lc_list (xs := (sortR ((marksOf S).map (·.1))).map frac) (vs := [3]) (g := gSet 3) (c := asB (x2 (eqP true) (x2 ixA (xVar 1) (xVar 3)) (xC (.tup p_NOUGHT)))) (e := xA tupV (aCons (xC (.str "mark")) (aCons (xVar 3) (aCons (x2 ixA (xVar 1) (xVar 3)) aNil)))) (env := [some (scV S), some (.loc st.length), x, none]) (fi := xIt (xCallN 1 m_in_order (aCons (xA listA (aCons (xVar 1) aNil)) aNil))) (st := st') (st0 := st3)
    (fun v => match v with
      | .tup [.int a, .int b] => if totAt (marksOf S) (Rat.divInt a b) = 0 then none else some (pcV (.mark (Rat.divInt a b) (totAt (marksOf S) (Rat.divInt a b))))
      | _ => none) (by simp [xIt, bnd, xCallN, xA, aCons, aNil, xVar, Mi.ret, kl, callM_ok e3, itV, gl n3]) (g2.trans g3) n3 (fun v st5 hv g5 => by
    obtain ⟨m, hm, rfl⟩ := List.mem_map.mp hv
    have hm' := (sortR_mem _ _).mp hm
    have ix := ix_cell (g5.at n13) J hm'
    have eq := eq_ff true (totAt (marksOf S) m) 0 st5
    rw [frac0] at eq
    have ed : Rat.divInt m.num (m.den : Int) = m := Rat.num_divInt_den m
    refine ⟨[some (scV S), some (.loc st.length), x, some (frac m)], !decide (totAt (marksOf S) m = 0), st5, rfl, ?_, Gr.refl _, fun hb => ?_, fun hb => ⟨pcV (.mark m (totAt (marksOf S) m)), st5, ?_, Gr.refl _, ?_⟩⟩
    · simp [asB, x2, xVar, bnd, ix, xC, Mi.ret, eq, toB]
    · show (if totAt (marksOf S) (Rat.divInt m.num (m.den : Int)) = 0 then none else _) = none
      rw [ed, if_pos (by simpa using hb)]
    · simp [xA, aCons, aNil, bnd, xC, xVar, Mi.ret, x2, ix, tupV, sizeTop, pcV]
    · show (if totAt (marksOf S) (Rat.divInt m.num (m.den : Int)) = 0 then none else _) = some _
      rw [ed, if_neg (by simpa using hb)]) (by rw [List.length_map]; omega)
  have e : ((sortR ((marksOf S).map (·.1))).map frac).filterMap (fun v => match v with
      | .tup [.int a, .int b] => if totAt (marksOf S) (Rat.divInt a b) = 0 then none else some (pcV (.mark (Rat.divInt a b) (totAt (marksOf S) (Rat.divInt a b))))
      | _ => none) = (markR S).map fun x => pcV (.mark x.1 x.2) := by
    unfold markR
    rw [List.filterMap_map, List.map_filterMap]
    refine fm_congr fun m _ => ?_
    show (if totAt (marksOf S) (Rat.divInt m.num (m.den : Int)) = 0 then none else _) = _
    rw [Rat.num_divInt_den]
    split <;> rfl
  rw [e] at n4
  have hlen : st.length ≤ st'.length := g1.len
  refine ⟨st4, j, run_rt ?_, g1.trans g4, Nat.le_trans hlen l4, n4⟩
  show sSeq _ _ [some (scV S), none, none, none] st = _
  rw [seq_nx (asg_ok hnew)]
  show sSeq _ _ [some (scV S), some (.loc st.length), none, none] st1 = _
  rw [seq_nx hfor, ret_ok e4]
end Lw
namespace Lw
open PySem PySem.Spec L2 Mi
/-! ### lists as data -/
theorem toD_lst {k : Nat} {st : Store} {n : Nat} {xs : List PV} (h : st[n]? = some (.lst xs)) (hx : ∀ x ∈ xs, Pq k x) : toD st (.loc n) = some (.list (dtL xs)) := by
  unfold toD
  simp only [D0]
  unfold flS
  rw [gl h]
  dsimp only
  rw [all_dt (P := fun _ => True) (Q := fun _ => True) _ xs fun x hx' => (pq_dt _ k x (hx x hx')).1]
theorem shaped_lst {k : Nat} {xs : List PV} (hx : ∀ x ∈ xs, Pq k x) (hk : k ≤ 50) : SeqAt.shaped (.list (dtL xs)) = true := by
  unfold SeqAt.shaped
  rw [PyData.canLay0, lay_dt xs fun x h => (pq_dt (fun _ => none) k x (hx x h)).2.1, Bool.true_and, PyData.depth]
  have := dep_dt (k := k) xs fun x h => (pq_dt (fun _ => none) k x (hx x h)).2.2
  exact decide_eq_true (by omega)
theorem eqP_ll {k : Nat} {st : Store} {m n : Nat} {xs ys : List PV} (neg : Bool) (h : st[m]? = some (.lst xs)) (g : st[n]? = some (.lst ys)) (hx : ∀ x ∈ xs, Pq k x) (hy : ∀ y ∈ ys, Pq k y) (hk : k ≤ 50) :
    (xs = ys → eqP neg (.loc m) (.loc n) st = .ok (.bl (!neg)) st) ∧ (xs ≠ ys → eqP neg (.loc m) (.loc n) st = .ok (.bl neg) st) := by
  have e : PyData.eqv (.list (dtL xs)) (.list (dtL ys)) = true ↔ xs = ys := by
    simp only [PyData.eqv]
    exact eqvAll_dt (P := fun _ _ => True) xs ys fun x hx' y hy' => pq_eqv k x y (hx x hx') (hy y hy')
  have s : eqP neg (.loc m) (.loc n) st = .ok (.bl (if neg then !PyData.eqv (.list (dtL xs)) (.list (dtL ys)) else PyData.eqv (.list (dtL xs)) (.list (dtL ys)))) st := by
    unfold eqP
    rw [toD_lst h hx, toD_lst g hy]
    dsimp only
    rw [if_pos ⟨shaped_lst hx hk, shaped_lst hy hk⟩]
  constructor
  · intro z
    rw [s, e.mpr z]
    cases neg <;> rfl
  · intro z
    have : PyData.eqv (.list (dtL xs)) (.list (dtL ys)) = false := by
      cases q : PyData.eqv (.list (dtL xs)) (.list (dtL ys)) with
      | false => rfl
      | true => exact absurd (e.mp q) z
    rw [s, this]
    cases neg <;> rfl
theorem any_eqv {k : Nat} : ∀ (xs : List PV) (v : PV), (∀ x ∈ xs, Pq k x) → Pq k v → ((dtL xs).any (fun z => PyData.eqv z (dt v)) = true ↔ v ∈ xs)
  | [], v, _, _ => by simp [dtL]
  | x :: xs, v, h, g => by
    simp only [dtL, List.any_cons, Bool.or_eq_true, any_eqv xs v (fun y hy => h y (List.mem_cons_of_mem _ hy)) g, pq_eqv k x v (h x (by simp)) g, List.mem_cons]
    constructor
    · rintro (z | z)
      · exact .inl z.symm
      · exact .inr z
    · rintro (z | z)
      · exact .inl z.symm
      · exact .inr z
theorem inP_l {k : Nat} {st : Store} {n : Nat} {xs : List PV} {v : PV} (neg : Bool) (h : st[n]? = some (.lst xs)) (hx : ∀ x ∈ xs, Pq k x) (hv : Pq k v) (hk : k ≤ 50) : (v ∈ xs → inP neg v (.loc n) st = .ok (.bl (!neg)) st) ∧ (v ∉ xs → inP neg v (.loc n) st = .ok (.bl neg) st) := by
  have s : inP neg v (.loc n) st = .ok (.bl (if neg then !((dtL xs).any fun z => PyData.eqv z (dt v)) else (dtL xs).any fun z => PyData.eqv z (dt v))) st := by
    unfold inP
    rw [toD_lst h hx]
    have : toD st v = some (dt v) := (pq_dt (flS st 4) k v hv).1
    rw [this]
    dsimp only
    rw [if_pos ⟨shaped_pq hv (by omega), shaped_lst hx hk⟩]
  have e := any_eqv xs v hx hv
  constructor
  · intro z
    rw [s, e.mpr z]
    cases neg <;> rfl
  · intro z
    have : ((dtL xs).any fun z => PyData.eqv z (dt v)) = false := by
      cases q : (dtL xs).any fun z => PyData.eqv z (dt v) with
      | false => rfl
      | true => exact absurd (e.mp q) z
    rw [s, this]
    cases neg <;> rfl
theorem pq_fracs {qs : List Rat} : ∀ x ∈ qs.map frac, Pq 1 x := fun x hx => by
  obtain ⟨q, _, rfl⟩ := List.mem_map.mp hx
  exact pq_frac q
theorem mem_fracs {qs : List Rat} {q : Rat} : frac q ∈ qs.map frac ↔ q ∈ qs := by
  rw [List.mem_map]
  exact ⟨fun ⟨p, h, e⟩ => frac_inj e ▸ h, fun h => ⟨q, h, rfl⟩⟩
/-! ### the law's sorting -/
theorem fm_filter (qs : List Rat) (q : Rat) (f : PV → Option PV) (hf : ∀ p, f (frac p) = if p < q then some (frac p) else none) : (qs.map frac).filterMap f = (qs.filter fun x => decide (x < q)).map frac := by
  induction qs with
  | nil => rfl
  | cons p qs ih =>
    rw [List.map_cons, List.filterMap_cons, hf, List.filter_cons]
    by_cases h : p < q
    · rw [if_pos h, if_pos (decide_eq_true h), ih]; rfl
    · rw [if_neg h, if_neg (by simpa using h), ih]
def unF : PV → Rat
  | .tup [.int a, .int b] => Rat.divInt a b
  | _ => 0
theorem unF_frac (q : Rat) : unF (frac q) = q := Rat.num_divInt_den q
theorem t__law_sorted {s : Nat} (qs : List Rat) (l : Nat) (st : Store) (hl : st[l]? = some (.lst (qs.map frac))) (hq : ∀ q ∈ qs, Sm s q) (hs : s ≤ 8000) (hz : qs.length < 50000) : OkR (m__law_sorted [.loc l] st) st ((sortR qs).map frac) := by
  have n0 := at_new st (.lst [])
  have g0 := Gr.new st (.lst [])
  have out : xA lstV aNil [some (.loc l), none, none, none, none] st = .ok (.loc st.length) (st ++ [.lst []]) := rfl
  generalize hs1 : st ++ [Cell.lst []] = st1 at *
  obtain ⟨env', st', e1, g1, n, x, y, rfl, n1, hmem⟩ := for_ok (nx := nxL l) (g := gSet 2) (body := sSeq (sAsg (xA lenV (aCons (xLc fu [4] (xIt (xVar 1)) (gSet 4) (xTru (xCallN 2 m__law_under (aCons (xVar 4) (aCons (xVar 2) aNil)))) (xVar 4)) aNil)) (gSet 3))
      (sIf (asB (x2 (inP true) (xVar 2) (xVar 1)))
      (sAsg (x2 addV (x2 addV (xSl (xVar 1) oNone (oSome (xVar 3))) (xA lstV (aCons (xVar 2) aNil))) (xSl (xVar 1) (oSome (xVar 3)) oNone)) (gSet 1))
      sNop)) (n := qs.length) (vf := fun i => frac ((qs[i]?).getD 0)) (env := [some (.loc l), some (.loc st.length), none, none, none]) (st := st1)
    (fun i env st' => Gr st st' ∧ ∃ n x y, env = [some (.loc l), some (.loc n), x, y, none] ∧ st'[n]? = some (.lst (((qs.take i).foldl insR []).map frac)) ∧ ∀ q ∈ (qs.take i).foldl insR [], q ∈ qs)
    (fun i env st' hi h => by
      unfold nxL
      rw [gl (h.1.at hl)]
      simp [hi])
    (fun env st' h => by
      unfold nxL
      rw [gl (h.1.at hl)]
      simp)
    (fun i env st' hi h => by
      obtain ⟨g, n, x, y, rfl, n1, hmem⟩ := h
      have e0 : (qs[i]?).getD 0 = qs[i] := by rw [List.getElem?_eq_getElem hi]; rfl
      have et : (qs.take (i + 1)).foldl insR [] = insR ((qs.take i).foldl insR []) qs[i] := by
        rw [List.take_succ, List.getElem?_eq_getElem hi, List.foldl_append]; rfl
      rw [e0]
      have hqi := hq _ (List.getElem_mem hi)
      generalize hgot : (qs.take i).foldl insR [] = got at *
      generalize hqq : qs[i] = q at *
      have hqm : q ∈ qs := by rw [← hqq]; exact List.getElem_mem hi
      have hgl : got.length < 50000 := by
        have := fold_ins_len (qs.take i) []
        rw [hgot] at this
        simp at this
        omega
      obtain ⟨st2, k, c1, g2, _, c2⟩ := Mi.lc_list (xs := got.map frac) (vs := [4]) (g := gSet 4) (c := xTru (xCallN 2 m__law_under (aCons (xVar 4) (aCons (xVar 2) aNil)))) (e := xVar 4) (env := [some (.loc l), some (.loc n), some (frac q), y, none]) (fi := xIt (xVar 1)) (st := st') (st0 := st')
        (fun v => if unF v < q then some v else none) (by simp [xIt, xVar, bnd, itV, gl n1]) (Gr.refl _) n1 (fun v st5 hv g5 => by
        obtain ⟨p, hp, rfl⟩ := List.mem_map.mp hv
        have u := t__law_under p q st5 (hq p (hmem p hp)) hqi (by omega)
        refine ⟨[some (.loc l), some (.loc n), some (frac q), y, some (frac p)], decide (p < q), st5, rfl, ?_, Gr.refl _, fun hb => ?_, fun hb => ⟨frac p, st5, rfl, Gr.refl _, ?_⟩⟩
        · simp [xTru, xCallN, aCons, aNil, bnd, xVar, Mi.ret, callM_ok u, truV]
        · rw [unF_frac, if_neg (by simpa using hb)]
        · rw [unF_frac, if_pos (by simpa using hb)]) (by rw [List.length_map]; omega)
      rw [fm_filter got q _ fun p => by rw [unF_frac]] at c2
      have n2 := g2.at n1
      have spot : ((got.filter fun x => decide (x < q)).map frac).length = spotR got q := by rw [List.length_map]; rfl
      have a1 : sAsg (xA lenV (aCons (xLc fu [4] (xIt (xVar 1)) (gSet 4) (xTru (xCallN 2 m__law_under (aCons (xVar 4) (aCons (xVar 2) aNil)))) (xVar 4)) aNil)) (gSet 3) [some (.loc l), some (.loc n), some (frac q), y, none] st' = .ok (.nx [some (.loc l), some (.loc n), some (frac q), some (.int (spotR got q : Nat)), none]) st2 := by
        refine asg_ok ?_
        simp only [xA, aCons, aNil, bnd, c1, Mi.ret]
        rw [len_at c2, spot]
      have inl := inP_l (k := 1) true n2 pq_fracs (pq_frac q) (by decide)
      by_cases hin : q ∈ got
      · have i1 := inl.1 (mem_fracs.mpr hin)
        refine ⟨_, st2, ?_, g.trans g2, n, some (frac q), some (.int (spotR got q : Nat)), rfl, ?_, ?_⟩
        · show sSeq _ _ [some (.loc l), some (.loc n), some (frac q), y, none] st' = _
          rw [seq_nx a1]
          simp [sIf, asB, x2, xVar, bnd, i1, toB, Mi.ret, sNop]
        · rw [et]; unfold insR; rw [if_pos hin]; exact n2
        · rw [et]; unfold insR; rw [if_pos hin]; exact hmem
      · have i1 := inl.2 (fun z => hin (mem_fracs.mp z))
        have g3 := Gr.new st2 (.lst ((got.take (spotR got q)).map frac))
        have m3 := at_new st2 (.lst ((got.take (spotR got q)).map frac))
        have s3 : newC (.lst (cutP (got.map frac) none (some ((spotR got q : Nat) : Int)))) st2 = .ok (.loc st2.length) (st2 ++ [.lst ((got.take (spotR got q)).map frac)]) := by rw [cut_take, ← List.map_take]; rfl
        generalize hs3 : st2 ++ [Cell.lst ((got.take (spotR got q)).map frac)] = st3 at *
        have g4 := Gr.new st3 (.lst [frac q])
        have m4 := at_new st3 (.lst [frac q])
        have s4 : newC (.lst [frac q]) st3 = .ok (.loc st3.length) (st3 ++ [.lst [frac q]]) := rfl
        generalize hs4 : st3 ++ [Cell.lst [frac q]] = st4 at *
        have m3' := g4.at m3
        have d5 : addV (.loc st2.length) (.loc st3.length) st4 = .ok (.loc st4.length) (st4 ++ [.lst ((got.take (spotR got q)).map frac ++ [frac q])]) := by
          unfold addV
          dsimp only
          rw [gm m3', gm m4]
          dsimp only
          rw [if_pos]
          · rfl
          · simp only [List.length_map, List.length_take, List.length_cons, List.length_nil]
            unfold sizeTop; omega
        have g5 := Gr.new st4 (.lst ((got.take (spotR got q)).map frac ++ [frac q]))
        have m5 := at_new st4 (.lst ((got.take (spotR got q)).map frac ++ [frac q]))
        generalize hs5 : st4 ++ [Cell.lst ((got.take (spotR got q)).map frac ++ [frac q])] = st5 at *
        have n5 := ((g3.trans g4).trans g5).at n2
        have s6 : newC (.lst (cutP (got.map frac) (some ((spotR got q : Nat) : Int)) none)) st5 = .ok (.loc st5.length) (st5 ++ [.lst ((got.drop (spotR got q)).map frac)]) := by rw [cut_drop, ← List.map_drop]; rfl
        have g6 := Gr.new st5 (.lst ((got.drop (spotR got q)).map frac))
        have m6 := at_new st5 (.lst ((got.drop (spotR got q)).map frac))
        generalize hs6 : st5 ++ [Cell.lst ((got.drop (spotR got q)).map frac)] = st6 at *
        have m5' := g6.at m5
        have d7 : addV (.loc st4.length) (.loc st5.length) st6 = .ok (.loc st6.length) (st6 ++ [.lst (((got.take (spotR got q)).map frac ++ [frac q]) ++ (got.drop (spotR got q)).map frac)]) := by
          unfold addV
          dsimp only
          rw [gm m5', gm m6]
          dsimp only
          rw [if_pos]
          · rfl
          · simp only [List.length_map, List.length_append, List.length_take, List.length_drop, List.length_cons, List.length_nil]
            unfold sizeTop; omega
        refine ⟨[some (.loc l), some (.loc st6.length), some (frac q), some (.int (spotR got q : Nat)), none], st6 ++ [.lst (((got.take (spotR got q)).map frac ++ [frac q]) ++ (got.drop (spotR got q)).map frac)], ?_, (((((g.trans g2).trans g3).trans g4).trans g5).trans g6).trans (Gr.new _ _), st6.length, some (frac q), some (.int (spotR got q : Nat)), rfl, ?_, ?_⟩
        · show sSeq _ _ [some (.loc l), some (.loc n), some (frac q), y, none] st' = _
          rw [seq_nx a1]
          simp only [sIf, asB, x2, xVar, List.getElem?_cons_succ, List.getElem?_cons_zero, bnd, i1, toB, Mi.ret, if_true, sAsg, xSl, oNone, oSome, toI, sliceV, gl n2, s3, xA, aCons, aNil, lstV, List.length_cons, List.length_nil, gl n5, d5, s6, d7, gSet, List.set_cons_succ, List.set_cons_zero]
          rw [if_pos (by decide), s4]
          simp only [d5, gl n5, s6, d7]
        · rw [at_new, et]; unfold insR; rw [if_neg hin]
          simp
        · rw [et]
          intro p hp
          unfold insR at hp
          rw [if_neg hin] at hp
          simp only [List.mem_append, List.mem_singleton] at hp
          rcases hp with (z | z) | z
          · exact hmem p (List.mem_of_mem_take z)
          · rw [z]; exact hqm
          · exact hmem p (List.mem_of_mem_drop z))
    ⟨g0, st.length, none, none, rfl, n0, by simp⟩ (by omega)
  rw [List.take_length] at n1
  have hfor : sFor fu (xIt (xVar 0)) (gSet 2) (sSeq (sAsg (xA lenV (aCons (xLc fu [4] (xIt (xVar 1)) (gSet 4) (xTru (xCallN 2 m__law_under (aCons (xVar 4) (aCons (xVar 2) aNil)))) (xVar 4)) aNil)) (gSet 3))
      (sIf (asB (x2 (inP true) (xVar 2) (xVar 1)))
      (sAsg (x2 addV (x2 addV (xSl (xVar 1) oNone (oSome (xVar 3))) (xA lstV (aCons (xVar 2) aNil))) (xSl (xVar 1) (oSome (xVar 3)) oNone)) (gSet 1))
      sNop)) [some (.loc l), some (.loc st.length), none, none, none] st1 = .ok (.nx [some (.loc l), some (.loc n), x, y, none]) st' := by
    unfold sFor
    rw [bnd_ok (a := nxL l) (st' := st1) (by simp [xIt, xVar, bnd, itV, gl (g0.at hl)])]
    exact e1
  refine ⟨st', n, run_rt ?_, g1, n1⟩
  show sSeq _ _ [some (.loc l), none, none, none, none] st = _
  rw [seq_nx (asg_ok out)]
  show sSeq _ _ [some (.loc l), some (.loc st.length), none, none, none] st1 = _
  rw [seq_nx hfor]
  rfl
end Lw
namespace Lw
open PySem PySem.Spec L2 Mi
def cellB : List Rat → Cell
  | [] => .dk []
  | q :: D => .dt ((q :: D).map fun q => (kq q, .bl true))
def stepB (D : List Rat) (q : Rat) : List Rat := if q ∈ D then D else D ++ [q]
theorem putP_B (D : List Rat) (q : Rat) : putP (D.map fun q => (kq q, PV.bl true)) (kq q) (.bl true) = (stepB D q).map fun q => (kq q, .bl true) := by
  have e : ((D.map fun q => (kq q, PV.bl true)).any fun kv => decide (kv.1 = kq q)) = decide (q ∈ D) := by
    rw [Bool.eq_iff_iff, List.any_eq_true, decide_eq_true_eq]
    constructor
    · rintro ⟨x, hx, h⟩
      obtain ⟨y, hy, rfl⟩ := List.mem_map.mp hx
      rw [← kq_inj (of_decide_eq_true h)]
      exact hy
    · intro h
      exact ⟨_, List.mem_map.mpr ⟨q, h, rfl⟩, decide_eq_true rfl⟩
  unfold putP stepB
  rw [e]
  by_cases h : q ∈ D
  · rw [if_pos (decide_eq_true h), if_pos h, List.map_map]
    refine List.map_congr_left fun x _ => ?_
    show (if kq x = kq q then (kq x, PV.bl true) else (kq x, PV.bl true)) = (kq x, PV.bl true)
    split <;> rfl
  · rw [if_neg (by simpa using h), if_neg h, List.map_append]
    rfl
theorem stepB_ne (D : List Rat) (q : Rat) : stepB D q ≠ [] := by
  unfold stepB
  split
  · rename_i h
    intro z
    rw [z] at h; simp at h
  · simp
theorem putC_B (D : List Rat) (q : Rat) (h : D.length < 100000) : putC (cellB D) (frac q) (.bl true) = some (cellB (stepB D q)) := by
  have hB : ∀ D', D' ≠ [] → cellB D' = .dt (D'.map fun q => (kq q, .bl true)) := fun D' h => by
    cases D' with
    | nil => exact absurd rfl h
    | cons x D => rfl
  rw [hB _ (stepB_ne D q), ← putP_B]
  cases D with
  | nil => rfl
  | cons x D =>
    show putC (.dt _) (.tup [.int q.num, .int (q.den : Int)]) (.bl true) = _
    unfold putC
    dsimp only
    rw [keys_frac]
    dsimp only
    rw [if_pos (by rw [List.length_map]; unfold sizeTop; omega)]
theorem foldB : ∀ (qs D : List Rat), D.Nodup → (qs.foldl stepB D).Nodup ∧ (∀ x, x ∈ qs.foldl stepB D ↔ x ∈ D ∨ x ∈ qs) ∧ (qs.foldl stepB D).length ≤ D.length + qs.length
  | [], D, h => ⟨h, by simp, by simp⟩
  | q :: qs, D, h => by
    have hs : (stepB D q).Nodup ∧ (∀ x, x ∈ stepB D q ↔ x = q ∨ x ∈ D) ∧ (stepB D q).length ≤ D.length + 1 := by
      unfold stepB
      by_cases hq : q ∈ D
      · rw [if_pos hq]
        exact ⟨h, fun x => ⟨.inr, fun z => z.elim (fun w => w ▸ hq) id⟩, by omega⟩
      · rw [if_neg hq]
        refine ⟨?_, fun x => ?_, by simp⟩
        · rw [List.nodup_append]
          refine ⟨h, by simp, fun a ha b hb e => hq ?_⟩
          rw [List.mem_singleton.mp hb] at e
          rw [← e]; exact ha
        · simp only [List.mem_append, List.mem_singleton]
          exact ⟨fun z => z.elim .inr .inl, fun z => z.elim .inr .inl⟩
    have ih := foldB qs (stepB D q) hs.1
    refine ⟨ih.1, fun x => ?_, ?_⟩
    · rw [List.foldl_cons, ih.2.1 x, hs.2.1 x, List.mem_cons]
      constructor
      · rintro ((z | z) | z)
        · exact .inr (.inl z)
        · exact .inl z
        · exact .inr (.inr z)
      · rintro (z | z | z)
        · exact .inl (.inr z)
        · exact .inl (.inl z)
        · exact .inr z
    · have := ih.2.2
      have := hs.2.2
      simp only [List.foldl_cons, List.length_cons]
      omega
theorem dc_ok {qs : List Rat} {l : Nat} {st : Store} (hl : st[l]? = some (.lst (qs.map frac))) (hz : qs.length < 50000) : ∀ (k i : Nat) (D : List Rat), i ≤ qs.length → qs.length - i < k → D.length ≤ i →
    dcF (nxL l) (gSet 1) bYes (xVar 1) (xC (.bl true)) k i (cellB D) [some (.loc l), none] st = newC (cellB ((qs.drop i).foldl stepB D)) st
  | 0, i, D, hi, hk, hD => by omega
  | k + 1, i, D, hi, hk, hD => by
    by_cases hlt : i < qs.length
    · have hd : qs.drop i = qs[i] :: qs.drop (i + 1) := List.drop_eq_getElem_cons hlt
      have hx : nxL l i st = .item (frac qs[i]) := by
        unfold nxL
        rw [gl hl]
        simp [hlt]
      have hp := putC_B D qs[i] (by omega)
      have hs : (stepB D qs[i]).length ≤ i + 1 := by
        unfold stepB
        split
        · omega
        · simp; omega
      rw [hd, List.foldl_cons, ← dc_ok hl hz k (i + 1) (stepB D qs[i]) hlt (by omega) hs]
      conv => lhs; unfold dcF
      rw [hx]
      simp [bnd, noX, gSet, Mi.ret, bYes, xVar, xC, hp]
    · have e : i = qs.length := by omega
      subst e
      have hx : nxL l qs.length st = .stop := by
        unfold nxL
        rw [gl hl]
        simp
      rw [List.drop_length]
      unfold dcF
      rw [hx]
      rfl
theorem t_unlike {s : Nat} (qs : List Rat) (l : Nat) (st : Store) (hl : st[l]? = some (.lst (qs.map frac))) (hq : ∀ q ∈ qs, Sm s q) (hs : s ≤ 8000) (hz : qs.length < 50000) : OkR (m_unlike_in_order [.loc l] st) st ((sortR qs).map frac) := by
  have f := foldB qs [] List.nodup_nil
  have hdc := dc_ok hl hz fu 0 [] (Nat.zero_le _) (by unfold fu; omega) (by simp)
  rw [List.drop_zero] at hdc
  generalize qs.foldl stepB [] = D at *
  have e1 : xDc fu [1] (xIt (xVar 0)) (gSet 1) bYes (xVar 1) (xC (.bl true)) [some (.loc l), none] st = .ok (.loc st.length) (st ++ [cellB D]) := by
    unfold xDc
    rw [bnd_ok (a := nxL l) (st' := st) (by simp [xIt, xVar, bnd, itV, gl hl])]
    exact hdc
  have g1 := Gr.new st (cellB D)
  have n1 := at_new st (cellB D)
  generalize hs1 : st ++ [cellB D] = st1 at *
  have d1 : Mi.dtAt st.length st1 = some (D.map fun q => (kq q, PV.bl true)) := by
    unfold Mi.dtAt
    rw [n1]
    cases D <;> rfl
  have e2 : listA [.loc st.length] st1 = .ok (.loc st1.length) (st1 ++ [.lst (D.map frac)]) := by
    unfold listA
    dsimp only
    rw [d1]
    show newC _ st1 = _
    rw [List.map_map]
    rfl
  have g2 := Gr.new st1 (.lst (D.map frac))
  have n2 := at_new st1 (.lst (D.map frac))
  generalize hs2 : st1 ++ [Cell.lst (D.map frac)] = st2 at *
  have hmem : ∀ x, x ∈ D ↔ x ∈ qs := fun x => by have := f.2.1 x; simpa using this
  obtain ⟨st3, k, e3, g3, n3⟩ := t_in_order D st1.length st2 n2 (fun q hq' => hq q ((hmem q).mp hq')) hs f.1 (by have := f.2.2; simp at this; omega)
  refine ⟨st3, k, run_rt (ret_ok ?_), (g1.trans g2).trans g3, ?_⟩
  · show xCallN 1 m_in_order _ [some (.loc l), none] st = _
    simp [xCallN, xA, aCons, aNil, bnd, e1, Mi.ret, e2, callM_ok e3]
  · rw [n3, sortR_eq (sortR_asc D) fun x => (sortR_mem D x).trans (hmem x)]
/-! ### prices over stretches -/
structure Sp where
  lo : Rat
  hi : Rat
  p : Rat
def strsOf (S : List Pc) : List Sp := S.filterMap fun p => match p with
  | .mark _ _ => none
  | .str lo hi p => some ⟨lo, hi, p⟩
def prcOf (T : List Sp) (low high : Rat) : List Rat := (T.filter fun x => !decide (low < x.lo) && !decide (x.hi < high)).map (·.p)
def prc (T : List Sp) (low high : Rat) : Rat := sumR (prcOf T low high)
def SpOk (s : Nat) (x : Sp) : Prop := Sm s x.lo ∧ Sm s x.hi ∧ Sm s x.p ∧ 0 ≤ x.p ∧ x.lo < x.hi
theorem strs_ok {s : Nat} {S : List Pc} (h : ∀ p ∈ S, PcOk s p) : ∀ x ∈ strsOf S, SpOk s x := fun x hx => by
  obtain ⟨p, hp, e⟩ := List.mem_filterMap.mp hx
  have := h p hp
  cases p with
  | mark _ _ => cases e
  | str lo hi p => cases e; exact this
theorem strs_len (S : List Pc) : (strsOf S).length ≤ S.length := List.length_filterMap_le _ _
theorem prcOf_len (T : List Sp) (a b : Rat) : (prcOf T a b).length ≤ T.length := by
  unfold prcOf
  rw [List.length_map]
  exact List.length_filter_le _ _
theorem prcOf_sm {s : Nat} {T : List Sp} (h : ∀ x ∈ T, SpOk s x) (a b : Rat) : ∀ q ∈ prcOf T a b, Sm s q := fun q hq => by
  obtain ⟨x, hx, rfl⟩ := List.mem_map.mp hq
  exact (h x (List.mem_filter.mp hx).1).2.2.1
def priceF (low high : Rat) (v : PV) : Option PV := match v with
  | .tup [_, a, b, p] => if ¬ low < unF a ∧ ¬ unF b < high then some p else none
  | _ => none
theorem priceF_str (low high lo hi p : Rat) : priceF low high (pcV (.str lo hi p)) = if ¬ low < lo ∧ ¬ hi < high then some (frac p) else none := by
  show (if ¬ low < unF (frac lo) ∧ ¬ unF (frac hi) < high then some (frac p) else none) = _
  rw [unF_frac, unF_frac]
theorem price_fm (S : List Pc) (low high : Rat) : (S.map pcV).filterMap (priceF low high) = (prcOf (strsOf S) low high).map frac := by
  induction S with
  | nil => rfl
  | cons p S ih =>
    cases p with
    | mark m p =>
      have e1 : priceF low high (pcV (.mark m p)) = none := rfl
      have e2 : strsOf (.mark m p :: S) = strsOf S := rfl
      rw [List.map_cons, List.filterMap_cons, e1, e2, ih]
    | str lo hi p =>
      have e2 : strsOf (.str lo hi p :: S) = ⟨lo, hi, p⟩ :: strsOf S := rfl
      rw [List.map_cons, List.filterMap_cons, priceF_str, e2, ih]
      unfold prcOf
      rw [List.filter_cons]
      by_cases h : ¬ low < lo ∧ ¬ hi < high
      · rw [if_pos h, if_pos (by simpa using h)]
        rfl
      · rw [if_neg h, if_neg (by simpa using h)]
theorem t_price_over {s : Nat} {S : List Pc} (st : Store) (h : ScOk s S) (hs : s ≤ 390) (low high : Rat) (hlow : Sm s low) (hhigh : Sm s high) : Ok (m_price_over [scV S, frac low, frac high] st) st (frac (prc (strsOf S) low high)) := by
  have hl := h.len
  obtain ⟨st1, n, e1, g1, _, n1⟩ := lc_tup (xs := S.map pcV) (vs := [3]) (g := gSet 3) (c := bAnd (asB (x2 (eqP false) (x2 ixA (xVar 3) (xC (.int (0)))) (xC (.str "stretch")))) (bAnd (bNot (xTru (xCallN 2 m_is_under (aCons (xVar 1) (aCons (x2 ixA (xVar 3) (xC (.int (1)))) aNil))))) (bNot (xTru (xCallN 2 m_is_under (aCons (x2 ixA (xVar 3) (xC (.int (2)))) (aCons (xVar 2) aNil))))))) (e := x2 ixA (xVar 3) (xC (.int (3)))) (env := [some (scV S), some (frac low), some (frac high), none]) (fi := xIt (xVar 0)) (st := st) (st0 := st)
    (priceF low high) (by simp [xIt, xVar, bnd, itV, scV, Mi.ret]) (Gr.refl _) (fun v st5 hv g5 => by
    obtain ⟨p, hp, rfl⟩ := List.mem_map.mp hv
    have ok := h.ok p hp
    cases p with
    | mark m p =>
      have a0 : ixA (pcV (.mark m p)) (.int 0) st5 = .ok (.str "mark") st5 := rfl
      exact ⟨[some (scV S), some (frac low), some (frac high), some (pcV (.mark m p))], false, st5, rfl, by simp [bAnd, asB, x2, xVar, xC, bnd, Mi.ret, a0, eq_ms, toB], Gr.refl _, fun _ => rfl, fun z => by cases z⟩
    | str lo hi p =>
      obtain ⟨o1, o2, o3, _, _⟩ := ok
      have a0 : ixA (pcV (.str lo hi p)) (.int 0) st5 = .ok (.str "stretch") st5 := rfl
      have a1 : ixA (pcV (.str lo hi p)) (.int 1) st5 = .ok (frac lo) st5 := rfl
      have a2 : ixA (pcV (.str lo hi p)) (.int 2) st5 = .ok (frac hi) st5 := rfl
      have a3 : ixA (pcV (.str lo hi p)) (.int 3) st5 = .ok (frac p) st5 := rfl
      have u1 := t_is_under low lo st5 hlow o1 (by omega)
      have u2 := t_is_under hi high st5 o2 hhigh (by omega)
      refine ⟨[some (scV S), some (frac low), some (frac high), some (pcV (.str lo hi p))], !decide (low < lo) && !decide (hi < high), st5, rfl, ?_, Gr.refl _, fun hb => ?_, fun hb => ⟨frac p, st5, ?_, Gr.refl _, ?_⟩⟩
      · by_cases c : low < lo
        · simp [bAnd, bNot, asB, x2, xVar, xC, bnd, Mi.ret, a0, a1, eq_ss, toB, xTru, xCallN, aCons, aNil, callM_ok u1, truV, c]
        · simp [bAnd, bNot, asB, x2, xVar, xC, bnd, Mi.ret, a0, a1, a2, eq_ss, toB, xTru, xCallN, aCons, aNil, callM_ok u1, callM_ok u2, truV, c]
      · rw [priceF_str, if_neg]
        simpa using hb
      · simp [x2, xVar, xC, bnd, Mi.ret, a3]
      · rw [priceF_str, if_pos]
        simpa using hb) (by rw [List.length_map]; omega)
  rw [price_fm] at n1
  have h1 := prcOf_len (strsOf S) low high
  have h2 := strs_len S
  have hb : (prcOf (strsOf S) low high).length * (s + 1) ≤ 4000 := by
    have : (prcOf (strsOf S) low high).length * (s + 1) ≤ 10 * (s + 1) := Nat.mul_le_mul_right _ (by omega)
    omega
  obtain ⟨st2, e2, g2⟩ := t_added_up (prcOf (strsOf S) low high) n st1 n1 (prcOf_sm (strs_ok h.ok) low high) hb
  refine ⟨st2, run_rt (ret_ok ?_), g1.trans g2⟩
  show xCallN 1 m_added_up _ [some (scV S), some (frac low), some (frac high), none] st = _
  simp only [xCallN, aCons, aNil, bnd, e1, Mi.ret, List.length_cons, List.length_nil, if_true, callM_ok e2]
  rfl
end Lw
namespace Lw
open PySem PySem.Spec L2 Mi
def spV (x : Sp) : PV := pcV (.str x.lo x.hi x.p)
def endsOf (T : List Sp) : List Rat := T.flatMap fun x => [x.lo, x.hi]
theorem inF_two {env : Ev} {acc : List PV} {a b : PV} (st : Store) (he : 8 < env.length) (hz : acc.length < 100000) : inF (nxT [a, b]) (gSet 8) bYes (xVar 8) fu 0 acc env st = .ok (acc ++ [a, b]) st := by
  have hz1 : acc.length < sizeTop := by unfold sizeTop; omega
  have hz2 : acc.length + 1 < sizeTop := by unfold sizeTop; omega
  rw [show fu = 999997 + 1 + 1 + 1 from rfl]
  simp [inF, nxT, bnd, noX, gSet, Mi.ret, bYes, xVar, he, hz1, hz2]
theorem ends_ok {S : List Pc} (hS : S.length ≤ 10) (st : Store) : ∀ (k i : Nat) (acc : List PV), i ≤ S.length → S.length - i < k → acc.length ≤ 2 * i →
    comp2F (nxT (S.map pcV)) (gSet 7) (asB (x2 (eqP false) (x2 ixA (xVar 7) (xC (.int (0)))) (xC (.str "stretch")))) (xIt (xSl (xVar 7) (oSome (xC (.int (1)))) (oSome (xC (.int (3)))))) [8] (gSet 8) bYes (xVar 8) fu k i acc [some (scV S), none, none, none, none, none, none, none, none] st = newC (.lst (acc ++ (endsOf (strsOf (S.drop i))).map frac)) st
  | 0, i, acc, hi, hk, ha => by omega
  | k + 1, i, acc, hi, hk, ha => by
    by_cases hlt : i < S.length
    · have hd : S.drop i = S[i] :: S.drop (i + 1) := List.drop_eq_getElem_cons hlt
      have hx : nxT (S.map pcV) i st = .item (pcV S[i]) := by simp [nxT, hlt]
      conv => lhs; unfold comp2F
      rw [hx, hd]
      cases hp : S[i] with
      | mark m p =>
        have a0 : ixA (pcV (.mark m p)) (.int 0) st = .ok (.str "mark") st := rfl
        have e : strsOf (Pc.mark m p :: S.drop (i + 1)) = strsOf (S.drop (i + 1)) := rfl
        rw [e, ← ends_ok hS st k (i + 1) acc hlt (by omega) (by omega)]
        simp [bnd, noX, gSet, Mi.ret, asB, x2, xVar, xC, a0, eq_ms, toB]
      | str lo hi p =>
        have a0 : ixA (pcV (.str lo hi p)) (.int 0) st = .ok (.str "stretch") st := rfl
        have e : endsOf (strsOf (Pc.str lo hi p :: S.drop (i + 1))) = [lo, hi] ++ endsOf (strsOf (S.drop (i + 1))) := rfl
        have cut : sliceV (pcV (.str lo hi p)) (some 1) (some 3) = Mi.ret (.tup [frac lo, frac hi]) := rfl
        have i2 : ∀ env : Ev, 8 < env.length → inF (nxT [frac lo, frac hi]) (gSet 8) bYes (xVar 8) fu 0 acc env st = .ok (acc ++ [frac lo, frac hi]) st := fun env h => inF_two st h (by omega)
        have ih := ends_ok hS st k (i + 1) (acc ++ [frac lo, frac hi]) hlt (by omega) (by simp; omega)
        rw [e, List.map_append, ← List.append_assoc]
        have e2 : List.map frac [lo, hi] = [frac lo, frac hi] := rfl
        rw [e2, ← ih]
        simp [bnd, noX, gSet, Mi.ret, asB, x2, xVar, xC, a0, eq_ss, toB, xIt, xSl, oSome, toI, cut, itV, wipeE, i2]
    · have e : i = S.length := by omega
      subst e
      have hx : nxT (S.map pcV) S.length st = .stop := by simp [nxT]
      rw [List.drop_length]
      unfold comp2F
      rw [hx]
      simp [strsOf, endsOf]
theorem ix_last {st : Store} {n : Nat} {xs : List PV} {v : PV} (h : st[n]? = some (.lst (xs ++ [v]))) : ixA (.loc n) (.int (-1)) st = .ok v st := by
  have e : atI (xs ++ [v]) (-1) = some v := by
    have e2 : (-1 + ((xs.length : Int) + 1)).toNat = xs.length := by omega
    unfold atI ixN
    simp only [List.length_append, List.length_cons, List.length_nil]
    rw [if_neg (by decide), if_pos (by omega)]
    simp [e2]
  unfold ixA ixV
  dsimp only
  rw [gl h]
  dsimp only
  rw [e]
  rfl
theorem pop_last {st : Store} {n : Nat} {xs : List PV} {v : PV} (h : st[n]? = some (.lst (xs ++ [v]))) : popV (.loc n) st = .ok v (st.set n (.lst xs)) := by
  unfold popV
  dsimp only
  rw [gm h]
  simp
/-- nothing is charged between any neighbours -/
def NoPrice (T : List Sp) (E : List Rat) (n : Nat) : Prop := ∀ j, j < n → prc T ((E[j]?).getD 0) ((E[j + 1]?).getD 0) = 0
theorem noPrice_succ (T : List Sp) (E : List Rat) (n : Nat) : NoPrice T E (n + 1) ↔ NoPrice T E n ∧ prc T ((E[n]?).getD 0) ((E[n + 1]?).getD 0) = 0 := by
  constructor
  · exact fun h => ⟨fun j hj => h j (by omega), h n (by omega)⟩
  · rintro ⟨h1, h2⟩ j hj
    by_cases e : j = n
    · subst e; exact h2
    · exact h1 j (by omega)
theorem ends_sm {s : Nat} {T : List Sp} (h : ∀ x ∈ T, SpOk s x) : ∀ q ∈ endsOf T, Sm s q := fun q hq => by
  obtain ⟨x, hx, hq⟩ := List.mem_flatMap.mp hq
  simp only [List.mem_cons, List.not_mem_nil, or_false] at hq
  rcases hq with e | e <;> rw [e]
  · exact (h x hx).1
  · exact (h x hx).2.1
theorem ends_len (T : List Sp) : (endsOf T).length = 2 * T.length := by
  induction T with
  | nil => rfl
  | cons x T ih =>
    have : endsOf (x :: T) = [x.lo, x.hi] ++ endsOf T := rfl
    rw [this, List.length_append, ih]
    simp
    omega
theorem t_stretched {s : Nat} {S : List Pc} (st : Store) (h : ScOk s S) (hs : s ≤ 390) :
    ∃ T : List Sp, OkL (m_stretched [scV S] st) st (T.map spV) ∧ T.length ≤ 100 ∧ (T = [] ↔ NoPrice (strsOf S) (sortR (endsOf (strsOf S))) ((sortR (endsOf (strsOf S))).length - 1)) := by
  have hl := h.len
  have hsl := strs_len S
  have hel := ends_len (strsOf S)
  have hE := sortR_len (endsOf (strsOf S))
  have hEsm : ∀ q ∈ sortR (endsOf (strsOf S)), Sm s q := fun q hq => ends_sm (strs_ok h.ok) q ((sortR_mem _ _).mp hq)
  have c0 := ends_ok hl st fu 0 [] (Nat.zero_le _) (by unfold fu; omega) (by simp)
  rw [List.drop_zero, List.nil_append] at c0
  have c1 : xLc2 fu [7, 8] [8] (xIt (xVar 0)) (gSet 7) (asB (x2 (eqP false) (x2 ixA (xVar 7) (xC (.int (0)))) (xC (.str "stretch")))) (xIt (xSl (xVar 7) (oSome (xC (.int (1)))) (oSome (xC (.int (3)))))) (gSet 8) bYes (xVar 8) [some (scV S), none, none, none, none, none, none, none, none] st = .ok (.loc st.length) (st ++ [.lst ((endsOf (strsOf S)).map frac)]) := by
    unfold xLc2
    rw [bnd_ok (a := nxT (S.map pcV)) (st' := st) (by simp [xIt, xVar, bnd, itV, scV, Mi.ret])]
    exact c0
  have g1 := Gr.new st (.lst ((endsOf (strsOf S)).map frac))
  have n1 := at_new st (.lst ((endsOf (strsOf S)).map frac))
  generalize hs1 : st ++ [Cell.lst ((endsOf (strsOf S)).map frac)] = st1 at *
  obtain ⟨st2, e, c2, g2, n2⟩ := t_unlike (endsOf (strsOf S)) st.length st1 n1 (ends_sm (strs_ok h.ok)) (by omega) (by omega)
  generalize hEE : sortR (endsOf (strsOf S)) = E at *
  have g3 := Gr.new st2 (.lst [])
  have n3 := at_new st2 (.lst [])
  have out : ∀ env, xA lstV aNil env st2 = .ok (.loc st2.length) (st2 ++ [.lst []]) := fun env => rfl
  have n23 := g3.at n2
  generalize hs3 : st2 ++ [Cell.lst []] = st3 at *
  obtain ⟨env', st', e1, g4, T, x3, x4, x5, x6, rfl, n4, hT, hiff⟩ := for_ok (nx := nxR 0 (E.length - 1)) (g := gSet 3) (body := (sSeq (sPar 4 5 (aCons (x2 ixA (xVar 1) (xVar 3)) (aCons (x2 ixA (xVar 1) (x2 addV (xVar 3) (xC (.int (1))))) aNil)))
  (sSeq (sAsg (xCallN 3 m_price_over (aCons (xVar 0) (aCons (xVar 4) (aCons (xVar 5) aNil)))) (gSet 6))
  (sSeq (sIf (bAnd (xTru (xVar 2)) (bAnd (asB (x2 (eqP false) (x2 ixA (x2 ixA (xVar 2) (x1 negV (xC (.int (1))))) (xC (.int (2)))) (xVar 4))) (asB (x2 (eqP false) (x2 ixA (x2 ixA (xVar 2) (x1 negV (xC (.int (1))))) (xC (.int (3)))) (xVar 6)))))
  (sAsg (x2 ixA (x1 popV (xVar 2)) (xC (.int (1)))) (gSet 4))
  sNop)
  (sIf (asB (x2 (eqP true) (xVar 6) (xC (.tup p_NOUGHT))))
  (sEx (xMt appV (xVar 2) (aCons (xA tupV (aCons (xC (.str "stretch")) (aCons (xVar 4) (aCons (xVar 5) (aCons (xVar 6) aNil))))) aNil)))
  sNop))))) (n := E.length - 1) (vf := fun i => .int (0 + (i : Nat))) (env := [some (scV S), some (.loc e), some (.loc st2.length), none, none, none, none, none, none]) (st := st3)
    (fun i env st' => Gr st2 st' ∧ ∃ T x3 x4 x5 x6, env = [some (scV S), some (.loc e), some (.loc st2.length), x3, x4, x5, x6, none, none] ∧ st'[st2.length]? = some (.lst (T.map spV)) ∧ (T.length ≤ i ∧ ∀ t ∈ T, t.p ≠ 0) ∧ (T = [] ↔ NoPrice (strsOf S) E i))
    (fun i env st' hi _ => by simp [nxR, hi])
    (fun env st' _ => by simp [nxR])
    (fun i env st' hi h0 => by
      obtain ⟨g, T, x3, x4, x5, x6, rfl, n4, ⟨hTl, hT⟩, hiff⟩ := h0
      have hi1 : i < E.length := by omega
      have hi2 : i + 1 < E.length := by omega
      have ei : E[i]? = some E[i] := List.getElem?_eq_getElem hi1
      have ei2 : E[i + 1]? = some E[i + 1] := List.getElem?_eq_getElem hi2
      have m1 := hEsm _ (List.getElem_mem hi1)
      have m2 := hEsm _ (List.getElem_mem hi2)
      rw [noPrice_succ, ei, ei2]
      simp only [Option.getD_some]
      generalize hlo : E[i] = low at *
      generalize hhi : E[i + 1] = high at *
      have n2' := g.at n2
      have i1 := ix_at (i := 0 + (i : Int)) (j := i) (v := frac low) n2' (by omega) (by rw [List.getElem?_map, ei]; rfl)
      have i2 := ix_at (i := 0 + (i : Int) + 1) (j := i + 1) (v := frac high) n2' (by omega) (by rw [List.getElem?_map, ei2]; rfl)
      obtain ⟨st5, p1, g5⟩ := t_price_over st' h hs low high m1 m2
      have n5 := g5.at n4
      generalize hpr : prc (strsOf S) low high = pr at *
      have gg := g.trans g5
      -- the start of the body
      show ∃ env' st'', sSeq _ _ [some (scV S), some (.loc e), some (.loc st2.length), some (.int (0 + (i : Nat))), x4, x5, x6, none, none] st' = .ok (.nx env') st'' ∧ _
      rw [seq_nx (st' := st') (env' := [some (scV S), some (.loc e), some (.loc st2.length), some (.int (0 + (i : Nat))), some (frac low), some (frac high), x6, none, none]) (by
        simp only [sPar, aCons, aNil, x2, bnd, xVar, List.getElem?_cons_succ, List.getElem?_cons_zero, i1, xC, Mi.ret, addV, i2, List.set_cons_succ, List.set_cons_zero])]
      rw [seq_nx (st' := st5) (env' := [some (scV S), some (.loc e), some (.loc st2.length), some (.int (0 + (i : Nat))), some (frac low), some (frac high), some (frac pr), none, none]) (by
        simp [sAsg, xCallN, aCons, aNil, xVar, bnd, Mi.ret, callM_ok p1, gSet])]
      -- the two tests
      have tail : ∀ (lo2 : Rat) (T2 : List Sp) st6, Gr st2 st6 → st6[st2.length]? = some (.lst (T2.map spV)) → T2.length ≤ i → (∀ t ∈ T2, t.p ≠ 0) → (pr = 0 → (T2 = [] ↔ NoPrice (strsOf S) E i)) →
          ∃ env' st'', sIf (asB (x2 (eqP true) (xVar 6) (xC (.tup p_NOUGHT)))) (sEx (xMt appV (xVar 2) (aCons (xA tupV (aCons (xC (.str "stretch")) (aCons (xVar 4) (aCons (xVar 5) (aCons (xVar 6) aNil))))) aNil))) sNop [some (scV S), some (.loc e), some (.loc st2.length), some (.int (0 + (i : Nat))), some (frac lo2), some (frac high), some (frac pr), none, none] st6 = .ok (.nx env') st'' ∧
          Gr st2 st'' ∧ ∃ T x3 x4 x5 x6, env' = [some (scV S), some (.loc e), some (.loc st2.length), x3, x4, x5, x6, none, none] ∧ st''[st2.length]? = some (.lst (T.map spV)) ∧ (T.length ≤ i + 1 ∧ ∀ t ∈ T, t.p ≠ 0) ∧ (T = [] ↔ NoPrice (strsOf S) E i ∧ pr = 0) := by
        intro lo2 T2 st6 g6 n6 l6 hT2 h6
        have eq := eq_ff true pr 0 st6
        rw [frac0] at eq
        by_cases hz : pr = 0
        · refine ⟨_, st6, by simp [sIf, asB, x2, xVar, xC, bnd, Mi.ret, eq, toB, hz, sNop]; rfl, g6, T2, _, _, _, _, rfl, n6, ⟨by omega, hT2⟩, ?_⟩
          rw [h6 hz]
          exact ⟨fun z => ⟨z, hz⟩, fun z => z.1⟩
        · have ap := ap_ok (i := 2) (e := xA tupV (aCons (xC (.str "stretch")) (aCons (xVar 4) (aCons (xVar 5) (aCons (xVar 6) aNil))))) (env := [some (scV S), some (.loc e), some (.loc st2.length), some (.int (0 + (i : Nat))), some (frac lo2), some (frac high), some (frac pr), none, none]) (v := spV ⟨lo2, high, pr⟩) rfl n6 (by simp [xA, aCons, aNil, xC, xVar, bnd, Mi.ret, tupV, sizeTop, spV, pcV]) (by rw [List.length_map]; omega)
          refine ⟨_, _, by simp only [sIf, asB, x2, xVar, List.getElem?_cons_succ, List.getElem?_cons_zero, xC, bnd, Mi.ret, eq, toB, hz, decide_false, Bool.not_false, if_true, sEx, ap]; rfl, g6.set _ (Nat.le_refl _), T2 ++ [⟨lo2, high, pr⟩], _, _, _, _, rfl, by rw [set_at n6]; simp, ⟨by simp; omega, fun t ht => ?_⟩, ?_⟩
          · rcases List.mem_append.mp ht with z | z
            · exact hT2 t z
            · rw [List.mem_singleton.mp z]; exact hz
          · simp [hz]
      rcases List.eq_nil_or_concat T with hTn | ⟨T', t, hTc⟩
      · subst hTn
        rw [seq_nx (st' := st5) (env' := [some (scV S), some (.loc e), some (.loc st2.length), some (.int (0 + (i : Nat))), some (frac low), some (frac high), some (frac pr), none, none]) (by
          simp [sIf, bAnd, xTru, xVar, bnd, truV, gl n5, Mi.ret, sNop])]
        exact tail low [] st5 gg n5 (by simp) (by simp) fun _ => hiff
      · rw [List.concat_eq_append] at hTc
        subst hTc
        have n5' : st5[st2.length]? = some (.lst (T'.map spV ++ [spV t])) := by rw [n5]; simp
        have il := ix_last n5'
        have b2 : ixA (spV t) (.int 2) st5 = .ok (frac t.hi) st5 := rfl
        have b3 : ixA (spV t) (.int 3) st5 = .ok (frac t.p) st5 := rfl
        have q1 := eq_ff false t.hi low st5
        have q2 := eq_ff false t.p pr st5
        have ht := hT t (by simp)
        have hne : ¬ NoPrice (strsOf S) E i := fun z => by
          have := hiff.mpr z
          simp at this
        by_cases hm : t.hi = low ∧ t.p = pr
        · rw [if_neg (by decide), decide_eq_true hm.1] at q1
          rw [if_neg (by decide), decide_eq_true hm.2] at q2
          have pp := pop_last n5'
          have b1 : ∀ st, ixA (spV t) (.int 1) st = .ok (frac t.lo) st := fun st => rfl
          rw [seq_nx (st' := st5.set st2.length (.lst (T'.map spV))) (env' := [some (scV S), some (.loc e), some (.loc st2.length), some (.int (0 + (i : Nat))), some (frac t.lo), some (frac high), some (frac pr), none, none]) (by
            simp [sIf, bAnd, xTru, xVar, bnd, truV, gl n5', Mi.ret, asB, x2, x1, negV, xC, il, b2, b3, q1, q2, toB, sAsg, pp, b1, gSet])]
          refine tail t.lo T' _ (gg.set _ (Nat.le_refl _)) (set_at n5') (by simp at hTl; omega) (fun u hu => hT u (by simp [hu])) fun hz => absurd (hm.2.trans hz) ht
        · rw [seq_nx (st' := st5) (env' := [some (scV S), some (.loc e), some (.loc st2.length), some (.int (0 + (i : Nat))), some (frac low), some (frac high), some (frac pr), none, none]) (by
            by_cases ha : t.hi = low
            · have hb : ¬ t.p = pr := fun z => hm ⟨ha, z⟩
              rw [if_neg (by decide), decide_eq_true ha] at q1
              rw [if_neg (by decide), decide_eq_false hb] at q2
              simp [sIf, bAnd, xTru, xVar, bnd, truV, gl n5', Mi.ret, asB, x2, x1, negV, xC, il, b2, b3, q1, q2, toB, sNop]
            · rw [if_neg (by decide), decide_eq_false ha] at q1
              simp [sIf, bAnd, xTru, xVar, bnd, truV, gl n5', Mi.ret, asB, x2, x1, negV, xC, il, b2, q1, toB, sNop])]
          exact tail low _ st5 gg n5 hTl hT fun _ => hiff)
    ⟨g3, [], none, none, none, none, rfl, n3, ⟨by simp, by simp⟩, ⟨fun _ j hj => by omega, fun _ => rfl⟩⟩ (by omega)
  refine ⟨T, ⟨st', st2.length, run_rt ?_, (g1.trans g2).trans g4, (g1.trans g2).len, n4⟩, by have := hT.1; omega, hiff⟩
  show sSeq _ _ [some (scV S), none, none, none, none, none, none, none, none] st = _
  rw [seq_nx (asg_ok (v := .loc e) (st' := st2) (by simp only [xCallN, aCons, aNil, bnd, c1, Mi.ret, List.length_cons, List.length_nil, if_true, callM_ok c2]))]
  show sSeq _ _ [some (scV S), some (.loc e), none, none, none, none, none, none, none] st2 = _
  rw [seq_nx (asg_ok (out _))]
  show sSeq _ _ [some (scV S), some (.loc e), some (.loc st2.length), none, none, none, none, none, none] st3 = _
  have hrng : xRng rng1 (aCons (x2 subV (xA lenV (aCons (xVar 1) aNil)) (xC (.int (1)))) aNil) [some (scV S), some (.loc e), some (.loc st2.length), none, none, none, none, none, none] st3 = .ok (nxR 0 (E.length - 1)) st3 := by
    have e3 : ((E.length : Int) - 1).toNat = E.length - 1 := by omega
    have e4 : -(2 ^ 62) ≤ (E.length : Int) - 1 ∧ (E.length : Int) - 1 < 2 ^ 62 := by omega
    simp only [xRng, aCons, aNil, x2, xA, xVar, bnd, List.getElem?_cons_succ, List.getElem?_cons_zero, Mi.ret, len_at n23, List.length_map, xC, subV, rng1]
    rw [if_pos e4, e3]
    rfl
  have hfor : sFor fu (xRng rng1 (aCons (x2 subV (xA lenV (aCons (xVar 1) aNil)) (xC (.int (1)))) aNil)) (gSet 3) (sSeq (sPar 4 5 (aCons (x2 ixA (xVar 1) (xVar 3)) (aCons (x2 ixA (xVar 1) (x2 addV (xVar 3) (xC (.int (1))))) aNil)))
  (sSeq (sAsg (xCallN 3 m_price_over (aCons (xVar 0) (aCons (xVar 4) (aCons (xVar 5) aNil)))) (gSet 6))
  (sSeq (sIf (bAnd (xTru (xVar 2)) (bAnd (asB (x2 (eqP false) (x2 ixA (x2 ixA (xVar 2) (x1 negV (xC (.int (1))))) (xC (.int (2)))) (xVar 4))) (asB (x2 (eqP false) (x2 ixA (x2 ixA (xVar 2) (x1 negV (xC (.int (1))))) (xC (.int (3)))) (xVar 6)))))
  (sAsg (x2 ixA (x1 popV (xVar 2)) (xC (.int (1)))) (gSet 4))
  sNop)
  (sIf (asB (x2 (eqP true) (xVar 6) (xC (.tup p_NOUGHT))))
  (sEx (xMt appV (xVar 2) (aCons (xA tupV (aCons (xC (.str "stretch")) (aCons (xVar 4) (aCons (xVar 5) (aCons (xVar 6) aNil))))) aNil)))
  sNop)))) [some (scV S), some (.loc e), some (.loc st2.length), none, none, none, none, none, none] st3 = .ok (.nx [some (scV S), some (.loc e), some (.loc st2.length), x3, x4, x5, x6, none, none]) st' := by
    unfold sFor
    rw [bnd_ok hrng]
    exact e1
  rw [seq_nx hfor]
  rfl
end Lw
namespace Lw
open PySem PySem.Spec L2 Mi
def NoStr (S : List Pc) : Prop := NoPrice (strsOf S) (sortR (endsOf (strsOf S))) ((sortR (endsOf (strsOf S))).length - 1)
def mkV (x : Rat × Rat) : PV := pcV (.mark x.1 x.2)
theorem t_plain_score {s : Nat} {S : List Pc} (st : Store) (h : ScOk s S) (hs : s ≤ 390) : ∃ T : List Sp, Ok (m_plain_score [scV S] st) st (.tup ((markR S).map mkV ++ T.map spV)) ∧ (T = [] ↔ NoStr S) ∧ T.length ≤ 100 := by
  obtain ⟨st1, a, e1, g1, _, n1⟩ := t_marked st h (by omega)
  obtain ⟨T, ⟨st2, b, e2, g2, _, n2⟩, hTl, hT⟩ := t_stretched st1 h hs
  have n1' := g2.at n1
  have hml := markR_len S
  have hl := h.len
  have e3 : addV (.loc a) (.loc b) st2 = newC (.lst ((markR S).map mkV ++ T.map spV)) st2 := by
    unfold addV
    dsimp only
    rw [gm n1', gm n2]
    dsimp only
    rw [if_pos]
    · rfl
    · simp only [List.length_map]
      unfold sizeTop; omega
  refine ⟨T, ⟨st2 ++ [.lst ((markR S).map mkV ++ T.map spV)], run_rt (ret_ok ?_), (g1.trans g2).trans (Gr.new _ _)⟩, hT, hTl⟩
  have n3 := at_new st2 (.lst ((markR S).map mkV ++ T.map spV))
  show xA tupleV _ [some (scV S)] st = _
  simp only [xA, aCons, aNil, bnd, x2, xCallN, xVar, List.getElem?_cons_zero, Mi.ret, List.length_cons, List.length_nil, if_true, callM_ok e1, callM_ok e2, e3, newC, tupleV, gl n3]
theorem bls_map (f : PV → Bool) : ∀ xs : List PV, blsOf (xs.map fun v => .bl (f v)) = some (xs.map f)
  | [] => rfl
  | x :: xs => by simp only [List.map_cons, blsOf, bls_map f xs]
def isStr : PV → Bool
  | .tup [_, _, _, _] => true
  | _ => false
theorem isStr_mk (x : Rat × Rat) : isStr (mkV x) = false := rfl
theorem isStr_sp (x : Sp) : isStr (spV x) = true := rfl
theorem t_ladder_of {s : Nat} {S : List Pc} (st : Store) (h : ScOk s S) (hs : s ≤ 390) : (NoStr S → Ok (m_ladder_of [scV S] st) st (ladV (markR S))) ∧ (¬ NoStr S → Ok (m_ladder_of [scV S] st) st .non) := by
  obtain ⟨st1, e1, g1⟩ := t_sure_score st h (by omega)
  obtain ⟨T, ⟨st2, e2, g2⟩, hT, hTl⟩ := t_plain_score st1 h hs
  have hml := markR_len S
  have hl := h.len
  generalize hvs : (markR S).map mkV ++ T.map spV = vs at *
  have hvl : vs.length < 1000 := by rw [← hvs]; simp; omega
  have hcase : ∀ v ∈ vs, (∃ x ∈ markR S, v = mkV x) ∨ ∃ x ∈ T, v = spV x := fun v hv => by
    rw [← hvs] at hv
    rcases List.mem_append.mp hv with z | z
    · obtain ⟨x, hx, rfl⟩ := List.mem_map.mp z
      exact .inl ⟨x, hx, rfl⟩
    · obtain ⟨x, hx, rfl⟩ := List.mem_map.mp z
      exact .inr ⟨x, hx, rfl⟩
  obtain ⟨st3, c, e3, g3, _, n3⟩ := lc_tup (xs := vs) (vs := [2]) (g := gSet 2) (c := bYes) (e := x2 (eqP false) (x2 ixA (xVar 2) (xC (.int (0)))) (xC (.str "stretch"))) (env := [some (scV S), some (.tup vs), none]) (fi := xIt (xVar 1)) (st := st2) (st0 := st2) (fun v => some (.bl (isStr v))) (by simp [xIt, xVar, bnd, itV, Mi.ret]) (Gr.refl _) (fun v st5 hv g5 => by
    refine ⟨[some (scV S), some (.tup vs), some v], true, st5, rfl, rfl, Gr.refl _, (fun z => by cases z), fun _ => ⟨.bl (isStr v), st5, ?_, Gr.refl _, rfl⟩⟩
    rcases hcase v hv with ⟨x, _, rfl⟩ | ⟨x, _, rfl⟩
    · have a0 : ixA (mkV x) (.int 0) st5 = .ok (.str "mark") st5 := rfl
      simp [x2, xVar, xC, bnd, Mi.ret, a0, eq_ms, isStr_mk]
    · have a0 : ixA (spV x) (.int 0) st5 = .ok (.str "stretch") st5 := rfl
      simp [x2, xVar, xC, bnd, Mi.ret, a0, eq_ss, isStr_sp]) (by omega)
  have hfm : vs.filterMap (fun v => some (PV.bl (isStr v))) = vs.map fun v => .bl (isStr v) := by
    rw [← List.filterMap_eq_map]; rfl
  rw [hfm] at n3
  have hany : (vs.map isStr).any id = !T.isEmpty := by
    rw [← hvs, List.map_append, List.any_append]
    have h1 : (((markR S).map mkV).map isStr).any id = false := by
      rw [List.any_eq_false]
      intro b hb
      obtain ⟨v, hv, rfl⟩ := List.mem_map.mp hb
      obtain ⟨x, _, rfl⟩ := List.mem_map.mp hv
      simp [isStr_mk]
    rw [h1, Bool.false_or]
    cases T with
    | nil => rfl
    | cons x T => simp [isStr_sp]
  have e4 : anyV [.loc c] st3 = .ok (.bl (!T.isEmpty)) st3 := by
    unfold anyV
    dsimp only
    rw [gl n3, Option.bind_some, bls_map]
    dsimp only
    rw [hany]
  have first : sAsg (xCallN 1 m_plain_score (aCons (xCallN 1 m_sure_score (aCons (xVar 0) aNil)) aNil)) (gSet 1) [some (scV S), none, none] st = .ok (.nx [some (scV S), some (.tup vs), none]) st2 := by
    refine asg_ok ?_
    simp only [xCallN, aCons, aNil, bnd, xVar, List.getElem?_cons_zero, Mi.ret, List.length_cons, List.length_nil, if_true, callM_ok e1, callM_ok e2]
  have test : xTru (xA anyV (aCons (xLc fu [2] (xIt (xVar 1)) (gSet 2) bYes (x2 (eqP false) (x2 ixA (xVar 2) (xC (.int (0)))) (xC (.str "stretch")))) aNil)) [some (scV S), some (.tup vs), none] st2 = .ok (!T.isEmpty) st3 := by
    simp only [xTru, xA, aCons, aNil, bnd, e3, Mi.ret, e4, truV]
  constructor
  · intro hno
    have hTn := hT.mpr hno
    subst hTn
    have hvs' : vs = (markR S).map mkV := by rw [← hvs]; simp
    obtain ⟨st4, d, e5, g4, _, n4⟩ := lc_tup (xs := vs) (vs := [2]) (g := gSet 2) (c := bYes) (e := xA tupV (aCons (x2 ixA (xVar 2) (xC (.int (1)))) (aCons (x2 ixA (xVar 2) (xC (.int (2)))) aNil))) (env := [some (scV S), some (.tup vs), none]) (fi := xIt (xVar 1)) (st := st3) (st0 := st3)
      (fun v => match v with
        | .tup [_, a, b] => some (.tup [a, b])
        | _ => none) (by simp [xIt, xVar, bnd, itV, Mi.ret]) (Gr.refl _) (fun v st5 hv g5 => by
      rw [hvs'] at hv
      obtain ⟨x, _, rfl⟩ := List.mem_map.mp hv
      have a1 : ixA (mkV x) (.int 1) st5 = .ok (frac x.1) st5 := rfl
      have a2 : ixA (mkV x) (.int 2) st5 = .ok (frac x.2) st5 := rfl
      exact ⟨[some (scV S), some (.tup vs), some (mkV x)], true, st5, rfl, rfl, Gr.refl _, (fun z => by cases z), fun _ => ⟨rungV x, st5, by simp [xA, aCons, aNil, x2, xVar, xC, bnd, Mi.ret, a1, a2, tupV, sizeTop, rungV], Gr.refl _, rfl⟩⟩) (by omega)
    have hfm2 : vs.filterMap (fun v => match v with
        | .tup [_, a, b] => some (.tup [a, b])
        | _ => none) = (markR S).map rungV := by
      rw [hvs', List.filterMap_map, ← List.filterMap_eq_map]
      rfl
    rw [hfm2] at n4
    refine ⟨st4, run_rt ?_, ((g1.trans g2).trans g3).trans g4⟩
    show sSeq _ _ [some (scV S), none, none] st = _
    rw [seq_nx first]
    rw [seq_nx (st' := st3) (env' := [some (scV S), some (.tup vs), none]) (by unfold sIf; rw [bnd_ok test]; rfl)]
    refine ret_ok ?_
    simp only [xA, aCons, aNil, bnd, e5, Mi.ret, tupleV, gl n4]
    rfl
  · intro hno
    have hTn : T ≠ [] := fun z => hno (hT.mp z)
    have hb : (!T.isEmpty) = true := by simpa using hTn
    rw [hb] at test
    refine ⟨st3, run_rt ?_, (g1.trans g2).trans g3⟩
    show sSeq _ _ [some (scV S), none, none] st = _
    rw [seq_nx first]
    refine seq_rt ?_
    unfold sIf
    rw [bnd_ok test]
    rfl
end Lw
namespace Lw
open PySem PySem.Spec L2 Mi
theorem x2_ok {o : PV → PV → M PV} {fa fb : Ev → M PV} {env : Ev} {st st1 st2 : Store} {a b : PV} (h1 : fa env st = .ok a st1) (h2 : fb env st1 = .ok b st2) : x2 o fa fb env st = o a b st2 := by unfold x2; rw [bnd_ok h1, bnd_ok h2]
/-! ### the law's plain score: marks -/
def cMark : Ev → M PV := xLc fu [11] (xIt (xVar 0)) (gSet 11) (asB (x2 (eqP false) (x2 ixA (xVar 11) (xC (.int (0)))) (xC (.str "mark")))) (x2 ixA (xVar 11) (xC (.int (1))))
def cPrice : Ev → M PV := xLc fu [11] (xIt (xVar 0)) (gSet 11) (asB (x2 (eqP false) (xSl (xVar 11) oNone (oSome (xC (.int (2))))) (xA tupV (aCons (xC (.str "mark")) (aCons (xVar 3) aNil))))) (x2 ixA (xVar 11) (xC (.int (2))))
def bMark : Ev → M Flw := sSeq (sAsg (xCallN 1 m__law_sum (aCons cPrice aNil)) (gSet 4))
  (sAsg (x2 addV (xVar 2) (vIf (asB (x2 (eqP true) (xVar 4) (xA tupV (aCons (xC (.int (0))) (aCons (xC (.int (1))) aNil))))) (xA lstV (aCons (xA tupV (aCons (xC (.str "mark")) (aCons (xVar 3) (aCons (xVar 4) aNil)))) aNil)) (xA lstV aNil))) (gSet 2))
def env12 (a b c d e f g h i j k : Option PV) : Ev := [a, b, c, d, e, f, g, h, i, j, k, none]
theorem marks_fm (S : List Pc) : (S.map pcV).filterMap (fun v => match v with
    | .tup [_, a, _] => some a
    | _ => none) = ((marksOf S).map (·.1)).map frac := by
  induction S with
  | nil => rfl
  | cons p S ih =>
    cases p with
    | mark m p =>
      have e : marksOf (.mark m p :: S) = (m, p) :: marksOf S := rfl
      rw [e, List.map_cons, List.filterMap_cons, List.map_cons, List.map_cons, ← ih]
      rfl
    | str lo hi p =>
      have e : marksOf (.str lo hi p :: S) = marksOf S := rfl
      rw [e, List.map_cons, List.filterMap_cons, ← ih]
      rfl
theorem t_cMark {S : List Pc} (hS : S.length ≤ 10) (a b c d e f g h i j : Option PV) (st : Store) : OkL (cMark (env12 (some (scV S)) a b c d e f g h i j) st) st (((marksOf S).map (·.1)).map frac) := by
  have := lc_tup (xs := S.map pcV) (vs := [11]) (g := gSet 11) (c := asB (x2 (eqP false) (x2 ixA (xVar 11) (xC (.int (0)))) (xC (.str "mark")))) (e := x2 ixA (xVar 11) (xC (.int (1)))) (env := env12 (some (scV S)) a b c d e f g h i j) (fi := xIt (xVar 0)) (st := st) (st0 := st) (fun v => match v with
    | .tup [_, a, _] => some a
    | _ => none) (by simp [xIt, xVar, bnd, itV, scV, Mi.ret, env12]) (Gr.refl _) (fun v st5 hv g5 => by
    obtain ⟨p, hp, rfl⟩ := List.mem_map.mp hv
    refine ⟨[some (scV S), a, b, c, d, e, f, g, h, i, j, some (pcV p)], ?_⟩
    cases p with
    | mark m p =>
      have a0 : ixA (pcV (.mark m p)) (.int 0) st5 = .ok (.str "mark") st5 := rfl
      have a1 : ixA (pcV (.mark m p)) (.int 1) st5 = .ok (frac m) st5 := rfl
      exact ⟨true, st5, rfl, by simp [asB, x2, xVar, xC, bnd, Mi.ret, a0, eq_mm, toB], Gr.refl _, (fun z => by cases z), fun _ => ⟨frac m, st5, by simp [x2, xVar, xC, bnd, Mi.ret, a1], Gr.refl _, rfl⟩⟩
    | str lo hi p =>
      have a0 : ixA (pcV (.str lo hi p)) (.int 0) st5 = .ok (.str "stretch") st5 := rfl
      exact ⟨false, st5, rfl, by simp [asB, x2, xVar, xC, bnd, Mi.ret, a0, eq_sm, toB], Gr.refl _, (fun _ => rfl), fun z => by cases z⟩) (by simp; omega)
  rw [marks_fm] at this
  exact this
def pickF (m : Rat) (v : PV) : Option PV := match v with
  | .tup [_, a, b] => if unF a = m then some b else none
  | _ => none
theorem pickF_mark (m k p : Rat) : pickF m (pcV (.mark k p)) = if k = m then some (frac p) else none := by
  show (if unF (frac k) = m then some (frac p) else none) = _
  rw [unF_frac]
theorem price_fm' (S : List Pc) (m : Rat) : (S.map pcV).filterMap (pickF m) = (((marksOf S).filter fun x => decide (x.1 = m)).map (·.2)).map frac := by
  induction S with
  | nil => rfl
  | cons p S ih =>
    cases p with
    | mark k p =>
      have e : marksOf (.mark k p :: S) = (k, p) :: marksOf S := rfl
      rw [e, List.map_cons, List.filterMap_cons, List.filter_cons, pickF_mark]
      by_cases h : k = m
      · rw [if_pos h, if_pos (by simpa using h), List.map_cons, List.map_cons, ← ih]
      · rw [if_neg h, if_neg (by simpa using h), ← ih]
    | str lo hi p =>
      have e : marksOf (.str lo hi p :: S) = marksOf S := rfl
      rw [e, List.map_cons, List.filterMap_cons, ← ih]
      rfl
theorem pq_tup2 (w : Str) (hw : PyData.strOk w = true) (q : Rat) : Pq 2 (.tup [.str w, frac q]) := pq_tup fun x hx => by
  rcases List.mem_cons.mp hx with h | h
  · rw [h]; exact pq_str hw _
  · rw [List.mem_singleton.mp h]; exact pq_frac _
theorem t_cPrice {S : List Pc} (hS : S.length ≤ 10) (m : Rat) (a b d e f g h i j : Option PV) (st : Store) : OkL (cPrice (env12 (some (scV S)) a b (some (frac m)) d e f g h i j) st) st ((((marksOf S).filter fun x => decide (x.1 = m)).map (·.2)).map frac) := by
  have := lc_tup (xs := S.map pcV) (vs := [11]) (g := gSet 11) (c := asB (x2 (eqP false) (xSl (xVar 11) oNone (oSome (xC (.int (2))))) (xA tupV (aCons (xC (.str "mark")) (aCons (xVar 3) aNil))))) (e := x2 ixA (xVar 11) (xC (.int (2)))) (env := env12 (some (scV S)) a b (some (frac m)) d e f g h i j) (fi := xIt (xVar 0)) (st := st) (st0 := st) (pickF m) (by simp [xIt, xVar, bnd, itV, scV, Mi.ret, env12]) (Gr.refl _) (fun v st5 hv g5 => by
    obtain ⟨p, hp, rfl⟩ := List.mem_map.mp hv
    refine ⟨[some (scV S), a, b, some (frac m), d, e, f, g, h, i, j, some (pcV p)], ?_⟩
    cases p with
    | mark k p =>
      have cut : sliceV (pcV (.mark k p)) none (some 2) = Mi.ret (.tup [.str "mark", frac k]) := rfl
      have a1 : ixA (pcV (.mark k p)) (.int 2) st5 = .ok (frac p) st5 := rfl
      by_cases hk : k = m
      · have q := eqP_eq false st5 (pq_tup2 "mark" ok_mark m) (by decide)
        subst hk
        exact ⟨true, st5, rfl, by simp [asB, x2, xVar, xC, bnd, Mi.ret, xSl, oNone, oSome, toI, cut, xA, aCons, aNil, tupV, sizeTop, q, toB], Gr.refl _, (fun z => by cases z), fun _ => ⟨frac p, st5, by simp [x2, xVar, xC, bnd, Mi.ret, a1], Gr.refl _, by
          rw [pickF_mark, if_pos rfl]⟩⟩
      · have ne : PV.tup [.str "mark", frac k] ≠ .tup [.str "mark", frac m] := fun z => by
          injection z with z
          injection z with _ z
          injection z with z _
          exact hk (frac_inj z)
        have q := eqP_ne false st5 (pq_tup2 "mark" ok_mark k) (pq_tup2 "mark" ok_mark m) (by decide) ne
        exact ⟨false, st5, rfl, by simp [asB, x2, xVar, xC, bnd, Mi.ret, xSl, oNone, oSome, toI, cut, xA, aCons, aNil, tupV, sizeTop, q, toB], Gr.refl _, (fun _ => by
          rw [pickF_mark, if_neg hk]), fun z => by cases z⟩
    | str lo hi p =>
      have cut : sliceV (pcV (.str lo hi p)) none (some 2) = Mi.ret (.tup [.str "stretch", frac lo]) := rfl
      have ne : PV.tup [.str "stretch", frac lo] ≠ .tup [.str "mark", frac m] := fun z => by
        injection z with z
        injection z with z _
        exact ms_ne z.symm
      have q := eqP_ne false st5 (pq_tup2 "stretch" ok_str lo) (pq_tup2 "mark" ok_mark m) (by decide) ne
      exact ⟨false, st5, rfl, by simp [asB, x2, xVar, xC, bnd, Mi.ret, xSl, oNone, oSome, toI, cut, xA, aCons, aNil, tupV, sizeTop, q, toB], Gr.refl _, (fun _ => rfl), fun z => by cases z⟩) (by simp; omega)
  rw [price_fm'] at this
  exact this
theorem marks_sm {s : Nat} {S : List Pc} (h : ∀ p ∈ S, PcOk s p) : ∀ x ∈ marksOf S, Sm s x.1 ∧ Sm s x.2 := fun x hx => by
  obtain ⟨p, hp, e⟩ := List.mem_filterMap.mp hx
  have := h p hp
  cases p with
  | mark m p => cases e; exact ⟨this.1, this.2.1⟩
  | str _ _ _ => cases e
theorem tup01 : (PV.tup [.int 0, .int 1]) = frac 0 := rfl
/-- the loop over the marks -/
theorem t_marks_loop {s : Nat} {S : List Pc} (h : ScOk s S) (hs : s ≤ 390) (l r : Nat) (st : Store) (hl : st[l]? = some (.lst ((sortR ((marksOf S).map (·.1))).map frac))) (hr : st[r]? = some (.lst [])) :
    ∃ st' n x y, sFor fu (xIt (xVar 1)) (gSet 3) bMark (env12 (some (scV S)) (some (.loc l)) (some (.loc r)) none none none none none none none none) st = .ok (.nx (env12 (some (scV S)) (some (.loc l)) (some (.loc n)) x y none none none none none none)) st' ∧ Gr st st' ∧ st'[n]? = some (.lst ((markR S).map mkV)) := by
  have hl10 := h.len
  have hml := marksOf_len S
  have sl := sortR_len ((marksOf S).map (·.1))
  rw [List.length_map] at sl
  let pick : Rat → Option (Rat × Rat) := fun m => if totAt (marksOf S) m = 0 then none else some (m, totAt (marksOf S) m)
  have hmk : markR S = (sortR ((marksOf S).map (·.1))).filterMap pick := rfl
  rw [hmk]
  generalize hE : sortR ((marksOf S).map (·.1)) = E at *
  obtain ⟨env', st', e1, g1, n, x, y, rfl, n1⟩ := for_ok (nx := nxL l) (g := gSet 3) (body := bMark) (n := E.length) (vf := fun i => frac ((E[i]?).getD 0)) (env := env12 (some (scV S)) (some (.loc l)) (some (.loc r)) none none none none none none none none) (st := st)
    (fun i env st' => Gr st st' ∧ ∃ n x y, env = env12 (some (scV S)) (some (.loc l)) (some (.loc n)) x y none none none none none none ∧ st'[n]? = some (.lst (((E.take i).filterMap pick).map mkV)))
    (fun i env st' hi h => by
      unfold nxL
      rw [gl (h.1.at hl)]
      simp [hi])
    (fun env st' h => by
      unfold nxL
      rw [gl (h.1.at hl)]
      simp)
    (fun i env st' hi h0 => by
      obtain ⟨g, n, x, y, rfl, n1⟩ := h0
      have e0 : (E[i]?).getD 0 = E[i] := by rw [List.getElem?_eq_getElem hi]; rfl
      have et : (E.take (i + 1)).filterMap pick = (E.take i).filterMap pick ++ (pick E[i]).toList := by
        rw [List.take_succ, List.getElem?_eq_getElem hi, List.filterMap_append]
        simp only [Option.toList_some, List.filterMap_cons, List.filterMap_nil]
        cases pick E[i] <;> rfl
      rw [e0, et]
      generalize E[i] = m at *
      obtain ⟨st2, k, c1, g2, _, n2⟩ := t_cPrice hl10 m (some (.loc l)) (some (.loc n)) y none none none none none none st'
      have fl : (((marksOf S).filter fun x => decide (x.1 = m)).map (·.2)).length ≤ 10 := by
        rw [List.length_map]
        exact Nat.le_trans (List.length_filter_le _ _) (by omega)
      have sm := t__law_sum (s := s) (((marksOf S).filter fun x => decide (x.1 = m)).map (·.2)) k st2 n2 (fun q hq => by
        obtain ⟨x, hx, rfl⟩ := List.mem_map.mp hq
        exact (marks_sm h.ok x (List.mem_filter.mp hx).1).2) (by
        have := Nat.mul_le_mul_right (s + 1) fl
        omega)
      have ht : sumR (((marksOf S).filter fun x => decide (x.1 = m)).map (·.2)) = totAt (marksOf S) m := rfl
      rw [ht] at sm
      have n1' := g2.at n1
      have eq := eq_ff true (totAt (marksOf S) m) 0 st2
      rw [← tup01] at eq
      have lenT : ((E.take i).filterMap pick).length ≤ 10 := Nat.le_trans (List.length_filterMap_le _ _) (by rw [List.length_take]; omega)
      have first : sAsg (xCallN 1 m__law_sum (aCons cPrice aNil)) (gSet 4) (env12 (some (scV S)) (some (.loc l)) (some (.loc n)) (some (frac m)) y none none none none none none) st' = .ok (.nx (env12 (some (scV S)) (some (.loc l)) (some (.loc n)) (some (frac m)) (some (frac (totAt (marksOf S) m))) none none none none none none)) st2 := by
        refine asg_ok (v := frac (totAt (marksOf S) m)) ?_
        simp only [xCallN, aCons, aNil, bnd, c1, Mi.ret, List.length_cons, List.length_nil, if_true, callM_ok sm]
      obtain ⟨ys, st3, hv, g3, hys, hy2⟩ : ∃ (ys : List PV) (st3 : Store), vIf (asB (x2 (eqP true) (xVar 4) (xA tupV (aCons (xC (.int (0))) (aCons (xC (.int (1))) aNil))))) (xA lstV (aCons (xA tupV (aCons (xC (.str "mark")) (aCons (xVar 3) (aCons (xVar 4) aNil)))) aNil)) (xA lstV aNil) (env12 (some (scV S)) (some (.loc l)) (some (.loc n)) (some (frac m)) (some (frac (totAt (marksOf S) m))) none none none none none none) st2 = .ok (.loc st2.length) st3 ∧ Gr st2 st3 ∧ st3[st2.length]? = some (.lst ys) ∧ ys = ((pick m).toList).map mkV := by
        by_cases hz : totAt (marksOf S) m = 0
        · refine ⟨[], st2 ++ [.lst []], ?_, Gr.new _ _, at_new _ _, by simp [pick, hz]⟩
          rw [decide_eq_true hz, if_pos rfl] at eq
          simp [vIf, asB, x2, xVar, xA, aCons, aNil, xC, bnd, Mi.ret, tupV, sizeTop, env12, eq, toB, lstV, newC]
        · refine ⟨[mkV (m, totAt (marksOf S) m)], st2 ++ [.lst [mkV (m, totAt (marksOf S) m)]], ?_, Gr.new _ _, at_new _ _, by simp [pick, hz]⟩
          rw [decide_eq_false hz, if_pos rfl] at eq
          simp [vIf, asB, x2, xVar, xA, aCons, aNil, xC, bnd, Mi.ret, tupV, sizeTop, env12, eq, toB, lstV, newC, mkV, pcV]
      have ad : addV (.loc n) (.loc st2.length) st3 = newC (.lst (((E.take i).filterMap pick).map mkV ++ ys)) st3 := by
        unfold addV
        dsimp only
        rw [gm (g3.at n1'), gm hys]
        dsimp only
        rw [if_pos]
        rw [hy2]
        have : ((pick m).toList).length ≤ 1 := by cases pick m <;> simp
        simp only [List.length_map]
        unfold sizeTop; omega
      refine ⟨env12 (some (scV S)) (some (.loc l)) (some (.loc st3.length)) (some (frac m)) (some (frac (totAt (marksOf S) m))) none none none none none none, st3 ++ [.lst (((E.take i).filterMap pick).map mkV ++ ys)], ?_, ((g.trans g2).trans g3).trans (Gr.new _ _), _, _, _, rfl, ?_⟩
      · show sSeq _ _ (env12 (some (scV S)) (some (.loc l)) (some (.loc n)) (some (frac m)) y none none none none none none) st' = _
        rw [seq_nx first]
        refine asg_ok (v := .loc st3.length) ?_
        have x2v : xVar 2 (env12 (some (scV S)) (some (.loc l)) (some (.loc n)) (some (frac m)) (some (frac (totAt (marksOf S) m))) none none none none none none) st2 = .ok (.loc n) st2 := rfl
        rw [x2_ok x2v hv, ad]
        rfl
      · rw [at_new, hy2, List.map_append])
    ⟨Gr.refl _, r, none, none, rfl, by rw [hr]; rfl⟩ (by omega)
  rw [List.take_length] at n1
  refine ⟨st', n, x, y, ?_, g1, n1⟩
  unfold sFor
  rw [bnd_ok (a := nxL l) (st' := st) (by simp [xIt, xVar, bnd, itV, gl hl, env12])]
  exact e1
end Lw
namespace Lw
open PySem PySem.Spec L2 Mi
/-! ### the law's plain score: stretches -/
def e12 (x0 x1 x2 x3 x4 x5 x6 x7 x8 x9 x10 : Option PV) : Ev := [x0, x1, x2, x3, x4, x5, x6, x7, x8, x9, x10, none]
def cSome : Ev → M PV := xLc fu [11] (xIt (xVar 0)) (gSet 11) (asB (x2 (eqP false) (x2 ixA (xVar 11) (xC (.int (0)))) (xC (.str "stretch")))) (xVar 11)
def cEnd (k : Int) : Ev → M PV := xLc fu [11] (xIt (xVar 5)) (gSet 11) bYes (x2 ixA (xVar 11) (xC (.int k)))
def cInner : Ev → M PV := xLc fu [11] (xIt (xVar 5)) (gSet 11) (bNot (xTru (xCallN 2 m__law_under (aCons (xVar 8) (aCons (x2 ixA (xVar 11) (xC (.int (1)))) aNil))))) (xVar 11)
def cPr : Ev → M PV := xLc fu [11] (xIt (xVar 10)) (gSet 11) (bNot (xTru (xCallN 2 m__law_under (aCons (x2 ixA (xVar 11) (xC (.int (2)))) (aCons (xVar 9) aNil))))) (x2 ixA (xVar 11) (xC (.int (3))))
def isLast : Ev → M Bool := bAnd (asB (x2 (eqP true) (xVar 7) (xA lstV aNil))) (asB (x2 (eqP false) (xSl (x2 ixA (xVar 7) (x1 negV (xC (.int (1))))) (oSome (xC (.int (2)))) oNone) (xA tupV (aCons (xVar 8) (aCons (xVar 4) aNil)))))
def bStr : Ev → M Flw := sSeq (sAsg cInner (gSet 10))
  (sSeq (sAsg (xCallN 1 m__law_sum (aCons cPr aNil)) (gSet 4))
  (sIf isLast
  (sAsg (xA tupV (aCons (xC (.str "stretch")) (aCons (x2 ixA (x2 ixA (xVar 7) (x1 negV (xC (.int (1))))) (xC (.int (1)))) (aCons (xVar 9) (aCons (xVar 4) aNil))))) (tgSubA (xVar 7) (x1 negV (xC (.int (1))))))
  (sIf (asB (x2 (eqP true) (xVar 4) (xA tupV (aCons (xC (.int (0))) (aCons (xC (.int (1))) aNil)))))
  (sEx (xMt appV (xVar 7) (aCons (xA tupV (aCons (xC (.str "stretch")) (aCons (xVar 8) (aCons (xVar 9) (aCons (xVar 4) aNil))))) aNil)))
  sNop)))
theorem some_fm (S : List Pc) : (S.map pcV).filterMap (fun v => if isStr v = true then some v else none) = (strsOf S).map spV := by
  induction S with
  | nil => rfl
  | cons p S ih =>
    cases p with
    | mark m p =>
      have e : strsOf (.mark m p :: S) = strsOf S := rfl
      rw [e, List.map_cons, List.filterMap_cons, ← ih]
      rfl
    | str lo hi p =>
      have e : strsOf (.str lo hi p :: S) = ⟨lo, hi, p⟩ :: strsOf S := rfl
      rw [e, List.map_cons, List.filterMap_cons, List.map_cons, ← ih]
      rfl
theorem t_cSome {S : List Pc} (hS : S.length ≤ 10) (x1 x2' x3 x4 x5 x6 x7 x8 x9 x10 : Option PV) (st : Store) : OkL (cSome (e12 (some (scV S)) x1 x2' x3 x4 x5 x6 x7 x8 x9 x10) st) st ((strsOf S).map spV) := by
  have := lc_tup (xs := S.map pcV) (vs := [11]) (g := gSet 11) (c := asB (x2 (eqP false) (x2 ixA (xVar 11) (xC (.int (0)))) (xC (.str "stretch")))) (e := xVar 11) (env := e12 (some (scV S)) x1 x2' x3 x4 x5 x6 x7 x8 x9 x10) (fi := xIt (xVar 0)) (st := st) (st0 := st) (fun v => if isStr v = true then some v else none) (by simp [xIt, xVar, bnd, itV, scV, Mi.ret, e12]) (Gr.refl _) (fun v st5 hv g5 => by
    obtain ⟨p, hp, rfl⟩ := List.mem_map.mp hv
    refine ⟨[some (scV S), x1, x2', x3, x4, x5, x6, x7, x8, x9, x10, some (pcV p)], ?_⟩
    cases p with
    | mark m p =>
      have a0 : ixA (pcV (.mark m p)) (.int 0) st5 = .ok (.str "mark") st5 := rfl
      exact ⟨false, st5, rfl, by simp [asB, x2, xVar, xC, bnd, Mi.ret, a0, eq_ms, toB], Gr.refl _, (fun _ => rfl), fun z => by cases z⟩
    | str lo hi p =>
      have a0 : ixA (pcV (.str lo hi p)) (.int 0) st5 = .ok (.str "stretch") st5 := rfl
      exact ⟨true, st5, rfl, by simp [asB, x2, xVar, xC, bnd, Mi.ret, a0, eq_ss, toB], Gr.refl _, (fun z => by cases z), fun _ => ⟨pcV (.str lo hi p), st5, rfl, Gr.refl _, rfl⟩⟩) (by simp; omega)
  rw [some_fm] at this
  exact this
theorem fm_some {α : Type} (T : List α) (g : α → PV) (f : PV → Option PV) (h : α → PV) (hf : ∀ x, f (g x) = some (h x)) : (T.map g).filterMap f = T.map h := by
  induction T with
  | nil => rfl
  | cons x T ih => rw [List.map_cons, List.filterMap_cons, hf, List.map_cons, ← ih]
theorem fm_if {α : Type} (T : List α) (g : α → PV) (f : PV → Option PV) (h : α → PV) (p : α → Bool) (hf : ∀ x, f (g x) = if p x = true then some (h x) else none) : (T.map g).filterMap f = (T.filter p).map h := by
  induction T with
  | nil => rfl
  | cons x T ih =>
    rw [List.map_cons, List.filterMap_cons, hf, List.filter_cons]
    by_cases hp : p x = true
    · rw [if_pos hp, if_pos hp, List.map_cons, ← ih]
    · rw [if_neg hp, if_neg hp, ← ih]
def fLo : PV → Rat
  | .tup [_, a, _, _] => unF a
  | _ => 0
def fHi : PV → Rat
  | .tup [_, _, b, _] => unF b
  | _ => 0
def fP : PV → Rat
  | .tup [_, _, _, p] => unF p
  | _ => 0
theorem fLo_sp (x : Sp) : fLo (spV x) = x.lo := unF_frac x.lo
theorem fHi_sp (x : Sp) : fHi (spV x) = x.hi := unF_frac x.hi
theorem fP_sp (x : Sp) : fP (spV x) = x.p := unF_frac x.p
theorem t_cEnd {T : List Sp} (hT : T.length ≤ 10) (k : Int) (f : PV → Rat) (sel : Sp → Rat) (hf : ∀ x, f (spV x) = sel x) (hsel : ∀ x st, ixA (spV x) (.int k) st = .ok (frac (sel x)) st) (n : Nat) (x0 x1 x2' x3 x4 x6 x7 x8 x9 x10 : Option PV) (st : Store) (hn : st[n]? = some (.lst (T.map spV))) : OkL (cEnd k (e12 x0 x1 x2' x3 x4 (some (.loc n)) x6 x7 x8 x9 x10) st) st ((T.map sel).map frac) := by
  have := Mi.lc_list (xs := T.map spV) (vs := [11]) (g := gSet 11) (c := bYes) (e := x2 ixA (xVar 11) (xC (.int k))) (env := e12 x0 x1 x2' x3 x4 (some (.loc n)) x6 x7 x8 x9 x10) (fi := xIt (xVar 5)) (st := st) (st0 := st) (fun v => some (frac (f v))) (by simp [xIt, xVar, bnd, itV, e12, gl hn]) (Gr.refl _) hn (fun v st5 hv g5 => by
    obtain ⟨x, hx, rfl⟩ := List.mem_map.mp hv
    exact ⟨[x0, x1, x2', x3, x4, some (.loc n), x6, x7, x8, x9, x10, some (spV x)], true, st5, rfl, rfl, Gr.refl _, (fun z => by cases z), fun _ => ⟨frac (sel x), st5, by simp [x2, xVar, xC, bnd, Mi.ret, hsel], Gr.refl _, by rw [hf]⟩⟩) (by simp; omega)
  rw [fm_some T spV _ (fun x => frac (sel x)) fun x => by rw [hf]] at this
  rw [List.map_map]
  exact this
theorem t_cInner {s : Nat} {T : List Sp} (hT : T.length ≤ 10) (hok : ∀ x ∈ T, SpOk s x) (hs : s ≤ 390) (low : Rat) (hlow : Sm s low) (n : Nat) (x0 x1 x2' x3 x4 x6 x7 x9 x10 : Option PV) (st : Store) (hn : st[n]? = some (.lst (T.map spV))) : OkL (cInner (e12 x0 x1 x2' x3 x4 (some (.loc n)) x6 x7 (some (frac low)) x9 x10) st) st ((T.filter fun x => !decide (low < x.lo)).map spV) := by
  have := Mi.lc_list (xs := T.map spV) (vs := [11]) (g := gSet 11) (c := bNot (xTru (xCallN 2 m__law_under (aCons (xVar 8) (aCons (x2 ixA (xVar 11) (xC (.int (1)))) aNil))))) (e := xVar 11) (env := e12 x0 x1 x2' x3 x4 (some (.loc n)) x6 x7 (some (frac low)) x9 x10) (fi := xIt (xVar 5)) (st := st) (st0 := st) (fun v => if (!decide (low < fLo v)) = true then some v else none) (by simp [xIt, xVar, bnd, itV, e12, gl hn]) (Gr.refl _) hn (fun v st5 hv g5 => by
    obtain ⟨x, hx, rfl⟩ := List.mem_map.mp hv
    have a1 : ixA (spV x) (.int 1) st5 = .ok (frac x.lo) st5 := rfl
    have u := t__law_under low x.lo st5 hlow (hok x hx).1 (by omega)
    refine ⟨[x0, x1, x2', x3, x4, some (.loc n), x6, x7, some (frac low), x9, x10, some (spV x)], !decide (low < x.lo), st5, rfl, ?_, Gr.refl _, fun hb => ?_, fun hb => ⟨spV x, st5, rfl, Gr.refl _, ?_⟩⟩
    · simp [bNot, xTru, xCallN, aCons, aNil, x2, xVar, xC, bnd, Mi.ret, a1, callM_ok u, truV]
    · rw [fLo_sp, hb]; rfl
    · rw [fLo_sp, hb]; rfl) (by simp; omega)
  rw [fm_if T spV _ spV (fun x => !decide (low < x.lo)) fun x => by rw [fLo_sp]] at this
  exact this
theorem t_cPr {s : Nat} {T : List Sp} (hT : T.length ≤ 10) (hok : ∀ x ∈ T, SpOk s x) (hs : s ≤ 390) (high : Rat) (hhigh : Sm s high) (n : Nat) (x0 x1 x2' x3 x4 x5 x6 x7 x8 : Option PV) (st : Store) (hn : st[n]? = some (.lst (T.map spV))) : OkL (cPr (e12 x0 x1 x2' x3 x4 x5 x6 x7 x8 (some (frac high)) (some (.loc n))) st) st (((T.filter fun x => !decide (x.hi < high)).map (·.p)).map frac) := by
  have := Mi.lc_list (xs := T.map spV) (vs := [11]) (g := gSet 11) (c := bNot (xTru (xCallN 2 m__law_under (aCons (x2 ixA (xVar 11) (xC (.int (2)))) (aCons (xVar 9) aNil))))) (e := x2 ixA (xVar 11) (xC (.int (3)))) (env := e12 x0 x1 x2' x3 x4 x5 x6 x7 x8 (some (frac high)) (some (.loc n))) (fi := xIt (xVar 10)) (st := st) (st0 := st) (fun v => if (!decide (fHi v < high)) = true then some (frac (fP v)) else none) (by simp [xIt, xVar, bnd, itV, e12, gl hn]) (Gr.refl _) hn (fun v st5 hv g5 => by
    obtain ⟨x, hx, rfl⟩ := List.mem_map.mp hv
    have a1 : ixA (spV x) (.int 2) st5 = .ok (frac x.hi) st5 := rfl
    have a3 : ixA (spV x) (.int 3) st5 = .ok (frac x.p) st5 := rfl
    have u := t__law_under x.hi high st5 (hok x hx).2.1 hhigh (by omega)
    refine ⟨[x0, x1, x2', x3, x4, x5, x6, x7, x8, some (frac high), some (.loc n), some (spV x)], !decide (x.hi < high), st5, rfl, ?_, Gr.refl _, fun hb => ?_, fun hb => ⟨frac x.p, st5, ?_, Gr.refl _, ?_⟩⟩
    · simp [bNot, xTru, xCallN, aCons, aNil, x2, xVar, xC, bnd, Mi.ret, a1, callM_ok u, truV]
    · rw [fHi_sp, hb]; rfl
    · simp [x2, xVar, xC, bnd, Mi.ret, a3]
    · rw [fHi_sp, hb, fP_sp]; rfl) (by simp; omega)
  rw [fm_if T spV _ (fun x => frac x.p) (fun x => !decide (x.hi < high)) fun x => by rw [fHi_sp, fP_sp]] at this
  rw [List.map_map]
  exact this
theorem prc_two (T : List Sp) (low high : Rat) : sumR (((T.filter fun x => !decide (low < x.lo)).filter fun x => !decide (x.hi < high)).map (·.p)) = prc T low high := by
  unfold prc prcOf
  rw [List.filter_filter]
  congr 2
  refine List.filter_congr fun x _ => ?_
  rw [Bool.and_comm]
theorem t_cut2 (x : Sp) : sliceV (spV x) (some 2) none = Mi.ret (.tup [frac x.hi, frac x.p]) := rfl
theorem pq_sp (x : Sp) : Pq 2 (spV x) := pq_tup fun v hv => by
  simp only [List.mem_cons, List.not_mem_nil, or_false] at hv
  rcases hv with e | e | e | e <;> rw [e]
  · exact pq_str ok_str _
  · exact pq_frac _
  · exact pq_frac _
  · exact pq_frac _
theorem pq_ff (p q : Rat) : Pq 2 (.tup [frac p, frac q]) := pq_tup fun v hv => by
  simp only [List.mem_cons, List.not_mem_nil, or_false] at hv
  rcases hv with e | e <;> rw [e] <;> exact pq_frac _
/-- one turn over the neighbours -/
theorem t_bStr {s : Nat} {S : List Pc} (h : ScOk s S) (hs : s ≤ 390) (low high : Rat) (hlow : Sm s low) (hhigh : Sm s high) (n r : Nat) (y1 x2' x3 x4 x6 x10 : Option PV) (st : Store) (hn : st[n]? = some (.lst ((strsOf S).map spV))) (T : List Sp) (hT : ∀ t ∈ T, t.p ≠ 0) (hTl : T.length ≤ 1000) (hr : st[r]? = some (.lst (T.map spV))) (st0 : Store) (g0 : Gr st0 st) (hr0 : st0.length ≤ r) :
    ∃ env' st' T', bStr (e12 (some (scV S)) y1 x2' x3 x4 (some (.loc n)) x6 (some (.loc r)) (some (frac low)) (some (frac high)) x10) st = .ok (.nx env') st' ∧ Gr st0 st' ∧ (∃ x4 x10, env' = e12 (some (scV S)) y1 x2' x3 x4 (some (.loc n)) x6 (some (.loc r)) (some (frac low)) (some (frac high)) x10) ∧
      st'[r]? = some (.lst (T'.map spV)) ∧ (∀ t ∈ T', t.p ≠ 0) ∧ T'.length ≤ T.length + 1 ∧ (T' = [] ↔ T = [] ∧ prc (strsOf S) low high = 0) ∧ ∀ (k : Nat) (c : Cell), k ≠ r → st[k]? = some c → st'[k]? = some c := by
  have hl10 := h.len
  have hsl := strs_len S
  have hok := strs_ok h.ok
  obtain ⟨st1, a, c1, g1, _, n1⟩ := t_cInner (by omega) hok hs low hlow n (some (scV S)) y1 x2' x3 x4 x6 (some (.loc r)) (some (frac high)) x10 st hn
  have hok2 : ∀ x ∈ (strsOf S).filter fun x => !decide (low < x.lo), SpOk s x := fun x hx => hok x (List.mem_filter.mp hx).1
  have hl2 : ((strsOf S).filter fun x => !decide (low < x.lo)).length ≤ 10 := Nat.le_trans (List.length_filter_le _ _) (by omega)
  obtain ⟨st2, b, c2, g2, _, n2⟩ := t_cPr hl2 hok2 hs high hhigh a (some (scV S)) y1 x2' x3 x4 (some (.loc n)) x6 (some (.loc r)) (some (frac low)) st1 n1
  have hl3 : ((((strsOf S).filter fun x => !decide (low < x.lo)).filter fun x => !decide (x.hi < high)).map (·.p)).length ≤ 10 := by
    rw [List.length_map]
    exact Nat.le_trans (List.length_filter_le _ _) hl2
  have sm := t__law_sum (s := s) _ b st2 n2 (fun q hq => by
    obtain ⟨x, hx, rfl⟩ := List.mem_map.mp hq
    exact (hok2 x (List.mem_filter.mp hx).1).2.2.1) (by
    have := Nat.mul_le_mul_right (s + 1) hl3
    omega)
  rw [prc_two] at sm
  generalize prc (strsOf S) low high = pr at *
  have r2 := g2.at (g1.at hr)
  have gg := (g0.trans g1).trans g2
  unfold bStr
  rw [seq_nx (asg_ok c1)]
  show ∃ env' st' T', sSeq _ _ (e12 (some (scV S)) y1 x2' x3 x4 (some (.loc n)) x6 (some (.loc r)) (some (frac low)) (some (frac high)) (some (.loc a))) st1 = _ ∧ _
  rw [seq_nx (asg_ok (v := frac pr) (st' := st2) (by simp only [xCallN, aCons, aNil, bnd, c2, Mi.ret, List.length_cons, List.length_nil, if_true, callM_ok sm]))]
  show ∃ env' st' T', sIf _ _ _ (e12 (some (scV S)) y1 x2' x3 (some (frac pr)) (some (.loc n)) x6 (some (.loc r)) (some (frac low)) (some (frac high)) (some (.loc a))) st2 = _ ∧ _
  generalize he : e12 (some (scV S)) y1 x2' x3 (some (frac pr)) (some (.loc n)) x6 (some (.loc r)) (some (frac low)) (some (frac high)) (some (.loc a)) = env
  have v4 : env[4]? = some (some (frac pr)) := by rw [← he]; rfl
  have v7 : env[7]? = some (some (.loc r)) := by rw [← he]; rfl
  have v8 : env[8]? = some (some (frac low)) := by rw [← he]; rfl
  have v9 : env[9]? = some (some (frac high)) := by rw [← he]; rfl
  -- a new empty list
  have g3 := Gr.new st2 (.lst [])
  have n3 := at_new st2 (.lst [])
  have new3 : newC (.lst []) st2 = .ok (.loc st2.length) (st2 ++ [.lst []]) := rfl
  generalize hs3 : st2 ++ [Cell.lst []] = st3 at *
  have r3 := g3.at r2
  have g33 := gg.trans g3
  have kk : ∀ (k : Nat) (c : Cell), st[k]? = some c → st3[k]? = some c := fun k c hk => g3.at (g2.at (g1.at hk))
  -- not the same as the last one: perhaps one more
  have more : ∀ (T2 : List Sp), T2 = T → isLast env st2 = .ok false st3 → ∃ env' st' T', sIf isLast (sAsg (xA tupV (aCons (xC (.str "stretch")) (aCons (x2 ixA (x2 ixA (xVar 7) (x1 negV (xC (.int (1))))) (xC (.int (1)))) (aCons (xVar 9) (aCons (xVar 4) aNil))))) (tgSubA (xVar 7) (x1 negV (xC (.int (1))))))
      (sIf (asB (x2 (eqP true) (xVar 4) (xA tupV (aCons (xC (.int (0))) (aCons (xC (.int (1))) aNil)))))
      (sEx (xMt appV (xVar 7) (aCons (xA tupV (aCons (xC (.str "stretch")) (aCons (xVar 8) (aCons (xVar 9) (aCons (xVar 4) aNil))))) aNil)))
      sNop) env st2 = .ok (.nx env') st' ∧ Gr st0 st' ∧ (∃ x4 x10, env' = e12 (some (scV S)) y1 x2' x3 x4 (some (.loc n)) x6 (some (.loc r)) (some (frac low)) (some (frac high)) x10) ∧
      st'[r]? = some (.lst (T'.map spV)) ∧ (∀ t ∈ T', t.p ≠ 0) ∧ T'.length ≤ T.length + 1 ∧ (T' = [] ↔ T = [] ∧ pr = 0) ∧ ∀ (k : Nat) (c : Cell), k ≠ r → st[k]? = some c → st'[k]? = some c := by
    intro T2 _ hL
    have eq := eq_ff true pr 0 st3
    rw [← tup01, if_pos rfl] at eq
    by_cases hz : pr = 0
    · rw [decide_eq_true hz] at eq
      refine ⟨env, st3, T, ?_, g33, ⟨_, _, he.symm⟩, r3, hT, by omega, by simp [hz], fun k c _ hk => kk k c hk⟩
      unfold sIf
      rw [bnd_ok hL]
      simp [asB, x2, xv v4, xA, aCons, aNil, xC, bnd, Mi.ret, tupV, sizeTop, eq, toB, sNop]
    · rw [decide_eq_false hz] at eq
      have ap := ap_ok (i := 7) (e := xA tupV (aCons (xC (.str "stretch")) (aCons (xVar 8) (aCons (xVar 9) (aCons (xVar 4) aNil))))) (env := env) (v := spV ⟨low, high, pr⟩) v7 r3 (by simp [xA, aCons, aNil, xC, xv v8, xv v9, xv v4, bnd, Mi.ret, tupV, sizeTop, spV, pcV]) (by rw [List.length_map]; omega)
      refine ⟨env, st3.set r (.lst (T.map spV ++ [spV ⟨low, high, pr⟩])), T ++ [⟨low, high, pr⟩], ?_, g33.set _ hr0, ⟨_, _, he.symm⟩, by rw [set_at r3]; simp, fun t ht => ?_, by simp, by simp [hz], fun k c hne hk => by rw [List.getElem?_set_ne (Ne.symm hne)]; exact kk k c hk⟩
      · have hc : asB (x2 (eqP true) (xVar 4) (xA tupV (aCons (xC (.int (0))) (aCons (xC (.int (1))) aNil)))) env st3 = .ok true st3 := by simp [asB, x2, xv v4, xA, aCons, aNil, xC, bnd, Mi.ret, tupV, sizeTop, eq, toB]
        unfold sIf
        rw [bnd_ok hL, if_neg (by decide), bnd_ok hc, if_pos rfl]
        unfold sEx
        rw [bnd_ok ap]
        rfl
      · rcases List.mem_append.mp ht with z | z
        · exact hT t z
        · rw [List.mem_singleton.mp z]; exact hz
  rcases List.eq_nil_or_concat T with hTn | ⟨T', t, hTc⟩
  · subst hTn
    have q := (eqP_ll (k := 2) true r3 n3 (by simp) (by simp) (by decide)).1 rfl
    refine more [] rfl ?_
    simp [isLast, bAnd, asB, x2, xv v7, xA, aNil, bnd, Mi.ret, lstV, sizeTop, new3, q, toB]
  · rw [List.concat_eq_append] at hTc
    have r3' : st3[r]? = some (.lst (T'.map spV ++ [spV t])) := by rw [r3, hTc]; simp
    have il := ix_last r3'
    have q := (eqP_ll (k := 2) true r3 n3 (fun x hx => by
      obtain ⟨y, _, rfl⟩ := List.mem_map.mp hx
      exact pq_sp y) (by simp) (by decide)).2 (by rw [hTc]; simp)
    have b1 : ∀ st, ixA (spV t) (.int 1) st = .ok (frac t.lo) st := fun st => rfl
    by_cases hm : t.hi = low ∧ t.p = pr
    · have q2 := eqP_eq false st3 (pq_ff low pr) (by decide)
      have hL : isLast env st2 = .ok true st3 := by
        have cut := t_cut2 t
        rw [hm.1, hm.2] at cut
        simp [isLast, bAnd, asB, x2, x1, negV, xv v7, xv v8, xv v4, xA, aNil, aCons, xC, bnd, Mi.ret, lstV, sizeTop, new3, q, toB, il, xSl, oSome, oNone, toI, cut, tupV, q2]
      have pt : putA (.loc r) (.int (-1)) (spV ⟨t.lo, high, pr⟩) st3 = .ok .non (st3.set r (.lst (T'.map spV ++ [spV ⟨t.lo, high, pr⟩]))) := by
        have e2 : (-1 + ((T'.length : Int) + 1)).toNat = T'.length := by omega
        unfold putA putV
        dsimp only
        rw [gm r3']
        dsimp only
        unfold ixN
        simp only [List.length_append, List.length_map, List.length_cons, List.length_nil]
        rw [if_neg (by decide), if_pos (by omega)]
        simp [e2]
      refine ⟨env, st3.set r (.lst (T'.map spV ++ [spV ⟨t.lo, high, pr⟩])), T' ++ [⟨t.lo, high, pr⟩], ?_, g33.set _ hr0, ⟨_, _, he.symm⟩, by rw [set_at r3']; simp, fun u hu => ?_, by rw [hTc]; simp, ?_, fun k c hne hk => by rw [List.getElem?_set_ne (Ne.symm hne)]; exact kk k c hk⟩
      · unfold sIf
        rw [bnd_ok hL]
        simp only [if_true, sAsg, tgSubA, xA, aCons, aNil, xC, x2, x1, negV, xv v7, xv v9, xv v4, bnd, Mi.ret, il, b1, tupV, List.length_cons, List.length_nil]
        rw [if_pos (by decide)]
        have e : PV.tup [.str "stretch", frac t.lo, frac high, frac pr] = spV ⟨t.lo, high, pr⟩ := rfl
        rw [e]
        simp only [Mi.ret, pt]
      · rcases List.mem_append.mp hu with z | z
        · exact hT u (by rw [hTc]; simp [z])
        · rw [List.mem_singleton.mp z]
          show pr ≠ 0
          rw [← hm.2]
          exact hT t (by rw [hTc]; simp)
      · rw [hTc]; simp
    · have ne : PV.tup [frac t.hi, frac t.p] ≠ .tup [frac low, frac pr] := fun z => by
        injection z with z
        injection z with z1 z
        injection z with z2 _
        exact hm ⟨frac_inj z1, frac_inj z2⟩
      have q2 := eqP_ne false st3 (pq_ff t.hi t.p) (pq_ff low pr) (by decide) ne
      refine more T rfl ?_
      simp [isLast, bAnd, asB, x2, x1, negV, xv v7, xv v8, xv v4, xA, aNil, aCons, xC, bnd, Mi.ret, lstV, sizeTop, new3, q, toB, il, xSl, oSome, oNone, toI, t_cut2, tupV, q2]
end Lw
namespace Lw
open PySem PySem.Spec L2 Mi
theorem t__law_plain {s : Nat} {S : List Pc} (st : Store) (h : ScOk s S) (hs : s ≤ 390) : ∃ T : List Sp, Ok (m__law_plain [scV S] st) st (.tup ((markR S).map mkV ++ T.map spV)) ∧ (T = [] ↔ NoStr S) ∧ T.length ≤ 100 := by
  have hl10 := h.len
  have hml := marksOf_len S
  have hsl := strs_len S
  have hok := strs_ok h.ok
  have hel := ends_len (strsOf S)
  -- the marks
  obtain ⟨st1, a, c1, g1, _, n1⟩ := t_cMark hl10 none none none none none none none none none none st
  obtain ⟨st2, l, c2, g2, n2⟩ := t__law_sorted (s := s) _ a st1 n1 (fun q hq => by
    obtain ⟨x, hx, rfl⟩ := List.mem_map.mp hq
    exact (marks_sm h.ok x hx).1) (by omega) (by rw [List.length_map]; omega)
  have g3 := Gr.new st2 (.lst [])
  have n3 := at_new st2 (.lst [])
  have new3 : ∀ env, xA lstV aNil env st2 = .ok (.loc st2.length) (st2 ++ [.lst []]) := fun env => rfl
  have n23 := g3.at n2
  generalize hs3 : st2 ++ [Cell.lst []] = st3 at *
  obtain ⟨st4, f, x, y, c4, g4, n4⟩ := t_marks_loop h hs l st2.length st3 n23 n3
  -- the stretches
  obtain ⟨st5, b, c5, g5, _, n5⟩ := t_cSome hl10 (some (.loc l)) (some (.loc f)) x y none none none none none none st4
  obtain ⟨st6, p, c6, g6, _, n6⟩ := t_cEnd (T := strsOf S) (by omega) 1 fLo (·.lo) fLo_sp (fun x st => rfl) b (some (scV S)) (some (.loc l)) (some (.loc f)) x y none none none none none st5 n5
  obtain ⟨st7, q, c7, g7, _, n7⟩ := t_cEnd (T := strsOf S) (by omega) 2 fHi (·.hi) fHi_sp (fun x st => rfl) b (some (scV S)) (some (.loc l)) (some (.loc f)) x y none none none none none st6 (g6.at n5)
  have ad8 : addV (.loc p) (.loc q) st7 = .ok (.loc st7.length) (st7 ++ [.lst (((strsOf S).map (·.lo) ++ (strsOf S).map (·.hi)).map frac)]) := by
    unfold addV
    dsimp only
    rw [gm (g7.at n6), gm n7]
    dsimp only
    rw [if_pos]
    · rw [List.map_append]; rfl
    · simp only [List.length_map]
      unfold sizeTop; omega
  have g8 := Gr.new st7 (.lst (((strsOf S).map (·.lo) ++ (strsOf S).map (·.hi)).map frac))
  have n8 := at_new st7 (.lst (((strsOf S).map (·.lo) ++ (strsOf S).map (·.hi)).map frac))
  generalize hs8 : st7 ++ [Cell.lst (((strsOf S).map (·.lo) ++ (strsOf S).map (·.hi)).map frac)] = st8 at *
  have esm : ∀ z ∈ (strsOf S).map (·.lo) ++ (strsOf S).map (·.hi), Sm s z := fun z hz => by
    rcases List.mem_append.mp hz with w | w
    · obtain ⟨x, hx, rfl⟩ := List.mem_map.mp w
      exact (hok x hx).1
    · obtain ⟨x, hx, rfl⟩ := List.mem_map.mp w
      exact (hok x hx).2.1
  obtain ⟨st9, e, c9, g9, n9⟩ := t__law_sorted (s := s) _ st7.length st8 n8 esm (by omega) (by simp; omega)
  have hEE : sortR ((strsOf S).map (·.lo) ++ (strsOf S).map (·.hi)) = sortR (endsOf (strsOf S)) := sortR_eq (sortR_asc _) fun z => (sortR_mem _ z).trans (by
    simp only [endsOf, List.mem_append, List.mem_map, List.mem_flatMap, List.mem_cons, List.not_mem_nil, or_false]
    constructor
    · rintro (⟨x, hx, rfl⟩ | ⟨x, hx, rfl⟩)
      · exact ⟨x, hx, .inl rfl⟩
      · exact ⟨x, hx, .inr rfl⟩
    · rintro ⟨x, hx, rfl | rfl⟩
      · exact .inl ⟨x, hx, rfl⟩
      · exact .inr ⟨x, hx, rfl⟩)
  rw [hEE] at n9
  have hEsm : ∀ z ∈ sortR (endsOf (strsOf S)), Sm s z := fun z hz => ends_sm hok z ((sortR_mem _ _).mp hz)
  have hElen := sortR_len (endsOf (strsOf S))
  unfold NoStr
  generalize sortR (endsOf (strsOf S)) = E at *
  -- rows
  have g10 := Gr.new st9 (.lst [])
  have n10 := at_new st9 (.lst [])
  have new10 : ∀ env, xA lstV aNil env st9 = .ok (.loc st9.length) (st9 ++ [.lst []]) := fun env => rfl
  generalize hs10 : st9 ++ [Cell.lst []] = st10 at *
  have n9' := g10.at n9
  -- ends[1:]
  have sl11 : newC (.lst (cutP (E.map frac) (some ((1 : Nat) : Int)) none)) st10 = .ok (.loc st10.length) (st10 ++ [.lst ((E.drop 1).map frac)]) := by rw [cut_drop, ← List.map_drop]; rfl
  have g11 := Gr.new st10 (.lst ((E.drop 1).map frac))
  have n11 := at_new st10 (.lst ((E.drop 1).map frac))
  generalize hs11 : st10 ++ [Cell.lst ((E.drop 1).map frac)] = st11 at *
  have n9'' := g11.at n9'
  have n5' := g11.at (g10.at (g9.at (g8.at (g7.at (g6.at n5)))))
  have n10' := g11.at n10
  obtain ⟨env', st12, e13, g12, _, _, _, _, T, y4, y8, y9, y10, rfl, n12, hT, hTl, hiff⟩ := for_ok (nx := nxZ (nxL e) (nxL st10.length)) (g := tgTup 2 (tgCons (gSet 8) (tgCons (gSet 9) tgNil))) (body := bStr) (n := E.length - 1) (vf := fun i => .tup [frac ((E[i]?).getD 0), frac ((E[i + 1]?).getD 0)])
    (env := e12 (some (scV S)) (some (.loc l)) (some (.loc f)) x y (some (.loc b)) (some (.loc e)) (some (.loc st9.length)) none none none) (st := st11)
    (fun i env st' => Gr st9 st' ∧ (Gr st11 st' ∨ True) ∧ st'[e]? = some (.lst (E.map frac)) ∧ st'[st10.length]? = some (.lst ((E.drop 1).map frac)) ∧ st'[b]? = some (.lst ((strsOf S).map spV)) ∧ ∃ T y4 y8 y9 y10, env = e12 (some (scV S)) (some (.loc l)) (some (.loc f)) x y4 (some (.loc b)) (some (.loc e)) (some (.loc st9.length)) y8 y9 y10 ∧ st'[st9.length]? = some (.lst (T.map spV)) ∧ (∀ t ∈ T, t.p ≠ 0) ∧ T.length ≤ i ∧ (T = [] ↔ NoPrice (strsOf S) E i))
    (fun i env st' hi h0 => by
      obtain ⟨_, _, k1, k2, _⟩ := h0
      unfold nxZ nxL
      rw [gl k1, gl k2]
      have h1 : i < E.length := by omega
      have h2 : i + 1 < E.length := by omega
      simp [h1, h2, Nat.add_comm 1 i])
    (fun env st' h0 => by
      obtain ⟨_, _, k1, k2, _⟩ := h0
      unfold nxZ nxL
      rw [gl k1, gl k2]
      have h2 : E.length ≤ E.length - 1 + 1 := by omega
      by_cases h3 : E.length = 0
      · simp [List.eq_nil_of_length_eq_zero h3]
      · simp [show E.length - 1 < E.length by omega, show E.length ≤ 1 + (E.length - 1) by omega])
    (fun i env st' hi h0 => by
      obtain ⟨g, _, k1, k2, k3, T, y4, y8, y9, y10, rfl, n12, hT, hTl, hiff⟩ := h0
      have h1 : i < E.length := by omega
      have h2 : i + 1 < E.length := by omega
      have ei : E[i]? = some E[i] := List.getElem?_eq_getElem h1
      have ei2 : E[i + 1]? = some E[i + 1] := List.getElem?_eq_getElem h2
      rw [noPrice_succ, ei, ei2]
      simp only [Option.getD_some]
      obtain ⟨env', st2', T', q1, q2, ⟨z4, z10, rfl⟩, q3, q4, q5, q6, keep⟩ := t_bStr h hs E[i] E[i + 1] (hEsm _ (List.getElem_mem h1)) (hEsm _ (List.getElem_mem h2)) b st9.length (some (.loc l)) (some (.loc f)) x y4 (some (.loc e)) y10 st' k3 T hT (by omega) n12 st9 g (Nat.le_refl _)
      refine ⟨_, st2', ?_, q2, .inr trivial, ?_, ?_, ?_, T', z4, some (frac E[i]), some (frac E[i + 1]), z10, rfl, q3, q4, by omega, by rw [q6, hiff]⟩
      · show bStr (e12 (some (scV S)) (some (.loc l)) (some (.loc f)) x y4 (some (.loc b)) (some (.loc e)) (some (.loc st9.length)) (some (frac E[i])) (some (frac E[i + 1])) y10) st' = _
        exact q1
      · exact keep _ _ (by have := (List.getElem?_eq_some_iff.mp n9).1; omega) k1
      · exact keep _ _ (by have := g10.len; have := (List.getElem?_eq_some_iff.mp n10).1; omega) k2
      · exact keep _ _ (by have := (List.getElem?_eq_some_iff.mp (g9.at (g8.at (g7.at (g6.at n5))))).1; omega) k3)
    ⟨g10.trans g11, .inr trivial, n9'', n11, n5', [], y, none, none, none, rfl, n10', by simp, by simp, ⟨fun _ j hj => by omega, fun _ => rfl⟩⟩ (by omega)
  have n4' := g12.at (g9.at (g8.at (g7.at (g6.at (g5.at n4)))))
  have ad : addV (.loc f) (.loc st9.length) st12 = newC (.lst ((markR S).map mkV ++ T.map spV)) st12 := by
    have := markR_len S
    unfold addV
    dsimp only
    rw [gm n4', gm n12]
    dsimp only
    rw [if_pos]
    simp only [List.length_map]
    unfold sizeTop; omega
  have nn := at_new st12 (.lst ((markR S).map mkV ++ T.map spV))
  refine ⟨T, ⟨st12 ++ [.lst ((markR S).map mkV ++ T.map spV)], run_rt ?_, ?_⟩, hiff, by omega⟩
  · show sSeq _ _ (env12 (some (scV S)) none none none none none none none none none none) st = _
    rw [seq_nx (asg_ok (v := .loc l) (st' := st2) (by
      show xCallN 1 m__law_sorted (aCons cMark aNil) _ st = _
      simp only [xCallN, aCons, aNil, bnd, c1, Mi.ret, List.length_cons, List.length_nil, if_true, callM_ok c2]))]
    show sSeq _ _ (env12 (some (scV S)) (some (.loc l)) none none none none none none none none none) st2 = _
    rw [seq_nx (asg_ok (new3 _))]
    show sSeq (sFor fu (xIt (xVar 1)) (gSet 3) bMark) _ (env12 (some (scV S)) (some (.loc l)) (some (.loc st2.length)) none none none none none none none none) st3 = _
    rw [seq_nx c4]
    show sSeq (sAsg cSome (gSet 5)) _ (e12 (some (scV S)) (some (.loc l)) (some (.loc f)) x y none none none none none none) st4 = _
    rw [seq_nx (asg_ok c5)]
    show sSeq (sPar 6 7 (aCons (xCallN 1 m__law_sorted (aCons (x2 addV (cEnd 1) (cEnd 2)) aNil)) (aCons (xA lstV aNil) aNil))) _ (e12 (some (scV S)) (some (.loc l)) (some (.loc f)) x y (some (.loc b)) none none none none none) st5 = _
    rw [seq_nx (st' := st10) (env' := e12 (some (scV S)) (some (.loc l)) (some (.loc f)) x y (some (.loc b)) (some (.loc e)) (some (.loc st9.length)) none none none) (by
      have h1 : x2 addV (cEnd 1) (cEnd 2) (e12 (some (scV S)) (some (.loc l)) (some (.loc f)) x y (some (.loc b)) none none none none none) st5 = .ok (.loc st7.length) st8 := by rw [x2_ok c6 c7, ad8]
      simp only [sPar, xCallN, aCons, aNil, bnd, h1, Mi.ret, List.length_cons, List.length_nil, if_true, callM_ok c9, new10]
      rfl)]
    have hrng : xRng zipI (aCons (xVar 6) (aCons (xSl (xVar 6) (oSome (xC (.int (1)))) oNone) aNil)) (e12 (some (scV S)) (some (.loc l)) (some (.loc f)) x y (some (.loc b)) (some (.loc e)) (some (.loc st9.length)) none none none) st10 = .ok (nxZ (nxL e) (nxL st10.length)) st11 := by
      have v6 : ∀ st, xVar 6 (e12 (some (scV S)) (some (.loc l)) (some (.loc f)) x y (some (.loc b)) (some (.loc e)) (some (.loc st9.length)) none none none) st = .ok (.loc e) st := fun st => rfl
      have sl : sliceV (.loc e) (some 1) none st10 = .ok (.loc st10.length) st11 := by
        unfold sliceV
        dsimp only
        rw [gl n9']
        exact sl11
      simp only [xRng, aCons, aNil, bnd, v6, xSl, oSome, oNone, xC, Mi.ret, toI, sl, zipI, gl n9'', gl n11]
    have hfor : sFor fu (xRng zipI (aCons (xVar 6) (aCons (xSl (xVar 6) (oSome (xC (.int (1)))) oNone) aNil))) (tgTup 2 (tgCons (gSet 8) (tgCons (gSet 9) tgNil))) bStr (e12 (some (scV S)) (some (.loc l)) (some (.loc f)) x y (some (.loc b)) (some (.loc e)) (some (.loc st9.length)) none none none) st10 = .ok (.nx (e12 (some (scV S)) (some (.loc l)) (some (.loc f)) x y4 (some (.loc b)) (some (.loc e)) (some (.loc st9.length)) y8 y9 y10)) st12 := by
      unfold sFor
      rw [bnd_ok hrng]
      exact e13
    show sSeq (sFor fu (xRng zipI (aCons (xVar 6) (aCons (xSl (xVar 6) (oSome (xC (.int (1)))) oNone) aNil))) (tgTup 2 (tgCons (gSet 8) (tgCons (gSet 9) tgNil))) bStr) _ _ st10 = _
    rw [seq_nx hfor]
    refine ret_ok ?_
    have w2 : ∀ st, xVar 2 (e12 (some (scV S)) (some (.loc l)) (some (.loc f)) x y4 (some (.loc b)) (some (.loc e)) (some (.loc st9.length)) y8 y9 y10) st = .ok (.loc f) st := fun st => rfl
    have w7 : ∀ st, xVar 7 (e12 (some (scV S)) (some (.loc l)) (some (.loc f)) x y4 (some (.loc b)) (some (.loc e)) (some (.loc st9.length)) y8 y9 y10) st = .ok (.loc st9.length) st := fun st => rfl
    simp only [xA, aCons, aNil, bnd, x2, w2, w7, ad, newC, Mi.ret, tupleV, gl nn]
  · exact (((((((((g1.trans g2).trans g3).trans g4).trans g5).trans g6).trans g7).trans g8).trans g9).trans g12).trans (Gr.new _ _)
end Lw
namespace Lw
open PySem PySem.Spec L2 Mi
theorem aCons_ok {f : Ev → M PV} {g : Ev → M (List PV)} {env : Ev} {st st1 st2 : Store} {v : PV} {vs : List PV} (h1 : f env st = .ok v st1) (h2 : g env st1 = .ok vs st2) : aCons f g env st = .ok (v :: vs) st2 := by unfold aCons; rw [bnd_ok h1, bnd_ok h2]; rfl
theorem xA_ok {o : List PV → M PV} {f : Ev → M (List PV)} {env : Ev} {st st1 st2 : Store} {v : PV} {vs : List PV} (h1 : f env st = .ok vs st1) (h2 : o vs st1 = .ok v st2) : xA o f env st = .ok v st2 := by unfold xA; rw [bnd_ok h1, h2]
theorem call_ok {n : Nat} {g : List PV → M PV} {f : Ev → M (List PV)} {env : Ev} {st st1 st2 : Store} {v : PV} {vs : List PV} (h1 : f env st = .ok vs st1) (h2 : g vs st1 = .ok v st2) (hl : vs.length = n) : xCallN n g f env st = .ok v st2 := by unfold xCallN; rw [bnd_ok h1, if_pos hl, callM_ok h2]
/-! ### drawing -/
def Dr (st : Store) (d c l : Nat) (A : Int) : Prop := ∃ cells lefts a room, DrawS st d c l cells lefts a room ∧ a ≤ A
/-- all stays but the state of the draws -/
def Kp (d l : Nat) (st st' : Store) : Prop := st.length ≤ st'.length ∧ ∀ (k : Nat) (c : Cell), k ≠ d → k ≠ l → st[k]? = some c → st'[k]? = some c
theorem Kp.refl (d l : Nat) (st : Store) : Kp d l st st := ⟨Nat.le_refl _, fun _ _ _ _ h => h⟩
theorem Kp.trans {d l : Nat} {a b c : Store} (h : Kp d l a b) (k : Kp d l b c) : Kp d l a c := ⟨Nat.le_trans h.1 k.1, fun n e h1 h2 h3 => k.2 n e h1 h2 (h.2 n e h1 h2 h3)⟩
theorem gr_kp {a b : Store} (h : Gr a b) (d l : Nat) : Kp d l a b := ⟨h.len, fun _ _ _ _ e => h.at e⟩
theorem Kp.set {d l : Nat} {a b : Store} (h : Kp d l a b) {n : Nat} (c : Cell) (hn : a.length ≤ n) : Kp d l a (b.set n c) := ⟨by simpa using h.1, fun k e h1 h2 h3 => by
  have := (List.getElem?_eq_some_iff.mp h3).1
  rw [List.getElem?_set_ne (by omega)]
  exact h.2 k e h1 h2 h3⟩
theorem Dr.gr {st st' : Store} {d c l : Nat} {A : Int} (h : Dr st d c l A) (g : Gr st st') : Dr st' d c l A := by
  obtain ⟨cells, lefts, a, room, S, ha⟩ := h
  exact ⟨cells, lefts, a, room, ⟨g.at S.hd, g.at S.hc, g.at S.hl, S.dc, S.dl, S.cl, S.len, S.pos, S.few, S.a0⟩, ha⟩
theorem Dr.set {st : Store} {d c l : Nat} {A : Int} (h : Dr st d c l A) {n : Nat} (e : Cell) (h1 : n ≠ d) (h2 : n ≠ c) (h3 : n ≠ l) : Dr (st.set n e) d c l A := by
  obtain ⟨cells, lefts, a, room, S, ha⟩ := h
  exact ⟨cells, lefts, a, room, ⟨by rw [List.getElem?_set_ne h1]; exact S.hd, by rw [List.getElem?_set_ne h2]; exact S.hc, by rw [List.getElem?_set_ne h3]; exact S.hl, S.dc, S.dl, S.cl, S.len, S.pos, S.few, S.a0⟩, ha⟩
theorem Dr.mono {st : Store} {d c l : Nat} {A B : Int} (h : Dr st d c l A) (e : A ≤ B) : Dr st d c l B := by
  obtain ⟨cells, lefts, a, room, S, ha⟩ := h
  exact ⟨cells, lefts, a, room, S, by omega⟩
theorem Dr.lt {st : Store} {d c l : Nat} {A : Int} (h : Dr st d c l A) : d < st.length ∧ c < st.length ∧ l < st.length := by
  obtain ⟨cells, lefts, a, room, S, ha⟩ := h
  exact ⟨(List.getElem?_eq_some_iff.mp S.hd).1, (List.getElem?_eq_some_iff.mp S.hc).1, (List.getElem?_eq_some_iff.mp S.hl).1⟩
/-- a list of fractions is no part of the state -/
theorem Dr.ne {st : Store} {d c l : Nat} {A : Int} (h : Dr st d c l A) {n : Nat} {qs : List Rat} (hn : st[n]? = some (.lst (qs.map frac))) : n ≠ d ∧ n ≠ l := by
  obtain ⟨cells, lefts, a, room, S, ha⟩ := h
  refine ⟨fun e => ?_, fun e => ?_⟩
  · rw [e, S.hd] at hn
    cases hn
  · rw [e, S.hl] at hn
    injection hn with hn
    injection hn with hn
    have := S.len
    have := S.pos
    cases lefts with
    | nil => simp at this; omega
    | cons x lefts =>
      cases qs with
      | nil => cases hn
      | cons q qs =>
        injection hn with h1 _
        cases h1
theorem t_draw {st : Store} {d c l : Nat} {A : Int} (D : Dr st d c l A) (hA : A < 800000) {many : Int} (hm : 0 < many) (hm2 : many < 1000) :
    ∃ v st', m__law_draw [.loc d, .int many] st = .ok (.int v) st' ∧ 0 ≤ v ∧ v < many ∧ Dr st' d c l (A + 1) ∧ Kp d l st st' := by
  obtain ⟨cells, lefts, a, room, S, ha⟩ := D
  obtain ⟨v, st', lefts', e, h0, h1, S', keep, len⟩ := t__law_draw S (by omega) hm (by omega)
  exact ⟨v, st', e, h0, h1, ⟨cells, lefts', a + 1, room, S', by omega⟩, Nat.le_of_eq len.symm, fun k c h1 h2 h3 => by rw [keep k h1 h2]; exact h3⟩
theorem div_pos {t b : Int} (ht : 0 < t) (hb : 0 < b) : 0 < Rat.divInt t b := by
  rw [lt_num]
  have h := Rat.num_divInt t b
  rw [Int.sign_eq_one_of_pos hb, Int.one_mul] at h
  rw [h]
  have hg : 0 < (b.gcd t : Int) := by
    have := Int.gcd_pos_of_ne_zero_left t (by omega : b ≠ 0)
    omega
  have hd : (b.gcd t : Int) ∣ t := Int.gcd_dvd_right _ _
  have : 0 < t / (b.gcd t : Int) := Int.ediv_pos_of_pos_of_dvd ht (by omega) hd
  simp
  exact this
theorem div_nonneg {t b : Int} (ht : 0 ≤ t) (hb : 0 < b) : 0 ≤ Rat.divInt t b := by
  rcases Int.lt_or_eq_of_le ht with h | h
  · exact Rat.le_of_lt (div_pos h hb)
  · rw [← h]
    simp
theorem ratio_ok {t b : Int} (st : Store) (hb : 0 < b) (hb2 : b < 1000) (ht : -1000 < t) (ht2 : t < 1000) : m__law_ratio [.int t, .int b] st = .ok (frac (Rat.divInt t b)) st :=
  t__law_ratio (n := 10) t b st hb (by omega) (by omega) (by decide)
theorem t_small {st : Store} {d c l : Nat} {A : Int} (D : Dr st d c l A) (hA : A < 700000) : ∃ q st', m__law_small [.loc d] st = .ok (frac q) st' ∧ Sm 4 q ∧ Dr st' d c l (A + 2) ∧ Kp d l st st' := by
  obtain ⟨v, st1, e1, h1, h2, D1, k1⟩ := t_draw D (by omega) (many := 13) (by decide) (by decide)
  obtain ⟨w, st2, e2, h3, h4, D2, k2⟩ := t_draw D1 (by omega) (many := 2) (by decide) (by decide)
  have r := ratio_ok (t := v - 6) (b := 1 + w) st2 (by omega) (by omega) (by omega) (by omega)
  refine ⟨Rat.divInt (v - 6) (1 + w), st2, ?_, sm_divInt (by omega) (by omega) (by omega), D2.mono (by omega), k1.trans k2⟩
  simp [m__law_small, runB, sRet, bnd, xCallN, aCons, aNil, x2, xVar, xC, Mi.ret, callM_ok e1, callM_ok e2, subV, addV, callM_ok r]
/-- an amount above nought -/
theorem t_units {env : Ev} {st : Store} {d c l : Nat} {A : Int} (D : Dr st d c l A) (hA : A < 700000) (he : env[0]? = some (some (.loc d))) : ∃ q st', xCallN 2 m__law_ratio (aCons (x2 addV (xC (.int (1))) (xCallN 2 m__law_draw (aCons (xVar 0) (aCons (xC (.int (4))) aNil)))) (aCons (x2 addV (xC (.int (1))) (xCallN 2 m__law_draw (aCons (xVar 0) (aCons (xC (.int (2))) aNil)))) aNil)) env st = .ok (frac q) st' ∧ Sm 4 q ∧ 0 < q ∧ Dr st' d c l (A + 2) ∧ Kp d l st st' := by
  obtain ⟨v, st1, e1, h1, h2, D1, k1⟩ := t_draw D (by omega) (many := 4) (by decide) (by decide)
  obtain ⟨w, st2, e2, h3, h4, D2, k2⟩ := t_draw D1 (by omega) (many := 2) (by decide) (by decide)
  have r := ratio_ok (t := 1 + v) (b := 1 + w) st2 (by omega) (by omega) (by omega) (by omega)
  refine ⟨Rat.divInt (1 + v) (1 + w), st2, ?_, sm_divInt (by omega) (by omega) (by omega), div_pos (by omega) (by omega), D2.mono (by omega), k1.trans k2⟩
  simp [bnd, xCallN, aCons, aNil, x2, xv he, xC, Mi.ret, callM_ok e1, callM_ok e2, addV, callM_ok r]
theorem t__law_ladder {st : Store} {d c l : Nat} {A : Int} (D : Dr st d c l A) (hA : A < 600000) : ∃ L st', m__law_ladder [.loc d, .int 4] st = .ok (ladV L) st' ∧ (LadOk 4 L ∧ L.length ≤ 4) ∧ Dr st' d c l (A + 20) ∧ Kp d l st st' := by
  obtain ⟨v, st1, e1, h1, h2, D1, k1⟩ := t_draw D (by omega) (many := 5) (by decide) (by decide)
  obtain ⟨acc, st2, e2, D2, k2, qs, rfl, hlen, hsm⟩ := comp_inv (nx := nxR 0 v.toNat) (g := gSet 3) (c := bYes) (e := xCallN 1 m__law_small (aCons (xVar 0) aNil)) (n := v.toNat) (vf := fun i => .int (0 + (i : Nat))) (env := [some (.loc d), some (.int 4), none, none, none])
    (fun i acc st' => Dr st' d c l (A + 1 + 2 * i) ∧ Kp d l st1 st' ∧ ∃ qs : List Rat, acc = qs.map frac ∧ qs.length = i ∧ ∀ q ∈ qs, Sm 4 q)
    (fun i acc st' hi _ => by simp [nxR, hi]) (fun acc st' _ => by simp [nxR]) (fun i acc st' hi h => by
      obtain ⟨D', k', qs, rfl, hl, hsm⟩ := h
      obtain ⟨q, st3, e, hq, D3, k3⟩ := t_small D' (by omega)
      refine ⟨[some (.loc d), some (.int 4), none, some (.int (0 + (i : Nat))), none], st', true, st', rfl, rfl, (fun z => by cases z), fun _ => ⟨frac q, st3, ?_, by rw [List.length_map]; unfold sizeTop; omega, D3.mono (by omega), k'.trans k3, qs ++ [q], by simp, by simp [hl], fun p hp => ?_⟩⟩
      · simp [xCallN, aCons, aNil, bnd, xVar, Mi.ret, callM_ok e]
      · rcases List.mem_append.mp hp with z | z
        · exact hsm p z
        · rw [List.mem_singleton.mp z]; exact hq)
    fu 0 [] st1 (Nat.zero_le _) (by unfold fu; omega) ⟨D1.mono (by omega), Kp.refl _ _ _, [], rfl, rfl, by simp⟩
  have c1 : xLc fu [3] (xRng rng1 (aCons (xCallN 2 m__law_draw (aCons (xVar 0) (aCons (x2 addV (xVar 1) (xC (.int (1)))) aNil))) aNil)) (gSet 3) bYes (xCallN 1 m__law_small (aCons (xVar 0) aNil)) [some (.loc d), some (.int 4), none, none, none] st = .ok (.loc st2.length) (st2 ++ [.lst (qs.map frac)]) := by
    unfold xLc
    have h3 : -(2 ^ 62) ≤ v ∧ v < 2 ^ 62 := by omega
    rw [bnd_ok (a := nxR 0 v.toNat) (st' := st1) (by simp [xRng, aCons, aNil, bnd, xCallN, x2, xVar, xC, Mi.ret, addV, callM_ok e1, rng1]; rw [if_pos (by omega)]; rfl)]
    exact e2
  have g3 := Gr.new st2 (.lst (qs.map frac))
  have n3 := at_new st2 (.lst (qs.map frac))
  generalize hs3 : st2 ++ [Cell.lst (qs.map frac)] = st3 at *
  obtain ⟨st4, m, e4, g4, n4⟩ := t__law_sorted (s := 4) qs st2.length st3 n3 hsm (by decide) (by omega)
  have hsl := sortR_len qs
  have hasc := sortR_asc qs
  have hssm : ∀ q ∈ sortR qs, Sm 4 q := fun q hq => hsm q ((sortR_mem qs q).mp hq)
  generalize sortR qs = E at *
  have D4 := (D2.gr g3).gr g4
  have ne4 := D4.ne n4
  obtain ⟨acc, st5, e5, D5, k5, L, rfl, hL1, hL2⟩ := comp_inv (nx := nxL m) (g := gSet 4) (c := bYes) (e := xA tupV (aCons (xVar 4) (aCons (xCallN 2 m__law_ratio (aCons (x2 addV (xC (.int (1))) (xCallN 2 m__law_draw (aCons (xVar 0) (aCons (xC (.int (4))) aNil)))) (aCons (x2 addV (xC (.int (1))) (xCallN 2 m__law_draw (aCons (xVar 0) (aCons (xC (.int (2))) aNil)))) aNil))) aNil))) (n := E.length) (vf := fun i => frac ((E[i]?).getD 0)) (env := [some (.loc d), some (.int 4), some (.loc m), none, none])
    (fun i acc st' => Dr st' d c l (A + 9 + 2 * i) ∧ Kp d l st4 st' ∧ ∃ L : List (Rat × Rat), acc = L.map rungV ∧ L.map (·.1) = E.take i ∧ ∀ r ∈ L, Sm 4 r.2 ∧ 0 < r.2)
    (fun i acc st' hi h => by
      unfold nxL
      rw [gl (h.2.1.2 _ _ ne4.1 ne4.2 n4)]
      simp [hi]) (fun acc st' h => by
      unfold nxL
      rw [gl (h.2.1.2 _ _ ne4.1 ne4.2 n4)]
      simp) (fun i acc st' hi h => by
      obtain ⟨D', k', L, rfl, hL1, hL2⟩ := h
      have hLl : L.length = i := by
        have := congrArg List.length hL1
        simp at this
        omega
      have ei : E[i]? = some E[i] := List.getElem?_eq_getElem hi
      rw [ei]
      simp only [Option.getD_some]
      obtain ⟨q, st6, e, hq, hq0, D6, k6⟩ := t_units (env := [some (.loc d), some (.int 4), some (.loc m), none, some (frac E[i])]) D' (by omega) rfl
      refine ⟨[some (.loc d), some (.int 4), some (.loc m), none, some (frac E[i])], st', true, st', rfl, rfl, (fun z => by cases z), fun _ => ⟨rungV (E[i], q), st6, ?_, by rw [List.length_map]; unfold sizeTop; omega, D6.mono (by omega), k'.trans k6, L ++ [(E[i], q)], by simp, ?_, fun r hr => ?_⟩⟩
      · have v4 : ∀ st, xVar 4 [some (.loc d), some (.int 4), some (.loc m), none, some (frac E[i])] st = .ok (frac E[i]) st := fun st => rfl
        exact xA_ok (aCons_ok (v4 st') (aCons_ok e rfl)) rfl
      · rw [List.map_append, hL1, List.take_succ, ei]
        rfl
      · rcases List.mem_append.mp hr with z | z
        · exact hL2 r z
        · rw [List.mem_singleton.mp z]; exact ⟨hq, hq0⟩)
    fu 0 [] st4 (Nat.zero_le _) (by unfold fu; omega) ⟨D4.mono (by omega), Kp.refl _ _ _, [], rfl, by simp, by simp⟩
  rw [List.take_length] at hL1
  have hLlen : L.length = E.length := by
    have := congrArg List.length hL1
    simpa using this
  have n6 := at_new st5 (.lst (L.map rungV))
  refine ⟨L, st5 ++ [.lst (L.map rungV)], run_rt ?_, ⟨⟨by omega, fun r hr => ⟨hssm r.1 ?_, (hL2 r hr).1⟩, fun r hr => (hL2 r hr).2, by rw [hL1]; exact hasc⟩, by omega⟩, (D5.gr (Gr.new _ _)).mono (by omega), ((((k1.trans k2).trans (gr_kp g3 d l)).trans (gr_kp g4 d l)).trans k5).trans (gr_kp (Gr.new _ _) d l)⟩
  · show sSeq _ _ [some (.loc d), some (.int 4), none, none, none] st = _
    rw [seq_nx (asg_ok (v := .loc m) (st' := st4) (by simp only [xCallN, aCons, aNil, bnd, c1, Mi.ret, List.length_cons, List.length_nil, if_true, callM_ok e4]))]
    refine ret_ok ?_
    show xA tupleV (aCons (xLc fu [4] _ _ _ _) aNil) [some (.loc d), some (.int 4), some (.loc m), none, none] st4 = _
    have c5 : xLc fu [4] (xIt (xVar 2)) (gSet 4) bYes (xA tupV (aCons (xVar 4) (aCons (xCallN 2 m__law_ratio (aCons (x2 addV (xC (.int (1))) (xCallN 2 m__law_draw (aCons (xVar 0) (aCons (xC (.int (4))) aNil)))) (aCons (x2 addV (xC (.int (1))) (xCallN 2 m__law_draw (aCons (xVar 0) (aCons (xC (.int (2))) aNil)))) aNil))) aNil))) [some (.loc d), some (.int 4), some (.loc m), none, none] st4 = .ok (.loc st5.length) (st5 ++ [.lst (L.map rungV)]) := by
      unfold xLc
      rw [bnd_ok (a := nxL m) (st' := st4) (by simp [xIt, xVar, bnd, itV, gl n4])]
      exact e5
    refine xA_ok (aCons_ok c5 rfl) ?_
    unfold tupleV
    dsimp only
    rw [gl n6]
    rfl
  · rw [← hL1]
    exact List.mem_map.mpr ⟨r, hr, rfl⟩
end Lw
namespace Lw
open PySem PySem.Spec L2 Mi
def drawC (k : Int) : Ev → M PV := xCallN 2 m__law_draw (aCons (xVar 0) (aCons (xC (.int k)) aNil))
theorem draw_ok {env : Ev} {st : Store} {d c l : Nat} {A : Int} (D : Dr st d c l A) (hA : A < 800000) (he : env[0]? = some (some (.loc d))) {many : Int} (hm : 0 < many) (hm2 : many < 1000) :
    ∃ v st', drawC many env st = .ok (.int v) st' ∧ 0 ≤ v ∧ v < many ∧ Dr st' d c l (A + 1) ∧ Kp d l st st' := by
  obtain ⟨v, st', e, h0, h1, D1, k1⟩ := t_draw D hA hm hm2
  exact ⟨v, st', call_ok (aCons_ok (xv he st) (aCons_ok rfl rfl)) e rfl, h0, h1, D1, k1⟩
theorem plus1_ok {f : Ev → M PV} {env : Ev} {st st1 : Store} {v : Int} (h : f env st = .ok (.int v) st1) : x2 addV (xC (.int 1)) f env st = .ok (.int (1 + v)) st1 := (x2_ok (a := .int 1) (st1 := st) rfl h).trans rfl
/-- marks and their prices are small -/
def PcS : Pc → Prop
  | .mark m p => Sm 4 m ∧ Sm 4 p
  | .str _ _ _ => True
/-- one piece -/
theorem t_piece {st : Store} {d c l : Nat} {A : Int} (D : Dr st d c l A) (hA : A < 600000) (r : Nat) (S : List Pc) (hr : st[r]? = some (.lst (S.map pcV))) (hrd : r ≠ d ∧ r ≠ c ∧ r ≠ l) (hS : S.length < 1000) (x1 x3 x4 x5 : Option PV) (st0 : Store) (k0 : Kp d l st0 st) (hr0 : st0.length ≤ r) :
    ∃ env' st' p, (sSeq (sPar 4 5 (aCons (xCallN 2 m__law_ratio (aCons (drawC 4) (aCons (x2 addV (xC (.int (1))) (drawC 2)) aNil))) (aCons (xCallN 1 m__law_small (aCons (xVar 0) aNil)) aNil)))
      (sIf (asB (x2 (eqP false) (drawC 2) (xC (.int (0)))))
      (sEx (xMt appV (xVar 2) (aCons (xA tupV (aCons (xC (.str "mark")) (aCons (xVar 5) (aCons (xVar 4) aNil)))) aNil)))
      (sEx (xMt appV (xVar 2) (aCons (xA tupV (aCons (xC (.str "stretch")) (aCons (xVar 5) (aCons (xCallN 2 m__law_plus (aCons (xVar 5) (aCons (xCallN 2 m__law_ratio (aCons (x2 addV (xC (.int (1))) (drawC 8)) (aCons (xC (.int (2))) aNil))) aNil))) (aCons (xVar 4) aNil))))) aNil))))) [some (.loc d), x1, some (.loc r), x3, x4, x5] st = .ok (.nx env') st' ∧
      (∃ x4 x5, env' = [some (.loc d), x1, some (.loc r), x3, x4, x5]) ∧ Dr st' d c l (A + 7) ∧ Kp d l st0 st' ∧ st'[r]? = some (.lst ((S ++ [p]).map pcV)) ∧ PcOk 10 p ∧ PcS p := by
  obtain ⟨v, st1, e1, h1, h2, D1, k1⟩ := draw_ok (env := [some (.loc d), x1, some (.loc r), x3, x4, x5]) D (by omega) rfl (many := 4) (by decide) (by decide)
  obtain ⟨w, st2, e2, h3, h4, D2, k2⟩ := draw_ok (env := [some (.loc d), x1, some (.loc r), x3, x4, x5]) D1 (by omega) rfl (many := 2) (by decide) (by decide)
  have r1 := ratio_ok (t := v) (b := 1 + w) st2 (by omega) (by omega) (by omega) (by omega)
  have hp0 := div_nonneg (t := v) (b := 1 + w) h1 (by omega)
  have hpm : Sm 4 (Rat.divInt v (1 + w)) := sm_divInt (by omega) (by omega) (by omega)
  generalize Rat.divInt v (1 + w) = p at *
  obtain ⟨lo, st3, e3, hlo, D3, k3⟩ := t_small D2 (by omega)
  have first : sPar 4 5 (aCons (xCallN 2 m__law_ratio (aCons (drawC 4) (aCons (x2 addV (xC (.int (1))) (drawC 2)) aNil))) (aCons (xCallN 1 m__law_small (aCons (xVar 0) aNil)) aNil)) [some (.loc d), x1, some (.loc r), x3, x4, x5] st = .ok (.nx [some (.loc d), x1, some (.loc r), x3, some (frac p), some (frac lo)]) st3 := by
    have a1 : xCallN 2 m__law_ratio (aCons (drawC 4) (aCons (x2 addV (xC (.int (1))) (drawC 2)) aNil)) [some (.loc d), x1, some (.loc r), x3, x4, x5] st = .ok (frac p) st2 := call_ok (aCons_ok e1 (aCons_ok (plus1_ok e2) rfl)) r1 rfl
    have a2 : xCallN 1 m__law_small (aCons (xVar 0) aNil) [some (.loc d), x1, some (.loc r), x3, x4, x5] st2 = .ok (frac lo) st3 := call_ok (aCons_ok rfl rfl) e3 rfl
    unfold sPar
    rw [bnd_ok (aCons_ok a1 (aCons_ok a2 rfl))]
    rfl
  obtain ⟨u, st4, e4, h5, h6, D4, k4⟩ := draw_ok (env := [some (.loc d), x1, some (.loc r), x3, some (frac p), some (frac lo)]) D3 (by omega) rfl (many := 2) (by decide) (by decide)
  have hr4 := k4.2 r _ hrd.1 hrd.2.2 (k3.2 r _ hrd.1 hrd.2.2 (k2.2 r _ hrd.1 hrd.2.2 (k1.2 r _ hrd.1 hrd.2.2 hr)))
  have kk := (((k0.trans k1).trans k2).trans k3).trans k4
  have test : asB (x2 (eqP false) (drawC 2) (xC (.int (0)))) [some (.loc d), x1, some (.loc r), x3, some (frac p), some (frac lo)] st3 = .ok (decide (u = 0)) st4 := by
    unfold asB
    rw [bnd_ok (x2_ok e4 rfl |>.trans (eqP_int false u 0 st4))]
    rfl
  by_cases hu : u = 0
  · rw [decide_eq_true hu] at test
    have ap := ap_ok (i := 2) (e := xA tupV (aCons (xC (.str "mark")) (aCons (xVar 5) (aCons (xVar 4) aNil)))) (env := [some (.loc d), x1, some (.loc r), x3, some (frac p), some (frac lo)]) (v := pcV (.mark lo p)) rfl hr4 rfl (by rw [List.length_map]; omega)
    refine ⟨[some (.loc d), x1, some (.loc r), x3, some (frac p), some (frac lo)], st4.set r (.lst (S.map pcV ++ [pcV (.mark lo p)])), .mark lo p, ?_, ⟨_, _, rfl⟩, (D4.mono (by omega)).set _ hrd.1 hrd.2.1 hrd.2.2, kk.set _ hr0, by rw [set_at hr4]; simp, ⟨hlo.mono (by omega), hpm.mono (by omega), hp0⟩, hlo, hpm⟩
    rw [seq_nx first]
    unfold sIf
    rw [bnd_ok test, if_pos rfl]
    unfold sEx
    rw [bnd_ok ap]
    rfl
  · rw [decide_eq_false hu] at test
    obtain ⟨z, st5, e5, h7, h8, D5, k5⟩ := draw_ok (env := [some (.loc d), x1, some (.loc r), x3, some (frac p), some (frac lo)]) D4 (by omega) rfl (many := 8) (by decide) (by decide)
    have r2 := ratio_ok (t := 1 + z) (b := 2) st5 (by decide) (by decide) (by omega) (by omega)
    have hq0 := div_pos (t := 1 + z) (b := 2) (by omega) (by decide)
    have hqm : Sm 5 (Rat.divInt (1 + z) 2) := sm_divInt (by decide) (by omega) (by decide)
    generalize Rat.divInt (1 + z) 2 = q at *
    have pl := t__law_plus lo q st5 hlo hqm (by decide)
    have hr5 := k5.2 r _ hrd.1 hrd.2.2 hr4
    have hlt : lo < lo + q := by
      have := Rat.add_lt_add_left (c := lo) |>.mpr hq0
      rwa [Rat.add_zero] at this
    have tv : xA tupV (aCons (xC (.str "stretch")) (aCons (xVar 5) (aCons (xCallN 2 m__law_plus (aCons (xVar 5) (aCons (xCallN 2 m__law_ratio (aCons (x2 addV (xC (.int (1))) (drawC 8)) (aCons (xC (.int (2))) aNil))) aNil))) (aCons (xVar 4) aNil)))) [some (.loc d), x1, some (.loc r), x3, some (frac p), some (frac lo)] st4 = .ok (pcV (.str lo (lo + q) p)) st5 :=
      xA_ok (aCons_ok rfl (aCons_ok rfl (aCons_ok (call_ok (aCons_ok rfl (aCons_ok (call_ok (aCons_ok (plus1_ok e5) (aCons_ok rfl rfl)) r2 rfl) rfl)) pl rfl) (aCons_ok rfl rfl)))) rfl
    have ap : xMt appV (xVar 2) (aCons (xA tupV (aCons (xC (.str "stretch")) (aCons (xVar 5) (aCons (xCallN 2 m__law_plus (aCons (xVar 5) (aCons (xCallN 2 m__law_ratio (aCons (x2 addV (xC (.int (1))) (drawC 8)) (aCons (xC (.int (2))) aNil))) aNil))) (aCons (xVar 4) aNil))))) aNil) [some (.loc d), x1, some (.loc r), x3, some (frac p), some (frac lo)] st4 = .ok .non (st5.set r (.lst (S.map pcV ++ [pcV (.str lo (lo + q) p)]))) := by
      have hz : (S.map pcV).length < sizeTop := by rw [List.length_map]; unfold sizeTop; omega
      unfold xMt
      rw [bnd_ok (xv (i := 2) (v := .loc r) rfl st4)]
      rw [bnd_ok (a := ()) (st' := st4) (by unfold chkL; dsimp only; rw [gm hr4])]
      rw [bnd_ok (aCons_ok tv rfl)]
      unfold appV
      dsimp only
      rw [gm hr5]
      dsimp only
      rw [if_pos hz]
    refine ⟨[some (.loc d), x1, some (.loc r), x3, some (frac p), some (frac lo)], st5.set r (.lst (S.map pcV ++ [pcV (.str lo (lo + q) p)])), .str lo (lo + q) p, ?_, ⟨_, _, rfl⟩, (D5.mono (by omega)).set _ hrd.1 hrd.2.1 hrd.2.2, (kk.trans k5).set _ hr0, by rw [set_at hr5]; simp, ⟨hlo.mono (by omega), (sm_add hlo hqm).mono (by omega), hpm.mono (by omega), hp0, hlt⟩, trivial⟩
    rw [seq_nx first]
    unfold sIf
    rw [bnd_ok test, if_neg (by decide)]
    unfold sEx
    exact (bnd_ok ap).trans rfl
theorem t__law_score {st : Store} {d c l : Nat} {A : Int} (D : Dr st d c l A) (hA : A < 500000) : ∃ S st', m__law_score [.loc d, .int 4] st = .ok (scV S) st' ∧ (ScOk 10 S ∧ S.length ≤ 4 ∧ ∀ p ∈ S, PcS p) ∧ Dr st' d c l (A + 50) ∧ Kp d l st st' := by
  have hlt := D.lt
  have g0 := Gr.new st (.lst [])
  have n0 := at_new st (.lst [])
  have D0' := D.gr g0
  have new0 : ∀ env, xA lstV aNil env st = .ok (.loc st.length) (st ++ [.lst []]) := fun env => rfl
  generalize hs0 : st ++ [Cell.lst []] = st1 at *
  obtain ⟨v, st2, e2, h1, h2, D2, k2⟩ := t_draw D0' (by omega) (many := 5) (by decide) (by decide)
  have hrd : st.length ≠ d ∧ st.length ≠ c ∧ st.length ≠ l := by omega
  have n2 := k2.2 _ _ hrd.1 hrd.2.2 n0
  obtain ⟨env', st3, e3, D3, k3, x3, x4, x5, S, rfl, n3, hSl, hS⟩ := for_ok (nx := nxR 0 v.toNat) (g := gSet 3) (n := v.toNat) (vf := fun i => .int (0 + (i : Nat))) (env := [some (.loc d), some (.int 4), some (.loc st.length), none, none, none]) (st := st2)
    (body := (sSeq (sPar 4 5 (aCons (xCallN 2 m__law_ratio (aCons (drawC 4) (aCons (x2 addV (xC (.int (1))) (drawC 2)) aNil))) (aCons (xCallN 1 m__law_small (aCons (xVar 0) aNil)) aNil)))
      (sIf (asB (x2 (eqP false) (drawC 2) (xC (.int (0)))))
      (sEx (xMt appV (xVar 2) (aCons (xA tupV (aCons (xC (.str "mark")) (aCons (xVar 5) (aCons (xVar 4) aNil)))) aNil)))
      (sEx (xMt appV (xVar 2) (aCons (xA tupV (aCons (xC (.str "stretch")) (aCons (xVar 5) (aCons (xCallN 2 m__law_plus (aCons (xVar 5) (aCons (xCallN 2 m__law_ratio (aCons (x2 addV (xC (.int (1))) (drawC 8)) (aCons (xC (.int (2))) aNil))) aNil))) (aCons (xVar 4) aNil))))) aNil))))))
    (fun i env st' => Dr st' d c l (A + 1 + 7 * i) ∧ Kp d l st st' ∧ ∃ x3 x4 x5 S, env = [some (.loc d), some (.int 4), some (.loc st.length), x3, x4, x5] ∧ st'[st.length]? = some (.lst (S.map pcV)) ∧ S.length = i ∧ ∀ p ∈ S, PcOk 10 p ∧ PcS p)
    (fun i env st' hi _ => by simp [nxR, hi]) (fun env st' _ => by simp [nxR]) (fun i env st' hi h0 => by
      obtain ⟨D', k', x3, x4, x5, S, rfl, n', hSl, hS⟩ := h0
      obtain ⟨env', st4, p, q1, ⟨y4, y5, rfl⟩, q2, q3, q4, q5⟩ := t_piece D' (by omega) st.length S n' hrd (by omega) (some (.int 4)) (some (.int (0 + (i : Nat)))) x4 x5 st k' (Nat.le_refl _)
      refine ⟨_, st4, q1, q2.mono (by omega), q3, some (.int (0 + (i : Nat))), y4, y5, S ++ [p], rfl, q4, by simp [hSl], fun z hz => ?_⟩
      rcases List.mem_append.mp hz with w | w
      · exact hS z w
      · rw [List.mem_singleton.mp w]; exact q5)
    ⟨D2.mono (by omega), (gr_kp g0 d l).trans k2, none, none, none, [], rfl, n2, rfl, by simp⟩ (by omega)
  refine ⟨S, st3, run_rt ?_, ⟨⟨by omega, fun p hp => (hS p hp).1⟩, by omega, fun p hp => (hS p hp).2⟩, D3.mono (by omega), k3⟩
  show sSeq _ _ [some (.loc d), some (.int 4), none, none, none, none] st = _
  rw [seq_nx (asg_ok (new0 _))]
  show sSeq (sFor fu _ _ _) _ [some (.loc d), some (.int 4), some (.loc st.length), none, none, none] st1 = _
  have hrng : xRng rng1 (aCons (xCallN 2 m__law_draw (aCons (xVar 0) (aCons (x2 addV (xVar 1) (xC (.int (1)))) aNil))) aNil) [some (.loc d), some (.int 4), some (.loc st.length), none, none, none] st1 = .ok (nxR 0 v.toNat) st2 := by
    have a1 : xCallN 2 m__law_draw (aCons (xVar 0) (aCons (x2 addV (xVar 1) (xC (.int (1)))) aNil)) [some (.loc d), some (.int 4), some (.loc st.length), none, none, none] st1 = .ok (.int v) st2 := call_ok (aCons_ok rfl (aCons_ok ((x2_ok (a := .int 4) (b := .int 1) (st1 := st1) (st2 := st1) rfl rfl).trans rfl) rfl)) e2 rfl
    unfold xRng
    rw [bnd_ok (aCons_ok a1 rfl)]
    unfold rng1
    dsimp only
    rw [if_pos (by omega)]
    rfl
  rw [seq_nx (env' := [some (.loc d), some (.int 4), some (.loc st.length), x3, x4, x5]) (st' := st3) (by unfold sFor; rw [bnd_ok hrng]; exact e3)]
  refine ret_ok (xA_ok (aCons_ok rfl rfl) ?_)
  unfold tupleV
  dsimp only
  rw [gl n3]
  rfl
end Lw
namespace Lw
open PySem PySem.Spec L2 Mi PyProof.Rows
/-! ### what is shown -/
def SmA (v : PV) : Prop := v = .non ∨ (∃ i : Int, v = .int i ∧ i.natAbs < 2 ^ 39) ∨ v = .str "mark"
def Sh : Nat → PV → Prop
  | 0, v => SmA v
  | k + 1, v => SmA v ∨ ∃ xs, v = .tup xs ∧ xs.length ≤ 10 ∧ ∀ x ∈ xs, Sh k x
theorem Sh.at {v : PV} (h : SmA v) (k : Nat) : Sh k v := by
  cases k
  · exact h
  · exact .inl h
theorem Sh.mono : ∀ {k : Nat} {v : PV}, Sh k v → Sh (k + 1) v
  | 0, v, h => .inl h
  | k + 1, v, h => by
    rcases h with h | ⟨xs, h1, h2, h3⟩
    · exact .inl h
    · exact .inr ⟨xs, h1, h2, fun x hx => (h3 x hx).mono⟩
theorem Sh.le {j k : Nat} {v : PV} (h : Sh j v) (e : j ≤ k) : Sh k v := by
  induction e with
  | refl => exact h
  | step _ ih => exact ih.mono
theorem Sh.pq : ∀ {k : Nat} {v : PV}, Sh k v → Pq k v
  | 0, v, h => by
    rcases h with rfl | ⟨i, rfl, _⟩ | rfl
    · exact pq_non 0
    · exact pq_int i 0
    · exact pq_str ok_mark 0
  | k + 1, v, h => by
    rcases h with h | ⟨xs, rfl, _, h⟩
    · refine pq_at ?_ _
      rcases h with rfl | ⟨i, rfl, _⟩ | rfl
      · exact .inl rfl
      · exact .inr (.inl ⟨i, rfl⟩)
      · exact .inr (.inr ⟨_, rfl, ok_mark⟩)
    · exact pq_tup fun x hx => (h x hx).pq
/-- what is asked of data that is shown -/
structure Shd (W : Nat) (d : PyData) : Prop where
  sh : d.showable = true
  nd : d.hasDict = false
  short : d.intsShort 13 = true
  wt : d.weight ≤ W
  cps : ∀ c, 0x110000 ≤ c → c ∉ d.shown.cps.toList
def wK : Nat → Nat
  | 0 => 60
  | k + 1 => 10 * (wK k + 1)
theorem wK_ge : ∀ k, 60 ≤ wK k
  | 0 => Nat.le_refl _
  | k + 1 => by have := wK_ge k; simp only [wK]; omega
theorem shd_at {v : PV} (h : SmA v) : Shd 60 (dt v) := by
  rcases h with rfl | ⟨i, rfl, hi⟩ | rfl
  · refine ⟨rfl, rfl, rfl, by decide, fun c hc => ?_⟩
    intro hm
    have := (mem_shown_none c).mp hm
    simp only [List.mem_cons, List.not_mem_nil, or_false] at this
    omega
  · have hl : i.natAbs.log2 < 39 := log2_lt (by decide) hi
    refine ⟨?_, rfl, ?_, ?_, fun c hc => shown_int_free' ⟨by omega, by omega⟩ i⟩
    · simp only [dt, PyData.showable]
      exact decide_eq_true (by omega)
    · simp only [dt, PyData.intsShort]
      exact decide_eq_true (PyData.shown_int_le2 (by omega) (by omega))
    · simp only [dt, PyData.weight]
      split <;> omega
  · refine ⟨rfl, rfl, rfl, by decide +kernel, fun c hc => ?_⟩
    have e : (PyData.shown (dt (.str "mark"))).cps.toList = [39, 109, 97, 114, 107, 39] := by decide +kernel
    rw [e]
    simp only [List.mem_cons, List.not_mem_nil, or_false]
    omega
theorem shd_all {W : Nat} : ∀ xs : List PV, (∀ x ∈ xs, Shd W (dt x)) → PyData.showableAll (dtL xs) = true ∧ PyData.hasDictAll (dtL xs) = false ∧ PyData.intsShortAll 13 (dtL xs) = true ∧ PyData.weightAll (dtL xs) ≤ xs.length * (W + 1) ∧ ∀ d ∈ dtL xs, ∀ c, 0x110000 ≤ c → c ∉ d.shown.cps.toList
  | [], _ => ⟨rfl, rfl, rfl, by simp [dtL, PyData.weightAll], by simp [dtL]⟩
  | x :: xs, h => by
    have h1 := h x (by simp)
    have h2 := shd_all xs fun y hy => h y (List.mem_cons_of_mem _ hy)
    refine ⟨?_, ?_, ?_, ?_, fun d hd => ?_⟩
    · simp only [dtL, PyData.showableAll, h1.sh, h2.1, Bool.and_self]
    · simp only [dtL, PyData.hasDictAll, h1.nd, h2.2.1, Bool.or_self]
    · simp only [dtL, PyData.intsShortAll, h1.short, h2.2.2.1, Bool.and_self]
    · have := h1.wt
      have := h2.2.2.2.1
      simp only [dtL, PyData.weightAll, List.length_cons, Nat.add_mul]
      omega
    · simp only [dtL, List.mem_cons] at hd
      rcases hd with rfl | hd
      · exact h1.cps
      · exact h2.2.2.2.2 d hd
theorem shd_list {W : Nat} {xs : List PV} (hl : xs.length ≤ 10) (h : ∀ x ∈ xs, Shd W (dt x)) : Shd (10 * (W + 1)) (.list (dtL xs)) := by
  obtain ⟨h1, h2, h3, h4, h5⟩ := shd_all xs h
  refine ⟨h1, h2, h3, ?_, fun c hc hm => ?_⟩
  · have := Nat.mul_le_mul_right (W + 1) hl
    simp only [PyData.weight]
    omega
  · rw [PyData.shown_list, mem_cps_append, mem_cps_append, signs_lbrack, signs_rbrack, mem_join, signs_sep] at hm
    simp only [List.mem_cons, List.not_mem_nil, or_false] at hm
    rcases hm with (hm | (⟨t, ht, hm⟩ | ⟨_, hm⟩)) | hm
    · omega
    · exact shownAll_free (fun d hd => h5 d hd c hc) t ht hm
    · omega
    · omega
theorem shd_tup {W : Nat} {xs : List PV} (hl : xs.length ≤ 10) (h : ∀ x ∈ xs, Shd W (dt x)) : Shd (10 * (W + 1)) (.tuple (dtL xs)) := by
  obtain ⟨h1, h2, h3, h4, h5⟩ := shd_all xs h
  refine ⟨h1, h2, h3, ?_, fun c hc hm => ?_⟩
  · have := Nat.mul_le_mul_right (W + 1) hl
    simp only [PyData.weight]
    omega
  · rw [PyData.shown_tuple, mem_cps_append, mem_cps_append, signs_lparen, mem_join, signs_sep, signs_tuple_end] at hm
    simp only [List.mem_cons, List.not_mem_nil, or_false] at hm
    rcases hm with (hm | (⟨t, ht, hm⟩ | ⟨_, hm⟩)) | hm
    · omega
    · exact shownAll_free (fun d hd => h5 d hd c hc) t ht hm
    · omega
    · split at hm <;> simp only [List.mem_cons, List.not_mem_nil, or_false] at hm <;> omega
theorem Shd.le {V W : Nat} {d : PyData} (h : Shd V d) (e : V ≤ W) : Shd W d := ⟨h.sh, h.nd, h.short, Nat.le_trans h.wt e, h.cps⟩
theorem shd_of : ∀ (k : Nat) (v : PV), Sh k v → Shd (wK k) (dt v)
  | 0, v, h => shd_at h
  | k + 1, v, h => by
    rcases h with h | ⟨xs, rfl, hl, h⟩
    · exact (shd_at h).le (wK_ge _)
    · exact shd_tup hl fun x hx => shd_of k x (h x hx)
/-- the text of a list of such -/
def shown (vs : List PV) : Str := (PyData.list (dtL vs)).shown
theorem repr_ok {st : Store} {n : Nat} {vs : List PV} (hn : st[n]? = some (.lst vs)) (hl : vs.length ≤ 10) (h : ∀ v ∈ vs, Sh 3 v) : reprV [.loc n] st = .ok (.str (shown vs)) st ∧ PyData.strOk (shown vs) = true := by
  have hp : ∀ v ∈ vs, Pq 3 v := fun v hv => (h v hv).pq
  have D := shd_list hl fun v hv => shd_of 3 v (h v hv)
  have hd := toD_lst hn hp
  have hdep : (PyData.list (dtL vs)).depth ≤ 60 := by
    have := dep_dt (k := 3) vs fun v hv => (pq_dt (fun _ => none) 3 v (hp v hv)).2.2
    simp only [PyData.depth]; omega
  have hlay : (PyData.list (dtL vs)).canLay0 = true := by
    simp only [PyData.canLay0]
    exact lay_dt vs fun v hv => (pq_dt (fun _ => none) 3 v (hp v hv)).2.1
  have hlen : (PyData.list (dtL vs)).shown.length ≤ sizeTop := by
    have := PyProof.Rows.shown_le13 (d := .list (dtL vs)) (by
      have hw := D.wt
      have : 10 * (wK 3 + 1) ≤ 2 ^ 20 := by decide
      show (PyData.canLay0 _ && decide (PyData.depth _ ≤ 64) && decide (PyData.weight _ ≤ 2 ^ 20)) = true
      rw [hlay, decide_eq_true (by omega), decide_eq_true (by omega)]
      rfl) D.short
    unfold sizeTop; omega
  refine ⟨?_, ?_⟩
  · unfold reprV
    dsimp only
    rw [hd]
    dsimp only
    rw [if_pos ⟨rfl, D.sh, D.nd, hdep, hlen⟩]
    rfl
  · unfold PyData.strOk shown
    rw [Array.all_eq_true_iff_forall_mem]
    intro c hc
    simp only [decide_eq_true_eq]
    by_cases h : c < 0x110000
    · exact h
    · exact absurd (Array.mem_toList_iff.mpr hc) (D.cps c (by omega))
theorem sh_frac {q : Rat} (h : Sm 39 q) : Sh 1 (frac q) := .inr ⟨_, rfl, by simp, fun x hx => by
  rcases List.mem_cons.mp hx with e | e
  · rw [e]; exact .inr (.inl ⟨_, rfl, h.1⟩)
  · rw [List.mem_singleton.mp e]
    exact .inr (.inl ⟨_, rfl, by simpa using h.2⟩)⟩
theorem sh_rung {r : Rat × Rat} (h1 : Sm 39 r.1) (h2 : Sm 39 r.2) : Sh 2 (rungV r) := .inr ⟨_, rfl, by simp, fun x hx => by
  rcases List.mem_cons.mp hx with e | e
  · rw [e]; exact sh_frac h1
  · rw [List.mem_singleton.mp e]; exact sh_frac h2⟩
theorem sh_mark {m p : Rat} (h1 : Sm 39 m) (h2 : Sm 39 p) : Sh 2 (pcV (.mark m p)) := .inr ⟨_, rfl, by simp, fun x hx => by
  simp only [List.mem_cons, List.not_mem_nil, or_false] at hx
  rcases hx with e | e | e <;> rw [e]
  · exact Sh.at (.inr (.inr rfl)) _
  · exact sh_frac h1
  · exact sh_frac h2⟩
theorem sh_lad {L : List (Rat × Rat)} (hl : L.length ≤ 10) (h : ∀ r ∈ L, Sm 39 r.1 ∧ Sm 39 r.2) : Sh 3 (ladV L) := .inr ⟨_, rfl, by rw [List.length_map]; exact hl, fun x hx => by
  obtain ⟨r, hr, rfl⟩ := List.mem_map.mp hx
  exact sh_rung (h r hr).1 (h r hr).2⟩
theorem sh_marks {L : List (Rat × Rat)} (hl : L.length ≤ 10) (h : ∀ r ∈ L, Sm 39 r.1 ∧ Sm 39 r.2) : Sh 3 (scV (L.map fun r => .mark r.1 r.2)) := .inr ⟨_, rfl, by simpa using hl, fun x hx => by
  rw [List.map_map] at hx
  obtain ⟨r, hr, rfl⟩ := List.mem_map.mp hx
  exact sh_mark (h r hr).1 (h r hr).2⟩
end Lw
namespace Lw
open PySem PySem.Spec L2 Mi
theorem par_ok {i j : Nat} {f : Ev → M (List PV)} {env : Ev} {st st' : Store} (v w : PV) (h : f env st = .ok [v, w] st') : sPar i j f env st = .ok (.nx ((env.set i (some v)).set j (some w))) st' := by unfold sPar; rw [bnd_ok h]; rfl
theorem if_f {c : Ev → M Bool} {f g : Ev → M Flw} {env : Ev} {st st' : Store} (h : c env st = .ok false st') : sIf c f g env st = g env st' := by unfold sIf; rw [bnd_ok h]; rfl
theorem if_t {c : Ev → M Bool} {f g : Ev → M Flw} {env : Ev} {st st' : Store} (h : c env st = .ok true st') : sIf c f g env st = f env st' := by unfold sIf; rw [bnd_ok h]; rfl
theorem asB_ok {f : Ev → M PV} {env : Ev} {st st' : Store} {b : Bool} (h : f env st = .ok (.bl b) st') : asB f env st = .ok b st' := by unfold asB; rw [bnd_ok h]; rfl
theorem lst_ok {vs : List PV} {st : Store} (h : vs.length ≤ 100) : lstV vs st = newC (.lst vs) st := by unfold lstV; rw [if_pos (by unfold sizeTop; omega)]
/-! ### there and back -/
def lmk (L : List (Rat × Rat)) : List Pc := L.map fun r => .mark r.1 r.2
theorem lmk_ok {s : Nat} {L : List (Rat × Rat)} (h : LadOk s L) : ScOk s (lmk L) := ⟨by unfold lmk; rw [List.length_map]; exact h.len, fun p hp => by
  obtain ⟨r, hr, rfl⟩ := List.mem_map.mp hp
  exact ⟨(h.sm r hr).1, (h.sm r hr).2, Rat.le_of_lt (h.pos r hr)⟩⟩
theorem marks_lmk : ∀ L : List (Rat × Rat), marksOf (lmk L) = L
  | [] => rfl
  | r :: L => by
    have e : marksOf (lmk (r :: L)) = r :: marksOf (lmk L) := rfl
    rw [e, marks_lmk L]
theorem strs_lmk : ∀ L : List (Rat × Rat), strsOf (lmk L) = []
  | [] => rfl
  | r :: L => strs_lmk L
theorem totAt_asc : ∀ {L : List (Rat × Rat)}, Asc (L.map (·.1)) → ∀ r ∈ L, totAt L r.1 = r.2
  | [], _, r, h => by simp at h
  | x :: L, ha, r, hr => by
    have ha' := List.pairwise_cons.mp (show (x.1 :: L.map (·.1)).Pairwise (· < ·) from ha)
    have hnot : ∀ y ∈ L, y.1 ≠ x.1 := fun y hy e => by
      have := ha'.1 y.1 (List.mem_map.mpr ⟨y, hy, rfl⟩)
      rw [e] at this
      exact absurd this Rat.lt_irrefl
    rcases List.mem_cons.mp hr with e | e
    · subst e
      unfold totAt
      have : (L.filter fun x => decide (x.1 = r.1)) = [] := by
        rw [List.filter_eq_nil_iff]
        intro y hy
        simpa using hnot y hy
      rw [List.filter_cons, if_pos (by simp), this]
      simp [sumR_one]
    · have ih := totAt_asc ha'.2 r e
      unfold totAt at ih ⊢
      rw [List.filter_cons, if_neg (by simpa using fun z => hnot r e z.symm)]
      exact ih
theorem markR_lmk {s : Nat} {L : List (Rat × Rat)} (h : LadOk s L) : markR (lmk L) = L := by
  unfold markR
  rw [marks_lmk, sortR_of_asc h.asc, List.filterMap_map]
  have : ∀ r ∈ L, ((fun m => if totAt L m = 0 then none else some (m, totAt L m)) ∘ fun x : Rat × Rat => x.1) r = some r := fun r hr => by
    simp only [Function.comp]
    rw [totAt_asc h.asc r hr, if_neg]
    have := h.pos r hr
    intro z
    rw [z] at this
    exact absurd this Rat.lt_irrefl
  rw [fm_congr this, List.filterMap_some]
theorem noStr_lmk (L : List (Rat × Rat)) : NoStr (lmk L) := by
  unfold NoStr
  rw [strs_lmk]
  intro j hj
  have : (sortR (endsOf [])).length = 0 := rfl
  rw [this] at hj
  omega
theorem eqP_same {x : Str} (neg : Bool) (st : Store) (h : PyData.strOk x = true) : eqP neg (.str x) (.str x) st = .ok (.bl (!neg)) st := eqP_eq (k := 0) neg st (pq_str h 0) (by decide)
/-- the marks of what is told are small -/
theorem markR_sm {S : List Pc} (h4 : S.length ≤ 4) (hS : ∀ p ∈ S, PcS p) : ∀ r ∈ markR S, Sm 39 r.1 ∧ Sm 39 r.2 := fun r hr => by
  have hm : ∀ x ∈ marksOf S, Sm 4 x.1 ∧ Sm 4 x.2 := fun x hx => by
    obtain ⟨p, hp, e⟩ := List.mem_filterMap.mp hx
    have := hS p hp
    cases p with
    | mark m p => cases e; exact this
    | str _ _ _ => cases e
  obtain ⟨m, hm1, e⟩ := List.mem_filterMap.mp hr
  have hmem := (sortR_mem _ _).mp hm1
  obtain ⟨x, hx, rfl⟩ := List.mem_map.mp hmem
  split at e
  · cases e
  · cases e
    refine ⟨(hm x hx).1.mono (by decide), ?_⟩
    have h1 := sm_sumR (((marksOf S).filter fun y => decide (y.1 = x.1)).map (·.2)) (s := 4) fun q hq => by
      obtain ⟨y, hy, rfl⟩ := List.mem_map.mp hq
      exact (hm y (List.mem_filter.mp hy).1).2
    refine Sm.mono h1 ?_
    rw [List.length_map]
    have := marksOf_len S
    have : ((marksOf S).filter fun y => decide (y.1 = x.1)).length ≤ 4 := Nat.le_trans (List.length_filter_le _ _) (by omega)
    omega
def e10 (d : Nat) (x1 x2 x3 x4 x5 x6 : Option PV) : Ev := [some (.loc d), x1, x2, x3, x4, x5, x6, none, none, none]
theorem t__law_good {st : Store} {d c l : Nat} {A : Int} (D : Dr st d c l A) (hA : A < 400000) : ∃ st', m__law_good [.loc d] st = .ok (.bl true) st' ∧ Dr st' d c l (A + 70) ∧ Kp d l st st' := by
  obtain ⟨L, st1, e1, ⟨hL, hL4⟩, D1, k1⟩ := t__law_ladder D (by omega)
  obtain ⟨S, st2, e2, ⟨hS, hS4, hPS⟩, D2, k2⟩ := t__law_score D1 (by omega)
  have hLsm : ∀ r ∈ L, Sm 39 r.1 ∧ Sm 39 r.2 := fun r hr => ⟨(hL.sm r hr).1.mono (by decide), (hL.sm r hr).2.mono (by decide)⟩
  have shL := sh_lad hL.len hLsm
  have shM := sh_marks hL.len hLsm
  have p1 : sPar 1 2 (aCons (xCallN 2 m__law_ladder (aCons (xVar 0) (aCons (xC (.int (4))) aNil))) (aCons (xCallN 2 m__law_score (aCons (xVar 0) (aCons (xC (.int (4))) aNil))) aNil)) (e10 d none none none none none none) st = .ok (.nx (e10 d (some (ladV L)) (some (scV S)) none none none none)) st2 := by
    exact par_ok (ladV L) (scV S) (aCons_ok (call_ok (aCons_ok (xv rfl _) (aCons_ok rfl rfl)) e1 rfl) (aCons_ok (call_ok (aCons_ok (xv rfl _) (aCons_ok rfl rfl)) e2 rfl) rfl))
  -- the marks
  obtain ⟨st3, n, c3, g3, _, n3⟩ := lc_tup (xs := L.map rungV) (vs := [7, 8]) (g := tgTup 2 (tgCons (gSet 7) (tgCons (gSet 8) tgNil))) (c := bYes) (e := xA tupV (aCons (xC (.str "mark")) (aCons (xVar 7) (aCons (xVar 8) aNil)))) (env := e10 d (some (ladV L)) (some (scV S)) none none none none) (fi := xIt (xVar 1)) (st := st2) (st0 := st2)
    (fun v => match v with
      | .tup [a, b] => some (.tup [.str "mark", a, b])
      | _ => none) (by simp [xIt, bnd, xVar, e10, itV, ladV, Mi.ret]) (Gr.refl _) (fun x st' hx _ => by
    obtain ⟨r, hr, rfl⟩ := List.mem_map.mp hx
    exact ⟨[some (.loc d), some (ladV L), some (scV S), none, none, none, none, some (frac r.1), some (frac r.2), none], true, st', rfl, rfl, Gr.refl _, (fun z => by cases z), fun _ => ⟨_, st', by simp [xA, aCons, aNil, bnd, xC, xVar, Mi.ret, tupV, sizeTop], Gr.refl _, rfl⟩⟩) (by rw [List.length_map]; have := hL.len; omega)
  have e3 : (L.map rungV).filterMap (fun v => match v with
      | .tup [a, b] => some (.tup [.str "mark", a, b])
      | _ => none) = (lmk L).map pcV := by
    unfold lmk
    rw [List.map_map]
    exact fm_some L rungV _ (fun r => pcV (.mark r.1 r.2)) fun r => rfl
  rw [e3] at n3
  have p2 : sAsg (xA tupleV (aCons (xLc fu [7, 8] (xIt (xVar 1)) (tgTup 2 (tgCons (gSet 7) (tgCons (gSet 8) tgNil))) bYes (xA tupV (aCons (xC (.str "mark")) (aCons (xVar 7) (aCons (xVar 8) aNil))))) aNil)) (gSet 3) (e10 d (some (ladV L)) (some (scV S)) none none none none) st2 = .ok (.nx (e10 d (some (ladV L)) (some (scV S)) (some (scV (lmk L))) none none none)) st3 := by
    refine asg_ok (xA_ok (aCons_ok c3 rfl) ?_)
    unfold tupleV
    dsimp only
    rw [gl n3]
    rfl
  -- repr of what is told, of what is due
  obtain ⟨st4, e4, g4⟩ := t_as_score st3 hL (by decide)
  obtain ⟨st5, e5, g5⟩ := t_need_ladder st4 hL (by decide)
  have g6 := Gr.new st5 (.lst [scV (lmk L), ladV L])
  have n6 := at_new st5 (.lst [scV (lmk L), ladV L])
  have new6 : newC (.lst [scV (lmk L), ladV L]) st5 = .ok (.loc st5.length) (st5 ++ [.lst [scV (lmk L), ladV L]]) := rfl
  generalize hs6 : st5 ++ [Cell.lst [scV (lmk L), ladV L]] = st6 at *
  have sh2 : ∀ v ∈ [scV (lmk L), ladV L], Sh 3 v := fun v hv => by
    simp only [List.mem_cons, List.not_mem_nil, or_false] at hv
    rcases hv with e | e <;> rw [e]
    · exact shM
    · exact shL
  have r6 := repr_ok n6 (by simp) sh2
  have g7 := Gr.new st6 (.lst [scV (lmk L), ladV L])
  have n7 := at_new st6 (.lst [scV (lmk L), ladV L])
  have new7 : newC (.lst [scV (lmk L), ladV L]) st6 = .ok (.loc st6.length) (st6 ++ [.lst [scV (lmk L), ladV L]]) := rfl
  generalize hs7 : st6 ++ [Cell.lst [scV (lmk L), ladV L]] = st7 at *
  have r7 := repr_ok n7 (by simp) sh2
  have p3 : sIf (asB (x2 (eqP true) (xA reprV (aCons (xA lstV (aCons (xCallN 1 m_as_score (aCons (xVar 1) aNil)) (aCons (xCallN 1 m_need_ladder (aCons (xVar 1) aNil)) aNil))) aNil)) (xA reprV (aCons (xA lstV (aCons (xVar 3) (aCons (xVar 1) aNil))) aNil)))) (sRet (xC (.bl false))) sNop (e10 d (some (ladV L)) (some (scV S)) (some (scV (lmk L))) none none none) st3 = .ok (.nx (e10 d (some (ladV L)) (some (scV S)) (some (scV (lmk L))) none none none)) st7 := by
    have a1 : xA lstV (aCons (xCallN 1 m_as_score (aCons (xVar 1) aNil)) (aCons (xCallN 1 m_need_ladder (aCons (xVar 1) aNil)) aNil)) (e10 d (some (ladV L)) (some (scV S)) (some (scV (lmk L))) none none none) st3 = .ok (.loc st5.length) st6 :=
      xA_ok (aCons_ok (call_ok (aCons_ok (xv rfl _) rfl) e4 rfl) (aCons_ok (call_ok (aCons_ok (xv rfl _) rfl) e5 rfl) rfl)) ((lst_ok (by simp)).trans new6)
    have a2 : xA lstV (aCons (xVar 3) (aCons (xVar 1) aNil)) (e10 d (some (ladV L)) (some (scV S)) (some (scV (lmk L))) none none none) st6 = .ok (.loc st6.length) st7 :=
      xA_ok (aCons_ok (xv rfl _) (aCons_ok (xv rfl _) rfl)) ((lst_ok (by simp)).trans new7)
    have b1 := xA_ok (o := reprV) (aCons_ok (g := aNil) a1 rfl) r6.1
    have b2 := xA_ok (o := reprV) (aCons_ok (g := aNil) a2 rfl) r7.1
    have t : asB (x2 (eqP true) (xA reprV (aCons (xA lstV (aCons (xCallN 1 m_as_score (aCons (xVar 1) aNil)) (aCons (xCallN 1 m_need_ladder (aCons (xVar 1) aNil)) aNil))) aNil)) (xA reprV (aCons (xA lstV (aCons (xVar 3) (aCons (xVar 1) aNil))) aNil))) (e10 d (some (ladV L)) (some (scV S)) (some (scV (lmk L))) none none none) st3 = .ok false st7 := by
      exact asB_ok ((x2_ok b1 b2).trans (eqP_same true st7 r6.2))
    exact if_f t
  -- the plain score by the law
  obtain ⟨T, ⟨st8, e8, g8⟩, hT, hTl⟩ := t__law_plain st7 hS (by decide)
  have hml := markR_len S
  generalize hvs : (markR S).map mkV ++ T.map spV = vs at *
  have hvl : vs.length < 1000 := by rw [← hvs]; simp; omega
  have p4 : sPar 4 5 (aCons (xCallN 1 m__law_plain (aCons (xVar 2) aNil)) (aCons (xC .non) aNil)) (e10 d (some (ladV L)) (some (scV S)) (some (scV (lmk L))) none none none) st7 = .ok (.nx (e10 d (some (ladV L)) (some (scV S)) (some (scV (lmk L))) (some (.tup vs)) (some .non) none)) st8 := by
    exact par_ok (.tup vs) .non (aCons_ok (call_ok (aCons_ok (xv rfl _) rfl) e8 rfl) (aCons_ok rfl rfl))
  have hcase : ∀ v ∈ vs, (∃ x ∈ markR S, v = mkV x) ∨ ∃ x ∈ T, v = spV x := fun v hv => by
    rw [← hvs] at hv
    rcases List.mem_append.mp hv with z | z
    · obtain ⟨x, hx, rfl⟩ := List.mem_map.mp z
      exact .inl ⟨x, hx, rfl⟩
    · obtain ⟨x, hx, rfl⟩ := List.mem_map.mp z
      exact .inr ⟨x, hx, rfl⟩
  -- are there stretches
  obtain ⟨st9, m, c9, g9, _, n9⟩ := lc_tup (xs := vs) (vs := [9]) (g := gSet 9) (c := asB (x2 (eqP false) (x2 ixA (xVar 9) (xC (.int (0)))) (xC (.str "stretch")))) (e := xC (.int (1))) (env := e10 d (some (ladV L)) (some (scV S)) (some (scV (lmk L))) (some (.tup vs)) (some .non) none) (fi := xIt (xVar 4)) (st := st8) (st0 := st8)
    (fun v => if isStr v = true then some (.int 1) else none) (by simp [xIt, bnd, xVar, e10, itV, Mi.ret]) (Gr.refl _) (fun v st' hv _ => by
    refine ⟨[some (.loc d), some (ladV L), some (scV S), some (scV (lmk L)), some (.tup vs), some .non, none, none, none, some v], isStr v, st', rfl, ?_, Gr.refl _, fun hb => by rw [hb]; rfl, fun hb => ⟨.int 1, st', rfl, Gr.refl _, by rw [hb]; rfl⟩⟩
    rcases hcase v hv with ⟨x, _, rfl⟩ | ⟨x, _, rfl⟩
    · have a0 : ixA (mkV x) (.int 0) st' = .ok (.str "mark") st' := rfl
      simp [asB, x2, xVar, xC, bnd, Mi.ret, a0, eq_ms, isStr_mk, toB]
    · have a0 : ixA (spV x) (.int 0) st' = .ok (.str "stretch") st' := rfl
      simp [asB, x2, xVar, xC, bnd, Mi.ret, a0, eq_ss, isStr_sp, toB]) (by omega)
  have e9 : vs.filterMap (fun v => if isStr v = true then some (PV.int 1) else none) = T.map fun _ => .int 1 := by
    rw [← hvs, List.filterMap_append]
    have h1 : ((markR S).map mkV).filterMap (fun v => if isStr v = true then some (PV.int 1) else none) = [] := by
      rw [List.filterMap_map, List.filterMap_eq_nil_iff]
      intro x _
      simp [isStr_mk]
    rw [h1, List.nil_append]
    exact fm_some T spV _ (fun _ => .int 1) fun x => by rw [isStr_sp]; rfl
  rw [e9] at n9
  have g10 := Gr.new st9 (.lst [])
  have n10 := at_new st9 (.lst [])
  have new10 : newC (.lst []) st9 = .ok (.loc st9.length) (st9 ++ [.lst []]) := rfl
  generalize hs10 : st9 ++ [Cell.lst []] = st10 at *
  have n9' := g10.at n9
  have a10 : xA lstV aNil (e10 d (some (ladV L)) (some (scV S)) (some (scV (lmk L))) (some (.tup vs)) (some .non) none) st9 = .ok (.loc st9.length) st10 := xA_ok rfl ((lst_ok (by simp)).trans new10)
  have pqs : ∀ x ∈ T.map (fun _ => PV.int 1), Pq 0 x := fun x hx => by
    obtain ⟨y, _, rfl⟩ := List.mem_map.mp hx
    exact pq_int 1 0
  have hll := eqP_ll (k := 0) false n9' n10 pqs (by simp) (by decide)
  -- what is due
  have main : ∀ (due : PV) (st11 : Store), Gr st10 st11 → Sh 3 due → (∀ st, Ok (m_ladder_of [scV S] st) st due) → ∃ st', (sSeq (sAsg (xA lstV (aCons (xCallN 1 m_ladder_of (aCons (xVar 2) aNil)) (aCons (xCallN 1 m_ladder_of (aCons (xCallN 1 m_as_score (aCons (xVar 1) aNil)) aNil)) (aCons (xCallN 1 m_ladder_of (aCons (xVar 2) aNil)) aNil)))) (gSet 6))
      (sRet (x2 (eqP false) (xA reprV (aCons (xVar 6) aNil)) (xA reprV (aCons (xA lstV (aCons (xVar 5) (aCons (xVar 1) (aCons (xVar 5) aNil)))) aNil))))) (e10 d (some (ladV L)) (some (scV S)) (some (scV (lmk L))) (some (.tup vs)) (some due) none) st11 = .ok (.rt (.bl true)) st' ∧ Gr st11 st' := by
    intro due st11 _ hsh hlo
    obtain ⟨sa, ea, ga⟩ := hlo st11
    obtain ⟨sb, eb, gb⟩ := t_as_score sa hL (by decide)
    obtain ⟨sc, ec, gc⟩ := (t_ladder_of sb (lmk_ok hL) (by decide)).1 (noStr_lmk L)
    rw [markR_lmk hL] at ec
    obtain ⟨sd, ed, gd⟩ := hlo sc
    have ge := Gr.new sd (.lst [due, ladV L, due])
    have ne := at_new sd (.lst [due, ladV L, due])
    have newe : newC (.lst [due, ladV L, due]) sd = .ok (.loc sd.length) (sd ++ [.lst [due, ladV L, due]]) := rfl
    generalize hse : sd ++ [Cell.lst [due, ladV L, due]] = se at *
    have gf := Gr.new se (.lst [due, ladV L, due])
    have nf := at_new se (.lst [due, ladV L, due])
    have newf : newC (.lst [due, ladV L, due]) se = .ok (.loc se.length) (se ++ [.lst [due, ladV L, due]]) := rfl
    generalize hsf : se ++ [Cell.lst [due, ladV L, due]] = sf at *
    have sh3 : ∀ v ∈ [due, ladV L, due], Sh 3 v := fun v hv => by
      simp only [List.mem_cons, List.not_mem_nil, or_false] at hv
      rcases hv with e | e | e <;> rw [e]
      · exact hsh
      · exact shL
      · exact hsh
    have re := repr_ok ne (by simp) sh3
    have rf := repr_ok nf (by simp) sh3
    have q1 : xA lstV (aCons (xCallN 1 m_ladder_of (aCons (xVar 2) aNil)) (aCons (xCallN 1 m_ladder_of (aCons (xCallN 1 m_as_score (aCons (xVar 1) aNil)) aNil)) (aCons (xCallN 1 m_ladder_of (aCons (xVar 2) aNil)) aNil))) (e10 d (some (ladV L)) (some (scV S)) (some (scV (lmk L))) (some (.tup vs)) (some due) none) st11 = .ok (.loc sd.length) se :=
      xA_ok (aCons_ok (call_ok (aCons_ok (xv rfl _) rfl) ea rfl) (aCons_ok (call_ok (aCons_ok (call_ok (aCons_ok (xv rfl _) rfl) eb rfl) rfl) ec rfl) (aCons_ok (call_ok (aCons_ok (xv rfl _) rfl) ed rfl) rfl))) ((lst_ok (by simp)).trans newe)
    have q2 : xA lstV (aCons (xVar 5) (aCons (xVar 1) (aCons (xVar 5) aNil))) (e10 d (some (ladV L)) (some (scV S)) (some (scV (lmk L))) (some (.tup vs)) (some due) (some (.loc sd.length))) se = .ok (.loc se.length) sf :=
      xA_ok (aCons_ok (xv rfl _) (aCons_ok (xv rfl _) (aCons_ok (xv rfl _) rfl))) ((lst_ok (by simp)).trans newf)
    refine ⟨sf, ?_, ((((ga.trans gb).trans gc).trans gd).trans ge).trans gf⟩
    rw [seq_nx (asg_ok q1)]
    show sRet _ (e10 d (some (ladV L)) (some (scV S)) (some (scV (lmk L))) (some (.tup vs)) (some due) (some (.loc sd.length))) se = _
    have b1 : xA reprV (aCons (xVar 6) aNil) (e10 d (some (ladV L)) (some (scV S)) (some (scV (lmk L))) (some (.tup vs)) (some due) (some (.loc sd.length))) se = .ok (.str (shown [due, ladV L, due])) se := xA_ok (aCons_ok (xv rfl _) rfl) re.1
    have b2 := xA_ok (o := reprV) (aCons_ok (g := aNil) q2 rfl) rf.1
    exact ret_ok ((x2_ok b1 b2).trans (eqP_same false sf re.2))
  have gAll := ((((((g3.trans g4).trans g5).trans g6).trans g7).trans g8).trans g9).trans g10
  have fin : ∀ (due : PV) (st11 : Store), Gr st10 st11 → Sh 3 due → (∀ st, Ok (m_ladder_of [scV S] st) st due) → sIf (asB (x2 (eqP false) (xLc fu [9] (xIt (xVar 4)) (gSet 9) (asB (x2 (eqP false) (x2 ixA (xVar 9) (xC (.int (0)))) (xC (.str "stretch")))) (xC (.int (1)))) (xA lstV aNil)))
      (sAsg (xA tupleV (aCons (xLc fu [9] (xIt (xVar 4)) (gSet 9) bYes (xSl (xVar 9) (oSome (xC (.int (1)))) oNone)) aNil)) (gSet 5))
      sNop (e10 d (some (ladV L)) (some (scV S)) (some (scV (lmk L))) (some (.tup vs)) (some .non) none) st8 = .ok (.nx (e10 d (some (ladV L)) (some (scV S)) (some (scV (lmk L))) (some (.tup vs)) (some due) none)) st11 →
      ∃ st', m__law_good [.loc d] st = .ok (.bl true) st' ∧ Dr st' d c l (A + 70) ∧ Kp d l st st' := by
    intro due st11 g11 hsh hlo hif
    obtain ⟨st', e, g⟩ := main due st11 g11 hsh hlo
    have gg := (gAll.trans g11).trans g
    refine ⟨st', run_rt ?_, (D2.gr gg).mono (by omega), (k1.trans k2).trans (gr_kp gg d l)⟩
    show sSeq _ _ (e10 d none none none none none none) st = _
    rw [seq_nx p1, seq_nx p2, seq_nx p3, seq_nx p4, seq_nx hif]
    exact e
  by_cases hno : NoStr S
  · have hTn := hT.mpr hno
    subst hTn
    have hvs' : vs = (markR S).map mkV := by rw [← hvs]; simp
    have tst := asB_ok ((x2_ok c9 a10).trans (hll.1 rfl))
    obtain ⟨st11, k, c11, g11, _, n11⟩ := lc_tup (xs := vs) (vs := [9]) (g := gSet 9) (c := bYes) (e := xSl (xVar 9) (oSome (xC (.int (1)))) oNone) (env := e10 d (some (ladV L)) (some (scV S)) (some (scV (lmk L))) (some (.tup vs)) (some .non) none) (fi := xIt (xVar 4)) (st := st10) (st0 := st10)
      (fun v => match v with
        | .tup [_, a, b] => some (.tup [a, b])
        | _ => none) (by simp [xIt, bnd, xVar, e10, itV, Mi.ret]) (Gr.refl _) (fun v st' hv _ => by
      rw [hvs'] at hv
      obtain ⟨x, _, rfl⟩ := List.mem_map.mp hv
      have cut : sliceV (mkV x) (some 1) none = Mi.ret (rungV x) := rfl
      exact ⟨[some (.loc d), some (ladV L), some (scV S), some (scV (lmk L)), some (.tup vs), some .non, none, none, none, some (mkV x)], true, st', rfl, rfl, Gr.refl _, (fun z => by cases z), fun _ => ⟨rungV x, st', by simp [xSl, oSome, oNone, xVar, xC, bnd, Mi.ret, toI, cut], Gr.refl _, rfl⟩⟩) (by omega)
    have e11 : vs.filterMap (fun v => match v with
        | .tup [_, a, b] => some (.tup [a, b])
        | _ => none) = (markR S).map rungV := by
      rw [hvs']
      exact fm_some (markR S) mkV _ rungV fun x => rfl
    rw [e11] at n11
    have hm10 : (markR S).length ≤ 10 := by omega
    refine fin (ladV (markR S)) st11 g11 (sh_lad hm10 (markR_sm hS4 hPS)) (fun st => (t_ladder_of st hS (by decide)).1 hno) ?_
    rw [if_t tst]
    refine asg_ok (xA_ok (aCons_ok c11 rfl) ?_)
    unfold tupleV
    dsimp only
    rw [gl n11]
    rfl
  · have hTn : T ≠ [] := fun z => hno (hT.mp z)
    have tst := asB_ok ((x2_ok c9 a10).trans (hll.2 (by simpa using hTn)))
    refine fin .non st10 (Gr.refl _) (Sh.at (.inl rfl) _) (fun st => (t_ladder_of st hS (by decide)).2 hno) ?_
    rw [if_f tst]
    rfl
end Lw
namespace Lw
open PySem PySem.Spec L2 Mi
theorem t_begin (st0 : Store) (ns : List Int) (hn : ns.length ≤ 63) : ∃ st d c l, m__law_begin [.kl (ns.map PV.int)] st0 = .ok (.loc d) st ∧ Dr st d c l 0 ∧ Gr st0 st ∧ st0.length ≤ d ∧ st0.length ≤ l := by
  -- the cells
  obtain ⟨st1, c, cells, hcell, hc, hpos, hfew, hg0⟩ : ∃ (st1 : Store) (c : Nat) (cells : List Int), vIf (asB (x2 (eqP true) (xVar 0) (xA lstV aNil))) (xA listA (aCons (xVar 0) aNil)) (xA lstV (aCons (xC (.int (0))) aNil)) [some (.kl (ns.map PV.int)), none, none] st0 = .ok (.loc c) st1 ∧ st1[c]? = some (.lst (cells.map PV.int)) ∧ 0 < cells.length ∧ cells.length ≤ 63 ∧ Gr st0 st1 := by
    have e := eq_kl ns st0.length (st0 ++ [.lst []]) (at_new _ _)
    have lv : ∀ xs : List PV, xs.length ≤ 100 → lstV xs st0 = .ok (.loc st0.length) (st0 ++ [.lst xs]) := fun xs h => lst_ok h
    have hlen1 : (st0 ++ [Cell.lst []]).length = st0.length + 1 := by simp
    cases ns with
    | nil =>
      refine ⟨(st0 ++ [.lst []]) ++ [.lst [.int 0]], st0.length + 1, [0], ?_, ?_, by decide, by decide, (Gr.new _ _).trans (Gr.new _ _)⟩
      · have l2 : lstV [.int 0] (st0 ++ [.lst []]) = .ok (.loc (st0.length + 1)) ((st0 ++ [.lst []]) ++ [.lst [.int 0]]) := by
          rw [lst_ok (by simp)]
          unfold newC
          rw [hlen1]
        simp only [List.map_nil, List.isEmpty_nil, Bool.not_true] at e
        simp [vIf, asB, x2, xVar, xA, aNil, aCons, bnd, Mi.ret, lv [] (by simp), e, toB, xC, l2]
      · have := at_new (st0 ++ [.lst []]) (.lst [.int 0])
        rw [hlen1] at this
        exact this
    | cons n ns =>
      refine ⟨(st0 ++ [.lst []]) ++ [.lst ((n :: ns).map PV.int)], st0.length + 1, n :: ns, ?_, ?_, by simp, hn, (Gr.new _ _).trans (Gr.new _ _)⟩
      · have l2 : listA [.kl ((n :: ns).map PV.int)] (st0 ++ [.lst []]) = .ok (.loc (st0.length + 1)) ((st0 ++ [.lst []]) ++ [.lst ((n :: ns).map PV.int)]) := by
          have : listA [.kl ((n :: ns).map PV.int)] (st0 ++ [.lst []]) = newC (.lst ((n :: ns).map PV.int)) (st0 ++ [.lst []]) := rfl
          rw [this]
          unfold newC
          rw [hlen1]
        have he : (n :: ns).isEmpty = false := rfl
        rw [he] at e
        simp only [Bool.not_false] at e
        simp only [vIf, asB, x2, xVar, xA, aNil, aCons, bnd, Mi.ret, lv [] (by simp), e, toB, List.getElem?_cons_zero, l2, if_true]
      · have := at_new (st0 ++ [.lst []]) (.lst ((n :: ns).map PV.int))
        rw [hlen1] at this
        exact this
  have hlt : c < st1.length := (List.getElem?_eq_some_iff.mp hc).1
  -- the lefts
  let Iv : Nat → List PV → Store → Prop := fun i acc st' => st' = st1 ∧ ∃ ys : List Int, acc = ys.map PV.int ∧ ys.length = i
  have main := comp_inv (nx := nxL c) (g := gSet 2) (c := bYes) (e := vIf (asB (x2 geV (xVar 2) (x2 powV (xC (.int (10))) (xC (.int (18)))))) (xVar 2) (xC (.int (0)))) (n := cells.length) (vf := fun i => .int ((cells[i]?).getD 0)) (env := [some (.kl (ns.map PV.int)), some (.loc c), none]) Iv
    (fun i acc st' hi h => by
      obtain ⟨rfl, _⟩ := h
      unfold nxL
      rw [getL_lst hc]
      simp [hi])
    (fun acc st' h => by
      obtain ⟨rfl, _⟩ := h
      unfold nxL
      rw [getL_lst hc]
      simp)
    (fun i acc st' hi h => by
      obtain ⟨rfl, ys, rfl, hy⟩ := h
      refine ⟨[some (.kl (ns.map PV.int)), some (.loc c), some (.int ((cells[i]?).getD 0))], st', true, st', rfl, rfl, (fun z => by cases z), fun _ => ?_⟩
      have hz : (ys.map PV.int).length < sizeTop := by rw [List.length_map, hy]; unfold sizeTop; omega
      by_cases hb : (1000000000000000000 : Int) ≤ (cells[i]?).getD 0
      · refine ⟨.int ((cells[i]?).getD 0), st', ?_, hz, rfl, ys ++ [(cells[i]?).getD 0], by simp, by simp [hy]⟩
        simp [vIf, asB, x2, xVar, xC, bnd, Mi.ret, geV, cmpI, powV, toB]
        rw [if_pos hb]
        rfl
      · refine ⟨.int 0, st', ?_, hz, rfl, ys ++ [0], by simp, by simp [hy]⟩
        simp [vIf, asB, x2, xVar, xC, bnd, Mi.ret, geV, cmpI, powV, toB]
        rw [if_neg hb]
        rfl)
  obtain ⟨acc, st', e1, hst, lefts, rfl, hlen⟩ := main fu 0 [] st1 (Nat.zero_le _) (by unfold fu; omega) ⟨rfl, [], rfl, rfl⟩
  rw [hst] at e1
  have l1 : (st1 ++ [Cell.lst (lefts.map PV.int)]).length = st1.length + 1 := by rw [List.length_append]; rfl
  have hge := hg0.len
  refine ⟨(st1 ++ [.lst (lefts.map PV.int)]) ++ [.dk (dkv c st1.length 0 (.int 0))], st1.length + 1, c, st1.length, ?_, ⟨cells, lefts, 0, .int 0, ?_, Int.le_refl 0⟩, (hg0.trans (Gr.new _ _)).trans (Gr.new _ _), by omega, by omega⟩
  · have hmk : xLc fu [2] (xIt (xVar 1)) (gSet 2) bYes (vIf (asB (x2 geV (xVar 2) (x2 powV (xC (.int (10))) (xC (.int (18)))))) (xVar 2) (xC (.int (0)))) [some (.kl (ns.map PV.int)), some (.loc c), none] st1 = .ok (.loc st1.length) (st1 ++ [.lst (lefts.map PV.int)]) := by
      simp [xLc, xIt, xVar, bnd, itV, getL_lst hc, wipeE]
      exact e1
    have hdk : dispV [(.str "cells", .loc c), (.str "lefts", .loc st1.length), (.str "at", .int 0), (.str "room", .int 0)] (st1 ++ [Cell.lst (lefts.map PV.int)]) = .ok (.loc (st1.length + 1)) ((st1 ++ [Cell.lst (lefts.map PV.int)]) ++ [Cell.dk (dkv c st1.length 0 (.int 0))]) := by
      unfold dispV
      simp only [kvsP, keyK]
      rw [if_pos (by simp)]
      unfold newC
      rw [l1]
      rfl
    simp [m__law_begin, runB, sSeq, sAsg, bnd, hcell, gSet, Mi.ret, thenS, sRet, xDisp, pCons, pNil, xC, xVar, hmk, hdk]
  · refine ⟨?_, ?_, ?_, by omega, by omega, by omega, hlen, hpos, hfew, by decide⟩
    · rw [List.getElem?_append_right (by omega), l1]
      simp
    · rw [List.getElem?_append_left (by omega), List.getElem?_append_left hlt]
      exact hc
    · rw [List.getElem?_append_left (by omega), List.getElem?_append_right (Nat.le_refl _)]
      simp
end Lw

namespace Lw
open PySem PySem.Spec L2 Mi
/-! ### what is refused -/
def Exn (m : Res PV) (c f : Str) (v : PV) (st : Store) : Prop := ∃ env, m = .exc c f v env st
abbrev fr (a b : Int) : PV := .tup [.int a, .int b]
abbrev fineV : PV := .tup [fr 0 1, fr 1 1]
abbrev lowV : PV := .tup [fr (-1) 1, fr 1 1]
def ladK (n : Nat) : PV := .tup ((List.range n).map fun k => .tup [fr (k : Nat) 1, fr 1 1])
abbrev swapV : PV := .tup [fr 1 1, fr (-1) 1]
/-- both refuse it, with this number -/
def Ref (st : Store) (x : PV) : Prop := ∃ odd num, x = .tup [odd, num] ∧ Pq 0 num ∧ Exn (m_need_ladder [odd] st) "BadLadder" "number" num st ∧ Exn (m_as_score [odd] st) "BadLadder" "number" num st
theorem ref_a (st : Store) : ∀ x ∈ ([.tup [.non, .non], .tup [ladK 11, .non], .tup [.tup [fineV, lowV], .int 1], .tup [.tup [fineV, fineV], .int 1], .tup [.tup [.tup [fr 0 1, fr 0 1]], .int 0], .tup [.tup [.non], .int 0],
    .tup [.tup [lowV, fineV, swapV], .int 2], .tup [.tup [fr 0 1], .int 0], .tup [.tup [.tup [fr 2 2, fr 1 1]], .int 0]] : List PV), Ref st x := fun x hx => by
  simp only [List.mem_cons, List.not_mem_nil, or_false] at hx
  rcases hx with h | h | h | h | h | h | h | h | h <;> subst h
  · exact ⟨_, _, rfl, pq_non 0, ⟨_, rfl⟩, ⟨_, rfl⟩⟩
  · exact ⟨_, _, rfl, pq_non 0, ⟨_, rfl⟩, ⟨_, rfl⟩⟩
  · exact ⟨_, _, rfl, pq_int _ 0, ⟨_, rfl⟩, ⟨_, rfl⟩⟩
  · exact ⟨_, _, rfl, pq_int _ 0, ⟨_, rfl⟩, ⟨_, rfl⟩⟩
  · exact ⟨_, _, rfl, pq_int _ 0, ⟨_, rfl⟩, ⟨_, rfl⟩⟩
  · exact ⟨_, _, rfl, pq_int _ 0, ⟨_, rfl⟩, ⟨_, rfl⟩⟩
  · exact ⟨_, _, rfl, pq_int _ 0, ⟨_, rfl⟩, ⟨_, rfl⟩⟩
  · exact ⟨_, _, rfl, pq_int _ 0, ⟨_, rfl⟩, ⟨_, rfl⟩⟩
  · exact ⟨_, _, rfl, pq_int _ 0, ⟨_, rfl⟩, ⟨_, rfl⟩⟩
theorem isi_lst {st : Store} {n : Nat} {xs : List PV} (h : st[n]? = some (.lst xs)) : isiV "tuple" (.loc n) st = .ok (.bl false) st := by
  unfold isiV tyN
  dsimp only
  rw [h]
  rfl
theorem row_lst {st : Store} {n : Nat} {xs : List PV} (h : st[n]? = some (.lst xs)) (v : PV) : m_is_row [.loc n, v] st = .ok (.bl false) st := by
  simp [m_is_row, runB, sRet, bnd, vAnd, asB, x1, xVar, isi_lst h, toB, Mi.ret]
theorem within_lst {st : Store} {n : Nat} {xs : List PV} (h : st[n]? = some (.lst xs)) (v w : PV) : m_is_row_within [.loc n, v, w] st = .ok (.bl false) st := by
  simp [m_is_row_within, runB, sRet, bnd, vAnd, asB, x1, xVar, isi_lst h, toB, Mi.ret]
theorem rung_lst {st : Store} {n : Nat} {xs : List PV} (h : st[n]? = some (.lst xs)) : m_is_rung [.loc n] st = .ok (.bl false) st := by
  simp [m_is_rung, runB, sRet, bnd, vAnd, asB, xCallN, aCons, aNil, xVar, xC, callM_ok (row_lst h (.int 2)), toB, Mi.ret]
theorem sure_exc {v w : PV} {st : Store} (h : Exn (m_sure_ladder [v] st) "BadLadder" "number" w st) : Exn (m_need_ladder [v] st) "BadLadder" "number" w st ∧ Exn (m_as_score [v] st) "BadLadder" "number" w st := by
  obtain ⟨env, h⟩ := h
  constructor
  · refine ⟨[], ?_⟩
    simp only [m_need_ladder, runB, sSeq, sEx, bnd, xCallN, aCons, aNil, xVar, Mi.ret, callM, h, List.map_cons, List.map_nil, List.cons_append, List.nil_append, List.getElem?_cons_zero, List.length_cons, List.length_nil, if_true]
  · refine ⟨[], ?_⟩
    simp only [m_as_score, runB, sRet, xA, xLc, xIt, bnd, xCallN, aCons, aNil, xVar, Mi.ret, callM, h, List.map_cons, List.map_nil, List.cons_append, List.nil_append, List.getElem?_cons_zero, List.length_cons, List.length_nil, if_true]
theorem ref_l {st : Store} {a : Nat} {xs : List PV} (h : st[a]? = some (.lst xs)) : Ref st (.tup [.loc a, .non]) := by
  have e : Exn (m_sure_ladder [.loc a] st) "BadLadder" "number" .non st := by
    refine ⟨[], ?_⟩
    simp [m_sure_ladder, runB, sSeq, sIf, bNot, xTru, xCallN, aCons, aNil, xVar, xC, Mi.ret, callM_ok (within_lst h (.int 0) (.int 10)), truV, sRaise, bnd]
  exact ⟨_, _, rfl, pq_non 0, (sure_exc e).1, (sure_exc e).2⟩
theorem ref_ll {st : Store} {b : Nat} {xs : List PV} (h : st[b]? = some (.lst xs)) : Ref st (.tup [.tup [lowV, .loc b], .int 1]) := by
  have r0 : m_is_rung [lowV] st = .ok (.bl true) st := rfl
  have r1 := rung_lst h
  have w : m_wrong_rung [.tup [lowV, .loc b]] st = .ok (.int 1) st := by
    refine run_rt ?_
    show sSeq _ _ [some (.tup [lowV, .loc b]), none, none] st = _
    refine seq_rt ?_
    have hit : xRng enuI (aCons (xVar 0) aNil) [some (.tup [lowV, .loc b]), none, none] st = .ok (nxE (nxT [lowV, .loc b])) st := rfl
    unfold sFor
    rw [bnd_ok hit, show fu = 999998 + 1 + 1 from rfl]
    simp [loopF, stepL, nxE, nxT, bnd, tgTup, tgCons, tgNil, gSet, Mi.ret, sSeq, sIf, bNot, xTru, xCallN, aCons, aNil, xVar, callM_ok r0, callM_ok r1, truV, sNop, thenS, bAnd, asB, x2, gtV, cmpI, toB, xC, sRet]
  have e : Exn (m_sure_ladder [.tup [lowV, .loc b]] st) "BadLadder" "number" (.int 1) st := by
    have h1 : m_is_row_within [.tup [lowV, .loc b], .int 0, .int 10] st = .ok (.bl true) st := t_is_row_within [lowV, .loc b] 0 10 st
    refine ⟨[], ?_⟩
    simp [m_sure_ladder, runB, sSeq, sIf, sAsg, gSet, sNop, thenS, bNot, xTru, xCallN, aCons, aNil, xVar, xC, Mi.ret, callM_ok h1, callM_ok w, truV, sRaise, bnd, asB, x2, notN, isNonB, toB]
  exact ⟨_, _, rfl, pq_int _ 0, (sure_exc e).1, (sure_exc e).2⟩
/-! ### what is told by hand -/
theorem lo3 (st : Store) : Exn (m_ladder_of [.tup [.tup [.str "mark", fr 0 1, fr 1 1], .non]] st) "BadScore" "number" (.int 1) st := ⟨[], by with_unfolding_all rfl⟩
def L10 : List (Rat × Rat) := [(0, 1), (1, 1), (2, 1), (3, 1), (4, 1), (5, 1), (6, 1), (7, 1), (8, 1), (9, 1)]
theorem l10_v : ladV L10 = ladK 10 := rfl
theorem l10_ok : LadOk 10 L10 := ⟨by decide, by unfold Sm; decide +kernel, by decide +kernel, by unfold Asc; decide +kernel⟩
theorem need10 (st : Store) : Ok (m_need_ladder [ladK 10] st) st (ladK 10) := by
  have h := t_need_ladder st l10_ok (by decide)
  rw [l10_v] at h
  exact h
theorem eq10 (st : Store) : eqP true (ladK 10) (ladK 10) st = .ok (.bl false) st := rfl
def S1 : List Pc := [.str 0 1 1]
def S2 : List Pc := [.mark 2 0, .str 0 1 0]
def S3 : List Pc := [.mark 2 (1 / 2), .mark 2 (1 / 2)]
theorem s1_v : scV S1 = .tup [.tup [.str "stretch", fr 0 1, fr 1 1, fr 1 1]] := rfl
theorem s2_v : scV S2 = .tup [.tup [.str "mark", fr 2 1, fr 0 1], .tup [.str "stretch", fr 0 1, fr 1 1, fr 0 1]] := rfl
theorem s3_v : scV S3 = .tup [.tup [.str "mark", fr 2 1, fr 1 2], .tup [.str "mark", fr 2 1, fr 1 2]] := by
  have h1 : (1 / 2 : Rat).num = 1 := by decide +kernel
  have h2 : (1 / 2 : Rat).den = 2 := by decide +kernel
  have : frac (1 / 2) = fr 1 2 := by unfold frac; rw [h1, h2]; rfl
  simp only [scV, S3, pcV, List.map_cons, List.map_nil, this]
  rfl
theorem s1_ok : ScOk 10 S1 := ⟨by decide, fun p hp => by
  rw [List.mem_singleton.mp hp]
  unfold PcOk Sm
  decide +kernel⟩
theorem s2_ok : ScOk 10 S2 := ⟨by decide, fun p hp => by
  simp only [S2, List.mem_cons, List.not_mem_nil, or_false] at hp
  rcases hp with h | h <;> subst h <;> unfold PcOk Sm <;> decide +kernel⟩
theorem s3_ok : ScOk 10 S3 := ⟨by decide, fun p hp => by
  simp only [S3, List.mem_cons, List.not_mem_nil, or_false] at hp
  rcases hp with h | h <;> subst h <;> unfold PcOk Sm <;> decide +kernel⟩
theorem s1_no : ¬ NoStr S1 := by unfold NoStr NoPrice; decide +kernel
theorem s2_no : NoStr S2 := by unfold NoStr NoPrice; decide +kernel
theorem s3_no : NoStr S3 := by unfold NoStr NoPrice; decide +kernel
theorem s2_m : markR S2 = [] := by decide +kernel
theorem s3_m : markR S3 = [(2, 1)] := by decide +kernel
theorem lo_s1 (st : Store) : Ok (m_ladder_of [.tup [.tup [.str "stretch", fr 0 1, fr 1 1, fr 1 1]]] st) st .non := by
  rw [← s1_v]
  exact (t_ladder_of st s1_ok (by decide)).2 s1_no
theorem lo_s2 (st : Store) : Ok (m_ladder_of [.tup [.tup [.str "mark", fr 2 1, fr 0 1], .tup [.str "stretch", fr 0 1, fr 1 1, fr 0 1]]] st) st (.tup []) := by
  have h := (t_ladder_of st s2_ok (by decide)).1 s2_no
  rw [s2_v, s2_m] at h
  exact h
theorem lo_s3 (st : Store) : Ok (m_ladder_of [.tup [.tup [.str "mark", fr 2 1, fr 1 2], .tup [.str "mark", fr 2 1, fr 1 2]]] st) st (.tup [.tup [fr 2 1, fr 1 1]]) := by
  have h := (t_ladder_of st s3_ok (by decide)).1 s3_no
  rw [s3_v, s3_m] at h
  exact h
end Lw
namespace Lw
open PySem PySem.Spec L2 Mi
/-! ### what is heard -/
theorem heard_at {q : Str} {P : Addr} {g : Ev → M PV} {env ev : Ev} {st : Store} {cs : List HCl} {c w fl : Str} {v : PV} (h0 : st[0]? = some (.tb q P)) (h : g env st = .exc c fl v ev st) (hf : hFind cs c fl = some (some w)) : xHears 0 q P cs g env st = .ok (.tup [.str w, v]) st := by
  unfold xHears
  rw [h0]
  dsimp only
  rw [if_pos ⟨rfl, rfl⟩, h]
  unfold hTell
  dsimp only
  rw [hf]
  rfl
theorem call_exc {n : Nat} {g : List PV → M PV} {f : Ev → M (List PV)} {env : Ev} {st st1 : Store} {v : PV} {vs : List PV} {c fl : Str} (h1 : f env st = .ok vs st1) (h2 : Exn (g vs st1) c fl v st1) (hl : vs.length = n) : xCallN n g f env st = .exc c fl v env st1 := by
  obtain ⟨ev, h2⟩ := h2
  unfold xCallN
  rw [bnd_ok h1, if_pos hl]
  unfold callM
  rw [h2]
abbrev hrd (Pt : Addr) (g : Ev → M PV) : Ev → M PV := xHears 0 qT_law Pt cs__law_heard g
abbrev rowB (Pt : Addr) : Ev → M Flw := sSeq (sAsg (xA lstV (aCons (hrd Pt (xCallN 1 m_need_ladder (aCons (xVar 10) aNil))) (aCons (hrd Pt (xCallN 1 m_as_score (aCons (xVar 10) aNil))) aNil))) (gSet 7))
  (sIf (asB (x2 (eqP true) (xVar 7) (x2 mulV (xA lstV (aCons (xA tupV (aCons (xC (.str "ladder")) (aCons (xVar 6) aNil))) aNil)) (xC (.int (2))))))
  (sRet (xC (.bl false)))
  sNop)
/-- one row that both refuse -/
theorem row_ok {Pt : Addr} {st : Store} {x a b c d e f g h i j k l : _} (h0 : st[0]? = some (.tb qT_law Pt)) (hx : Ref st x) :
    ∃ h' k' g' st', bnd (tgTup 2 (tgCons (gSet 10) (tgCons (gSet 6) tgNil)) x [a, b, c, d, e, f, g, h, i, j, k, l]) (rowB Pt) st = .ok (.nx [a, b, c, d, e, f, g', h', i, j, k', l]) st' ∧ Gr st st' := by
  obtain ⟨odd, num, rfl, hq, e1, e2⟩ := hx
  refine ⟨some (.loc st.length), some odd, some num, ((st ++ [.lst [.tup [.str "ladder", num], .tup [.str "ladder", num]]]) ++ [.lst [.tup [.str "ladder", num]]]) ++ [.lst [.tup [.str "ladder", num], .tup [.str "ladder", num]]], ?_, ((Gr.new _ _).trans (Gr.new _ _)).trans (Gr.new _ _)⟩
  have tg : tgTup 2 (tgCons (gSet 10) (tgCons (gSet 6) tgNil)) (.tup [odd, num]) [a, b, c, d, e, f, g, h, i, j, k, l] st = .ok [a, b, c, d, e, f, some num, h, i, j, some odd, l] st := rfl
  rw [bnd_ok tg]
  have av : ∀ st, aCons (xVar 10) aNil [a, b, c, d, e, f, some num, h, i, j, some odd, l] st = .ok [odd] st := fun st => rfl
  have q1 := heard_at (q := qT_law) (w := "ladder") (cs := cs__law_heard) (g := xCallN 1 m_need_ladder (aCons (xVar 10) aNil)) h0 (call_exc (n := 1) (av st) e1 rfl) rfl
  have q2 := heard_at (q := qT_law) (w := "ladder") (cs := cs__law_heard) (g := xCallN 1 m_as_score (aCons (xVar 10) aNil)) h0 (call_exc (n := 1) (av st) e2 rfl) rfl
  have p0 : Pq 1 (.tup [.str "ladder", num]) := pq_tup fun y hy => by
    simp only [List.mem_cons, List.not_mem_nil, or_false] at hy
    rcases hy with z | z <;> subst z
    · exact pq_str (by decide +kernel) 0
    · exact hq
  show sSeq _ _ [a, b, c, d, e, f, some num, h, i, j, some odd, l] st = _
  generalize ht : (PV.tup [.str "ladder", num]) = t at *
  have n1 := at_new st (.lst [t, t])
  have g1 := Gr.new st (.lst [t, t])
  rw [seq_nx (asg_ok (xA_ok (aCons_ok q1 (aCons_ok q2 rfl)) (lst_ok (by simp))))]
  show sIf _ _ _ [a, b, c, d, e, f, some num, some (.loc st.length), i, j, some odd, l] (st ++ [.lst [t, t]]) = _
  generalize hs1 : st ++ [Cell.lst [t, t]] = st1 at *
  have n2 := at_new st1 (.lst [t])
  have g2 := Gr.new st1 (.lst [t])
  have c1 : xA lstV (aCons (xA tupV (aCons (xC (.str "ladder")) (aCons (xVar 6) aNil))) aNil) [a, b, c, d, e, f, some num, some (.loc st.length), i, j, some odd, l] st1 = .ok (.loc st1.length) (st1 ++ [.lst [t]]) := by
    rw [← ht]
    exact xA_ok (aCons_ok (v := .tup [.str "ladder", num]) rfl rfl) (lst_ok (by simp))
  generalize hs2 : st1 ++ [Cell.lst [t]] = st2 at *
  have n3 := at_new st2 (.lst [t, t])
  have g3 := Gr.new st2 (.lst [t, t])
  have m1 : mulV (.loc st1.length) (.int 2) st2 = .ok (.loc st2.length) (st2 ++ [.lst [t, t]]) := by
    unfold mulV
    dsimp only
    rw [gm n2]
    dsimp only
    rw [if_pos ⟨by decide, by decide, by unfold sizeTop; show 1 * 2 ≤ _; decide⟩]
    rfl
  generalize hs3 : st2 ++ [Cell.lst [t, t]] = st3 at *
  have hm : ∀ y ∈ [t, t], Pq 1 y := fun y hy => by
    simp only [List.mem_cons, List.not_mem_nil, or_false] at hy
    rcases hy with z | z <;> subst z <;> exact p0
  have eq1 := (eqP_ll true (g3.at (g2.at n1)) n3 hm hm (by decide)).1 rfl
  have c2 := x2_ok (o := eqP true) (fa := xVar 7) (env := [a, b, c, d, e, f, some num, some (.loc st.length), i, j, some odd, l]) (st := st1) rfl ((x2_ok (fb := xC (.int 2)) (b := .int 2) (st2 := st2) c1 rfl).trans m1)
  rw [if_f (asB_ok (c2.trans eq1))]
  rfl
/-- a list of rungs -/
theorem lad_lst {n : Nat} {env : Ev} {st : Store} (hn : n ≤ 20) (hl : 11 < env.length) : ∃ st' m, xLc fu [11] (xRng rng1 (aCons (xC (.int (n : Nat))) aNil)) (gSet 11) bYes (xA tupV (aCons (xA tupV (aCons (xVar 11) (aCons (xC (.int (1))) aNil))) (aCons (xA tupV (aCons (xC (.int (1))) (aCons (xC (.int (1))) aNil))) aNil))) env st = .ok (.loc m) st' ∧ Gr st st' ∧ st'[m]? = some (.lst ((List.range n).map fun k => .tup [fr (k : Nat) 1, fr 1 1])) := by
  have hr : xRng rng1 (aCons (xC (.int (n : Nat))) aNil) env st = .ok (nxR 0 n) st := by
    have h3 : -(2 ^ 62) ≤ (n : Int) ∧ (n : Int) < 2 ^ 62 := by omega
    have h4 : aCons (xC (.int (n : Nat))) aNil env st = .ok [PV.int (n : Nat)] st := rfl
    unfold xRng
    rw [bnd_ok h4]
    unfold rng1
    dsimp only
    rw [if_pos h3, Int.toNat_natCast]
    rfl
  obtain ⟨st', m, e1, g1, _, n1⟩ := lc_ok (vs := [11]) (g := gSet 11) (c := bYes) (e := xA tupV (aCons (xA tupV (aCons (xVar 11) (aCons (xC (.int (1))) aNil))) (aCons (xA tupV (aCons (xC (.int (1))) (aCons (xC (.int (1))) aNil))) aNil))) (env := env) (n := n) (vf := fun i => .int (0 + (i : Nat))) (fun k => some (PV.tup [fr (k : Nat) 1, fr 1 1])) hr (Gr.refl _)
    (fun st1 _ i hi => by simp [nxR, hi]) (fun st1 _ => by simp [nxR]) (fun i st1 hi _ => by
      refine ⟨(wipeE env [11]).set 11 (some (.int (0 + (i : Nat)))), true, st1, rfl, rfl, Gr.refl _, (fun z => by cases z), fun _ => ⟨.tup [fr (i : Nat) 1, fr 1 1], st1, ?_, Gr.refl _, rfl⟩⟩
      have a : ((wipeE env [11]).set 11 (some (.int (0 + (i : Nat)))))[11]? = some (some (.int (0 + (i : Nat)))) := by rw [List.getElem?_set_self (by rw [wipeE_len]; exact hl)]
      have z : (0 : Int) + (i : Nat) = (i : Nat) := by omega
      rw [z] at a ⊢
      exact xA_ok (aCons_ok (xA_ok (aCons_ok (xv a st1) rfl) rfl) rfl) rfl) (by omega)
  refine ⟨st', m, e1, g1, ?_⟩
  have hf : ∀ r : List Nat, r.filterMap (fun k => some (PV.tup [fr (k : Nat) 1, fr 1 1])) = r.map fun k => PV.tup [fr (k : Nat) 1, fr 1 1] := fun r => by
    induction r with
    | nil => rfl
    | cons x r ih => rw [List.filterMap_cons, List.map_cons, ih]
  rw [n1, hf]
end Lw
namespace Lw
open PySem PySem.Spec L2 Mi
theorem bor_f {f g : Ev → M Bool} {env : Ev} {st st1 st2 : Store} (h1 : f env st = .ok false st1) (h2 : g env st1 = .ok false st2) : bOr f g env st = .ok false st2 := by unfold bOr; rw [bnd_ok h1]; exact h2
theorem fin_ok {Pt : Addr} {kl d t fi lo ro nu he od : Option PV} {st : Store} (h0 : st[0]? = some (.tb qT_law Pt)) :
    ∃ st', (sSeq (sIf (asB (x2 (eqP true) (hrd Pt (xCallN 1 m_ladder_of (aCons (xA tupV (aCons (xA tupV (aCons (xC (.str "mark")) (aCons (xA tupV (aCons (xC (.int (0))) (aCons (xC (.int (1))) aNil))) (aCons (xA tupV (aCons (xC (.int (1))) (aCons (xC (.int (1))) aNil))) aNil)))) (aCons (xC .non) aNil))) aNil))) (xA tupV (aCons (xC (.str "score")) (aCons (xC (.int (1))) aNil)))))
  (sRet (xC (.bl false)))
  sNop)
  (sSeq (sAsg (xA tupleV (aCons (xLc fu [11] (xRng rng1 (aCons (xC (.int (10))) aNil)) (gSet 11) bYes (xA tupV (aCons (xA tupV (aCons (xVar 11) (aCons (xC (.int (1))) aNil))) (aCons (xA tupV (aCons (xC (.int (1))) (aCons (xC (.int (1))) aNil))) aNil)))) aNil)) (gSet 8))
  (sSeq (sIf (bOr (asB (x2 (eqP true) (xCallN 1 m_need_ladder (aCons (xVar 8) aNil)) (xVar 8))) (asB (x2 notN (xCallN 1 m_ladder_of (aCons (xA tupV (aCons (xA tupV (aCons (xC (.str "stretch")) (aCons (xA tupV (aCons (xC (.int (0))) (aCons (xC (.int (1))) aNil))) (aCons (xA tupV (aCons (xC (.int (1))) (aCons (xC (.int (1))) aNil))) (aCons (xA tupV (aCons (xC (.int (1))) (aCons (xC (.int (1))) aNil))) aNil))))) aNil)) aNil)) (xC .non))))
  (sRet (xC (.bl false)))
  sNop)
  (sSeq (sAsg (xA tupV (aCons (xA tupV (aCons (xC (.str "mark")) (aCons (xA tupV (aCons (xC (.int (2))) (aCons (xC (.int (1))) aNil))) (aCons (xA tupV (aCons (xC (.int (0))) (aCons (xC (.int (1))) aNil))) aNil)))) (aCons (xA tupV (aCons (xC (.str "stretch")) (aCons (xA tupV (aCons (xC (.int (0))) (aCons (xC (.int (1))) aNil))) (aCons (xA tupV (aCons (xC (.int (1))) (aCons (xC (.int (1))) aNil))) (aCons (xA tupV (aCons (xC (.int (0))) (aCons (xC (.int (1))) aNil))) aNil))))) aNil))) (gSet 9))
  (sRet (vAnd (x2 (eqP false) (xCallN 1 m_ladder_of (aCons (xVar 9) aNil)) (xA tupV aNil)) (x2 (eqP false) (xCallN 1 m_ladder_of (aCons (x2 mulV (xA tupV (aCons (xA tupV (aCons (xC (.str "mark")) (aCons (xA tupV (aCons (xC (.int (2))) (aCons (xC (.int (1))) aNil))) (aCons (xA tupV (aCons (xC (.int (1))) (aCons (xC (.int (2))) aNil))) aNil)))) aNil)) (xC (.int (2)))) aNil)) (xA tupV (aCons (xA tupV (aCons (xA tupV (aCons (xC (.int (2))) (aCons (xC (.int (1))) aNil))) (aCons (xA tupV (aCons (xC (.int (1))) (aCons (xC (.int (1))) aNil))) aNil))) aNil))))))))) [kl, d, t, fi, lo, ro, nu, he, none, none, od, none] st = .ok (.rt (.bl true)) st' := by
  have a1 := heard_at (q := qT_law) (w := "score") (cs := cs__law_heard) (g := xCallN 1 m_ladder_of (aCons (xA tupV (aCons (xA tupV (aCons (xC (.str "mark")) (aCons (xA tupV (aCons (xC (.int (0))) (aCons (xC (.int (1))) aNil))) (aCons (xA tupV (aCons (xC (.int (1))) (aCons (xC (.int (1))) aNil))) aNil)))) (aCons (xC .non) aNil))) aNil)) (env := [kl, d, t, fi, lo, ro, nu, he, none, none, od, none]) h0 (call_exc (n := 1) (vs := [.tup [.tup [.str "mark", fr 0 1, fr 1 1], .non]]) rfl (lo3 st) rfl) rfl
  have p1 : Pq 1 (.tup [.str "score", .int 1]) := pq_tup fun y hy => by
    simp only [List.mem_cons, List.not_mem_nil, or_false] at hy
    rcases hy with z | z <;> subst z
    · exact pq_str (by decide +kernel) 0
    · exact pq_int _ 0
  have b1 := x2_ok (o := eqP true) (fb := xA tupV (aCons (xC (.str "score")) (aCons (xC (.int (1))) aNil))) (b := .tup [.str "score", .int 1]) (st2 := st) a1 rfl
  rw [eqP_eq true st p1 (by decide)] at b1
  rw [seq_nx ((if_f (asB_ok b1)).trans rfl)]
  obtain ⟨st1, m, e1, g1, n1⟩ := lad_lst (n := 10) (env := [kl, d, t, fi, lo, ro, nu, he, none, none, od, none]) (st := st) (by decide) (by simp)
  rw [show ((10 : Nat) : Int) = 10 from rfl] at e1
  have tv : tupleV [.loc m] st1 = .ok (ladK 10) st1 := by
    unfold tupleV
    dsimp only
    rw [gl n1]
    rfl
  rw [seq_nx (asg_ok (xA_ok (aCons_ok e1 rfl) tv))]
  show ∃ st', sSeq _ _ [kl, d, t, fi, lo, ro, nu, he, some (ladK 10), none, od, none] st1 = _
  obtain ⟨st2, e2, g2⟩ := need10 st1
  obtain ⟨st3, e3, g3⟩ := lo_s1 st2
  have v8 : ∀ st, xVar 8 [kl, d, t, fi, lo, ro, nu, he, some (ladK 10), none, od, none] st = .ok (ladK 10) st := fun st => rfl
  have c1 := x2_ok (o := eqP true) (call_ok (n := 1) (aCons_ok (g := aNil) (v8 st1) rfl) e2 rfl) (v8 st2)
  rw [eq10] at c1
  have c2 := x2_ok (o := notN) (fb := xC .non) (b := .non) (st2 := st3) (call_ok (n := 1) (f := aCons (xA tupV (aCons (xA tupV (aCons (xC (.str "stretch")) (aCons (xA tupV (aCons (xC (.int (0))) (aCons (xC (.int (1))) aNil))) (aCons (xA tupV (aCons (xC (.int (1))) (aCons (xC (.int (1))) aNil))) (aCons (xA tupV (aCons (xC (.int (1))) (aCons (xC (.int (1))) aNil))) aNil))))) aNil)) aNil) (env := [kl, d, t, fi, lo, ro, nu, he, some (ladK 10), none, od, none]) (st := st2) (st1 := st2) (vs := [.tup [.tup [.str "stretch", fr 0 1, fr 1 1, fr 1 1]]]) rfl e3 rfl) rfl
  have c2' := asB_ok (c2.trans (show notN .non .non st3 = .ok (.bl false) st3 from rfl))
  have c3 := bor_f (asB_ok c1) c2'
  rw [seq_nx ((if_f c3).trans rfl)]
  rw [seq_nx (asg_ok (v := .tup [.tup [.str "mark", fr 2 1, fr 0 1], .tup [.str "stretch", fr 0 1, fr 1 1, fr 0 1]]) (st' := st3) rfl)]
  show ∃ st', sRet _ [kl, d, t, fi, lo, ro, nu, he, some (ladK 10), some (.tup [.tup [.str "mark", fr 2 1, fr 0 1], .tup [.str "stretch", fr 0 1, fr 1 1, fr 0 1]]), od, none] st3 = _
  obtain ⟨st4, e4, g4⟩ := lo_s2 st3
  obtain ⟨st5, e5, g5⟩ := lo_s3 st4
  have v9 : ∀ st, xVar 9 [kl, d, t, fi, lo, ro, nu, he, some (ladK 10), some (.tup [.tup [.str "mark", fr 2 1, fr 0 1], .tup [.str "stretch", fr 0 1, fr 1 1, fr 0 1]]), od, none] st = .ok (.tup [.tup [.str "mark", fr 2 1, fr 0 1], .tup [.str "stretch", fr 0 1, fr 1 1, fr 0 1]]) st := fun st => rfl
  have d1 := x2_ok (o := eqP false) (fb := xA tupV aNil) (b := .tup []) (st2 := st4) (call_ok (n := 1) (aCons_ok (g := aNil) (v9 st3) rfl) e4 rfl) rfl
  have d2 := x2_ok (o := eqP false) (fb := xA tupV (aCons (xA tupV (aCons (xA tupV (aCons (xC (.int (2))) (aCons (xC (.int (1))) aNil))) (aCons (xA tupV (aCons (xC (.int (1))) (aCons (xC (.int (1))) aNil))) aNil))) aNil)) (b := .tup [.tup [fr 2 1, fr 1 1]]) (st2 := st5) (call_ok (n := 1) (f := aCons (x2 mulV (xA tupV (aCons (xA tupV (aCons (xC (.str "mark")) (aCons (xA tupV (aCons (xC (.int (2))) (aCons (xC (.int (1))) aNil))) (aCons (xA tupV (aCons (xC (.int (1))) (aCons (xC (.int (2))) aNil))) aNil)))) aNil)) (xC (.int (2)))) aNil) (env := [kl, d, t, fi, lo, ro, nu, he, some (ladK 10), some (.tup [.tup [.str "mark", fr 2 1, fr 0 1], .tup [.str "stretch", fr 0 1, fr 1 1, fr 0 1]]), od, none]) (st := st4) (st1 := st4) (vs := [.tup [.tup [.str "mark", fr 2 1, fr 1 2], .tup [.str "mark", fr 2 1, fr 1 2]]]) rfl e5 rfl) rfl
  have z1 : eqP false (.tup []) (.tup []) st4 = .ok (.bl true) st4 := rfl
  have z2 : eqP false (.tup [.tup [fr 2 1, fr 1 1]]) (.tup [.tup [fr 2 1, fr 1 1]]) st5 = .ok (.bl true) st5 := rfl
  refine ⟨st5, ret_ok ?_⟩
  unfold vAnd
  rw [bnd_ok (asB_ok (d1.trans z1))]
  exact d2.trans z2
end Lw
namespace Lw
open PySem PySem.Spec L2 Mi
abbrev R1v (a : Nat) : List PV := [.tup [.non, .non], .tup [.loc a, .non], .tup [ladK 11, .non]]
abbrev R2v : List PV := [.tup [.tup [fineV, lowV], .int 1], .tup [.tup [fineV, fineV], .int 1], .tup [.tup [.tup [fr 0 1, fr 0 1]], .int 0], .tup [.tup [.non], .int 0]]
abbrev R3v : PV := .tup [.tup [lowV, fineV, swapV], .int 2]
abbrev R4v (b : Nat) : List PV := [.tup [.tup [fr 0 1], .int 0], .tup [.tup [lowV, .loc b], .int 1], .tup [.tup [.tup [fr 2 2, fr 1 1]], .int 0]]
abbrev rowsV (a b : Nat) : List PV := ((R1v a ++ R2v) ++ [R3v]) ++ R4v b
theorem rows_ref {st : Store} {a b : Nat} {xs ys : List PV} (ha : st[a]? = some (.lst xs)) (hb : st[b]? = some (.lst ys)) : ∀ x ∈ rowsV a b, Ref st x := fun x hx => by
  simp only [rowsV, R1v, R2v, R4v, List.cons_append, List.nil_append, List.mem_cons, List.not_mem_nil, or_false] at hx
  have r := ref_a st
  rcases hx with h | h | h | h | h | h | h | h | h | h | h <;> subst h
  · exact r _ (by simp)
  · exact ref_l ha
  · exact r _ (by simp)
  · exact r _ (by simp)
  · exact r _ (by simp)
  · exact r _ (by simp)
  · exact r _ (by simp)
  · exact r _ (by simp)
  · exact r _ (by simp)
  · exact ref_ll hb
  · exact r _ (by simp)
theorem app_ok {f : Ev → M PV} {g : Ev → M (List PV)} {env : Ev} {st : Store} {n : Nat} {xs : List PV} {v : PV} (h1 : f env st = .ok (.loc n) st) (h2 : g env st = .ok [v] st) (hn : st[n]? = some (.lst xs)) (hz : xs.length < sizeTop) : xMt appV f g env st = .ok .non (st.set n (.lst (xs ++ [v]))) := by
  have h3 : chkL (.loc n) st = .ok () st := by
    unfold chkL
    dsimp only
    rw [gm hn]
  unfold xMt
  rw [bnd_ok h1, bnd_ok h3, bnd_ok h2]
  unfold appV
  dsimp only
  rw [gm hn]
  dsimp only
  rw [if_pos hz]
theorem mid_ok {Pt : Addr} {kl d t : Option PV} {st : Store} (h0 : st[0]? = some (.tb qT_law Pt)) : ∃ st', (sSeq (sAsg (xA lstV (aCons (xA tupV (aCons (xC .non) (aCons (xC .non) aNil))) (aCons (xA tupV (aCons (xA lstV (aCons (xVar 3) aNil)) (aCons (xC .non) aNil))) (aCons (xA tupV (aCons (xA tupleV (aCons (xLc fu [11] (xRng rng1 (aCons (xC (.int (11))) aNil)) (gSet 11) bYes (xA tupV (aCons (xA tupV (aCons (xVar 11) (aCons (xC (.int (1))) aNil))) (aCons (xA tupV (aCons (xC (.int (1))) (aCons (xC (.int (1))) aNil))) aNil)))) aNil)) (aCons (xC .non) aNil))) aNil)))) (gSet 5))
  (sSeq (sAsg (x2 addV (xVar 5) (xA lstV (aCons (xA tupV (aCons (xA tupV (aCons (xVar 3) (aCons (xVar 4) aNil))) (aCons (xC (.int (1))) aNil))) (aCons (xA tupV (aCons (xA tupV (aCons (xVar 3) (aCons (xVar 3) aNil))) (aCons (xC (.int (1))) aNil))) (aCons (xA tupV (aCons (xA tupV (aCons (xA tupV (aCons (xA tupV (aCons (xC (.int (0))) (aCons (xC (.int (1))) aNil))) (aCons (xA tupV (aCons (xC (.int (0))) (aCons (xC (.int (1))) aNil))) aNil))) aNil)) (aCons (xC (.int (0))) aNil))) (aCons (xA tupV (aCons (xA tupV (aCons (xC .non) aNil)) (aCons (xC (.int (0))) aNil))) aNil)))))) (gSet 5))
  (sSeq (sEx (xMt appV (xVar 5) (aCons (xA tupV (aCons (xA tupV (aCons (xVar 4) (aCons (xVar 3) (aCons (xA tupV (aCons (xA tupV (aCons (xC (.int (1))) (aCons (xC (.int (1))) aNil))) (aCons (xA tupV (aCons (x1 negV (xC (.int (1)))) (aCons (xC (.int (1))) aNil))) aNil))) aNil)))) (aCons (xC (.int (2))) aNil))) aNil)))
  (sSeq (sFor fu (xIt (x2 addV (xVar 5) (xA lstV (aCons (xA tupV (aCons (xA tupV (aCons (xA tupV (aCons (xC (.int (0))) (aCons (xC (.int (1))) aNil))) aNil)) (aCons (xC (.int (0))) aNil))) (aCons (xA tupV (aCons (xA tupV (aCons (xVar 4) (aCons (xA lstV (aCons (xA tupV (aCons (xC (.int (0))) (aCons (xC (.int (1))) aNil))) (aCons (xA tupV (aCons (xC (.int (1))) (aCons (xC (.int (1))) aNil))) aNil))) aNil))) (aCons (xC (.int (1))) aNil))) (aCons (xA tupV (aCons (xA tupV (aCons (xA tupV (aCons (xA tupV (aCons (xC (.int (2))) (aCons (xC (.int (2))) aNil))) (aCons (xA tupV (aCons (xC (.int (1))) (aCons (xC (.int (1))) aNil))) aNil))) aNil)) (aCons (xC (.int (0))) aNil))) aNil)))))) (tgTup 2 (tgCons (gSet 10) (tgCons (gSet 6) tgNil)))
  (sSeq (sAsg (xA lstV (aCons (hrd Pt (xCallN 1 m_need_ladder (aCons (xVar 10) aNil))) (aCons (hrd Pt (xCallN 1 m_as_score (aCons (xVar 10) aNil))) aNil))) (gSet 7))
  (sIf (asB (x2 (eqP true) (xVar 7) (x2 mulV (xA lstV (aCons (xA tupV (aCons (xC (.str "ladder")) (aCons (xVar 6) aNil))) aNil)) (xC (.int (2))))))
  (sRet (xC (.bl false)))
  sNop)))
  (sSeq (sIf (asB (x2 (eqP true) (hrd Pt (xCallN 1 m_ladder_of (aCons (xA tupV (aCons (xA tupV (aCons (xC (.str "mark")) (aCons (xA tupV (aCons (xC (.int (0))) (aCons (xC (.int (1))) aNil))) (aCons (xA tupV (aCons (xC (.int (1))) (aCons (xC (.int (1))) aNil))) aNil)))) (aCons (xC .non) aNil))) aNil))) (xA tupV (aCons (xC (.str "score")) (aCons (xC (.int (1))) aNil)))))
  (sRet (xC (.bl false)))
  sNop)
  (sSeq (sAsg (xA tupleV (aCons (xLc fu [11] (xRng rng1 (aCons (xC (.int (10))) aNil)) (gSet 11) bYes (xA tupV (aCons (xA tupV (aCons (xVar 11) (aCons (xC (.int (1))) aNil))) (aCons (xA tupV (aCons (xC (.int (1))) (aCons (xC (.int (1))) aNil))) aNil)))) aNil)) (gSet 8))
  (sSeq (sIf (bOr (asB (x2 (eqP true) (xCallN 1 m_need_ladder (aCons (xVar 8) aNil)) (xVar 8))) (asB (x2 notN (xCallN 1 m_ladder_of (aCons (xA tupV (aCons (xA tupV (aCons (xC (.str "stretch")) (aCons (xA tupV (aCons (xC (.int (0))) (aCons (xC (.int (1))) aNil))) (aCons (xA tupV (aCons (xC (.int (1))) (aCons (xC (.int (1))) aNil))) (aCons (xA tupV (aCons (xC (.int (1))) (aCons (xC (.int (1))) aNil))) aNil))))) aNil)) aNil)) (xC .non))))
  (sRet (xC (.bl false)))
  sNop)
  (sSeq (sAsg (xA tupV (aCons (xA tupV (aCons (xC (.str "mark")) (aCons (xA tupV (aCons (xC (.int (2))) (aCons (xC (.int (1))) aNil))) (aCons (xA tupV (aCons (xC (.int (0))) (aCons (xC (.int (1))) aNil))) aNil)))) (aCons (xA tupV (aCons (xC (.str "stretch")) (aCons (xA tupV (aCons (xC (.int (0))) (aCons (xC (.int (1))) aNil))) (aCons (xA tupV (aCons (xC (.int (1))) (aCons (xC (.int (1))) aNil))) (aCons (xA tupV (aCons (xC (.int (0))) (aCons (xC (.int (1))) aNil))) aNil))))) aNil))) (gSet 9))
  (sRet (vAnd (x2 (eqP false) (xCallN 1 m_ladder_of (aCons (xVar 9) aNil)) (xA tupV aNil)) (x2 (eqP false) (xCallN 1 m_ladder_of (aCons (x2 mulV (xA tupV (aCons (xA tupV (aCons (xC (.str "mark")) (aCons (xA tupV (aCons (xC (.int (2))) (aCons (xC (.int (1))) aNil))) (aCons (xA tupV (aCons (xC (.int (1))) (aCons (xC (.int (2))) aNil))) aNil)))) aNil)) (xC (.int (2)))) aNil)) (xA tupV (aCons (xA tupV (aCons (xA tupV (aCons (xC (.int (2))) (aCons (xC (.int (1))) aNil))) (aCons (xA tupV (aCons (xC (.int (1))) (aCons (xC (.int (1))) aNil))) aNil))) aNil))))))))))))) [kl, d, t, some fineV, some lowV, none, none, none, none, none, none, none] st = .ok (.rt (.bl true)) st' := by
  have hpos : 0 < st.length := (List.getElem?_eq_some_iff.mp h0).1
  -- the first rows
  have n3 := at_new st (.lst [fineV])
  have g3 := Gr.new st (.lst [fineV])
  have a2 : xA tupV (aCons (xA lstV (aCons (xVar 3) aNil)) (aCons (xC .non) aNil)) [kl, d, t, some fineV, some lowV, none, none, none, none, none, none, none] st = .ok (.tup [.loc st.length, .non]) (st ++ [.lst [fineV]]) := xA_ok (aCons_ok (xA_ok (aCons_ok (v := fineV) (st1 := st) rfl rfl) (lst_ok (by simp))) rfl) rfl
  have al : st.length < (st ++ [Cell.lst [fineV]]).length := by simp
  generalize hs3 : st ++ [Cell.lst [fineV]] = st3 at *
  obtain ⟨st4, m4, e4, g4, n4⟩ := lad_lst (n := 11) (env := [kl, d, t, some fineV, some lowV, none, none, none, none, none, none, none]) (st := st3) (by decide) (by simp)
  rw [show ((11 : Nat) : Int) = 11 from rfl] at e4
  have tv : tupleV [.loc m4] st4 = .ok (ladK 11) st4 := by
    unfold tupleV
    dsimp only
    rw [gl n4]
    rfl
  have a3 := xA_ok (o := tupV) (aCons_ok (g := aCons (xC .non) aNil) (xA_ok (o := tupleV) (aCons_ok (g := aNil) (vs := []) (st2 := st4) e4 rfl) tv) (vs := [.non]) (st2 := st4) rfl) (v := .tup [ladK 11, .non]) (st2 := st4) rfl
  have e5 := xA_ok (o := lstV) (aCons_ok (f := xA tupV (aCons (xC .non) (aCons (xC .non) aNil))) (env := [kl, d, t, some fineV, some lowV, none, none, none, none, none, none, none]) (st := st) (st1 := st) (v := .tup [.non, .non]) rfl (aCons_ok a2 (aCons_ok (g := aNil) (vs := []) (st2 := st4) a3 rfl))) (lst_ok (by simp))
  have n5 := at_new st4 (.lst (R1v st.length))
  have g5 := Gr.new st4 (.lst (R1v st.length))
  rw [seq_nx (asg_ok e5)]
  show ∃ st', sSeq _ _ [kl, d, t, some fineV, some lowV, some (.loc st4.length), none, none, none, none, none, none] (st4 ++ [.lst (R1v st.length)]) = _
  have l4 := g4.len
  have l5 : st4.length < (st4 ++ [Cell.lst (R1v st.length)]).length := by simp
  generalize hs5 : st4 ++ [Cell.lst (R1v st.length)] = st5 at *
  -- the second ones
  have n6 := at_new st5 (.lst R2v)
  have g6 := Gr.new st5 (.lst R2v)
  have e6 : xA lstV (aCons (xA tupV (aCons (xA tupV (aCons (xVar 3) (aCons (xVar 4) aNil))) (aCons (xC (.int (1))) aNil))) (aCons (xA tupV (aCons (xA tupV (aCons (xVar 3) (aCons (xVar 3) aNil))) (aCons (xC (.int (1))) aNil))) (aCons (xA tupV (aCons (xA tupV (aCons (xA tupV (aCons (xA tupV (aCons (xC (.int (0))) (aCons (xC (.int (1))) aNil))) (aCons (xA tupV (aCons (xC (.int (0))) (aCons (xC (.int (1))) aNil))) aNil))) aNil)) (aCons (xC (.int (0))) aNil))) (aCons (xA tupV (aCons (xA tupV (aCons (xC .non) aNil)) (aCons (xC (.int (0))) aNil))) aNil)))) [kl, d, t, some fineV, some lowV, some (.loc st4.length), none, none, none, none, none, none] st5 = .ok (.loc st5.length) (st5 ++ [.lst R2v]) := xA_ok (st1 := st5) (vs := R2v) rfl (lst_ok (by simp))
  have l6 : st5.length < (st5 ++ [Cell.lst R2v]).length := by simp
  generalize hs6 : st5 ++ [Cell.lst R2v] = st6 at *
  have ad1 : addV (.loc st4.length) (.loc st5.length) st6 = .ok (.loc st6.length) (st6 ++ [.lst (R1v st.length ++ R2v)]) := by
    unfold addV
    dsimp only
    rw [gm (g6.at n5), gm n6]
    dsimp only
    rw [if_pos (by unfold sizeTop; simp)]
    rfl
  rw [seq_nx (asg_ok ((x2_ok (fa := xVar 5) (a := .loc st4.length) (st1 := st5) rfl e6).trans ad1))]
  show ∃ st', sSeq _ _ [kl, d, t, some fineV, some lowV, some (.loc st6.length), none, none, none, none, none, none] (st6 ++ [.lst (R1v st.length ++ R2v)]) = _
  have n7 := at_new st6 (.lst (R1v st.length ++ R2v))
  have g7 := Gr.new st6 (.lst (R1v st.length ++ R2v))
  generalize hs7 : st6 ++ [Cell.lst (R1v st.length ++ R2v)] = st7 at *
  -- one more
  have gall : Gr st3 st7 := ((g4.trans g5).trans g6).trans g7
  have h07 : st7[0]? = some (.tb qT_law Pt) := gall.at (g3.at h0)
  have ha7 : st7[st.length]? = some (.lst [fineV]) := gall.at n3
  have lt7 := (List.getElem?_eq_some_iff.mp n7).1
  have e7 : xMt appV (xVar 5) (aCons (xA tupV (aCons (xA tupV (aCons (xVar 4) (aCons (xVar 3) (aCons (xA tupV (aCons (xA tupV (aCons (xC (.int (1))) (aCons (xC (.int (1))) aNil))) (aCons (xA tupV (aCons (x1 negV (xC (.int (1)))) (aCons (xC (.int (1))) aNil))) aNil))) aNil)))) (aCons (xC (.int (2))) aNil))) aNil) [kl, d, t, some fineV, some lowV, some (.loc st6.length), none, none, none, none, none, none] st7 = .ok .non (st7.set st6.length (.lst ((R1v st.length ++ R2v) ++ [R3v]))) := app_ok (v := R3v) rfl rfl n7 (by unfold sizeTop; simp)
  have ex7 : sEx (xMt appV (xVar 5) (aCons (xA tupV (aCons (xA tupV (aCons (xVar 4) (aCons (xVar 3) (aCons (xA tupV (aCons (xA tupV (aCons (xC (.int (1))) (aCons (xC (.int (1))) aNil))) (aCons (xA tupV (aCons (x1 negV (xC (.int (1)))) (aCons (xC (.int (1))) aNil))) aNil))) aNil)))) (aCons (xC (.int (2))) aNil))) aNil)) [kl, d, t, some fineV, some lowV, some (.loc st6.length), none, none, none, none, none, none] st7 = .ok (.nx [kl, d, t, some fineV, some lowV, some (.loc st6.length), none, none, none, none, none, none]) (st7.set st6.length (.lst ((R1v st.length ++ R2v) ++ [R3v]))) := by
    unfold sEx
    rw [bnd_ok e7]
    rfl
  rw [seq_nx ex7]
  have n8 : (st7.set st6.length (.lst ((R1v st.length ++ R2v) ++ [R3v])))[st6.length]? = some (.lst ((R1v st.length ++ R2v) ++ [R3v])) := List.getElem?_set_self lt7
  have h08 : (st7.set st6.length (.lst ((R1v st.length ++ R2v) ++ [R3v])))[0]? = some (.tb qT_law Pt) := by rw [List.getElem?_set_ne (by omega)]; exact h07
  have ha8 : (st7.set st6.length (.lst ((R1v st.length ++ R2v) ++ [R3v])))[st.length]? = some (.lst [fineV]) := by rw [List.getElem?_set_ne (by omega)]; exact ha7
  generalize st7.set st6.length (.lst ((R1v st.length ++ R2v) ++ [R3v])) = st8 at *
  -- all of them
  have n9 := at_new st8 (.lst [fr 0 1, fr 1 1])
  have g9 := Gr.new st8 (.lst [fr 0 1, fr 1 1])
  have b9 : xA tupV (aCons (xA tupV (aCons (xVar 4) (aCons (xA lstV (aCons (xA tupV (aCons (xC (.int (0))) (aCons (xC (.int (1))) aNil))) (aCons (xA tupV (aCons (xC (.int (1))) (aCons (xC (.int (1))) aNil))) aNil))) aNil))) (aCons (xC (.int (1))) aNil)) [kl, d, t, some fineV, some lowV, some (.loc st6.length), none, none, none, none, none, none] st8 = .ok (.tup [.tup [lowV, .loc st8.length], .int 1]) (st8 ++ [.lst [fr 0 1, fr 1 1]]) := xA_ok (aCons_ok (xA_ok (aCons_ok (v := lowV) (st1 := st8) rfl (aCons_ok (xA_ok (st1 := st8) (vs := [fr 0 1, fr 1 1]) rfl (lst_ok (by simp))) rfl)) rfl) rfl) rfl
  generalize hs9 : st8 ++ [Cell.lst [fr 0 1, fr 1 1]] = st9 at *
  have n10 := at_new st9 (.lst (R4v st8.length))
  have g10 := Gr.new st9 (.lst (R4v st8.length))
  have e10 := xA_ok (o := lstV) (aCons_ok (f := xA tupV (aCons (xA tupV (aCons (xA tupV (aCons (xC (.int (0))) (aCons (xC (.int (1))) aNil))) aNil)) (aCons (xC (.int (0))) aNil))) (env := [kl, d, t, some fineV, some lowV, some (.loc st6.length), none, none, none, none, none, none]) (st := st8) (st1 := st8) (v := .tup [.tup [fr 0 1], .int 0]) rfl (aCons_ok b9 (aCons_ok (f := xA tupV (aCons (xA tupV (aCons (xA tupV (aCons (xA tupV (aCons (xC (.int (2))) (aCons (xC (.int (2))) aNil))) (aCons (xA tupV (aCons (xC (.int (1))) (aCons (xC (.int (1))) aNil))) aNil))) aNil)) (aCons (xC (.int (0))) aNil))) (v := .tup [.tup [.tup [fr 2 2, fr 1 1]], .int 0]) (g := aNil) (vs := []) (st2 := st9) (st1 := st9) rfl rfl))) (lst_ok (by simp))
  generalize hs10 : st9 ++ [Cell.lst (R4v st8.length)] = st10 at *
  have ad2 : addV (.loc st6.length) (.loc st9.length) st10 = .ok (.loc st10.length) (st10 ++ [.lst (rowsV st.length st8.length)]) := by
    unfold addV
    dsimp only
    rw [gm (g10.at (g9.at n8)), gm n10]
    dsimp only
    rw [if_pos (by unfold sizeTop; simp)]
    rfl
  have n11 := at_new st10 (.lst (rowsV st.length st8.length))
  have g11 := Gr.new st10 (.lst (rowsV st.length st8.length))
  have hit : ∀ f, f [kl, d, t, some fineV, some lowV, some (.loc st6.length), none, none, none, none, none, none] st8 = .ok (.loc st9.length) st10 → xIt (x2 addV (xVar 5) f) [kl, d, t, some fineV, some lowV, some (.loc st6.length), none, none, none, none, none, none] st8 = .ok (nxL st10.length) (st10 ++ [.lst (rowsV st.length st8.length)]) := fun f hf => by
    unfold xIt
    rw [bnd_ok ((x2_ok (fa := xVar 5) (a := .loc st6.length) (st1 := st8) rfl hf).trans ad2)]
    unfold itV
    dsimp only
    rw [gl n11]
  have h11 : (st10 ++ [Cell.lst (rowsV st.length st8.length)])[0]? = some (.tb qT_law Pt) := g11.at (g10.at (g9.at h08))
  have ha11 : (st10 ++ [Cell.lst (rowsV st.length st8.length)])[st.length]? = some (.lst [fineV]) := g11.at (g10.at (g9.at ha8))
  have hb11 : (st10 ++ [Cell.lst (rowsV st.length st8.length)])[st8.length]? = some (.lst [fr 0 1, fr 1 1]) := g11.at (g10.at n9)
  generalize hs11 : st10 ++ [Cell.lst (rowsV st.length st8.length)] = st11 at *
  have hlen : (rowsV st.length st8.length).length = 11 := rfl
  obtain ⟨env', st12, e12, ⟨x, y, z, rfl⟩, g12⟩ := for_ok (nx := nxL st10.length) (g := tgTup 2 (tgCons (gSet 10) (tgCons (gSet 6) tgNil))) (body := rowB Pt) (n := 11) (vf := fun i => ((rowsV st.length st8.length)[i]?).getD .non) (env := [kl, d, t, some fineV, some lowV, some (.loc st6.length), none, none, none, none, none, none]) (st := st11)
    (fun i env st' => (∃ x y z, env = [kl, d, t, some fineV, some lowV, some (.loc st6.length), x, y, none, none, z, none]) ∧ Gr st11 st')
    (fun i env st' hi h => by
      unfold nxL
      rw [gl (h.2.at n11)]
      dsimp only
      rw [List.getElem?_eq_getElem (by rw [hlen]; exact hi)]
      rfl) (fun env st' h => by
      unfold nxL
      rw [gl (h.2.at n11)]
      rfl) (fun i env st' hi h => by
      obtain ⟨⟨x, y, z, rfl⟩, g⟩ := h
      rw [List.getElem?_eq_getElem (by rw [hlen]; exact hi)]
      have hr := rows_ref (g.at ha11) (g.at hb11) _ (List.getElem_mem (show i < (rowsV st.length st8.length).length by rw [hlen]; exact hi))
      obtain ⟨h', k', g', st2, e, gg⟩ := row_ok (Pt := Pt) (a := kl) (b := d) (c := t) (d := some fineV) (e := some lowV) (f := some (.loc st6.length)) (g := x) (h := y) (i := none) (j := none) (k := z) (l := none) (g.at h11) hr
      exact ⟨_, st2, e, ⟨_, _, _, rfl⟩, g.trans gg⟩)
    ⟨⟨_, _, _, rfl⟩, Gr.refl _⟩ (by decide)
  have hfor : ∀ f, f [kl, d, t, some fineV, some lowV, some (.loc st6.length), none, none, none, none, none, none] st8 = .ok (.loc st9.length) st10 → sFor fu (xIt (x2 addV (xVar 5) f)) (tgTup 2 (tgCons (gSet 10) (tgCons (gSet 6) tgNil))) (rowB Pt) [kl, d, t, some fineV, some lowV, some (.loc st6.length), none, none, none, none, none, none] st8 = .ok (.nx [kl, d, t, some fineV, some lowV, some (.loc st6.length), x, y, none, none, z, none]) st12 := fun f hf => by
    unfold sFor
    rw [bnd_ok (hit f hf)]
    exact e12
  rw [seq_nx (hfor _ e10)]
  exact fin_ok (g12.at h11)
end Lw
namespace Lw
open PySem PySem.Spec L2 Mi
theorem tas_ok {f : Ev → M PV} {g : PV → Ev → M Ev} {env env' : Ev} {st st1 st' : Store} {v : PV} (h : f env st = .ok v st1) (h2 : g v env st1 = .ok env' st') : sAsg f g env st = .ok (.nx env') st' := by unfold sAsg; rw [bnd_ok h, bnd_ok h2]; rfl
theorem t_law (Pt : Addr) (ns : List Int) (hn : ns.length ≤ 63) : ∃ st, m_law [Pt] [.kl (ns.map PV.int)] [.tb qT_law Pt] = .ok (.bl true) st := by
  obtain ⟨st1, d, c, l, e1, D1, g1, hd, hl⟩ := t_begin [.tb qT_law Pt] ns hn
  have hd : 1 ≤ d := hd
  have hl : 1 ≤ l := hl
  -- the good ones
  obtain ⟨n, hnn, hn7⟩ : ∃ n : Nat, 3 + (if (4 : Int) < ns.length then 4 else (ns.length : Int)) = (n : Nat) ∧ n ≤ 7 := by
    by_cases h : (4 : Int) < ns.length
    · exact ⟨7, by rw [if_pos h]; rfl, by decide⟩
    · exact ⟨3 + ns.length, by rw [if_neg h]; omega, by omega⟩
  obtain ⟨env2, st2, e2, ⟨⟨t, rfl⟩, D2, k2⟩⟩ := for_ok (nx := nxR 0 n) (g := gSet 2) (body := sIf (bNot (xTru (xCallN 1 m__law_good (aCons (xVar 1) aNil)))) (sRet (xC (.bl false))) sNop) (n := n) (vf := fun i => .int (0 + (i : Nat))) (env := [some (.kl (ns.map PV.int)), some (.loc d), none, none, none, none, none, none, none, none, none, none]) (st := st1)
    (fun i env st' => (∃ t, env = [some (.kl (ns.map PV.int)), some (.loc d), t, none, none, none, none, none, none, none, none, none]) ∧ Dr st' d c l (70 * i) ∧ Kp d l st1 st')
    (fun i env st' hi _ => by simp [nxR, hi]) (fun env st' _ => by simp [nxR]) (fun i env st' hi h => by
      obtain ⟨⟨t, rfl⟩, D', k'⟩ := h
      obtain ⟨st3, e3, D3, k3⟩ := t__law_good D' (by omega)
      refine ⟨[some (.kl (ns.map PV.int)), some (.loc d), some (.int (0 + (i : Nat))), none, none, none, none, none, none, none, none, none], st3, ?_, ⟨_, rfl⟩, D3.mono (by omega), k'.trans k3⟩
      have a1 : xCallN 1 m__law_good (aCons (xVar 1) aNil) [some (.kl (ns.map PV.int)), some (.loc d), some (.int (0 + (i : Nat))), none, none, none, none, none, none, none, none, none] st' = .ok (.bl true) st3 := call_ok (vs := [.loc d]) (st1 := st') rfl e3 rfl
      have a2 : bNot (xTru (xCallN 1 m__law_good (aCons (xVar 1) aNil))) [some (.kl (ns.map PV.int)), some (.loc d), some (.int (0 + (i : Nat))), none, none, none, none, none, none, none, none, none] st' = .ok false st3 := by
        unfold bNot
        rw [bnd_ok (a := true) (st' := st3) (by unfold xTru; rw [bnd_ok a1]; rfl)]
        rfl
      have a3 : gSet 2 (.int (0 + (i : Nat))) [some (.kl (ns.map PV.int)), some (.loc d), t, none, none, none, none, none, none, none, none, none] st' = .ok [some (.kl (ns.map PV.int)), some (.loc d), some (.int (0 + (i : Nat))), none, none, none, none, none, none, none, none, none] st' := rfl
      rw [bnd_ok a3, if_f a2]
      rfl)
    ⟨⟨_, rfl⟩, D1.mono (by omega), Kp.refl _ _ _⟩ (by omega)
  have z2 : st2[0]? = some (.tb qT_law Pt) := k2.2 0 _ (by omega) (by omega) (g1.at rfl)
  obtain ⟨st', em⟩ := mid_ok (kl := some (.kl (ns.map PV.int))) (d := some (.loc d)) (t := t) z2
  refine ⟨st', ?_⟩
  unfold m_law
  refine run_rt ?_
  show sSeq _ _ [some (.kl (ns.map PV.int)), none, none, none, none, none, none, none, none, none, none, none] [.tb qT_law Pt] = _
  rw [seq_nx (asg_ok (call_ok (n := 1) (f := aCons (xVar 0) aNil) (vs := [.kl (ns.map PV.int)]) (st1 := [.tb qT_law Pt]) rfl e1 rfl))]
  show sSeq _ _ [some (.kl (ns.map PV.int)), some (.loc d), none, none, none, none, none, none, none, none, none, none] st1 = _
  have hit : xRng rng1 (aCons (x2 addV (xC (.int (3))) (xA min2V (aCons (xA lenV (aCons (xVar 0) aNil)) (aCons (xC (.int (4))) aNil)))) aNil) [some (.kl (ns.map PV.int)), some (.loc d), none, none, none, none, none, none, none, none, none, none] st1 = .ok (nxR 0 n) st1 := by
    have b1 : xA lenV (aCons (xVar 0) aNil) [some (.kl (ns.map PV.int)), some (.loc d), none, none, none, none, none, none, none, none, none, none] st1 = .ok (.int (ns.length : Nat)) st1 := by
      have : xA lenV (aCons (xVar 0) aNil) [some (.kl (ns.map PV.int)), some (.loc d), none, none, none, none, none, none, none, none, none, none] st1 = .ok (.int ((ns.map PV.int).length : Nat)) st1 := rfl
      rw [this, List.length_map]
    have b2 := xA_ok (o := min2V) (aCons_ok b1 (g := aCons (xC (.int (4))) aNil) (vs := [.int 4]) (st2 := st1) rfl) (v := .int (if (4 : Int) < ns.length then 4 else (ns.length : Int))) (st2 := st1) rfl
    have b3 := x2_ok (o := addV) (fa := xC (.int 3)) (a := .int 3) (st := st1) (st1 := st1) rfl b2
    have b4 : addV (.int 3) (.int (if (4 : Int) < ns.length then 4 else (ns.length : Int))) st1 = .ok (.int (n : Nat)) st1 := by
      rw [← hnn]
      rfl
    unfold xRng
    rw [bnd_ok (aCons_ok (b3.trans b4) (g := aNil) (vs := []) (st2 := st1) rfl)]
    unfold rng1
    dsimp only
    rw [if_pos (by omega)]
    simp [Mi.ret]
  have hfor : sFor fu (xRng rng1 (aCons (x2 addV (xC (.int (3))) (xA min2V (aCons (xA lenV (aCons (xVar 0) aNil)) (aCons (xC (.int (4))) aNil)))) aNil)) (gSet 2) (sIf (bNot (xTru (xCallN 1 m__law_good (aCons (xVar 1) aNil)))) (sRet (xC (.bl false))) sNop) [some (.kl (ns.map PV.int)), some (.loc d), none, none, none, none, none, none, none, none, none, none] st1 = .ok (.nx [some (.kl (ns.map PV.int)), some (.loc d), t, none, none, none, none, none, none, none, none, none]) st2 := by
    unfold sFor
    rw [bnd_ok hit]
    exact e2
  rw [seq_nx hfor]
  rw [seq_nx (tas_ok (v := .tup [fineV, lowV]) (env' := [some (.kl (ns.map PV.int)), some (.loc d), t, some fineV, some lowV, none, none, none, none, none, none, none]) (st1 := st2) (st' := st2) rfl rfl)]
  exact em
theorem t_laws (ts : List Tb1) (ns : List Int) (hq : ts.map (·.q) = [qT_law]) (hn : ns.length ≤ 63) : ∃ st, m_law (ts.map (·.P)) [.kl (ns.map PV.int)] (tabSt ts) = .ok (.bl true) st := by
  cases ts with
  | nil => simp at hq
  | cons t r =>
    cases r with
    | cons _ _ => simp at hq
    | nil =>
      have e : t.q = qT_law := by simpa using hq
      have := t_law t.P ns hn
      rw [← e] at this
      exact this
end Lw
namespace Lw
open PySem PySem.Spec PyProof.Rows L2 Mi
abbrev N_added : List Str := ["one", "other", "top", "bottom", "far_top", "far_bottom", "shared", "part", "whole", "rest"]
theorem sc_added : FnScope N_added ["one", "other"] (defScope s_added) := ⟨rfl, rfl, rfl, by decide +kernel, rfl, by decide +kernel, by decide +kernel⟩
theorem ok_added {P : Program} {w : World} {K : PySem.W.Frag} {mg : Str → Option Value} {base : Heap} (L : Loc K mg "added" s_added)
    (n_gcd : mg "gcd" = some (.builtin "math.gcd")) :
    Cal P w K mg base "added" 1 ["one", "other"] m_added :=
  Cal.of L sc_added (fun _ _ _ _ _ _ us hl => match us, hl with | [_, _], _ => rfl) fun f cdv A outer s H E hr hgd =>
  (rss_cons (rs_asg (rv 0) (rg_tup (n := 2) rfl (rgs_cons (rg_name (i := 2) sc_added.nd rfl (Or.inl rfl)) (rgs_cons (rg_name (i := 3) sc_added.nd rfl (Or.inl rfl)) rgs_nil))))
  (rss_cons (rs_asg (rv 1) (rg_tup (n := 2) rfl (rgs_cons (rg_name (i := 4) sc_added.nd rfl (Or.inl rfl)) (rgs_cons (rg_name (i := 5) sc_added.nd rfl (Or.inl rfl)) rgs_nil))))
  (rss_cons (rs_set (i := 6) sc_added.nd rfl (Or.inl rfl) (b_gcd n_gcd rfl (ra_cons (rv 3) (ra_cons (rv 5) ra_nil))))
  (rss_cons (rs_set (i := 7) sc_added.nd rfl (Or.inl rfl) (o_fdiv (rv 3) (rv 6)))
  (rss_cons (rs_set (i := 8) sc_added.nd rfl (Or.inl rfl) (o_add (o_mul (rv 2) (o_fdiv (rv 5) (rv 6))) (o_mul (rv 4) (rv 7))))
  (rss_cons (rs_set (i := 9) sc_added.nd rfl (Or.inl rfl) (b_gcd n_gcd rfl (ra_cons (rv 8) (ra_cons (rv 6) ra_nil))))
  (rss_one (rs_ret (re_tup (ra_cons (o_fdiv (rv 8) (rv 9)) (ra_cons (o_mul (rv 7) (o_fdiv (rv 5) (rv 9))) ra_nil)))))))))))
abbrev N_is_under : List Str := ["one", "other"]
theorem sc_is_under : FnScope N_is_under ["one", "other"] (defScope s_is_under) := ⟨rfl, rfl, rfl, by decide +kernel, rfl, by decide +kernel, by decide +kernel⟩
theorem ok_is_under {P : Program} {w : World} {K : PySem.W.Frag} {mg : Str → Option Value} {base : Heap} (L : Loc K mg "is_under" s_is_under) :
    Cal P w K mg base "is_under" 1 ["one", "other"] m_is_under :=
  Cal.of L sc_is_under (fun _ _ _ _ _ _ us hl => match us, hl with | [_, _], _ => rfl) fun f cdv A outer s H E hr hgd =>
  (rss_one (rs_ret (o_lt (o_mul (re_ixA (hu_of hr) (rv 0) re_int) (re_ixA (hu_of hr) (rv 1) re_int)) (o_mul (re_ixA (hu_of hr) (rv 1) re_int) (re_ixA (hu_of hr) (rv 0) re_int)))))
abbrev N_added_up : List Str := ["some", "parts", "sums", "at"]
theorem sc_added_up : FnScope N_added_up ["some"] (defScope s_added_up) := ⟨rfl, rfl, rfl, by decide +kernel, rfl, by decide +kernel, by decide +kernel⟩
abbrev sc_added_up_1 : Scope := { kind := .function, names := [(".0", .local), ("at", .local), ("added", .globalImplicit), ("parts", .free)], isGenerator := false, isCoroutine := false, more := [] }
theorem ok_added_up {P : Program} {w : World} {K : PySem.W.Frag} {mg : Str → Option Value} {base : Heap} (L : Loc K mg "added_up" s_added_up)
    (n_list : mg "list" = none)
    (n_len : mg "len" = none)
    (n_range : mg "range" = none)
    (g_added : Cal P w K mg base "added" 1 ["one", "other"] m_added)
    (t_NOUGHT : GTup K mg "NOUGHT" p_NOUGHT) :
    Cal P w K mg base "added_up" 2 ["some"] m_added_up :=
  Cal.of L sc_added_up (fun _ _ _ _ _ _ us hl => match us, hl with | [_], _ => rfl) fun f cdv A outer s H E hr hgd =>
  (rss_cons (rs_set (i := 1) sc_added_up.nd rfl (Or.inr rfl) (b_listA rfl n_list rfl (ra_cons (rv 0) ra_nil)))
  (rss_cons (rs_while (passes_of rfl) (t_gt (b_len n_len rfl (ra_cons (rv 1) ra_nil)) re_int)
  (rss_cons (rs_setLc (i := 2) (own := [("at", 3)]) rfl sc_added_up.nd rfl rfl (sw_true rfl rfl rfl (by decide +kernel)) (ri_rng3 rfl n_range (ra_cons re_int (ra_cons (o_sub (b_len n_len rfl (ra_cons (rv 1) ra_nil)) re_int) (ra_cons re_int ra_nil)))) (blkOk_by (own := [("at", 3)]) (N := N_added_up) (sc := (defScope s_added_up)) (by decide +kernel)) (by decide) (fun _ _ _ _ _ => (rg_name (i := 3) sc_added_up.nd rfl (Or.inl rfl))) (fun _ _ _ _ _ => rts_nil) (fun _ _ _ _ _ => (c_ g_added hr hgd rfl (ra_cons (re_ixA (hu_of hr) (rv 1) (rv 3)) (ra_cons (re_ixA (hu_of hr) (rv 1) (o_add (rv 3) re_int)) ra_nil)))))
  (rss_one (rs_set (i := 1) sc_added_up.nd rfl (Or.inr rfl) (o_add (rv 2) (re_slice (rv 1) (ro_some (o_mul re_int (b_len n_len rfl (ra_cons (rv 2) ra_nil)))) ro_none))))))
  (rss_one (rs_ret (re_ifx (rt_truth (rv 1)) (re_ixA (hu_of hr) (rv 1) re_int) (re_gt rfl t_NOUGHT))))))
abbrev N_merged : List Str := ["some", "others", "out", "at", "one"]
theorem sc_merged : FnScope N_merged ["some", "others"] (defScope s_merged) := ⟨rfl, rfl, rfl, by decide +kernel, rfl, by decide +kernel, by decide +kernel⟩
theorem ok_merged {P : Program} {w : World} {K : PySem.W.Frag} {mg : Str → Option Value} {base : Heap} (L : Loc K mg "merged" s_merged)
    (n_len : mg "len" = none)
    (g_is_under : Cal P w K mg base "is_under" 1 ["one", "other"] m_is_under) :
    Cal P w K mg base "merged" 2 ["some", "others"] m_merged :=
  Cal.of L sc_merged (fun _ _ _ _ _ _ us hl => match us, hl with | [_, _], _ => rfl) fun f cdv A outer s H E hr hgd =>
  (rss_cons (rs_set (i := 2) sc_merged.nd rfl (Or.inl rfl) (re_lst ra_nil))
  (rss_cons (rs_set (i := 3) sc_merged.nd rfl (Or.inl rfl) re_int)
  (rss_cons (rs_for (passes_of rfl) rfl (ri_val (rv 0)) (rg_name (i := 4) sc_merged.nd rfl (Or.inl rfl))
  (rss_cons (rs_while (passes_of rfl) (RW.rt (rw_and (t_lt (rv 3) (b_len n_len rfl (ra_cons (rv 1) ra_nil))) (rw_and1 (rt_truth (c_ g_is_under hr hgd rfl (ra_cons (re_ixA (hu_of hr) (rv 1) (rv 3)) (ra_cons (rv 4) ra_nil)))))))
  (rss_cons (rs_expr (re_append (rv 2) (re_ixA (hu_of hr) (rv 1) (rv 3))))
  (rss_one (rs_aug_add (i := 3) sc_merged.nd rfl (Or.inl rfl) re_int))))
  (rss_one (rs_expr (re_append (rv 2) (rv 4))))))
  (rss_one (rs_ret (o_add (rv 2) (re_slice (rv 1) (ro_some (rv 3)) ro_none)))))))
abbrev N_in_order : List Str := ["some", "runs", "pairs", "one", "at"]
theorem sc_in_order : FnScope N_in_order ["some"] (defScope s_in_order) := ⟨rfl, rfl, rfl, by decide +kernel, rfl, by decide +kernel, by decide +kernel⟩
abbrev sc_in_order_1 : Scope := { kind := .function, names := [(".0", .local), ("one", .local)], isGenerator := false, isCoroutine := false, more := [] }
abbrev sc_in_order_2 : Scope := { kind := .function, names := [(".0", .local), ("at", .local), ("merged", .globalImplicit), ("runs", .free)], isGenerator := false, isCoroutine := false, more := [] }
theorem ok_in_order {P : Program} {w : World} {K : PySem.W.Frag} {mg : Str → Option Value} {base : Heap} (L : Loc K mg "in_order" s_in_order)
    (n_len : mg "len" = none)
    (n_range : mg "range" = none)
    (g_merged : Cal P w K mg base "merged" 2 ["some", "others"] m_merged) :
    Cal P w K mg base "in_order" 3 ["some"] m_in_order :=
  Cal.of L sc_in_order (fun _ _ _ _ _ _ us hl => match us, hl with | [_], _ => rfl) fun f cdv A outer s H E hr hgd =>
  (rss_cons (rs_set (i := 1) sc_in_order.nd rfl (Or.inr rfl) (re_lc (own := [("one", 3)]) rfl sc_in_order.nd (ri_val (rv 0)) (blkOk_by (own := [("one", 3)]) (N := N_in_order) (sc := (defScope s_in_order)) (by decide +kernel)) (by decide) (fun _ _ _ _ _ => (rg_name (i := 3) sc_in_order.nd rfl (Or.inl rfl))) (fun _ _ _ _ _ => rts_nil) (fun _ _ _ _ _ => (re_lst (ra_cons (rv 3) ra_nil)))))
  (rss_cons (rs_while (passes_of rfl) (t_gt (b_len n_len rfl (ra_cons (rv 1) ra_nil)) re_int)
  (rss_cons (rs_setLc (i := 2) (own := [("at", 4)]) rfl sc_in_order.nd rfl rfl (sw_true rfl rfl rfl (by decide +kernel)) (ri_rng3 rfl n_range (ra_cons re_int (ra_cons (o_sub (b_len n_len rfl (ra_cons (rv 1) ra_nil)) re_int) (ra_cons re_int ra_nil)))) (blkOk_by (own := [("at", 4)]) (N := N_in_order) (sc := (defScope s_in_order)) (by decide +kernel)) (by decide) (fun _ _ _ _ _ => (rg_name (i := 4) sc_in_order.nd rfl (Or.inl rfl))) (fun _ _ _ _ _ => rts_nil) (fun _ _ _ _ _ => (c_ g_merged hr hgd rfl (ra_cons (re_ixA (hu_of hr) (rv 1) (rv 4)) (ra_cons (re_ixA (hu_of hr) (rv 1) (o_add (rv 4) re_int)) ra_nil)))))
  (rss_one (rs_set (i := 1) sc_in_order.nd rfl (Or.inr rfl) (o_add (rv 2) (re_slice (rv 1) (ro_some (o_mul re_int (b_len n_len rfl (ra_cons (rv 2) ra_nil)))) ro_none))))))
  (rss_one (rs_ret (re_ifx (rt_truth (rv 1)) (re_ixA (hu_of hr) (rv 1) re_int) (re_lst ra_nil))))))
abbrev N_unlike_in_order : List Str := ["some", "one"]
theorem sc_unlike_in_order : FnScope N_unlike_in_order ["some"] (defScope s_unlike_in_order) := ⟨rfl, rfl, rfl, by decide +kernel, rfl, by decide +kernel, by decide +kernel⟩
abbrev sc_unlike_in_order_1 : Scope := { kind := .function, names := [(".0", .local), ("one", .local)], isGenerator := false, isCoroutine := false, more := [] }
theorem ok_unlike_in_order {P : Program} {w : World} {K : PySem.W.Frag} {mg : Str → Option Value} {base : Heap} (L : Loc K mg "unlike_in_order" s_unlike_in_order)
    (g_in_order : Cal P w K mg base "in_order" 3 ["some"] m_in_order)
    (n_list : mg "list" = none) :
    Cal P w K mg base "unlike_in_order" 4 ["some"] m_unlike_in_order :=
  Cal.of L sc_unlike_in_order (fun _ _ _ _ _ _ us hl => match us, hl with | [_], _ => rfl) fun f cdv A outer s H E hr hgd =>
  (rss_one (rs_ret (c_ g_in_order hr hgd rfl (ra_cons (b_listA rfl n_list rfl (ra_cons (re_dc (own := [("one", 1)]) (un_of hr) rfl sc_unlike_in_order.nd (ri_val (rv 0)) (blkOk_by (own := [("one", 1)]) (N := N_unlike_in_order) (sc := (defScope s_unlike_in_order)) (by decide +kernel)) (by decide) (fun _ _ _ _ _ => (rg_name (i := 1) sc_unlike_in_order.nd rfl (Or.inl rfl))) (fun _ _ _ _ _ => rts_nil) (fun _ _ _ _ _ => (rv 1)) (fun _ _ _ _ _ => re_bl)) ra_nil)) ra_nil))))
abbrev N_is_integer : List Str := ["thing"]
theorem sc_is_integer : FnScope N_is_integer ["thing"] (defScope s_is_integer) := ⟨rfl, rfl, rfl, by decide +kernel, rfl, by decide +kernel, by decide +kernel⟩
theorem ok_is_integer {P : Program} {w : World} {K : PySem.W.Frag} {mg : Str → Option Value} {base : Heap} (L : Loc K mg "is_integer" s_is_integer)
    (n_isinstance : mg "isinstance" = none)
    (n_int : mg "int" = none)
    (n_bool : mg "bool" = none) :
    Cal P w K mg base "is_integer" 1 ["thing"] m_is_integer :=
  Cal.of L sc_is_integer (fun _ _ _ _ _ _ us hl => match us, hl with | [_], _ => rfl) fun f cdv A outer s H E hr hgd =>
  (rss_one (rs_ret (re_and (re_isi n_isinstance n_int (by decide) boot_int' rfl rfl (rv 0)) (re_one (re_not (re_isi n_isinstance n_bool (by decide) boot_bool' rfl rfl (rv 0)))))))
abbrev N_is_row : List Str := ["thing", "many"]
theorem sc_is_row : FnScope N_is_row ["thing", "many"] (defScope s_is_row) := ⟨rfl, rfl, rfl, by decide +kernel, rfl, by decide +kernel, by decide +kernel⟩
theorem ok_is_row {P : Program} {w : World} {K : PySem.W.Frag} {mg : Str → Option Value} {base : Heap} (L : Loc K mg "is_row" s_is_row)
    (n_isinstance : mg "isinstance" = none)
    (n_tuple : mg "tuple" = none)
    (n_len : mg "len" = none) :
    Cal P w K mg base "is_row" 1 ["thing", "many"] m_is_row :=
  Cal.of L sc_is_row (fun _ _ _ _ _ _ us hl => match us, hl with | [_, _], _ => rfl) fun f cdv A outer s H E hr hgd =>
  (rss_one (rs_ret (re_and (re_isi n_isinstance n_tuple (by decide) boot_tuple' rfl rfl (rv 0)) (re_one (o_eq hr.units (b_len n_len rfl (ra_cons (rv 0) ra_nil)) (rv 1))))))
abbrev N_is_row_within : List Str := ["thing", "least", "most"]
theorem sc_is_row_within : FnScope N_is_row_within ["thing", "least", "most"] (defScope s_is_row_within) := ⟨rfl, rfl, rfl, by decide +kernel, rfl, by decide +kernel, by decide +kernel⟩
theorem ok_is_row_within {P : Program} {w : World} {K : PySem.W.Frag} {mg : Str → Option Value} {base : Heap} (L : Loc K mg "is_row_within" s_is_row_within)
    (n_isinstance : mg "isinstance" = none)
    (n_tuple : mg "tuple" = none)
    (n_len : mg "len" = none) :
    Cal P w K mg base "is_row_within" 1 ["thing", "least", "most"] m_is_row_within :=
  Cal.of L sc_is_row_within (fun _ _ _ _ _ _ us hl => match us, hl with | [_, _, _], _ => rfl) fun f cdv A outer s H E hr hgd =>
  (rss_one (rs_ret (re_and (re_isi n_isinstance n_tuple (by decide) boot_tuple' rfl rfl (rv 0)) (re_one (re_chain op_le op_le v_cmpI v_cmpI (rv 1) (b_len n_len rfl (ra_cons (rv 0) ra_nil)) (rv 2))))))
abbrev N_is_called : List Str := ["thing", "word", "many"]
theorem sc_is_called : FnScope N_is_called ["thing", "word", "many"] (defScope s_is_called) := ⟨rfl, rfl, rfl, by decide +kernel, rfl, by decide +kernel, by decide +kernel⟩
theorem ok_is_called {P : Program} {w : World} {K : PySem.W.Frag} {mg : Str → Option Value} {base : Heap} (L : Loc K mg "is_called" s_is_called)
    (g_is_row : Cal P w K mg base "is_row" 1 ["thing", "many"] m_is_row)
    (n_isinstance : mg "isinstance" = none)
    (n_str : mg "str" = none) :
    Cal P w K mg base "is_called" 2 ["thing", "word", "many"] m_is_called :=
  Cal.of L sc_is_called (fun _ _ _ _ _ _ us hl => match us, hl with | [_, _, _], _ => rfl) fun f cdv A outer s H E hr hgd =>
  (rss_one (rs_ret (re_and (c_ g_is_row hr hgd rfl (ra_cons (rv 0) (ra_cons (rv 2) ra_nil))) (re_and (re_isi n_isinstance n_str (by decide) boot_str' rfl rfl (re_ixA (hu_of hr) (rv 0) re_int)) (re_one (o_eq hr.units (re_ixA (hu_of hr) (rv 0) re_int) (rv 1)))))))
abbrev N_is_fraction : List Str := ["thing", "top", "bottom"]
theorem sc_is_fraction : FnScope N_is_fraction ["thing"] (defScope s_is_fraction) := ⟨rfl, rfl, rfl, by decide +kernel, rfl, by decide +kernel, by decide +kernel⟩
theorem ok_is_fraction {P : Program} {w : World} {K : PySem.W.Frag} {mg : Str → Option Value} {base : Heap} (L : Loc K mg "is_fraction" s_is_fraction)
    (n_isinstance : mg "isinstance" = none)
    (n_tuple : mg "tuple" = none)
    (n_len : mg "len" = none)
    (n_int : mg "int" = none)
    (n_bool : mg "bool" = none)
    (n_gcd : mg "gcd" = some (.builtin "math.gcd")) :
    Cal P w K mg base "is_fraction" 1 ["thing"] m_is_fraction :=
  Cal.of L sc_is_fraction (fun _ _ _ _ _ _ us hl => match us, hl with | [_], _ => rfl) fun f cdv A outer s H E hr hgd =>
  (rss_cons (rs_if (RW.rt (rw_or (rt_not (rt_truth (re_isi n_isinstance n_tuple (by decide) boot_tuple' rfl rfl (rv 0)))) (rw_or1 (t_ne hr.units (b_len n_len rfl (ra_cons (rv 0) ra_nil)) re_int))))
  (rss_one (rs_ret re_bl))
  rss_nil)
  (rss_cons (rs_asg (rv 0) (rg_tup (n := 2) rfl (rgs_cons (rg_name (i := 1) sc_is_fraction.nd rfl (Or.inl rfl)) (rgs_cons (rg_name (i := 2) sc_is_fraction.nd rfl (Or.inl rfl)) rgs_nil))))
  (rss_cons (rs_if (RW.rt (rw_or (rt_not (rt_truth (re_isi n_isinstance n_int (by decide) boot_int' rfl rfl (rv 1)))) (rw_or1 (rt_not (rt_truth (re_isi n_isinstance n_int (by decide) boot_int' rfl rfl (rv 2)))))))
  (rss_one (rs_ret re_bl))
  rss_nil)
  (rss_cons (rs_if (RW.rt (rw_or (rt_truth (re_isi n_isinstance n_bool (by decide) boot_bool' rfl rfl (rv 1))) (rw_or1 (rt_truth (re_isi n_isinstance n_bool (by decide) boot_bool' rfl rfl (rv 2))))))
  (rss_one (rs_ret re_bl))
  rss_nil)
  (rss_one (rs_ret (re_and (o_gt (rv 2) re_int) (re_one (re_or (o_eq hr.units (rv 2) re_int) (re_one (o_eq hr.units (b_gcd n_gcd rfl (ra_cons (rv 1) (ra_cons (rv 2) ra_nil))) re_int)))))))))))
abbrev N_is_weight : List Str := ["thing"]
theorem sc_is_weight : FnScope N_is_weight ["thing"] (defScope s_is_weight) := ⟨rfl, rfl, rfl, by decide +kernel, rfl, by decide +kernel, by decide +kernel⟩
theorem ok_is_weight {P : Program} {w : World} {K : PySem.W.Frag} {mg : Str → Option Value} {base : Heap} (L : Loc K mg "is_weight" s_is_weight)
    (g_is_fraction : Cal P w K mg base "is_fraction" 1 ["thing"] m_is_fraction) :
    Cal P w K mg base "is_weight" 2 ["thing"] m_is_weight :=
  Cal.of L sc_is_weight (fun _ _ _ _ _ _ us hl => match us, hl with | [_], _ => rfl) fun f cdv A outer s H E hr hgd =>
  (rss_one (rs_ret (re_and (c_ g_is_fraction hr hgd rfl (ra_cons (rv 0) ra_nil)) (re_one (o_gt (re_ixA (hu_of hr) (rv 0) re_int) re_int)))))
abbrev N_is_price : List Str := ["thing"]
theorem sc_is_price : FnScope N_is_price ["thing"] (defScope s_is_price) := ⟨rfl, rfl, rfl, by decide +kernel, rfl, by decide +kernel, by decide +kernel⟩
theorem ok_is_price {P : Program} {w : World} {K : PySem.W.Frag} {mg : Str → Option Value} {base : Heap} (L : Loc K mg "is_price" s_is_price)
    (g_is_fraction : Cal P w K mg base "is_fraction" 1 ["thing"] m_is_fraction) :
    Cal P w K mg base "is_price" 2 ["thing"] m_is_price :=
  Cal.of L sc_is_price (fun _ _ _ _ _ _ us hl => match us, hl with | [_], _ => rfl) fun f cdv A outer s H E hr hgd =>
  (rss_one (rs_ret (re_and (c_ g_is_fraction hr hgd rfl (ra_cons (rv 0) ra_nil)) (re_one (o_ge (re_ixA (hu_of hr) (rv 0) re_int) re_int)))))
abbrev N_copied : List Str := ["thing", "part"]
theorem sc_copied : FnScope N_copied ["thing"] (defScope s_copied) := ⟨rfl, rfl, rfl, by decide +kernel, rfl, by decide +kernel, by decide +kernel⟩
abbrev sc_copied_1 : Scope := { kind := .function, names := [(".0", .local), ("part", .local), ("isinstance", .globalImplicit), ("int", .globalImplicit), ("bool", .globalImplicit), ("copied", .globalImplicit)], isGenerator := false, isCoroutine := false, more := [] }
theorem okr_copied {P : Program} {w : World} {K : PySem.W.Frag} {mg : Str → Option Value} {base : Heap} (L : Loc K mg "copied" s_copied)
    (n_isinstance : mg "isinstance" = none)
    (n_tuple : mg "tuple" = none)
    (n_int : mg "int" = none)
    (n_bool : mg "bool" = none)
    (g_is_integer : Cal P w K mg base "is_integer" 1 ["thing"] m_is_integer) : ∀ j : Nat, Cal P w K mg base "copied" (1 + j) ["thing"] (mr_copied j)
  | 0 => Cal.none L sc_copied (fun _ _ _ _ _ _ us hl => match us, hl with | [_], _ => rfl)
  | j + 1 => Cal.of L sc_copied (fun _ _ _ _ _ _ us hl => match us, hl with | [_], _ => rfl) fun f cdv A outer s H E hr hgd =>
  (rss_cons (rs_if (rt_truth (re_isi n_isinstance n_tuple (by decide) boot_tuple' rfl rfl (rv 0)))
  (rss_one (rs_ret (b_tuple n_tuple rfl (ra_cons (re_lc (own := [("part", 1)]) rfl sc_copied.nd (ri_val (rv 0)) (blkOk_by (own := [("part", 1)]) (N := N_copied) (sc := (defScope s_copied)) (by decide +kernel)) (by decide) (fun _ _ _ _ _ => (rg_name (i := 1) sc_copied.nd rfl (Or.inl rfl))) (fun _ _ _ _ _ => rts_nil) (fun _ _ _ _ _ => (re_ifx (RW.rt (rw_and (rt_truth (re_isi n_isinstance n_int (by decide) boot_int' rfl rfl (rv 1))) (rw_and1 (rt_not (rt_truth (re_isi n_isinstance n_bool (by decide) boot_bool' rfl rfl (rv 1))))))) (b_int n_int rfl (ra_cons (rv 1) ra_nil)) (c_ (okr_copied L n_isinstance n_tuple n_int n_bool g_is_integer j) hr hgd rfl (ra_cons (rv 1) ra_nil) (hk := Nat.le_refl _))))) ra_nil))))
  rss_nil)
  (rss_one (rs_ret (re_ifx (rt_truth (c_ g_is_integer hr hgd rfl (ra_cons (rv 0) ra_nil) (hk := Nat.le_trans (m := 1) (by decide) (Nat.le_add_right _ _)))) (b_int n_int rfl (ra_cons (rv 0) ra_nil)) (rv 0)))))
theorem ok_copied {P : Program} {w : World} {K : PySem.W.Frag} {mg : Str → Option Value} {base : Heap} (L : Loc K mg "copied" s_copied)
    (n_isinstance : mg "isinstance" = none)
    (n_tuple : mg "tuple" = none)
    (n_int : mg "int" = none)
    (n_bool : mg "bool" = none)
    (g_is_integer : Cal P w K mg base "is_integer" 1 ["thing"] m_is_integer) :
    Cal P w K mg base "copied" 7 ["thing"] m_copied := okr_copied L n_isinstance n_tuple n_int n_bool g_is_integer 6
abbrev N_is_piece : List Str := ["thing"]
theorem sc_is_piece : FnScope N_is_piece ["thing"] (defScope s_is_piece) := ⟨rfl, rfl, rfl, by decide +kernel, rfl, by decide +kernel, by decide +kernel⟩
theorem ok_is_piece {P : Program} {w : World} {K : PySem.W.Frag} {mg : Str → Option Value} {base : Heap} (L : Loc K mg "is_piece" s_is_piece)
    (g_is_called : Cal P w K mg base "is_called" 2 ["thing", "word", "many"] m_is_called)
    (g_is_fraction : Cal P w K mg base "is_fraction" 1 ["thing"] m_is_fraction)
    (g_is_price : Cal P w K mg base "is_price" 2 ["thing"] m_is_price)
    (g_is_under : Cal P w K mg base "is_under" 1 ["one", "other"] m_is_under) :
    Cal P w K mg base "is_piece" 3 ["thing"] m_is_piece :=
  Cal.of L sc_is_piece (fun _ _ _ _ _ _ us hl => match us, hl with | [_], _ => rfl) fun f cdv A outer s H E hr hgd =>
  (rss_cons (rs_if (rt_truth (c_ g_is_called hr hgd rfl (ra_cons (rv 0) (ra_cons re_str (ra_cons re_int ra_nil)))))
  (rss_one (rs_ret (re_and (c_ g_is_fraction hr hgd rfl (ra_cons (re_ixA (hu_of hr) (rv 0) re_int) ra_nil)) (re_one (c_ g_is_price hr hgd rfl (ra_cons (re_ixA (hu_of hr) (rv 0) re_int) ra_nil))))))
  rss_nil)
  (rss_cons (rs_if (rt_not (rt_truth (c_ g_is_called hr hgd rfl (ra_cons (rv 0) (ra_cons re_str (ra_cons re_int ra_nil))))))
  (rss_one (rs_ret re_bl))
  rss_nil)
  (rss_cons (rs_if (RW.rt (rw_or (rt_not (rt_truth (c_ g_is_fraction hr hgd rfl (ra_cons (re_ixA (hu_of hr) (rv 0) re_int) ra_nil)))) (rw_or (rt_not (rt_truth (c_ g_is_fraction hr hgd rfl (ra_cons (re_ixA (hu_of hr) (rv 0) re_int) ra_nil)))) (rw_or1 (rt_not (rt_truth (c_ g_is_price hr hgd rfl (ra_cons (re_ixA (hu_of hr) (rv 0) re_int) ra_nil))))))))
  (rss_one (rs_ret re_bl))
  rss_nil)
  (rss_one (rs_ret (c_ g_is_under hr hgd rfl (ra_cons (re_ixA (hu_of hr) (rv 0) re_int) (ra_cons (re_ixA (hu_of hr) (rv 0) re_int) ra_nil))))))))
abbrev N_sure_score : List Str := ["thing", "number", "piece"]
theorem sc_sure_score : FnScope N_sure_score ["thing"] (defScope s_sure_score) := ⟨rfl, rfl, rfl, by decide +kernel, rfl, by decide +kernel, by decide +kernel⟩
theorem ok_sure_score {P : Program} {w : World} {K : PySem.W.Frag} {mg : Str → Option Value} {base : Heap} (L : Loc K mg "sure_score" s_sure_score)
    (g_is_row_within : Cal P w K mg base "is_row_within" 1 ["thing", "least", "most"] m_is_row_within)
    (i_MOST_PIECES : ∃ t, mg "MOST_PIECES" = some (.int 10 t))
    (x_BadScore : ExK P w K mg base "BadScore" "number")
    (n_enumerate : mg "enumerate" = none)
    (g_is_piece : Cal P w K mg base "is_piece" 3 ["thing"] m_is_piece)
    (g_copied : Cal P w K mg base "copied" 7 ["thing"] m_copied) :
    Cal P w K mg base "sure_score" 8 ["thing"] m_sure_score :=
  Cal.of L sc_sure_score (fun _ _ _ _ _ _ us hl => match us, hl with | [_], _ => rfl) fun f cdv A outer s H E hr hgd =>
  (rss_cons (rs_if (rt_not (rt_truth (c_ g_is_row_within hr hgd rfl (ra_cons (rv 0) (ra_cons re_int (ra_cons (re_gint rfl i_MOST_PIECES) ra_nil))))))
  (rss_one (rs_raise x_BadScore rfl (hr.mono (by decide)) rfl (ra_cons re_non ra_nil)))
  rss_nil)
  (rss_cons (rs_for (passes_of rfl) rfl (ri_enu rfl n_enumerate (ra_cons (rv 0) ra_nil)) (rg_tup (n := 2) rfl (rgs_cons (rg_name (i := 1) sc_sure_score.nd rfl (Or.inl rfl)) (rgs_cons (rg_name (i := 2) sc_sure_score.nd rfl (Or.inl rfl)) rgs_nil)))
  (rss_one (rs_if (rt_not (rt_truth (c_ g_is_piece hr hgd rfl (ra_cons (rv 2) ra_nil))))
  (rss_one (rs_raise x_BadScore rfl (hr.mono (by decide)) rfl (ra_cons (rv 1) ra_nil)))
  rss_nil)))
  (rss_one (rs_ret (c_ g_copied hr hgd rfl (ra_cons (rv 0) ra_nil))))))
abbrev N_marked : List Str := ["score", "prices", "piece", "mark"]
theorem sc_marked : FnScope N_marked ["score"] (defScope s_marked) := ⟨rfl, rfl, rfl, by decide +kernel, rfl, by decide +kernel, by decide +kernel⟩
abbrev sc_marked_1 : Scope := { kind := .function, names := [(".0", .local), ("mark", .local), ("NOUGHT", .globalImplicit), ("prices", .free)], isGenerator := false, isCoroutine := false, more := [] }
theorem ok_marked {P : Program} {w : World} {K : PySem.W.Frag} {mg : Str → Option Value} {base : Heap} (L : Loc K mg "marked" s_marked)
    (g_added : Cal P w K mg base "added" 1 ["one", "other"] m_added)
    (t_NOUGHT : GTup K mg "NOUGHT" p_NOUGHT)
    (g_in_order : Cal P w K mg base "in_order" 3 ["some"] m_in_order)
    (n_list : mg "list" = none) :
    Cal P w K mg base "marked" 4 ["score"] m_marked :=
  Cal.of L sc_marked (fun _ _ _ _ _ _ us hl => match us, hl with | [_], _ => rfl) fun f cdv A outer s H E hr hgd =>
  (rss_cons (rs_set (i := 1) sc_marked.nd rfl (Or.inr rfl) re_dnew)
  (rss_cons (rs_for (passes_of rfl) rfl (ri_val (rv 0)) (rg_name (i := 2) sc_marked.nd rfl (Or.inl rfl))
  (rss_one (rs_if (t_eq hr.units (re_ixA (hu_of hr) (rv 2) re_int) re_str)
  (rss_one (rs_asg (c_ g_added hr hgd rfl (ra_cons (re_dget2 (hu_of hr) (rv 1) (re_ixA (hu_of hr) (rv 2) re_int) (re_gt rfl t_NOUGHT)) (ra_cons (re_ixA (hu_of hr) (rv 2) re_int) ra_nil))) (rg_subA (hu_of hr) (rv 1) (re_ixA (hu_of hr) (rv 2) re_int))))
  rss_nil)))
  (rss_one (rs_ret (re_lc (own := [("mark", 3)]) rfl sc_marked.nd (ri_val (c_ g_in_order hr hgd rfl (ra_cons (b_listA rfl n_list rfl (ra_cons (rv 1) ra_nil)) ra_nil))) (blkOk_by (own := [("mark", 3)]) (N := N_marked) (sc := (defScope s_marked)) (by decide +kernel)) (by decide) (fun _ _ _ _ _ => (rg_name (i := 3) sc_marked.nd rfl (Or.inl rfl))) (fun _ _ _ _ _ => (rts_one (t_ne hr.units (re_ixA (hu_of hr) (rv 1) (rv 3)) (re_gt rfl t_NOUGHT)))) (fun _ _ _ _ _ => (re_tup (ra_cons re_str (ra_cons (rv 3) (ra_cons (re_ixA (hu_of hr) (rv 1) (rv 3)) ra_nil))))))))))
abbrev N_price_over : List Str := ["score", "low", "high", "piece"]
theorem sc_price_over : FnScope N_price_over ["score", "low", "high"] (defScope s_price_over) := ⟨rfl, rfl, rfl, by decide +kernel, rfl, by decide +kernel, by decide +kernel⟩
abbrev sc_price_over_1 : Scope := { kind := .function, names := [(".0", .local), ("piece", .local), ("is_under", .globalImplicit), ("high", .free), ("low", .free)], isGenerator := false, isCoroutine := false, more := [] }
theorem ok_price_over {P : Program} {w : World} {K : PySem.W.Frag} {mg : Str → Option Value} {base : Heap} (L : Loc K mg "price_over" s_price_over)
    (g_added_up : Cal P w K mg base "added_up" 2 ["some"] m_added_up)
    (g_is_under : Cal P w K mg base "is_under" 1 ["one", "other"] m_is_under) :
    Cal P w K mg base "price_over" 3 ["score", "low", "high"] m_price_over :=
  Cal.of L sc_price_over (fun _ _ _ _ _ _ us hl => match us, hl with | [_, _, _], _ => rfl) fun f cdv A outer s H E hr hgd =>
  (rss_one (rs_ret (c_ g_added_up hr hgd rfl (ra_cons (re_lc (own := [("piece", 3)]) rfl sc_price_over.nd (ri_val (rv 0)) (blkOk_by (own := [("piece", 3)]) (N := N_price_over) (sc := (defScope s_price_over)) (by decide +kernel)) (by decide) (fun _ _ _ _ _ => (rg_name (i := 3) sc_price_over.nd rfl (Or.inl rfl))) (fun _ _ _ _ _ => (rts_one (RW.rt (rw_and (t_eq hr.units (re_ixA (hu_of hr) (rv 3) re_int) re_str) (rw_and (rt_not (rt_truth (c_ g_is_under hr hgd rfl (ra_cons (rv 1) (ra_cons (re_ixA (hu_of hr) (rv 3) re_int) ra_nil))))) (rw_and1 (rt_not (rt_truth (c_ g_is_under hr hgd rfl (ra_cons (re_ixA (hu_of hr) (rv 3) re_int) (ra_cons (rv 2) ra_nil))))))))))) (fun _ _ _ _ _ => (re_ixA (hu_of hr) (rv 3) re_int))) ra_nil))))
abbrev N_stretched : List Str := ["score", "ends", "out", "at", "low", "high", "price", "piece", "end"]
theorem sc_stretched : FnScope N_stretched ["score"] (defScope s_stretched) := ⟨rfl, rfl, rfl, by decide +kernel, rfl, by decide +kernel, by decide +kernel⟩
abbrev sc_stretched_1 : Scope := { kind := .function, names := [(".0", .local), ("piece", .local), ("end", .local)], isGenerator := false, isCoroutine := false, more := [] }
theorem ok_stretched {P : Program} {w : World} {K : PySem.W.Frag} {mg : Str → Option Value} {base : Heap} (L : Loc K mg "stretched" s_stretched)
    (g_unlike_in_order : Cal P w K mg base "unlike_in_order" 4 ["some"] m_unlike_in_order)
    (n_len : mg "len" = none)
    (n_range : mg "range" = none)
    (g_price_over : Cal P w K mg base "price_over" 3 ["score", "low", "high"] m_price_over)
    (t_NOUGHT : GTup K mg "NOUGHT" p_NOUGHT) :
    Cal P w K mg base "stretched" 5 ["score"] m_stretched :=
  Cal.of L sc_stretched (fun _ _ _ _ _ _ us hl => match us, hl with | [_], _ => rfl) fun f cdv A outer s H E hr hgd =>
  (rss_cons (rs_set (i := 1) sc_stretched.nd rfl (Or.inl rfl) (c_ g_unlike_in_order hr hgd rfl (ra_cons (re_lc2 (own := [("piece", 7), ("end", 8)]) (vs1 := [8]) rfl sc_stretched.nd (ri_val (rv 0)) (blkOk_by (own := [("piece", 7), ("end", 8)]) (N := N_stretched) (sc := (defScope s_stretched)) (by decide +kernel)) (by decide) (by decide) (by decide) (fun _ _ _ _ _ => (rg_name (i := 7) sc_stretched.nd rfl (Or.inl rfl))) (fun _ _ _ _ _ => (rts_one (t_eq hr.units (re_ixA (hu_of hr) (rv 7) re_int) re_str))) (fun _ _ _ _ _ => (ri_val (re_slice (rv 7) (ro_some re_int) (ro_some re_int)))) (fun _ _ _ _ _ => (rg_name (i := 8) sc_stretched.nd rfl (Or.inl rfl))) (fun _ _ _ _ _ => rts_nil) (fun _ _ _ _ _ => (rv 8))) ra_nil)))
  (rss_cons (rs_set (i := 2) sc_stretched.nd rfl (Or.inl rfl) (re_lst ra_nil))
  (rss_cons (rs_for (passes_of rfl) rfl (ri_rng1 rfl n_range (ra_cons (o_sub (b_len n_len rfl (ra_cons (rv 1) ra_nil)) re_int) ra_nil)) (rg_name (i := 3) sc_stretched.nd rfl (Or.inl rfl))
  (rss_cons (rs_par (i := 4) (j := 5) rfl sc_stretched.nd rfl rfl (by decide) rfl rfl (ra_cons (re_ixA (hu_of hr) (rv 1) (rv 3)) (ra_cons (re_ixA (hu_of hr) (rv 1) (o_add (rv 3) re_int)) ra_nil)) (by rfl))
  (rss_cons (rs_set (i := 6) sc_stretched.nd rfl (Or.inl rfl) (c_ g_price_over hr hgd rfl (ra_cons (rv 0) (ra_cons (rv 4) (ra_cons (rv 5) ra_nil)))))
  (rss_cons (rs_if (RW.rt (rw_and (rt_truth (rv 2)) (rw_and (t_eq hr.units (re_ixA (hu_of hr) (re_ixA (hu_of hr) (rv 2) (o_neg re_int)) re_int) (rv 4)) (rw_and1 (t_eq hr.units (re_ixA (hu_of hr) (re_ixA (hu_of hr) (rv 2) (o_neg re_int)) re_int) (rv 6))))))
  (rss_one (rs_set (i := 4) sc_stretched.nd rfl (Or.inl rfl) (re_ixA (hu_of hr) (re_pop (rv 2)) re_int)))
  rss_nil)
  (rss_one (rs_if (t_ne hr.units (rv 6) (re_gt rfl t_NOUGHT))
  (rss_one (rs_expr (re_append (rv 2) (re_tup (ra_cons re_str (ra_cons (rv 4) (ra_cons (rv 5) (ra_cons (rv 6) ra_nil))))))))
  rss_nil))))))
  (rss_one (rs_ret (rv 2))))))
abbrev N_plain_score : List Str := ["score"]
theorem sc_plain_score : FnScope N_plain_score ["score"] (defScope s_plain_score) := ⟨rfl, rfl, rfl, by decide +kernel, rfl, by decide +kernel, by decide +kernel⟩
theorem ok_plain_score {P : Program} {w : World} {K : PySem.W.Frag} {mg : Str → Option Value} {base : Heap} (L : Loc K mg "plain_score" s_plain_score)
    (g_marked : Cal P w K mg base "marked" 4 ["score"] m_marked)
    (g_stretched : Cal P w K mg base "stretched" 5 ["score"] m_stretched)
    (n_tuple : mg "tuple" = none) :
    Cal P w K mg base "plain_score" 6 ["score"] m_plain_score :=
  Cal.of L sc_plain_score (fun _ _ _ _ _ _ us hl => match us, hl with | [_], _ => rfl) fun f cdv A outer s H E hr hgd =>
  (rss_one (rs_ret (b_tuple n_tuple rfl (ra_cons (o_add (c_ g_marked hr hgd rfl (ra_cons (rv 0) ra_nil)) (c_ g_stretched hr hgd rfl (ra_cons (rv 0) ra_nil))) ra_nil))))
abbrev N_is_rung : List Str := ["thing"]
theorem sc_is_rung : FnScope N_is_rung ["thing"] (defScope s_is_rung) := ⟨rfl, rfl, rfl, by decide +kernel, rfl, by decide +kernel, by decide +kernel⟩
theorem ok_is_rung {P : Program} {w : World} {K : PySem.W.Frag} {mg : Str → Option Value} {base : Heap} (L : Loc K mg "is_rung" s_is_rung)
    (g_is_row : Cal P w K mg base "is_row" 1 ["thing", "many"] m_is_row)
    (g_is_fraction : Cal P w K mg base "is_fraction" 1 ["thing"] m_is_fraction)
    (g_is_weight : Cal P w K mg base "is_weight" 2 ["thing"] m_is_weight) :
    Cal P w K mg base "is_rung" 3 ["thing"] m_is_rung :=
  Cal.of L sc_is_rung (fun _ _ _ _ _ _ us hl => match us, hl with | [_], _ => rfl) fun f cdv A outer s H E hr hgd =>
  (rss_one (rs_ret (re_and (c_ g_is_row hr hgd rfl (ra_cons (rv 0) (ra_cons re_int ra_nil))) (re_and (c_ g_is_fraction hr hgd rfl (ra_cons (re_ixA (hu_of hr) (rv 0) re_int) ra_nil)) (re_one (c_ g_is_weight hr hgd rfl (ra_cons (re_ixA (hu_of hr) (rv 0) re_int) ra_nil)))))))
abbrev N_wrong_rung : List Str := ["thing", "number", "rung"]
theorem sc_wrong_rung : FnScope N_wrong_rung ["thing"] (defScope s_wrong_rung) := ⟨rfl, rfl, rfl, by decide +kernel, rfl, by decide +kernel, by decide +kernel⟩
theorem ok_wrong_rung {P : Program} {w : World} {K : PySem.W.Frag} {mg : Str → Option Value} {base : Heap} (L : Loc K mg "wrong_rung" s_wrong_rung)
    (n_enumerate : mg "enumerate" = none)
    (g_is_rung : Cal P w K mg base "is_rung" 3 ["thing"] m_is_rung)
    (g_is_under : Cal P w K mg base "is_under" 1 ["one", "other"] m_is_under) :
    Cal P w K mg base "wrong_rung" 4 ["thing"] m_wrong_rung :=
  Cal.of L sc_wrong_rung (fun _ _ _ _ _ _ us hl => match us, hl with | [_], _ => rfl) fun f cdv A outer s H E hr hgd =>
  (rss_cons (rs_for (passes_of rfl) rfl (ri_enu rfl n_enumerate (ra_cons (rv 0) ra_nil)) (rg_tup (n := 2) rfl (rgs_cons (rg_name (i := 1) sc_wrong_rung.nd rfl (Or.inl rfl)) (rgs_cons (rg_name (i := 2) sc_wrong_rung.nd rfl (Or.inl rfl)) rgs_nil)))
  (rss_cons (rs_if (rt_not (rt_truth (c_ g_is_rung hr hgd rfl (ra_cons (rv 2) ra_nil))))
  (rss_one (rs_ret (rv 1)))
  rss_nil)
  (rss_one (rs_if (RW.rt (rw_and (t_gt (rv 1) re_int) (rw_and1 (rt_not (rt_truth (c_ g_is_under hr hgd rfl (ra_cons (re_ixA (hu_of hr) (re_ixA (hu_of hr) (rv 0) (o_sub (rv 1) re_int)) re_int) (ra_cons (re_ixA (hu_of hr) (rv 2) re_int) ra_nil))))))))
  (rss_one (rs_ret (rv 1)))
  rss_nil))))
  (rss_one (rs_ret re_non)))
abbrev N_sure_ladder : List Str := ["thing", "number"]
theorem sc_sure_ladder : FnScope N_sure_ladder ["thing"] (defScope s_sure_ladder) := ⟨rfl, rfl, rfl, by decide +kernel, rfl, by decide +kernel, by decide +kernel⟩
theorem ok_sure_ladder {P : Program} {w : World} {K : PySem.W.Frag} {mg : Str → Option Value} {base : Heap} (L : Loc K mg "sure_ladder" s_sure_ladder)
    (g_is_row_within : Cal P w K mg base "is_row_within" 1 ["thing", "least", "most"] m_is_row_within)
    (i_MOST_RUNGS : ∃ t, mg "MOST_RUNGS" = some (.int 10 t))
    (x_BadLadder : ExK P w K mg base "BadLadder" "number")
    (g_wrong_rung : Cal P w K mg base "wrong_rung" 4 ["thing"] m_wrong_rung)
    (g_copied : Cal P w K mg base "copied" 7 ["thing"] m_copied) :
    Cal P w K mg base "sure_ladder" 8 ["thing"] m_sure_ladder :=
  Cal.of L sc_sure_ladder (fun _ _ _ _ _ _ us hl => match us, hl with | [_], _ => rfl) fun f cdv A outer s H E hr hgd =>
  (rss_cons (rs_if (rt_not (rt_truth (c_ g_is_row_within hr hgd rfl (ra_cons (rv 0) (ra_cons re_int (ra_cons (re_gint rfl i_MOST_RUNGS) ra_nil))))))
  (rss_one (rs_raise x_BadLadder rfl (hr.mono (by decide)) rfl (ra_cons re_non ra_nil)))
  rss_nil)
  (rss_cons (rs_set (i := 1) sc_sure_ladder.nd rfl (Or.inl rfl) (c_ g_wrong_rung hr hgd rfl (ra_cons (rv 0) ra_nil)))
  (rss_cons (rs_if (t_isnt (rv 1) re_non)
  (rss_one (rs_raise x_BadLadder rfl (hr.mono (by decide)) rfl (ra_cons (rv 1) ra_nil)))
  rss_nil)
  (rss_one (rs_ret (c_ g_copied hr hgd rfl (ra_cons (rv 0) ra_nil)))))))
abbrev N_need_ladder : List Str := ["thing"]
theorem sc_need_ladder : FnScope N_need_ladder ["thing"] (defScope s_need_ladder) := ⟨rfl, rfl, rfl, by decide +kernel, rfl, by decide +kernel, by decide +kernel⟩
theorem ok_need_ladder {P : Program} {w : World} {K : PySem.W.Frag} {mg : Str → Option Value} {base : Heap} (L : Loc K mg "need_ladder" s_need_ladder)
    (g_sure_ladder : Cal P w K mg base "sure_ladder" 8 ["thing"] m_sure_ladder) :
    Cal P w K mg base "need_ladder" 9 ["thing"] m_need_ladder :=
  Cal.of L sc_need_ladder (fun _ _ _ _ _ _ us hl => match us, hl with | [_], _ => rfl) fun f cdv A outer s H E hr hgd =>
  (rss_cons (rs_expr (c_ g_sure_ladder hr hgd rfl (ra_cons (rv 0) ra_nil)))
  (rss_one (rs_ret (rv 0))))
abbrev N_as_score : List Str := ["ladder", "mark", "units"]
theorem sc_as_score : FnScope N_as_score ["ladder"] (defScope s_as_score) := ⟨rfl, rfl, rfl, by decide +kernel, rfl, by decide +kernel, by decide +kernel⟩
abbrev sc_as_score_1 : Scope := { kind := .function, names := [(".0", .local), ("mark", .local), ("units", .local)], isGenerator := false, isCoroutine := false, more := [] }
theorem ok_as_score {P : Program} {w : World} {K : PySem.W.Frag} {mg : Str → Option Value} {base : Heap} (L : Loc K mg "as_score" s_as_score)
    (g_sure_ladder : Cal P w K mg base "sure_ladder" 8 ["thing"] m_sure_ladder)
    (n_tuple : mg "tuple" = none) :
    Cal P w K mg base "as_score" 9 ["ladder"] m_as_score :=
  Cal.of L sc_as_score (fun _ _ _ _ _ _ us hl => match us, hl with | [_], _ => rfl) fun f cdv A outer s H E hr hgd =>
  (rss_one (rs_ret (b_tuple n_tuple rfl (ra_cons (re_lc (own := [("mark", 1), ("units", 2)]) rfl sc_as_score.nd (ri_val (c_ g_sure_ladder hr hgd rfl (ra_cons (rv 0) ra_nil))) (blkOk_by (own := [("mark", 1), ("units", 2)]) (N := N_as_score) (sc := (defScope s_as_score)) (by decide +kernel)) (by decide) (fun _ _ _ _ _ => (rg_tup (n := 2) rfl (rgs_cons (rg_name (i := 1) sc_as_score.nd rfl (Or.inl rfl)) (rgs_cons (rg_name (i := 2) sc_as_score.nd rfl (Or.inl rfl)) rgs_nil)))) (fun _ _ _ _ _ => rts_nil) (fun _ _ _ _ _ => (re_tup (ra_cons re_str (ra_cons (rv 1) (ra_cons (rv 2) ra_nil)))))) ra_nil))))
abbrev N_ladder_of : List Str := ["score", "pieces", "piece"]
theorem sc_ladder_of : FnScope N_ladder_of ["score"] (defScope s_ladder_of) := ⟨rfl, rfl, rfl, by decide +kernel, rfl, by decide +kernel, by decide +kernel⟩
abbrev sc_ladder_of_1 : Scope := { kind := .function, names := [(".0", .local), ("piece", .local)], isGenerator := false, isCoroutine := false, more := [] }
abbrev sc_ladder_of_2 : Scope := { kind := .function, names := [(".0", .local), ("piece", .local)], isGenerator := false, isCoroutine := false, more := [] }
theorem ok_ladder_of {P : Program} {w : World} {K : PySem.W.Frag} {mg : Str → Option Value} {base : Heap} (L : Loc K mg "ladder_of" s_ladder_of)
    (g_plain_score : Cal P w K mg base "plain_score" 6 ["score"] m_plain_score)
    (g_sure_score : Cal P w K mg base "sure_score" 8 ["thing"] m_sure_score)
    (n_any : mg "any" = none)
    (n_tuple : mg "tuple" = none) :
    Cal P w K mg base "ladder_of" 9 ["score"] m_ladder_of :=
  Cal.of L sc_ladder_of (fun _ _ _ _ _ _ us hl => match us, hl with | [_], _ => rfl) fun f cdv A outer s H E hr hgd =>
  (rss_cons (rs_set (i := 1) sc_ladder_of.nd rfl (Or.inl rfl) (c_ g_plain_score hr hgd rfl (ra_cons (c_ g_sure_score hr hgd rfl (ra_cons (rv 0) ra_nil)) ra_nil)))
  (rss_cons (rs_if (rt_truth (b_any rfl n_any rfl (ra_cons (re_lc (own := [("piece", 2)]) rfl sc_ladder_of.nd (ri_val (rv 1)) (blkOk_by (own := [("piece", 2)]) (N := N_ladder_of) (sc := (defScope s_ladder_of)) (by decide +kernel)) (by decide) (fun _ _ _ _ _ => (rg_name (i := 2) sc_ladder_of.nd rfl (Or.inl rfl))) (fun _ _ _ _ _ => rts_nil) (fun _ _ _ _ _ => (o_eq hr.units (re_ixA (hu_of hr) (rv 2) re_int) re_str))) ra_nil)))
  (rss_one (rs_ret re_non))
  rss_nil)
  (rss_one (rs_ret (b_tuple n_tuple rfl (ra_cons (re_lc (own := [("piece", 2)]) rfl sc_ladder_of.nd (ri_val (rv 1)) (blkOk_by (own := [("piece", 2)]) (N := N_ladder_of) (sc := (defScope s_ladder_of)) (by decide +kernel)) (by decide) (fun _ _ _ _ _ => (rg_name (i := 2) sc_ladder_of.nd rfl (Or.inl rfl))) (fun _ _ _ _ _ => rts_nil) (fun _ _ _ _ _ => (re_tup (ra_cons (re_ixA (hu_of hr) (rv 2) re_int) (ra_cons (re_ixA (hu_of hr) (rv 2) re_int) ra_nil))))) ra_nil))))))
abbrev N__law_mixed : List Str := ["cell", "k"]
theorem sc__law_mixed : FnScope N__law_mixed ["cell", "k"] (defScope s__law_mixed) := ⟨rfl, rfl, rfl, by decide +kernel, rfl, by decide +kernel, by decide +kernel⟩
theorem ok__law_mixed {P : Program} {w : World} {K : PySem.W.Frag} {mg : Str → Option Value} {base : Heap} (L : Loc K mg "_law_mixed" s__law_mixed)
    (n_int : mg "int" = none) :
    Cal P w K mg base "_law_mixed" 1 ["cell", "k"] m__law_mixed :=
  Cal.of L sc__law_mixed (fun _ _ _ _ _ _ us hl => match us, hl with | [_, _], _ => rfl) fun f cdv A outer s H E hr hgd =>
  (rss_cons (rs_set (i := 0) sc__law_mixed.nd rfl (Or.inl rfl) (o_mod (b_int n_int rfl (ra_cons (rv 0) ra_nil)) re_int))
  (rss_one (rs_ret (o_mod (o_mul (o_mod (o_add (o_add (o_mul (rv 0) (o_add re_int (o_mul (o_mul re_int (rv 1)) (rv 1)))) (o_mul re_int (rv 1))) re_int) re_int) re_int) re_int))))
abbrev N__law_begin : List Str := ["script", "cells", "cell"]
theorem sc__law_begin : FnScope N__law_begin ["script"] (defScope s__law_begin) := ⟨rfl, rfl, rfl, by decide +kernel, rfl, by decide +kernel, by decide +kernel⟩
abbrev sc__law_begin_1 : Scope := { kind := .function, names := [(".0", .local), ("cell", .local)], isGenerator := false, isCoroutine := false, more := [] }
theorem ok__law_begin {P : Program} {w : World} {K : PySem.W.Frag} {mg : Str → Option Value} {base : Heap} (L : Loc K mg "_law_begin" s__law_begin)
    (n_list : mg "list" = none) :
    Cal P w K mg base "_law_begin" 1 ["script"] m__law_begin :=
  Cal.of L sc__law_begin (fun _ _ _ _ _ _ us hl => match us, hl with | [_], _ => rfl) fun f cdv A outer s H E hr hgd =>
  (rss_cons (rs_set (i := 1) sc__law_begin.nd rfl (Or.inl rfl) (re_ifx (t_ne hr.units (rv 0) (re_lst ra_nil)) (b_listA rfl n_list rfl (ra_cons (rv 0) ra_nil)) (re_lst (ra_cons re_int ra_nil))))
  (rss_one (rs_ret (re_disp (rps_cons re_str (rv 1) (rps_cons re_str (re_lc (own := [("cell", 2)]) rfl sc__law_begin.nd (ri_val (rv 1)) (blkOk_by (own := [("cell", 2)]) (N := N__law_begin) (sc := (defScope s__law_begin)) (by decide +kernel)) (by decide) (fun _ _ _ _ _ => (rg_name (i := 2) sc__law_begin.nd rfl (Or.inl rfl))) (fun _ _ _ _ _ => rts_nil) (fun _ _ _ _ _ => (re_ifx (t_ge (rv 2) (o_pow re_int re_int)) (rv 2) re_int))) (rps_cons re_str re_int (rps_cons re_str re_int rps_nil))))))))
abbrev N__law_draw : List Str := ["state", "many", "at", "place", "left", "number"]
theorem sc__law_draw : FnScope N__law_draw ["state", "many"] (defScope s__law_draw) := ⟨rfl, rfl, rfl, by decide +kernel, rfl, by decide +kernel, by decide +kernel⟩
theorem ok__law_draw {P : Program} {w : World} {K : PySem.W.Frag} {mg : Str → Option Value} {base : Heap} (L : Loc K mg "_law_draw" s__law_draw)
    (n_int : mg "int" = none)
    (n_len : mg "len" = none)
    (g__law_mixed : Cal P w K mg base "_law_mixed" 1 ["cell", "k"] m__law_mixed) :
    Cal P w K mg base "_law_draw" 2 ["state", "many"] m__law_draw :=
  Cal.of L sc__law_draw (fun _ _ _ _ _ _ us hl => match us, hl with | [_, _], _ => rfl) fun f cdv A outer s H E hr hgd =>
  (rss_cons (rs_set (i := 2) sc__law_draw.nd rfl (Or.inl rfl) (re_ixA (hu_of hr) (rv 0) re_str))
  (rss_cons (rs_asg (o_add (rv 2) re_int) (rg_subA (hu_of hr) (rv 0) re_str))
  (rss_cons (rs_set (i := 3) sc__law_draw.nd rfl (Or.inl rfl) (o_mod (b_int n_int rfl (ra_cons (rv 2) ra_nil)) (b_len n_len rfl (ra_cons (re_ixA (hu_of hr) (rv 0) re_str) ra_nil))))
  (rss_cons (rs_set (i := 4) sc__law_draw.nd rfl (Or.inl rfl) (re_ixA (hu_of hr) (re_ixA (hu_of hr) (rv 0) re_str) (rv 3)))
  (rss_cons (rs_if (t_gt (rv 4) re_int)
  (rss_cons (rs_asg (o_fdiv (rv 4) (rv 1)) (rg_subA (hu_of hr) (re_ixA (hu_of hr) (rv 0) re_str) (rv 3)))
  (rss_one (rs_ret (o_mod (b_int n_int rfl (ra_cons (rv 4) ra_nil)) (rv 1)))))
  rss_nil)
  (rss_cons (rs_set (i := 5) sc__law_draw.nd rfl (Or.inl rfl) (c_ g__law_mixed hr hgd rfl (ra_cons (c_ g__law_mixed hr hgd rfl (ra_cons (re_ixA (hu_of hr) (re_ixA (hu_of hr) (rv 0) re_str) (rv 3)) (ra_cons (rv 2) ra_nil))) (ra_cons (o_add re_int (rv 2)) ra_nil))))
  (rss_one (rs_ret (o_mod (o_fdiv (b_int n_int rfl (ra_cons (o_add (o_mul (rv 5) re_int) (c_ g__law_mixed hr hgd rfl (ra_cons (rv 5) (ra_cons (o_add re_int (rv 2)) ra_nil)))) ra_nil)) re_int) (rv 1))))))))))
abbrev N__law_ratio : List Str := ["top", "bottom", "one", "other"]
theorem sc__law_ratio : FnScope N__law_ratio ["top", "bottom"] (defScope s__law_ratio) := ⟨rfl, rfl, rfl, by decide +kernel, rfl, by decide +kernel, by decide +kernel⟩
theorem ok__law_ratio {P : Program} {w : World} {K : PySem.W.Frag} {mg : Str → Option Value} {base : Heap} (L : Loc K mg "_law_ratio" s__law_ratio)
    (n_abs : mg "abs" = none)
    (n_int : mg "int" = none) :
    Cal P w K mg base "_law_ratio" 1 ["top", "bottom"] m__law_ratio :=
  Cal.of L sc__law_ratio (fun _ _ _ _ _ _ us hl => match us, hl with | [_, _], _ => rfl) fun f cdv A outer s H E hr hgd =>
  (rss_cons (rs_par (i := 2) (j := 3) rfl sc__law_ratio.nd rfl rfl (by decide) rfl rfl (ra_cons (b_abs n_abs rfl (ra_cons (rv 0) ra_nil)) (ra_cons (rv 1) ra_nil)) (by rfl))
  (rss_cons (rs_while (passes_of rfl) (t_ne hr.units (rv 3) re_int)
  (rss_one (rs_par (i := 2) (j := 3) rfl sc__law_ratio.nd rfl rfl (by decide) rfl rfl (ra_cons (rv 3) (ra_cons (o_mod (b_int n_int rfl (ra_cons (rv 2) ra_nil)) (rv 3)) ra_nil)) (by rfl))))
  (rss_one (rs_ret (re_tup (ra_cons (o_fdiv (rv 0) (rv 2)) (ra_cons (o_fdiv (rv 1) (rv 2)) ra_nil)))))))
abbrev N__law_plus : List Str := ["one", "other"]
theorem sc__law_plus : FnScope N__law_plus ["one", "other"] (defScope s__law_plus) := ⟨rfl, rfl, rfl, by decide +kernel, rfl, by decide +kernel, by decide +kernel⟩
theorem ok__law_plus {P : Program} {w : World} {K : PySem.W.Frag} {mg : Str → Option Value} {base : Heap} (L : Loc K mg "_law_plus" s__law_plus)
    (g__law_ratio : Cal P w K mg base "_law_ratio" 1 ["top", "bottom"] m__law_ratio) :
    Cal P w K mg base "_law_plus" 2 ["one", "other"] m__law_plus :=
  Cal.of L sc__law_plus (fun _ _ _ _ _ _ us hl => match us, hl with | [_, _], _ => rfl) fun f cdv A outer s H E hr hgd =>
  (rss_one (rs_ret (c_ g__law_ratio hr hgd rfl (ra_cons (o_add (o_mul (re_ixA (hu_of hr) (rv 0) re_int) (re_ixA (hu_of hr) (rv 1) re_int)) (o_mul (re_ixA (hu_of hr) (rv 1) re_int) (re_ixA (hu_of hr) (rv 0) re_int))) (ra_cons (o_mul (re_ixA (hu_of hr) (rv 0) re_int) (re_ixA (hu_of hr) (rv 1) re_int)) ra_nil)))))
abbrev N__law_under : List Str := ["one", "other"]
theorem sc__law_under : FnScope N__law_under ["one", "other"] (defScope s__law_under) := ⟨rfl, rfl, rfl, by decide +kernel, rfl, by decide +kernel, by decide +kernel⟩
theorem ok__law_under {P : Program} {w : World} {K : PySem.W.Frag} {mg : Str → Option Value} {base : Heap} (L : Loc K mg "_law_under" s__law_under) :
    Cal P w K mg base "_law_under" 1 ["one", "other"] m__law_under :=
  Cal.of L sc__law_under (fun _ _ _ _ _ _ us hl => match us, hl with | [_, _], _ => rfl) fun f cdv A outer s H E hr hgd =>
  (rss_one (rs_ret (o_lt (o_mul (re_ixA (hu_of hr) (rv 0) re_int) (re_ixA (hu_of hr) (rv 1) re_int)) (o_mul (re_ixA (hu_of hr) (rv 1) re_int) (re_ixA (hu_of hr) (rv 0) re_int)))))
abbrev N__law_sum : List Str := ["some", "found", "one"]
theorem sc__law_sum : FnScope N__law_sum ["some"] (defScope s__law_sum) := ⟨rfl, rfl, rfl, by decide +kernel, rfl, by decide +kernel, by decide +kernel⟩
theorem ok__law_sum {P : Program} {w : World} {K : PySem.W.Frag} {mg : Str → Option Value} {base : Heap} (L : Loc K mg "_law_sum" s__law_sum)
    (g__law_plus : Cal P w K mg base "_law_plus" 2 ["one", "other"] m__law_plus) :
    Cal P w K mg base "_law_sum" 3 ["some"] m__law_sum :=
  Cal.of L sc__law_sum (fun _ _ _ _ _ _ us hl => match us, hl with | [_], _ => rfl) fun f cdv A outer s H E hr hgd =>
  (rss_cons (rs_set (i := 1) sc__law_sum.nd rfl (Or.inl rfl) (re_tup (ra_cons re_int (ra_cons re_int ra_nil))))
  (rss_cons (rs_for (passes_of rfl) rfl (ri_val (rv 0)) (rg_name (i := 2) sc__law_sum.nd rfl (Or.inl rfl))
  (rss_one (rs_set (i := 1) sc__law_sum.nd rfl (Or.inl rfl) (c_ g__law_plus hr hgd rfl (ra_cons (rv 1) (ra_cons (rv 2) ra_nil))))))
  (rss_one (rs_ret (rv 1)))))
abbrev N__law_sorted : List Str := ["some", "got", "one", "spot", "far"]
theorem sc__law_sorted : FnScope N__law_sorted ["some"] (defScope s__law_sorted) := ⟨rfl, rfl, rfl, by decide +kernel, rfl, by decide +kernel, by decide +kernel⟩
abbrev sc__law_sorted_1 : Scope := { kind := .function, names := [(".0", .local), ("far", .local), ("_law_under", .globalImplicit), ("one", .free)], isGenerator := false, isCoroutine := false, more := [] }
theorem ok__law_sorted {P : Program} {w : World} {K : PySem.W.Frag} {mg : Str → Option Value} {base : Heap} (L : Loc K mg "_law_sorted" s__law_sorted)
    (g__law_under : Cal P w K mg base "_law_under" 1 ["one", "other"] m__law_under)
    (n_len : mg "len" = none) :
    Cal P w K mg base "_law_sorted" 2 ["some"] m__law_sorted :=
  Cal.of L sc__law_sorted (fun _ _ _ _ _ _ us hl => match us, hl with | [_], _ => rfl) fun f cdv A outer s H E hr hgd =>
  (rss_cons (rs_set (i := 1) sc__law_sorted.nd rfl (Or.inl rfl) (re_lst ra_nil))
  (rss_cons (rs_for (passes_of rfl) rfl (ri_val (rv 0)) (rg_name (i := 2) sc__law_sorted.nd rfl (Or.inr rfl))
  (rss_cons (rs_set (i := 3) sc__law_sorted.nd rfl (Or.inl rfl) (b_len n_len rfl (ra_cons (re_lc (own := [("far", 4)]) rfl sc__law_sorted.nd (ri_val (rv 1)) (blkOk_by (own := [("far", 4)]) (N := N__law_sorted) (sc := (defScope s__law_sorted)) (by decide +kernel)) (by decide) (fun _ _ _ _ _ => (rg_name (i := 4) sc__law_sorted.nd rfl (Or.inl rfl))) (fun _ _ _ _ _ => (rts_one (rt_truth (c_ g__law_under hr hgd rfl (ra_cons (rv 4) (ra_cons (rv 2) ra_nil)))))) (fun _ _ _ _ _ => (rv 4))) ra_nil)))
  (rss_one (rs_if (t_nin (Room.units65 hr) (rv 2) (rv 1))
  (rss_one (rs_set (i := 1) sc__law_sorted.nd rfl (Or.inl rfl) (o_add (o_add (re_slice (rv 1) ro_none (ro_some (rv 3))) (re_lst (ra_cons (rv 2) ra_nil))) (re_slice (rv 1) (ro_some (rv 3)) ro_none))))
  rss_nil))))
  (rss_one (rs_ret (rv 1)))))
abbrev N__law_small : List Str := ["state"]
theorem sc__law_small : FnScope N__law_small ["state"] (defScope s__law_small) := ⟨rfl, rfl, rfl, by decide +kernel, rfl, by decide +kernel, by decide +kernel⟩
theorem ok__law_small {P : Program} {w : World} {K : PySem.W.Frag} {mg : Str → Option Value} {base : Heap} (L : Loc K mg "_law_small" s__law_small)
    (g__law_ratio : Cal P w K mg base "_law_ratio" 1 ["top", "bottom"] m__law_ratio)
    (g__law_draw : Cal P w K mg base "_law_draw" 2 ["state", "many"] m__law_draw) :
    Cal P w K mg base "_law_small" 3 ["state"] m__law_small :=
  Cal.of L sc__law_small (fun _ _ _ _ _ _ us hl => match us, hl with | [_], _ => rfl) fun f cdv A outer s H E hr hgd =>
  (rss_one (rs_ret (c_ g__law_ratio hr hgd rfl (ra_cons (o_sub (c_ g__law_draw hr hgd rfl (ra_cons (rv 0) (ra_cons re_int ra_nil))) re_int) (ra_cons (o_add re_int (c_ g__law_draw hr hgd rfl (ra_cons (rv 0) (ra_cons re_int ra_nil)))) ra_nil)))))
abbrev N__law_score : List Str := ["state", "many", "found", "k", "price", "low"]
theorem sc__law_score : FnScope N__law_score ["state", "many"] (defScope s__law_score) := ⟨rfl, rfl, rfl, by decide +kernel, rfl, by decide +kernel, by decide +kernel⟩
theorem ok__law_score {P : Program} {w : World} {K : PySem.W.Frag} {mg : Str → Option Value} {base : Heap} (L : Loc K mg "_law_score" s__law_score)
    (g__law_draw : Cal P w K mg base "_law_draw" 2 ["state", "many"] m__law_draw)
    (n_range : mg "range" = none)
    (g__law_ratio : Cal P w K mg base "_law_ratio" 1 ["top", "bottom"] m__law_ratio)
    (g__law_small : Cal P w K mg base "_law_small" 3 ["state"] m__law_small)
    (g__law_plus : Cal P w K mg base "_law_plus" 2 ["one", "other"] m__law_plus)
    (n_tuple : mg "tuple" = none) :
    Cal P w K mg base "_law_score" 4 ["state", "many"] m__law_score :=
  Cal.of L sc__law_score (fun _ _ _ _ _ _ us hl => match us, hl with | [_, _], _ => rfl) fun f cdv A outer s H E hr hgd =>
  (rss_cons (rs_set (i := 2) sc__law_score.nd rfl (Or.inl rfl) (re_lst ra_nil))
  (rss_cons (rs_for (passes_of rfl) rfl (ri_rng1 rfl n_range (ra_cons (c_ g__law_draw hr hgd rfl (ra_cons (rv 0) (ra_cons (o_add (rv 1) re_int) ra_nil))) ra_nil)) (rg_name (i := 3) sc__law_score.nd rfl (Or.inl rfl))
  (rss_cons (rs_par (i := 4) (j := 5) rfl sc__law_score.nd rfl rfl (by decide) rfl rfl (ra_cons (c_ g__law_ratio hr hgd rfl (ra_cons (c_ g__law_draw hr hgd rfl (ra_cons (rv 0) (ra_cons re_int ra_nil))) (ra_cons (o_add re_int (c_ g__law_draw hr hgd rfl (ra_cons (rv 0) (ra_cons re_int ra_nil)))) ra_nil))) (ra_cons (c_ g__law_small hr hgd rfl (ra_cons (rv 0) ra_nil)) ra_nil)) (by rfl))
  (rss_one (rs_if (t_eq hr.units (c_ g__law_draw hr hgd rfl (ra_cons (rv 0) (ra_cons re_int ra_nil))) re_int)
  (rss_one (rs_expr (re_append (rv 2) (re_tup (ra_cons re_str (ra_cons (rv 5) (ra_cons (rv 4) ra_nil)))))))
  (rss_one (rs_expr (re_append (rv 2) (re_tup (ra_cons re_str (ra_cons (rv 5) (ra_cons (c_ g__law_plus hr hgd rfl (ra_cons (rv 5) (ra_cons (c_ g__law_ratio hr hgd rfl (ra_cons (o_add re_int (c_ g__law_draw hr hgd rfl (ra_cons (rv 0) (ra_cons re_int ra_nil)))) (ra_cons re_int ra_nil))) ra_nil))) (ra_cons (rv 4) ra_nil))))))))))))
  (rss_one (rs_ret (b_tuple n_tuple rfl (ra_cons (rv 2) ra_nil))))))
abbrev N__law_plain : List Str := ["score_so", "marks", "found", "mark", "price", "some", "ends", "rows", "low", "high", "inner", "piece"]
theorem sc__law_plain : FnScope N__law_plain ["score_so"] (defScope s__law_plain) := ⟨rfl, rfl, rfl, by decide +kernel, rfl, by decide +kernel, by decide +kernel⟩
abbrev sc__law_plain_1 : Scope := { kind := .function, names := [(".0", .local), ("piece", .local)], isGenerator := false, isCoroutine := false, more := [] }
abbrev sc__law_plain_2 : Scope := { kind := .function, names := [(".0", .local), ("piece", .local), ("mark", .free)], isGenerator := false, isCoroutine := false, more := [] }
abbrev sc__law_plain_3 : Scope := { kind := .function, names := [(".0", .local), ("piece", .local)], isGenerator := false, isCoroutine := false, more := [] }
abbrev sc__law_plain_4 : Scope := { kind := .function, names := [(".0", .local), ("piece", .local)], isGenerator := false, isCoroutine := false, more := [] }
abbrev sc__law_plain_5 : Scope := { kind := .function, names := [(".0", .local), ("piece", .local)], isGenerator := false, isCoroutine := false, more := [] }
abbrev sc__law_plain_6 : Scope := { kind := .function, names := [(".0", .local), ("piece", .local), ("_law_under", .globalImplicit), ("low", .free)], isGenerator := false, isCoroutine := false, more := [] }
abbrev sc__law_plain_7 : Scope := { kind := .function, names := [(".0", .local), ("piece", .local), ("_law_under", .globalImplicit), ("high", .free)], isGenerator := false, isCoroutine := false, more := [] }
theorem ok__law_plain {P : Program} {w : World} {K : PySem.W.Frag} {mg : Str → Option Value} {base : Heap} (L : Loc K mg "_law_plain" s__law_plain)
    (g__law_sorted : Cal P w K mg base "_law_sorted" 2 ["some"] m__law_sorted)
    (g__law_sum : Cal P w K mg base "_law_sum" 3 ["some"] m__law_sum)
    (n_zip : mg "zip" = none)
    (g__law_under : Cal P w K mg base "_law_under" 1 ["one", "other"] m__law_under)
    (n_tuple : mg "tuple" = none) :
    Cal P w K mg base "_law_plain" 4 ["score_so"] m__law_plain :=
  Cal.of L sc__law_plain (fun _ _ _ _ _ _ us hl => match us, hl with | [_], _ => rfl) fun f cdv A outer s H E hr hgd =>
  (rss_cons (rs_set (i := 1) sc__law_plain.nd rfl (Or.inl rfl) (c_ g__law_sorted hr hgd rfl (ra_cons (re_lc (own := [("piece", 11)]) rfl sc__law_plain.nd (ri_val (rv 0)) (blkOk_by (own := [("piece", 11)]) (N := N__law_plain) (sc := (defScope s__law_plain)) (by decide +kernel)) (by decide) (fun _ _ _ _ _ => (rg_name (i := 11) sc__law_plain.nd rfl (Or.inl rfl))) (fun _ _ _ _ _ => (rts_one (t_eq hr.units (re_ixA (hu_of hr) (rv 11) re_int) re_str))) (fun _ _ _ _ _ => (re_ixA (hu_of hr) (rv 11) re_int))) ra_nil)))
  (rss_cons (rs_set (i := 2) sc__law_plain.nd rfl (Or.inl rfl) (re_lst ra_nil))
  (rss_cons (rs_for (passes_of rfl) rfl (ri_val (rv 1)) (rg_name (i := 3) sc__law_plain.nd rfl (Or.inr rfl))
  (rss_cons (rs_set (i := 4) sc__law_plain.nd rfl (Or.inl rfl) (c_ g__law_sum hr hgd rfl (ra_cons (re_lc (own := [("piece", 11)]) rfl sc__law_plain.nd (ri_val (rv 0)) (blkOk_by (own := [("piece", 11)]) (N := N__law_plain) (sc := (defScope s__law_plain)) (by decide +kernel)) (by decide) (fun _ _ _ _ _ => (rg_name (i := 11) sc__law_plain.nd rfl (Or.inl rfl))) (fun _ _ _ _ _ => (rts_one (t_eq hr.units (re_slice (rv 11) ro_none (ro_some re_int)) (re_tup (ra_cons re_str (ra_cons (rv 3) ra_nil)))))) (fun _ _ _ _ _ => (re_ixA (hu_of hr) (rv 11) re_int))) ra_nil)))
  (rss_one (rs_set (i := 2) sc__law_plain.nd rfl (Or.inl rfl) (o_add (rv 2) (re_ifx (t_ne hr.units (rv 4) (re_tup (ra_cons re_int (ra_cons re_int ra_nil)))) (re_lst (ra_cons (re_tup (ra_cons re_str (ra_cons (rv 3) (ra_cons (rv 4) ra_nil)))) ra_nil)) (re_lst ra_nil)))))))
  (rss_cons (rs_setLc (i := 5) (own := [("piece", 11)]) rfl sc__law_plain.nd rfl rfl (sw_true rfl rfl rfl (by decide +kernel)) (ri_val (rv 0)) (blkOk_by (own := [("piece", 11)]) (N := N__law_plain) (sc := (defScope s__law_plain)) (by decide +kernel)) (by decide) (fun _ _ _ _ _ => (rg_name (i := 11) sc__law_plain.nd rfl (Or.inl rfl))) (fun _ _ _ _ _ => (rts_one (t_eq hr.units (re_ixA (hu_of hr) (rv 11) re_int) re_str))) (fun _ _ _ _ _ => (rv 11)))
  (rss_cons (rs_par (i := 6) (j := 7) rfl sc__law_plain.nd rfl rfl (by decide) rfl rfl (ra_cons (c_ g__law_sorted hr hgd rfl (ra_cons (o_add (re_lc (own := [("piece", 11)]) rfl sc__law_plain.nd (ri_val (rv 5)) (blkOk_by (own := [("piece", 11)]) (N := N__law_plain) (sc := (defScope s__law_plain)) (by decide +kernel)) (by decide) (fun _ _ _ _ _ => (rg_name (i := 11) sc__law_plain.nd rfl (Or.inl rfl))) (fun _ _ _ _ _ => rts_nil) (fun _ _ _ _ _ => (re_ixA (hu_of hr) (rv 11) re_int))) (re_lc (own := [("piece", 11)]) rfl sc__law_plain.nd (ri_val (rv 5)) (blkOk_by (own := [("piece", 11)]) (N := N__law_plain) (sc := (defScope s__law_plain)) (by decide +kernel)) (by decide) (fun _ _ _ _ _ => (rg_name (i := 11) sc__law_plain.nd rfl (Or.inl rfl))) (fun _ _ _ _ _ => rts_nil) (fun _ _ _ _ _ => (re_ixA (hu_of hr) (rv 11) re_int)))) ra_nil)) (ra_cons (re_lst ra_nil) ra_nil)) (by rfl))
  (rss_cons (rs_for (passes_of rfl) rfl (ri_zip rfl n_zip (ra_cons (rv 6) (ra_cons (re_slice (rv 6) (ro_some re_int) ro_none) ra_nil))) (rg_tup (n := 2) rfl (rgs_cons (rg_name (i := 8) sc__law_plain.nd rfl (Or.inr rfl)) (rgs_cons (rg_name (i := 9) sc__law_plain.nd rfl (Or.inr rfl)) rgs_nil)))
  (rss_cons (rs_setLc (i := 10) (own := [("piece", 11)]) rfl sc__law_plain.nd rfl rfl (sw_true rfl rfl rfl (by decide +kernel)) (ri_val (rv 5)) (blkOk_by (own := [("piece", 11)]) (N := N__law_plain) (sc := (defScope s__law_plain)) (by decide +kernel)) (by decide) (fun _ _ _ _ _ => (rg_name (i := 11) sc__law_plain.nd rfl (Or.inl rfl))) (fun _ _ _ _ _ => (rts_one (rt_not (rt_truth (c_ g__law_under hr hgd rfl (ra_cons (rv 8) (ra_cons (re_ixA (hu_of hr) (rv 11) re_int) ra_nil))))))) (fun _ _ _ _ _ => (rv 11)))
  (rss_cons (rs_set (i := 4) sc__law_plain.nd rfl (Or.inl rfl) (c_ g__law_sum hr hgd rfl (ra_cons (re_lc (own := [("piece", 11)]) rfl sc__law_plain.nd (ri_val (rv 10)) (blkOk_by (own := [("piece", 11)]) (N := N__law_plain) (sc := (defScope s__law_plain)) (by decide +kernel)) (by decide) (fun _ _ _ _ _ => (rg_name (i := 11) sc__law_plain.nd rfl (Or.inl rfl))) (fun _ _ _ _ _ => (rts_one (rt_not (rt_truth (c_ g__law_under hr hgd rfl (ra_cons (re_ixA (hu_of hr) (rv 11) re_int) (ra_cons (rv 9) ra_nil))))))) (fun _ _ _ _ _ => (re_ixA (hu_of hr) (rv 11) re_int))) ra_nil)))
  (rss_one (rs_if (RW.rt (rw_and (t_ne hr.units (rv 7) (re_lst ra_nil)) (rw_and1 (t_eq hr.units (re_slice (re_ixA (hu_of hr) (rv 7) (o_neg re_int)) (ro_some re_int) ro_none) (re_tup (ra_cons (rv 8) (ra_cons (rv 4) ra_nil)))))))
  (rss_one (rs_asg (re_tup (ra_cons re_str (ra_cons (re_ixA (hu_of hr) (re_ixA (hu_of hr) (rv 7) (o_neg re_int)) re_int) (ra_cons (rv 9) (ra_cons (rv 4) ra_nil))))) (rg_subA (hu_of hr) (rv 7) (o_neg re_int))))
  (rss_one (rs_if (t_ne hr.units (rv 4) (re_tup (ra_cons re_int (ra_cons re_int ra_nil))))
  (rss_one (rs_expr (re_append (rv 7) (re_tup (ra_cons re_str (ra_cons (rv 8) (ra_cons (rv 9) (ra_cons (rv 4) ra_nil))))))))
  rss_nil)))))))
  (rss_one (rs_ret (b_tuple n_tuple rfl (ra_cons (o_add (rv 2) (rv 7)) ra_nil))))))))))
abbrev N__law_ladder : List Str := ["state", "many", "marks", "k", "mark"]
theorem sc__law_ladder : FnScope N__law_ladder ["state", "many"] (defScope s__law_ladder) := ⟨rfl, rfl, rfl, by decide +kernel, rfl, by decide +kernel, by decide +kernel⟩
abbrev sc__law_ladder_1 : Scope := { kind := .function, names := [(".0", .local), ("k", .local), ("_law_small", .globalImplicit), ("state", .free)], isGenerator := false, isCoroutine := false, more := [] }
abbrev sc__law_ladder_2 : Scope := { kind := .function, names := [(".0", .local), ("mark", .local), ("_law_ratio", .globalImplicit), ("_law_draw", .globalImplicit), ("state", .free)], isGenerator := false, isCoroutine := false, more := [] }
theorem ok__law_ladder {P : Program} {w : World} {K : PySem.W.Frag} {mg : Str → Option Value} {base : Heap} (L : Loc K mg "_law_ladder" s__law_ladder)
    (g__law_sorted : Cal P w K mg base "_law_sorted" 2 ["some"] m__law_sorted)
    (g__law_draw : Cal P w K mg base "_law_draw" 2 ["state", "many"] m__law_draw)
    (n_range : mg "range" = none)
    (g__law_small : Cal P w K mg base "_law_small" 3 ["state"] m__law_small)
    (g__law_ratio : Cal P w K mg base "_law_ratio" 1 ["top", "bottom"] m__law_ratio)
    (n_tuple : mg "tuple" = none) :
    Cal P w K mg base "_law_ladder" 4 ["state", "many"] m__law_ladder :=
  Cal.of L sc__law_ladder (fun _ _ _ _ _ _ us hl => match us, hl with | [_, _], _ => rfl) fun f cdv A outer s H E hr hgd =>
  (rss_cons (rs_set (i := 2) sc__law_ladder.nd rfl (Or.inl rfl) (c_ g__law_sorted hr hgd rfl (ra_cons (re_lc (own := [("k", 3)]) rfl sc__law_ladder.nd (ri_rng1 rfl n_range (ra_cons (c_ g__law_draw hr hgd rfl (ra_cons (rv 0) (ra_cons (o_add (rv 1) re_int) ra_nil))) ra_nil)) (blkOk_by (own := [("k", 3)]) (N := N__law_ladder) (sc := (defScope s__law_ladder)) (by decide +kernel)) (by decide) (fun _ _ _ _ _ => (rg_name (i := 3) sc__law_ladder.nd rfl (Or.inl rfl))) (fun _ _ _ _ _ => rts_nil) (fun _ _ _ _ _ => (c_ g__law_small hr hgd rfl (ra_cons (rv 0) ra_nil)))) ra_nil)))
  (rss_one (rs_ret (b_tuple n_tuple rfl (ra_cons (re_lc (own := [("mark", 4)]) rfl sc__law_ladder.nd (ri_val (rv 2)) (blkOk_by (own := [("mark", 4)]) (N := N__law_ladder) (sc := (defScope s__law_ladder)) (by decide +kernel)) (by decide) (fun _ _ _ _ _ => (rg_name (i := 4) sc__law_ladder.nd rfl (Or.inl rfl))) (fun _ _ _ _ _ => rts_nil) (fun _ _ _ _ _ => (re_tup (ra_cons (rv 4) (ra_cons (c_ g__law_ratio hr hgd rfl (ra_cons (o_add re_int (c_ g__law_draw hr hgd rfl (ra_cons (rv 0) (ra_cons re_int ra_nil)))) (ra_cons (o_add re_int (c_ g__law_draw hr hgd rfl (ra_cons (rv 0) (ra_cons re_int ra_nil)))) ra_nil))) ra_nil))))) ra_nil)))))
abbrev N__law_good : List Str := ["state", "ladder_so", "score_so", "marks", "rows", "due", "told", "mark", "units", "piece"]
theorem sc__law_good : FnScope N__law_good ["state"] (defScope s__law_good) := ⟨rfl, rfl, rfl, by decide +kernel, rfl, by decide +kernel, by decide +kernel⟩
abbrev sc__law_good_1 : Scope := { kind := .function, names := [(".0", .local), ("mark", .local), ("units", .local)], isGenerator := false, isCoroutine := false, more := [] }
abbrev sc__law_good_2 : Scope := { kind := .function, names := [(".0", .local), ("piece", .local)], isGenerator := false, isCoroutine := false, more := [] }
abbrev sc__law_good_3 : Scope := { kind := .function, names := [(".0", .local), ("piece", .local)], isGenerator := false, isCoroutine := false, more := [] }
theorem ok__law_good {P : Program} {w : World} {K : PySem.W.Frag} {mg : Str → Option Value} {base : Heap} (L : Loc K mg "_law_good" s__law_good)
    (g__law_ladder : Cal P w K mg base "_law_ladder" 4 ["state", "many"] m__law_ladder)
    (g__law_score : Cal P w K mg base "_law_score" 4 ["state", "many"] m__law_score)
    (n_tuple : mg "tuple" = none)
    (g_as_score : Cal P w K mg base "as_score" 9 ["ladder"] m_as_score)
    (g_need_ladder : Cal P w K mg base "need_ladder" 9 ["thing"] m_need_ladder)
    (n_repr : mg "repr" = none)
    (g__law_plain : Cal P w K mg base "_law_plain" 4 ["score_so"] m__law_plain)
    (g_ladder_of : Cal P w K mg base "ladder_of" 9 ["score"] m_ladder_of) :
    Cal P w K mg base "_law_good" 10 ["state"] m__law_good :=
  Cal.of L sc__law_good (fun _ _ _ _ _ _ us hl => match us, hl with | [_], _ => rfl) fun f cdv A outer s H E hr hgd =>
  (rss_cons (rs_par (i := 1) (j := 2) rfl sc__law_good.nd rfl rfl (by decide) rfl rfl (ra_cons (c_ g__law_ladder hr hgd rfl (ra_cons (rv 0) (ra_cons re_int ra_nil))) (ra_cons (c_ g__law_score hr hgd rfl (ra_cons (rv 0) (ra_cons re_int ra_nil))) ra_nil)) (by rfl))
  (rss_cons (rs_set (i := 3) sc__law_good.nd rfl (Or.inl rfl) (b_tuple n_tuple rfl (ra_cons (re_lc (own := [("mark", 7), ("units", 8)]) rfl sc__law_good.nd (ri_val (rv 1)) (blkOk_by (own := [("mark", 7), ("units", 8)]) (N := N__law_good) (sc := (defScope s__law_good)) (by decide +kernel)) (by decide) (fun _ _ _ _ _ => (rg_tup (n := 2) rfl (rgs_cons (rg_name (i := 7) sc__law_good.nd rfl (Or.inl rfl)) (rgs_cons (rg_name (i := 8) sc__law_good.nd rfl (Or.inl rfl)) rgs_nil)))) (fun _ _ _ _ _ => rts_nil) (fun _ _ _ _ _ => (re_tup (ra_cons re_str (ra_cons (rv 7) (ra_cons (rv 8) ra_nil)))))) ra_nil)))
  (rss_cons (rs_if (t_ne hr.units (b_repr hgd hr.units n_repr rfl (ra_cons (re_lst (ra_cons (c_ g_as_score hr hgd rfl (ra_cons (rv 1) ra_nil)) (ra_cons (c_ g_need_ladder hr hgd rfl (ra_cons (rv 1) ra_nil)) ra_nil))) ra_nil)) (b_repr hgd hr.units n_repr rfl (ra_cons (re_lst (ra_cons (rv 3) (ra_cons (rv 1) ra_nil))) ra_nil)))
  (rss_one (rs_ret re_bl))
  rss_nil)
  (rss_cons (rs_par (i := 4) (j := 5) rfl sc__law_good.nd rfl rfl (by decide) rfl rfl (ra_cons (c_ g__law_plain hr hgd rfl (ra_cons (rv 2) ra_nil)) (ra_cons re_non ra_nil)) (by rfl))
  (rss_cons (rs_if (t_eq hr.units (re_lc (own := [("piece", 9)]) rfl sc__law_good.nd (ri_val (rv 4)) (blkOk_by (own := [("piece", 9)]) (N := N__law_good) (sc := (defScope s__law_good)) (by decide +kernel)) (by decide) (fun _ _ _ _ _ => (rg_name (i := 9) sc__law_good.nd rfl (Or.inl rfl))) (fun _ _ _ _ _ => (rts_one (t_eq hr.units (re_ixA (hu_of hr) (rv 9) re_int) re_str))) (fun _ _ _ _ _ => re_int)) (re_lst ra_nil))
  (rss_one (rs_set (i := 5) sc__law_good.nd rfl (Or.inl rfl) (b_tuple n_tuple rfl (ra_cons (re_lc (own := [("piece", 9)]) rfl sc__law_good.nd (ri_val (rv 4)) (blkOk_by (own := [("piece", 9)]) (N := N__law_good) (sc := (defScope s__law_good)) (by decide +kernel)) (by decide) (fun _ _ _ _ _ => (rg_name (i := 9) sc__law_good.nd rfl (Or.inl rfl))) (fun _ _ _ _ _ => rts_nil) (fun _ _ _ _ _ => (re_slice (rv 9) (ro_some re_int) ro_none))) ra_nil))))
  rss_nil)
  (rss_cons (rs_set (i := 6) sc__law_good.nd rfl (Or.inl rfl) (re_lst (ra_cons (c_ g_ladder_of hr hgd rfl (ra_cons (rv 2) ra_nil)) (ra_cons (c_ g_ladder_of hr hgd rfl (ra_cons (c_ g_as_score hr hgd rfl (ra_cons (rv 1) ra_nil)) ra_nil)) (ra_cons (c_ g_ladder_of hr hgd rfl (ra_cons (rv 2) ra_nil)) ra_nil)))))
  (rss_one (rs_ret (o_eq hr.units (b_repr hgd hr.units n_repr rfl (ra_cons (rv 6) ra_nil)) (b_repr hgd hr.units n_repr rfl (ra_cons (re_lst (ra_cons (rv 5) (ra_cons (rv 1) (ra_cons (rv 5) ra_nil)))) ra_nil)))))))))))
abbrev N_law : List Str := ["script", "state", "turn", "fine", "low", "rows", "number", "heard", "ten", "still", "odd", "k"]
theorem sc_law : FnScope N_law ["script"] (defScope s_law) := ⟨rfl, rfl, rfl, by decide +kernel, rfl, by decide +kernel, by decide +kernel⟩
abbrev sc_law_1 : Scope := { kind := .function, names := [(".0", .local), ("k", .local)], isGenerator := false, isCoroutine := false, more := [] }
abbrev sc_law_2 : Scope := { kind := .function, names := [(".0", .local), ("k", .local)], isGenerator := false, isCoroutine := false, more := [] }
abbrev sl_law_1 : Scope := { kind := .function, names := [("odd", .free), ("need_ladder", .globalImplicit)], isGenerator := false, isCoroutine := false, more := [] }
theorem lm_law_1 : LmS N_law (defScope s_law) sl_law_1 [] := ⟨rfl, rfl, rfl, by decide +kernel, by decide +kernel, by decide +kernel, by decide +kernel⟩
abbrev sl_law_2 : Scope := { kind := .function, names := [("own", .local), ("odd", .free), ("as_score", .globalImplicit)], isGenerator := false, isCoroutine := false, more := [] }
theorem lm_law_2 : LmS N_law (defScope s_law) sl_law_2 ["own"] := ⟨rfl, rfl, rfl, by decide +kernel, by decide +kernel, by decide +kernel, by decide +kernel⟩
abbrev sl_law_3 : Scope := { kind := .function, names := [("ladder_of", .globalImplicit)], isGenerator := false, isCoroutine := false, more := [] }
theorem lm_law_3 : LmS N_law (defScope s_law) sl_law_3 [] := ⟨rfl, rfl, rfl, by decide +kernel, by decide +kernel, by decide +kernel, by decide +kernel⟩
theorem ok_law {P : Program} {w : World} {K : PySem.W.Frag} {mg : Str → Option Value} {base : Heap} {Ps : List Addr} {Ad : Str → Addr} {cc f : Addr} {fd : FuncData} (L : FunD K "law" "law" (defArgs s_law) (defBody s_law) (defScope s_law) [] [] f fd) (hcd : fd.code = .ref cc) (TB : LamX.TabB base mg cc (Ps.getD 0 0)) (h__law_heard : HearsD K mg "_law_heard" s__law_heard "call" "error" cs__law_heard Ad)
    (g__law_begin : Cal P w K mg base "_law_begin" 1 ["script"] m__law_begin)
    (n_len : mg "len" = none)
    (n_min : mg "min" = none)
    (n_range : mg "range" = none)
    (g__law_good : Cal P w K mg base "_law_good" 10 ["state"] m__law_good)
    (n_tuple : mg "tuple" = none)
    (g_need_ladder : Cal P w K mg base "need_ladder" 9 ["thing"] m_need_ladder)
    (g_as_score : Cal P w K mg base "as_score" 9 ["ladder"] m_as_score)
    (g_ladder_of : Cal P w K mg base "ladder_of" 9 ["score"] m_ladder_of) :
    FnM P w K mg base 12 f fd ["script"] (m_law Ps) :=
  FnM.ofC L sc_law hcd fun A outer s H E hr hgd =>
  (rss_cons (rs_set (i := 1) sc_law.nd rfl (Or.inl rfl) (c_ g__law_begin hr hgd rfl (ra_cons (rv 0) ra_nil)))
  (rss_cons (rs_for (passes_of rfl) rfl (ri_rng1 rfl n_range (ra_cons (o_add re_int (b_min rfl n_min rfl (ra_cons (b_len n_len rfl (ra_cons (rv 0) ra_nil)) (ra_cons re_int ra_nil)))) ra_nil)) (rg_name (i := 2) sc_law.nd rfl (Or.inl rfl))
  (rss_one (rs_if (rt_not (rt_truth (c_ g__law_good hr hgd rfl (ra_cons (rv 1) ra_nil))))
  (rss_one (rs_ret re_bl))
  rss_nil)))
  (rss_cons (rs_asg (re_tup (ra_cons (re_tup (ra_cons (re_tup (ra_cons re_int (ra_cons re_int ra_nil))) (ra_cons (re_tup (ra_cons re_int (ra_cons re_int ra_nil))) ra_nil))) (ra_cons (re_tup (ra_cons (re_tup (ra_cons (o_neg re_int) (ra_cons re_int ra_nil))) (ra_cons (re_tup (ra_cons re_int (ra_cons re_int ra_nil))) ra_nil))) ra_nil))) (rg_tup (n := 2) rfl (rgs_cons (rg_name (i := 3) sc_law.nd rfl (Or.inl rfl)) (rgs_cons (rg_name (i := 4) sc_law.nd rfl (Or.inl rfl)) rgs_nil))))
  (rss_cons (rs_set (i := 5) sc_law.nd rfl (Or.inl rfl) (re_lst (ra_cons (re_tup (ra_cons re_non (ra_cons re_non ra_nil))) (ra_cons (re_tup (ra_cons (re_lst (ra_cons (rv 3) ra_nil)) (ra_cons re_non ra_nil))) (ra_cons (re_tup (ra_cons (b_tuple n_tuple rfl (ra_cons (re_lc (own := [("k", 11)]) rfl sc_law.nd (ri_rng1 rfl n_range (ra_cons re_int ra_nil)) (blkOk_by (own := [("k", 11)]) (N := N_law) (sc := (defScope s_law)) (by decide +kernel)) (by decide) (fun _ _ _ _ _ => (rg_name (i := 11) sc_law.nd rfl (Or.inl rfl))) (fun _ _ _ _ _ => rts_nil) (fun _ _ _ _ _ => (re_tup (ra_cons (re_tup (ra_cons (rv 11) (ra_cons re_int ra_nil))) (ra_cons (re_tup (ra_cons re_int (ra_cons re_int ra_nil))) ra_nil))))) ra_nil)) (ra_cons re_non ra_nil))) ra_nil)))))
  (rss_cons (rs_set (i := 5) sc_law.nd rfl (Or.inl rfl) (o_add (rv 5) (re_lst (ra_cons (re_tup (ra_cons (re_tup (ra_cons (rv 3) (ra_cons (rv 4) ra_nil))) (ra_cons re_int ra_nil))) (ra_cons (re_tup (ra_cons (re_tup (ra_cons (rv 3) (ra_cons (rv 3) ra_nil))) (ra_cons re_int ra_nil))) (ra_cons (re_tup (ra_cons (re_tup (ra_cons (re_tup (ra_cons (re_tup (ra_cons re_int (ra_cons re_int ra_nil))) (ra_cons (re_tup (ra_cons re_int (ra_cons re_int ra_nil))) ra_nil))) ra_nil)) (ra_cons re_int ra_nil))) (ra_cons (re_tup (ra_cons (re_tup (ra_cons re_non ra_nil)) (ra_cons re_int ra_nil))) ra_nil)))))))
  (rss_cons (rs_expr (re_append (rv 5) (re_tup (ra_cons (re_tup (ra_cons (rv 4) (ra_cons (rv 3) (ra_cons (re_tup (ra_cons (re_tup (ra_cons re_int (ra_cons re_int ra_nil))) (ra_cons (re_tup (ra_cons (o_neg re_int) (ra_cons re_int ra_nil))) ra_nil))) ra_nil)))) (ra_cons re_int ra_nil)))))
  (rss_cons (rs_for (passes_of rfl) rfl (ri_val (o_add (rv 5) (re_lst (ra_cons (re_tup (ra_cons (re_tup (ra_cons (re_tup (ra_cons re_int (ra_cons re_int ra_nil))) ra_nil)) (ra_cons re_int ra_nil))) (ra_cons (re_tup (ra_cons (re_tup (ra_cons (rv 4) (ra_cons (re_lst (ra_cons (re_tup (ra_cons re_int (ra_cons re_int ra_nil))) (ra_cons (re_tup (ra_cons re_int (ra_cons re_int ra_nil))) ra_nil))) ra_nil))) (ra_cons re_int ra_nil))) (ra_cons (re_tup (ra_cons (re_tup (ra_cons (re_tup (ra_cons (re_tup (ra_cons re_int (ra_cons re_int ra_nil))) (ra_cons (re_tup (ra_cons re_int (ra_cons re_int ra_nil))) ra_nil))) ra_nil)) (ra_cons re_int ra_nil))) ra_nil)))))) (rg_tup (n := 2) rfl (rgs_cons (rg_name (i := 10) sc_law.nd rfl (Or.inr rfl)) (rgs_cons (rg_name (i := 6) sc_law.nd rfl (Or.inl rfl)) rgs_nil)))
  (rss_cons (rs_set (i := 7) sc_law.nd rfl (Or.inl rfl) (re_lst (ra_cons (re_hears (j := 0) (k := 9) (own := []) h__law_heard rfl TB rfl (hr.mono (by decide)) hgd (lamD0 rfl rfl (fun _ _ _ _ _ _ => rfl) lm_law_1) (by decide) (fun _ _ _ _ _ _ _ hr hgd => (c_ g_need_ladder hr hgd rfl (ra_cons (rv 10) ra_nil)))) (ra_cons (re_hears (j := 0) (k := 9) (own := ["own"]) h__law_heard rfl TB rfl (hr.mono (by decide)) hgd (lamD1 rfl rfl rfl (fun _ _ _ _ _ _ _ _ _ ho => BindsTo.of_defaults rfl ho rfl rfl rfl) lm_law_2) (by decide) (fun _ _ _ _ _ _ _ hr hgd => (c_ g_as_score hr hgd rfl (ra_cons (rv 10) ra_nil)))) ra_nil))))
  (rss_one (rs_if (t_ne hr.units (rv 7) (o_mul (re_lst (ra_cons (re_tup (ra_cons re_str (ra_cons (rv 6) ra_nil))) ra_nil)) re_int))
  (rss_one (rs_ret re_bl))
  rss_nil))))
  (rss_cons (rs_if (t_ne hr.units (re_hears (j := 0) (k := 9) (own := []) h__law_heard rfl TB rfl (hr.mono (by decide)) hgd (lamD0 rfl rfl (fun _ _ _ _ _ _ => rfl) lm_law_3) (by decide) (fun _ _ _ _ _ _ _ hr hgd => (c_ g_ladder_of hr hgd rfl (ra_cons (re_tup (ra_cons (re_tup (ra_cons re_str (ra_cons (re_tup (ra_cons re_int (ra_cons re_int ra_nil))) (ra_cons (re_tup (ra_cons re_int (ra_cons re_int ra_nil))) ra_nil)))) (ra_cons re_non ra_nil))) ra_nil)))) (re_tup (ra_cons re_str (ra_cons re_int ra_nil))))
  (rss_one (rs_ret re_bl))
  rss_nil)
  (rss_cons (rs_set (i := 8) sc_law.nd rfl (Or.inl rfl) (b_tuple n_tuple rfl (ra_cons (re_lc (own := [("k", 11)]) rfl sc_law.nd (ri_rng1 rfl n_range (ra_cons re_int ra_nil)) (blkOk_by (own := [("k", 11)]) (N := N_law) (sc := (defScope s_law)) (by decide +kernel)) (by decide) (fun _ _ _ _ _ => (rg_name (i := 11) sc_law.nd rfl (Or.inl rfl))) (fun _ _ _ _ _ => rts_nil) (fun _ _ _ _ _ => (re_tup (ra_cons (re_tup (ra_cons (rv 11) (ra_cons re_int ra_nil))) (ra_cons (re_tup (ra_cons re_int (ra_cons re_int ra_nil))) ra_nil))))) ra_nil)))
  (rss_cons (rs_if (RW.rt (rw_or (t_ne hr.units (c_ g_need_ladder hr hgd rfl (ra_cons (rv 8) ra_nil)) (rv 8)) (rw_or1 (t_isnt (c_ g_ladder_of hr hgd rfl (ra_cons (re_tup (ra_cons (re_tup (ra_cons re_str (ra_cons (re_tup (ra_cons re_int (ra_cons re_int ra_nil))) (ra_cons (re_tup (ra_cons re_int (ra_cons re_int ra_nil))) (ra_cons (re_tup (ra_cons re_int (ra_cons re_int ra_nil))) ra_nil))))) ra_nil)) ra_nil)) re_non))))
  (rss_one (rs_ret re_bl))
  rss_nil)
  (rss_cons (rs_set (i := 9) sc_law.nd rfl (Or.inl rfl) (re_tup (ra_cons (re_tup (ra_cons re_str (ra_cons (re_tup (ra_cons re_int (ra_cons re_int ra_nil))) (ra_cons (re_tup (ra_cons re_int (ra_cons re_int ra_nil))) ra_nil)))) (ra_cons (re_tup (ra_cons re_str (ra_cons (re_tup (ra_cons re_int (ra_cons re_int ra_nil))) (ra_cons (re_tup (ra_cons re_int (ra_cons re_int ra_nil))) (ra_cons (re_tup (ra_cons re_int (ra_cons re_int ra_nil))) ra_nil))))) ra_nil))))
  (rss_one (rs_ret (re_and (o_eq hr.units (c_ g_ladder_of hr hgd rfl (ra_cons (rv 9) ra_nil)) (re_tup ra_nil)) (re_one (o_eq hr.units (c_ g_ladder_of hr hgd rfl (ra_cons (o_mul (re_tup (ra_cons (re_tup (ra_cons re_str (ra_cons (re_tup (ra_cons re_int (ra_cons re_int ra_nil))) (ra_cons (re_tup (ra_cons re_int (ra_cons re_int ra_nil))) ra_nil)))) ra_nil)) re_int) ra_nil)) (re_tup (ra_cons (re_tup (ra_cons (re_tup (ra_cons re_int (ra_cons re_int ra_nil))) (ra_cons (re_tup (ra_cons re_int (ra_cons re_int ra_nil))) ra_nil))) ra_nil))))))))))))))))))
end Lw
namespace Lw
open PySem PySem.Spec PyProof.Rows L2 Mi
abbrev tsOf (K : PySem.W.Frag) : List Tb1 := [⟨qT_law, (He.cT K ("law", none)).1, (He.cT K ("law", none)).2⟩]
theorem facts {P : Program} {w : World} {K : PySem.W.Frag} {h : Heap} {mg : Str → Option Value} {f : Addr} (X : K.In h) (G : h.Ns mainGlobals mg) (hfa : mg ("law" : Str) = some (.ref f)) (c : He.SaysX fa fn [] tf exB w h K) :
    ∃ (fd : FuncData) (ts : List Tb1), ts.map (·.q) = [qT_law] ∧ (ts.map (·.P)).Nodup ∧ (∀ (s : Shared) (u : Value), BindsTo s fd ⟨[u], []⟩ [("script", u)]) ∧
      (∀ t ∈ ts, h.get? t.P = some { cls := .none, data := .fields #[] }) ∧ (∀ t ∈ ts, K.lookup t.P = none) ∧ (∀ t ∈ ts, PySem.W.CodeHd h t.cc t.P) ∧ ∀ bs : Heap, K.In bs → bs.Ns mainGlobals mg → (∀ t ∈ ts, LamX.TabB bs mg t.cc t.P) → FnM P w K mg bs 12 f fd ["script"] (m_law (ts.map (·.P))) := by
  have D := c.t.d
  have E := c.more
  unfold exB at E
  simp only [Bool.and_eq_true, decide_eq_true_eq] at E
  obtain ⟨e0, e1, e2, e3⟩ := E
  have q_BadScore := excB_ok e0
  have gq_BadScore := He.glo_ok X G (D.fact 41 (f := .glo "BadScore") rfl)
  obtain ⟨fd_BadScore, F_BadScore⟩ := D.def_ 41 (d := ⟨("BadScore", some "__init__"), "__init__", "BadScore.__init__", defArgs si_BadScore, defBody si_BadScore, defScope si_BadScore, [], []⟩) rfl
  have q_BadLadder := excB_ok e1
  have gq_BadLadder := He.glo_ok X G (D.fact 42 (f := .glo "BadLadder") rfl)
  obtain ⟨fd_BadLadder, F_BadLadder⟩ := D.def_ 42 (d := ⟨("BadLadder", some "__init__"), "__init__", "BadLadder.__init__", defArgs si_BadLadder, defBody si_BadLadder, defScope si_BadLadder, [], []⟩) rfl
  have t_NOUGHT : GTup K mg "NOUGHT" p_NOUGHT := ⟨_, _, He.glo_ok X G (D.fact 43 (f := .glo "NOUGHT") rfl), He.tupB_ok e2, fun r H => by simp [p_NOUGHT, RepL, Rep, He.Dv.v]⟩
  have n_gcd : mg "gcd" = some (.builtin "math.gcd") := PySem.W.mg_of X G e3
  have n_abs : mg "abs" = none := He.free_ok X G (D.fact 44 (f := .free "abs") rfl)
  have n_any : mg "any" = none := He.free_ok X G (D.fact 45 (f := .free "any") rfl)
  have n_bool : mg "bool" = none := He.free_ok X G (D.fact 46 (f := .free "bool") rfl)
  have n_enumerate : mg "enumerate" = none := He.free_ok X G (D.fact 47 (f := .free "enumerate") rfl)
  have n_int : mg "int" = none := He.free_ok X G (D.fact 48 (f := .free "int") rfl)
  have n_isinstance : mg "isinstance" = none := He.free_ok X G (D.fact 49 (f := .free "isinstance") rfl)
  have n_len : mg "len" = none := He.free_ok X G (D.fact 50 (f := .free "len") rfl)
  have n_list : mg "list" = none := He.free_ok X G (D.fact 51 (f := .free "list") rfl)
  have n_min : mg "min" = none := He.free_ok X G (D.fact 52 (f := .free "min") rfl)
  have n_range : mg "range" = none := He.free_ok X G (D.fact 53 (f := .free "range") rfl)
  have n_repr : mg "repr" = none := He.free_ok X G (D.fact 54 (f := .free "repr") rfl)
  have n_str : mg "str" = none := He.free_ok X G (D.fact 55 (f := .free "str") rfl)
  have n_tuple : mg "tuple" = none := He.free_ok X G (D.fact 56 (f := .free "tuple") rfl)
  have n_zip : mg "zip" = none := He.free_ok X G (D.fact 57 (f := .free "zip") rfl)
  have i_MOST_PIECES := He.int_ok X G (D.fact 58 (f := .int "MOST_PIECES" (10)) rfl)
  have i_MOST_RUNGS := He.int_ok X G (D.fact 59 (f := .int "MOST_RUNGS" (10)) rfl)
  have l_added : Loc K mg "added" s_added := loc_of X G D 0 0
  have l_is_under : Loc K mg "is_under" s_is_under := loc_of X G D 1 1
  have l_added_up : Loc K mg "added_up" s_added_up := loc_of X G D 2 2
  have l_merged : Loc K mg "merged" s_merged := loc_of X G D 3 3
  have l_in_order : Loc K mg "in_order" s_in_order := loc_of X G D 4 4
  have l_unlike_in_order : Loc K mg "unlike_in_order" s_unlike_in_order := loc_of X G D 5 5
  have l_is_integer : Loc K mg "is_integer" s_is_integer := loc_of X G D 6 6
  have l_is_row : Loc K mg "is_row" s_is_row := loc_of X G D 7 7
  have l_is_row_within : Loc K mg "is_row_within" s_is_row_within := loc_of X G D 8 8
  have l_is_called : Loc K mg "is_called" s_is_called := loc_of X G D 9 9
  have l_is_fraction : Loc K mg "is_fraction" s_is_fraction := loc_of X G D 10 10
  have l_is_weight : Loc K mg "is_weight" s_is_weight := loc_of X G D 11 11
  have l_is_price : Loc K mg "is_price" s_is_price := loc_of X G D 12 12
  have l_copied : Loc K mg "copied" s_copied := loc_of X G D 13 13
  have l_is_piece : Loc K mg "is_piece" s_is_piece := loc_of X G D 14 14
  have l_sure_score : Loc K mg "sure_score" s_sure_score := loc_of X G D 15 15
  have l_marked : Loc K mg "marked" s_marked := loc_of X G D 16 16
  have l_price_over : Loc K mg "price_over" s_price_over := loc_of X G D 17 17
  have l_stretched : Loc K mg "stretched" s_stretched := loc_of X G D 18 18
  have l_plain_score : Loc K mg "plain_score" s_plain_score := loc_of X G D 19 19
  have l_is_rung : Loc K mg "is_rung" s_is_rung := loc_of X G D 20 20
  have l_wrong_rung : Loc K mg "wrong_rung" s_wrong_rung := loc_of X G D 21 21
  have l_sure_ladder : Loc K mg "sure_ladder" s_sure_ladder := loc_of X G D 22 22
  have l_need_ladder : Loc K mg "need_ladder" s_need_ladder := loc_of X G D 23 23
  have l_as_score : Loc K mg "as_score" s_as_score := loc_of X G D 24 24
  have l_ladder_of : Loc K mg "ladder_of" s_ladder_of := loc_of X G D 25 25
  have l__law_mixed : Loc K mg "_law_mixed" s__law_mixed := loc_of X G D 26 26
  have l__law_begin : Loc K mg "_law_begin" s__law_begin := loc_of X G D 27 27
  have l__law_draw : Loc K mg "_law_draw" s__law_draw := loc_of X G D 28 28
  have l__law_ratio : Loc K mg "_law_ratio" s__law_ratio := loc_of X G D 29 29
  have l__law_plus : Loc K mg "_law_plus" s__law_plus := loc_of X G D 30 30
  have l__law_under : Loc K mg "_law_under" s__law_under := loc_of X G D 31 31
  have l__law_sum : Loc K mg "_law_sum" s__law_sum := loc_of X G D 32 32
  have l__law_sorted : Loc K mg "_law_sorted" s__law_sorted := loc_of X G D 33 33
  have l__law_small : Loc K mg "_law_small" s__law_small := loc_of X G D 34 34
  have l__law_score : Loc K mg "_law_score" s__law_score := loc_of X G D 35 35
  have l__law_plain : Loc K mg "_law_plain" s__law_plain := loc_of X G D 36 36
  have l__law_ladder : Loc K mg "_law_ladder" s__law_ladder := loc_of X G D 37 37
  have l__law_heard : Loc K mg "_law_heard" s__law_heard := loc_of X G D 38 38
  have l__law_good : Loc K mg "_law_good" s__law_good := loc_of X G D 39 39
  obtain ⟨fd, F⟩ := D.def_ 40 (d := ⟨("law", none), "law", "law", defArgs s_law, defBody s_law, defScope s_law, [], []⟩) rfl
  have el := hfa.symm.trans (He.glo_ok X G (D.fact 40 (f := .glo "law") rfl))
  cases el
  have bl := FunD.bindsA (ps := ["script"]) F fun _ _ _ _ _ _ us hl => match us, hl with | [_], _ => rfl
  have m0 : (("law", none) : He.Defn) ∈ tf := by simp [tf]
  refine ⟨fd, tsOf K, rfl, by simp [tsOf], fun s v => bl s [v] rfl, List.forall_mem_cons.mpr ⟨c.empty _ m0, List.forall_mem_nil _⟩, List.forall_mem_cons.mpr ⟨c.out _ m0, List.forall_mem_nil _⟩, List.forall_mem_cons.mpr ⟨PySem.W.codeHd_of_K X (c.hd _ m0), List.forall_mem_nil _⟩, fun bs _ _ TBs => ?_⟩
  have TB_law : LamX.TabB bs mg (He.cT K ("law", none)).1 (((tsOf K).map (·.P)).getD 0 0) := TBs ⟨qT_law, (He.cT K ("law", none)).1, (He.cT K ("law", none)).2⟩ (by simp [tsOf])
  have x_BadScore : ExK P w K mg bs "BadScore" "number" := q_BadScore.k (a := "number") (t := si_BadScore) (qual := "BadScore.__init__") gq_BadScore F_BadScore ⟨rfl, rfl, rfl, by decide +kernel, rfl, by decide +kernel, by decide +kernel⟩ ⟨_, _, _, _, rfl⟩ (fun _ _ _ _ _ => rfl) rfl rfl rfl rfl (fun _ _ _ _ _ _ us hl => match us, hl with | [_, _], _ => rfl)
  have x_BadLadder : ExK P w K mg bs "BadLadder" "number" := q_BadLadder.k (a := "number") (t := si_BadLadder) (qual := "BadLadder.__init__") gq_BadLadder F_BadLadder ⟨rfl, rfl, rfl, by decide +kernel, rfl, by decide +kernel, by decide +kernel⟩ ⟨_, _, _, _, rfl⟩ (fun _ _ _ _ _ => rfl) rfl rfl rfl rfl (fun _ _ _ _ _ _ us hl => match us, hl with | [_, _], _ => rfl)
  have h__law_heard : HearsD K mg "_law_heard" s__law_heard "call" "error" cs__law_heard (fun c => He.ga K c) := { loc := l__law_heard, sc := ⟨rfl, rfl, rfl, by decide +kernel, rfl, by decide +kernel, by decide +kernel⟩, bnd := fun _ _ _ _ _ _ us hl => match us, hl with | [_], _ => rfl, body := ⟨_, _, _, _, _, _, _, rfl, ⟨_, _, _, _, _, _, _, _, _, _, rfl, ⟨_, _, _, _, _, _, _, _, _, _, rfl, rfl⟩⟩⟩, va := rfl, vn := rfl, da := (by decide), dn := (by decide), cl := List.forall_mem_cons.mpr ⟨⟨rfl, by decide, gq_BadLadder, q_BadLadder.xf, q_BadLadder.no⟩, List.forall_mem_cons.mpr ⟨⟨rfl, by decide, gq_BadScore, q_BadScore.xf, q_BadScore.no⟩, List.forall_mem_nil _⟩⟩, em := List.forall_mem_cons.mpr ⟨List.forall_mem_cons.mpr ⟨(He.exm_ok (D.fact 60 (f := .exm "BadLadder" "BadLadder" true) rfl)).trans (by decide), List.forall_mem_cons.mpr ⟨(He.exm_ok (D.fact 61 (f := .exm "BadLadder" "BadScore" false) rfl)).trans (by decide), List.forall_mem_nil _⟩⟩, List.forall_mem_cons.mpr ⟨List.forall_mem_cons.mpr ⟨(He.exm_ok (D.fact 62 (f := .exm "BadScore" "BadLadder" false) rfl)).trans (by decide), List.forall_mem_cons.mpr ⟨(He.exm_ok (D.fact 63 (f := .exm "BadScore" "BadScore" true) rfl)).trans (by decide), List.forall_mem_nil _⟩⟩, List.forall_mem_nil _⟩⟩ }
  have g_added := ok_added (P := P) (w := w) (base := bs) l_added n_gcd
  have g_is_under := ok_is_under (P := P) (w := w) (base := bs) l_is_under
  have g_added_up := ok_added_up (P := P) (w := w) (base := bs) l_added_up n_list n_len n_range g_added t_NOUGHT
  have g_merged := ok_merged (P := P) (w := w) (base := bs) l_merged n_len g_is_under
  have g_in_order := ok_in_order (P := P) (w := w) (base := bs) l_in_order n_len n_range g_merged
  have g_unlike_in_order := ok_unlike_in_order (P := P) (w := w) (base := bs) l_unlike_in_order g_in_order n_list
  have g_is_integer := ok_is_integer (P := P) (w := w) (base := bs) l_is_integer n_isinstance n_int n_bool
  have g_is_row := ok_is_row (P := P) (w := w) (base := bs) l_is_row n_isinstance n_tuple n_len
  have g_is_row_within := ok_is_row_within (P := P) (w := w) (base := bs) l_is_row_within n_isinstance n_tuple n_len
  have g_is_called := ok_is_called (P := P) (w := w) (base := bs) l_is_called g_is_row n_isinstance n_str
  have g_is_fraction := ok_is_fraction (P := P) (w := w) (base := bs) l_is_fraction n_isinstance n_tuple n_len n_int n_bool n_gcd
  have g_is_weight := ok_is_weight (P := P) (w := w) (base := bs) l_is_weight g_is_fraction
  have g_is_price := ok_is_price (P := P) (w := w) (base := bs) l_is_price g_is_fraction
  have g_copied := ok_copied (P := P) (w := w) (base := bs) l_copied n_isinstance n_tuple n_int n_bool g_is_integer
  have g_is_piece := ok_is_piece (P := P) (w := w) (base := bs) l_is_piece g_is_called g_is_fraction g_is_price g_is_under
  have g_sure_score := ok_sure_score (P := P) (w := w) (base := bs) l_sure_score g_is_row_within i_MOST_PIECES x_BadScore n_enumerate g_is_piece g_copied
  have g_marked := ok_marked (P := P) (w := w) (base := bs) l_marked g_added t_NOUGHT g_in_order n_list
  have g_price_over := ok_price_over (P := P) (w := w) (base := bs) l_price_over g_added_up g_is_under
  have g_stretched := ok_stretched (P := P) (w := w) (base := bs) l_stretched g_unlike_in_order n_len n_range g_price_over t_NOUGHT
  have g_plain_score := ok_plain_score (P := P) (w := w) (base := bs) l_plain_score g_marked g_stretched n_tuple
  have g_is_rung := ok_is_rung (P := P) (w := w) (base := bs) l_is_rung g_is_row g_is_fraction g_is_weight
  have g_wrong_rung := ok_wrong_rung (P := P) (w := w) (base := bs) l_wrong_rung n_enumerate g_is_rung g_is_under
  have g_sure_ladder := ok_sure_ladder (P := P) (w := w) (base := bs) l_sure_ladder g_is_row_within i_MOST_RUNGS x_BadLadder g_wrong_rung g_copied
  have g_need_ladder := ok_need_ladder (P := P) (w := w) (base := bs) l_need_ladder g_sure_ladder
  have g_as_score := ok_as_score (P := P) (w := w) (base := bs) l_as_score g_sure_ladder n_tuple
  have g_ladder_of := ok_ladder_of (P := P) (w := w) (base := bs) l_ladder_of g_plain_score g_sure_score n_any n_tuple
  have g__law_mixed := ok__law_mixed (P := P) (w := w) (base := bs) l__law_mixed n_int
  have g__law_begin := ok__law_begin (P := P) (w := w) (base := bs) l__law_begin n_list
  have g__law_draw := ok__law_draw (P := P) (w := w) (base := bs) l__law_draw n_int n_len g__law_mixed
  have g__law_ratio := ok__law_ratio (P := P) (w := w) (base := bs) l__law_ratio n_abs n_int
  have g__law_plus := ok__law_plus (P := P) (w := w) (base := bs) l__law_plus g__law_ratio
  have g__law_under := ok__law_under (P := P) (w := w) (base := bs) l__law_under
  have g__law_sum := ok__law_sum (P := P) (w := w) (base := bs) l__law_sum g__law_plus
  have g__law_sorted := ok__law_sorted (P := P) (w := w) (base := bs) l__law_sorted g__law_under n_len
  have g__law_small := ok__law_small (P := P) (w := w) (base := bs) l__law_small g__law_ratio g__law_draw
  have g__law_score := ok__law_score (P := P) (w := w) (base := bs) l__law_score g__law_draw n_range g__law_ratio g__law_small g__law_plus n_tuple
  have g__law_plain := ok__law_plain (P := P) (w := w) (base := bs) l__law_plain g__law_sorted g__law_sum n_zip g__law_under n_tuple
  have g__law_ladder := ok__law_ladder (P := P) (w := w) (base := bs) l__law_ladder g__law_sorted g__law_draw n_range g__law_small g__law_ratio n_tuple
  have g__law_good := ok__law_good (P := P) (w := w) (base := bs) l__law_good g__law_ladder g__law_score n_tuple g_as_score g_need_ladder n_repr g__law_plain g_ladder_of
  have F2 : FunD K "law" "law" (defArgs s_law) (defBody s_law) (defScope s_law) [] [] (He.ga K "law") fd := F
  have gl := ok_law (P := P) (w := w) (mg := mg) (base := bs) (Ps := (tsOf K).map (·.P)) (Ad := (fun c => He.ga K c)) (cc := (He.cT K ("law", none)).1) F2 (code_at F) TB_law h__law_heard
  have gl := gl g__law_begin n_len n_min n_range g__law_good n_tuple
  have gl := gl g_need_ladder g_as_score g_ladder_of
  exact gl
end Lw
open PySem PySem.W PySem.Calls PyProof.Rows
theorem PySem.Challenge.cw_forehouse_k15_whole_ladders_holds : PySem.Challenge.rw_forehouse_k15_whole_ladders.Holds := by
  w_on; o_law
  refine HandSHeadRun.head_imp (r := OpenLaw.row PySem.Challenge.rw_forehouse_k15_whole_ladders) (q := view (OpenLaw.row PySem.Challenge.rw_forehouse_k15_whole_ladders).prog [53]) (H := Lw.hk) (ob := Lw.ob) (M := 20000) (loose := Lw.lo) (d := HandSHeadRun.topDef (OpenLaw.row PySem.Challenge.rw_forehouse_k15_whole_ladders).prog 53) (kwd := []) Lw.ob_eq
    Lw.run (by kernel_rfl) (by kernel_rfl) (by kernel_rfl) (by rfl) (by first | assumption | decide +kernel) (by decide +kernel) ⟨rfl, rfl, rfl, rfl, rfl, by decide +kernel⟩ ?hw ?hc
  case hw => w_witness2
  case hc =>
    refine Mi.walk_mTs (l := PySem.Challenge.rw_forehouse_k15_whole_ladders) (n := 63) (k := 12) (x := "script") (qs := [Lw.qT_law]) (g := Lw.m_law) rfl (by decide) (by kernel_rfl) ⟨rfl, by decide, by decide⟩ ?F Lw.t_laws
    intro w mg fa h Y G hmg0
    obtain ⟨K, KX, c⟩ := Y
    have hmg : mg ("law" : PySem.Str) = some (.ref fa) := by
      have e : (HandSHeadRun.topDef (OpenLaw.row PySem.Challenge.rw_forehouse_k15_whole_ladders).prog 53).name = ("law" : PySem.Str) := by kernel_rfl
      rw [← e]
      exact hmg0
    obtain ⟨fd, ts, h1, h2, h3, h4, h5, h6, h7⟩ := Lw.facts (P := (PySem.Challenge.rw_forehouse_k15_whole_ladders).prog) (w := w) KX G hmg c
    exact ⟨K, fd, ts, h1, h2, KX, h3, h4, h5, h6, h7⟩
