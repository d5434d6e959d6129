import PyProof.Rows.All
import Wide.All
import OpenK.AllK
import Wide.FinOn
import HandS.ForMost
import HandS.Exc
import HandS.TryOnly
import HandS.ExcOwn
import HandS.WordsExc
import HandS.IsInst
import HandS.FStr
import HandS.Small
import HandS.AnyAll
import HandS.EndTab
import HandS.Wide
import HandS.Evl
import HandS.HotCalls
import HandS.ExcIs
import HandS.ExcCtx
import HandS.Dict
import HandS.SetKeys
import HandS.Star
import HandS.Zip
import HandS.Text
import HandS.More
import HandS.SortInts
import HandS.TupAny
import HandS.DictTup
import KE.KPairComp
import KE.KDictWalk
import PyProof.MinMaxWalk
import HandS.SortKw
import PyProof.GenCompD
import PySem.Challenge.RW_readingsall_k11_possible
import KE.KNest
set_option Elab.async false
set_option linter.all false
set_option maxRecDepth 100000
set_option maxHeartbeats 4000000
/-! # The readings, one lemma a combinator -/
namespace Y
open PySem L2 PySem.Spec PyProof.Rows

/-! ## heaps -/
def isTbl : HO → Bool
  | .tbl _ => true
  | _ => false
/-- all that was tracked stands, but for what T names; tables of code may grow -/
structure But (T : List Addr) (H H' : Hp) : Prop where
  keep : ∀ b o, H b = some o → b ∉ T → isTbl o = false → H' b = some o
  tab : ∀ b, GxR.TabG H b → GxR.TabG H' b
  up : ∀ b o, H b = some o → ∃ o', H' b = some o'
theorem But.refl {T : List Addr} (H : Hp) : But T H H := ⟨fun _ _ h _ _ => h, fun _ h => h, fun _ o h => ⟨o, h⟩⟩
theorem But.trans {T : List Addr} {H H1 H2 : Hp} (a : But T H H1) (b : But T H1 H2) : But T H H2 :=
  ⟨fun c o h n t => b.keep c o (a.keep c o h n t) n t, fun c h => b.tab c (a.tab c h), fun c o h => let ⟨o', h'⟩ := a.up c o h; b.up c o' h'⟩
theorem But.mono {T U : List Addr} {H H1 : Hp} (a : But T H H1) (s : ∀ x ∈ T, x ∈ U) : But U H H1 :=
  ⟨fun c o h n t => a.keep c o h (fun z => n (s c z)) t, a.tab, a.up⟩
theorem But.free {T : List Addr} {H H' : Hp} (a : But T H H') {p : Addr} (h : H' p = none) : H p = none := by
  cases e : H p with
  | none => rfl
  | some o =>
    obtain ⟨o', h'⟩ := a.up p o e
    rw [h] at h'
    cases h'
theorem But.new {T : List Addr} {H : Hp} {p : Addr} {o : HO} (h : H p = none) : But T H (upd H p o) := by
  refine ⟨fun b u e _ _ => ?_, fun b e => ?_, fun b u e => ⟨u, ?_⟩⟩
  · rw [upd_ne (ne_of_none e h)]
    exact e
  · obtain ⟨ps, e, t⟩ := e
    exact ⟨ps, by rw [upd_ne (ne_of_none e h)]; exact e, t⟩
  · rw [upd_ne (ne_of_none e h)]
    exact e
theorem But.set {T : List Addr} {H : Hp} {p : Addr} {o u : HO} (h : H p = some o) (ht : isTbl o = false) (hp : p ∈ T) : But T H (upd H p u) := by
  refine ⟨fun b v e n _ => ?_, fun b e => ?_, fun b v e => ?_⟩
  · rw [upd_ne (fun z => n (by rw [z]; exact hp))]
    exact e
  · obtain ⟨ps, e, t⟩ := e
    refine ⟨ps, ?_, t⟩
    rw [upd_ne (fun z => ?_)]
    · exact e
    · rw [z, h] at e
      cases e
      cases ht
  · by_cases z : b = p
    · exact ⟨u, by rw [z, upd_same]⟩
    · exact ⟨v, by rw [upd_ne z]; exact e⟩
/-- what was new to H may change -/
theorem But.setN {T : List Addr} {H H1 : Hp} {p : Addr} {o u : HO} (b : But T H H1) (n : H p = none) (h : H1 p = some o) (ht : isTbl o = false) : But T H (upd H1 p u) := by
  refine ⟨fun c v e nt hv => ?_, fun c e => ?_, fun c v e => ?_⟩
  · rw [upd_ne (ne_of_none e n)]
    exact b.keep c v e nt hv
  · obtain ⟨ps, e1, t1⟩ := e
    obtain ⟨qs, e2, t2⟩ := b.tab c ⟨ps, e1, t1⟩
    exact ⟨qs, by rw [upd_ne (ne_of_none e1 n)]; exact e2, t2⟩
  · obtain ⟨o', h'⟩ := b.up c v e
    exact ⟨o', by rw [upd_ne (ne_of_none e n)]; exact h'⟩
/-- an object that is new to H has been changed -/
theorem But.own {T : List Addr} {H H1 H2 : Hp} {l : Addr} (a : But T H H1) (n : H l = none) (b : But [l] H1 H2) : But T H H2 :=
  ⟨fun c o h nt t => b.keep c o (a.keep c o h nt t) (fun z => ne_of_none h n (List.mem_singleton.mp z)) t, fun c h => b.tab c (a.tab c h), fun c o h => let ⟨o', h'⟩ := a.up c o h; b.up c o' h'⟩
theorem But.tabbed {T : List Addr} {H H' : Hp} {P : Addr} (h0 : GxR.TabG H P) (h : GxR.Tabbed P H H') : But T H H' := by
  obtain ⟨ps0, e0, _⟩ := h0
  obtain ⟨⟨ps, e, t⟩, k⟩ := h
  refine ⟨fun b o hb _ ht => ?_, fun b hb => ?_, fun b o hb => ?_⟩
  · rw [k b (fun z => by rw [z, e0] at hb; cases hb; cases ht)]
    exact hb
  · by_cases z : b = P
    · rw [z]
      exact ⟨ps, e, t⟩
    · obtain ⟨qs, e1, t1⟩ := hb
      exact ⟨qs, by rw [k b z]; exact e1, t1⟩
  · by_cases z : b = P
    · rw [z]
      exact ⟨_, e⟩
    · exact ⟨o, by rw [k b z]; exact hb⟩
theorem But.lst {T : List Addr} {H H' : Hp} (b : But T H H') {p : Addr} {xs : List V} (h : H p = some (.lst xs)) (n : p ∉ T) : H' p = some (.lst xs) := b.keep p _ h n rfl
theorem But.tup {T : List Addr} {H H' : Hp} (b : But T H H') {p : Addr} {xs : List V} (h : H p = some (.tup xs)) (n : p ∉ T) : H' p = some (.tup xs) := b.keep p _ h n rfl
theorem But.seq {K : PySem.W.Frag} {T : List Addr} {H H' : Hp} {a : Addr} {xs : List V} (e : But T H H') (h : SqL K H a xs) (n : a ∉ T) : SqL K H' a xs := by
  rcases h with (h | ⟨o, h⟩) | h
  · exact .inl (.inl (e.keep _ _ h n rfl))
  · exact .inl (.inr ⟨o, e.keep _ _ h n rfl⟩)
  · exact .inr h
theorem But.seqT {K : PySem.W.Frag} {T : List Addr} {H H' : Hp} {a : Addr} {xs : List V} (e : But T H H') (h : SqT K H a xs) (n : a ∉ T) : SqT K H' a xs := by
  rcases h with (h | ⟨o, h⟩) | h
  · exact .inl (.inl (e.keep _ _ h n rfl))
  · exact .inl (.inr ⟨o, e.keep _ _ h n rfl⟩)
  · exact .inr h

/-! ## own words for operators whose reading the layer leaves open -/
section
variable {X : Cx}
theorem OpR.imp {f : Value → Value → Sem Value} {r r' : R2} (h : OpR X f r) (i : ∀ x y H Q, r' x y H Q → r x y H Q) : OpR X f r' := fun pins s σ H x y v u Q I rx ry q => h pins s σ H x y v u Q I rx ry (i _ _ _ _ q)
theorem CallR.imp {f : Value} {r r' : List V → Hp → VK → Prop} (h : CallR X f r) (i : ∀ xs H Q, r' xs H Q → r xs H Q) : CallR X f r' := fun pins s σ H xs us Q I rx q => h pins s σ H xs us Q I rx (i _ _ _ q)
/-- of two texts -/
def rS (g : Str → Str → V) : R2 := fun x y H Q => ∃ a b, x = .str a ∧ y = .str b ∧ Q (g a b) H
/-- of two ints, a bool -/
def rB (p : Int → Int → Bool) : R2 := fun x y H Q => ∃ i j, x = .int i ∧ y = .int j ∧ Q (.bl (p i j)) H
def sLe (a b : Str) : Bool := !decide (b.cps.toList < a.cps.toList)
theorem op_eqS : OpR X (compareOp .Eq) (rS fun a b => .bl (decide (a = b))) := OpR.imp op_eq fun x y H Q ⟨a, b, e1, e2, q⟩ => by
  subst e1
  subst e2
  refine ⟨rfl, ?_⟩
  have e : decide (V.str a = V.str b) = decide (a = b) := decide_eq_decide.mpr ⟨fun h => V.str.inj h, fun h => congrArg V.str h⟩
  rw [e]
  exact q
theorem op_neS : OpR X (compareOp .NotEq) (rS fun a b => .bl (!decide (a = b))) := OpR.imp op_ne fun x y H Q ⟨a, b, e1, e2, q⟩ => by
  subst e1
  subst e2
  refine ⟨rfl, ?_⟩
  have e : decide (V.str a = V.str b) = decide (a = b) := decide_eq_decide.mpr ⟨fun h => V.str.inj h, fun h => congrArg V.str h⟩
  rw [e]
  exact q
theorem op_leS : OpR X (compareOp .LtE) (rS fun a b => .bl (sLe a b)) := OpR.imp op_le_str fun x y H Q ⟨a, b, e1, e2, q⟩ => ⟨a, b, e1, e2, q⟩
theorem op_eqI : OpR X (compareOp .Eq) (rB fun i j => decide (i = j)) := OpR.imp op_eq fun x y H Q ⟨a, b, e1, e2, q⟩ => by
  subst e1
  subst e2
  refine ⟨rfl, ?_⟩
  have e : decide (V.int a = V.int b) = decide (a = b) := decide_eq_decide.mpr ⟨fun h => V.int.inj h, fun h => congrArg V.int h⟩
  rw [e]
  exact q
theorem op_neI : OpR X (compareOp .NotEq) (rB fun i j => !decide (i = j)) := OpR.imp op_ne fun x y H Q ⟨a, b, e1, e2, q⟩ => by
  subst e1
  subst e2
  refine ⟨rfl, ?_⟩
  have e : decide (V.int a = V.int b) = decide (a = b) := decide_eq_decide.mpr ⟨fun h => V.int.inj h, fun h => congrArg V.int h⟩
  rw [e]
  exact q
theorem op_ltI : OpR X (compareOp .Lt) (rB fun i j => decide (i < j)) := OpR.imp op_lt fun x y H Q h => h
theorem op_leI : OpR X (compareOp .LtE) (rB fun i j => decide (i ≤ j)) := OpR.imp op_le fun x y H Q h => h
theorem op_gtI : OpR X (compareOp .Gt) (rB fun i j => decide (j < i)) := OpR.imp op_gt fun x y H Q h => h
theorem op_geI : OpR X (compareOp .GtE) (rB fun i j => decide (j ≤ i)) := OpR.imp op_ge fun x y H Q h => h
/-- bools -/
def rEqB : R2 := fun x y H Q => ∃ a b, x = .bl a ∧ y = .bl b ∧ Q (.bl (decide (a = b))) H
theorem op_eqB : OpR X (compareOp .Eq) rEqB := OpR.imp op_eq fun x y H Q ⟨a, b, e1, e2, q⟩ => by
  subst e1
  subst e2
  refine ⟨rfl, ?_⟩
  have e : decide (V.bl a = V.bl b) = decide (a = b) := decide_eq_decide.mpr ⟨fun h => V.bl.inj h, fun h => congrArg V.bl h⟩
  rw [e]
  exact q
def rNeB : R2 := fun x y H Q => ∃ a b, x = .bl a ∧ y = .bl b ∧ Q (.bl (!decide (a = b))) H
theorem op_neB : OpR X (compareOp .NotEq) rNeB := OpR.imp op_ne fun x y H Q ⟨a, b, e1, e2, q⟩ => by
  subst e1
  subst e2
  refine ⟨rfl, ?_⟩
  have e : decide (V.bl a = V.bl b) = decide (a = b) := decide_eq_decide.mpr ⟨fun h => V.bl.inj h, fun h => congrArg V.bl h⟩
  rw [e]
  exact q
def rAddS : R2 := fun x y H Q => ∃ i j, x = .str i ∧ y = .str j ∧ i.length + j.length ≤ sizeLine ∧ Q (.str (i ++ j)) H
theorem op_addS : OpR X (binaryOp .Add) rAddS := op_add_str
/-- is None -/
def rIsN : R2 := fun x y H Q => y = .non ∧ Q (.bl (decide (x = .non))) H
theorem op_isNone : OpR X (compareOp .Is) rIsN := op_isN
def rNotN : R2 := fun x y H Q => y = .non ∧ Q (.bl (!decide (x = .non))) H
theorem op_isNotNone : OpR X (compareOp .IsNot) rNotN := op_notN
/-- one sign in a text -/
def rSgn (neg : Bool) : R2 := fun x y H Q => ∃ (c : Nat) (z : Str), x = .str ⟨#[c]⟩ ∧ y = .str z ∧ Q (.bl (if neg then !decide (c ∈ z.cps.toList) else decide (c ∈ z.cps.toList))) H
theorem op_sgnIn : OpR X (compareOp .In) (rSgn false) := op_in_sign
theorem op_sgnNotIn : OpR X (compareOp .NotIn) (rSgn true) := op_notIn_sign
/-- calls -/
def rLenS : List V → Hp → VK → Prop := fun xs H Q => ∃ z : Str, xs = [.str z] ∧ z.length ≤ sizeLine ∧ Q (.int z.length) H
theorem call_lenS : CallR X (.builtin "len") rLenS := CallR.imp call_len fun xs H Q ⟨z, e, h, q⟩ => ⟨.str z, z.length, e, ⟨h, rfl⟩, q⟩
def rLenQ (K : PySem.W.Frag) : List V → Hp → VK → Prop := fun xs H Q => ∃ p ys, xs = [.ref p] ∧ (SqL K H p ys ∨ SqT K H p ys) ∧ Q (.int ys.length) H
theorem call_lenQ : CallR X (.builtin "len") (rLenQ X.K) := call_len_seq
def rInt1 : List V → Hp → VK → Prop := fun xs H Q => ∃ i, xs = [.int i] ∧ Q (.int i) H
theorem call_intI : CallR X (.type "int") rInt1 := CallR.imp call_int1 fun xs H Q ⟨i, e, q⟩ => .inl ⟨i, e, q⟩
def rAbs1 : List V → Hp → VK → Prop := fun xs H Q => ∃ i, xs = [.int i] ∧ Q (.int (if i < 0 then -i else i)) H
theorem call_absI : CallR X (.builtin "abs") rAbs1 := call_abs
def rMax2 : List V → Hp → VK → Prop := fun xs H Q => ∃ i j, xs = [.int i, .int j] ∧ Q (.int (if j > i then j else i)) H
theorem call_maxI (hc : X.calm = true) : CallR X (.builtin "max") rMax2 := call_max2 hc
def rMin2 : List V → Hp → VK → Prop := fun xs H Q => ∃ i j, xs = [.int i, .int j] ∧ Q (.int (if j < i then j else i)) H
theorem call_minI (hc : X.calm = true) : CallR X (.builtin "min") rMin2 := call_min2 hc
def rList (K : PySem.W.Frag) : List V → Hp → VK → Prop := fun xs H Q => ∃ p ys, xs = [.ref p] ∧ (SqL K H p ys ∨ SqT K H p ys) ∧ ∀ l, H l = none → Q (.ref l) (upd H l (.lst ys))
theorem call_listQ : CallR X (.type "list") (rList X.K) := call_list_of
end

section
variable {X : Cx} {o e : Expr} {to te : TE}
def rJoin (K : PySem.W.Frag) : V → List V → Hp → VK → Prop := fun x xs H Q => ∃ a p, ∃ ys : List Str, x = .str a ∧ xs = [.ref p] ∧ (SqL K H p (ys.map V.str) ∨ SqT K H p (ys.map V.str)) ∧
  (ys.map (·.length)).sum + ys.length * a.length ≤ 16777216 ∧ Q (.str (Txt.join a ys)) H
def rSplit : V → List V → Hp → VK → Prop := fun x xs H Q => ∃ a b, x = .str a ∧ xs = [.str b] ∧ (b.length == 0) = false ∧ a.length + 2 ≤ sizeLine ∧ rNewStrs (Txt.split a b) H Q
theorem pjoin {apos pos : Pos} (ho : PE X o to) (he : PE X e te) (hs : starEach [e] X.env = [(false, eval e X.env)] := by rfl) (hbase : attributeBase o "join" X.env (eval o X.env) = eval o X.env := by rfl) (hline : (apos.endLine == pos.line) = true := by rfl) :
    PE X (.Call (.Attribute o "join" apos) [e] [] pos) (tM1 (rJoin X.K) to te) := pe_join ho he hs hbase hline
theorem psplit {apos pos : Pos} (ho : PE X o to) (he : PE X e te) (hs : starEach [e] X.env = [(false, eval e X.env)] := by rfl) (hbase : attributeBase o "split" X.env (eval o X.env) = eval o X.env := by rfl) (hline : (apos.endLine == pos.line) = true := by rfl) :
    PE X (.Call (.Attribute o "split" apos) [e] [] pos) (tM1 rSplit to te) := pe_split ho he hs hbase hline
end
/-! ## the readings -/
section
variable {K : PySem.W.Frag} {σ : L2.St} {H : Hp} {Q : VK} {v x y : V} {te ta tb tc : TE} {t u : TT} {D : Ends} {ts tu : TS} {tA tr : TA}
theorem var {i : Nat} (e : σ[i]? = some (some v)) (q : Q v H) : tVar i σ H Q := ⟨v, e, q⟩
theorem cst (q : Q v H) : tC v σ H Q := q
theorem op {r : R2} (q : ta σ H fun x H1 => tb σ H1 fun y H2 => r x y H2 Q) : tOp r ta tb σ H Q := q
theorem un {r : V → Hp → VK → Prop} (q : ta σ H fun x H1 => r x H1 Q) : tUn r ta σ H Q := q
theorem i0 {g : Int → Int → V} {i j : Int} (q : Q (g i j) H) : rI0 g (.int i) (.int j) H Q := ⟨i, j, rfl, rfl, q⟩
theorem iC {C : Int → Int → Prop} {g : Int → Int → V} {i j : Int} (hc : C i j) (q : Q (g i j) H) : rI C g (.int i) (.int j) H Q := ⟨i, j, rfl, rfl, hc, q⟩
theorem u1 {g : Int → V} {i : Int} (q : Q (g i) H) : rU g (.int i) H Q := ⟨i, rfl, q⟩
theorem s2 {g : Str → Str → V} {a b : Str} (q : Q (g a b) H) : rS g (.str a) (.str b) H Q := ⟨a, b, rfl, rfl, q⟩
theorem b2 {p : Int → Int → Bool} {i j : Int} (q : Q (.bl (p i j)) H) : rB p (.int i) (.int j) H Q := ⟨i, j, rfl, rfl, q⟩
theorem eqB {a b : Bool} (q : Q (.bl (decide (a = b))) H) : rEqB (.bl a) (.bl b) H Q := ⟨a, b, rfl, rfl, q⟩
theorem neB {a b : Bool} (q : Q (.bl (!decide (a = b))) H) : rNeB (.bl a) (.bl b) H Q := ⟨a, b, rfl, rfl, q⟩
theorem addS {a b : Str} (h : a.length + b.length ≤ sizeLine) (q : Q (.str (a ++ b)) H) : rAddS (.str a) (.str b) H Q := ⟨a, b, rfl, rfl, h, q⟩
theorem isN (q : Q (.bl (decide (x = .non))) H) : rIsN x .non H Q := ⟨rfl, q⟩
theorem notN (q : Q (.bl (!decide (x = .non))) H) : rNotN x .non H Q := ⟨rfl, q⟩
theorem sgn {c : Nat} {z : Str} (q : Q (.bl (decide (c ∈ z.cps.toList))) H) : rSgn false (.str ⟨#[c]⟩) (.str z) H Q := ⟨c, z, rfl, rfl, q⟩
theorem sgnN {c : Nat} {z : Str} (q : Q (.bl (!decide (c ∈ z.cps.toList))) H) : rSgn true (.str ⟨#[c]⟩) (.str z) H Q := ⟨c, z, rfl, rfl, q⟩
theorem cb {r : List V → Hp → VK → Prop} (q : tA σ H fun vs H1 => r vs H1 Q) : tCB r tA σ H Q := q
theorem acons {QA : List V → Hp → Prop} (q : ta σ H fun x H1 => tr σ H1 fun xs H2 => QA (x :: xs) H2) : tCons ta tr σ H QA := q
theorem anil {QA : List V → Hp → Prop} (q : QA [] H) : tNil σ H QA := q
theorem lenS {z : Str} (h : z.length ≤ sizeLine) (q : Q (.int z.length) H) : rLenS [.str z] H Q := ⟨z, rfl, h, q⟩
theorem lenL {p : Addr} {ys : List V} (h : SqL K H p ys) (q : Q (.int ys.length) H) : rLenQ K [.ref p] H Q := ⟨p, ys, rfl, .inl h, q⟩
theorem lenT {p : Addr} {ys : List V} (h : SqT K H p ys) (q : Q (.int ys.length) H) : rLenQ K [.ref p] H Q := ⟨p, ys, rfl, .inr h, q⟩
theorem int1 {i : Int} (q : Q (.int i) H) : rInt1 [.int i] H Q := ⟨i, rfl, q⟩
theorem abs1 {i : Int} (q : Q (.int (if i < 0 then -i else i)) H) : rAbs1 [.int i] H Q := ⟨i, rfl, q⟩
theorem max2 {i j : Int} (q : Q (.int (if j > i then j else i)) H) : rMax2 [.int i, .int j] H Q := ⟨i, j, rfl, q⟩
theorem min2 {i j : Int} (q : Q (.int (if j < i then j else i)) H) : rMin2 [.int i, .int j] H Q := ⟨i, j, rfl, q⟩
theorem listL {p : Addr} {ys : List V} (h : SqL K H p ys) (q : ∀ l, H l = none → Q (.ref l) (upd H l (.lst ys))) : rList K [.ref p] H Q := ⟨p, ys, rfl, .inl h, q⟩
theorem ixL {p : Addr} {xs : List V} {i : Int} (h : SqL K H p xs) (e : atI xs i = some v) (q : Q v H) : rIxL K (.ref p) (.int i) H Q := ⟨p, xs, i, v, rfl, rfl, h, e, q⟩
theorem ixT {p : Addr} {xs : List V} {i : Int} (h : SqT K H p xs) (e : atI xs i = some v) (q : Q v H) : rIxT K (.ref p) (.int i) H Q := ⟨p, xs, i, v, rfl, rfl, h, e, q⟩
theorem ixS {z : Str} {i : Int} {c : Nat} (h : z.length ≤ sizeLine) (e : atI z.cps.toList i = some c) (q : Q (.str ⟨#[c]⟩) H) : rIxS (.str z) (.int i) H Q := ⟨z, i, c, rfl, rfl, h, e, q⟩
theorem lst (h : tA σ H fun xs H1 => xs.length ≤ sizeLine ∧ ∀ p, H1 p = none → Q (.ref p) (upd H1 p (.lst xs))) : tLst tA σ H Q := h
theorem tup (h : tA σ H fun xs H1 => xs.length ≤ sizeLine ∧ ∀ p, H1 p = none → Q (.ref p) (upd H1 p (.tup xs))) : tTup tA σ H Q := h
theorem call {sp : Sp} {E : XK} (q : tA σ H fun vs H1 => sp vs H1 Q E) : tCall sp [] E tA σ H Q := by
  have e : (fun (vs : List V) H1 => sp (vs ++ []) H1 Q E) = fun vs H1 => sp vs H1 Q E := by
    funext vs H1
    rw [List.append_nil]
  show tA σ H (fun vs H1 => sp (vs ++ []) H1 Q E)
  rw [e]
  exact q
theorem andV (q : ta σ H fun x H1 => ∃ c, x = .bl c ∧ if c = true then tb σ H1 Q else Q (.bl false) H1) : tAndV ta tb σ H Q := q
theorem orV (q : ta σ H fun x H1 => ∃ c, x = .bl c ∧ if c = true then Q (.bl true) H1 else tb σ H1 Q) : tOrV ta tb σ H Q := q
theorem notV (q : ta σ H fun x H1 => ∃ c, x = .bl c ∧ Q (.bl (!c)) H1) : tNotV ta σ H Q := q
theorem chain {r r' : R2} (q : ta σ H fun x H1 => tb σ H1 fun y H2 => r x y H2 fun z H3 => ∃ k, z = .bl k ∧ (if k = true then tc σ H3 fun w' H4 => r' y w' H4 Q else Q (.bl false) H3)) : tChain r r' ta tb tc σ H Q := q
theorem bl {c : Bool} {P : Bool → Prop} (q : P c) : ∃ k, V.bl c = V.bl k ∧ P k := ⟨c, rfl, q⟩
theorem ifE (q : t σ H fun c H1 => if c = true then ta σ H1 Q else tb σ H1 Q) : tIf t ta tb σ H Q := q
/-! tests -/
variable {QT : Bool → Hp → Prop}
theorem test (q : te σ H fun x H' => ∃ k, x = .bl k ∧ QT k H') : tTest te σ H QT := q
theorem testB (q : te σ H fun x H' => ∃ k, x = .bl k ∧ QT k H') : tB te σ H QT := q
theorem tand (q : t σ H fun c H1 => if c = true then u σ H1 QT else QT false H1) : tAnd t u σ H QT := q
theorem tor (q : t σ H fun c H1 => if c = true then QT true H1 else u σ H1 QT) : tOr t u σ H QT := q
theorem tnot (q : t σ H fun c H1 => QT (!c) H1) : tNot t σ H QT := q
/-! statements -/
theorem seq (q : ts { D with nx := tu D } σ H) : tSeq ts tu D σ H := q
theorem next (q : D.nx σ H) : tNext D σ H := q
theorem asg {i : Nat} (q : te σ H fun x H1 => D.nx (σ.set i (some x)) H1) : tAsg te (gName i) D σ H := q
theorem asgSub {to ti : TE} {r : TSet} (q : te σ H fun v H1 => to σ H1 fun o H2 => ti σ H2 fun i H3 => r o i v H3 fun H4 => D.nx σ H4) : tAsg te (gSub to ti r) D σ H := q
theorem setL {p : Addr} {xs : List V} {k : Int} {j : Nat} {QH : Hp → Prop} (h : H p = some (.lst xs)) (e : ixN xs.length k = some j) (q : QH (upd H p (.lst (xs.set j v)))) : rSetL (.ref p) (.int k) v H QH := ⟨p, xs, k, j, rfl, rfl, h, e, q⟩
theorem ret (q : te σ H D.rt) : tRet te D σ H := q
theorem drop (q : te σ H fun _ H1 => D.nx σ H1) : tDrop te D σ H := q
theorem ifS (q : t σ H fun b H1 => if b = true then ts D σ H1 else tu D σ H1) : tIfS t ts tu D σ H := q
/-! choices -/
theorem iteD {p : Prop} [Decidable p] {A B : Prop} (h1 : p → A) (h2 : ¬ p → B) : if decide p = true then A else B := by
  by_cases h : p
  · rw [if_pos (decide_eq_true h)]
    exact h1 h
  · rw [if_neg (fun z => h (of_decide_eq_true z))]
    exact h2 h
theorem iteN {p : Prop} [Decidable p] {A B : Prop} (h1 : ¬ p → A) (h2 : p → B) : if (!decide p) = true then A else B := by
  by_cases h : p
  · rw [decide_eq_true h]
    exact h2 h
  · rw [decide_eq_false h]
    exact h1 h
theorem iteB {b : Bool} {A B : Prop} (h1 : b = true → A) (h2 : b = false → B) : if b = true then A else B := by
  cases b with
  | true => exact h1 rfl
  | false => exact h2 rfl
theorem iteNB {b : Bool} {A B : Prop} (h1 : b = false → A) (h2 : b = true → B) : if (!b) = true then A else B := by
  cases b with
  | true => exact h2 rfl
  | false => exact h1 rfl
end

section
variable {K : PySem.W.Frag} {σ : L2.St} {H : Hp} {Q : VK} {v x y : V} {te ta tb tc : TE} {t u : TT} {D : Ends} {ts tu : TS} {tA tr : TA}
/-! stores and new things: the heap behind by what is known of it -/
theorem setG {p : Addr} {xs ys : List V} {k : Int} {j : Nat} {QH : Hp → Prop} (h : H p = some (.lst xs)) (e : ixN xs.length k = some j) (ey : xs.set j v = ys)
    (q : ∀ H1, H1 p = some (.lst ys) → (∀ T, p ∈ T → But T H H1) → QH H1) : rSetL (.ref p) (.int k) v H QH := by
  refine ⟨p, xs, k, j, rfl, rfl, h, e, ?_⟩
  rw [ey]
  exact q _ upd_same fun T hT => But.set h rfl hT
theorem mkL {xs : List V} (hz : xs.length ≤ sizeLine) (q : ∀ p H2, H p = none → H2 p = some (.lst xs) → (∀ T, But T H H2) → Q (.ref p) H2) : xs.length ≤ sizeLine ∧ ∀ p, H p = none → Q (.ref p) (upd H p (.lst xs)) :=
  ⟨hz, fun p hp => q p _ hp upd_same fun _ => But.new hp⟩
theorem mkT {xs : List V} (hz : xs.length ≤ sizeLine) (q : ∀ p H2, H p = none → H2 p = some (.tup xs) → (∀ T, But T H H2) → Q (.ref p) H2) : xs.length ≤ sizeLine ∧ ∀ p, H p = none → Q (.ref p) (upd H p (.tup xs)) :=
  ⟨hz, fun p hp => q p _ hp upd_same fun _ => But.new hp⟩
theorem mkN {xs : List V} (q : ∀ p H2, H p = none → H2 p = some (.lst xs) → (∀ T, But T H H2) → Q (.ref p) H2) : ∀ l, H l = none → Q (.ref l) (upd H l (.lst xs)) := fun p hp => q p _ hp upd_same fun _ => But.new hp
theorem bm {T : String} {r : V → List V → Hp → VK → Prop} {to : TE} (q : to σ H fun x H1 => tyV K T x H1 ∧ tA σ H1 fun xs H2 => r x xs H2 Q) : tBM K T r to tA σ H Q := q
theorem bm0 {T : String} {r : V → List V → Hp → VK → Prop} {to : TE} (q : to σ H fun x H1 => tyV K T x H1 ∧ r x [] H1 Q) : tBM0 K T r to σ H Q := q
theorem tyL {p : Addr} {xs : List V} {B : Prop} (h : SqL K H p xs) (q : B) : tyV K "list" (.ref p) H ∧ B := ⟨.inl ⟨rfl, xs, h⟩, q⟩
theorem app {l : Addr} {xs : List V} {y : V} (h : H l = some (.lst xs)) (hz : xs.length < sizeLine) (q : ∀ H1, H1 l = some (.lst (xs ++ [y])) → (∀ T, l ∈ T → But T H H1) → Q .non H1) : rAppend (.ref l) [y] H Q :=
  ⟨l, xs, y, rfl, rfl, h, hz, q _ upd_same fun _ hT => But.set h rfl hT⟩

theorem rev {l : Addr} {xs : List V} (h : H l = some (.lst xs)) (q : ∀ H1, H1 l = some (.lst xs.reverse) → (∀ T, l ∈ T → But T H H1) → Q .non H1) : rReverse (.ref l) [] H Q :=
  ⟨l, xs, rfl, rfl, h, q _ upd_same fun _ hT => But.set h rfl hT⟩
theorem neD {d e : PyData} (h1 : Dp K H x d) (h2 : Dp K H y e) (s1 : SeqAt.shaped d = true) (s2 : SeqAt.shaped e = true) (q : Q (.bl (!PyData.eqv d e)) H) : rNeD K x y H Q := ⟨d, e, h1, h2, s1, s2, q⟩
/-! a word between a statement and the rest -/
theorem cut (M : L2.St → Hp → Prop) (h : ts { D with nx := M } σ H) (k : ∀ σ' H', M σ' H' → tu D σ' H') : Evl.tCut ts tu D σ H := ⟨M, h, k⟩
/-- nothing has changed where the statement falls through -/
theorem cutR (h : ts { D with nx := fun σ' H' => σ' = σ ∧ H' = H } σ H) (k : tu D σ H) : Evl.tCut ts tu D σ H := ⟨_, h, fun σ' H' e => by
  rw [e.1, e.2]
  exact k⟩
/-- a new thing: the heap behind gets a name -/
theorem gen {p : Addr} {o : HO} (h : H p = none) : ∃ H2, upd H p o = H2 ∧ H2 p = some o ∧ ∀ T, But T H H2 := ⟨_, rfl, upd_same, fun _ => But.new h⟩
theorem m1 {r : V → List V → Hp → VK → Prop} {to : TE} (q : to σ H fun x H1 => (∃ a, x = .str a) ∧ te σ H1 fun y H2 => r x [y] H2 Q) : tM1 r to te σ H Q := q
theorem strOk {z : Str} {B : Prop} (q : B) : (∃ a, V.str z = V.str a) ∧ B := ⟨⟨z, rfl⟩, q⟩
theorem joinL {a : Str} {p : Addr} {ys : List Str} (h : SqL K H p (ys.map V.str)) (hz : (ys.map (·.length)).sum + ys.length * a.length ≤ 16777216) (q : Q (.str (Str.join a ys)) H) : rJoin K (.str a) [.ref p] H Q :=
  ⟨a, p, ys, rfl, rfl, .inl h, hz, by rw [show Txt.join a ys = Str.join a ys from StrLaws.glued_eq_join a ys]; exact q⟩
theorem split {a b : Str} (hb : (b.length == 0) = false) (hz : a.length + 2 ≤ sizeLine) (q : ∀ p, H p = none → Q (.ref p) (upd H p (.lst ((Txt.split a b).map V.str)))) : rSplit (.str a) [.str b] H Q :=
  ⟨a, b, rfl, rfl, hb, hz, q⟩
theorem sl {r : V → Option Int → Option Int → Hp → VK → Prop} {tl th : TO} (q : te σ H fun x H1 => tl σ H1 fun l H2 => th σ H2 fun u H3 => r x l u H3 Q) : tSl r te tl th σ H Q := q
theorem part {QO : Option Int → Hp → Prop} (q : te σ H fun x H1 => ∃ i, x = .int i ∧ QO (some i) H1) : tPart te σ H QO := q
theorem noPart {QO : Option Int → Hp → Prop} (q : QO none H) : tNoPart σ H QO := q
theorem partI {i : Int} {R : Int → Prop} (q : R i) : ∃ k, V.int i = V.int k ∧ R k := ⟨i, rfl, q⟩
theorem slS {z : Str} {lo hi : Option Int} (h : z.length ≤ sizeLine) (q : Q (.str (cutS z lo hi)) H) : rSlS (.str z) lo hi H Q := ⟨z, rfl, h, q⟩
theorem allS {P : Addr} {pb : Nat → Bool} (q : te σ H fun v H1 => ∃ a : Str, v = .str a ∧ GxR.TabG H1 P ∧ ∀ H2, GxR.Tabbed P H1 H2 → Q (.bl (a.cps.toList.all pb)) H2) : GxR.tAllS P pb te σ H Q := q
theorem room1 {k : Nat} {A : Around} (hr : Room k A) : A.depth + 1 < recursionLimit := by
  have := hr.dp
  omega
/-- isinstance, both classes built in -/
theorem isi {a c : String} {b : Bool} (ty : TyX K H x (.type a)) (h : kitB a c = some b) (q : Q (.bl b) H) : rIsi K [x, .ty c] H Q := ⟨x, .ty c, .type a, .type c, b, rfl, .ty c, ty, kit_ty h, q⟩
theorem gname {i : Nat} {QS : L2.St → Hp → Prop} (q : QS (σ.set i (some v)) H) : gName i v σ H QS := q
theorem jcons {tt : TE} {ts' : List TE} {acc : Str} {QJ : Str → Hp → Prop} (q : tt σ H fun x H1 => ∃ y : Str, x = .str y ∧ (acc ++ y).length ≤ sizeLine ∧ tJs ts' (acc ++ y) σ H1 QJ) : tJs (tt :: ts') acc σ H QJ := q
theorem jnil {acc : Str} {QJ : Str → Hp → Prop} (q : QJ acc H) : tJs [] acc σ H QJ := q
theorem fmtR (q : te σ H fun x H1 => (∃ y : Str, x = .str y ∧ (reprText y).length ≤ sizeLine ∧ Q (.str (reprText y)) H1) ∨ ∃ i : Int, x = .int i ∧ i.natAbs.log2 < 1920 ∧ Q (.str (toString i)) H1) : tFmtR te σ H Q := q
/-! loops -/
/-- what a for asks, once its walk J is known -/
def Loop (J : It) (g : TG) (tb : TS) (D : Ends) (σ : L2.St) (H : Hp) : Prop := ∃ W : Nat → Nat → L2.St → Hp → Prop, (∃ m, W 0 m σ H) ∧ ∀ i m σ H, W i m σ H →
  (J.stop i H ∧ D.nx σ H) ∨ (J.go i H ∧ ∃ N : L2.St → Hp → Prop, (∀ σ' H', N σ' H' → ∃ m', m' < m ∧ W (i + 1) m' σ' H') ∧ ∀ x H', J.yld i H x H' → g x σ H' fun σ2 H2 => tb { D with nx := N, ct := N, bk := D.nx } σ2 H2)
theorem forS {wi : TI} {g : TG} {tb : TS} (q : wi σ H fun J H1 => Loop J g tb D σ H1) : tFor wi g tb D σ H := q
theorem rng1 {R : It → Hp → Prop} (q : tA σ H fun vs H1 => ∃ j : Int, vs = [.int j] ∧ -(2 ^ 62) ≤ j ∧ j < 2 ^ 62 ∧ R (Itr 0 j.toNat) H1) : iRng1 tA σ H R := q
theorem rngI {g : TG} {tb : TS} {n : Int} (h1 : -(2 ^ 62) ≤ n) (h2 : n < 2 ^ 62) (q : Loop (Itr 0 n.toNat) g tb D σ H) : ∃ j : Int, [V.int n] = [V.int j] ∧ -(2 ^ 62) ≤ j ∧ j < 2 ^ 62 ∧ Loop (Itr 0 j.toNat) g tb D σ H := ⟨n, rfl, h1, h2, q⟩
theorem itS {R : It → Hp → Prop} (q : te σ H fun v H1 => ∃ x, v = .str x ∧ R (Its x) H1) : iStr te σ H R := q
theorem itSs {g : TG} {tb : TS} {z : Str} (q : Loop (Its z) g tb D σ H) : ∃ x, V.str z = V.str x ∧ Loop (Its x) g tb D σ H := ⟨z, rfl, q⟩
theorem itL {R : It → Hp → Prop} (q : te σ H fun x H1 => ∃ a, x = .ref a ∧ (∃ xs, SqL K H1 a xs) ∧ R (Itl K a) H1) : iList K te σ H R := q
theorem itLs {g : TG} {tb : TS} {a : Addr} {xs : List V} (h : SqL K H a xs) (q : Loop (Itl K a) g tb D σ H) : ∃ b, V.ref a = V.ref b ∧ (∃ xs, SqL K H b xs) ∧ Loop (Itl K b) g tb D σ H := ⟨a, rfl, ⟨xs, h⟩, q⟩
theorem itT {R : It → Hp → Prop} (q : te σ H fun x H1 => ∃ a, x = .ref a ∧ (∃ xs, SqT K H1 a xs) ∧ R (Itt K a) H1) : iTup K te σ H R := q
theorem itTs {g : TG} {tb : TS} {a : Addr} {xs : List V} (h : SqT K H a xs) (q : Loop (Itt K a) g tb D σ H) : ∃ b, V.ref a = V.ref b ∧ (∃ xs, SqT K H b xs) ∧ Loop (Itt K b) g tb D σ H := ⟨a, rfl, ⟨xs, h⟩, q⟩
/-! comprehensions -/
def LC (J : It) (g : TG) (tt : TT) (te : TE) (vs : List Nat) (σ : L2.St) (H1 : Hp) (D : Addr) (Qd : Hp → Prop) : Prop := ∃ W : Nat → Nat → Hp → Prop, (∃ m, W 0 m (upd H1 D (.lst []))) ∧ ∀ i m H, W i m H →
  (J.stop i H ∧ Qd H) ∨ (J.go i H ∧ ∃ Nx : Hp → Prop, (∀ H', Nx H' → ∃ m', m' < m ∧ W (i + 1) m' H') ∧ ∀ x H', J.yld i H x H' → g x (wipe σ vs) H' fun σ2 H2 => wipe σ2 vs = wipe σ vs ∧ tt σ2 H2 fun b H3 =>
    if b = true then te σ2 H3 fun y H4 => ∃ acc, H4 D = some (.lst acc) ∧ acc.length < sizeLine ∧ Nx (upd H4 D (.lst (acc ++ [y]))) else Nx H3)
theorem lc {wi : TI} {g : TG} {tt : TT} {vs : List Nat} (q : wi σ H fun J H1 => ∀ D, H1 D = none → LC J g tt te vs σ H1 D fun H2 => Q (.ref D) H2) : tLc wi g tt te vs σ H Q := q
theorem lcLs {g : TG} {tt : TT} {vs : List Nat} {QD : Addr → Hp → Prop} {a : Addr} {xs : List V} (h : SqL K H a xs) (q : ∀ D, H D = none → LC (Itl K a) g tt te vs σ H D (QD D)) :
    ∃ b, V.ref a = V.ref b ∧ (∃ xs, SqL K H b xs) ∧ ∀ D, H D = none → LC (Itl K b) g tt te vs σ H D (QD D) := ⟨a, rfl, ⟨xs, h⟩, q⟩
/-- [e for x in xs if t], the test and the element worth f and v whatever has been laid meanwhile; what was tracked stands -/
theorem lcL {j : Nat} {tt : TT} {vs : List Nat} {a D : Addr} {xs : List V} {Qd : Hp → Prop} (f : V → Bool) (v : V → V) (hx : SqL K H a xs) (hD : H D = none) (hz : xs.length < 1000000) (hw : ∀ x, wipe ((wipe σ vs).set j (some x)) vs = wipe σ vs)
    (ht : ∀ x H1 QT, x ∈ xs → (∀ T, But T H H1) → (∀ H2, (∀ T, But T H1 H2) → QT (f x) H2) → tt ((wipe σ vs).set j (some x)) H1 QT)
    (he : ∀ x H1 QV, x ∈ xs → f x = true → (∀ T, But T H H1) → (∀ H2, (∀ T, But T H1 H2) → QV (v x) H2) → te ((wipe σ vs).set j (some x)) H1 QV)
    (hd : ∀ H1, (∀ T, But T H H1) → H1 D = some (.lst ((xs.filter f).map v)) → Qd H1) : LC (Itl K a) (gName j) tt te vs σ H D Qd := by
  refine lc_list (K := K) (a := a) (xs := xs) (fun i H1 => (∀ T, But T H H1) ∧ H1 D = some (.lst (((xs.take i).filter f).map v))) ⟨fun _ => But.new hD, upd_same⟩ (fun i H1 _ p => (p.1 []).seq hx (by simp)) (fun i x H1 hi p => ?_) fun H1 p => hd H1 p.1 (by rw [List.take_length] at p; exact p.2)
  have hm := List.mem_of_getElem? hi
  refine ⟨hw x, ht x H1 _ hm p.1 fun H2 b2 => ?_⟩
  have hb : ∀ T, But T H H2 := fun T => (p.1 T).trans (b2 T)
  have hD2 := (b2 []).lst p.2 (by simp)
  cases e : f x with
  | true =>
    refine L2.iteT (he x H2 _ hm e hb fun H3 b3 => ?_)
    have hD3 := (b3 []).lst hD2 (by simp)
    refine ⟨_, hD3, ?_, fun T => (((hb T).trans (b3 T)).own hD (But.set hD3 rfl (List.mem_singleton.mpr rfl))), ?_⟩
    · rw [List.length_map]
      exact Nat.lt_of_le_of_lt (Nat.le_trans (List.length_filter_le _ _) (List.length_take_le' _ _)) (Nat.lt_of_lt_of_le hz (by decide))
    · rw [upd_same, List.take_add_one, hi, List.filter_append, List.map_append]
      show some (HO.lst _) = some (HO.lst (_ ++ List.map v (List.filter f [x])))
      rw [List.filter_cons, if_pos e]
      rfl
  | false =>
    refine L2.iteF ⟨hb, ?_⟩
    rw [hD2, List.take_add_one, hi, List.filter_append, List.map_append]
    show some (HO.lst _) = some (HO.lst (_ ++ List.map v (List.filter f [x])))
    rw [List.filter_cons, if_neg (by rw [e]; decide)]
    show _ = some (HO.lst (_ ++ []))
    rw [List.append_nil]
theorem loopR {j : Nat} {tb : TS} {n : Nat} (Pv : Nat → L2.St → Hp → Prop) (h0 : Pv 0 σ H)
    (hs : ∀ i σ' H', i < n → Pv i σ' H' → tb { D with nx := Pv (i + 1), ct := Pv (i + 1), bk := D.nx } (σ'.set j (some (.int (i : Int)))) H') (hd : ∀ σ' H', Pv n σ' H' → D.nx σ' H') : Loop (Itr 0 n) (gName j) tb D σ H :=
  for_range (lo := 0) (n := n) Pv h0 (fun i σ' H' hi p => by
    have e : (0 : Int) + (i : Int) = (i : Int) := Int.zero_add _
    show tb { D with nx := Pv (i + 1), ct := Pv (i + 1), bk := D.nx } (σ'.set j (some (.int ((0 : Int) + (i : Int))))) H'
    rw [e]
    exact hs i σ' H' hi p) hd
theorem loopL {g : TG} {tb : TS} {a : Addr} {xs : List V} (Pv : Nat → L2.St → Hp → Prop) (h0 : Pv 0 σ H) (hl : ∀ i σ' H', i ≤ xs.length → Pv i σ' H' → SqL K H' a xs)
    (hs : ∀ i x σ' H', xs[i]? = some x → Pv i σ' H' → g x σ' H' fun σ2 H2 => tb { D with nx := Pv (i + 1), ct := Pv (i + 1), bk := D.nx } σ2 H2) (hd : ∀ σ' H', Pv xs.length σ' H' → D.nx σ' H') : Loop (Itl K a) g tb D σ H :=
  for_list (K := K) (a := a) (xs := xs) Pv h0 hl hs hd
theorem loopT {g : TG} {tb : TS} {a : Addr} {xs : List V} (Pv : Nat → L2.St → Hp → Prop) (h0 : Pv 0 σ H) (hl : ∀ i σ' H', i ≤ xs.length → Pv i σ' H' → SqT K H' a xs)
    (hs : ∀ i x σ' H', xs[i]? = some x → Pv i σ' H' → g x σ' H' fun σ2 H2 => tb { D with nx := Pv (i + 1), ct := Pv (i + 1), bk := D.nx } σ2 H2) (hd : ∀ σ' H', Pv xs.length σ' H' → D.nx σ' H') : Loop (Itt K a) g tb D σ H :=
  for_tup (K := K) (a := a) (xs := xs) Pv h0 hl hs hd
theorem loopS {g : TG} {tb : TS} {z : Str} (Pv : Nat → L2.St → Hp → Prop) (h0 : Pv 0 σ H)
    (hs : ∀ (i : Nat) (c : Nat) σ' H', z.cps.toList[i]? = some c → Pv i σ' H' → g (.str ⟨#[c]⟩) σ' H' fun σ2 H2 => tb { D with nx := Pv (i + 1), ct := Pv (i + 1), bk := D.nx } σ2 H2) (hd : ∀ σ' H', Pv z.cps.toList.length σ' H' → D.nx σ' H') : Loop (Its z) g tb D σ H := by
  have hsz : z.cps.toList.length = z.cps.size := Array.length_toList
  refine ⟨fun i m σ H => m = z.cps.size - i ∧ i ≤ z.cps.size ∧ Pv i σ H, ⟨z.cps.size, by simp, Nat.zero_le _, h0⟩, ?_⟩
  rintro i m σ' H' ⟨rfl, hi, p⟩
  by_cases hlt : i < z.cps.size
  · refine .inr ⟨hlt, Pv (i + 1), fun σ2 H2 p' => ⟨z.cps.size - (i + 1), by omega, rfl, hlt, p'⟩, fun x H2 y => ?_⟩
    obtain ⟨e, c, hc, ex⟩ := y
    subst e ex
    exact hs i c σ' _ (by rw [Array.getElem?_toList]; exact hc) p
  · have e : i = z.cps.size := by omega
    subst e
    exact .inl ⟨Nat.le_refl _, hd σ' H' (by rw [hsz]; exact p)⟩

end
/-- the slots at the start, written out -/
theorem st {N : List Str} {vs : List V} {ts : TS} {D : Ends} {H : Hp} {σ : L2.St} (e : L2.start N vs = σ) (q : ts D σ H) : ts D (L2.start N vs) H := by
  rw [e]
  exact q

/-! ## a def of the text, its address, how it binds -/
structure DefAt (K : PySem.W.Frag) (mg : Str → Option Value) (x : Str) (st : Stmt) (ps : List Str) (f : Addr) (fd : FuncData) : Prop where
  F : Fun K x x st f fd
  b : Binds K fd ps []
  g : mg x = some (.ref f)
section
variable {X : Cx} {CX : CXT} {k : Nat} {f : Addr} {fd : FuncData} {ps : List Str} {sp : Sp} {x : Str} {st : Stmt} {p pos : Pos} {e : Expr} {es : List Expr} {t : TA}
/-- f(..), f a def of one's own that raises nothing -/
theorem pcall (D : DefAt X.K X.mg x st ps f fd) (G : FnOk X.prog X.w X.K X.mg X.base CX0 k f fd ps sp) (hr : Room k X.A) (ha : PA X (e :: es) t) (hg : Gl X x := by rfl) (hdb : (x == ("__debug__" : Str)) = false := by decide)
    (he : starEach (e :: es) X.env = (false, eval e X.env) :: starEach es X.env := by rfl) (hpl : (backTo pos (starEach es X.env)).any (·.1) = false := by rfl) :
    PE X (.Call (.Name x p) (e :: es) [] pos) (tCall sp [] E0 t) := pe_call G hr hg D.g D.F.kp D.b .nil pass0 ha hdb he hpl
theorem pcall0 (D : DefAt X.K X.mg x st ps f fd) (G : FnOk X.prog X.w X.K X.mg X.base CX0 k f fd ps sp) (hr : Room k X.A) (hg : Gl X x := by rfl) (hdb : (x == ("__debug__" : Str)) = false := by decide) :
    PE X (.Call (.Name x p) [] [] pos) (tCall sp [] E0 tNil) := pe_call0 G hr hg D.g D.F.kp D.b .nil pass0 hdb
end
end Y


/-! # any(list of truth values) while an exception is handled -/
namespace Yh
open PySem PySem.Spec PyProof.Rows L2 HotX L2H
section
variable {prog : Program} {w : World} {A : Around} {E : Value → Shared → Prop} {s : Shared}
theorem list_end {it l x1 : Addr} {i : Nat} {items : Array Value} {Q : Option Value → Shared → Prop} (hot : HotAt A x1 s.heap) (hne : x1 ≠ it) (hit : s.heap.IsListIter it l i) (hl : s.heap.IsList l items) (hx : items[i]? = none)
    (hQ : ∀ h', Heap.ExtBut it s.heap h' → Q none { s with heap := h' }) : wpAny (model prog w) A (pyNext (.ref it)) Q E s := by
  obtain ⟨o, ho, hc, hd⟩ := _root_.id hit
  obtain ⟨ol, hol, _, nl, hdl⟩ := hl
  obtain ⟨hh, o1, vs1, h1, d1, c1⟩ := hot
  unfold pyNext
  refine wpAny_bind (wpAny_attempt (wpAny_callSpecial?_slot (name := Str.ofString "__next__") hit.typeIs slot_listiter_next (wpAny_call_entry slot_listiter_next hit.typeIs entry_listiter_next ?_ (args_listiter_next _))))
  show wpAny _ _ (field (.ref it) 0 >>= _) _ _ s
  refine wpAny_bind (wpAny_field ho hd (x := .ref l) rfl ?_)
  show wpAny _ _ (if (Value.ref l == Value.none) = true then _ else _) _ _ s
  rw [if_neg (show ¬ ((Value.ref l == Value.none) = true) from Bool.false_ne_true)]
  show wpAny _ _ (field (.ref it) 1 >>= _) _ _ s
  refine wpAny_bind (wpAny_field ho hd (x := .int i 0) rfl ?_)
  show wpAny _ _ (seqItems? (.ref l) >>= _) _ _ s
  refine wpAny_bind (wpAny_seqItems hol hdl ?_)
  simp only [Int.toNat_natCast, hx]
  refine wpAny_bind (wpAny_rule (wpAny_bind (wpAny_setField ho hd (by simp) ?_)))
  show wpAny _ _ (newExc (.type "StopIteration") [] >>= _) _ _ _
  refine wpAny_bind ?_
  simp only [newExc, newTuple]
  refine wpAny_bind (wpAny_newObj_type ?_ (by size_fits))
  refine wpAny_bind (m := firstArgMember _ _) (wpAny_of_eq (a := Value.none) (by first | rfl | (simp only [firstArgMember]; rfl)) ?_)
  refine wpAny_newObj_type ?_ (by size_fits)
  have h1a : (s.heap.update it (Obj.mapFields fun x => x.setIfInBounds 0 Value.none)).get? x1 = some o1 := by
    rw [Heap.get?_update_other _ _ (Ne.symm hne)]
    exact h1
  refine raiseNew_hot ⟨hh, o1, vs1, Heap.get?_push_of_some _ (Heap.get?_push_of_some _ h1a), d1, c1⟩ (Nat.ne_of_lt (Heap.lt_size (Heap.get?_push_of_some _ h1a))) (Heap.get?_push_size _ rfl) rfl (by first | (simp; done) | (simp; omega) | (simp only [Array.size_append]; simp; omega)) ?_
  refine wpAny_bind (wpAny_isInstance (T := "StopIteration") (b := true) ⟨_, Heap.get?_update_self _ (Heap.get?_push_size _ rfl) rfl, rfl⟩ isSubtype_stop ?_)
  refine wpAny_pure (hQ _ fun b u nb e => ?_)
  have ea : (s.heap.update it (Obj.mapFields fun x => x.setIfInBounds 0 Value.none)).get? b = some u := by
    rw [Heap.get?_update_other _ _ (Ne.symm nb)]
    exact e
  rw [Heap.get?_update_other _ _ (Nat.ne_of_gt (Heap.lt_size (Heap.get?_push_of_some _ ea)))]
  exact Heap.get?_push_of_some _ (Heap.get?_push_of_some _ ea)
/-- the walk of a list, an exception x1 being handled -/
theorem walks {x1 it l : Addr} (hh : A.handled = some (.ref x1)) (h1 : x1 ≠ it) (h2 : l ≠ it) (items : Array Value) : Walks prog w A it [it, l, x1] [it] items.size (fun i v => items[i]? = some v)
    (fun i h => h.IsListIter it l i ∧ h.IsList l items ∧ ∃ (o : Obj) (vs : Array Value), h.get? x1 = some o ∧ o.data = .fields vs ∧ vs[2]? = some .none) where
  sub := fun b hb => by
    rw [List.mem_singleton.mp hb]
    exact List.mem_cons_self
  frame := fun _ _ _ st hk => ⟨st.1.at fun o e => hk it (by simp) o e, st.2.1.at fun o e => hk l (by simp) o e, let ⟨o, vs, e, d, c⟩ := st.2.2; ⟨o, vs, hk x1 (by simp) o e, d, c⟩⟩
  item := fun i s Q E hi st hQ => by
    refine wpAny_pyNext_list_item st.1 st.2.1 (x := items[i]) (by simp [hi]) fun h' hit' hs' => ?_
    obtain ⟨o, vs, e, d, c⟩ := st.2.2
    exact hQ _ h' s.toks (by simp [hi]) ⟨hit', st.2.1.extBut hs'.extBut h2, o, vs, hs'.extBut x1 o h1 e, d, c⟩ fun b o hb e => hs'.extBut b o (fun h => hb (by simp [h])) e
  done := fun s Q E st hQ => by
    obtain ⟨o, vs, e, d, c⟩ := st.2.2
    exact list_end ⟨hh, o, vs, e, d, c⟩ h1 st.1 st.2.1 (by simp) fun h' he' => hQ h' s.toks fun b o hb e => he' b o (fun h => hb (by simp [h])) e
  self := fun _ _ _ _ st hQ => wpAny_pyIter_listiter st.1 hQ
end
section
variable {X : Cx}
/-- any(xs), xs a list of truth values, within an except suite -/
theorem cr_anyH (hot : HotC X) : CallR X (.builtin "any") (rAny X.K) := by
  intro pins s σ H vs us Q I r h
  obtain ⟨a, bs, rfl, hs, q⟩ := h
  obtain ⟨its, rv, hl, _⟩ := I.list hs
  obtain ⟨x1, hh, o1, vs1, e1, d1, c1⟩ := hot.at I
  rw [Vals.ref1 r]
  have hb := rv.bls
  refine call_any_walk (iter_any hl.isList fun s₂ e2 st hne => ?_)
  subst e2
  have hx : x1 ≠ s.heap.objs.size := Nat.ne_of_lt (Heap.lt_size e1)
  refine ⟨_, _, _, _, _, _, _, rfl, walks (A := X.A.in1) hh hx hne its.toArray, ⟨st.1, st.2, o1, vs1, Heap.get?_push_of_some _ e1, d1, c1⟩, truth_bools hb, fun h' tk hk => ?_⟩
  refine ⟨.bl (bs.any id), H, I.kept fun b o eo => hk b o (fun z => ?_) (Heap.get?_push_of_some _ eo), ?_, q⟩
  · rw [List.mem_singleton.mp z] at eo
    exact absurd (Heap.lt_size eo) (Nat.lt_irrefl _)
  · show Value.bool _ = Value.bool _
    rw [← L2.any_range, hb, List.size_toArray, List.length_map]
/-- isinstance(e, c), e the exception that the suite holds, an instance of the class at D without a dict of its own -/
def rIsX (K : PySem.W.Frag) (D a : Addr) (cls : Value) (d : Option Addr) : List V → Hp → VK → Prop := fun xs H Q => cls = .ref D ∧ d = none ∧ rIsE K D a xs H Q
theorem call_isX {a D : Addr} {oe : Obj} {cls : Value} {d : Option Addr} {pn : List (Addr × Obj)} (C : ExcC X.K D) (hz : Zc cls d oe) (hf : ∃ vs, oe.data = .fields vs) : CallR (X.suite a ((a, oe) :: pn)) (.builtin "isinstance") (rIsX X.K D a cls d) := by
  intro pins s σ H xs us Q I r h
  obtain ⟨e1, e2, h⟩ := h
  subst e1 e2
  exact call_isE C hz hf pins s σ H xs us Q I r h
/-- no exception leaves: the wish is empty -/
theorem passN : Passes (L2N.CX X.prog X.w) X E0 := fun _ _ _ _ _ _ _ h => by
  obtain ⟨_, _, _, _, _, _, _, _, _, _, _, _, z⟩ := h
  exact z.elim
theorem takesN : L2N.Takes X (fun _ _ _ _ => False) := fun _ _ x => by
  obtain ⟨_, _, _, _, _, _, _, _, _, _, _, _, _, _, _, _, z⟩ := x
  exact z.elim
/-- C(e, ..), an exception of one's own class -/
theorem pmkA {C : Addr} {bmB : List Value} {B newId initId : String} {x : Str} {p pos : Pos} {e : Expr} {es : List Expr} {t : TA} (F : ExcBaseFacts B newId initId bmB) (q : PySem.W.excIn X.K C bmB newId = true) (gC : X.mg x = some (.ref C))
    (kC : PySem.W.keepIn X.K (.ref C) = true) (r : Raises X (.ref C)) (ha : PA X (e :: es) t) (hg : Gl X x := by rfl) (hdb : (x == ("__debug__" : Str)) = false := by decide)
    (he : starEach (e :: es) X.env = (false, eval e X.env) :: starEach es X.env := by rfl) (hpl : (backTo pos (starEach es X.env)).any (·.1) = false := by rfl) :
    L2N.PMk X (.Call (.Name x p) (e :: es) [] pos) (fun σ H Q => t σ H fun vs H1 => vs.length ≤ sizeLine ∧ Q (.ref C) none H1) := by
  intro pins s σ H Q I h
  refine wpAny_Call_Name_kw (ld_glob I hg gC (PySem.W.callWith_K (h₀ := X.base) I.ok.mod.kin kC (thn (ha.run pos pins s σ H _ I h) fun us s1 hh => ?_) he hpl) hdb)
  obtain ⟨vs, H1, I1, r1, hz, q1⟩ := hh
  refine ⟨I1.kIn, ?_⟩
  show wpAny _ _ (call (.ref C) us) _ _ _
  obtain ⟨bm, N, nm, qn, bs, hdct, sn, sub, ab, col, dd, k0, k1, k2, k3, k5, mN, hC, hN, hni, T⟩ := exc_obj I1.kIn q
  exact wpAny_call_exc_subT F T hC hN hni (fun h' e hm => L2N.mk_of I1 hm r q1 (I1.hok.gone hm.new)) (by rw [← r1.length]; exact hz)
/-- a def that may raise, as it stands in the text -/
theorem okN {P : Program} {w : World} {K : PySem.W.Frag} {mg : Str → Option Value} {base : Heap} {x qual : Str} {st : Stmt} {f : Addr} {fd : FuncData} {N ps : List Str} {k : Nat} {sp : Sp} (F : Fun K x qual st f fd) (S : FnScope N ps (defScope st)) (len : ∀ vs H Q E, sp vs H Q E → vs.length = ps.length)
    (hbody : ∀ (cdv : Value) (A : Around) (outer : List Env) (s : Shared) (H : Hp) (vs : List V) (Q : VK) (E : XK), Room k (A.deeper (envOfC qual (defScope st) s.heap.objs.size f cdv)) → sp vs H Q E →
      ∃ t, PSs (cxOf (L2N.CX P w) P w K mg base N qual (defScope st) f cdv A outer s H E) (defBody st) t ∧ t { nx := fun _ H' => Q .non H', rt := Q } (start N vs) H) : FnOk P w K mg base (L2N.CX P w) (k + 1) f fd ps sp := by
  obtain ⟨oc, od, kV, doc, pm, an, cdv, ct, osl, rfl, lk, hcd⟩ := F.ex
  exact fn_of lk hcd S len fun A outer s H vs Q E hr hsp => hbody cdv A outer s H vs Q E hr hsp
/-- f(..), where what it raises is wished by W -/
theorem pcallS {k : Nat} {f : Addr} {fd : FuncData} {ps : List Str} {sp : Sp} {W : WX} {x : Str} {st : Stmt} {p pos : Pos} {e : Expr} {es : List Expr} {t : TA} (D : Y.DefAt X.K X.mg x st ps f fd) (G : FnOk X.prog X.w X.K X.mg X.base (L2N.CX X.prog X.w) k f fd ps sp) (hr : Room k X.A) (tk : L2N.Takes X W)
    (ha : PA X (e :: es) t) (hg : Gl X x := by rfl) (hdb : (x == ("__debug__" : Str)) = false := by decide) (he : starEach (e :: es) X.env = (false, eval e X.env) :: starEach es X.env := by rfl) (hpl : (backTo pos (starEach es X.env)).any (·.1) = false := by rfl) :
    PE X (.Call (.Name x p) (e :: es) [] pos) (tCallS sp (WE W) t) := pe_callS G hr hg D.g D.F.kp D.b (fun σ => L2N.passAt tk σ) ha hdb he hpl
/-- f(..), which raises nothing here -/
theorem pcallN {k : Nat} {f : Addr} {fd : FuncData} {ps : List Str} {sp : Sp} {x : Str} {st : Stmt} {p pos : Pos} {e : Expr} {es : List Expr} {t : TA} (D : Y.DefAt X.K X.mg x st ps f fd) (G : FnOk X.prog X.w X.K X.mg X.base (L2N.CX X.prog X.w) k f fd ps sp) (hr : Room k X.A)
    (ha : PA X (e :: es) t) (hg : Gl X x := by rfl) (hdb : (x == ("__debug__" : Str)) = false := by decide) (he : starEach (e :: es) X.env = (false, eval e X.env) :: starEach es X.env := by rfl) (hpl : (backTo pos (starEach es X.env)).any (·.1) = false := by rfl) :
    PE X (.Call (.Name x p) (e :: es) [] pos) (tCall sp [] E0 t) := pe_call G hr hg D.g D.F.kp D.b .nil passN ha hdb he hpl
theorem callS {sp : Sp} {W : L2.St → XK} {tA : TA} {σ : L2.St} {H : Hp} {Q : VK} (q : tA σ H fun vs H1 => sp vs H1 Q (W σ)) : tCallS sp W tA σ H Q := q
theorem isX {K : PySem.W.Frag} {D a C : Addr} {b : Bool} {H : Hp} {Q : VK} (h : PySem.W.kitOne K (.ref D) (.ref C) = some b) (q : Q (.bl b) H) : rIsX K D a (.ref D) none [.ref a, .ref C] H Q := ⟨rfl, rfl, .ref C, .ref C, b, rfl, fun _ r => r, h, q⟩
theorem isXt {K : PySem.W.Frag} {D a : Addr} {c : String} {b : Bool} {H : Hp} {Q : VK} (h : PySem.W.kitOne K (.ref D) (.type c) = some b) (q : Q (.bl b) H) : rIsX K D a (.ref D) none [.ref a, .ty c] H Q := ⟨rfl, rfl, .ty c, .type c, b, rfl, fun _ r => r, h, q⟩
theorem hot_of {X : Cx} {a : Addr} {oe : Obj} {cls : Value} {d : Option Addr} {pn : List (Addr × Obj)} (hz : L2N.Zn cls d oe) (hf : ∃ vs, oe.data = .fields vs) : HotC (X.suite a ((a, oe) :: pn)) := by
  obtain ⟨vs, e⟩ := hf
  exact ⟨(a, oe), ⟨rfl, vs, e, hz.2.2 vs e⟩, List.mem_cons_self⟩
end
end Yh

/-! # Readings: dicts, several targets, zip, stars; labels in the heap -/
namespace Y
open PySem L2 PySem.Spec PyProof.Rows StX RZ
theorem units1 {k : Nat} {A : Around} (r : Room k A) : A.units + 1 < cLine := by
  have := r.units
  omega
/-- tuples stand -/
def Stay (H H' : Hp) : Prop := ∀ a xs, H a = some (.tup xs) → H' a = some (.tup xs)
theorem Stay.refl (H : Hp) : Stay H H := fun _ _ h => h
theorem Stay.trans {H H1 H2 : Hp} (a : Stay H H1) (b : Stay H1 H2) : Stay H H2 := fun x xs h => b x xs (a x xs h)
theorem But.stay {T : List Addr} {H H' : Hp} (b : But T H H') (n : ∀ t ∈ T, ∀ xs, H t ≠ some (.tup xs)) : Stay H H' := fun a xs h => b.keep a _ h (fun z => n a z xs h) rfl
theorem But.stay0 {H H' : Hp} (b : But [] H H') : Stay H H' := b.stay fun _ z => by cases z
section
variable {K : PySem.W.Frag} {σ : L2.St} {H : Hp} {Q : VK} {v x y : V} {te ta tb tc td ty tx : TE} {t u : TT} {D : Ends} {ts tu : TS} {tA tr : TA}
theorem star {QA : List V → Hp → Prop} (q : te σ H fun x H1 => ∃ p xs, x = V.ref p ∧ (SqT K H1 p xs ∨ SqL K H1 p xs) ∧ tA σ H1 fun ys H2 => QA (xs ++ ys) H2) : tStar K te tA σ H QA := q
theorem starT {R : List V → Prop} {p : Addr} {xs : List V} (h : SqT K H p xs) (q : R xs) : ∃ p' xs', V.ref p = V.ref p' ∧ (SqT K H p' xs' ∨ SqL K H p' xs') ∧ R xs' := ⟨p, xs, rfl, .inl h, q⟩
theorem asgG {g : TG} (q : te σ H fun x H1 => g x σ H1 D.nx) : tAsg te g D σ H := q
theorem gtup {n : Nat} {g : TGs} {QS : L2.St → Hp → Prop} {a : Addr} {xs : List V} (h : SqT K H a xs) (hl : xs.length = n) (q : g xs σ H QS) : gTup K n g (.ref a) σ H QS := ⟨a, xs, rfl, h, hl, q⟩
theorem gcons {g : TG} {gs : TGs} {vs : List V} {QS : L2.St → Hp → Prop} (q : g v σ H fun σ' H' => gs vs σ' H' QS) : gCons g gs (v :: vs) σ H QS := ⟨v, vs, rfl, q⟩
theorem gnil {QS : L2.St → Hp → Prop} (q : QS σ H) : gNil [] σ H QS := ⟨rfl, q⟩
/-- what the library's words say, each under a name -/
def rGet (x y : V) (H : Hp) (Q : VK) : Prop := ∃ a v, x = .ref a ∧ DGet H a y (some v) ∧ Q v H
def rHas (neg : Bool) (x y : V) (H : Hp) (Q : VK) : Prop := ∃ a o, x = .ref a ∧ DGet H a y o ∧ Q (.bl (if neg then !o.isSome else o.isSome)) H
def rPut (x y v : V) (H : Hp) (R : Hp → Prop) : Prop := ∃ a H4, x = .ref a ∧ DPut H a y v H4 ∧ R H4
def rSetd (a : Addr) (y z : V) (H : Hp) (Q : VK) : Prop := ∃ (kvs : List (Key × V)) (k : Key), H a = some (.dK kvs) ∧ y = kV k ∧ kvs.length < sizeLine ∧ (∀ v, valV kvs k = some v → Q v H) ∧ (valV kvs k = none → Q z (upd H a (.dK (putK kvs k z))))
def rCopyD : List V → Hp → VK → Prop := fun xs H Q => ∃ (a : Addr) (kvs : List (Key × V)), xs = [.ref a] ∧ Rd H a (.dK kvs) ∧ ∀ p, H p = none → Q (.ref p) (upd H p (.dK kvs))
theorem call_copyD {X : Cx} : CallR X (.type "dict") rCopyD := call_dictD
def rSwith : V → List V → Hp → VK → Prop := fun x xs H Q => ∃ a b, x = .str a ∧ xs = [.str b] ∧ Q (.bl (Txt.startswith a b)) H
theorem mt_swith {X : Cx} : MtR X "str.startswith" rSwith := mt_startswith
theorem dget (q : td σ H fun x H1 => ty σ H1 fun y H2 => rGet x y H2 Q) : tDGet td ty σ H Q := q
theorem dgetK {a : Addr} {kvs : List (Key × V)} {k : Str} (h : H a = some (.dK kvs)) (e : valV kvs (.inr k) = some v) (q : Q v H) : rGet (.ref a) (.str k) H Q :=
  ⟨a, v, rfl, by have g := DGet.k (k := .inr k) h; rw [e] at g; exact g, q⟩
theorem din (q : ty σ H fun y H1 => td σ H1 fun x H2 => rHas false x y H2 Q) : tDIn ty td σ H Q := q
theorem dnotin (q : ty σ H fun y H1 => td σ H1 fun x H2 => rHas true x y H2 Q) : tDNotIn ty td σ H Q := q
theorem dinK {a : Addr} {kvs : List (Key × V)} {k : Str} (h : H a = some (.dK kvs)) (q : Q (.bl (valV kvs (.inr k)).isSome) H) : rHas false (.ref a) (.str k) H Q := ⟨a, _, rfl, DGet.k (k := .inr k) h, q⟩
theorem dnotinK {a : Addr} {kvs : List (Key × V)} {k : Str} (h : H a = some (.dK kvs)) (q : Q (.bl (!(valV kvs (.inr k)).isSome)) H) : rHas true (.ref a) (.str k) H Q := ⟨a, _, rfl, DGet.k (k := .inr k) h, q⟩
theorem dput {tv : TE} (q : tv σ H fun v H1 => td σ H1 fun x H2 => ty σ H2 fun y H3 => rPut x y v H3 fun H4 => D.nx σ H4) : sDPut td ty tv D σ H := q
theorem dputK {R : Hp → Prop} {a : Addr} {kvs : List (Key × V)} {k : Str} (h : H a = some (.dK kvs)) (hl : kvs.length < sizeLine) (q : ∀ H1, H1 a = some (.dK (putK kvs (.inr k) v)) → (∀ T, a ∈ T → But T H H1) → R H1) : rPut (.ref a) (.str k) v H R :=
  ⟨a, _, rfl, DPut.k (k := .inr k) h hl, q _ upd_same fun T hT => But.set h rfl hT⟩
theorem dsetd (q : td σ H fun x H1 => ∃ a, x = .ref a ∧ IsD H1 a ∧ ty σ H1 fun y H2 => tx σ H2 fun z H3 => rSetd a y z H3 Q) : tDSetd td ty tx σ H Q := q
theorem isD {a : Addr} {kvs : List (Key × V)} {R : Addr → Prop} (h : H a = some (.dK kvs)) (q : R a) : ∃ a', V.ref a = .ref a' ∧ IsD H a' ∧ R a' := ⟨a, rfl, .inl ⟨kvs, .inl h⟩, q⟩
theorem newK (q : ∀ p H2, H p = none → H2 p = some (.dK []) → (∀ T, But T H H2) → Q (.ref p) H2) : tDNewK σ H Q := fun p hp => q p _ hp upd_same fun _ => But.new hp
theorem copyD {a : Addr} {kvs : List (Key × V)} (h : H a = some (.dK kvs)) (q : ∀ p H2, H p = none → H2 p = some (.dK kvs) → (∀ T, But T H H2) → Q (.ref p) H2) : rCopyD [.ref a] H Q := ⟨a, kvs, rfl, .inl h, fun p hp => q p _ hp upd_same fun _ => But.new hp⟩
theorem swith {a b : Str} (q : Q (.bl (Txt.startswith a b)) H) : rSwith (.str a) [.str b] H Q := ⟨a, b, rfl, rfl, q⟩
theorem tyS {z : Str} {B : Prop} (q : B) : tyV K "str" (.str z) H ∧ B := ⟨rfl, q⟩
theorem slT {p : Addr} {xs : List V} {lo hi : Option Int} (h : SqT K H p xs) (hw : ¬ (HT.sIx xs.length 0 lo = 0 ∧ HT.sIx xs.length xs.length hi = xs.length)) (q : ∀ p H2, H p = none → H2 p = some (.tup (cutV xs lo hi)) → (∀ T, But T H H2) → Q (.ref p) H2) : rSlT K (.ref p) lo hi H Q :=
  ⟨p, xs, rfl, h, hw, fun p hp => q p _ hp upd_same fun _ => But.new hp⟩
theorem zipA {R : It → Hp → Prop} (q : tA σ H fun vs H1 => ∃ a b xs ys, vs = [.ref a, .ref b] ∧ ((SqL K H1 a xs ∧ SqL K H1 b ys ∧ R (Itz K a b) H1) ∨ (SqT K H1 a xs ∧ SqT K H1 b ys ∧ R (ItzT K a b) H1))) : iZipA K tA σ H R := q
theorem zipT {g : TG} {tb : TS} {a b : Addr} {xs ys : List V} (ha : SqT K H a xs) (hb : SqT K H b ys) (q : Loop (ItzT K a b) g tb D σ H) :
    ∃ a' b' xs ys, [V.ref a, V.ref b] = [.ref a', .ref b'] ∧ ((SqL K H a' xs ∧ SqL K H b' ys ∧ Loop (Itz K a' b') g tb D σ H) ∨ (SqT K H a' xs ∧ SqT K H b' ys ∧ Loop (ItzT K a' b') g tb D σ H)) := ⟨a, b, xs, ys, rfl, .inr ⟨ha, hb, q⟩⟩
theorem loopZ {g : TG} {tb : TS} {a b : Addr} {xs ys : List V} (hl : xs.length = ys.length) (Pv : Nat → L2.St → Hp → Prop) (h0 : Pv 0 σ H) (hq : ∀ i σ H, Pv i σ H → SqT K H a xs ∧ SqT K H b ys)
    (hs : ∀ (i : Nat) (x y : V) (T : Addr) (σ : L2.St) (H H1 : Hp), xs[i]? = some x → ys[i]? = some y → Pv i σ H → H1 T = some (.tup [x, y]) → (∀ U, But U H H1) → g (.ref T) σ H1 fun σ2 H2 => tb { D with nx := Pv (i + 1), ct := Pv (i + 1), bk := D.nx } σ2 H2)
    (hd : ∀ σ H, Pv xs.length σ H → D.nx σ H) : Loop (ItzT K a b) g tb D σ H :=
  for_zipT hl Pv h0 hq (fun i x y T σ H hx hy p hT => hs i x y T σ H _ hx hy p upd_same fun _ => But.new hT) hd
end

section
variable {K : PySem.W.Frag} {σ : L2.St} {H : Hp} {Q : VK} {te : TE} {D : Ends}
theorem catA {a b : Addr} {xs ys : List V} (h1 : H a = some (.tup xs)) (h2 : H b = some (.tup ys)) (hz : xs.length + ys.length ≤ sizeLine) (q : ∀ p H2, H2 p = some (.tup (xs ++ ys)) → (∀ T, But T H H2) → Q (.ref p) H2) : rCatA K (.ref a) (.ref b) H Q :=
  ⟨a, b, xs, ys, rfl, rfl, .inl (.inl h1), .inl (.inl h2), hz, fun e => q b H (by rw [e]; exact h2) fun T => But.refl H, fun _ e => q a H (by rw [e, List.append_nil]; exact h1) fun T => But.refl H, fun _ _ p hp => q p _ upd_same fun _ => But.new hp⟩
theorem catL {l b : Addr} {xs zs : List V} (h1 : H l = some (.lst xs)) (h2 : H b = some (.lst zs)) (hz : xs.length + zs.length ≤ sizeLine) (q : ∀ p H2, H p = none → H2 p = some (.lst (xs ++ zs)) → (∀ T, But T H H2) → Q (.ref p) H2) : rCat (.ref l) (.ref b) H Q :=
  ⟨l, b, xs, zs, rfl, rfl, h1, h2, hz, fun p hp => q p _ hp upd_same fun _ => But.new hp⟩
theorem lcRs {g : TG} {tt : TT} {vs : List Nat} {QD : Addr → Hp → Prop} {n : Nat} (h : n < 1000000) (q : ∀ D, H D = none → LC (Itr 0 n) g tt te vs σ H D (QD D)) :
    ∃ j : Int, [V.int (n : Int)] = [V.int j] ∧ -(2 ^ 62) ≤ j ∧ j < 2 ^ 62 ∧ ∀ D, H D = none → LC (Itr 0 j.toNat) g tt te vs σ H D (QD D) := ⟨(n : Int), rfl, by omega, by omega, q⟩
/-- [e for k in range(n)], each element by what is known of it; what is known stays while tuples stay -/
theorem lcR {j n : Nat} {tt : TT} {vs : List Nat} {D : Addr} {Qd : Hp → Prop} (E : Nat → V → Hp → Prop) (st : ∀ i v H H', Stay H H' → E i v H → E i v H') (hD : H D = none) (hz : n < 1000000) (hw : ∀ x, wipe ((wipe σ vs).set j (some x)) vs = wipe σ vs)
    (ht : ∀ x H1 QT, QT true H1 → tt ((wipe σ vs).set j (some x)) H1 QT)
    (he : ∀ (i : Nat) H1 QV, i < n → (∀ T, But T H H1) → (∀ v H2, (∀ T, But T H1 H2) → E i v H2 → QV v H2) → te ((wipe σ vs).set j (some (.int (i : Int)))) H1 QV)
    (hd : ∀ H1 ys, (∀ T, But T H H1) → H1 D = some (.lst ys) → ys.length = n → (∀ (i : Nat) v, ys[i]? = some v → E i v H1) → Qd H1) : LC (Itr 0 n) (gName j) tt te vs σ H D Qd := by
  refine lc_range (lo := 0) (n := n) (fun i H1 => (∀ T, But T H H1) ∧ ∃ ys, H1 D = some (.lst ys) ∧ ys.length = i ∧ ∀ (k : Nat) v, ys[k]? = some v → E k v H1) ⟨fun _ => But.new hD, [], upd_same, rfl, fun k v e => by simp at e⟩ (fun i H1 hi ⟨b, ys, e, hl, hE⟩ => ?_) fun H1 ⟨b, ys, e, hl, hE⟩ => hd H1 ys b e hl hE
  have e0 : (0 : Int) + (i : Int) = (i : Int) := Int.zero_add _
  show gName j (.int ((0 : Int) + (i : Int))) _ _ _
  rw [e0]
  refine ⟨hw _, ht _ H1 _ (L2.iteT (he i H1 _ hi b fun v H2 b2 hv => ?_))⟩
  have e2 := (b2 []).lst e (by simp)
  have s2 : Stay H2 (upd H2 D (.lst (ys ++ [v]))) := fun a xs h => by
    rw [upd_ne (ne_of h e2 (by simp))]
    exact h
  refine ⟨ys, e2, ?_, fun T => ((b T).trans (b2 T)).own hD (But.set e2 rfl (List.mem_singleton.mpr rfl)), ys ++ [v], upd_same, by rw [List.length_append, hl]; rfl, fun k u hk => ?_⟩
  · rw [hl]
    exact Nat.lt_of_lt_of_le (Nat.lt_trans hi hz) (by decide)
  · rw [List.getElem?_append] at hk
    split at hk
    · exact st k u _ _ ((b2 []).stay0.trans s2) (hE k u hk)
    · rename_i hn
      rw [List.getElem?_cons] at hk
      split at hk
      · rename_i hk0
        cases hk
        have : k = i := by omega
        rw [this]
        exact st i v _ _ s2 hv
      · simp at hk
end

section
variable {X : Cx} {H : Hp} {Q : VK}
def rKeysD : List V → Hp → VK → Prop := fun xs H Q => ∃ (a : Addr) (kvs : List (Key × V)), xs = [.ref a] ∧ Rd H a (.dK kvs) ∧ ∀ p, H p = none → Q (.ref p) (upd H p (.lst (kvs.map fun kv => kV kv.1)))
theorem call_keysD (hc : X.calm = true) : CallR X (.type "list") rKeysD := call_listD hc
theorem keysD {a : Addr} {kvs : List (Key × V)} (h : H a = some (.dK kvs)) (q : ∀ p H2, H p = none → H2 p = some (.lst (kvs.map fun kv => kV kv.1)) → (∀ T, But T H H2) → Q (.ref p) H2) : rKeysD [.ref a] H Q :=
  ⟨a, kvs, rfl, .inl h, fun p hp => q p _ hp upd_same fun _ => But.new hp⟩
def rStrI : List V → Hp → VK → Prop := fun xs H Q => ∃ i, xs = [.int i] ∧ i.natAbs.log2 < 1920 ∧ Q (.str (toString i)) H
theorem call_strI : CallR X (.type "str") rStrI := call_str_int
theorem strI {i : Int} (h : i.natAbs.log2 < 1920) (q : Q (.str (toString i)) H) : rStrI [.int i] H Q := ⟨i, rfl, h, q⟩
def rTupQ (K : PySem.W.Frag) : List V → Hp → VK → Prop := fun xs H Q => ∃ p ys, xs = [.ref p] ∧ ((SqL K H p ys ∧ ∀ l, H l = none → Q (.ref l) (upd H l (.tup ys))) ∨ (SqT K H p ys ∧ Q (.ref p) H))
theorem call_tupQ : CallR X (.type "tuple") (rTupQ X.K) := call_tuple_of
theorem tupL {K : PySem.W.Frag} {a : Addr} {ys : List V} (h : SqL K H a ys) (q : ∀ p H2, H p = none → H2 p = some (.tup ys) → (∀ T, But T H H2) → Q (.ref p) H2) : rTupQ K [.ref a] H Q := ⟨a, ys, rfl, .inl ⟨h, fun p hp => q p _ hp upd_same fun _ => But.new hp⟩⟩
end
section
variable {K : PySem.W.Frag} {σ : L2.St} {H : Hp} {te : TE}
theorem lcTG {j : Nat} {tt : TT} {vs : List Nat} {D : Addr} {Qd : Hp → Prop} {a : Addr} {xs : List V} (T : List Addr) (Inv : Hp → Prop) (E : Nat → V → Hp → Prop) (st : ∀ i v H H', Stay H H' → E i v H → E i v H') (hx : ∀ H1, But T H H1 → SqT K H1 a xs) (hD : H D = none) (hz : xs.length < 1000000) (hw : ∀ x, wipe ((wipe σ vs).set j (some x)) vs = wipe σ vs)
    (hI0 : Inv (upd H D (.lst []))) (hI : ∀ H1 ys zs, H1 D = some (.lst ys) → Inv H1 → Inv (upd H1 D (.lst zs))) (hT : ∀ H1, Inv H1 → ∀ t ∈ T, t ≠ D ∧ ∀ xs, H1 t ≠ some (.tup xs))
    (ht : ∀ x H1 QT, QT true H1 → tt ((wipe σ vs).set j (some x)) H1 QT)
    (he : ∀ (i : Nat) x H1 QV, xs[i]? = some x → But T H H1 → Inv H1 → (∀ v H2, But T H1 H2 → Inv H2 → E i v H2 → QV v H2) → te ((wipe σ vs).set j (some x)) H1 QV)
    (hd : ∀ H1 ys, But T H H1 → Inv H1 → H1 D = some (.lst ys) → ys.length = xs.length → (∀ (i : Nat) v, ys[i]? = some v → E i v H1) → Qd H1) : LC (Itt K a) (gName j) tt te vs σ H D Qd := by
  refine lc_tup (K := K) (a := a) (xs := xs) (fun i H1 => But T H H1 ∧ Inv H1 ∧ ∃ ys, H1 D = some (.lst ys) ∧ ys.length = i ∧ ∀ (k : Nat) v, ys[k]? = some v → E k v H1) ⟨But.new hD, hI0, [], upd_same, rfl, fun k v e => by simp at e⟩ (fun i H1 _ p => hx H1 p.1) (fun i x H1 hi ⟨b, iv, ys, e, hl, hE⟩ => ?_) fun H1 ⟨b, iv, ys, e, hl, hE⟩ => hd H1 ys b iv e hl hE
  refine ⟨hw _, ht _ H1 _ (L2.iteT (he _ x H1 _ hi b iv fun v H2 b2 iv2 hv => ?_))⟩
  have dT : D ∉ T := fun z => (hT H1 iv D z).1 rfl
  have e2 := b2.lst e dT
  have s2 : Stay H2 (upd H2 D (.lst (ys ++ [v]))) := fun a xs h => by
    rw [upd_ne (ne_of h e2 (by simp))]
    exact h
  have s1 : Stay H1 H2 := b2.stay fun t m => (hT H1 iv t m).2
  refine ⟨ys, e2, ?_, (b.trans b2).own hD (But.set e2 rfl (List.mem_singleton.mpr rfl)), hI _ _ _ e2 iv2, ys ++ [v], upd_same, by rw [List.length_append, hl]; rfl, fun k u hk => ?_⟩
  · rw [hl]
    exact Nat.lt_of_lt_of_le (Nat.lt_trans (List.getElem?_eq_some_iff.mp hi).1 hz) (by decide)
  · rw [List.getElem?_append] at hk
    split at hk
    · exact st k u _ _ (s1.trans s2) (hE k u hk)
    · rename_i hn
      rw [List.getElem?_cons] at hk
      split at hk
      · rename_i hk0
        cases hk
        have : k = i := by omega
        rw [this]
        exact st i v _ _ s2 hv
      · simp at hk
theorem lcLG {j : Nat} {tt : TT} {vs : List Nat} {D : Addr} {Qd : Hp → Prop} {a : Addr} {xs : List V} (T : List Addr) (Inv : Hp → Prop) (E : Nat → V → Hp → Prop) (st : ∀ i v H H', Stay H H' → E i v H → E i v H') (hx : ∀ H1, But T H H1 → SqL K H1 a xs) (hD : H D = none) (hz : xs.length < 1000000) (hw : ∀ x, wipe ((wipe σ vs).set j (some x)) vs = wipe σ vs)
    (hI0 : Inv (upd H D (.lst []))) (hI : ∀ H1 ys zs, H1 D = some (.lst ys) → Inv H1 → Inv (upd H1 D (.lst zs))) (hT : ∀ H1, Inv H1 → ∀ t ∈ T, t ≠ D ∧ ∀ xs, H1 t ≠ some (.tup xs))
    (ht : ∀ x H1 QT, QT true H1 → tt ((wipe σ vs).set j (some x)) H1 QT)
    (he : ∀ (i : Nat) x H1 QV, xs[i]? = some x → But T H H1 → Inv H1 → (∀ v H2, But T H1 H2 → Inv H2 → E i v H2 → QV v H2) → te ((wipe σ vs).set j (some x)) H1 QV)
    (hd : ∀ H1 ys, But T H H1 → Inv H1 → H1 D = some (.lst ys) → ys.length = xs.length → (∀ (i : Nat) v, ys[i]? = some v → E i v H1) → Qd H1) : LC (Itl K a) (gName j) tt te vs σ H D Qd := by
  refine lc_list (K := K) (a := a) (xs := xs) (fun i H1 => But T H H1 ∧ Inv H1 ∧ ∃ ys, H1 D = some (.lst ys) ∧ ys.length = i ∧ ∀ (k : Nat) v, ys[k]? = some v → E k v H1) ⟨But.new hD, hI0, [], upd_same, rfl, fun k v e => by simp at e⟩ (fun i H1 _ p => hx H1 p.1) (fun i x H1 hi ⟨b, iv, ys, e, hl, hE⟩ => ?_) fun H1 ⟨b, iv, ys, e, hl, hE⟩ => hd H1 ys b iv e hl hE
  refine ⟨hw _, ht _ H1 _ (L2.iteT (he _ x H1 _ hi b iv fun v H2 b2 iv2 hv => ?_))⟩
  have dT : D ∉ T := fun z => (hT H1 iv D z).1 rfl
  have e2 := b2.lst e dT
  have s2 : Stay H2 (upd H2 D (.lst (ys ++ [v]))) := fun a xs h => by
    rw [upd_ne (ne_of h e2 (by simp))]
    exact h
  have s1 : Stay H1 H2 := b2.stay fun t m => (hT H1 iv t m).2
  refine ⟨ys, e2, ?_, (b.trans b2).own hD (But.set e2 rfl (List.mem_singleton.mpr rfl)), hI _ _ _ e2 iv2, ys ++ [v], upd_same, by rw [List.length_append, hl]; rfl, fun k u hk => ?_⟩
  · rw [hl]
    exact Nat.lt_of_lt_of_le (Nat.lt_trans (List.getElem?_eq_some_iff.mp hi).1 hz) (by decide)
  · rw [List.getElem?_append] at hk
    split at hk
    · exact st k u _ _ (s1.trans s2) (hE k u hk)
    · rename_i hn
      rw [List.getElem?_cons] at hk
      split at hk
      · rename_i hk0
        cases hk
        have : k = i := by omega
        rw [this]
        exact st i v _ _ s2 hv
      · simp at hk
theorem lcRG {j : Nat} {tt : TT} {vs : List Nat} {D : Addr} {Qd : Hp → Prop} {n : Nat} (T : List Addr) (Inv : Hp → Prop) (E : Nat → V → Hp → Prop) (st : ∀ i v H H', Stay H H' → E i v H → E i v H') (hD : H D = none) (hz : n < 1000000) (hw : ∀ x, wipe ((wipe σ vs).set j (some x)) vs = wipe σ vs)
    (hI0 : Inv (upd H D (.lst []))) (hI : ∀ H1 ys zs, H1 D = some (.lst ys) → Inv H1 → Inv (upd H1 D (.lst zs))) (hT : ∀ H1, Inv H1 → ∀ t ∈ T, t ≠ D ∧ ∀ xs, H1 t ≠ some (.tup xs))
    (ht : ∀ x H1 QT, QT true H1 → tt ((wipe σ vs).set j (some x)) H1 QT)
    (he : ∀ (i : Nat) H1 QV, i < n → But T H H1 → Inv H1 → (∀ v H2, But T H1 H2 → Inv H2 → E i v H2 → QV v H2) → te ((wipe σ vs).set j (some (.int (i : Int)))) H1 QV)
    (hd : ∀ H1 ys, But T H H1 → Inv H1 → H1 D = some (.lst ys) → ys.length = n → (∀ (i : Nat) v, ys[i]? = some v → E i v H1) → Qd H1) : LC (Itr 0 n) (gName j) tt te vs σ H D Qd := by
  refine lc_range (lo := 0) (n := n) (fun i H1 => But T H H1 ∧ Inv H1 ∧ ∃ ys, H1 D = some (.lst ys) ∧ ys.length = i ∧ ∀ (k : Nat) v, ys[k]? = some v → E k v H1) ⟨But.new hD, hI0, [], upd_same, rfl, fun k v e => by simp at e⟩ (fun i H1 hi ⟨b, iv, ys, e, hl, hE⟩ => ?_) fun H1 ⟨b, iv, ys, e, hl, hE⟩ => hd H1 ys b iv e hl hE
  have e0 : (0 : Int) + (i : Int) = (i : Int) := Int.zero_add _
  show gName j (.int ((0 : Int) + (i : Int))) _ _ _
  rw [e0]
  refine ⟨hw _, ht _ H1 _ (L2.iteT (he _ H1 _ hi b iv fun v H2 b2 iv2 hv => ?_))⟩
  have dT : D ∉ T := fun z => (hT H1 iv D z).1 rfl
  have e2 := b2.lst e dT
  have s2 : Stay H2 (upd H2 D (.lst (ys ++ [v]))) := fun a xs h => by
    rw [upd_ne (ne_of h e2 (by simp))]
    exact h
  have s1 : Stay H1 H2 := b2.stay fun t m => (hT H1 iv t m).2
  refine ⟨ys, e2, ?_, (b.trans b2).own hD (But.set e2 rfl (List.mem_singleton.mpr rfl)), hI _ _ _ e2 iv2, ys ++ [v], upd_same, by rw [List.length_append, hl]; rfl, fun k u hk => ?_⟩
  · rw [hl]
    exact Nat.lt_of_lt_of_le (Nat.lt_trans hi hz) (by decide)
  · rw [List.getElem?_append] at hk
    split at hk
    · exact st k u _ _ (s1.trans s2) (hE k u hk)
    · rename_i hn
      rw [List.getElem?_cons] at hk
      split at hk
      · rename_i hk0
        cases hk
        have : k = i := by omega
        rw [this]
        exact st i v _ _ s2 hv
      · simp at hk
theorem lcTs {te : TE} {g : TG} {tt : TT} {vs : List Nat} {QD : Addr → Hp → Prop} {a : Addr} {xs : List V} (h : SqT K H a xs) (q : ∀ D, H D = none → LC (Itt K a) g tt te vs σ H D (QD D)) :
    ∃ b, V.ref a = V.ref b ∧ (∃ xs, SqT K H b xs) ∧ ∀ D, H D = none → LC (Itt K b) g tt te vs σ H D (QD D) := ⟨a, rfl, ⟨xs, h⟩, q⟩
end
/-! ## labels and patterns -/
/-- a pair of a text and a tuple of texts -/
def Lab (H : Hp) (v : V) (p : Str × List Str) : Prop := ∃ a b, v = .ref a ∧ H a = some (.tup [.str p.1, .ref b]) ∧ H b = some (.tup (p.2.map V.str))
theorem Lab.stay {H H' : Hp} {v : V} {p : Str × List Str} (h : Lab H v p) (s : Stay H H') : Lab H' v p := by
  obtain ⟨a, b, e, h1, h2⟩ := h
  exact ⟨a, b, e, s _ _ h1, s _ _ h2⟩
def Labs (H : Hp) : List V → List (Str × List Str) → Prop
  | [], [] => True
  | v :: vs, p :: ps => Lab H v p ∧ Labs H vs ps
  | _, _ => False
theorem Labs.stay {H H' : Hp} (s : Stay H H') : ∀ {vs : List V} {ps : List (Str × List Str)}, Labs H vs ps → Labs H' vs ps
  | [], [], _ => True.intro
  | _ :: _, _ :: _, h => ⟨h.1.stay s, Labs.stay s h.2⟩
theorem Labs.len {H : Hp} : ∀ {vs : List V} {ps : List (Str × List Str)}, Labs H vs ps → vs.length = ps.length
  | [], [], _ => rfl
  | _ :: _, _ :: _, h => congrArg (· + 1) (Labs.len h.2)
theorem Labs.get {H : Hp} : ∀ {vs : List V} {ps : List (Str × List Str)} {i : Nat} {v : V}, Labs H vs ps → vs[i]? = some v → ∃ p, ps[i]? = some p ∧ Lab H v p
  | [], [], _, _, _, e => by simp at e
  | v :: _, p :: _, 0, _, h, e => by
    cases e
    exact ⟨p, rfl, h.1⟩
  | _ :: _, _ :: _, i + 1, _, h, e => Labs.get (i := i) h.2 (by simpa using e)
theorem Labs.mk {H : Hp} : ∀ {vs : List V} {ps : List (Str × List Str)}, vs.length = ps.length → (∀ (i : Nat) v p, vs[i]? = some v → ps[i]? = some p → Lab H v p) → Labs H vs ps
  | [], [], _, _ => True.intro
  | v :: vs, p :: ps, h, q => ⟨q 0 v p rfl rfl, Labs.mk (Nat.succ.inj h) fun i v' p' h1 h2 => q (i + 1) v' p' (by simpa using h1) (by simpa using h2)⟩
/-- a pair of texts -/
def Pr (H : Hp) (v : V) (z : Str × Str) : Prop := ∃ a, v = .ref a ∧ H a = some (.tup [.str z.1, .str z.2])
theorem Pr.stay {H H' : Hp} {v : V} {z : Str × Str} (h : Pr H v z) (s : Stay H H') : Pr H' v z := by
  obtain ⟨a, e, h1⟩ := h
  exact ⟨a, e, s _ _ h1⟩
def Prs (H : Hp) : List V → List (Str × Str) → Prop
  | [], [] => True
  | v :: vs, p :: ps => Pr H v p ∧ Prs H vs ps
  | _, _ => False
theorem Prs.stay {H H' : Hp} (s : Stay H H') : ∀ {vs : List V} {ps : List (Str × Str)}, Prs H vs ps → Prs H' vs ps
  | [], [], _ => True.intro
  | _ :: _, _ :: _, h => ⟨h.1.stay s, Prs.stay s h.2⟩
theorem Prs.len {H : Hp} : ∀ {vs : List V} {ps : List (Str × Str)}, Prs H vs ps → vs.length = ps.length
  | [], [], _ => rfl
  | _ :: _, _ :: _, h => congrArg (· + 1) (Prs.len h.2)
theorem Prs.get {H : Hp} : ∀ {vs : List V} {ps : List (Str × Str)} {i : Nat} {v : V}, Prs H vs ps → vs[i]? = some v → ∃ p, ps[i]? = some p ∧ Pr H v p
  | [], [], _, _, _, e => by simp at e
  | v :: _, p :: _, 0, _, h, e => by
    cases e
    exact ⟨p, rfl, h.1⟩
  | _ :: _, _ :: _, i + 1, _, h, e => Prs.get (i := i) h.2 (by simpa using e)
theorem Prs.mk {H : Hp} : ∀ {vs : List V} {ps : List (Str × Str)}, vs.length = ps.length → (∀ (i : Nat) v p, vs[i]? = some v → ps[i]? = some p → Pr H v p) → Prs H vs ps
  | [], [], _, _ => True.intro
  | v :: vs, p :: ps, h, q => ⟨q 0 v p rfl rfl, Prs.mk (Nat.succ.inj h) fun i v' p' h1 h2 => q (i + 1) v' p' (by simpa using h1) (by simpa using h2)⟩
theorem Prs.append {H : Hp} : ∀ {vs ws : List V} {ps qs : List (Str × Str)}, Prs H vs ps → Prs H ws qs → Prs H (vs ++ ws) (ps ++ qs)
  | [], _, [], _, _, h => h
  | _ :: _, _, _ :: _, _, h, k => ⟨h.1, Prs.append h.2 k⟩
end Y

/-! # Seams in the heap; texts that begin or end with one another -/
namespace Y
open PySem L2 PySem.Spec PyProof.Rows StX RZ
section
variable {K : PySem.W.Frag} {σ : L2.St} {H : Hp} {Q : VK} {D : Ends} {te ta tb tc td tx ty : TE} {v : V}
def rEwith : V → List V → Hp → VK → Prop := fun x xs H Q => ∃ a b, x = .str a ∧ xs = [.str b] ∧ Q (.bl (Txt.endswith a b)) H
theorem mt_ewith {X : Cx} : MtR X "str.endswith" rEwith := mt_endswith
theorem ewith {a b : Str} (q : Q (.bl (Txt.endswith a b)) H) : rEwith (.str a) [.str b] H Q := ⟨a, b, rfl, rfl, q⟩
theorem eqD {d e : PyData} {x y : V} (h1 : Dp K H x d) (h2 : Dp K H y e) (s1 : SeqAt.shaped d = true) (s2 : SeqAt.shaped e = true) (q : Q (.bl (PyData.eqv d e)) H) : rEqD K x y H Q := ⟨d, e, h1, h2, s1, s2, q⟩
end
/-! ## seams -/
abbrev Seam := Str × Str × Str
def Sm (H : Hp) (v : V) (s : Seam) : Prop := ∃ a, v = .ref a ∧ H a = some (.tup [.str s.1, .str s.2.1, .str s.2.2])
theorem Sm.stay {H H' : Hp} {v : V} {s : Seam} (h : Sm H v s) (st : Stay H H') : Sm H' v s := by
  obtain ⟨a, e, h⟩ := h
  exact ⟨a, e, st _ _ h⟩
theorem Sm.det {H : Hp} {v : V} {s s' : Seam} (h : Sm H v s) (h' : Sm H v s') : s = s' := by
  obtain ⟨a, e, h⟩ := h
  obtain ⟨b, e', h'⟩ := h'
  rw [e] at e'
  cases e'
  rw [h] at h'
  obtain ⟨x, y, z⟩ := s
  obtain ⟨x', y', z'⟩ := s'
  injection h' with h'
  injection h' with h'
  injection h' with h1 h'
  injection h' with h2 h'
  injection h' with h3 h'
  injection h1 with h1
  injection h2 with h2
  injection h3 with h3
  rw [show x = x' from h1, show y = y' from h2, show z = z' from h3]
def Sms (H : Hp) : List V → List Seam → Prop
  | [], [] => True
  | v :: vs, s :: ss => Sm H v s ∧ Sms H vs ss
  | _, _ => False
theorem Sms.stay {H H' : Hp} (st : Stay H H') : ∀ {vs : List V} {ss : List Seam}, Sms H vs ss → Sms H' vs ss
  | [], [], _ => trivial
  | _ :: _, _ :: _, h => ⟨h.1.stay st, Sms.stay st h.2⟩
theorem Sms.len {H : Hp} : ∀ {vs : List V} {ss : List Seam}, Sms H vs ss → vs.length = ss.length
  | [], [], _ => rfl
  | _ :: _, _ :: _, h => congrArg Nat.succ (Sms.len h.2)
theorem Sms.get {H : Hp} : ∀ {vs : List V} {ss : List Seam} {i : Nat} {v : V}, Sms H vs ss → vs[i]? = some v → ∃ s, ss[i]? = some s ∧ Sm H v s
  | _ :: _, s :: _, 0, _, h, e => by
    have e : some _ = some _ := e
    cases e
    exact ⟨s, rfl, h.1⟩
  | _ :: vs, _ :: ss, i + 1, _, h, e => Sms.get (vs := vs) (ss := ss) (i := i) h.2 (by simpa using e)
theorem Sms.append {H : Hp} : ∀ {vs ws : List V} {ss ts : List Seam}, Sms H vs ss → Sms H ws ts → Sms H (vs ++ ws) (ss ++ ts)
  | [], _, [], _, _, h => h
  | _ :: _, _, _ :: _, _, h, k => ⟨h.1, Sms.append h.2 k⟩
theorem Sms.rev {H : Hp} : ∀ {vs : List V} {ss : List Seam}, Sms H vs ss → Sms H vs.reverse ss.reverse
  | [], [], _ => trivial
  | _ :: _, _ :: _, h => by
    rw [List.reverse_cons, List.reverse_cons]
    exact Sms.append (Sms.rev h.2) ⟨h.1, trivial⟩
/-- as data -/
def smD (s : Seam) : PyData := .tuple [.str s.1, .str s.2.1, .str s.2.2]
theorem Sm.dp {K : PySem.W.Frag} {H : Hp} {v : V} {s : Seam} (h : Sm H v s) : Dp K H v (smD s) := by
  obtain ⟨a, rfl, h⟩ := h
  exact .tup (.inl (.inl h)) (.cons (.str _) (.cons (.str _) (.cons (.str _) .nil)))
theorem Sms.dp {K : PySem.W.Frag} {H : Hp} : ∀ {vs : List V} {ss : List Seam}, Sms H vs ss → DpAll K H vs (ss.map smD)
  | [], [], _ => .nil
  | _ :: _, _ :: _, h => .cons h.1.dp (Sms.dp h.2)
/-! ## letters -/
def Low (z : Str) : Prop := ∀ c ∈ z.cps.toList, 97 ≤ c ∧ c ≤ 122
theorem Low.nil : Low (PySem.Str.ofString "") := fun c h => by
  have e : (PySem.Str.ofString "").cps.toList = [] := by decide +kernel
  rw [e] at h
  cases h
theorem Low.app {a b : Str} (h : Low a) (k : Low b) : Low (a ++ b) := fun c m => by
  have e : (a ++ b).cps.toList = a.cps.toList ++ b.cps.toList := Array.toList_append
  rw [e, List.mem_append] at m
  rcases m with m | m
  · exact h c m
  · exact k c m
theorem cut_list (z : Str) (lo hi : Option Int) : (cutS z lo hi).cps.toList = (z.cps.toList.drop (HT.sIx z.length 0 lo)).take (HT.sIx z.length z.length hi - HT.sIx z.length 0 lo) := rfl
theorem Low.cut {a : Str} (h : Low a) (lo hi : Option Int) : Low (cutS a lo hi) := fun c m => by
  rw [cut_list] at m
  exact h c (List.mem_of_mem_drop (List.mem_of_mem_take m))
theorem Low.one {z : Str} {c : Nat} (h : Low z) (m : c ∈ z.cps.toList) : Low ⟨#[c]⟩ := fun d k => by
  have e : d = c := by simpa using k
  rw [e]
  exact h c m
theorem Low.lay {z : Str} (h : Low z) : PyData.canLay0 (.str z) = true := by
  show z.cps.all (fun c => decide (c < 0x110000)) = true
  rw [← Array.all_toList, List.all_eq_true]
  exact fun c hc => decide_eq_true (Nat.lt_of_le_of_lt (h c hc).2 (by decide))
/-- a seam of letters, each of the three texts short -/
structure SmOk (s : Seam) : Prop where
  l1 : Low s.1
  l2 : Low s.2.1
  l3 : Low s.2.2
  n1 : s.1.length ≤ 1000
  n2 : s.2.1.length ≤ 1000
  n3 : s.2.2.length ≤ 1000
theorem smD_lay {s : Seam} (h : SmOk s) : (smD s).canLay0 = true := by
  simp only [smD, PyData.canLay0, PyData.canLayAll0, Bool.and_eq_true]
  have a := h.l1.lay
  have b := h.l2.lay
  have c := h.l3.lay
  simp only [PyData.canLay0] at a b c
  exact ⟨a, b, c, trivial⟩
theorem smD_depth (s : Seam) : (smD s).depth = 1 := by simp [smD, PyData.depth, PyData.depthAll]
theorem smDs_lay : ∀ {ss : List Seam}, (∀ s ∈ ss, SmOk s) → PyData.canLayAll0 (ss.map smD) = true
  | [], _ => by simp [PyData.canLayAll0]
  | s :: ss, h => by
    have a := smD_lay (h s List.mem_cons_self)
    have b := smDs_lay (ss := ss) fun x m => h x (List.mem_cons_of_mem _ m)
    simp [PyData.canLayAll0, a, b]
theorem smDs_depth : ∀ ss : List Seam, PyData.depthAll (ss.map smD) ≤ 1
  | [] => by simp [PyData.depthAll]
  | s :: ss => by
    have h1 := smDs_depth ss
    have h2 := smD_depth s
    simp only [List.map_cons, PyData.depthAll]
    omega
theorem smDs_shaped {ss : List Seam} (h : ∀ s ∈ ss, SmOk s) : SeqAt.shaped (.list (ss.map smD)) = true := by
  have h1 := smDs_depth ss
  have h2 : PyData.depth (.list (ss.map smD)) ≤ 64 := by
    simp only [PyData.depth]
    omega
  show (PyData.canLay0 (.list (ss.map smD)) && decide (PyData.depth (.list (ss.map smD)) ≤ 64)) = true
  rw [Bool.and_eq_true]
  exact ⟨by simp only [PyData.canLay0]; exact smDs_lay h, decide_eq_true h2⟩
/-- the first two texts of a seam, as data -/
def prT (l r : Str) : PyData := .tuple [.str l, .str r]
theorem prT_shaped {l r : Str} (h : Low l) (k : Low r) : SeqAt.shaped (prT l r) = true := by
  have a := h.lay
  have b := k.lay
  have c : (prT l r).canLay0 = true := by
    simp only [prT, PyData.canLay0, PyData.canLayAll0, Bool.and_eq_true]
    simp only [PyData.canLay0] at a b
    exact ⟨a, b, trivial⟩
  have d : (prT l r).depth ≤ 64 := by simp [prT, PyData.depth, PyData.depthAll]
  show ((prT l r).canLay0 && decide ((prT l r).depth ≤ 64)) = true
  rw [c, decide_eq_true d]
  rfl
theorem prT_eqv (l r l' r' : Str) : PyData.eqv (prT l r) (prT l' r') = decide (l = l' ∧ r = r') := by
  have e : PyData.eqv (prT l r) (prT l' r') = ((l == l') && ((r == r') && true)) := by simp only [prT, PyData.eqv, PyData.eqvAll]
  rw [e, Bool.and_true, Bool.eq_iff_iff, Bool.and_eq_true, decide_eq_true_iff, beq_iff_eq, beq_iff_eq]
/-! ## a text that begins or ends with another one -/
/-- the first n letters of b stand in a from d on -/
def eqTo (a b : List Nat) (d : Nat) : Nat → Bool
  | 0 => true
  | i + 1 => eqTo a b d i && decide (a[d + i]? = b[i]?)
theorem eqTo_iff {a b : List Nat} {d : Nat} : ∀ {n : Nat}, eqTo a b d n = true ↔ ∀ j, j < n → a[d + j]? = b[j]?
  | 0 => ⟨fun _ j h => absurd h (Nat.not_lt_zero j), fun _ => rfl⟩
  | n + 1 => by
    rw [eqTo, Bool.and_eq_true, eqTo_iff, decide_eq_true_iff]
    constructor
    · intro h j hj
      by_cases e : j = n
      · rw [e]
        exact h.2
      · exact h.1 j (by omega)
    · intro h
      exact ⟨fun j hj => h j (by omega), h n (by omega)⟩
theorem subAt_eqTo {x y : Str} {i : Nat} : Builtin.Str.subAt x y i = eqTo x.cps.toList y.cps.toList i y.length := by
  have hl : y.length = y.cps.toList.length := (Array.length_toList).symm
  have e : Builtin.Str.subAt x y i = decide ((x.cps.toList.drop i).take y.length = y.cps.toList) := by
    unfold Builtin.Str.subAt
    rw [Bool.eq_iff_iff, beq_iff_eq, decide_eq_true_iff]
    constructor
    · intro h
      have h2 := congrArg Array.toList h
      rw [Array.toList_extract, List.extract_eq_take_drop] at h2
      rw [show i + y.length - i = y.length by omega] at h2
      exact h2
    · intro h
      apply Array.ext'
      rw [Array.toList_extract, List.extract_eq_take_drop, show i + y.length - i = y.length by omega]
      exact h
  rw [e, Bool.eq_iff_iff, decide_eq_true_iff, eqTo_iff]
  constructor
  · intro h j hj
    have h2 : ((x.cps.toList.drop i).take y.length)[j]? = y.cps.toList[j]? := by rw [h]
    rw [List.getElem?_take_of_lt hj, List.getElem?_drop] at h2
    exact h2
  · intro h
    apply List.ext_getElem?
    intro j
    by_cases hj : j < y.length
    · rw [List.getElem?_take_of_lt hj, List.getElem?_drop]
      exact h j hj
    · rw [List.getElem?_eq_none (by rw [List.length_take]; omega), List.getElem?_eq_none (by omega)]
theorem ends_eq {x y : Str} : Txt.endswith x y = (decide (y.length ≤ x.length) && eqTo x.cps.toList y.cps.toList (x.length - y.length) y.length) := by
  unfold Txt.endswith
  rw [subAt_eqTo, Nat.zero_add]
theorem starts_eq {x y : Str} : Txt.startswith x y = (decide (y.length ≤ x.length) && eqTo x.cps.toList y.cps.toList 0 y.length) := by
  unfold Txt.startswith
  rw [subAt_eqTo, Nat.zero_add]
theorem sign_eq {a b : List Nat} {i j c d : Nat} (h1 : a[i]? = some c) (h2 : b[j]? = some d) : decide ((⟨#[c]⟩ : Str) = ⟨#[d]⟩) = decide (a[i]? = b[j]?) := by
  rw [h1, h2, Bool.eq_iff_iff, decide_eq_true_iff, decide_eq_true_iff]
  constructor
  · intro h
    injection h with h
    injection h with h
    injection h with h _
    rw [h]
  · intro h
    cases h
    rfl
/-! ## join -/
def joinP : List Seam → Str → Str → Str
  | [], t, m => t ++ m
  | s :: ss, t, m =>
    if (Txt.endswith t s.1 && Txt.startswith m s.2.1) = true then cutS t none (some ((t.length : Int) - (s.1.length : Int))) ++ s.2.2 ++ cutS m (some (s.2.1.length : Int)) none
    else joinP ss t m
/-- none of the first i seams is met -/
theorem joinP_drop {t m : Str} : ∀ {ss : List Seam} {i : Nat}, (∀ j s, j < i → ss[j]? = some s → (Txt.endswith t s.1 && Txt.startswith m s.2.1) = false) → joinP ss t m = joinP (ss.drop i) t m
  | ss, 0, _ => by rw [List.drop_zero]
  | [], _ + 1, _ => rfl
  | s :: ss, i + 1, h => by
    have h0 := h 0 s (by omega) rfl
    rw [joinP, h0, List.drop_succ_cons]
    exact joinP_drop fun j s' hj e => h (j + 1) s' (by omega) (by rw [List.getElem?_cons_succ]; exact e)
theorem drop_at {α : Type} {l : List α} {i : Nat} {x : α} (h : l[i]? = some x) : l.drop i = x :: l.drop (i + 1) := by
  obtain ⟨hi, e⟩ := List.getElem?_eq_some_iff.mp h
  rw [← e, List.drop_eq_getElem_cons hi]
theorem joinP_hit {t m : Str} {ss : List Seam} {i : Nat} {s : Seam} (h : ∀ j s, j < i → ss[j]? = some s → (Txt.endswith t s.1 && Txt.startswith m s.2.1) = false) (e : ss[i]? = some s) (hit : (Txt.endswith t s.1 && Txt.startswith m s.2.1) = true) :
    joinP ss t m = cutS t none (some ((t.length : Int) - (s.1.length : Int))) ++ s.2.2 ++ cutS m (some (s.2.1.length : Int)) none := by
  rw [joinP_drop h, drop_at e, joinP, if_pos hit]
theorem joinP_none {t m : Str} {ss : List Seam} (h : ∀ j s, j < ss.length → ss[j]? = some s → (Txt.endswith t s.1 && Txt.startswith m s.2.1) = false) : joinP ss t m = t ++ m := by
  rw [joinP_drop h, List.drop_length]
  rfl
/-! ## which seams have these two first texts -/
noncomputable def sameAs (H : Hp) (l r : Str) (v : V) : Bool := @decide (∃ s, Sm H v s ∧ s.1 = l ∧ s.2.1 = r) (Classical.propDecidable _)
theorem sameAs_at {H : Hp} {l r : Str} {v : V} {s : Seam} (h : Sm H v s) : sameAs H l r v = decide (s.1 = l ∧ s.2.1 = r) := by
  by_cases e : s.1 = l ∧ s.2.1 = r
  · rw [decide_eq_true e]
    exact @decide_eq_true _ (Classical.propDecidable _) ⟨s, h, e⟩
  · rw [decide_eq_false e]
    exact @decide_eq_false _ (Classical.propDecidable _) fun ⟨s', h', e'⟩ => e (by rw [h.det h']; exact e')
theorem Sms.mem {H : Hp} {vs : List V} {ss : List Seam} {v : V} (h : Sms H vs ss) (m : v ∈ vs) : ∃ s, s ∈ ss ∧ Sm H v s := by
  obtain ⟨i, hi, e⟩ := List.getElem_of_mem m
  obtain ⟨s, es, hs⟩ := h.get (by rw [List.getElem?_eq_getElem hi, e])
  exact ⟨s, List.mem_of_getElem? es, hs⟩
theorem Sms.at {H : Hp} {vs : List V} {ss : List Seam} {i : Nat} {s : Seam} (h : Sms H vs ss) (e : ss[i]? = some s) : ∃ v, vs[i]? = some v ∧ Sm H v s := by
  have hl := h.len
  obtain ⟨hi, _⟩ := List.getElem?_eq_some_iff.mp e
  have hv : vs[i]? = some vs[i] := List.getElem?_eq_getElem (by omega)
  obtain ⟨s', e', hs⟩ := h.get hv
  rw [e] at e'
  cases e'
  exact ⟨_, hv, hs⟩
theorem none_same {H : Hp} {l r : Str} {vs : List V} {ss : List Seam} (h : Sms H vs ss) (e : (vs.filter (sameAs H l r)).length = 0) : ∀ s ∈ ss, ¬ (s.1 = l ∧ s.2.1 = r) := fun s m g => by
  obtain ⟨i, hi, es⟩ := List.getElem_of_mem m
  obtain ⟨v, ev, hv⟩ := h.at (by rw [List.getElem?_eq_getElem hi, es])
  have f : v ∈ vs.filter (sameAs H l r) := List.mem_filter.mpr ⟨List.mem_of_getElem? ev, by rw [sameAs_at hv]; exact decide_eq_true g⟩
  rw [List.eq_nil_of_length_eq_zero e] at f
  cases f
theorem lst_noTup {H : Hp} {p : Addr} {xs : List V} (h : H p = some (.lst xs)) : ∀ x ∈ [p], ∀ ys, H x ≠ some (.tup ys) := fun x m ys e => by
  rw [List.mem_singleton.mp m, h] at e
  cases e
end Y

/-! # Walks over the pairs of a dict whose keys are tuples -/
namespace Yt
open PySem L2 PySem.Spec PyProof.Rows
section
variable {X : Cx} {pins : List (Addr × Obj)} {σ : L2.St} {H : Hp} {s : Shared} {d : Addr} {o : Obj}
theorem entries {kvs : List (List Key × V)} (I : Inv X pins σ H s) (h : H d = some (.frz o (.dT kvs))) : (d == sysModules) = false ∧ s.heap.get? d = some o ∧ o.ExactDict ∧ ∃ (es : Array DictEntry) (ep : Nat), o.data = .dict es ep ∧ es.size = kvs.length ∧
    ∀ (i : Nat) (k : List Key) (v : V), kvs[i]? = some (k, v) → ∃ (en : DictEntry) (q : Addr), es[i]? = some en ∧ en.key = .ref q ∧ H q = some (.tup (k.map kV)) ∧ RelV v en.val := by
  obtain ⟨e0, _, n0, xs, par, o1, es, ep, e1, x1, d1, l1, _⟩ := I.hok d _ h
  rw [e0] at e1
  cases e1
  have s1 := size_of_entries l1
  have s2 : kvs.length = xs.length := Paired.length par
  refine ⟨n0, e0, x1, es, ep, d1, s1.trans s2.symm, fun i k v g => ?_⟩
  obtain ⟨b, hb, _, g2, g3⟩ := paired_get par g
  have at_ := entry_at l1 i
  rw [hb] at at_
  exact ⟨_, b.2.1, at_, rfl, g2, g3⟩
end
/-- the pairs of the locked dict at d: each a new tuple of the key's own tuple and the value -/
def Itp (d : Addr) (o : Obj) (kvs : List (List Key × V)) : It :=
  ⟨fun i H => H d = some (.frz o (.dT kvs)) ∧ i < kvs.length,
   fun i H x H' => ∃ (T q : Addr) (k : List Key) (v : V), kvs[i]? = some (k, v) ∧ x = .ref T ∧ H T = none ∧ H q = some (.tup (k.map kV)) ∧ H' = upd H T (.tup [.ref q, v]),
   fun i H => H d = some (.frz o (.dT kvs)) ∧ kvs.length ≤ i⟩
section
variable {P : Program} {w : World} {K : PySem.W.Frag} {d : Addr} {o : Obj} {es : Array DictEntry} {ep : Nat}
theorem turn_pairs {kvs : List (List Key × V)} {elts : List Expr} {kk : Nat} {tpos : Pos} (it : Addr) (od : o.data = .dict es ep) :
    Turn P w K (.Tuple elts kk tpos) (Itp d o kvs) [it] it (fun i h => ∃ ok ov, IsItemIter h it d i kvs.length ep ok ov) where
  mem := List.mem_singleton.mpr rfl
  obj := fun i h ⟨ok, ov, e⟩ b hb => by
    rw [List.mem_singleton.mp hb]
    exact ⟨_, e, fun v z => nomatch z⟩
  keep := fun i h h' ⟨ok, ov, e⟩ k => ⟨ok, ov, k it (List.mem_singleton.mpr rfl) _ e⟩
  item := by
    intro X h1 h2 h3 hc i pins s σ H E I hf ⟨ok, ov, st⟩ ⟨hd, hi⟩
    subst h1 h2 h3
    obtain ⟨n0, g0, x0, es', ep', d0, sz, en⟩ := entries I hd
    obtain ⟨rfl, rfl⟩ := dict_ep od d0
    have e0 : kvs[i]? = some (kvs[i].1, kvs[i].2) := List.getElem?_eq_getElem hi
    obtain ⟨ent, q, ge, gk, gq, gv⟩ := en i _ _ e0
    rw [← sz] at st
    have hie : i < es'.size := by omega
    have ee : es'[i] = ent := by
      rw [Array.getElem?_eq_getElem hie] at ge
      exact Option.some.inj ge
    have lt : it < s.heap.objs.size := Heap.lt_size st
    refine DT.nextI st ⟨o, g0, x0, d0⟩ hie fun h' out new size old => ?_
    refine ⟨_, rfl, PySem.wpAny_letOwnedTupleGo_items (s := { s with heap := h' }) out fun h2 st2 sb => ?_⟩
    have new2 : h2.get? s.heap.objs.size = some { cls := .type "tuple", data := .seq #[es'[i].key, es'[i].val] } := (sb.2 _ (Nat.ne_of_gt lt)).trans new
    rw [ee] at new2 st2
    rw [gk] at new2
    have ok2 : ObjOk X.prog X.w (upd H s.heap.objs.size (.tup [.ref q, kvs[i].2])) h2 s.heap.objs.size (.tup [.ref q, kvs[i].2]) :=
      ⟨(show 2 ≤ sizeLine by decide), [.ref q, ent.val], .cons rfl (.cons gv .nil), ⟨_, new2, rfl, _, rfl⟩⟩
    have I2 : Inv X pins σ (upd H s.heap.objs.size (.tup [.ref q, kvs[i].2])) { s with heap := h2 } :=
      I.turnedNew (t' := s.toks) (ch := [it]) (fun b ob hb e => (sb.2 b (fun z => hb (List.mem_singleton.mpr z))).trans (old b ob (fun z => hb (List.mem_singleton.mpr z)) e)) hf (Nat.le_refl _) ok2
    refine ⟨.ref s.heap.objs.size, _, I2, rfl, ⟨_, q, _, _, e0, rfl, I.hok.fresh (Nat.le_refl _), gq, rfl⟩, ⟨_, _, sz ▸ st2⟩, fun b hb => ?_⟩
    rw [List.mem_singleton.mp hb, upd_ne (Nat.ne_of_lt lt)]
    exact (hf it (List.mem_singleton.mpr rfl)).1
  done := by
    intro X h1 h2 h3 hc i pins s σ H E I hf ⟨ok, ov, st⟩ ⟨hd, hi⟩
    subst h1 h2 h3
    obtain ⟨f0, f1, f2, f3, f4, f5⟩ := hf it (List.mem_singleton.mpr rfl)
    obtain ⟨n0, g0, x0, es', ep', d0, sz, en⟩ := entries I hd
    obtain ⟨rfl, rfl⟩ := dict_ep od d0
    rw [← sz] at st
    exact DT.endI (I.ok.hd hc) st ⟨o, g0, x0, d0⟩ (by omega) fun h' eb => ⟨rfl, I.turned (t' := s.toks) (fun b ob hb e => eb b ob hb e) f0 f1 f3 f4 f5⟩
  self := fun A i s Q E ⟨_, _, e⟩ h => PySem.W.kcp_self e h
end
/-- d.items(), d locked -/
def iPairs (td : TE) : TI := fun σ H R => td σ H fun x H1 => ∃ d o kvs, x = .ref d ∧ H1 d = some (.frz o (.dT kvs)) ∧ R (Itp d o kvs) H1
theorem pi_pairs {X : Cx} {e : Expr} {td : TE} {apos cpos : Pos} {elts : List Expr} {kk : Nat} {tpos : Pos} (he : PE X e td) (hbase : attributeBase e "items" X.env (eval e X.env) = eval e X.env := by rfl) (hline : (apos.endLine == cpos.line) = true := by rfl) :
    PI X (.Tuple elts kk tpos) (.Call (.Attribute e "items" apos) [] [] cpos) (iPairs td) := by
  refine ⟨fun pins s σ H R I h => wpAny_Call_method (T := "dict") (id := "dict.items") hbase rfl hline F.plainAttrs_dict F.slot_dict_items F.type_dict_items (thn (he.run pins s σ H _ I h) fun u s1 ⟨x, H1, I1, rx, d, o, kvs, ex, hd, q⟩ => ?_)⟩
  subst ex
  obtain rfl : u = Value.ref d := rx
  obtain ⟨n0, g0, x0, es, ep, d0, sz, _⟩ := entries I1 hd
  have raw : DT.Raw s1.heap d es ep := ⟨o, g0, x0, d0⟩
  refine ⟨raw.typeIs, ?nod, ?_⟩
  case nod => exact fun a e => by cases e; exact ⟨o, g0, x0.2.1⟩
  have I2 : Inv X pins σ H1 { s1 with heap := s1.heap.push { cls := .type "dict_items", data := .fields #[.ref d] } } := I1.kept (t' := s1.toks) fun b ob z => Heap.get?_push_of_some _ z
  have go : wpAny (model X.prog X.w) X.A (pyIter (.ref s1.heap.objs.size)) (PIE X pins σ (.Tuple elts kk tpos) R) X.xe { s1 with heap := s1.heap.push { cls := .type "dict_items", data := .fields #[.ref d] } } := by
    refine DT.iterI (d := d) (es := es) (ep := ep) ⟨_, Heap.get?_push_size _ rfl, rfl, rfl⟩ (raw.push _) (pi_one (tk := s1.toks) I2 _ (turn_pairs _ d0) ⟨.none, .none, ?_⟩ q)
    rw [← sz]
    exact Heap.get?_push_size _ rfl
  show wpAny _ _ (callWith cpos (.builtin "dict.items") [.ref d] [] []) _ X.xe s1
  exact method_meetsIn F.slot_dict_items F.entry_dict_items rfl (PySem.evalArgs_none ⟨rfl, raw.typeIs, F.args_dict_items_1 _, _, DT.meetsItems (es := es) (ep := ep) n0, ⟨raw, go⟩⟩)
end Yt

/-! # max(list of whole numbers, default=d) -/
namespace Mx
open PySem L2 PySem.Spec PyProof.Rows
abbrev box (c : Nat) (xs : Array Value) : Obj := { cls := .type "list", dict := none, data := .seq xs c, slots := #[] }
abbrev callOf (I S : Addr) (kw : List (Str × Value)) : Code := .builtin "max.loop" ⟨[.ref I, .none, .ref S], kw⟩
section
variable {prog : Program} {w : World} {A : Around} {R : Result → Shared → Prop} {I S : Addr} {fp wr : List Addr} {n : Nat} {P : Nat → Value → Prop} {St : Nat → Heap → Prop} {kw : List (Str × Value)}
theorem nm : (toString "max" ++ toString ".loop" : String) = "max.loop" := by decide
/-- from the second item on -/
theorem later (W : Walks prog w A.in1 I fp wr n P St) (bt : Nat → Nat → Bool) (cmp : CmpOf prog w A.in1 .Gt P bt) (nS : S ∉ fp) : ∀ (k j c : Nat) (s : Shared) (v : Value), n = j + 1 + k → St (j + 1) s.heap → P (argBest bt j) v → s.heap.get? S = some (box c #[v, v]) →
    (∀ v' h' tk, P (argBest bt (n - 1)) v' → (∀ b o, b ∉ wr → b ≠ S → s.heap.get? b = some o → h'.get? b = some o) → R (.ok (.ret v')) { s with heap := h', toks := tk }) → codeAny (model prog w) A (callOf I S kw) R s := by
  have nW : S ∉ wr := fun z => nS (W.sub _ z)
  intro k
  induction k with
  | zero =>
    intro j c s v e st pv g q
    refine codeAny_builtin F.entry_max_loop (by
      rw [Around.under_plainId F.plain_max_loop _]
      show wpAny _ A.in1 (seqItems? (.ref S) >>= _) _ _ s
      refine wpAny_bind (wpAny_seqItems g rfl (?_ : wpAny _ A.in1 (tryCatch (pyNext (.ref I)) _ >>= _) _ _ _))
      rw [show n = j + 1 by omega] at W q
      refine wpAny_bind (wpAny_tryCatch (W.done s _ _ st fun h1 tk kp => ?_))
      have g1 := kp S _ nW g
      refine (?_ : wpAny _ A.in1 (updateSeq S (fun _ => #[]) >>= _) _ _ _)
      refine wpAny_bind (wpAny_updateSeq g1 rfl (wpAny_bind (wpAny_letGo (wpAny_pure (q v _ tk (by rw [Nat.add_sub_cancel]; exact pv) fun b o hw hS z => ?_)))))
      exact (Heap.get?_update_other _ _ (Ne.symm hS)).trans (kp b o hw z))
  | succ k ih =>
    intro j c s v e st pv g q
    refine codeAny_builtin F.entry_max_loop ?_
    rw [Around.under_plainId F.plain_max_loop _]
    show wpAny _ A.in1 (seqItems? (.ref S) >>= _) _ _ s
    refine wpAny_bind (wpAny_seqItems g rfl (?_ : wpAny _ A.in1 (tryCatch (pyNext (.ref I)) _ >>= _) _ _ _))
    refine wpAny_bind (wpAny_tryCatch (W.item (j + 1) s _ _ (by omega) st fun u h1 tk pu st1 kp => ?_))
    have g1 := kp S _ nW g
    refine (?_ : wpAny _ A.in1 (tryCatch (holding [u, u] (richCompare .Gt u v >>= _)) _ >>= _) _ _ _)
    refine wpAny_bind (wpAny_tryCatch (wpAny_holding (wpAny_bind (cmp (j + 1) (argBest bt j) u v _ _ _ pu pv (wpAny_bind (wpAny_holding (wpAny_truthy_bool (wpAny_bind (wpAny_letGo (wpAny_pure ?_))))))))))
    cases hb : bt (j + 1) (argBest bt j) with
    | true =>
      have pu1 : P (argBest bt (j + 1)) u := by rw [argBest, hb, if_pos rfl]; exact pu
      rw [if_pos rfl]
      refine wpAny_bind (wpAny_updateSeq g1 rfl (wpAny_bind (wpAny_letGo ?_)))
      rw [nm]
      refine wpAny_pure ⟨plainId_quiet F.plain_max_loop _, ih (j + 1) _ _ u (by omega) (W.frame _ _ _ st1 fun b hb o z => ?_) pu1 (Heap.get?_update_self _ g1 rfl) fun v' h2 tk2 p2 k2 => q v' h2 tk2 p2 fun b o hw hS z => k2 b o hw hS ?_⟩
      · exact (Heap.get?_update_other _ _ fun x : S = b => nS (x ▸ hb)).trans z
      · exact (Heap.get?_update_other _ _ hS.symm).trans (kp b o hw z)
    | false =>
      have pv1 : P (argBest bt (j + 1)) v := by rw [argBest, hb, if_neg Bool.false_ne_true]; exact pv
      rw [if_neg Bool.false_ne_true]
      refine wpAny_bind (wpAny_letGo ?_)
      rw [nm]
      exact wpAny_pure ⟨plainId_quiet F.plain_max_loop _, ih (j + 1) c _ v (by omega) st1 pv1 g1 fun v' h2 tk2 p2 k2 => q v' h2 tk2 p2 fun b o hw hS z => k2 b o hw hS (kp b o hw z)⟩
/-- the first item, or none: then the default -/
theorem first (W : Walks prog w A.in1 I fp wr n P St) (bt : Nat → Nat → Bool) (cmp : CmpOf prog w A.in1 .Gt P bt) (nS : S ∉ fp) {c : Nat} {s : Shared} {d : Value} {x : Str} (st : St 0 s.heap) (g : s.heap.get? S = some (box c #[]))
    (q : ∀ v' h' tk, (0 < n ∧ P (argBest bt (n - 1)) v') ∨ (n = 0 ∧ v' = d) → (∀ b o, b ∉ wr → b ≠ S → s.heap.get? b = some o → h'.get? b = some o) → R (.ok (.ret v')) { s with heap := h', toks := tk }) : codeAny (model prog w) A (callOf I S [(x, d)]) R s := by
  have nW : S ∉ wr := fun z => nS (W.sub _ z)
  refine codeAny_builtin F.entry_max_loop ?_
  rw [Around.under_plainId F.plain_max_loop _]
  show wpAny _ A.in1 (seqItems? (.ref S) >>= _) _ _ s
  refine wpAny_bind (wpAny_seqItems g rfl (?_ : wpAny _ A.in1 (tryCatch (pyNext (.ref I)) _ >>= _) _ _ _))
  by_cases hn : 0 < n
  · refine wpAny_bind (wpAny_tryCatch (W.item 0 s _ _ hn st fun u h1 tk pu st1 kp => ?_))
    have g1 := kp S _ nW g
    refine (?_ : wpAny _ A.in1 (updateSeq S (fun _ => #[u, u]) >>= _) _ _ _)
    refine wpAny_bind (wpAny_updateSeq g1 rfl ?_)
    rw [nm]
    refine wpAny_pure ⟨plainId_quiet F.plain_max_loop _, later W bt cmp nS (n - 1) 0 _ _ u (by omega) (W.frame _ _ _ st1 fun b hb o z => ?_) pu (Heap.get?_update_self _ g1 rfl) fun v' h2 tk2 p2 k2 => q v' h2 tk2 (.inl ⟨hn, p2⟩) fun b o hw hS z => k2 b o hw hS ?_⟩
    · exact (Heap.get?_update_other _ _ fun x : S = b => nS (x ▸ hb)).trans z
    · exact (Heap.get?_update_other _ _ hS.symm).trans (kp b o hw z)
  · have h0 : n = 0 := by omega
    subst h0
    refine wpAny_bind (wpAny_tryCatch (W.done s _ _ st fun h1 tk kp => ?_))
    exact wpAny_bind (wpAny_rule (wpAny_pure (q d h1 tk (.inr ⟨rfl, rfl⟩) fun b o hw hS z => kp b o hw z)))
end
theorem args1 (a d : Value) : argsOk "max" ⟨[a], [(Str.ofString "default", d)]⟩ := by
  unfold argsOk
  kernel_rfl
section
variable {prog : Program} {w : World} {A : Around} {E : Value → Shared → Prop} {s : Shared}
theorem whole {x d : Value} {Q : Value → Shared → Prop}
    (h : wpAny (model prog w) A.in1 (pyIter x) (fun it s2 => ∃ I fp wr n P St bt, it = .ref I ∧ Walks prog w A.in1 I fp wr n P St ∧ St 0 s2.heap ∧ (∀ b ∈ fp, b < s2.heap.objs.size) ∧ CmpOf prog w A.in1 .Gt P bt ∧
      ∀ v h' tk, (0 < n ∧ P (argBest bt (n - 1)) v) ∨ (n = 0 ∧ v = d) → (∀ b o, b ∉ wr → s2.heap.get? b = some o → h'.get? b = some o) → Q v { s2 with heap := h', toks := tk }) E s) :
    wpAny (model prog w) A (call (.builtin "max") [x] [(Str.ofString "default", d)]) Q E s := by
  refine wpAny_call (codeAny_call_builtin F.plain_max F.entry_max ?_)
  have body : wpAny (model prog w) A.in1 (Builtin.«max» ⟨[x], [(Str.ofString "default", d)]⟩) (fun fin s' => match fin with
      | .done f => (match (Except.ok f : Result) with | .ok (.ret v) => Q v s' | .ok _ => False | .error e => E e s')
      | .again c' => c'.quiet = true ∧ codeAny (model prog w) A c' (fun r s' => match r with | .ok (.ret v) => Q v s' | .ok _ => False | .error e => E e s') s') E s := by
    show wpAny _ A.in1 (Builtin.Builtins.bindParams "max" ["key", "default"] 0 ⟨[], [(Str.ofString "default", d)]⟩ >>= _) _ _ s
    refine wpAny_bind (wpAny_of_eq (show Builtin.Builtins.bindParams "max" ["key", "default"] 0 ⟨[], [(Str.ofString "default", d)]⟩ = pure [none, some d] from rfl) (wpAny_bind (wpAny_pure ?_)))
    refine wpAny_bind (wpAny_mono h (fun it s2 ⟨I, fp, wr, n, P, Sx, bt, e, W, st, lo, cmp, q⟩ => ?_) fun _ _ e => e)
    subst e
    refine wpAny_bind (wpAny_newObj_type ?_)
    have nS : s2.heap.objs.size ∉ fp := fun hm => Nat.lt_irrefl _ (lo _ hm)
    rw [nm]
    exact wpAny_pure ⟨plainId_quiet F.plain_max_loop _, first W bt cmp nS (W.frame _ _ _ st fun b _ o e => Heap.get?_push_of_some _ e) (Heap.get?_push_size _ rfl) fun v h1 tk hv kp => q v h1 tk hv fun b o hw z => kp b o hw (Nat.ne_of_lt (Heap.lt_size z)) (Heap.get?_push_of_some _ z)⟩
  simp only [checkBuiltinCall, F.kind_max]
  cases sg : Manifest.signature? "max" with
  | none => exact wpAny_pure body
  | some sig =>
    have ok := args1 x d
    simp only [argsOk, sg] at ok
    have ok2 : Bind.checkArgs "max" sig ⟨[x], [(Str.ofString "default", d)]⟩ = pure () := ok
    simp only [ok2]
    exact wpAny_pure body
end
/-- the greatest of the whole numbers, or the default -/
def rMaxD (K : PySem.W.Frag) : List V → List V → Hp → VK → Prop := fun vs zs H Q => ∃ (a : Addr) (ns : List Int) (d : Int), vs = [.ref a] ∧ zs = [.int d] ∧ SqL K H a (ns.map V.int) ∧ ∀ m, (m ∈ ns ∧ ∀ n ∈ ns, n ≤ m) ∨ (ns = [] ∧ m = d) → Q (.int m) H
theorem cr_maxD {X : Cx} (hc : X.calm = true) : CallRK X (.builtin "max") [Str.ofString "default"] (rMaxD X.K) := by
  intro pins s σ H vs zs us ws Q I r rz h
  obtain ⟨a, ns, d, rfl, rfl, hs, q⟩ := h
  obtain ⟨its, rv, hl, _⟩ := I.list hs
  obtain rfl := Vals.ref1 r
  obtain ⟨w1, rfl, t, rfl⟩ := vals1 rz
  have hi := rv.ints
  obtain ⟨xs, e⟩ := hi.allInts.items
  have hn : numsOf (intItems xs).toList = ns := by rw [← e]; exact hi.numsOf
  rw [nums_intItems] at hn
  have hl2 := hl.isList
  rw [e] at hl2
  refine whole (iter_intList hl2 fun s2 e2 st hf hlI => ?_)
  subst e2
  refine ⟨_, _, _, _, _, _, _, rfl, Walks.list (A := X.A.in1) (I.ok.hd hc) _ a hlI (intItems xs), st, hf, CmpOf.ints_gt (numAt xs) (fun _ _ => intItems_at), fun v h1 tk hv kp => ?_⟩
  have old := old_kept kp
  rcases hv with ⟨n0, hv⟩ | ⟨n0, hv⟩
  · obtain ⟨t2, rfl⟩ := intItems_at hv
    refine ⟨.int _, H, I.kept (t' := tk) old, ⟨_, rfl⟩, q _ (.inl ?_)⟩
    have sz : (intItems xs).size = xs.size := by simp [intItems]
    rw [sz] at n0 ⊢
    obtain ⟨g1, g2⟩ := argBest_gt (numAt xs) (xs.size - 1)
    rw [← hn]
    refine ⟨?_, fun b hb => ?_⟩
    · rw [numAt_eq]
      exact PySem.getD_mem (by rw [List.length_map, Array.length_toList]; omega)
    · obtain ⟨j, hj, rfl⟩ := mem_getD hb
      rw [List.length_map, Array.length_toList] at hj
      rw [← numAt_eq]
      exact g2 j (by omega)
  · subst hv
    refine ⟨.int d, H, I.kept (t' := tk) old, ⟨_, rfl⟩, q _ (.inr ⟨?_, rfl⟩)⟩
    have sz : (intItems xs).size = xs.size := by simp [intItems]
    have l0 : ns.length = 0 := by
      rw [← hn, List.length_map, Array.length_toList]
      omega
    exact List.eq_nil_of_length_eq_zero l0
end Mx

/-! # Readings: objects of a class, their fields and methods; locked dicts; walks with several names -/
namespace Y
open PySem L2 PySem.Spec PyProof.Rows StX RZ
/-- a method of the class at C -/
structure MethAt (K : PySem.W.Frag) (C : Addr) (m q : Str) (st : Stmt) (ps : List Str) (f : Addr) (fd : FuncData) : Prop where
  F : Fun K m q st f fd
  b : Binds K fd ps []
  at_ : Meth K C m f
section
variable {X : Cx} {k : Nat} {f C : Addr} {fd : FuncData} {ps : List Str} {sp : Sp} {x m q : Str} {st : Stmt} {p pos apos : Pos} {o e : Expr} {es : List Expr} {t : TA} {to : TE}
theorem pmeth {pl : Sem Bool} (D : MethAt X.K C m q st ps f fd) (c : Cls X.K C) (G : FnOk X.prog X.w X.K X.mg X.base CX0 k f fd ps sp) (hr : Room k X.A) (ho : PE X o to) (ha : PA X (e :: es) t)
    (hst : starEach (e :: es) X.env = (false, eval e X.env) :: starEach es X.env := by rfl) (hpl : (backTo pos (starEach es X.env)).any (·.1) = false := by rfl)
    (ht : eval (.Call (.Attribute o m apos) (e :: es) [] pos) X.env = (do
      let ov ← eval o X.env
      standAt apos.atName
      let (f, first) ← holding [ov] (getMethod ov m pl)
      callWith pos f first (backTo pos (starEach (e :: es) X.env)) (backToKw pos (keywordEach [] X.env))) := by rfl) :
    PE X (.Call (.Attribute o m apos) (e :: es) [] pos) (tMeth C m sp [] E0 to t) := pe_meth ho c D.at_ G hr D.b .nil pass0 ha hst hpl ht
theorem pmeth0 {pl : Sem Bool} (D : MethAt X.K C m q st ps f fd) (c : Cls X.K C) (G : FnOk X.prog X.w X.K X.mg X.base CX0 k f fd ps sp) (hr : Room k X.A) (ho : PE X o to)
    (ht : eval (.Call (.Attribute o m apos) [] [] pos) X.env = (do
      let ov ← eval o X.env
      standAt apos.atName
      let (f, first) ← holding [ov] (getMethod ov m pl)
      callWith pos f first (backTo pos (starEach [] X.env)) (backToKw pos (keywordEach [] X.env))) := by rfl) :
    PE X (.Call (.Attribute o m apos) [] [] pos) (tMeth C m sp [] E0 to tNil) := pe_meth0 ho c D.at_ G hr D.b .nil pass0 ht
theorem pmake0 (D : MethAt X.K C m q st ps f fd) (M : Mk X.K C f) (hm : X.mg x = some (.ref C)) (G : FnOk X.prog X.w X.K X.mg X.base CX0 k f fd ps sp) (hr : Room (k + 1) X.A) (hg : Gl X x := by rfl) (hdb : (x == ("__debug__" : Str)) = false := by decide) :
    PE X (.Call (.Name x p) [] [] pos) (tMake C sp [] E0 tNil) := pe_make0 M G hr hg hm D.b .nil pass0 hdb
end
section
variable {K : PySem.W.Frag} {σ : L2.St} {H : Hp} {Q : VK} {D : Ends} {te ta tb tc td tx ty : TE} {v : V} {tA tB : TA}
/-- what a method's call asks of its object -/
def rObj (C : Addr) (m : Str) (x : V) (H : Hp) (R : Prop) : Prop := ∃ a dx fs, x = .ref a ∧ H a = some (.ins C dx fs) ∧ fs.lookup m = none ∧ R
theorem meth {C : Addr} {m : Str} {sp : Sp} {E : XK} (q : ta σ H fun x H1 => rObj C m x H1 (tA σ H1 fun vs H2 => sp (x :: vs) H2 Q E)) : tMeth C m sp [] E ta tA σ H Q := by
  have e : (fun (x : V) H1 => ∃ a dx fs, x = .ref a ∧ H1 a = some (.ins C dx fs) ∧ fs.lookup m = none ∧ tA σ H1 fun vs H2 => sp (x :: (vs ++ [])) H2 Q E) = fun x H1 => rObj C m x H1 (tA σ H1 fun vs H2 => sp (x :: vs) H2 Q E) := by
    funext x H1
    simp only [List.append_nil]
    rfl
  show ta σ H (fun x H1 => ∃ a dx fs, x = .ref a ∧ H1 a = some (.ins C dx fs) ∧ fs.lookup m = none ∧ tA σ H1 fun vs H2 => sp (x :: (vs ++ [])) H2 Q E)
  rw [e]
  exact q
theorem obj {C a dx : Addr} {fs : List (Str × V)} {m : Str} {R : Prop} (h : H a = some (.ins C dx fs)) (n : fs.lookup m = none) (q : R) : rObj C m (.ref a) H R := ⟨a, dx, fs, rfl, h, n, q⟩
def rFld (K : PySem.W.Frag) (f : Str) (x : V) (H : Hp) (Q : VK) : Prop := ∃ a C dx fs v, x = .ref a ∧ H a = some (.ins C dx fs) ∧ Cls K C ∧ NoAttr K C f ∧ fs.lookup f = some v ∧ Q v H
theorem fldR {f : Str} (q : ta σ H fun x H1 => rFld K f x H1 Q) : tFld K ta f σ H Q := q
theorem fld {C a dx : Addr} {fs : List (Str × V)} {f : Str} (h : H a = some (.ins C dx fs)) (c : Cls K C) (n : NoAttr K C f) (e : fs.lookup f = some v) (q : Q v H) : rFld K f (.ref a) H Q := ⟨a, C, dx, fs, v, rfl, h, c, n, e, q⟩
def rSetF (K : PySem.W.Frag) (f : Str) (x y : V) (H : Hp) (R : Hp → Prop) : Prop := ∃ a C dx fs, x = .ref a ∧ H a = some (.ins C dx fs) ∧ Cls K C ∧ NoAttr K C f ∧ fs.length < 1000 ∧ R (upd H a (.ins C dx (putF f y fs)))
theorem setFR {f : Str} (q : tb σ H fun y H1 => ta σ H1 fun x H2 => rSetF K f x y H2 (D.nx σ)) : sFld K ta tb f D σ H := q
theorem setF {C a dx : Addr} {fs : List (Str × V)} {f : Str} {y : V} {R : Hp → Prop} (h : H a = some (.ins C dx fs)) (c : Cls K C) (n : NoAttr K C f) (l : fs.length < 1000) (q : ∀ H1, H1 a = some (.ins C dx (putF f y fs)) → (∀ T, a ∈ T → But T H H1) → R H1) : rSetF K f (.ref a) y H R :=
  ⟨a, C, dx, fs, rfl, h, c, n, l, q _ upd_same fun _ m => But.set h rfl m⟩
theorem makeR {C : Addr} {sp : Sp} {E : XK} (q : ∀ x H1, H x = none → (∃ dx, H1 x = some (.ins C dx [])) → (∀ T, But T H H1) → sp [.ref x] H1 (fun v H2 => v = .non ∧ Q (.ref x) H2) E) : tMake C sp [] E tNil σ H Q := by
  intro x dx nx ndx ne
  have ndx2 : H dx = none := ndx
  refine q x _ nx ⟨dx, upd_same⟩ fun T => (But.new ndx2).trans (But.new ?_)
  rw [upd_ne ne.symm]
  exact nx
theorem ckw {r : List V → List V → Hp → VK → Prop} (q : tA σ H fun vs H1 => tB σ H1 fun zs H2 => r vs zs H2 Q) : tCKw r tA tB σ H Q := q
theorem maxD {a : Addr} {ns : List Int} {d : Int} (h : SqL K H a (ns.map V.int)) (q : ∀ m, (m ∈ ns ∧ ∀ n ∈ ns, n ≤ m) ∨ (ns = [] ∧ m = d) → Q (.int m) H) : Mx.rMaxD K [.ref a] [.int d] H Q := ⟨a, ns, d, rfl, rfl, h, q⟩
theorem newT (q : ∀ p H2, H p = none → H2 p = some (.dT []) → (∀ T, But T H H2) → Q (.ref p) H2) : tDNewT σ H Q := fun p hp => q p _ hp upd_same fun _ => But.new hp
/-! ## dicts whose keys are tuples of two texts -/
theorem dinT {a b : Addr} {kvs : List (List Key × V)} {k : List Key} {neg : Bool} (h : H a = some (.dT kvs)) (e : H b = some (.tup (k.map kV))) (q : Q (.bl (if neg then !(valV kvs k).isSome else (valV kvs k).isSome)) H) : rHas neg (.ref a) (.ref b) H Q := ⟨a, _, rfl, DGet.t h e, q⟩
theorem dputT {R : Hp → Prop} {a b : Addr} {kvs : List (List Key × V)} {k : List Key} (h : H a = some (.dT kvs)) (e : H b = some (.tup (k.map kV))) (hl : kvs.length < sizeLine) (q : ∀ H1, H1 a = some (.dT (putK kvs k v)) → (∀ T, a ∈ T → But T H H1) → R H1) : rPut (.ref a) (.ref b) v H R :=
  ⟨a, _, rfl, DPut.t h e hl, q _ upd_same fun _ m => But.set h rfl m⟩
/-! ## a dict is locked while it is walked -/
theorem But.unlock {T : List Addr} {H H1 : Hp} {d : Addr} {u : HO} {od : Obj} (h : H d = some u) (ht : isTbl u = false) (b : But [] (upd H d (.frz od u)) H1) : But T H (upd H1 d u) := by
  refine ⟨fun c o e n t => ?_, fun c e => ?_, fun c o e => ?_⟩
  · by_cases z : c = d
    · subst z
      rw [h] at e
      cases e
      exact upd_same
    · rw [upd_ne z]
      exact b.keep c o (by rw [upd_ne z]; exact e) (by simp) t
  · have z : c ≠ d := fun z => by
      obtain ⟨ps, e1, _⟩ := e
      rw [z, h] at e1
      cases e1
      cases ht
    obtain ⟨ps, e1, t⟩ := e
    obtain ⟨ps2, e2, t2⟩ := b.tab c ⟨ps, by rw [upd_ne z]; exact e1, t⟩
    exact ⟨ps2, by rw [upd_ne z]; exact e2, t2⟩
  · by_cases z : c = d
    · exact ⟨u, by rw [z]; exact upd_same⟩
    · obtain ⟨o', e'⟩ := b.up c o (by rw [upd_ne z]; exact e)
      exact ⟨o', by rw [upd_ne z]; exact e'⟩
/-- a comprehension over the pairs of the dict at d -/
theorem lockC {g : TG} {tt : TT} {vs : List Nat} {d : Addr} {kvs : List (List Key × V)} (h : H d = some (.dT kvs))
    (q : ∀ od H0, H0 = upd H d (.frz od (.dT kvs)) → td σ H0 fun x H1 => ∃ d' o kvs', x = .ref d' ∧ H1 d' = some (.frz o (.dT kvs')) ∧ ∀ D, H1 D = none → LC (Yt.Itp d' o kvs') g tt te vs σ H1 D fun H2 => H2 d = some (.frz od (.dT kvs)) ∧ Q (.ref D) (upd H2 d (.dT kvs))) :
    tLockE (tLc (Yt.iPairs td) g tt te vs) σ H Q := ⟨d, .dT kvs, h, trivial, fun od => q od _ rfl⟩
theorem lcP {g : TG} {tt : TT} {vs : List Nat} {D d : Addr} {o : Obj} {kvs : List (List Key × V)} {Qd : Hp → Prop} (Pv : Nat → Hp → Prop) (h0 : Pv 0 (upd H D (.lst []))) (hl : ∀ i H1, Pv i H1 → H1 d = some (.frz o (.dT kvs)))
    (hs : ∀ i k w q T H1, kvs[i]? = some (k, w) → Pv i H1 → H1 T = none → H1 q = some (.tup (k.map kV)) → g (.ref T) (wipe σ vs) (upd H1 T (.tup [.ref q, w])) fun σ2 H2 => wipe σ2 vs = wipe σ vs ∧ tt σ2 H2 fun b H3 =>
      if b = true then te σ2 H3 fun y H4 => ∃ acc, H4 D = some (.lst acc) ∧ acc.length < sizeLine ∧ Pv (i + 1) (upd H4 D (.lst (acc ++ [y]))) else Pv (i + 1) H3) (hd : ∀ H1, Pv kvs.length H1 → Qd H1) : LC (Yt.Itp d o kvs) g tt te vs σ H D Qd := by
  refine ⟨fun i m H1 => m = kvs.length - i ∧ i ≤ kvs.length ∧ Pv i H1, ⟨kvs.length, by simp, Nat.zero_le _, h0⟩, ?_⟩
  rintro i m H1 ⟨rfl, hi, p⟩
  have hdd := hl i H1 p
  by_cases lt : i < kvs.length
  · refine .inr ⟨⟨hdd, lt⟩, Pv (i + 1), fun H' p' => ⟨kvs.length - (i + 1), by omega, rfl, lt, p'⟩, fun x H' ⟨T, q, k, w, e, ex, nT, eq, eH⟩ => ?_⟩
    subst ex eH
    exact hs i k w q T H1 e p nT eq
  · have e : i = kvs.length := by omega
    subst e
    exact .inl ⟨⟨hdd, Nat.le_refl _⟩, hd H1 p⟩
/-- a comprehension over a list, the target of any form; each element worth f -/
theorem lcLt {g : TG} {vs : List Nat} {a D : Addr} {xs : List V} {Qd : Hp → Prop} (f : Nat → V) (hx : SqL K H a xs) (hD : H D = none) (hz : xs.length < 1000000)
    (hg : ∀ i x H1 QS, xs[i]? = some x → (∀ T, But T H H1) → (∀ σ2, wipe σ2 vs = wipe σ vs → (∀ QV, QV (f i) H1 → te σ2 H1 QV) → QS σ2 H1) → g x (wipe σ vs) H1 QS)
    (hd : ∀ H1 ys, (∀ T, But T H H1) → H1 D = some (.lst ys) → ys.length = xs.length → (∀ i v, ys[i]? = some v → v = f i) → Qd H1) : LC (Itl K a) g tYes te vs σ H D Qd := by
  refine lc_list (K := K) (a := a) (xs := xs) (fun i H1 => (∀ T, But T H H1) ∧ ∃ ys, H1 D = some (.lst ys) ∧ ys.length = i ∧ ∀ j v, ys[j]? = some v → v = f j) ⟨fun _ => But.new hD, [], upd_same, rfl, fun j v e => by simp at e⟩ (fun i H1 _ p => (p.1 []).seq hx (by simp)) (fun i x H1 hi ⟨b, ys, e, hl, hE⟩ => ?_) fun H1 ⟨b, ys, e, hl, hE⟩ => hd H1 ys b e hl hE
  have hlt : i < xs.length := (List.getElem?_eq_some_iff.mp hi).1
  refine hg i x H1 _ hi b fun σ2 hw ht => ⟨hw, ?_⟩
  unfold tYes
  simp only [if_true]
  refine ht _ ⟨ys, e, Nat.lt_of_lt_of_le (by omega) (show 1000000 ≤ sizeLine by decide), fun T => (b T).own hD (But.set e rfl (List.mem_singleton.mpr rfl)), ys ++ [f i], upd_same, by rw [List.length_append, hl]; rfl, fun j v hv => ?_⟩
  by_cases hj : j < ys.length
  · rw [List.getElem?_append_left hj] at hv
    exact hE j v hv
  · rw [List.getElem?_append_right (by omega)] at hv
    have h0 : j - ys.length = 0 := by
      have := (List.getElem?_eq_some_iff.mp hv).1
      simp at this
      omega
    rw [h0] at hv
    have hv : some (f i) = some v := hv
    cases hv
    rw [show j = i by omega]
end
end Y

/-! # all(test for x in a text), the test calling what it likes of the written part -/
namespace Yg
open PySem PySem.Spec PyProof.Rows L2
/-- the test of one sign: wherever it is asked, the base standing as it stood -/
def EltX (X : Cx) (scope : Scope) (x : Str) (elt : Expr) (pb : Nat → Bool) : Prop :=
  ∀ (env : Env) (B : Around) (E : Value → Shared → Prop) (c : Nat) (t : Tok) (s : Shared) (m : Str → Option Value),
    B.handled = none → B.depth ≤ X.A.depth + 1 → B.units ≤ X.A.units + 8 → env.scope = scope → env.globals = mainGlobals → L2.Mod X.K X.mg X.base → (∀ b o, X.base.get? b = some o → s.heap.get? b = some o) →
    s.heap.Ns env.locals m → m x = some (.str ⟨#[c]⟩ t) → wpAny (model X.prog X.w) B (eval elt env) (fun y s' => y = .bool (pb c) ∧ Keeps s s') E s
section
variable {X : Cx} {pins : List (Addr × Obj)} {σ : L2.St} {H : Hp} {s : Shared}
/-- the generator is made and ready to be walked -/
theorem made {c P : Addr} {elt iter : Expr} {x : Str} {px gpos : Pos} {scope : Scope} {pb : Nat → Bool} {te : TE} {k : Nat} {Q' : Value → Shared → Prop} {R : Str → Hp → Prop}
    (hr : Room k X.A) (TB : GxR.TabB X.base X.mg c P) (hcode : X.env.code = .ref c) (S : GxR.GenS X.env scope x) (hi : PE X iter te) (hel : EltX X scope x elt pb) (hs : ∀ v, genFold iter X.env v = pure v)
    (I : Inv X pins σ H s) (h : te σ H fun v H1 => ∃ a : Str, v = .str a ∧ GxR.TabG H1 P ∧ R a H1) (hQ : ∀ a H1 g s5, R a H1 → GxR.Ready X pins σ H1 P a pb g s5 → Q' (.ref g) s5) :
    wpAny (model X.prog X.w) X.A (eval (.GeneratorExp elt [⟨.Name x px, iter, [], 0⟩] scope gpos) X.env) Q' X.xe s := by
  have hroom : X.A.depth < recursionLimit := hr.depth
  refine wpAny_GeneratorExp_walksQD hr.hd S.co (closure_ok S.free) S.cell S.dot S.loc S.kind hroom ?_ hs
  refine thn (hi.run pins s σ H _ I h) fun xv s1 hx1 => ?_
  obtain ⟨v, H1, I1, r1, a, ev, ⟨ps, hP, ht⟩, hR⟩ := hx1
  subst ev
  obtain ⟨tk0, rfl⟩ := r1
  refine wpAny_pyIter_str fun o St W hst => ?_
  have tabS : s1.heap.get? P = some { cls := .none, data := .fields ps } := I1.hok P _ hP
  have ltP := Heap.lt_size tabS
  have old : ∀ b u, s1.heap.get? b = some u → (s1.heap.push o).get? b = some u := fun b u e => Heap.get?_push_of_some _ e
  have tabO := old P _ tabS
  have head : PySem.W.CodeHd (s1.heap.push o) c P := TB.code.keeps fun b u e => old b u (I1.bk b u e)
  have lim := I1.nolimit.push o
  have baseNe : ∀ b u, X.base.get? b = some u → b ≠ P := fun b u e z => by
    have n := (I1.bs b u e).2
    rw [z, hP] at n
    cases n
  -- the state h3 with the generator's code laid; the table holds qs
  have go : ∀ (code : Value) (h3 : Heap) (tk : Nat) (qs : Array Value), Heap.ExtBut P (s1.heap.push o) h3 → (s1.heap.push o).objs.size ≤ h3.objs.size → h3.get? P = some { cls := .none, data := .fields qs } → (∃ more, qs = ps ++ more) → TriplesOk qs.toList →
      wpAny (model X.prog X.w) X.A (builtinsFor X.env.globals X.env.builtins) (fun bi s₄ => ∃ Ia fp wr n₀ Pf St₀ pz F, Value.ref s1.heap.objs.size = .ref Ia ∧ (∀ A' : Around, A'.handled = none → Walks X.prog X.w A' Ia fp wr n₀ Pf St₀) ∧ St₀ 0 s₄.heap ∧
        (∀ b ∈ fp, b < s₄.heap.objs.size) ∧ s₄.heap.NoLimit ∧ cStatics ∉ wr ∧
        (∀ href : Heap, (∀ b o, s₄.heap.get? b = some o → href.get? b = some o) → QuietGenD X.prog X.w (genEnv scope (cloFrom X.env.cells scope.names []) s₄.heap.objs.size code bi X.env) x [] elt (List.range s₄.heap.objs.size) wr Pf pz F href (X.A.depth + 1) (X.A.units + 8)) ∧
        (∀ a h₅ tk gs, gs.bare = true → s₄.heap.objs.size < a → h₅.objs.size = a + 1 → (∀ b o, s₄.heap.get? b = some o → h₅.get? b = some o) →
          WalksS X.prog X.w X.A.in4 a (a :: s₄.heap.objs.size :: List.range s₄.heap.objs.size) (s₄.heap.objs.size :: wr) (GenOnlyQ s₄.gens.size) (passing pz n₀ 0).length (fun j y => ∃ i, (passing pz n₀ 0)[j]? = some i ∧ F i y)
            (GenAt X.prog X.w X.A.in4 a s₄.gens.size s₄.heap.objs.size (List.range s₄.heap.objs.size) wr pz n₀ F) →
          GenAt X.prog X.w X.A.in4 a s₄.gens.size s₄.heap.objs.size (List.range s₄.heap.objs.size) wr pz n₀ F 0 { s₄ with gens := s₄.gens.push gs, toks := tk, heap := h₅ } → Q' (.ref a) { s₄ with gens := s₄.gens.push gs, toks := tk, heap := h₅ })) X.xe { s1 with heap := h3, toks := tk } := by
    intro code h3 tk qs ext hsz htab hmore hok
    obtain ⟨more, hm⟩ := hmore
    have keep : ∀ b u, b ≠ P → s1.heap.get? b = some u → h3.get? b = some u := fun b u nb e => ext b u nb (old b u e)
    have hsz2 : s1.heap.objs.size + 1 ≤ h3.objs.size := by
      have q := hsz
      rw [Heap.size_push] at q
      exact q
    obtain ⟨bm, ob, m1, m2, m3, m4, m5, m6, m7, m8⟩ := TB.bm
    have statNe : cStatics ≠ P ∧ cStatics < s1.heap.objs.size := by
      obtain ⟨_, nsS, _⟩ := I1.nolimit
      refine ⟨fun z => ?_, nsS.lt⟩
      obtain ⟨oS, es, ep, e1, e2, _⟩ := nsS
      rw [z, tabS] at e1
      cases e1
      cases e2
    have glob3 : h3.Ns X.env.globals X.mg := by
      rw [I1.ok.glob]
      exact ((I1.mod.glob.keeps I1.bk).push o).extBut ext TB.gP
    refine wpAny_builtinsFor (m := X.mg) glob3 m1 m2 (keep _ _ m4 (I1.bk _ _ m5)) m6 m7 m8 ?_
    refine ⟨s1.heap.objs.size, [s1.heap.objs.size], [s1.heap.objs.size], a.cps.size, SignAt a, St, fun _ => true, fun i y => ∃ cc, a.cps[i]? = some cc ∧ y = .bool (pb cc), rfl, W, ?_, fun b hb => ?_, lim.extBut ext statNe.1, fun z => ?_, fun href hh => ?_, fun g h5 tk5 gs gb gl g5 k5 W5 at5 => ?_⟩
    · refine (W X.A hr.hd).frame _ _ _ hst fun b hb u e => ext b u (fun z => ?_) e
      rw [List.mem_singleton.mp hb] at z
      exact absurd z (Nat.ne_of_gt ltP)
    · rw [List.mem_singleton.mp hb]
      exact hsz2
    · exact absurd (List.mem_singleton.mp z) (Nat.ne_of_lt statNe.2)
    · refine ⟨fun A' E' i v s₂ m₂ _ _ _ _ _ _ _ => ?_, fun A' E' i v s₂ m₂ hA hD hU hPv _ hn hmx hk => ?_⟩
      · simp only [List.forIn_nil]
        exact wpAny_pure ⟨rfl, GxR.keeps_refl _⟩
      · obtain ⟨cc, u, hcc, ev⟩ := hPv
        subst ev
        have base2 : ∀ b o', X.base.get? b = some o' → s₂.heap.get? b = some o' := fun b o' e => by
          have e1 := I1.bk b o' e
          have e3 := keep b o' (baseNe b o' e) e1
          refine hk b (List.mem_range.mpr (Heap.lt_size e3)) (fun z => ?_) o' (hh b o' e3)
          exact absurd (List.mem_singleton.mp z) (Nat.ne_of_lt (Heap.lt_size e1))
        exact wpAny_mono (hel _ A' E' cc u s₂ m₂ hA hD hU rfl I1.ok.glob I1.ok.mod base2 hn hmx) (fun y s3 r => ⟨⟨cc, hcc, r.1⟩, r.2⟩) fun _ _ e => e
    · simp only [GxR.passing_true, List.length_range] at W5
      refine hQ a H1 g _ hR ⟨_, _, _, _, _, W5.in4_1, at5, fun j y sj Qj Ej hy hq => ?_, fun s' mv => ?_⟩
      · obtain ⟨i, hij, cc, hcc, ey⟩ := hy
        subst ey
        have ej : j = i := by
          obtain ⟨hj, e⟩ := List.getElem?_eq_some_iff.mp hij
          rw [List.getElem_range] at e
          exact e
        subst ej
        have e9 : a.cps.toList[j]? = some cc := by rw [Array.getElem?_toList]; exact hcc
        have hq2 : Qj (GxR.trF pb a.cps.toList j) sj := hq
        rw [GxR.trF_some e9] at hq2
        exact wpAny_truthy_bool hq2
      · have stay : ∀ b u, s1.heap.get? b = some u → b ∉ h3.objs.size :: [s1.heap.objs.size] := fun b u e z => by
          have hl : b < s1.heap.objs.size := Heap.lt_size e
          rcases List.mem_cons.mp z with z | z
          · rw [z] at hl
            exact absurd hl (Nat.not_lt.mpr (Nat.le_of_succ_le hsz2))
          · rw [List.mem_singleton.mp z] at hl
            exact absurd hl (Nat.lt_irrefl _)
        have J := GxR.inv_tab (more := more) (h' := s'.heap) (g' := s'.gens) (d' := s'.drawn) (t' := s'.toks) I1 hP (fun b u hb e => mv.heap b u (stay b u e) (k5 b u (keep b u hb e)))
          (by rw [← hm]; exact mv.heap P _ (stay P _ tabS) (k5 P _ htab)) (AllBare.movedS (I1.bare.push gb) mv)
        rw [GxR.sh_eta s1 s' mv.os] at J
        exact ⟨upd H1 P (.tbl (ps ++ more)), ⟨⟨ps ++ more, upd_same, by rw [← hm]; exact hok⟩, fun b hb => upd_ne hb⟩, J⟩
  refine ⟨lim, ?_⟩
  cases found : codeAmong gpos ps.toList with
  | some cv =>
    refine wpAny_genexprCode_hit hcode (head.code tabO ht) found ?_
    exact go cv (s1.heap.push o) s1.toks ps (Heap.ExtBut.refl _ _) (Nat.le_refl _) tabO ⟨#[], by simp⟩ ht
  | none =>
    refine wpAny_genexprCodeX hcode (head.code tabO ht) (head.tab tabO) found fun c' h' tk ext ge lt co _ tab' _ => ?_
    obtain ⟨_, _, _, _, _, _, _, _, _, _, _, _, _, _, _, _, _, _, _, okT, _⟩ := co
    exact go (.ref c') h' tk _ ext (Nat.le_trans ge (Nat.le_of_lt lt)) tab'.2 ⟨_, rfl⟩ okT
/-- all(test for x in e) -/
theorem pe_all {c P : Addr} {elt iter : Expr} {x : Str} {px p pos gpos : Pos} {scope : Scope} {pb : Nat → Bool} {te : TE} {k : Nat} (hr : Room k X.A) (hm : X.mg "all" = none) (TB : GxR.TabB X.base X.mg c P) (hcode : X.env.code = .ref c) (S : GxR.GenS X.env scope x)
    (hi : PE X iter te) (hel : EltX X scope x elt pb) (hs : ∀ v, genFold iter X.env v = pure v) (hg : Gl X "all" := by rfl)
    (he : starEach [.GeneratorExp elt [⟨.Name x px, iter, [], 0⟩] scope gpos] X.env = (false, eval (.GeneratorExp elt [⟨.Name x px, iter, [], 0⟩] scope gpos) X.env) :: starEach [] X.env := by rfl) :
    PE X (.Call (.Name "all" p) [.GeneratorExp elt [⟨.Name x px, iter, [], 0⟩] scope gpos] [] pos) (GxR.tAllS P pb te) := by
  refine ⟨fun pins s σ H Q I h => wpAny_Call_Name_kw (ld_blt I hg hm boot_all ?_)⟩
  refine PyProof.Rows.callWith_builtin1 ?_ he (by rfl)
  rw [he]
  show wpAny _ _ (spliced ((false, eval (.GeneratorExp elt [⟨.Name x px, iter, [], 0⟩] scope gpos) X.env) :: backTo pos (starEach [] X.env))) _ _ s
  refine Calls.spliced_cons (made (R := fun a H1 => ∀ H2, GxR.Tabbed P H1 H2 → Q (.bl (a.cps.toList.all pb)) H2) hr TB hcode S hi hel hs I h fun a H1 g s5 hR hG => Calls.spliced_nil ?_)
  obtain ⟨fp, wr, G, F, St, W, hst, htr, hI⟩ := hG
  refine call_all_walkS (W.self 0 _ _ _ hst ⟨g, fp, wr, G, _, F, St, _, rfl, W, hst, htr, fun s' mv => ?_⟩)
  obtain ⟨H2, hT, J⟩ := hI s' mv
  rw [GxR.all_signs a pb]
  exact ⟨.bl _, H2, J, rfl, hR H2 hT⟩
end
/-! ## what leaves may be asked in such a test -/
section
variable {prog : Program} {w : World} {B : Around} {E : Value → Shared → Prop} {s : Shared} {env : Env}
theorem keeps_trans {s s1 s2 : Shared} (a : Keeps s s1) (b : Keeps s1 s2) : Keeps s s2 := by
  obtain ⟨h1, t1, rfl, k1⟩ := a
  obtain ⟨h2, t2, rfl, k2⟩ := b
  exact ⟨h2, t2, rfl, fun b o e => k2 b o (k1 b o e)⟩
theorem keeps_heap {s s1 : Shared} (a : Keeps s s1) : ∀ b o, s.heap.get? b = some o → s1.heap.get? b = some o := by
  obtain ⟨h1, t1, rfl, k1⟩ := a
  exact k1
/-- 'lo' <= x <= 'hi' -/
theorem between {lo hi x : Str} {i j : Nat} {p1 p2 p3 pos : Pos} {c : Nat} {t : Tok} {m : Str → Option Value} (hk : env.scope.kind = .function) (hl : env.scope.names.lookup x = some .local) (hn : s.heap.Ns env.locals m) (hm : m x = some (.str ⟨#[c]⟩ t))
    (hd : (x == ("__debug__" : Str)) = false := by decide) :
    wpAny (model prog w) B (eval (.Compare (.Constant (.str lo) i p1) [.LtE, .LtE] [.Name x p2, .Constant (.str hi) j p3] pos) env) (fun y s' => y = .bool (Y.sLe lo ⟨#[c]⟩ && Y.sLe ⟨#[c]⟩ hi) ∧ Keeps s s') E s := by
  refine Compare_chain (Calls.Constant_str (chain_link ?_))
  refine wpAny_Name (wpAny_loadName_local hk hl hn hm ?_) hd
  refine PySem.P.le_str (wpAny_truthy_bool ?_)
  by_cases h : lo.cps.toList > [c]
  · have e : Y.sLe lo ⟨#[c]⟩ = false := by
      unfold Y.sLe
      rw [decide_eq_true (show ((⟨#[c]⟩ : Str).cps.toList < lo.cps.toList) from h)]
      rfl
    have e2 : (!decide ((⟨#[c]⟩ : Str).cps.toList < lo.cps.toList)) = false := e
    rw [e, e2]
    exact ⟨rfl, GxR.keeps_tok _ _⟩
  · have e : Y.sLe lo ⟨#[c]⟩ = true := by
      unfold Y.sLe
      rw [decide_eq_false (show ¬ ((⟨#[c]⟩ : Str).cps.toList < lo.cps.toList) from h)]
      rfl
    have e2 : (!decide ((⟨#[c]⟩ : Str).cps.toList < lo.cps.toList)) = true := e
    rw [e, e2]
    show wpAny _ _ _ _ _ _
    refine chain_last (Calls.Constant_str (PySem.P.le_str ?_))
    exact ⟨rfl, GxR.keeps_tok _ _⟩
end
end Yg

namespace K11
open PySem PySem.Spec PyProof.Rows L2
open Y (But DefAt)
def topS (i : Nat) : Stmt := PySem.Challenge.pw_readingsall_k11_possible.main.body.getD i (.Pass ⟨0, 0, 0, 0⟩)
abbrev s_is_letter : Stmt := topS 11
abbrev N_is_letter : List Str := ["char"]
theorem sc_is_letter : FnScope ["char"] ["char"] (defScope s_is_letter) := ⟨rfl, rfl, rfl, by decide +kernel, rfl, by decide +kernel, by decide +kernel⟩
abbrev s_is_letters : Stmt := topS 12
abbrev N_is_letters : List Str := ["text", "least", "most"]
theorem sc_is_letters : FnScope ["text", "least", "most"] ["text", "least", "most"] (defScope s_is_letters) := ⟨rfl, rfl, rfl, by decide +kernel, rfl, by decide +kernel, by decide +kernel⟩
abbrev s_check_letters : Stmt := topS 14
abbrev N_check_letters : List Str := ["text", "least", "most"]
theorem sc_check_letters : FnScope ["text", "least", "most"] ["text", "least", "most"] (defScope s_check_letters) := ⟨rfl, rfl, rfl, by decide +kernel, rfl, by decide +kernel, by decide +kernel⟩
abbrev s_Grammar____init__ : Stmt := inClass (topS 19) 0
abbrev N_Grammar____init__ : List Str := ["self"]
theorem sc_Grammar____init__ : FnScope ["self"] ["self"] (defScope s_Grammar____init__) := ⟨rfl, rfl, rfl, by decide +kernel, rfl, by decide +kernel, by decide +kernel⟩
abbrev s_Grammar__add_seam : Stmt := inClass (topS 19) 9
abbrev N_Grammar__add_seam : List Str := ["self", "left", "right", "joined", "seam", "text", "_"]
theorem sc_Grammar__add_seam : FnScope ["self", "left", "right", "joined", "seam", "text", "_"] ["self", "left", "right", "joined"] (defScope s_Grammar__add_seam) := ⟨rfl, rfl, rfl, by decide +kernel, rfl, by decide +kernel, by decide +kernel⟩
abbrev s_Grammar__seams : Stmt := inClass (topS 19) 16
abbrev N_Grammar__seams : List Str := ["self", "sides", "joined"]
theorem sc_Grammar__seams : FnScope ["self", "sides", "joined"] ["self"] (defScope s_Grammar__seams) := ⟨rfl, rfl, rfl, by decide +kernel, rfl, by decide +kernel, by decide +kernel⟩
abbrev s_reach : Stmt := topS 2
abbrev N_reach : List Str := ["grammar", "left", "_"]
theorem sc_reach : FnScope ["grammar", "left", "_"] ["grammar"] (defScope s_reach) := ⟨rfl, rfl, rfl, by decide +kernel, rfl, by decide +kernel, by decide +kernel⟩
abbrev s_is_possible : Stmt := topS 4
abbrev N_is_possible : List Str := ["most_taken", "text", "form"]
theorem sc_is_possible : FnScope ["most_taken", "text", "form"] ["most_taken", "text", "form"] (defScope s_is_possible) := ⟨rfl, rfl, rfl, by decide +kernel, rfl, by decide +kernel, by decide +kernel⟩
abbrev s_possible : Stmt := topS 3
abbrev N_possible : List Str := ["grammar", "text", "form"]
theorem sc_possible : FnScope ["grammar", "text", "form"] ["grammar", "text", "form"] (defScope s_possible) := ⟨rfl, rfl, rfl, by decide +kernel, rfl, by decide +kernel, by decide +kernel⟩
abbrev s__law_tape : Stmt := topS 21
abbrev N__law_tape : List Str := ["script", "k", "cell"]
theorem sc__law_tape : FnScope ["script", "k", "cell"] ["script", "k"] (defScope s__law_tape) := ⟨rfl, rfl, rfl, by decide +kernel, rfl, by decide +kernel, by decide +kernel⟩
abbrev s__law_take : Stmt := topS 22
abbrev N__law_take : List Str := ["tape", "many", "got", "mixed"]
theorem sc__law_take : FnScope ["tape", "many", "got", "mixed"] ["tape", "many"] (defScope s__law_take) := ⟨rfl, rfl, rfl, by decide +kernel, rfl, by decide +kernel, by decide +kernel⟩
abbrev s__law_letters : Stmt := topS 23
abbrev N__law_letters : List Str := ["tape", "letters", "least", "most", "text", "k"]
theorem sc__law_letters : FnScope ["tape", "letters", "least", "most", "text", "k"] ["tape", "letters", "least", "most"] (defScope s__law_letters) := ⟨rfl, rfl, rfl, by decide +kernel, rfl, by decide +kernel, by decide +kernel⟩
abbrev s__law_alphabet : Stmt := topS 24
abbrev N__law_alphabet : List Str := ["tape", "letters", "at"]
theorem sc__law_alphabet : FnScope ["tape", "letters", "at"] ["tape"] (defScope s__law_alphabet) := ⟨rfl, rfl, rfl, by decide +kernel, rfl, by decide +kernel, by decide +kernel⟩
abbrev s__law_due : Stmt := topS 25
abbrev N__law_due : List Str := ["longest", "text", "form", "common", "k"]
theorem sc__law_due : FnScope ["longest", "text", "form", "common", "k"] ["longest", "text", "form"] (defScope s__law_due) := ⟨rfl, rfl, rfl, by decide +kernel, rfl, by decide +kernel, by decide +kernel⟩
abbrev s__law_strings : Stmt := topS 26
abbrev N__law_strings : List Str := ["tape", "letters", "longest", "form", "found", "turn", "at", "odd", "size", "text"]
theorem sc__law_strings : FnScope ["tape", "letters", "longest", "form", "found", "turn", "at", "odd", "size", "text"] ["tape", "letters", "longest", "form"] (defScope s__law_strings) := ⟨rfl, rfl, rfl, by decide +kernel, rfl, by decide +kernel, by decide +kernel⟩
abbrev s__law_holds : Stmt := topS 27
abbrev N__law_holds : List Str := ["grammar", "tape", "letters", "seams", "form", "longest", "seam", "told", "text"]
theorem sc__law_holds : FnScope ["grammar", "tape", "letters", "seams", "form", "longest", "seam", "told", "text"] ["grammar", "tape", "letters", "seams", "form"] (defScope s__law_holds) := ⟨rfl, rfl, rfl, by decide +kernel, rfl, by decide +kernel, by decide +kernel⟩
abbrev s_law : Stmt := topS 28
abbrev N_law : List Str := ["script", "tape", "letters", "form", "grammar", "seams", "k", "drawn", "left", "seam", "one"]
theorem sc_law : FnScope ["script", "tape", "letters", "form", "grammar", "seams", "k", "drawn", "left", "seam", "one"] ["script"] (defScope s_law) := ⟨rfl, rfl, rfl, by decide +kernel, rfl, by decide +kernel, by decide +kernel⟩
/-- built-ins that the top leaves alone -/
structure Bt (mg : Str → Option Value) : Prop where
  len : mg "len" = none
  range : mg "range" = none
  int : mg "int" = none
  abs : mg "abs" = none
  isinstance : mg "isinstance" = none
  min : mg "min" = none
  max : mg "max" = none
  bool : mg "bool" = none
  list : mg "list" = none
  all : mg "all" = none
/-- the defs as the top has made them -/
structure Tx (K : PySem.W.Frag) (mg : Str → Option Value) where
  b : Bt mg
  C_Grammar : Addr
  cl_Grammar : Cls K C_Grammar
  g_Grammar : mg "Grammar" = some (.ref C_Grammar)
  n_Grammar__values : NoAttr K C_Grammar "_values"
  n_Grammar__categories : NoAttr K C_Grammar "_categories"
  n_Grammar__start : NoAttr K C_Grammar "_start"
  n_Grammar__first : NoAttr K C_Grammar "_first"
  n_Grammar__rules : NoAttr K C_Grammar "_rules"
  n_Grammar__morphs : NoAttr K C_Grammar "_morphs"
  n_Grammar__targets : NoAttr K C_Grammar "_targets"
  n_Grammar__ends : NoAttr K C_Grammar "_ends"
  n_Grammar__joins : NoAttr K C_Grammar "_joins"
  f_is_letter : Addr
  v_is_letter : FuncData
  d_is_letter : Y.DefAt K mg "is_letter" s_is_letter ["char"] f_is_letter v_is_letter
  f_is_letters : Addr
  v_is_letters : FuncData
  d_is_letters : Y.DefAt K mg "is_letters" s_is_letters ["text", "least", "most"] f_is_letters v_is_letters
  f_check_letters : Addr
  v_check_letters : FuncData
  d_check_letters : Y.DefAt K mg "check_letters" s_check_letters ["text", "least", "most"] f_check_letters v_check_letters
  f_Grammar____init__ : Addr
  v_Grammar____init__ : FuncData
  d_Grammar____init__ : Y.MethAt K C_Grammar "__init__" "Grammar.__init__" s_Grammar____init__ ["self"] f_Grammar____init__ v_Grammar____init__
  mk_Grammar : Mk K C_Grammar f_Grammar____init__
  f_Grammar__add_seam : Addr
  v_Grammar__add_seam : FuncData
  d_Grammar__add_seam : Y.MethAt K C_Grammar "add_seam" "Grammar.add_seam" s_Grammar__add_seam ["self", "left", "right", "joined"] f_Grammar__add_seam v_Grammar__add_seam
  f_Grammar__seams : Addr
  v_Grammar__seams : FuncData
  d_Grammar__seams : Y.MethAt K C_Grammar "seams" "Grammar.seams" s_Grammar__seams ["self"] f_Grammar__seams v_Grammar__seams
  f_reach : Addr
  v_reach : FuncData
  d_reach : Y.DefAt K mg "reach" s_reach ["grammar"] f_reach v_reach
  f_is_possible : Addr
  v_is_possible : FuncData
  d_is_possible : Y.DefAt K mg "is_possible" s_is_possible ["most_taken", "text", "form"] f_is_possible v_is_possible
  f_possible : Addr
  v_possible : FuncData
  d_possible : Y.DefAt K mg "possible" s_possible ["grammar", "text", "form"] f_possible v_possible
  f__law_tape : Addr
  v__law_tape : FuncData
  d__law_tape : Y.DefAt K mg "_law_tape" s__law_tape ["script", "k"] f__law_tape v__law_tape
  f__law_take : Addr
  v__law_take : FuncData
  d__law_take : Y.DefAt K mg "_law_take" s__law_take ["tape", "many"] f__law_take v__law_take
  f__law_letters : Addr
  v__law_letters : FuncData
  d__law_letters : Y.DefAt K mg "_law_letters" s__law_letters ["tape", "letters", "least", "most"] f__law_letters v__law_letters
  f__law_alphabet : Addr
  v__law_alphabet : FuncData
  d__law_alphabet : Y.DefAt K mg "_law_alphabet" s__law_alphabet ["tape"] f__law_alphabet v__law_alphabet
  f__law_due : Addr
  v__law_due : FuncData
  d__law_due : Y.DefAt K mg "_law_due" s__law_due ["longest", "text", "form"] f__law_due v__law_due
  f__law_strings : Addr
  v__law_strings : FuncData
  d__law_strings : Y.DefAt K mg "_law_strings" s__law_strings ["tape", "letters", "longest", "form"] f__law_strings v__law_strings
  f__law_holds : Addr
  v__law_holds : FuncData
  d__law_holds : Y.DefAt K mg "_law_holds" s__law_holds ["grammar", "tape", "letters", "seams", "form"] f__law_holds v__law_holds
  f_law : Addr
  v_law : FuncData
  d_law : Y.DefAt K mg "law" s_law ["script"] f_law v_law
  c_is_letters : Addr
  p_is_letters : Addr
  k_is_letters : v_is_letters.code = .ref c_is_letters
  t_LS : Tok
  LONGEST_SIDE : mg "LONGEST_SIDE" = some (.int 4 t_LS)
  t_LJ : Tok
  LONGEST_JOINED : mg "LONGEST_JOINED" = some (.int 8 t_LJ)
end K11

/-! ## the words that read -/
local macro_rules | `(tactic| walk_at "rd") => `(tactic| first
  | (with_reducible refine Y.seq ?_)
  | ((with_reducible refine' Y.var ?y1 ?_); (case y1 => exact rfl))
  | (with_reducible refine Y.cst ?_)
  | (with_reducible refine Y.op ?_)
  | (with_reducible refine Y.un ?_)
  | (with_reducible refine Y.i0 ?_)
  | (with_reducible refine Y.u1 ?_)
  | (with_reducible refine Y.s2 ?_)
  | (with_reducible refine Y.b2 ?_)
  | (with_reducible refine Y.eqB ?_)
  | (with_reducible refine Y.neB ?_)
  | (with_reducible refine Y.isN ?_)
  | (with_reducible refine Y.notN ?_)
  | (with_reducible refine Y.sgn ?_)
  | (with_reducible refine Y.sgnN ?_)
  | (with_reducible refine Y.cb ?_)
  | (with_reducible refine Y.acons ?_)
  | (with_reducible refine Y.anil ?_)
  | (with_reducible refine Y.int1 ?_)
  | (with_reducible refine Y.abs1 ?_)
  | (with_reducible refine Y.max2 ?_)
  | (with_reducible refine Y.min2 ?_)
  | (with_reducible refine Y.lst ?_)
  | (with_reducible refine Y.tup ?_)
  | (with_reducible refine Y.call ?_)
  | (with_reducible refine Y.andV ?_)
  | (with_reducible refine Y.orV ?_)
  | (with_reducible refine Y.notV ?_)
  | (with_reducible refine Y.chain ?_)
  | (with_reducible refine Y.bl ?_)
  | (with_reducible refine Y.ifE ?_)
  | (with_reducible refine Y.test ?_)
  | (with_reducible refine Y.testB ?_)
  | (with_reducible refine Y.tand ?_)
  | (with_reducible refine Y.tor ?_)
  | (with_reducible refine Y.tnot ?_)
  | (with_reducible refine Y.next ?_)
  | (with_reducible refine Y.asg ?_)
  | (with_reducible refine Y.asgSub ?_)
  | (with_reducible refine Y.ret ?_)
  | (with_reducible refine Y.drop ?_)
  | (with_reducible refine Y.ifS ?_)
  | (with_reducible refine Y.sl ?_)
  | (with_reducible refine Y.part ?_)
  | (with_reducible refine Y.noPart ?_)
  | (with_reducible refine Y.partI ?_)
  | (with_reducible refine Y.allS ?_)
  | (with_reducible refine Y.gname ?_)
  | (with_reducible refine Y.jcons ?_)
  | (with_reducible refine Y.jnil ?_)
  | (with_reducible refine Y.fmtR ?_)
  | (with_reducible refine Y.lc ?_)
  | (with_reducible refine Y.m1 ?_)
  | (with_reducible refine Y.strOk ?_)
  | (with_reducible refine Y.bm ?_)
  | (with_reducible refine Y.bm0 ?_)
  | (with_reducible refine Y.forS ?_)
  | (with_reducible refine Y.rng1 ?_)
  | (with_reducible refine Y.itS ?_)
  | (with_reducible refine Y.itSs ?_)
  | (with_reducible refine Y.itL ?_)
  | (with_reducible refine Y.itT ?_)
  | (with_reducible refine Y.star ?_)
  | (with_reducible refine Y.gcons ?_)
  | (with_reducible refine Y.gnil ?_)
  | (with_reducible refine Y.dget ?_)
  | (with_reducible refine Y.din ?_)
  | (with_reducible refine Y.dnotin ?_)
  | (with_reducible refine Y.dput ?_)
  | (with_reducible refine Y.dsetd ?_)
  | (with_reducible refine Y.swith ?_)
  | (with_reducible refine Y.ewith ?_)
  | (with_reducible refine Y.meth ?_)
  | (with_reducible refine Y.fldR ?_)
  | (with_reducible refine Y.setFR ?_)
  | (with_reducible refine Y.ckw ?_)
  | (with_reducible refine Y.tyS ?_)
  | (with_reducible refine Y.zipA ?_)
  | (with_reducible refine Y.asgG ?_)
  | (with_reducible refine L2.iteF ?_)
  | (with_reducible refine L2.iteT ?_)
  | ((with_reducible refine' Y.iC ?y1 ?_); (case y1 => first | assumption | exact .inr (by decide) | exact .inl (by decide) | exact ⟨by decide, by decide⟩ | exact ⟨by assumption, by assumption⟩ | decide))
  | ((with_reducible refine' Y.ixL ?y1 ?y2 ?_); (case y1 => exact .inl (.inl (by assumption))); (case y2 => exact rfl)))
local macro_rules | `(tactic| walk_at "rds") => `(tactic| repeat (first | (walk_at "rd") | (with_reducible refine Y.forS ?_)))
/-- an item of a list that stands at an address, its place known -/
local macro_rules | `(tactic| walk_at "ix") => `(tactic| ((with_reducible refine' Y.ixL ?y1 ?y2 ?_); (case y1 => exact .inl (.inl (by assumption))); (case y2 => exact rfl)))


namespace K11
open PySem PySem.Spec PyProof.Rows L2
open Y (But DefAt Stay Low Sm Sms SmOk)
/-! ## drawing -/
theorem sl_big {n : Nat} (h : n ≤ 1000000) : n ≤ sizeLine := Nat.le_trans h (by decide)
def Tape (H : Hp) (t : Addr) : Prop := ∃ c b i j, H t = some (.lst [.int c, .bl b, .int i, .int j])
theorem Tape.but {H H' : Hp} {t : Addr} {T : List Addr} (h : Tape H t) (b : But T H H') (n : t ∉ T) : Tape H' t := by
  obtain ⟨c, k, i, j, e⟩ := h
  exact ⟨c, k, i, j, b.keep _ _ e n rfl⟩
theorem Tape.ne {H : Hp} {t p : Addr} (h : Tape H t) (n : H p = none) : p ≠ t := by
  obtain ⟨c, k, i, j, e⟩ := h
  exact (ne_of_none e n).symm
theorem not1 {p t : Addr} (h : p ≠ t) : p ∉ [t] := fun z => h (List.mem_singleton.mp z)
/-! ## letters -/
def isL (c : Nat) : Bool := Y.sLe (PySem.Str.ofString "a") ⟨#[c]⟩ && Y.sLe ⟨#[c]⟩ (PySem.Str.ofString "z")
section
variable {prog : Program} {w : World} {K : PySem.W.Frag} {mg : Str → Option Value} {f : Addr} {fd : FuncData} {B : Around} {s : Shared} {c : Nat} {t : Tok}
/-- is_letter(c), wherever it is called -/
theorem letter_call (F : Fun K "is_letter" "is_letter" s_is_letter f fd) (X : K.In s.heap) (hlim : s.heap.NoLimit) (hroom : B.depth < recursionLimit) :
    codeAny (model prog w) B (.call (.ref f) ⟨[.str ⟨#[c]⟩ t], []⟩) (fun r s' => r = .ok (.ret (.bool (isL c))) ∧ Keeps s s') s := by
  obtain ⟨oc, od, kV, doc, pm, an, cdv, ct, osl, rfl, lk, hcd⟩ := F.ex
  refine Att.call_fn (binds := [("char", .str ⟨#[c]⟩ t)]) X hlim lk hcd hroom (BindsTo.of_eq (by rfl)) (by rfl) (fun s₁ IC => ?_) rfl rfl rfl
  obtain ⟨h₁, tk₁, rfl⟩ := IC.toInCall.same
  have k := IC.toInCall.keep
  have hn := IC.toInCall.ns
  refine wpAny_execs_cons (wpAny_Return_some ?_)
  refine wpAny_mono (Yg.between (x := "char") (c := c) (t := t) (by rfl) (by rfl) hn (by rfl)) (fun y s' r => ?_) (fun e s' z => z)
  obtain ⟨rfl, kp⟩ := r
  refine ⟨rfl, Yg.keeps_trans ⟨h₁, tk₁, rfl, k⟩ kp⟩
end
section
variable {X : Cx} {f : Addr} {fd : FuncData}
/-- is_letter(char) as a test in a generator -/
theorem elt_letter {scope : Scope} {p p2 pos : Pos} (F : Fun X.K "is_letter" "is_letter" s_is_letter f fd) (hg : X.mg "is_letter" = some (.ref f)) (hroom : X.A.depth + 1 < recursionLimit) (hk : scope.kind = .function)
    (h1 : scope.names.lookup ("char" : Str) = some NameKind.local) (h2 : scope.names.lookup ("is_letter" : Str) = some NameKind.globalImplicit) : Yg.EltX X scope "char" (.Call (.Name "is_letter" p) [.Name "char" p2] [] pos) isL := by
  intro env B E c t s m hh hd hu hs hgl M hb hn hm
  subst hs
  refine wpAny_Call_Name_kw (Calls.Name_function_global hk h2 (Calls.loadGlobal_global (by rw [hgl]; exact M.glob.keeps hb) hg ?_) (by decide))
  refine PySem.W.callWith_K (h₀ := X.base) M.kin F.kp (Calls.spliced_cons ?_) (by rfl) (by rfl)
  refine wpAny_Name (wpAny_loadName_local hk h1 hn hm ?_) (by decide)
  refine Calls.spliced_nil ⟨M.kin.keeps hb, ?_⟩
  refine wpAny_call (codeAny_mono (letter_call F (M.kin.keeps hb) (M.nolimit.keeps hb) (Nat.lt_of_le_of_lt hd hroom)) fun r s' hr => ?_)
  obtain ⟨rfl, kp⟩ := hr
  exact ⟨rfl, kp⟩
end
theorem isL_low {c : Nat} (h : 97 ≤ c ∧ c ≤ 122) : isL c = true := by
  have ea : (PySem.Str.ofString "a").cps.toList = [97] := by decide +kernel
  have ez : (PySem.Str.ofString "z").cps.toList = [122] := by decide +kernel
  unfold isL Y.sLe
  rw [ea, ez, Bool.and_eq_true]
  refine ⟨?_, ?_⟩
  · rw [Bool.not_eq_true', decide_eq_false_iff_not]
    show ¬ ([c] < [97])
    rw [List.cons_lt_cons_iff]
    rintro (h1 | ⟨h1, h2⟩)
    · omega
    · exact absurd h2 (by simp)
  · rw [Bool.not_eq_true', decide_eq_false_iff_not]
    show ¬ ([122] < [c])
    rw [List.cons_lt_cons_iff]
    rintro (h1 | ⟨h1, h2⟩)
    · omega
    · exact absurd h2 (by simp)
def isLets (z : Str) (lo hi : Int) : Bool := decide (lo ≤ (z.length : Int) ∧ (z.length : Int) ≤ hi) && z.cps.toList.all isL
theorem isLets_low {z : Str} {lo hi : Int} (h : Low z) (h1 : lo ≤ (z.length : Int)) (h2 : (z.length : Int) ≤ hi) : isLets z lo hi = true := by
  unfold isLets
  rw [decide_eq_true ⟨h1, h2⟩, Bool.true_and, List.all_eq_true]
  exact fun c m => isL_low (h c m)
structure Tb {K : PySem.W.Frag} {mg : Str → Option Value} (T : Tx K mg) (base : Heap) : Prop where
  l : GxR.TabB base mg T.c_is_letters T.p_is_letters
def sp_is_letter : Sp := fun vs H Q _ => ∃ c, vs = [.str ⟨#[c]⟩] ∧ Q (.bl (isL c)) H
def sp_is_letters (P : Addr) : Sp := fun vs H Q _ => ∃ z lo hi, vs = [.str z, .int lo, .int hi] ∧ z.length ≤ 1000000 ∧ GxR.TabG H P ∧ ∀ H', (∀ T, But T H H') → Q (.bl (isLets z lo hi)) H'
def sp_check_letters (P : Addr) : Sp := fun vs H Q _ => ∃ z lo hi, vs = [.str z, .int lo, .int hi] ∧ z.length ≤ 1000000 ∧ isLets z lo hi = true ∧ GxR.TabG H P ∧ ∀ H', (∀ T, But T H H') → Q .non H'
section
variable {P : Program} {w : World} {K : PySem.W.Frag} {mg : Str → Option Value} {base : Heap}
theorem ok_is_letter (T : Tx K mg) : FnOk P w K mg base CX0 1 T.f_is_letter T.v_is_letter ["char"] sp_is_letter := by
  refine T.d_is_letter.F.ok sc_is_letter (fun vs H Q E h => ?_) (fun cdv A outer s H vs Q E hr h => ?_)
  · obtain ⟨c, rfl, _⟩ := h
    rfl
  · obtain ⟨c, rfl, q⟩ := h
    refine ⟨_, (pss_one (ps_ret (pe_chain Y.op_leS Y.op_leS pe_str (pv 0) pe_str))), ?_⟩
    refine Y.st (σ := [some (.str ⟨#[c]⟩)]) rfl ?_
    walk_at "rds"
    refine Y.iteB (fun e => ?_) (fun e => ?_)
    · walk_at "rds"
      show Q (.bl (Y.sLe ⟨#[c]⟩ (PySem.Str.ofString "z"))) H
      have e2 : isL c = Y.sLe ⟨#[c]⟩ (PySem.Str.ofString "z") := by unfold isL; rw [e]; rfl
      rw [← e2]
      exact q
    · show Q (.bl false) H
      have e2 : isL c = false := by unfold isL; rw [e]; rfl
      rw [← e2]
      exact q
theorem ok_is_letters (T : Tx K mg) (B : Tb T base) : FnOk P w K mg base CX0 2 T.f_is_letters T.v_is_letters ["text", "least", "most"] (sp_is_letters T.p_is_letters) := by
  obtain ⟨oc, od, kV, doc, pm, an, cdv, ct, osl, efd, lk, hcd⟩ := T.d_is_letters.F.ex
  have hc : cdv = .ref T.c_is_letters := by
    have h := T.k_is_letters
    rw [efd] at h
    exact h
  have main : FnOk P w K mg base CX0 2 T.f_is_letters (PySem.W.fnOf "is_letters" "is_letters" (defArgs s_is_letters) (defBody s_is_letters) (defScope s_is_letters) .none kV doc pm an cdv ct) ["text", "least", "most"] (sp_is_letters T.p_is_letters) := by
    rw [efd] at lk
    refine fn_of lk hcd sc_is_letters (fun vs H Q E h => ?_) (fun A outer s H vs Q E hr h => ?_)
    · obtain ⟨z, lo, hi, rfl, _⟩ := h
      rfl
    · obtain ⟨z, lo, hi, rfl, hz, hT, q⟩ := h
      refine ⟨_, PSs.nox (pss_one (ps_ret (pe_and (pe_chain Y.op_leI Y.op_leI (pv 1) (pe_callB Y.call_lenS (by rfl) T.b.len (by decide +kernel) (pa_cons (pv 0) pa_nil)) (pv 2)) (pe_one (Yg.pe_all (c := T.c_is_letters) (P := T.p_is_letters) (pb := isL) hr T.b.all B.l hc
        ⟨rfl, rfl, by decide +kernel, by rfl, by rfl, fun y hy e => absurd e ((by decide +kernel : ∀ y ∈ _, y.2 ≠ .free) y hy)⟩ (pv 0)
        (elt_letter T.d_is_letter.F T.d_is_letter.g (Y.room1 hr) rfl (by rfl) (by rfl)) (fun _ => rfl)))))), ?_⟩
      refine Y.st (σ := [some (.str z), some (.int lo), some (.int hi)]) rfl ?_
      have e0 : isLets z lo hi = (decide (lo ≤ (z.length : Int) ∧ (z.length : Int) ≤ hi) && z.cps.toList.all isL) := rfl
      walk_at "rds"
      refine Y.lenS (sl_big hz) ?_
      walk_at "rds"
      refine Y.iteD (fun h1 => ?_) (fun h1 => ?_)
      · walk_at "rds"
        refine Y.iteD (fun h2 => ?_) (fun h2 => ?_)
        · walk_at "rds"
          refine ⟨z, rfl, hT, fun H2 h3 => ?_⟩
          rw [decide_eq_true ⟨h1, h2⟩, Bool.true_and] at e0
          rw [← e0]
          exact q H2 fun _ => But.tabbed hT h3
        · rw [decide_eq_false (fun g => h2 g.2), Bool.false_and] at e0
          rw [← e0]
          exact q H fun _ => But.refl H
      · walk_at "rds"
        rw [decide_eq_false (fun g => h1 g.1), Bool.false_and] at e0
        rw [← e0]
        exact q H fun _ => But.refl H
  rw [efd]
  exact main
theorem ok_check_letters (T : Tx K mg) (B : Tb T base) : FnOk P w K mg base CX0 3 T.f_check_letters T.v_check_letters ["text", "least", "most"] (sp_check_letters T.p_is_letters) := by
  refine T.d_check_letters.F.ok sc_check_letters (fun vs H Q E h => ?_) (fun cdv A outer s H vs Q E hr h => ?_)
  · obtain ⟨z, lo, hi, rfl, _⟩ := h
    rfl
  · obtain ⟨z, lo, hi, rfl, hz, hok, hT, q⟩ := h
    refine ⟨_, (pss_one (ps_if (pt_not (pt_val (Y.pcall T.d_is_letters (ok_is_letters T B) (hr.mono (by decide)) (pa_cons (pv 0) (pa_cons (pv 1) (pa_cons (pv 2) pa_nil))))))
      (pss_one ps_never)
      pss_nil)), ?_⟩
    refine Y.st (σ := [some (.str z), some (.int lo), some (.int hi)]) rfl ?_
    walk_at "rds"
    refine ⟨z, lo, hi, rfl, hz, hT, fun H2 b => ?_⟩
    rw [hok]
    walk_at "rds"
    exact L2.iteF (q H2 b)
end
def sp__law_tape (K : PySem.W.Frag) : Sp := fun vs H Q _ => ∃ (a : Addr) (ns : List Int) (k : Nat), vs = [.ref a, .int (k : Int)] ∧ SqL K H a (ns.map V.int) ∧ ∀ t H', H t = none → Tape H' t → (∀ T, But T H H') → Q (.ref t) H'
def sp__law_take : Sp := fun vs H Q _ => ∃ t n, vs = [.ref t, .int n] ∧ Tape H t ∧ 0 < n ∧ n < 1073741824 ∧ ∀ (i : Int) H', 0 ≤ i → i < n → Tape H' t → But [t] H H' → Q (.int i) H'
theorem Tape.noTup {H : Hp} {t : Addr} (h : Tape H t) : ∀ x ∈ [t], ∀ xs, H x ≠ some (.tup xs) := fun x m xs e => by
  rw [List.mem_singleton.mp m] at e
  obtain ⟨c, b, i, j, e2⟩ := h
  rw [e2] at e
  cases e
def sp__law_letters : Sp := fun vs H Q _ => ∃ t z lo hi, vs = [.ref t, .str z, .int lo, .int hi] ∧ Tape H t ∧ Low z ∧ z.cps.toList ≠ [] ∧ z.length ≤ 1000 ∧ 0 ≤ lo ∧ lo ≤ hi ∧ hi ≤ 1000 ∧
  ∀ out H', Low out → lo ≤ (out.length : Int) → (out.length : Int) ≤ hi → Tape H' t → But [t] H H' → Q (.str out) H'
def sp__law_alphabet : Sp := fun vs H Q _ => ∃ t, vs = [.ref t] ∧ Tape H t ∧ ∀ z H', Low z → 1 ≤ z.length → z.length ≤ 26 → Tape H' t → But [t] H H' → Q (.str z) H'
theorem at_in {α : Type} {xs : List α} {i : Int} (h0 : 0 ≤ i) (h1 : i < (xs.length : Int)) : ∃ v, atI xs i = some v ∧ v ∈ xs := by
  have h : ∀ j : Nat, i = (j : Int) → j < xs.length → ∃ v, atI xs i = some v ∧ v ∈ xs := fun j e hj => by
    subst e
    exact ⟨xs[j], atI_nat (List.getElem?_eq_getElem hj), List.getElem_mem hj⟩
  exact h i.toNat (by omega) (by omega)
theorem nil_cps : (PySem.Str.ofString "").cps.toList = [] := by decide +kernel
theorem len_list (z : Str) : z.length = z.cps.toList.length := (Array.length_toList).symm
theorem str_app (a b : Str) : (a ++ b).cps.toList = a.cps.toList ++ b.cps.toList := Array.toList_append
theorem str_len (a b : Str) : (a ++ b).length = a.length + b.length := Array.size_append

theorem at_lastS {z : Str} (h : z.cps.toList ≠ []) : ∃ c, atI z.cps.toList (-1) = some c ∧ c ∈ z.cps.toList := by
  have e := List.dropLast_concat_getLast h
  refine ⟨z.cps.toList.getLast h, ?_, List.getLast_mem h⟩
  have e2 := atI_last z.cps.toList.dropLast (z.cps.toList.getLast h)
  rw [e] at e2
  exact e2
/-- one of a written list of whole numbers, drawn -/
theorem drawL {K : PySem.W.Frag} {H : Hp} {t : Addr} {Q : VK} {n : Int} {k : Nat} {σ : L2.St} (l : List Int) (hσ : σ[k]? = some (some (.ref t))) (ht : Tape H t) (hn : n = (l.length : Int)) (hne : 0 < l.length) (hl : l.length < 1000) (q : ∀ n H', n ∈ l → Tape H' t → But [t] H H' → Q (.int n) H') :
    (l.map V.int).length ≤ sizeLine ∧ ∀ p, H p = none → tCall sp__law_take [] E0 (tCons (tVar k) (tCons (tC (.int n)) tNil)) σ (upd H p (.lst (l.map V.int))) (fun i H' => rIxL K (.ref p) i H' Q) := by
  refine ⟨sl_big (by rw [List.length_map]; omega), fun p hp => ?_⟩
  obtain ⟨H2, eq2, e2, b2⟩ := Y.gen (o := .lst (l.map V.int)) hp
  rw [eq2]
  have ht2 := ht.but (b2 []) (by simp)
  refine Y.call (Y.acons (Y.var hσ (Y.acons (Y.cst (Y.anil ⟨t, n, rfl, ht2, by omega, by omega, fun i H3 i0 i1 ht3 b3 => ?_⟩)))))
  obtain ⟨v, ev, hv⟩ := at_in (xs := l.map V.int) i0 (by rw [List.length_map]; omega)
  obtain ⟨m, hm, rfl⟩ := List.mem_map.mp hv
  have e3 : H3 p = some (.lst (l.map V.int)) := b3.lst e2 (not1 (ht.ne hp))
  exact Y.ixL (.inl (.inl e3)) ev (q m H3 hm ht3 ((b2 [t]).trans b3))
/-- the letters from any letter on, and the first ones of them -/
def abcS : Str := PySem.Str.ofString "abcdefghijklmnopqrstuvwxyz"
theorem abc_cut : ∀ at_ : Fin 26, ∀ n ∈ ([1, 2, 2, 3, 26] : List Int), let s := cutS (cutS abcS (some (at_.val : Int)) none ++ cutS abcS none (some (at_.val : Int))) none (some n); 1 ≤ s.length ∧ s.length ≤ 26 ∧ ∀ c ∈ s.cps.toList, 97 ≤ c ∧ c ≤ 122 := by
  decide +kernel
theorem abc_len : abcS.length = 26 := by decide +kernel
section
variable {P : Program} {w : World} {K : PySem.W.Frag} {mg : Str → Option Value} {base : Heap}
theorem ok__law_tape (T : Tx K mg) : FnOk P w K mg base CX0 1 T.f__law_tape T.v__law_tape ["script", "k"] (sp__law_tape K) := by
  refine T.d__law_tape.F.ok sc__law_tape (fun vs H Q E h => ?_) (fun cdv A outer s H vs Q E hr h => ?_)
  · obtain ⟨a, ns, k, rfl, _⟩ := h
    rfl
  · obtain ⟨a, ns, k, rfl, hS, q⟩ := h
    refine ⟨_, (pss_cons (ps_set (i := 2) sc__law_tape.nd rfl (Or.inl rfl) pe_int)
    (Evl.pss_cut (ps_if (pt_cmpR Y.op_ltI (pv 1) (pe_callB Y.call_lenQ (by rfl) T.b.len (by decide +kernel) (pa_cons (pv 0) pa_nil)) (nomark _))
      (pss_one (ps_set (i := 2) sc__law_tape.nd rfl (Or.inl rfl) (pe_callB Y.call_absI (by rfl) T.b.abs (by decide +kernel) (pa_cons (pe_ix ix_list (pv 0) (pv 1) (fun _ _ => rfl)) pa_nil))))
      pss_nil)
    (pss_one (ps_ret (pe_lst (pa_cons (pv 2) (pa_cons (pe_cmpR Y.op_geI (pv 2) (pe_op op_pow pe_int pe_int) (nomark _)) (pa_cons pe_int (pa_cons (pe_op op_mod (pe_callTy Y.call_intI (by rfl) T.b.int (by decide +kernel) (pa_cons (pe_op op_add (pe_op op_mul (pv 2) pe_int) (pv 1)) pa_nil)) pe_int) pa_nil))))))))), ?_⟩
    refine Y.st (σ := [some (.ref a), some (.int (k : Int)), none]) rfl ?_
    walk_at "rds"
    have fin : ∀ c : Int, (tRet (tLst (tCons (tVar 2) (tCons (tOp (Y.rB fun i j => decide (j ≤ i)) (tVar 2) (tOp (rI CPow fun i j => .int (i ^ j.toNat)) (tC (.int 10)) (tC (.int 18)))) (tCons (tC (.int 0)) (tCons (tOp (rI (fun _ j => 0 < j) fun i j => .int (i % j)) (tCB Y.rInt1 (tCons (tOp (rI0 fun i j => .int (i + j)) (tOp (rI CMul fun i j => .int (i * j)) (tVar 2) (tC (.int 64))) (tVar 1)) tNil)) (tC (.int 2147483647))) tNil)))))
        { nx := fun _ H' => Q .non H', rt := Q }) [some (.ref a), some (.int (k : Int)), some (.int c)] H := fun c => by
      walk_at "rds"
      refine Y.mkL (by show 4 ≤ sizeLine; decide) fun t H1 n e b => ?_
      exact q t H1 n ⟨_, _, _, _, e⟩ b
    refine Y.cut (fun σ' H' => ∃ c : Int, σ' = [some (.ref a), some (.int (k : Int)), some (.int c)] ∧ H' = H) ?_ fun σ' H' ⟨c, e1, e2⟩ => ?_
    · walk_at "rds"
      refine Y.lenL hS ?_
      walk_at "rds"
      refine Y.iteD (fun hk => ?_) (fun hk => ?_)
      · walk_at "rds"
        rw [List.length_map] at hk
        have hk2 : k < ns.length := by omega
        refine Y.ixL hS (v := .int ns[k]) (atI_nat (by rw [List.getElem?_map, List.getElem?_eq_getElem hk2] <;> rfl)) ?_
        walk_at "rds"
        exact ⟨_, rfl, rfl⟩
      · walk_at "rds"
        exact ⟨_, rfl, rfl⟩
    · rw [e1, e2]
      exact fin c
theorem ok__law_take (T : Tx K mg) : FnOk P w K mg base CX0 1 T.f__law_take T.v__law_take ["tape", "many"] sp__law_take := by
  refine T.d__law_take.F.ok sc__law_take (fun vs H Q E h => ?_) (fun cdv A outer s H vs Q E hr h => ?_)
  · obtain ⟨t, n, rfl, _⟩ := h
    rfl
  · obtain ⟨t, n, rfl, ⟨c, b, i, j, ht⟩, h1, h2, q⟩ := h
    refine ⟨_, (Evl.pss_cut (ps_if (PW.pt (pw_and (pt_val (pe_ix ix_list (pv 0) pe_int (fun _ _ => rfl))) (pw_and1 (pt_cmpR Y.op_gtI (pe_ix ix_list (pv 0) pe_int (fun _ _ => rfl)) pe_int (nomark _)))))
      (pss_cons (ps_set (i := 2) sc__law_take.nd rfl (Or.inl rfl) (pe_op op_mod (pe_callTy Y.call_intI (by rfl) T.b.int (by decide +kernel) (pa_cons (pe_ix ix_list (pv 0) pe_int (fun _ _ => rfl)) pa_nil)) (pv 1)))
      (pss_cons (ps_asg (pe_op op_fdiv (pe_ix ix_list (pv 0) pe_int (fun _ _ => rfl)) (pv 1)) (pg_sub (pv 0) pe_int set_list))
      (pss_one (ps_ret (pv 2)))))
      pss_nil)
    (pss_cons (ps_asg (pe_op op_add (pe_ix ix_list (pv 0) pe_int (fun _ _ => rfl)) pe_int) (pg_sub (pv 0) pe_int set_list))
    (pss_cons (ps_set (i := 3) sc__law_take.nd rfl (Or.inl rfl) (pe_op op_mod (pe_callTy Y.call_intI (by rfl) T.b.int (by decide +kernel) (pa_cons (pe_op op_add (pe_op op_add (pe_op op_mul (pe_ix ix_list (pv 0) pe_int (fun _ _ => rfl)) pe_int) (pe_op op_mul (pe_ix ix_list (pv 0) pe_int (fun _ _ => rfl)) pe_int)) pe_int) pa_nil)) pe_int))
    (pss_cons (ps_set (i := 3) sc__law_take.nd rfl (Or.inl rfl) (pe_op op_mod (pe_callTy Y.call_intI (by rfl) T.b.int (by decide +kernel) (pa_cons (pe_op op_add (pe_op op_add (pe_op op_mul (pv 3) pe_int) (pe_op op_mul (pe_op op_fdiv (pv 3) pe_int) pe_int)) (pe_ix ix_list (pv 0) pe_int (fun _ _ => rfl))) pa_nil)) pe_int))
    (pss_one (ps_ret (pe_op op_mod (pe_callTy Y.call_intI (by rfl) T.b.int (by decide +kernel) (pa_cons (pe_op op_fdiv (pv 3) pe_int) pa_nil)) (pv 1)))))))), ?_⟩
    refine Y.st (σ := [some (.ref t), some (.int n), none, none]) rfl ?_
    refine Y.cutR ?_ ?_
    · walk_at "rds"
      refine Y.iteB (fun hb => ?_) (fun hb => ?_)
      · walk_at "rds"
        refine Y.iteD (fun hc => ?_) (fun hc => ⟨rfl, rfl⟩)
        walk_at "rds"
        refine Y.setG ht rfl rfl fun H1 ht1 b1 => ?_
        walk_at "rds"
        exact q _ _ (Int.emod_nonneg _ (by omega)) (Int.emod_lt_of_pos _ h1) ⟨_, _, _, _, ht1⟩ (b1 _ (List.mem_singleton.mpr rfl))
      · walk_at "rds"
        exact ⟨rfl, rfl⟩
    · walk_at "rds"
      refine Y.setG ht rfl rfl fun H1 ht1 b1 => ?_
      walk_at "rds"
      exact q _ _ (Int.emod_nonneg _ (by omega)) (Int.emod_lt_of_pos _ h1) ⟨_, _, _, _, ht1⟩ (b1 _ (List.mem_singleton.mpr rfl))
theorem ok__law_letters (T : Tx K mg) : FnOk P w K mg base CX0 3 T.f__law_letters T.v__law_letters ["tape", "letters", "least", "most"] sp__law_letters := by
  refine T.d__law_letters.F.ok sc__law_letters (fun vs H Q E h => ?_) (fun cdv A outer s H vs Q E hr h => ?_)
  · obtain ⟨t, z, lo, hi, rfl, _⟩ := h
    rfl
  · obtain ⟨t, z, lo, hi, rfl, ht, hlow, hne, hz, h0, h1, h2, q⟩ := h
    refine ⟨_, (pss_cons (ps_set (i := 4) sc__law_letters.nd rfl (Or.inl rfl) pe_str)
    (pss_cons (ps_for PassesOwn.never rfl (pi_range1 (by rfl) T.b.range (pa_cons (pe_op op_add (pv 2) (Y.pcall T.d__law_take (ok__law_take T) (hr.mono (by decide)) (pa_cons (pv 0) (pa_cons (pe_op op_add (pe_op op_sub (pv 3) (pv 2)) pe_int) pa_nil)))) pa_nil)) (pg_name (i := 5) sc__law_letters.nd rfl (Or.inl rfl))
      (pss_one (ps_set (i := 4) sc__law_letters.nd rfl (Or.inl rfl) (pe_op Y.op_addS (pv 4) (pe_ix ix_str (pv 1) (Y.pcall T.d__law_take (ok__law_take T) (hr.mono (by decide)) (pa_cons (pv 0) (pa_cons (pe_callB Y.call_lenS (by rfl) T.b.len (by decide +kernel) (pa_cons (pv 1) pa_nil)) pa_nil))) (fun _ _ => rfl))))))
    (pss_one (ps_ret (pv 4))))), ?_⟩
    refine Y.st (σ := [some (.ref t), some (.str z), some (.int lo), some (.int hi), none, none]) rfl ?_
    walk_at "rds"
    refine ⟨t, _, rfl, ht, by omega, by omega, fun i H1 i0 i1 ht1 b1 => ?_⟩
    walk_at "rds"
    refine Y.rngI (by omega) (by omega) ?_
    have hlen : ((lo + i).toNat : Int) = lo + i := Int.toNat_of_nonneg (by omega)
    refine Y.loopR (fun i σ' H' => ∃ (out : Str) (y : Option V), σ' = [some (.ref t), some (.str z), some (.int lo), some (.int hi), some (.str out), y] ∧ Tape H' t ∧ But [t] H H' ∧ out.length = i ∧ Low out)
      ⟨_, none, rfl, ht1, b1, rfl, Low.nil⟩ (fun i σ' H' hi ⟨out, y, e, ht1, b1, ho, hc⟩ => ?_) (fun σ' H' ⟨out, y, e, ht1, b1, ho, hc⟩ => ?_)
    · subst e
      walk_at "rds"
      refine Y.lenS (sl_big (by omega)) ?_
      walk_at "rds"
      have h3 : 0 < z.cps.toList.length := List.length_pos_iff.mpr hne
      have h4 := len_list z
      refine ⟨t, _, rfl, ht1, by omega, by omega, fun i H2 i0 i1 ht2 b2 => ?_⟩
      obtain ⟨c, e, hcz⟩ := at_in (xs := z.cps.toList) i0 (by omega)
      refine Y.ixS (sl_big (by omega)) e ?_
      have l1 : (⟨#[c]⟩ : Str).length = 1 := rfl
      refine Y.addS (sl_big (by rw [l1]; omega)) ?_
      walk_at "rds"
      exact ⟨_, _, rfl, ht2, b1.trans b2, by rw [str_len, l1, ho], hc.app (hlow.one hcz)⟩
    · subst e
      walk_at "rds"
      exact q out H' hc (by omega) (by omega) ht1 b1
theorem ok__law_alphabet (T : Tx K mg) : FnOk P w K mg base CX0 3 T.f__law_alphabet T.v__law_alphabet ["tape"] sp__law_alphabet := by
  refine T.d__law_alphabet.F.ok sc__law_alphabet (fun vs H Q E h => ?_) (fun cdv A outer s H vs Q E hr h => ?_)
  · obtain ⟨t, rfl, _⟩ := h
    rfl
  · obtain ⟨t, rfl, ht, q⟩ := h
    refine ⟨_, (pss_cons (ps_set (i := 1) sc__law_alphabet.nd rfl (Or.inl rfl) pe_str)
    (pss_cons (ps_set (i := 2) sc__law_alphabet.nd rfl (Or.inl rfl) (Y.pcall T.d__law_take (ok__law_take T) (hr.mono (by decide)) (pa_cons (pv 0) (pa_cons pe_int pa_nil))))
    (pss_one (ps_ret (pe_slice sl_str (pe_op Y.op_addS (pe_slice sl_str (pv 1) (po_some (pv 2)) po_none) (pe_slice sl_str (pv 1) po_none (po_some (pv 2)))) po_none (po_some (pe_ix ix_list (pe_lst (pa_cons pe_int (pa_cons pe_int (pa_cons pe_int (pa_cons pe_int (pa_cons pe_int pa_nil)))))) (Y.pcall T.d__law_take (ok__law_take T) (hr.mono (by decide)) (pa_cons (pv 0) (pa_cons pe_int pa_nil))) (fun _ _ => rfl)))))))), ?_⟩
    refine Y.st (σ := [some (.ref t), none, none]) rfl ?_
    walk_at "rds"
    refine ⟨t, _, rfl, ht, by omega, by omega, fun i H1 i0 i1 ht1 b1 => ?_⟩
    have hl : abcS.length = 26 := abc_len
    walk_at "rds"
    refine Y.slS (sl_big (show abcS.length ≤ _ by omega)) ?_
    walk_at "rds"
    refine Y.slS (sl_big (show abcS.length ≤ _ by omega)) ?_
    have c1 := cutS_length abcS (some i) none
    have c2 := cutS_length abcS none (some i)
    refine Y.addS (show (cutS abcS (some i) none).length + (cutS abcS none (some i)).length ≤ _ from sl_big (by omega)) ?_
    walk_at "rds"
    refine drawL [1, 2, 2, 3, 26] rfl ht1 rfl (by decide) (by decide) fun n H2 hn ht2 b2 => ?_
    walk_at "rds"
    refine Y.slS (show (cutS abcS (some i) none ++ cutS abcS none (some i)).length ≤ _ from sl_big (by rw [str_len]; omega)) ?_
    walk_at "rds"
    obtain ⟨k, rfl⟩ : ∃ k : Nat, i = (k : Int) := ⟨i.toNat, by omega⟩
    obtain ⟨g1, g2, g3⟩ := abc_cut ⟨k, by omega⟩ n hn
    exact q _ H2 g3 g1 g2 ht2 (b1.trans b2)
end
end K11


namespace K11
open PySem PySem.Spec PyProof.Rows L2 StX RZ
open Y (But DefAt Stay Low Sm Sms SmOk)
/-! ## a grammar that has seams and nothing else -/
structure Flds (fs : List (Str × V)) (mo jo : Addr) : Prop where
  mo : fs.lookup ("_morphs" : Str) = some (.ref mo)
  jo : fs.lookup ("_joins" : Str) = some (.ref jo)
  n1 : fs.lookup ("seams" : Str) = none
  n2 : fs.lookup ("add_seam" : Str) = none
def sk (s : Y.Seam) : List Key × V := ([Sum.inr s.1, Sum.inr s.2.1], V.str s.2.2)
structure GrAt (C : Addr) (H : Hp) (g mo jo : Addr) (ss : List Y.Seam) : Prop where
  ob : ∃ dx fs, H g = some (.ins C dx fs) ∧ Flds fs mo jo
  mo : H mo = some (.lst [])
  jo : H jo = some (.dT (ss.map sk))
theorem GrAt.but {C : Addr} {H H' : Hp} {g mo jo : Addr} {ss : List Y.Seam} {T : List Addr} (h : GrAt C H g mo jo ss) (b : But T H H') (n1 : g ∉ T) (n2 : mo ∉ T) (n3 : jo ∉ T) : GrAt C H' g mo jo ss := by
  obtain ⟨⟨dx, fs, e, f⟩, m, j⟩ := h
  exact ⟨⟨dx, fs, b.keep _ _ e n1 rfl, f⟩, b.keep _ _ m n2 rfl, b.keep _ _ j n3 rfl⟩
theorem GrAt.ne1 {C : Addr} {H : Hp} {g mo jo : Addr} {ss : List Y.Seam} (h : GrAt C H g mo jo ss) : g ≠ mo ∧ g ≠ jo ∧ mo ≠ jo := by
  obtain ⟨⟨dx, fs, e, f⟩, m, j⟩ := h
  exact ⟨ne_of e m (by intro z; cases z), ne_of e j (by intro z; cases z), ne_of m j (by intro z; cases z)⟩
theorem putF_len {f : Str} {v : V} : ∀ fs : List (Str × V), (putF f v fs).length ≤ fs.length + 1
  | [] => Nat.le_refl _
  | (g, x) :: r => by
    unfold putF
    split
    · simp
    · simp only [List.length_cons]
      have := putF_len (f := f) (v := v) r
      omega
def sp_Grammar____init__ (C : Addr) : Sp := fun vs H Q _ => ∃ p, vs = [.ref p] ∧ (∃ dx, H p = some (.ins C dx [])) ∧ ∀ mo jo H', H mo = none → H jo = none → GrAt C H' p mo jo [] → But [p] H H' → Q .non H'
def sp_Grammar__seams (C : Addr) : Sp := fun vs H Q _ => ∃ g mo jo ss, vs = [.ref g] ∧ GrAt C H g mo jo ss ∧ ss.length ≤ 1000 ∧ ∀ l xs H', H l = none → H' l = some (.lst xs) → Sms H' xs ss → (∀ T, But T H H') → Q (.ref l) H'
def sp_Grammar__add_seam (C P : Addr) : Sp := fun vs H Q _ => ∃ g mo jo ss s, vs = [.ref g, .str s.1, .str s.2.1, .str s.2.2] ∧ GrAt C H g mo jo ss ∧ ss.length ≤ 1000 ∧ SmOk s ∧ 1 ≤ s.1.length ∧ s.1.length ≤ 4 ∧ 1 ≤ s.2.1.length ∧ s.2.1.length ≤ 4 ∧ s.2.2.length ≤ 8 ∧ (∀ z ∈ ss, ¬ (z.1 = s.1 ∧ z.2.1 = s.2.1)) ∧ GxR.TabG H P ∧
  ∀ H', GrAt C H' g mo jo (ss ++ [s]) → But [jo] H H' → Q .non H'
section
variable {P : Program} {w : World} {K : PySem.W.Frag} {mg : Str → Option Value} {base : Heap}
theorem ok_Grammar____init__ (T : Tx K mg) : FnOk P w K mg base CX0 1 T.f_Grammar____init__ T.v_Grammar____init__ ["self"] (sp_Grammar____init__ T.C_Grammar) := by
  refine T.d_Grammar____init__.F.ok sc_Grammar____init__ (fun vs H Q E h => ?_) (fun cdv A outer s H vs Q E hr h => ?_)
  · obtain ⟨p, rfl, _⟩ := h
    rfl
  · obtain ⟨p, rfl, ⟨dx, hp⟩, q⟩ := h
    refine ⟨_, (pss_cons (ps_fld (pv 0) pe_dnewK rfl)
    (pss_cons (ps_fld (pv 0) pe_dnewK rfl)
    (pss_cons (ps_fld (pv 0) pe_non rfl)
    (pss_cons (ps_fld (pv 0) pe_non rfl)
    (pss_cons (ps_fld (pv 0) (pe_lst pa_nil) rfl)
    (pss_cons (ps_fld (pv 0) (pe_lst pa_nil) rfl)
    (pss_cons (ps_fld (pv 0) pe_dnewT rfl)
    (pss_cons (ps_fld (pv 0) pe_dnewT rfl)
    (pss_one (ps_fld (pv 0) pe_dnewT rfl)))))))))), ?_⟩
    refine Y.st (σ := [some (.ref p)]) rfl ?_
    have c := T.cl_Grammar
    have l0 : ([] : List (Str × V)).length ≤ 0 := Nat.le_refl _
    have st : ∀ {f : Str} {v : V} {fs : List (Str × V)} {n : Nat}, fs.length ≤ n → (putF f v fs).length ≤ n + 1 := fun {f v fs n} h => Nat.le_trans (putF_len fs) (by omega)
    walk_at "rds"
    refine Y.newK fun a1 H1 n1 e1 b1 => ?_
    walk_at "rds"
    refine Y.setF ((b1 []).keep _ _ hp (by simp) rfl) c T.n_Grammar__values (by simp) fun H2 p2 b2 => ?_
    have B2 : But [p] H H2 := (b1 [p]).trans (b2 [p] (by simp))
    walk_at "rds"
    refine Y.newK fun a2 H3 n3 e3 b3 => ?_
    walk_at "rds"
    refine Y.setF ((b3 []).keep _ _ p2 (by simp) rfl) c T.n_Grammar__categories (Nat.lt_of_le_of_lt (st l0) (by omega)) fun H4 p4 b4 => ?_
    have B4 : But [p] H H4 := (B2.trans (b3 [p])).trans (b4 [p] (by simp))
    walk_at "rds"
    refine Y.setF p4 c T.n_Grammar__start (Nat.lt_of_le_of_lt (st (st l0)) (by omega)) fun H5 p5 b5 => ?_
    walk_at "rds"
    refine Y.setF p5 c T.n_Grammar__first (Nat.lt_of_le_of_lt (st (st (st l0))) (by omega)) fun H6 p6 b6 => ?_
    have B6 : But [p] H H6 := (B4.trans (b5 [p] (by simp))).trans (b6 [p] (by simp))
    walk_at "rds"
    refine ⟨(show 0 ≤ sizeLine by decide), fun a5 n7 => ?_⟩
    obtain ⟨H7, eq7, e7, b7⟩ := Y.gen (o := .lst []) n7
    rw [eq7]
    walk_at "rds"
    refine Y.setF ((b7 []).keep _ _ p6 (by simp) rfl) c T.n_Grammar__rules (Nat.lt_of_le_of_lt (st (st (st (st l0)))) (by omega)) fun H8 p8 b8 => ?_
    have B8 : But [p] H H8 := (B6.trans (b7 [p])).trans (b8 [p] (by simp))
    walk_at "rds"
    refine ⟨(show 0 ≤ sizeLine by decide), fun mo n9 => ?_⟩
    obtain ⟨H9, eq9, e9, b9⟩ := Y.gen (o := .lst []) n9
    rw [eq9]
    walk_at "rds"
    refine Y.setF ((b9 []).keep _ _ p8 (by simp) rfl) c T.n_Grammar__morphs (Nat.lt_of_le_of_lt (st (st (st (st (st l0))))) (by omega)) fun H10 p10 b10 => ?_
    have pmo : p ≠ mo := ne_of_none p8 n9
    have m10 : H10 mo = some (.lst []) := (b10 [p] (by simp)).keep _ _ e9 (fun z => pmo (List.mem_singleton.mp z).symm) rfl
    have B10 : But [p] H H10 := (B8.trans (b9 [p])).trans (b10 [p] (by simp))
    walk_at "rds"
    refine Y.newT fun a7 H11 n11 e11 b11 => ?_
    walk_at "rds"
    refine Y.setF ((b11 []).keep _ _ p10 (by simp) rfl) c T.n_Grammar__targets (Nat.lt_of_le_of_lt (st (st (st (st (st (st l0)))))) (by omega)) fun H12 p12 b12 => ?_
    have m12 : H12 mo = some (.lst []) := (b12 [p] (by simp)).keep _ _ ((b11 []).keep _ _ m10 (by simp) rfl) (fun z => pmo (List.mem_singleton.mp z).symm) rfl
    have B12 : But [p] H H12 := (B10.trans (b11 [p])).trans (b12 [p] (by simp))
    walk_at "rds"
    refine Y.newT fun a8 H13 n13 e13 b13 => ?_
    walk_at "rds"
    refine Y.setF ((b13 []).keep _ _ p12 (by simp) rfl) c T.n_Grammar__ends (Nat.lt_of_le_of_lt (st (st (st (st (st (st (st l0))))))) (by omega)) fun H14 p14 b14 => ?_
    have m14 : H14 mo = some (.lst []) := (b14 [p] (by simp)).keep _ _ ((b13 []).keep _ _ m12 (by simp) rfl) (fun z => pmo (List.mem_singleton.mp z).symm) rfl
    have B14 : But [p] H H14 := (B12.trans (b13 [p])).trans (b14 [p] (by simp))
    walk_at "rds"
    refine Y.newT fun jo H15 n15 e15 b15 => ?_
    walk_at "rds"
    have pjo : p ≠ jo := ne_of_none p14 n15
    refine Y.setF ((b15 []).keep _ _ p14 (by simp) rfl) c T.n_Grammar__joins (Nat.lt_of_le_of_lt (st (st (st (st (st (st (st (st l0)))))))) (by omega)) fun H16 p16 b16 => ?_
    have m16 : H16 mo = some (.lst []) := (b16 [p] (by simp)).keep _ _ ((b15 []).keep _ _ m14 (by simp) rfl) (fun z => pmo (List.mem_singleton.mp z).symm) rfl
    have j16 : H16 jo = some (.dT []) := (b16 [p] (by simp)).keep _ _ e15 (fun z => pjo (List.mem_singleton.mp z).symm) rfl
    have B16 : But [p] H H16 := (B14.trans (b15 [p])).trans (b16 [p] (by simp))
    have nmo : H mo = none := B8.free n9
    have njo : H jo = none := B14.free n15
    refine q mo jo H16 nmo njo ⟨⟨dx, _, p16, ?_, ?_, ?_, ?_⟩, m16, j16⟩ B16
    all_goals repeat (first | rw [lookup_putF, if_pos rfl] | rw [lookup_putF, if_neg (by decide +kernel)])
    all_goals rfl
theorem ok_Grammar__seams (T : Tx K mg) : FnOk P w K mg base CX0 1 T.f_Grammar__seams T.v_Grammar__seams ["self"] (sp_Grammar__seams T.C_Grammar) := by
  refine T.d_Grammar__seams.F.ok sc_Grammar__seams (fun vs H Q E h => ?_) (fun cdv A outer s H vs Q E hr h => ?_)
  · obtain ⟨g, mo, jo, ss, rfl, _⟩ := h
    rfl
  · obtain ⟨g, mo, jo, ss, rfl, G, hl, q⟩ := h
    refine ⟨_, (pss_one (ps_ret (pe_lock (pe_lc (own := [("sides", 1), ("joined", 2)]) (g := (gTup K 2 (gCons (gName 1) (gCons (gName 2) gNil)))) (tt := _) rfl sc_Grammar__seams.nd (Yt.pi_pairs (pe_fld (pv 0) rfl)) (blkOk_by (N := N_Grammar__seams) (sc := defScope s_Grammar__seams) (by decide +kernel)) (fun _ _ _ _ _ => (show PG _ _ (gTup K 2 (gCons (gName 1) (gCons (gName 2) gNil))) from pg_tup rfl (pgs_cons (pg_name (i := 1) sc_Grammar__seams.nd rfl (Or.inl rfl)) (pgs_cons (pg_name (i := 2) sc_Grammar__seams.nd rfl (Or.inl rfl)) pgs_nil)))) (fun _ _ _ _ _ => pts_nil) (fun _ _ _ _ _ => (pe_tup (show PA _ _ (tStar K _ _) from pa_star (pv 1) (pa_cons (pv 2) pa_nil)))))))), ?_⟩
    refine Y.st (σ := [some (.ref g), none, none]) rfl ?_
    walk_at "rds"
    obtain ⟨dx, fs, hg, F⟩ := id G.ob
    refine Y.lockC G.jo fun od H0 e0 => ?_
    have hg0 : H0 g = some (.ins T.C_Grammar dx fs) := by rw [e0, upd_ne G.ne1.2.1]; exact hg
    have hj0 : H0 jo = some (.frz od (.dT (ss.map sk))) := by rw [e0]; exact upd_same
    walk_at "rds"
    refine Y.fld hg0 T.cl_Grammar T.n_Grammar__joins F.jo ?_
    refine ⟨jo, od, _, rfl, hj0, fun D nD => ?_⟩
    have nD0 : H D = none := by
      rw [e0] at nD
      by_cases z : D = jo
      · rw [z, upd_same] at nD
        cases nD
      · rw [upd_ne z] at nD
        exact nD
    refine Y.lcP (fun i H1 => (∀ T, But T H0 H1) ∧ ∃ acc, H1 D = some (.lst acc) ∧ acc.length = i ∧ Sms H1 acc (ss.take i)) ⟨fun _ => But.new nD, [], upd_same, rfl, by rw [List.take_zero]; trivial⟩ (fun i H1 p => (p.1 []).keep _ _ hj0 (by simp) rfl) (fun i k v qa tT H1 hi p nT hq => ?_) (fun H1 ⟨b, acc, eD, la, hs⟩ => ?_)
    · obtain ⟨b, acc, eD, la, hs⟩ := p
      rw [List.getElem?_map] at hi
      obtain ⟨s, es, ek⟩ := Option.map_eq_some_iff.mp hi
      have ek1 : k = [Sum.inr s.1, Sum.inr s.2.1] := (congrArg Prod.fst ek).symm
      have ek2 : v = V.str s.2.2 := (congrArg Prod.snd ek).symm
      subst ek1 ek2
      obtain ⟨H2, eq2, e2, b2⟩ := Y.gen (o := .tup [.ref qa, .str s.2.2]) nT
      rw [eq2]
      refine Y.gtup (xs := [.ref qa, .str s.2.2]) (.inl (.inl e2)) rfl ?_
      walk_at "rds"
      refine ⟨rfl, ?_⟩
      unfold tYes
      simp only [if_true]
      walk_at "rds"
      refine Y.starT (xs := [.str s.1, .str s.2.1]) (.inl (.inl ((b2 []).tup hq (by simp)))) ?_
      walk_at "rds"
      refine ⟨(show 3 ≤ sizeLine by decide), fun a na => ?_⟩
      obtain ⟨H3, eq3, e3, b3⟩ := Y.gen (o := .tup ([.str s.1, .str s.2.1] ++ [.str s.2.2])) na
      rw [eq3]
      have hil : i < ss.length := (List.getElem?_eq_some_iff.mp es).1
      have eD3 := (b3 []).lst ((b2 []).lst eD (by simp)) (by simp)
      have st := ((b2 []).trans (b3 [])).stay0
      have bset : But [D] H3 (upd H3 D (.lst (acc ++ [.ref a]))) := But.set eD3 rfl (by simp)
      have st2 : Stay H3 (upd H3 D (.lst (acc ++ [.ref a]))) := bset.stay (Y.lst_noTup eD3)
      refine ⟨acc, eD3, Nat.lt_of_le_of_lt (show acc.length ≤ 1000 by omega) (by decide), fun T => (((b T).trans (b2 T)).trans (b3 T)).own nD bset, acc ++ [.ref a], upd_same, by rw [List.length_append, la]; rfl, ?_⟩
      rw [List.take_add_one, es]
      exact (hs.stay (st.trans st2)).append ⟨⟨a, rfl, st2 _ _ e3⟩, trivial⟩
    · rw [List.length_map] at la hs
      rw [List.take_length] at hs
      refine ⟨(b []).keep _ _ hj0 (by simp) rfl, ?_⟩
      have bU : ∀ T, But T H (upd H1 jo (.dT (ss.map sk))) := fun T => Y.But.unlock G.jo rfl (by rw [← e0]; exact b [])
      have nDj : D ≠ jo := fun z => by rw [z, G.jo] at nD0; cases nD0
      have hj1 : H1 jo = some (.frz od (.dT (ss.map sk))) := (b []).keep _ _ hj0 (by simp) rfl
      refine q D acc _ nD0 (by rw [upd_ne nDj]; exact eD) (hs.stay fun x xs hx => ?_) bU
      rw [upd_ne (fun z => by rw [z, hj1] at hx; cases hx)]
      exact hx
end
end K11


namespace K11
open PySem PySem.Spec PyProof.Rows L2 StX RZ
open Y (But DefAt Stay Low Sm Sms SmOk)
/-! ## seams are added; the reach; what is possible -/
theorem sk_none {l r : Str} : ∀ {ss : List Y.Seam}, (∀ z ∈ ss, ¬ (z.1 = l ∧ z.2.1 = r)) → valV (ss.map sk) [Sum.inr l, Sum.inr r] = none
  | [], _ => rfl
  | z :: ss, h => by
    have ih := sk_none (ss := ss) fun x m => h x (List.mem_cons_of_mem _ m)
    rw [List.map_cons, valV_neg, ih]
    intro e
    have h0 := h z List.mem_cons_self
    simp only [sk, List.cons.injEq, Sum.inr.injEq, and_true] at e
    exact h0 e
def reachP : List Y.Seam → Nat
  | [] => 0
  | s :: ss => max s.1.length (reachP ss)
theorem reach_le {ss : List Y.Seam} : ∀ s ∈ ss, s.1.length ≤ reachP ss := by
  induction ss with
  | nil => exact fun s m => nomatch m
  | cons a r ih =>
    intro s m
    unfold reachP
    rcases List.mem_cons.mp m with m | m
    · rw [m]
      exact Nat.le_max_left _ _
    · exact Nat.le_trans (ih s m) (Nat.le_max_right _ _)
theorem reach_mem {ss : List Y.Seam} (h : ss ≠ []) : ∃ s ∈ ss, reachP ss = s.1.length := by
  induction ss with
  | nil => exact absurd rfl h
  | cons a r ih =>
    unfold reachP
    by_cases hr : r = []
    · subst hr
      exact ⟨a, List.mem_cons_self, by unfold reachP; omega⟩
    · obtain ⟨s, m, e⟩ := ih hr
      by_cases g : reachP r ≤ a.1.length
      · exact ⟨a, List.mem_cons_self, by omega⟩
      · exact ⟨s, List.mem_cons_of_mem _ m, by omega⟩
theorem reach_is {ss : List Y.Seam} {m : Int} (h : (m ∈ ss.map (fun s => (s.1.length : Int)) ∧ ∀ n ∈ ss.map (fun s => (s.1.length : Int)), n ≤ m) ∨ (ss.map (fun s => (s.1.length : Int)) = [] ∧ m = 0)) : m = (reachP ss : Int) := by
  rcases h with ⟨h1, h2⟩ | ⟨h1, h2⟩
  · obtain ⟨s, ms, rfl⟩ := List.mem_map.mp h1
    obtain ⟨z, mz, ez⟩ := reach_mem (ss := ss) (List.ne_nil_of_mem ms)
    have a := reach_le s ms
    have b := h2 (z.1.length : Int) (List.mem_map.mpr ⟨z, mz, rfl⟩)
    omega
  · have e : ss = [] := List.map_eq_nil_iff.mp h1
    rw [e, h2]
    rfl
def possP (r : Int) (t f : Str) : Bool := if (f.length : Int) ≤ (t.length : Int) then decide (t = f) else Txt.startswith f (cutS t none (some (if (t.length : Int) - r > 0 then (t.length : Int) - r else 0)))
def sp_reach (C : Addr) : Sp := fun vs H Q _ => ∃ g mo jo ss, vs = [.ref g] ∧ GrAt C H g mo jo ss ∧ ss.length ≤ 1000 ∧ (∀ s ∈ ss, SmOk s) ∧ ∀ H', (∀ T, But T H H') → Q (.int (reachP ss)) H'
def sp_is_possible : Sp := fun vs H Q _ => ∃ r t f, vs = [.int r, .str t, .str f] ∧ t.length ≤ 1000 ∧ f.length ≤ 1000 ∧ Q (.bl (possP r t f)) H
def sp_possible (C : Addr) : Sp := fun vs H Q _ => ∃ g mo jo ss t f, vs = [.ref g, .str t, .str f] ∧ GrAt C H g mo jo ss ∧ ss.length ≤ 1000 ∧ (∀ s ∈ ss, SmOk s) ∧ t.length ≤ 1000 ∧ f.length ≤ 1000 ∧ ∀ H', (∀ T, But T H H') → Q (.bl (possP (reachP ss) t f)) H'
section
variable {P : Program} {w : World} {K : PySem.W.Frag} {mg : Str → Option Value} {base : Heap}
theorem ok_Grammar__add_seam (T : Tx K mg) (B : Tb T base) : FnOk P w K mg base CX0 4 T.f_Grammar__add_seam T.v_Grammar__add_seam ["self", "left", "right", "joined"] (sp_Grammar__add_seam T.C_Grammar T.p_is_letters) := by
  refine T.d_Grammar__add_seam.F.ok sc_Grammar__add_seam (fun vs H Q E h => ?_) (fun cdv A outer s H vs Q E hr h => ?_)
  · obtain ⟨g, mo, jo, ss, s, rfl, _⟩ := h
    rfl
  · obtain ⟨g, mo, jo, ss, ⟨l, r, j⟩, rfl, G, hl, ok, l1, l4, r1, r4, j8, hn, hT, q⟩ := h
    simp only at l1 l4 r1 r4 j8 hn q
    have k1 := ok.l1
    have k2 := ok.l2
    have k3 := ok.l3
    simp only at k1 k2 k3
    refine ⟨_, (pss_cons (ps_expr (Y.pcall T.d_check_letters (ok_check_letters T B) (hr.mono (by decide)) (pa_cons (pv 1) (pa_cons pe_int (pa_cons (pe_glob (v := V.int 4) rfl T.LONGEST_SIDE ⟨_, rfl⟩) pa_nil)))))
    (pss_cons (ps_expr (Y.pcall T.d_check_letters (ok_check_letters T B) (hr.mono (by decide)) (pa_cons (pv 2) (pa_cons pe_int (pa_cons (pe_glob (v := V.int 4) rfl T.LONGEST_SIDE ⟨_, rfl⟩) pa_nil)))))
    (pss_cons (ps_expr (Y.pcall T.d_check_letters (ok_check_letters T B) (hr.mono (by decide)) (pa_cons (pv 3) (pa_cons pe_int (pa_cons (pe_glob (v := V.int 8) rfl T.LONGEST_JOINED ⟨_, rfl⟩) pa_nil)))))
    (Evl.pss_cut (ps_if (pt_cmp (pc_din (Y.units1 hr) (pe_tup (pa_cons (pv 1) (pa_cons (pv 2) pa_nil))) (pe_fld (pv 0) rfl)))
      (pss_one ps_never)
      pss_nil)
    (pss_cons (ps_set (i := 4) sc_Grammar__add_seam.nd rfl (Or.inl rfl) (pe_tup (pa_cons (pv 1) (pa_cons (pv 2) (pa_cons (pv 3) pa_nil)))))
    (pss_cons (ps_for PassesOwn.never rfl (pi_list (pe_fld (pv 0) rfl)) (pg_tup rfl (pgs_cons (pg_name (i := 5) sc_Grammar__add_seam.nd rfl (Or.inl rfl)) (pgs_cons (pg_name (i := 6) sc_Grammar__add_seam.nd rfl (Or.inl rfl)) (pgs_cons (pg_name (i := 6) sc_Grammar__add_seam.nd rfl (Or.inl rfl)) (pgs_cons (pg_name (i := 6) sc_Grammar__add_seam.nd rfl (Or.inl rfl)) (pgs_cons (pg_name (i := 6) sc_Grammar__add_seam.nd rfl (Or.inl rfl)) pgs_nil))))))
      (pss_one ps_never))
    (pss_one (ps_dput (Y.units1 hr) (pe_fld (pv 0) rfl) (pe_tup (pa_cons (pv 1) (pa_cons (pv 2) pa_nil))) (pv 3) rfl)))))))), ?_⟩
    refine Y.st (σ := [some (.ref g), some (.str l), some (.str r), some (.str j), none, none, none]) rfl ?_
    walk_at "rds"
    refine ⟨l, 1, 4, rfl, by omega, isLets_low k1 (by omega) (by omega), hT, fun H1 b1 => ?_⟩
    walk_at "rds"
    refine ⟨r, 1, 4, rfl, by omega, isLets_low k2 (by omega) (by omega), (b1 []).tab _ hT, fun H2 b2 => ?_⟩
    walk_at "rds"
    refine ⟨j, 0, 8, rfl, by omega, isLets_low k3 (by omega) (by omega), (b2 []).tab _ ((b1 []).tab _ hT), fun H3 b3 => ?_⟩
    have b03 : ∀ T, But T H H3 := fun T => ((b1 T).trans (b2 T)).trans (b3 T)
    have G3 := G.but (b03 []) (by simp) (by simp) (by simp)
    have key : valV (ss.map sk) ([Sum.inr l, Sum.inr r] : List Key) = none := sk_none hn
    walk_at "rds"
    refine Y.cut (fun σ' H' => σ' = [some (.ref g), some (.str l), some (.str r), some (.str j), none, none, none] ∧ ∀ T, But T H H') ?_ fun σ' H4 ⟨e, b04⟩ => ?_
    · walk_at "rds"
      refine ⟨(show 2 ≤ sizeLine by decide), fun a na => ?_⟩
      obtain ⟨H4, eq4, e4, b4⟩ := Y.gen (o := .tup [.str l, .str r]) na
      rw [eq4]
      have G4 := G3.but (b4 []) (by simp) (by simp) (by simp)
      obtain ⟨dx, fs, hg, F⟩ := id G4.ob
      walk_at "rds"
      refine Y.fld hg T.cl_Grammar T.n_Grammar__joins F.jo ?_
      refine Y.dinT (k := [Sum.inr l, Sum.inr r]) G4.jo e4 ?_
      rw [key]
      walk_at "rds"
      exact L2.iteF ⟨rfl, fun T => (b03 T).trans (b4 T)⟩
    · subst e
      walk_at "rds"
      refine ⟨(show 3 ≤ sizeLine by decide), fun a na => ?_⟩
      obtain ⟨H5, eq5, e5, b5⟩ := Y.gen (o := .tup [.str l, .str r, .str j]) na
      rw [eq5]
      have b05 : ∀ T, But T H H5 := fun T => (b04 T).trans (b5 T)
      have G5 := G.but (b05 []) (by simp) (by simp) (by simp)
      obtain ⟨dx, fs, hg, F⟩ := id G5.ob
      walk_at "rds"
      refine Y.fld hg T.cl_Grammar T.n_Grammar__morphs F.mo ?_
      refine Y.itLs (.inl (.inl G5.mo)) ?_
      refine Y.loopL (xs := []) (fun i σ' H' => σ' = [some (.ref g), some (.str l), some (.str r), some (.str j), some (.ref a), none, none] ∧ H' = H5) ⟨rfl, rfl⟩ (fun i σ' H' hi ⟨_, e⟩ => by rw [e]; exact .inl (.inl G5.mo)) (fun i x σ' H' hi _ => by simp at hi) (fun σ' H' ⟨e1, e2⟩ => ?_)
      subst e1 e2
      walk_at "rds"
      refine Y.fld hg T.cl_Grammar T.n_Grammar__joins F.jo ?_
      walk_at "rds"
      refine ⟨(show 2 ≤ sizeLine by decide), fun a2 na2 => ?_⟩
      obtain ⟨H6, eq6, e6, b6⟩ := Y.gen (o := .tup [.str l, .str r]) na2
      rw [eq6]
      have b06 : ∀ T, But T H H6 := fun T => (b05 T).trans (b6 T)
      have G6 := G.but (b06 []) (by simp) (by simp) (by simp)
      refine Y.dputT (k := [Sum.inr l, Sum.inr r]) G6.jo e6 (by rw [List.length_map]; exact Nat.lt_of_le_of_lt hl (by decide)) fun H7 e7 b7 => ?_
      have b7' := b7 [jo] (by simp)
      obtain ⟨n1, n2, n3⟩ := G6.ne1
      obtain ⟨dx, fs, hg6, F6⟩ := id G6.ob
      rw [putK_new _ key] at e7
      refine q H7 ⟨⟨dx, fs, b7'.keep _ _ hg6 (fun z => n2 (List.mem_singleton.mp z)) rfl, F6⟩, b7'.keep _ _ G6.mo (fun z => n3 (List.mem_singleton.mp z)) rfl, ?_⟩ ((b06 [jo]).trans b7')
      rw [e7, List.map_append]
      rfl
theorem ok_reach (T : Tx K mg) : FnOk P w K mg base CX0 2 T.f_reach T.v_reach ["grammar"] (sp_reach T.C_Grammar) := by
  refine T.d_reach.F.ok sc_reach (fun vs H Q E h => ?_) (fun cdv A outer s H vs Q E hr h => ?_)
  · obtain ⟨g, mo, jo, ss, rfl, _⟩ := h
    rfl
  · obtain ⟨g, mo, jo, ss, rfl, G, hl, ok, q⟩ := h
    obtain ⟨dx, fs, hg, F⟩ := id G.ob
    refine ⟨_, (pss_one (ps_ret (pe_callBK (Mx.cr_maxD rfl) rfl T.b.max (by decide +kernel) (pa_cons (pe_lc (own := [("left", 1), ("_", 2)]) (g := (gTup K 3 (gCons (gName 1) (gCons (gName 2) (gCons (gName 2) gNil))))) (tt := _) rfl sc_reach.nd (pi_list (Y.pmeth0 T.d_Grammar__seams T.cl_Grammar (ok_Grammar__seams T) (hr.mono (by decide)) (pv 0))) (blkOk_by (N := N_reach) (sc := defScope s_reach) (by decide +kernel)) (fun _ _ _ _ _ => (show PG _ _ (gTup K 3 (gCons (gName 1) (gCons (gName 2) (gCons (gName 2) gNil)))) from pg_tup rfl (pgs_cons (pg_name (i := 1) sc_reach.nd rfl (Or.inl rfl)) (pgs_cons (pg_name (i := 2) sc_reach.nd rfl (Or.inl rfl)) (pgs_cons (pg_name (i := 2) sc_reach.nd rfl (Or.inl rfl)) pgs_nil))))) (fun _ _ _ _ _ => pts_nil) (fun _ _ _ _ _ => (pe_callB Y.call_lenS (by rfl) T.b.len (by decide +kernel) (pa_cons (pv 1) pa_nil)))) pa_nil) (pk_cons pe_int pk_nil)))), ?_⟩
    refine Y.st (σ := [some (.ref g), none, none]) rfl ?_
    walk_at "rds"
    refine Y.obj hg F.n1 ?_
    walk_at "rds"
    refine ⟨g, mo, jo, ss, rfl, G, hl, fun l xs H1 nl el hs b1 => ?_⟩
    have lx := hs.len
    refine Y.lcLs (.inl (.inl el)) fun D nD => ?_
    refine Y.lcLt (fun i => .int (((ss[i]?.map fun s => s.1.length).getD 0 : Nat) : Int)) (.inl (.inl el)) nD (by omega) (fun i x H2 QS hi b2 hQ => ?_) (fun H2 ys b2 eD ly hE => ?_)
    · obtain ⟨s, es, a, rfl, ha⟩ := hs.get hi
      have k := (ok s (List.mem_of_getElem? es)).n1
      refine Y.gtup (.inl (.inl ((b2 []).tup ha (by simp)))) rfl ?_
      walk_at "rds"
      refine hQ _ rfl fun QV hv => ?_
      walk_at "rds"
      refine Y.lenS (sl_big (by omega)) ?_
      rw [es] at hv
      exact hv
    · have ey : ys = (ss.map fun s => (s.1.length : Int)).map V.int := by
        apply List.ext_getElem?
        intro i
        by_cases hi : i < ss.length
        · have hy : ys[i]? = some ys[i] := List.getElem?_eq_getElem (by omega)
          have hs2 : ss[i]? = some ss[i] := List.getElem?_eq_getElem hi
          have h3 := hE i _ hy
          rw [hs2] at h3
          rw [hy, h3, List.getElem?_map, List.getElem?_map, hs2]
          rfl
        · rw [List.getElem?_eq_none (by omega), List.getElem?_eq_none (by rw [List.length_map, List.length_map]; omega)]
      rw [ey] at eD
      walk_at "rds"
      refine Y.maxD (.inl (.inl eD)) fun m hm => ?_
      rw [reach_is hm]
      exact q H2 fun T => (b1 T).trans (b2 T)
theorem ok_is_possible (T : Tx K mg) : FnOk P w K mg base CX0 1 T.f_is_possible T.v_is_possible ["most_taken", "text", "form"] sp_is_possible := by
  refine T.d_is_possible.F.ok sc_is_possible (fun vs H Q E h => ?_) (fun cdv A outer s H vs Q E hr h => ?_)
  · obtain ⟨r, t, f, rfl, _⟩ := h
    rfl
  · obtain ⟨r, t, f, rfl, ht, hf, q⟩ := h
    refine ⟨_, (Evl.pss_cut (ps_if (pt_cmpR Y.op_geI (pe_callB Y.call_lenS (by rfl) T.b.len (by decide +kernel) (pa_cons (pv 1) pa_nil)) (pe_callB Y.call_lenS (by rfl) T.b.len (by decide +kernel) (pa_cons (pv 2) pa_nil)) (nomark _))
      (pss_one (ps_ret (pe_cmpR Y.op_eqS (pv 1) (pv 2) (nomark _))))
      pss_nil)
    (pss_one (ps_ret (pe_bm PySem.F.plainAttrs_str PySem.F.slot_str_startswith PySem.F.type_str_startswith Y.mt_swith (pv 2) (pa_cons (pe_slice sl_str (pv 1) po_none (po_some (pe_callB (Y.call_maxI rfl) (by rfl) T.b.max (by decide +kernel) (pa_cons pe_int (pa_cons (pe_op op_sub (pe_callB Y.call_lenS (by rfl) T.b.len (by decide +kernel) (pa_cons (pv 1) pa_nil)) (pv 0)) pa_nil))))) pa_nil))))), ?_⟩
    refine Y.st (σ := [some (.int r), some (.str t), some (.str f)]) rfl ?_
    have e0 : possP r t f = if (f.length : Int) ≤ (t.length : Int) then decide (t = f) else Txt.startswith f (cutS t none (some (if (t.length : Int) - r > 0 then (t.length : Int) - r else 0))) := rfl
    by_cases hc : (f.length : Int) ≤ (t.length : Int)
    · rw [if_pos hc] at e0
      refine Y.cut (fun _ _ => False) ?_ fun _ _ z => z.elim
      walk_at "rds"
      refine Y.lenS (sl_big (by omega)) ?_
      walk_at "rds"
      refine Y.lenS (sl_big (by omega)) ?_
      walk_at "rds"
      rw [decide_eq_true hc]
      refine L2.iteT ?_
      walk_at "rds"
      rw [← e0]
      exact q
    · rw [if_neg hc] at e0
      refine Y.cutR ?_ ?_
      · walk_at "rds"
        refine Y.lenS (sl_big (by omega)) ?_
        walk_at "rds"
        refine Y.lenS (sl_big (by omega)) ?_
        walk_at "rds"
        rw [decide_eq_false hc]
        exact L2.iteF ⟨rfl, rfl⟩
      · walk_at "rds"
        refine Y.lenS (sl_big (by omega)) ?_
        walk_at "rds"
        refine Y.slS (sl_big (by omega)) ?_
        walk_at "rds"
        rw [← e0]
        exact q
theorem ok_possible (T : Tx K mg) : FnOk P w K mg base CX0 3 T.f_possible T.v_possible ["grammar", "text", "form"] (sp_possible T.C_Grammar) := by
  refine T.d_possible.F.ok sc_possible (fun vs H Q E h => ?_) (fun cdv A outer s H vs Q E hr h => ?_)
  · obtain ⟨g, mo, jo, ss, t, f, rfl, _⟩ := h
    rfl
  · obtain ⟨g, mo, jo, ss, t, f, rfl, G, hl, ok, ht, hf, q⟩ := h
    refine ⟨_, (pss_one (ps_ret (Y.pcall T.d_is_possible (ok_is_possible T) (hr.mono (by decide)) (pa_cons (Y.pcall T.d_reach (ok_reach T) (hr.mono (by decide)) (pa_cons (pv 0) pa_nil)) (pa_cons (pv 1) (pa_cons (pv 2) pa_nil)))))), ?_⟩
    refine Y.st (σ := [some (.ref g), some (.str t), some (.str f)]) rfl ?_
    walk_at "rds"
    refine ⟨g, mo, jo, ss, rfl, G, hl, ok, fun H1 b1 => ?_⟩
    walk_at "rds"
    exact ⟨_, t, f, rfl, ht, hf, q H1 b1⟩
end
end K11


namespace K11
open PySem PySem.Spec PyProof.Rows L2 StX RZ
open Y (But DefAt Stay Low Sm Sms SmOk eqTo)
/-! ## the law's own count of letters -/
def cpre (t f : List Nat) : Nat → Nat
  | 0 => 0
  | i + 1 => if cpre t f i = i ∧ t[i]? = f[i]? then i + 1 else cpre t f i
theorem cpre_le {t f : List Nat} : ∀ i, cpre t f i ≤ i
  | 0 => Nat.le_refl _
  | i + 1 => by
    unfold cpre
    split
    · omega
    · have := cpre_le (t := t) (f := f) i
      omega
theorem cpre_iff {t f : List Nat} : ∀ {i n : Nat}, n ≤ i → ((∀ j, j < n → t[j]? = f[j]?) ↔ n ≤ cpre t f i)
  | 0, n, h => by
    have e : n = 0 := by omega
    subst e
    exact ⟨fun _ => Nat.zero_le _, fun _ j hj => absurd hj (Nat.not_lt_zero j)⟩
  | i + 1, n, h => by
    have ih := fun {n : Nat} (h : n ≤ i) => cpre_iff (t := t) (f := f) h
    have le := cpre_le (t := t) (f := f) i
    unfold cpre
    by_cases c : cpre t f i = i ∧ t[i]? = f[i]?
    · rw [if_pos c]
      refine ⟨fun _ => h, fun _ j hj => ?_⟩
      by_cases e : j = i
      · rw [e]
        exact c.2
      · exact (ih (Nat.le_refl i)).mpr (by omega) j (by omega)
    · rw [if_neg c]
      by_cases e : n ≤ i
      · exact ih e
      · have e2 : n = i + 1 := by omega
        subst e2
        refine ⟨fun g => absurd ⟨?_, g i (by omega)⟩ c, fun g => absurd g (by omega)⟩
        have := (ih (Nat.le_refl i)).mp fun j hj => g j (by omega)
        omega
theorem cut_to {z : Str} {n : Nat} (h : n ≤ z.length) : (cutS z none (some (n : Int))).cps.toList = z.cps.toList.take n := by
  rw [Y.cut_list, HT.sIx_none, HT.sIx_nat, List.drop_zero, Nat.min_eq_left h, Nat.sub_zero]
/-- what the law counts is what is possible -/
theorem due_is {r : Int} {t f : Str} (h0 : 0 ≤ r) (h : ¬ (f.length : Int) ≤ (t.length : Int)) : possP r t f = decide ((t.length : Int) - (cpre t.cps.toList f.cps.toList t.length : Int) ≤ r) := by
  unfold possP
  rw [if_neg h]
  obtain ⟨n, hn, en⟩ : ∃ n : Nat, n ≤ t.length ∧ (if (t.length : Int) - r > 0 then (t.length : Int) - r else 0) = (n : Int) := by
    by_cases c : (t.length : Int) - r > 0
    · exact ⟨((t.length : Int) - r).toNat, by omega, by rw [if_pos c]; omega⟩
    · exact ⟨0, Nat.zero_le _, by rw [if_neg c]; rfl⟩
  rw [en]
  have lt := len_list t
  have lf := len_list f
  have lc : (cutS t none (some (n : Int))).length = n := by
    rw [len_list, cut_to hn, List.length_take]
    omega
  rw [Y.starts_eq, lc, decide_eq_true (show n ≤ f.length by omega), Bool.true_and, cut_to hn, Bool.eq_iff_iff, Y.eqTo_iff, decide_eq_true_iff]
  have key := cpre_iff (t := t.cps.toList) (f := f.cps.toList) hn
  have e : (∀ j, j < n → f.cps.toList[0 + j]? = (t.cps.toList.take n)[j]?) ↔ ∀ j, j < n → t.cps.toList[j]? = f.cps.toList[j]? := by
    constructor
    · intro g j hj
      have := g j hj
      rw [Nat.zero_add, List.getElem?_take_of_lt hj] at this
      exact this.symm
    · intro g j hj
      rw [Nat.zero_add, List.getElem?_take_of_lt hj]
      exact (g j hj).symm
  rw [e, key]
  have le := cpre_le (t := t.cps.toList) (f := f.cps.toList) t.length
  constructor
  · intro g
    split at en <;> omega
  · intro g
    split at en <;> omega
def sp__law_due : Sp := fun vs H Q _ => ∃ r t f, vs = [.int r, .str t, .str f] ∧ 0 ≤ r ∧ t.length ≤ 1000 ∧ f.length ≤ 1000 ∧ Q (.bl (possP r t f)) H
def sp__law_strings : Sp := fun vs H Q _ => ∃ t z r f, vs = [.ref t, .str z, .int r, .str f] ∧ Tape H t ∧ Low z ∧ z.cps.toList ≠ [] ∧ z.length ≤ 26 ∧ 0 ≤ r ∧ r ≤ 100 ∧ f.length ≤ 60 ∧
  ∀ (p : Addr) (ss : List Str) H', H' p = some (.lst (ss.map V.str)) → H p = none → (∀ x ∈ ss, x.length ≤ 1000) → Tape H' t → But [t] H H' → Q (.ref p) H'
theorem get_lt {z : Str} {i : Nat} (h : i < z.length) : ∃ c, z.cps.toList[i]? = some c := by
  have e : z.length = z.cps.toList.length := len_list z
  exact ⟨_, List.getElem?_eq_getElem (by omega)⟩
theorem map_snoc {l : List Str} {x : Str} : l.map V.str ++ [V.str x] = (l ++ [x]).map V.str := by simp
theorem all_snoc {p : Str → Prop} {l : List Str} {x : Str} (h : ∀ y ∈ l, p y) (k : p x) : ∀ y ∈ l ++ [x], p y := fun y m => by
  rcases List.mem_append.mp m with m | m
  · exact h y m
  · rw [List.mem_singleton.mp m]
    exact k
section
variable {P : Program} {w : World} {K : PySem.W.Frag} {mg : Str → Option Value} {base : Heap}
theorem ok__law_due (T : Tx K mg) : FnOk P w K mg base CX0 1 T.f__law_due T.v__law_due ["longest", "text", "form"] sp__law_due := by
  refine T.d__law_due.F.ok sc__law_due (fun vs H Q E h => ?_) (fun cdv A outer s H vs Q E hr h => ?_)
  · obtain ⟨r, t, f, rfl, _⟩ := h
    rfl
  · obtain ⟨r, t, f, rfl, h0, ht, hf, q⟩ := h
    refine ⟨_, (Evl.pss_cut (ps_if (pt_cmpR Y.op_eqS (pv 1) (pv 2) (nomark _))
      (pss_one (ps_ret pe_bl))
      pss_nil)
    (Evl.pss_cut (ps_if (pt_cmpR Y.op_geI (pe_callB Y.call_lenS (by rfl) T.b.len (by decide +kernel) (pa_cons (pv 1) pa_nil)) (pe_callB Y.call_lenS (by rfl) T.b.len (by decide +kernel) (pa_cons (pv 2) pa_nil)) (nomark _))
      (pss_one (ps_ret pe_bl))
      pss_nil)
    (pss_cons (ps_set (i := 3) sc__law_due.nd rfl (Or.inl rfl) pe_int)
    (pss_cons (ps_for PassesOwn.never rfl (pi_range1 (by rfl) T.b.range (pa_cons (pe_callB Y.call_lenS (by rfl) T.b.len (by decide +kernel) (pa_cons (pv 1) pa_nil)) pa_nil)) (pg_name (i := 4) sc__law_due.nd rfl (Or.inl rfl))
      (pss_one (ps_if (PW.pt (pw_and (pt_cmpR Y.op_eqI (pv 3) (pv 4) (nomark _)) (pw_and1 (pt_cmpR Y.op_eqS (pe_ix ix_str (pv 1) (pv 4) (fun _ _ => rfl)) (pe_ix ix_str (pv 2) (pv 4) (fun _ _ => rfl)) (nomark _)))))
        (pss_one (ps_set (i := 3) sc__law_due.nd rfl (Or.inl rfl) (pe_op op_add (pv 4) pe_int)))
        pss_nil)))
    (pss_one (ps_ret (pe_cmpR Y.op_leI (pe_op op_sub (pe_callB Y.call_lenS (by rfl) T.b.len (by decide +kernel) (pa_cons (pv 1) pa_nil)) (pv 3)) (pv 0) (nomark _)))))))), ?_⟩
    refine Y.st (σ := [some (.int r), some (.str t), some (.str f), none, none]) rfl ?_
    by_cases heq : t = f
    · have e0 : possP r t f = true := by
        unfold possP
        rw [if_pos (by rw [heq]; exact Int.le_refl _), decide_eq_true heq]
      refine Y.cut (fun _ _ => False) ?_ fun _ _ z => z.elim
      walk_at "rds"
      refine Y.iteD (fun _ => ?_) (fun n => absurd heq n)
      walk_at "rds"
      rw [e0] at q
      exact q
    · refine Y.cutR ?_ ?_
      · walk_at "rds"
        exact Y.iteD (fun y => absurd y heq) (fun _ => ⟨rfl, rfl⟩)
      · by_cases hl : (f.length : Int) ≤ (t.length : Int)
        · have e0 : possP r t f = false := by
            unfold possP
            rw [if_pos hl, decide_eq_false heq]
          refine Y.cut (fun _ _ => False) ?_ fun _ _ z => z.elim
          walk_at "rds"
          refine Y.lenS (sl_big (by omega)) ?_
          walk_at "rds"
          refine Y.lenS (sl_big (by omega)) ?_
          walk_at "rds"
          refine Y.iteD (fun _ => ?_) (fun n => absurd hl n)
          walk_at "rds"
          rw [e0] at q
          exact q
        · refine Y.cutR ?_ ?_
          · walk_at "rds"
            refine Y.lenS (sl_big (by omega)) ?_
            walk_at "rds"
            refine Y.lenS (sl_big (by omega)) ?_
            walk_at "rds"
            exact Y.iteD (fun y => absurd y hl) (fun _ => ⟨rfl, rfl⟩)
          · walk_at "rds"
            refine Y.lenS (sl_big (by omega)) ?_
            refine Y.rngI (by omega) (by omega) ?_
            rw [Int.toNat_natCast]
            refine Y.loopR (fun i σ' H' => ∃ y, σ' = [some (.int r), some (.str t), some (.str f), some (.int (cpre t.cps.toList f.cps.toList i : Int)), y] ∧ H' = H) ⟨none, rfl, rfl⟩ (fun i σ' H' hi ⟨y, e1, e2⟩ => ?_) (fun σ' H' ⟨y, e1, e2⟩ => ?_)
            · subst e1 e2
              walk_at "rds"
              obtain ⟨c, hc⟩ := get_lt (z := t) hi
              obtain ⟨d, hd⟩ := get_lt (z := f) (i := i) (by omega)
              refine Y.iteD (fun g1 => ?_) (fun g1 => ?_)
              · walk_at "rds"
                refine Y.ixS (sl_big (by omega)) (atI_nat hc) ?_
                walk_at "rds"
                refine Y.ixS (sl_big (by omega)) (atI_nat hd) ?_
                walk_at "rds"
                rw [Y.sign_eq hc hd]
                refine Y.iteD (fun g2 => ?_) (fun g2 => ?_)
                · walk_at "rds"
                  refine ⟨some (.int (i : Int)), ?_, rfl⟩
                  rw [cpre, if_pos ⟨by omega, g2⟩]
                  rfl
                · walk_at "rds"
                  refine ⟨some (.int (i : Int)), ?_, rfl⟩
                  rw [cpre, if_neg (fun z => g2 z.2)]
                  rfl
              · walk_at "rds"
                refine ⟨some (.int (i : Int)), ?_, rfl⟩
                rw [cpre, if_neg (fun z => g1 (by rw [z.1]))]
                rfl
            · subst e1 e2
              walk_at "rds"
              refine Y.lenS (sl_big (by omega)) ?_
              walk_at "rds"
              rw [due_is h0 hl] at q
              exact q
theorem ok__law_strings (T : Tx K mg) : FnOk P w K mg base CX0 4 T.f__law_strings T.v__law_strings ["tape", "letters", "longest", "form"] sp__law_strings := by
  refine T.d__law_strings.F.ok sc__law_strings (fun vs H Q E h => ?_) (fun cdv A outer s H vs Q E hr h => ?_)
  · obtain ⟨t, z, r, f, rfl, _⟩ := h
    rfl
  · obtain ⟨t, z, r, f, rfl, ht, low, hne, hz, r0, r1, hf, q⟩ := h
    have z0 : 0 < z.cps.toList.length := List.length_pos_iff.mpr hne
    have z1 := len_list z
    have len1 : ∀ c, (⟨#[c]⟩ : Str).length = 1 := fun c => rfl
    have len0 : (PySem.Str.ofString "").length = 0 := by decide +kernel
    have lena : (PySem.Str.ofString "a").length = 1 := by decide +kernel
    have lenb : (PySem.Str.ofString "b").length = 1 := by decide +kernel
    refine ⟨_, (pss_cons (ps_set (i := 4) sc__law_strings.nd rfl (Or.inl rfl) (pe_lst (pa_cons pe_str (pa_cons (pv 3) (pa_cons (pe_op Y.op_addS (pv 3) (pe_ix ix_str (pv 1) pe_int (fun _ _ => rfl))) (pa_cons (pe_op Y.op_addS (pv 3) (pv 3)) pa_nil))))))
    (pss_cons (ps_for PassesOwn.never rfl (pi_range1 (by rfl) T.b.range (pa_cons pe_int pa_nil)) (pg_name (i := 5) sc__law_strings.nd rfl (Or.inl rfl))
      (pss_cons (ps_set (i := 6) sc__law_strings.nd rfl (Or.inl rfl) (Y.pcall T.d__law_take (ok__law_take T) (hr.mono (by decide)) (pa_cons (pv 0) (pa_cons (pe_op op_add (pe_callB Y.call_lenS (by rfl) T.b.len (by decide +kernel) (pa_cons (pv 3) pa_nil)) pe_int) pa_nil))))
      (pss_cons (ps_set (i := 7) sc__law_strings.nd rfl (Or.inl rfl) pe_str)
      (Evl.pss_cut (ps_if (pt_cmpR Y.op_eqS (pe_slice sl_str (pv 3) (po_some (pv 6)) (po_some (pe_op op_add (pv 6) pe_int))) pe_str (nomark _))
        (pss_one (ps_set (i := 7) sc__law_strings.nd rfl (Or.inl rfl) pe_str))
        pss_nil)
      (pss_one (ps_for PassesOwn.never rfl (pi_list (pe_lst (pa_cons pe_int (pa_cons (pe_op op_sub (pv 2) pe_int) (pa_cons (pv 2) (pa_cons (pe_op op_add (pv 2) pe_int) (pa_cons (pe_op op_add (pv 2) pe_int) pa_nil))))))) (pg_name (i := 8) sc__law_strings.nd rfl (Or.inl rfl))
        (pss_cons (ps_set (i := 9) sc__law_strings.nd rfl (Or.inl rfl) (pe_slice sl_str (pv 3) po_none (po_some (pv 6))))
        (Evl.pss_cut (ps_if (pt_cmpR Y.op_gtI (pv 8) pe_int (nomark _))
          (pss_cons (ps_set (i := 9) sc__law_strings.nd rfl (Or.inl rfl) (pe_op Y.op_addS (pv 9) (pv 7)))
          (pss_one (ps_if (pt_cmpR Y.op_ltI (pv 5) pe_int (nomark _))
            (pss_one (ps_set (i := 9) sc__law_strings.nd rfl (Or.inl rfl) (pe_op Y.op_addS (pv 9) (pe_slice sl_str (pv 3) (po_some (pe_op op_add (pv 6) pe_int)) (po_some (pe_op op_add (pv 6) (pv 8)))))))
            (pss_one (ps_set (i := 9) sc__law_strings.nd rfl (Or.inl rfl) (pe_op Y.op_addS (pv 9) (Y.pcall T.d__law_letters (ok__law_letters T) (hr.mono (by decide)) (pa_cons (pv 0) (pa_cons (pv 1) (pa_cons (pe_op op_sub (pv 8) pe_int) (pa_cons (pe_op op_sub (pv 8) pe_int) pa_nil)))))))))))
          pss_nil)
        (pss_cons (ps_expr (pe_bm PySem.F.plainAttrs_list PySem.F.slot_list_append PySem.F.type_list_append mt_append (pv 4) (pa_cons (pv 9) pa_nil)))
        (pss_one (ps_expr (pe_bm PySem.F.plainAttrs_list PySem.F.slot_list_append PySem.F.type_list_append mt_append (pv 4) (pa_cons (pe_op Y.op_addS (pv 9) (pv 7)) pa_nil)))))))))))))
    (pss_cons (ps_for PassesOwn.never rfl (pi_range1 (by rfl) T.b.range (pa_cons pe_int pa_nil)) (pg_name (i := 5) sc__law_strings.nd rfl (Or.inl rfl))
      (pss_one (ps_expr (pe_bm PySem.F.plainAttrs_list PySem.F.slot_list_append PySem.F.type_list_append mt_append (pv 4) (pa_cons (Y.pcall T.d__law_letters (ok__law_letters T) (hr.mono (by decide)) (pa_cons (pv 0) (pa_cons (pv 1) (pa_cons pe_int (pa_cons pe_int pa_nil))))) pa_nil)))))
    (pss_one (ps_ret (pv 4)))))), ?_⟩
    refine Y.st (σ := [some (.ref t), some (.str z), some (.int r), some (.str f), none, none, none, none, none, none]) rfl ?_
    walk_at "rds"
    obtain ⟨c1, ec1, hc1⟩ := at_in (xs := z.cps.toList) (i := 0) (by omega) (by omega)
    refine Y.ixS (sl_big (by omega)) ec1 ?_
    refine Y.addS (sl_big (by rw [len1]; omega)) ?_
    walk_at "rds"
    refine Y.addS (sl_big (by omega)) ?_
    walk_at "rds"
    refine ⟨(show 4 ≤ sizeLine by decide), fun p np => ?_⟩
    obtain ⟨H1, eq1, e1, b1⟩ := Y.gen (o := .lst ([PySem.Str.ofString "", f, f ++ ⟨#[c1]⟩, f ++ f].map V.str)) np
    have eq1' : upd H p (.lst [.str (PySem.Str.ofString ""), .str f, .str (f ++ ⟨#[c1]⟩), .str (f ++ f)]) = H1 := eq1
    rw [eq1']
    have pt : p ≠ t := (ht.ne np)
    have ht1 := ht.but (b1 []) (by simp)
    walk_at "rds"
    refine Y.rngI (by omega) (by omega) ?_
    refine Y.loopR (fun j σ' H' => ∃ (ss : List Str) (x5 x6 x7 x8 x9 : Option V), σ' = [some (.ref t), some (.str z), some (.int r), some (.str f), some (.ref p), x5, x6, x7, x8, x9] ∧ H' p = some (.lst (ss.map V.str)) ∧ ss.length ≤ 4 + 10 * j ∧ (∀ x ∈ ss, x.length ≤ 1000) ∧ Tape H' t ∧ But [t] H H')
      ⟨_, none, none, none, none, none, rfl, e1, by simp, ?_, ht1, b1 [t]⟩ (fun j σ' H' hj ⟨ss, x5, x6, x7, x8, x9, e, hp, ls, as, htj, bj⟩ => ?_) (fun σ' H' ⟨ss, x5, x6, x7, x8, x9, e, hp, ls, as, htj, bj⟩ => ?_)
    · intro x m
      simp only [List.mem_cons, List.not_mem_nil, or_false] at m
      rcases m with m | m | m | m <;> rw [m]
      · rw [len0]; omega
      · omega
      · rw [str_len, len1]; omega
      · rw [str_len]; omega
    · subst e
      have hj8 : j < 8 := hj
      walk_at "rds"
      refine Y.lenS (sl_big (by omega)) ?_
      walk_at "rds"
      refine ⟨t, _, rfl, htj, by omega, by omega, fun at_ H2 a0 a1 ht2 b2 => ?_⟩
      have hp2 := b2.lst hp (not1 pt)
      have b02 := bj.trans b2
      walk_at "rds"
      refine Y.cut (fun σ' H' => ∃ od : Str, σ' = [some (.ref t), some (.str z), some (.int r), some (.str f), some (.ref p), some (.int (j : Int)), some (.int at_), some (.str od), x8, x9] ∧ od.length = 1 ∧ H' = H2) ?_ fun σ' H3 ⟨od, e, lod, e3⟩ => ?_
      · walk_at "rds"
        refine Y.slS (sl_big (by omega)) ?_
        walk_at "rds"
        refine Y.iteD (fun _ => ?_) (fun _ => ?_)
        · walk_at "rds"
          exact ⟨_, rfl, lenb, rfl⟩
        · walk_at "rds"
          exact ⟨_, rfl, lena, rfl⟩
      · subst e e3
        walk_at "rds"
        refine ⟨(show 5 ≤ sizeLine by decide), fun a na => ?_⟩
        obtain ⟨H4, eq4, e4, b4⟩ := Y.gen (o := .lst (([0, r - 1, r, r + 1, r + 2] : List Int).map V.int)) na
        have eq4' : upd H3 a (.lst [.int 0, .int (r - 1), .int r, .int (r + 1), .int (r + 2)]) = H4 := eq4
        rw [eq4']
        have pa : p ≠ a := ne_of_none hp2 na
        have ta : a ≠ t := ht2.ne na
        refine Y.itLs (.inl (.inl e4)) ?_
        refine Y.loopL (xs := ([0, r - 1, r, r + 1, r + 2] : List Int).map V.int) (fun i σ' H' => ∃ (ss : List Str) (x8 x9 : Option V), σ' = [some (.ref t), some (.str z), some (.int r), some (.str f), some (.ref p), some (.int (j : Int)), some (.int at_), some (.str od), x8, x9] ∧ H' p = some (.lst (ss.map V.str)) ∧ ss.length ≤ 4 + 10 * j + 2 * i ∧ (∀ x ∈ ss, x.length ≤ 1000) ∧ H' a = some (.lst (([0, r - 1, r, r + 1, r + 2] : List Int).map V.int)) ∧ Tape H' t ∧ But [t] H H')
          ⟨ss, x8, x9, rfl, (b4 []).lst hp2 (by simp), by omega, as, e4, ht2.but (b4 []) (by simp), b02.trans (b4 [t])⟩ (fun i σ' H' hi ⟨ss, x8, x9, e, hp, ls, as, ha, htj, bj⟩ => .inl (.inl ha)) (fun i v σ' H' hv ⟨ss, x8, x9, e, hp, ls, as, ha, htj, bj⟩ => ?_) (fun σ' H' ⟨ss, x8, x9, e, hp, ls, as, ha, htj, bj⟩ => ?_)
        · subst e
          have hi5 : i < 5 := (List.getElem?_eq_some_iff.mp hv).1
          obtain ⟨n, hn, rfl⟩ := List.mem_map.mp (List.mem_of_getElem? hv)
          have hnb : -1 ≤ n ∧ n ≤ 102 := by
            simp at hn
            omega
          walk_at "rds"
          refine Y.slS (sl_big (by omega)) ?_
          have c0 := cutS_length f none (some at_)
          walk_at "rds"
          refine Y.cut (fun σ' H' => ∃ tx : Str, σ' = [some (.ref t), some (.str z), some (.int r), some (.str f), some (.ref p), some (.int (j : Int)), some (.int at_), some (.str od), some (.int n), some (.str tx)] ∧ tx.length ≤ 400 ∧ H' p = some (.lst (ss.map V.str)) ∧ H' a = some (.lst (([0, r - 1, r, r + 1, r + 2] : List Int).map V.int)) ∧ Tape H' t ∧ But [t] H H') ?_ fun σ' H5 ⟨tx, e, ltx, hp5, ha5, ht5, b5⟩ => ?_
          · walk_at "rds"
            refine Y.iteD (fun g1 => ?_) (fun g1 => ?_)
            · walk_at "rds"
              refine Y.addS (sl_big (by omega)) ?_
              walk_at "rds"
              refine Y.iteD (fun g2 => ?_) (fun g2 => ?_)
              · walk_at "rds"
                refine Y.slS (sl_big (by omega)) ?_
                have c1 := cutS_length f (some (at_ + 1)) (some (at_ + n))
                refine Y.addS (sl_big (by rw [str_len]; omega)) ?_
                walk_at "rds"
                exact ⟨_, rfl, by rw [str_len, str_len]; omega, hp, ha, htj, bj⟩
              · walk_at "rds"
                refine ⟨t, z, n - 1, n - 1, rfl, htj, low, hne, by omega, by omega, by omega, by omega, fun o H5 lo5 g5 h5 ht5 b5 => ?_⟩
                refine Y.addS (sl_big (by rw [str_len]; omega)) ?_
                walk_at "rds"
                exact ⟨_, rfl, by rw [str_len, str_len]; omega, b5.lst hp (not1 pt), b5.lst ha (not1 ta), ht5, bj.trans b5⟩
            · walk_at "rds"
              exact ⟨_, rfl, by omega, hp, ha, htj, bj⟩
          · subst e
            walk_at "rds"
            refine Y.tyL (.inl (.inl hp5)) ?_
            walk_at "rds"
            refine Y.app hp5 (by rw [List.length_map]; exact Nat.lt_of_le_of_lt (show ss.length ≤ 1000 by omega) (by decide)) fun H6 e6 b6 => ?_
            have b6' := b6 [p] (by simp)
            rw [map_snoc] at e6
            walk_at "rds"
            refine Y.tyL (.inl (.inl e6)) ?_
            walk_at "rds"
            refine Y.addS (sl_big (by omega)) ?_
            walk_at "rds"
            refine Y.app e6 (by rw [List.length_map, List.length_append]; exact Nat.lt_of_le_of_lt (show ss.length + 1 ≤ 1000 by omega) (by decide)) fun H7 e7 b7 => ?_
            have b7' := b7 [p] (by simp)
            rw [map_snoc] at e7
            have bp := b6'.trans b7'
            refine ⟨_, _, _, rfl, e7, by rw [List.length_append, List.length_append]; show ss.length + 1 + 1 ≤ _; omega, all_snoc (all_snoc as (by omega)) (by rw [str_len]; omega), bp.lst ha5 (not1 pa.symm), ht5.but bp (not1 pt.symm), b5.own np bp⟩
        · subst e
          exact ⟨ss, _, _, _, _, _, rfl, hp, by simp only [List.length_map, List.length_cons, List.length_nil] at ls; omega, as, htj, bj⟩
    · subst e
      have ls : ss.length ≤ 84 := ls
      walk_at "rds"
      refine Y.rngI (by omega) (by omega) ?_
      refine Y.loopR (fun j σ' H' => ∃ (ss : List Str) (x5 x6 x7 x8 x9 : Option V), σ' = [some (.ref t), some (.str z), some (.int r), some (.str f), some (.ref p), x5, x6, x7, x8, x9] ∧ H' p = some (.lst (ss.map V.str)) ∧ ss.length ≤ 84 + j ∧ (∀ x ∈ ss, x.length ≤ 1000) ∧ Tape H' t ∧ But [t] H H')
        ⟨ss, _, _, _, _, _, rfl, hp, ls, as, htj, bj⟩ (fun j σ' H' hj ⟨ss, x5, x6, x7, x8, x9, e, hp, ls, as, htj, bj⟩ => ?_) (fun σ' H' ⟨ss, x5, x6, x7, x8, x9, e, hp, ls, as, htj, bj⟩ => ?_)
      · subst e
        have hj4 : j < 4 := hj
        walk_at "rds"
        refine Y.tyL (.inl (.inl hp)) ?_
        walk_at "rds"
        refine ⟨t, z, 0, 8, rfl, htj, low, hne, by omega, by omega, by omega, by omega, fun o H5 lo5 g5 h5 ht5 b5 => ?_⟩
        have hp5 := b5.lst hp (not1 pt)
        walk_at "rds"
        refine Y.app hp5 (by rw [List.length_map]; exact Nat.lt_of_le_of_lt (show ss.length ≤ 1000 by omega) (by decide)) fun H6 e6 b6 => ?_
        have b6' := b6 [p] (by simp)
        rw [map_snoc] at e6
        exact ⟨_, _, _, _, _, _, rfl, e6, by rw [List.length_append]; show ss.length + 1 ≤ _; omega, all_snoc as (by omega), ht5.but b6' (not1 pt.symm), (bj.trans b5).own np b6'⟩
      · subst e
        walk_at "rds"
        exact q p ss H' hp np as htj bj
end
end K11


namespace K11
open PySem PySem.Spec PyProof.Rows L2 StX RZ
open Y (But DefAt Stay Low Sm Sms SmOk eqTo)
def sp__law_holds (K : PySem.W.Frag) (C : Addr) : Sp := fun vs H Q _ => ∃ (g mo jo t l : Addr) (z f : Str) (xs : List V) (ss : List Y.Seam), vs = [.ref g, .ref t, .str z, .ref l, .str f] ∧ GrAt C H g mo jo ss ∧ Tape H t ∧ Low z ∧ z.cps.toList ≠ [] ∧ z.length ≤ 26 ∧ H l = some (.lst xs) ∧ Sms H xs ss ∧ ss.length ≤ 1000 ∧ (∀ s ∈ ss, SmOk s) ∧ (∀ s ∈ ss, s.1.length ≤ 4) ∧ f.length ≤ 60 ∧
  ∀ H', Tape H' t → But [t] H H' → Q (.bl true) H'
theorem reach_take {ss : List Y.Seam} {i : Nat} {s : Y.Seam} (e : ss[i]? = some s) : (reachP (ss.take (i + 1)) : Int) = if (s.1.length : Int) > (reachP (ss.take i) : Int) then (s.1.length : Int) else (reachP (ss.take i) : Int) := by
  have h : ∀ (a : List Y.Seam) (s : Y.Seam), reachP (a ++ [s]) = max (reachP a) s.1.length := by
    intro a s
    induction a with
    | nil => simp [reachP]
    | cons x r ih =>
      rw [List.cons_append, reachP, ih, reachP]
      omega
  rw [List.take_add_one, e]
  show ((reachP (ss.take i ++ [s]) : Nat) : Int) = _
  rw [h]
  split <;> omega
theorem reach4 {ss : List Y.Seam} (h : ∀ s ∈ ss, s.1.length ≤ 4) : reachP ss ≤ 4 := by
  induction ss with
  | nil => exact Nat.zero_le _
  | cons a r ih =>
    have h1 := h a List.mem_cons_self
    have h2 := ih fun s m => h s (List.mem_cons_of_mem _ m)
    unfold reachP
    omega
theorem GrAt.ne_tape {C : Addr} {H : Hp} {g mo jo t : Addr} {ss : List Y.Seam} (h : GrAt C H g mo jo ss) (ht : Tape H t) : g ∉ [t] ∧ mo ∉ [t] ∧ jo ∉ [t] := by
  obtain ⟨⟨dx, fs, e, f⟩, m, j⟩ := h
  obtain ⟨c, b, i, k, et⟩ := ht
  refine ⟨fun z => ?_, fun z => ?_, fun z => ?_⟩
  · rw [List.mem_singleton.mp z, et] at e
    cases e
  · rw [List.mem_singleton.mp z, et] at m
    cases m
  · rw [List.mem_singleton.mp z, et] at j
    cases j
section
variable {P : Program} {w : World} {K : PySem.W.Frag} {mg : Str → Option Value} {base : Heap}
theorem ok__law_holds (T : Tx K mg) : FnOk P w K mg base CX0 5 T.f__law_holds T.v__law_holds ["grammar", "tape", "letters", "seams", "form"] (sp__law_holds K T.C_Grammar) := by
  refine T.d__law_holds.F.ok sc__law_holds (fun vs H Q E h => ?_) (fun cdv A outer s H vs Q E hr h => ?_)
  · obtain ⟨g, mo, jo, t, l, z, f, xs, ss, rfl, _⟩ := h
    rfl
  · obtain ⟨g, mo, jo, t, l, z, f, xs, ss, rfl, G, ht, low, hne, hz, hl, hs, ls, ok, l4, hf, q⟩ := h
    have lx := hs.len
    refine ⟨_, (pss_cons (ps_set (i := 5) sc__law_holds.nd rfl (Or.inl rfl) pe_int)
    (pss_cons (ps_for PassesOwn.never rfl (pi_list (pv 3)) (pg_name (i := 6) sc__law_holds.nd rfl (Or.inl rfl))
      (pss_one (ps_if (pt_cmpR Y.op_gtI (pe_callB Y.call_lenS (by rfl) T.b.len (by decide +kernel) (pa_cons (pe_ix ix_tup (pv 6) pe_int (fun _ _ => rfl)) pa_nil)) (pv 5) (nomark _))
        (pss_one (ps_set (i := 5) sc__law_holds.nd rfl (Or.inl rfl) (pe_callB Y.call_lenS (by rfl) T.b.len (by decide +kernel) (pa_cons (pe_ix ix_tup (pv 6) pe_int (fun _ _ => rfl)) pa_nil))))
        pss_nil)))
    (pss_cons (ps_set (i := 7) sc__law_holds.nd rfl (Or.inl rfl) (Y.pcall T.d_reach (ok_reach T) (hr.mono (by decide)) (pa_cons (pv 0) pa_nil)))
    (Evl.pss_cut (ps_if (PW.pt (pw_or (pt_not (pt_val (pe_callB call_isi (by rfl) T.b.isinstance (by decide +kernel) (pa_cons (pv 7) (pa_cons (pe_bltn (v := .ty "int") (u := .type "int") (by rfl) T.b.int (by decide +kernel) rfl) pa_nil))))) (pw_or (pt_val (pe_callB call_isi (by rfl) T.b.isinstance (by decide +kernel) (pa_cons (pv 7) (pa_cons (pe_bltn (v := .ty "bool") (u := .type "bool") (by rfl) T.b.bool (by decide +kernel) rfl) pa_nil)))) (pw_or1 (pt_cmpR Y.op_neI (pv 7) (pv 5) (nomark _))))))
      (pss_one (ps_ret pe_bl))
      pss_nil)
    (pss_cons (ps_for PassesOwn.never rfl (pi_list (Y.pcall T.d__law_strings (ok__law_strings T) (hr.mono (by decide)) (pa_cons (pv 1) (pa_cons (pv 2) (pa_cons (pv 5) (pa_cons (pv 4) pa_nil)))))) (pg_name (i := 8) sc__law_holds.nd rfl (Or.inl rfl))
      (pss_cons (ps_set (i := 7) sc__law_holds.nd rfl (Or.inl rfl) (Y.pcall T.d_possible (ok_possible T) (hr.mono (by decide)) (pa_cons (pv 0) (pa_cons (pv 8) (pa_cons (pv 4) pa_nil)))))
      (pss_one (ps_if (PW.pt (pw_or (pt_not (pt_val (pe_callB call_isi (by rfl) T.b.isinstance (by decide +kernel) (pa_cons (pv 7) (pa_cons (pe_bltn (v := .ty "bool") (u := .type "bool") (by rfl) T.b.bool (by decide +kernel) rfl) pa_nil))))) (pw_or1 (pt_cmpR Y.op_neB (pv 7) (Y.pcall T.d__law_due (ok__law_due T) (hr.mono (by decide)) (pa_cons (pv 5) (pa_cons (pv 8) (pa_cons (pv 4) pa_nil)))) (nomark _)))))
        (pss_one (ps_ret pe_bl))
        pss_nil))))
    (pss_one (ps_ret pe_bl))))))), ?_⟩
    refine Y.st (σ := [some (.ref g), some (.ref t), some (.str z), some (.ref l), some (.str f), none, none, none, none]) rfl ?_
    walk_at "rds"
    refine Y.itLs (.inl (.inl hl)) ?_
    refine Y.loopL (xs := xs) (fun i σ' H' => ∃ y, σ' = [some (.ref g), some (.ref t), some (.str z), some (.ref l), some (.str f), some (.int (reachP (ss.take i) : Int)), y, none, none] ∧ H' = H) ⟨none, by rw [List.take_zero]; rfl, rfl⟩ (fun i σ' H' hi ⟨y, _, e⟩ => by rw [e]; exact .inl (.inl hl)) (fun i v σ' H' hv ⟨y, e1, e2⟩ => ?_) (fun σ' H' ⟨y, e1, e2⟩ => ?_)
    · subst e1 e2
      obtain ⟨s, es, a, rfl, ha⟩ := hs.get hv
      have k := (ok s (List.mem_of_getElem? es)).n1
      walk_at "rds"
      refine Y.ixT (.inl (.inl ha)) (v := .str s.1) rfl ?_
      walk_at "rds"
      refine Y.lenS (sl_big (by omega)) ?_
      walk_at "rds"
      have hr1 := reach_take es
      refine Y.iteD (fun h1 => ?_) (fun h1 => ?_)
      · walk_at "rds"
        refine Y.ixT (.inl (.inl ha)) (v := .str s.1) rfl ?_
        walk_at "rds"
        refine Y.lenS (sl_big (by omega)) ?_
        walk_at "rds"
        rw [if_pos (by omega)] at hr1
        exact ⟨_, by rw [hr1]; rfl, rfl⟩
      · rw [if_neg (by omega)] at hr1
        exact ⟨_, by rw [hr1]; rfl, rfl⟩
    · subst e1 e2
      rw [lx, List.take_length]
      walk_at "rds"
      refine ⟨g, mo, jo, ss, rfl, G, ls, ok, fun H1 b1 => ?_⟩
      have G1 := G.but (b1 []) (by simp) (by simp) (by simp)
      have ht1 := ht.but (b1 []) (by simp)
      walk_at "rds"
      refine Y.cutR ?_ ?_
      · walk_at "rds"
        refine Y.isi (b := true) (.base (.int _)) (by decide +kernel) ?_
        walk_at "rds"
        refine L2.iteF ?_
        walk_at "rds"
        refine Y.isi (b := false) (.base (.int _)) (by decide +kernel) ?_
        walk_at "rds"
        exact Y.iteN (fun e => absurd rfl e) (fun _ => ⟨rfl, rfl⟩)
      · have r4 := reach4 l4
        walk_at "rds"
        refine ⟨t, z, _, f, rfl, ht1, low, hne, hz, by omega, by omega, hf, fun p us H2 hp np hus ht2 b2 => ?_⟩
        obtain ⟨m1, m2, m3⟩ := G1.ne_tape ht1
        have G2 := G1.but b2 m1 m2 m3
        have b02 : But [t] H' H2 := (b1 [t]).trans b2
        refine Y.itLs (.inl (.inl hp)) ?_
        refine Y.loopL (xs := us.map V.str) (fun i σ' H3 => ∃ x7 x8, σ' = [some (.ref g), some (.ref t), some (.str z), some (.ref l), some (.str f), some (.int (reachP ss : Int)), y, x7, x8] ∧ ∀ T, But T H2 H3) ⟨_, _, rfl, fun _ => But.refl _⟩ (fun i σ' H3 hi ⟨_, _, _, e⟩ => .inl (.inl ((e []).lst hp (by simp)))) (fun i v σ' H3 hv ⟨x7, x8, e1, b3⟩ => ?_) (fun σ' H3 ⟨x7, x8, e1, b3⟩ => ?_)
        · subst e1
          obtain ⟨u, mu, rfl⟩ := List.mem_map.mp (List.mem_of_getElem? hv)
          have lu := hus u mu
          have G3 := G2.but (b3 []) (by simp) (by simp) (by simp)
          walk_at "rds"
          refine ⟨g, mo, jo, ss, u, f, rfl, G3, ls, ok, lu, by omega, fun H4 b4 => ?_⟩
          walk_at "rds"
          refine Y.isi (b := true) (.base (.bl _)) (by decide +kernel) ?_
          walk_at "rds"
          refine L2.iteF ?_
          walk_at "rds"
          refine ⟨_, u, f, rfl, by omega, lu, by omega, ?_⟩
          walk_at "rds"
          refine Y.iteN (fun e => absurd rfl e) (fun _ => ?_)
          walk_at "rds"
          exact ⟨_, _, rfl, fun T => (b3 T).trans (b4 T)⟩
        · subst e1
          walk_at "rds"
          exact q H3 (ht2.but (b3 []) (by simp)) (b02.trans (b3 [t]))
end
end K11


namespace K11
open PySem PySem.Spec PyProof.Rows L2 StX RZ
open Y (But DefAt Stay Low Sm Sms SmOk eqTo)
def sp_law (K : PySem.W.Frag) (P : Addr) : Sp := fun vs H Q _ => ∃ (a : Addr) (ns : List Int), vs = [.ref a] ∧ SqL K H a (ns.map V.int) ∧ ns.length ≤ 63 ∧ GxR.TabG H P ∧ ∀ H', Q (.bl true) H'
section
variable {P : Program} {w : World} {K : PySem.W.Frag} {mg : Str → Option Value} {base : Heap}
theorem ok_law (T : Tx K mg) (B : Tb T base) : FnOk P w K mg base CX0 8 T.f_law T.v_law ["script"] (sp_law K T.p_is_letters) := by
  refine T.d_law.F.ok sc_law (fun vs H Q E h => ?_) (fun cdv A outer s H vs Q E hr h => ?_)
  · obtain ⟨a, ns, rfl, _⟩ := h
    rfl
  · obtain ⟨a, ns, rfl, hS, hn, hT, q⟩ := h
    refine ⟨_, (pss_cons (ps_set (i := 1) sc_law.nd rfl (Or.inl rfl) (Y.pcall T.d__law_tape (ok__law_tape T) (hr.mono (by decide)) (pa_cons (pv 0) (pa_cons pe_int pa_nil))))
    (pss_cons (ps_set (i := 2) sc_law.nd rfl (Or.inl rfl) (Y.pcall T.d__law_alphabet (ok__law_alphabet T) (hr.mono (by decide)) (pa_cons (pv 1) pa_nil)))
    (pss_cons (ps_set (i := 3) sc_law.nd rfl (Or.inl rfl) (Y.pcall T.d__law_letters (ok__law_letters T) (hr.mono (by decide)) (pa_cons (pv 1) (pa_cons (pv 2) (pa_cons pe_int (pa_cons pe_int pa_nil))))))
    (Evl.pss_cut (ps_if (pt_cmpR Y.op_eqI (Y.pcall T.d__law_take (ok__law_take T) (hr.mono (by decide)) (pa_cons (pv 1) (pa_cons pe_int pa_nil))) pe_int (nomark _))
      (pss_one (ps_set (i := 3) sc_law.nd rfl (Or.inl rfl) (Y.pcall T.d__law_letters (ok__law_letters T) (hr.mono (by decide)) (pa_cons (pv 1) (pa_cons (pv 2) (pa_cons pe_int (pa_cons pe_int pa_nil)))))))
      pss_nil)
    (pss_cons (ps_set (i := 4) sc_law.nd rfl (Or.inl rfl) (Y.pmake0 T.d_Grammar____init__ T.mk_Grammar T.g_Grammar (ok_Grammar____init__ T) (hr.mono (by decide))))
    (pss_cons (ps_set (i := 5) sc_law.nd rfl (Or.inl rfl) (pe_lst pa_nil))
    (Evl.pss_cut (ps_if (pt_not (pt_val (Y.pcall T.d__law_holds (ok__law_holds T) (hr.mono (by decide)) (pa_cons (pv 4) (pa_cons (Y.pcall T.d__law_tape (ok__law_tape T) (hr.mono (by decide)) (pa_cons (pv 0) (pa_cons pe_int pa_nil))) (pa_cons (pv 2) (pa_cons (pv 5) (pa_cons (pv 3) pa_nil))))))))
      (pss_one (ps_ret pe_bl))
      pss_nil)
    (pss_cons (ps_for PassesOwn.never rfl (pi_range1 (by rfl) T.b.range (pa_cons (Y.pcall T.d__law_take (ok__law_take T) (hr.mono (by decide)) (pa_cons (pv 1) (pa_cons pe_int pa_nil))) pa_nil)) (pg_name (i := 6) sc_law.nd rfl (Or.inl rfl))
      (pss_cons (ps_set (i := 7) sc_law.nd rfl (Or.inl rfl) (Y.pcall T.d__law_tape (ok__law_tape T) (hr.mono (by decide)) (pa_cons (pv 0) (pa_cons (pe_op op_add pe_int (pv 6)) pa_nil))))
      (pss_cons (ps_set (i := 8) sc_law.nd rfl (Or.inl rfl) (Y.pcall T.d__law_letters (ok__law_letters T) (hr.mono (by decide)) (pa_cons (pv 7) (pa_cons (pv 2) (pa_cons pe_int (pa_cons pe_int pa_nil))))))
      (pss_cons (ps_set (i := 9) sc_law.nd rfl (Or.inr rfl) (pe_tup (pa_cons (pv 8) (pa_cons (Y.pcall T.d__law_letters (ok__law_letters T) (hr.mono (by decide)) (pa_cons (pv 7) (pa_cons (pv 2) (pa_cons pe_int (pa_cons pe_int pa_nil))))) (pa_cons (Y.pcall T.d__law_letters (ok__law_letters T) (hr.mono (by decide)) (pa_cons (pv 7) (pa_cons (pv 2) (pa_cons pe_int (pa_cons (pe_ix ix_list (pe_lst (pa_cons pe_int (pa_cons pe_int pa_nil))) (Y.pcall T.d__law_take (ok__law_take T) (hr.mono (by decide)) (pa_cons (pv 7) (pa_cons pe_int pa_nil))) (fun _ _ => rfl)) pa_nil))))) pa_nil)))))
      (pss_one (ps_if (pt_cmpR Y.op_eqI (pe_callB Y.call_lenQ (by rfl) T.b.len (by decide +kernel) (pa_cons (pe_lc (own := [("one", 10)]) (g := gName 10) (tt := _) rfl sc_law.nd (pi_list (pv 5)) (blkOk_by (N := N_law) (sc := defScope s_law) (by decide +kernel)) (fun _ _ _ _ _ => (pg_name (i := 10) sc_law.nd rfl (Or.inl rfl))) (fun _ _ _ _ _ => pts_one ((pt_cmpR (show OpR _ _ (rEqD K) from op_eqD hr.units) (pe_slice (show SlR _ (rSlT K) from sl_tup) (pv 10) po_none (po_some pe_int)) (pe_slice (show SlR _ (rSlT K) from sl_tup) (pv 9) po_none (po_some pe_int)) (nomark _)))) (fun _ _ _ _ _ => (pv 10))) pa_nil)) pe_int (nomark _))
        (pss_cons (ps_expr (pe_bm PySem.F.plainAttrs_list PySem.F.slot_list_append PySem.F.type_list_append mt_append (pv 5) (pa_cons (pv 9) pa_nil)))
        (pss_cons (ps_expr (Y.pmeth T.d_Grammar__add_seam T.cl_Grammar (ok_Grammar__add_seam T B) (hr.mono (by decide)) (pv 4) (pa_cons (pe_ix ix_tup (pv 9) pe_int (fun _ _ => rfl)) (pa_cons (pe_ix ix_tup (pv 9) pe_int (fun _ _ => rfl)) (pa_cons (pe_ix ix_tup (pv 9) pe_int (fun _ _ => rfl)) pa_nil)))))
        (pss_one (ps_if (pt_not (pt_val (Y.pcall T.d__law_holds (ok__law_holds T) (hr.mono (by decide)) (pa_cons (pv 4) (pa_cons (pv 7) (pa_cons (pv 2) (pa_cons (pv 5) (pa_cons (pv 3) pa_nil))))))))
          (pss_one (ps_ret pe_bl))
          pss_nil))))
        pss_nil))))))
    (pss_one (ps_ret pe_bl)))))))))), ?_⟩
    refine Y.st (σ := [some (.ref a), none, none, none, none, none, none, none, none, none, none]) rfl ?_
    walk_at "rds"
    refine ⟨a, ns, 0, rfl, hS, fun t H1 nt ht1 b1 => ?_⟩
    walk_at "rds"
    refine ⟨t, rfl, ht1, fun z H2 low z0 z26 ht2 b2 => ?_⟩
    have zl := len_list z
    have hne : z.cps.toList ≠ [] := List.length_pos_iff.mp (by omega)
    walk_at "rds"
    refine ⟨t, z, 1, 12, rfl, ht2, low, hne, by omega, by omega, by omega, by omega, fun f H3 lf g3 h3 ht3 b3 => ?_⟩
    have b03 : But [] H H3 := (b1 []).own nt (b2.trans b3)
    walk_at "rds"
    refine Y.cut (fun σ' H' => ∃ f : Str, σ' = [some (.ref a), some (.ref t), some (.str z), some (.str f), none, none, none, none, none, none, none] ∧ f.length ≤ 60 ∧ Tape H' t ∧ But [] H H') ?_ fun σ' H4 ⟨f, e, lf, ht4, b04⟩ => ?_
    · walk_at "rds"
      refine ⟨t, _, rfl, ht3, by omega, by omega, fun i H4 i0 i1 ht4 b4 => ?_⟩
      have b04 : But [] H H4 := b03.own nt b4
      walk_at "rds"
      refine Y.iteD (fun _ => ?_) (fun _ => ?_)
      · walk_at "rds"
        refine ⟨t, z, 13, 60, rfl, ht4, low, hne, by omega, by omega, by omega, by omega, fun f5 H5 lf5 g5 h5 ht5 b5 => ?_⟩
        walk_at "rds"
        exact ⟨_, rfl, by omega, ht5, b04.own nt b5⟩
      · walk_at "rds"
        exact ⟨_, rfl, by omega, ht4, b04⟩
    · subst e
      walk_at "rds"
      refine Y.makeR fun g H5 ng hg5 b5 => ?_
      refine ⟨g, rfl, hg5, fun mo jo H6 nmo njo G6 b6 => ⟨rfl, ?_⟩⟩
      have b05 : But [] H H5 := b04.trans (b5 [])
      have ng0 : H g = none := b04.free ng
      have nmo0 : H mo = none := b05.free nmo
      have njo0 : H jo = none := b05.free njo
      have b06 : But [] H H6 := b05.own ng0 b6
      have gt : t ≠ g := fun z => by
        obtain ⟨c, b, i, k, e⟩ := ht4
        rw [z, ng] at e
        cases e
      have ht6 := (ht4.but (b5 []) (by simp)).but b6 (not1 gt)
      walk_at "rds"
      refine ⟨(show 0 ≤ sizeLine by decide), fun pS nS => ?_⟩
      obtain ⟨H7, eq7, e7, b7⟩ := Y.gen (o := .lst []) nS
      rw [eq7]
      have nS0 : H pS = none := b06.free nS
      have b07 : But [] H H7 := b06.trans (b7 [])
      have G7 := G6.but (b7 []) (by simp) (by simp) (by simp)
      have ht7 := ht6.but (b7 []) (by simp)
      walk_at "rds"
      refine Y.cut (fun σ' H' => σ' = [some (.ref a), some (.ref t), some (.str z), some (.str f), some (.ref g), some (.ref pS), none, none, none, none, none] ∧ GrAt T.C_Grammar H' g mo jo [] ∧ H' pS = some (.lst []) ∧ Tape H' t ∧ But [] H H') ?_ fun σ' H9 ⟨e, G9, e9, ht9, b09⟩ => ?_
      · walk_at "rds"
        refine ⟨a, ns, 1, rfl, b07.seq hS (by simp), fun d H8 nd ht8 b8 => ?_⟩
        have G8 := G7.but (b8 []) (by simp) (by simp) (by simp)
        have e8 := (b8 []).lst e7 (by simp)
        have dS : pS ≠ d := ne_of_none e7 nd
        walk_at "rds"
        refine ⟨g, mo, jo, d, pS, z, f, [], [], rfl, G8, ht8, low, hne, z26, e8, trivial, by simp, fun s m => (nomatch m), fun s m => (nomatch m), lf, fun H9 ht9 b9 => ?_⟩
        obtain ⟨m1, m2, m3⟩ := G8.ne_tape ht8
        have td : t ≠ d := fun z => by
          obtain ⟨c, b, i, k, e⟩ := ht7
          rw [z, nd] at e
          cases e
        walk_at "rds"
        exact L2.iteF ⟨rfl, G8.but b9 m1 m2 m3, b9.lst e8 (not1 dS), (ht7.but (b8 []) (by simp)).but b9 (not1 td), (b07.trans (b8 [])).own (b07.free nd) b9⟩
      · subst e
        walk_at "rds"
        refine ⟨t, _, rfl, ht9, by omega, by omega, fun n H10 n0 n1 ht10 b10 => ?_⟩
        obtain ⟨m1, m2, m3⟩ := G9.ne_tape ht9
        have G10 := G9.but b10 m1 m2 m3
        have tS : pS ≠ t := fun z => by
          obtain ⟨c, b, i, k, e⟩ := ht9
          rw [z, e] at e9
          cases e9
        have e10 := b10.lst e9 (not1 tS)
        have b010 : But [] H H10 := b09.own nt b10
        refine Y.rngI (by omega) (by omega) ?_
        refine Y.loopR (fun j σ' H' => ∃ (vs : List V) (ss : List Y.Seam) (x6 x7 x8 x9 : Option V), σ' = [some (.ref a), some (.ref t), some (.str z), some (.str f), some (.ref g), some (.ref pS), x6, x7, x8, x9, none] ∧ H' pS = some (.lst vs) ∧ Sms H' vs ss ∧ vs.length ≤ j ∧ (∀ s ∈ ss, SmOk s) ∧ (∀ s ∈ ss, s.1.length ≤ 4) ∧ GrAt T.C_Grammar H' g mo jo ss ∧ But [] H H')
          ⟨[], [], none, none, none, none, rfl, e10, trivial, Nat.le_refl _, fun s m => (nomatch m), fun s m => (nomatch m), G10, b010⟩ (fun j σ' H' hj ⟨vs, ss, x6, x7, x8, x9, e, hV, hs, lV, ok, l4, G, bb⟩ => ?_) (fun σ' H' ⟨vs, ss, x6, x7, x8, x9, e, hV, hs, lV, ok, l4, G, bb⟩ => ?_)
        · subst e
          have lx := hs.len
          walk_at "rds"
          refine ⟨a, ns, 2 + j, by rw [show ((2 + j : Nat) : Int) = 2 + (j : Int) by omega], bb.seq hS (by simp), fun d H11 nd ht11 b11 => ?_⟩
          have nd0 : H d = none := bb.free nd
          have dS : pS ≠ d := ne_of_none hV nd
          walk_at "rds"
          refine ⟨d, z, 1, 4, rfl, ht11, low, hne, by omega, by omega, by omega, by omega, fun l H12 ll g12 h12 ht12 b12 => ?_⟩
          walk_at "rds"
          refine ⟨d, z, 1, 4, rfl, ht12, low, hne, by omega, by omega, by omega, by omega, fun r H13 lr g13 h13 ht13 b13 => ?_⟩
          walk_at "rds"
          refine drawL [1, 8] rfl ht13 rfl (by decide) (by decide) fun m H14 hm ht14 b14 => ?_
          have hmb : 1 ≤ m ∧ m ≤ 8 := by
            simp at hm
            omega
          walk_at "rds"
          refine ⟨d, z, 0, m, rfl, ht14, low, hne, by omega, by omega, by omega, by omega, fun jn H15 lj g15 h15 ht15 b15 => ?_⟩
          have bd : But [d] H11 H15 := ((b12.trans b13).trans b14).trans b15
          have bb15 : But [] H H15 := (bb.trans (b11 [])).own nd0 bd
          have G11 := G.but (b11 []) (by simp) (by simp) (by simp)
          obtain ⟨m1, m2, m3⟩ := G11.ne_tape ht11
          have G15 := G11.but bd m1 m2 m3
          have hV15 := bd.lst ((b11 []).lst hV (by simp)) (not1 dS)
          have hs15 := hs.stay ((b11 []).stay0.trans (bd.stay ht11.noTup))
          have oks : SmOk (l, r, jn) := ⟨ll, lr, lj, by show l.length ≤ 1000; omega, by show r.length ≤ 1000; omega, by show jn.length ≤ 1000; omega⟩
          walk_at "rds"
          refine ⟨(show 3 ≤ sizeLine by decide), fun va na => ?_⟩
          obtain ⟨H16, eq16, e16, b16⟩ := Y.gen (o := .tup [.str l, .str r, .str jn]) na
          rw [eq16]
          have G16 := G15.but (b16 []) (by simp) (by simp) (by simp)
          have hV16 := (b16 []).lst hV15 (by simp)
          have hs16 := hs15.stay (b16 []).stay0
          have ht16 := ht15.but (b16 []) (by simp)
          have bb16 : But [] H H16 := bb15.trans (b16 [])
          walk_at "rds"
          refine Y.lcLs (.inl (.inl hV16)) fun D nD => ?_
          refine Y.lcL (Y.sameAs H16 l r) (fun v => v) (.inl (.inl hV16)) nD (by omega) (fun _ => rfl) (fun x H5 QT m b5 hQ => ?_) (fun x H5 QV m _ b5 hQ => ?_) (fun H5 b5 e5 => ?_)
          · obtain ⟨s', ms', hs'⟩ := hs16.mem m
            have hh := Y.sameAs_at (l := l) (r := r) hs'
            obtain ⟨xa, rfl, exa⟩ := hs'
            walk_at "rds"
            refine Y.slT (.inl (.inl ((b5 []).tup exa (by simp)))) (fun h => absurd h.2 (show (2 : Nat) ≠ 3 by decide)) fun t1 H17 n1 et1 bt1 => ?_
            walk_at "rds"
            refine Y.slT (.inl (.inl ((bt1 []).tup ((b5 []).tup e16 (by simp)) (by simp)))) (fun h => absurd h.2 (show (2 : Nat) ≠ 3 by decide)) fun t2 H18 n2 et2 bt2 => ?_
            have k1 := ok s' ms'
            refine Y.eqD (d := Y.prT s'.1 s'.2.1) (e := Y.prT l r) (.tup (.inl (.inl ((bt2 []).tup et1 (by simp)))) (.cons (.str _) (.cons (.str _) .nil))) (.tup (.inl (.inl et2)) (.cons (.str _) (.cons (.str _) .nil))) (Y.prT_shaped k1.l1 k1.l2) (Y.prT_shaped ll lr) ?_
            rw [Y.prT_eqv, ← hh]
            walk_at "rds"
            exact hQ H18 fun T => (bt1 T).trans (bt2 T)
          · walk_at "rds"
            exact hQ H5 fun _ => But.refl _
          · have hV5 := (b5 []).lst hV16 (by simp)
            have hs5 := hs16.stay (b5 []).stay0
            have G5 := G16.but (b5 []) (by simp) (by simp) (by simp)
            have ht5 := ht16.but (b5 []) (by simp)
            have bb5 : But [] H H5 := bb16.trans (b5 [])
            have s5 := (b5 []).tup e16 (by simp)
            walk_at "rds"
            refine Y.lenL (.inl (.inl e5)) ?_
            walk_at "rds"
            refine Y.iteD (fun h1 => ?_) (fun h1 => ?_)
            · have e0 : (vs.filter (Y.sameAs H16 l r)).length = 0 := by
                rw [List.map_id'] at h1
                omega
              have hno := Y.none_same hs16 e0
              walk_at "rds"
              refine Y.tyL (.inl (.inl hV5)) ?_
              walk_at "rds"
              refine Y.app hV5 (Nat.lt_of_le_of_lt (show vs.length ≤ 2000 by omega) (by decide)) fun H19 e19 b19 => ?_
              have b19' := b19 [pS] (by simp)
              have st := b19'.stay (Y.lst_noTup hV5)
              obtain ⟨dx, fs, hgg, F⟩ := id G5.ob
              have gS : g ∉ [pS] := fun z => by rw [List.mem_singleton.mp z, hV5] at hgg; cases hgg
              have mS : mo ∉ [pS] := fun z => by
                have := ne_of_none (a := mo) (b := pS) (H := H6) G6.mo nS
                exact this (List.mem_singleton.mp z)
              have jS : jo ∉ [pS] := fun z => by
                have := G5.jo
                rw [List.mem_singleton.mp z, hV5] at this
                cases this
              have dS2 : d ≠ pS := fun z => dS z.symm
              have G19 := G5.but b19' gS mS jS
              have ht19 := ht5.but b19' (not1 dS2)
              have s19 := st _ _ s5
              obtain ⟨dx, fs, hgg, F⟩ := id G19.ob
              walk_at "rds"
              refine Y.obj hgg F.n2 ?_
              walk_at "rds"
              refine Y.ixT (.inl (.inl s19)) (v := .str l) rfl ?_
              walk_at "rds"
              refine Y.ixT (.inl (.inl s19)) (v := .str r) rfl ?_
              walk_at "rds"
              refine Y.ixT (.inl (.inl s19)) (v := .str jn) rfl ?_
              walk_at "rds"
              have bb19 : But [] H H19 := bb5.own nS0 b19'
              refine ⟨g, mo, jo, ss, (l, r, jn), rfl, G19, by omega, oks, by show 1 ≤ l.length; omega, by show l.length ≤ 4; omega, by show 1 ≤ r.length; omega, by show r.length ≤ 4; omega, by show jn.length ≤ 8; omega, hno, bb19.tab _ hT, fun H20 G20 b20 => ?_⟩
              have bb20 : But [] H H20 := bb19.own njo0 b20
              have jS2 : pS ∉ [jo] := fun z => jS (List.mem_singleton.mpr (List.mem_singleton.mp z).symm)
              have st20 : Stay H19 H20 := b20.stay fun x m xs e => by
                rw [List.mem_singleton.mp m, G19.jo] at e
                cases e
              have hV20 := b20.lst e19 jS2
              have hs20 : Sms H20 (vs ++ [.ref va]) (ss ++ [(l, r, jn)]) := (Sms.append (ws := [V.ref va]) (ts := [(l, r, jn)]) (hs5.stay st) ⟨⟨va, rfl, s19⟩, trivial⟩).stay st20
              have ht20 := ht19.but b20 (fun z => by
                have h3 := (G19.ne_tape ht19).2.2
                exact h3 (List.mem_singleton.mpr (List.mem_singleton.mp z).symm))
              have ok2 : ∀ s ∈ ss ++ [(l, r, jn)], SmOk s := fun s m => by
                rcases List.mem_append.mp m with m | m
                · exact ok s m
                · rw [List.mem_singleton.mp m]
                  exact oks
              have l42 : ∀ s ∈ ss ++ [(l, r, jn)], s.1.length ≤ 4 := fun s m => by
                rcases List.mem_append.mp m with m | m
                · exact l4 s m
                · rw [List.mem_singleton.mp m]
                  show l.length ≤ 4
                  omega
              have lss : (ss ++ [(l, r, jn)]).length ≤ 1000 := by
                rw [List.length_append]
                show ss.length + 1 ≤ 1000
                omega
              walk_at "rds"
              refine ⟨g, mo, jo, d, pS, z, f, _, _, rfl, G20, ht20, low, hne, z26, hV20, hs20, lss, ok2, l42, lf, fun H21 ht21 b21 => ?_⟩
              obtain ⟨m1, m2, m3⟩ := G20.ne_tape ht20
              walk_at "rds"
              exact L2.iteF ⟨_, _, _, _, _, _, rfl, b21.lst hV20 (not1 dS), hs20.stay (b21.stay ht20.noTup), by rw [List.length_append]; show vs.length + 1 ≤ j + 1; omega, ok2, l42, G20.but b21 m1 m2 m3, bb20.own nd0 b21⟩
            · walk_at "rds"
              exact ⟨vs, ss, _, _, _, _, rfl, hV5, hs5, by omega, ok, l4, G5, bb5⟩
        · subst e
          walk_at "rds"
          exact q H'
end
end K11


namespace K11
open PySem PySem.Spec PyProof.Rows L2
open Y (But DefAt)
/-! ## what the top has written -/
/-- the code of a def and its table, at the law's entry -/
theorem tab_at {q : Program} {loose : List Str} {mean : PySem.ExcName → Option Value} {mg mb : Str → Option Value} {h : Heap} {K : PySem.W.Frag} {x : Str} {c P : Addr} (T : PyProof.Rows.Top q loose mean mg mb h) (X : K.In h) (hr : ((PyProof.Rows.recsOf q).any fun e => e.name == x) = true) (ht : PySem.W.tabIn K x = some (c, P)) :
    PySem.W.CodeHd h c P ∧ h.get? P = some { cls := .none, data := .fields #[] } := by
  cases hf : (PyProof.Rows.recsOf q).find? (fun e => e.name == x) with
  | none =>
    obtain ⟨d, hm, hn⟩ := List.any_eq_true.mp hr
    exact absurd hn (List.find?_eq_none.mp hf d hm)
  | some d => exact PySem.W.tab_of T X hf ht
theorem tab_in {K : PySem.W.Frag} {x : Str} {f c P : Addr} {oc od' : Value} {od on : Option Addr} {sl os : Array (Option Value)} {fd : FuncData} {vs : Array Value} (a : PySem.W.nsIn K mainGlobals x = some (some (.ref f)))
    (l : K.lookup f = some ⟨oc, od, .func fd, sl⟩) (e : fd.code = .ref c) (t : K.lookup c = some ⟨od', on, .fields vs, os⟩) (v : (vs[11]? : Option Value) = some (.ref P)) : PySem.W.tabIn K x = some (c, P) := by
  unfold PySem.W.tabIn
  rw [a]
  dsimp only
  rw [l]
  dsimp only
  rw [e]
  dsimp only
  rw [t]
  dsimp only
  rw [v]
theorem all_mk {l : PySem.W.OpenLaw} {q : Program} {loose : List Str} {w : World} {K : PySem.W.Frag} {h : Heap} {mean : PySem.ExcName → Option Value} {mg mb : Str → Option Value} {fa : Addr} (TT : PyProof.Rows.Top q loose mean mg mb h) (X : K.In h) (hfa : mg "law" = some (.ref fa))
    {C_Grammar : Addr} {f_is_letter : Addr} {oc_is_letter kV_is_letter dc_is_letter pm_is_letter cd_is_letter ct_is_letter : Value} {od_is_letter an_is_letter : Option Addr} {sl_is_letter : Array (Option Value)} {f_is_letters : Addr} {oc_is_letters kV_is_letters dc_is_letters pm_is_letters cd_is_letters ct_is_letters : Value} {od_is_letters an_is_letters : Option Addr} {sl_is_letters : Array (Option Value)} {f_check_letters : Addr} {oc_check_letters kV_check_letters dc_check_letters pm_check_letters cd_check_letters ct_check_letters : Value} {od_check_letters an_check_letters : Option Addr} {sl_check_letters : Array (Option Value)} {f_Grammar____init__ : Addr} {oc_Grammar____init__ kV_Grammar____init__ dc_Grammar____init__ pm_Grammar____init__ cd_Grammar____init__ ct_Grammar____init__ : Value} {od_Grammar____init__ an_Grammar____init__ : Option Addr} {sl_Grammar____init__ : Array (Option Value)} {f_Grammar__add_seam : Addr} {oc_Grammar__add_seam kV_Grammar__add_seam dc_Grammar__add_seam pm_Grammar__add_seam cd_Grammar__add_seam ct_Grammar__add_seam : Value} {od_Grammar__add_seam an_Grammar__add_seam : Option Addr} {sl_Grammar__add_seam : Array (Option Value)} {f_Grammar__seams : Addr} {oc_Grammar__seams kV_Grammar__seams dc_Grammar__seams pm_Grammar__seams cd_Grammar__seams ct_Grammar__seams : Value} {od_Grammar__seams an_Grammar__seams : Option Addr} {sl_Grammar__seams : Array (Option Value)} {f_reach : Addr} {oc_reach kV_reach dc_reach pm_reach cd_reach ct_reach : Value} {od_reach an_reach : Option Addr} {sl_reach : Array (Option Value)} {f_is_possible : Addr} {oc_is_possible kV_is_possible dc_is_possible pm_is_possible cd_is_possible ct_is_possible : Value} {od_is_possible an_is_possible : Option Addr} {sl_is_possible : Array (Option Value)} {f_possible : Addr} {oc_possible kV_possible dc_possible pm_possible cd_possible ct_possible : Value} {od_possible an_possible : Option Addr} {sl_possible : Array (Option Value)} {f__law_tape : Addr} {oc__law_tape kV__law_tape dc__law_tape pm__law_tape cd__law_tape ct__law_tape : Value} {od__law_tape an__law_tape : Option Addr} {sl__law_tape : Array (Option Value)} {f__law_take : Addr} {oc__law_take kV__law_take dc__law_take pm__law_take cd__law_take ct__law_take : Value} {od__law_take an__law_take : Option Addr} {sl__law_take : Array (Option Value)} {f__law_letters : Addr} {oc__law_letters kV__law_letters dc__law_letters pm__law_letters cd__law_letters ct__law_letters : Value} {od__law_letters an__law_letters : Option Addr} {sl__law_letters : Array (Option Value)} {f__law_alphabet : Addr} {oc__law_alphabet kV__law_alphabet dc__law_alphabet pm__law_alphabet cd__law_alphabet ct__law_alphabet : Value} {od__law_alphabet an__law_alphabet : Option Addr} {sl__law_alphabet : Array (Option Value)} {f__law_due : Addr} {oc__law_due kV__law_due dc__law_due pm__law_due cd__law_due ct__law_due : Value} {od__law_due an__law_due : Option Addr} {sl__law_due : Array (Option Value)} {f__law_strings : Addr} {oc__law_strings kV__law_strings dc__law_strings pm__law_strings cd__law_strings ct__law_strings : Value} {od__law_strings an__law_strings : Option Addr} {sl__law_strings : Array (Option Value)} {f__law_holds : Addr} {oc__law_holds kV__law_holds dc__law_holds pm__law_holds cd__law_holds ct__law_holds : Value} {od__law_holds an__law_holds : Option Addr} {sl__law_holds : Array (Option Value)} {f_law : Addr} {oc_law kV_law dc_law pm_law cd_law ct_law : Value} {od_law an_law : Option Addr} {sl_law : Array (Option Value)} {tLS tLJ : Tok} {cc_is_letters pp_is_letters : Addr} {ob_is_letters : Value} {on_is_letters : Option Addr} {os_is_letters : Array (Option Value)} {vs_is_letters : Array Value}
    (aC_Grammar : PySem.W.nsIn K mainGlobals "Grammar" = some (some (.ref C_Grammar)))
    (pg_Grammar : PySem.W.plainGet K C_Grammar Str.empty = true)
    (hd_Grammar : PySem.W.hasDictIn K C_Grammar = true)
    (po_Grammar : PySem.W.plainOver K C_Grammar = true)
    (sa_Grammar : PySem.W.findIn K (.ref C_Grammar) "__setattr__" = some (some (.builtin "object.__setattr__")))
    (mkk_Grammar : PySem.W.makesIn K C_Grammar = true)
    (kc_Grammar : PySem.W.keepIn K (.ref C_Grammar) = true)
    (nf_Grammar__values : PySem.W.findIn K (.ref C_Grammar) "_values" = some none)
    (nf_Grammar__categories : PySem.W.findIn K (.ref C_Grammar) "_categories" = some none)
    (nf_Grammar__start : PySem.W.findIn K (.ref C_Grammar) "_start" = some none)
    (nf_Grammar__first : PySem.W.findIn K (.ref C_Grammar) "_first" = some none)
    (nf_Grammar__rules : PySem.W.findIn K (.ref C_Grammar) "_rules" = some none)
    (nf_Grammar__morphs : PySem.W.findIn K (.ref C_Grammar) "_morphs" = some none)
    (nf_Grammar__targets : PySem.W.findIn K (.ref C_Grammar) "_targets" = some none)
    (nf_Grammar__ends : PySem.W.findIn K (.ref C_Grammar) "_ends" = some none)
    (nf_Grammar__joins : PySem.W.findIn K (.ref C_Grammar) "_joins" = some none)
    (a_is_letter : PySem.W.nsIn K mainGlobals "is_letter" = some (some (.ref f_is_letter)))
    (l_is_letter : K.lookup f_is_letter = some ⟨oc_is_letter, od_is_letter, .func (PySem.W.fnOf "is_letter" "is_letter" (defArgs s_is_letter) (defBody s_is_letter) (defScope s_is_letter) .none kV_is_letter dc_is_letter pm_is_letter an_is_letter cd_is_letter ct_is_letter), sl_is_letter⟩)
    (c_is_letter : PySem.W.codeIn K cd_is_letter "is_letter" = true)
    (k_is_letter : PySem.W.keepIn K (.ref f_is_letter) = true)
    (a_is_letters : PySem.W.nsIn K mainGlobals "is_letters" = some (some (.ref f_is_letters)))
    (l_is_letters : K.lookup f_is_letters = some ⟨oc_is_letters, od_is_letters, .func (PySem.W.fnOf "is_letters" "is_letters" (defArgs s_is_letters) (defBody s_is_letters) (defScope s_is_letters) .none kV_is_letters dc_is_letters pm_is_letters an_is_letters cd_is_letters ct_is_letters), sl_is_letters⟩)
    (c_is_letters : PySem.W.codeIn K cd_is_letters "is_letters" = true)
    (k_is_letters : PySem.W.keepIn K (.ref f_is_letters) = true)
    (a_check_letters : PySem.W.nsIn K mainGlobals "check_letters" = some (some (.ref f_check_letters)))
    (l_check_letters : K.lookup f_check_letters = some ⟨oc_check_letters, od_check_letters, .func (PySem.W.fnOf "check_letters" "check_letters" (defArgs s_check_letters) (defBody s_check_letters) (defScope s_check_letters) .none kV_check_letters dc_check_letters pm_check_letters an_check_letters cd_check_letters ct_check_letters), sl_check_letters⟩)
    (c_check_letters : PySem.W.codeIn K cd_check_letters "check_letters" = true)
    (k_check_letters : PySem.W.keepIn K (.ref f_check_letters) = true)
    (a_Grammar____init__ : PySem.W.findIn K (.ref C_Grammar) "__init__" = some (some (.ref f_Grammar____init__)))
    (i_Grammar____init__ : PySem.W.isFn K (.ref f_Grammar____init__) = true)
    (l_Grammar____init__ : K.lookup f_Grammar____init__ = some ⟨oc_Grammar____init__, od_Grammar____init__, .func (PySem.W.fnOf "__init__" "Grammar.__init__" (defArgs s_Grammar____init__) (defBody s_Grammar____init__) (defScope s_Grammar____init__) .none kV_Grammar____init__ dc_Grammar____init__ pm_Grammar____init__ an_Grammar____init__ cd_Grammar____init__ ct_Grammar____init__), sl_Grammar____init__⟩)
    (c_Grammar____init__ : PySem.W.codeIn K cd_Grammar____init__ "Grammar.__init__" = true)
    (k_Grammar____init__ : PySem.W.keepIn K (.ref f_Grammar____init__) = true)
    (a_Grammar__add_seam : PySem.W.findIn K (.ref C_Grammar) "add_seam" = some (some (.ref f_Grammar__add_seam)))
    (i_Grammar__add_seam : PySem.W.isFn K (.ref f_Grammar__add_seam) = true)
    (l_Grammar__add_seam : K.lookup f_Grammar__add_seam = some ⟨oc_Grammar__add_seam, od_Grammar__add_seam, .func (PySem.W.fnOf "add_seam" "Grammar.add_seam" (defArgs s_Grammar__add_seam) (defBody s_Grammar__add_seam) (defScope s_Grammar__add_seam) .none kV_Grammar__add_seam dc_Grammar__add_seam pm_Grammar__add_seam an_Grammar__add_seam cd_Grammar__add_seam ct_Grammar__add_seam), sl_Grammar__add_seam⟩)
    (c_Grammar__add_seam : PySem.W.codeIn K cd_Grammar__add_seam "Grammar.add_seam" = true)
    (k_Grammar__add_seam : PySem.W.keepIn K (.ref f_Grammar__add_seam) = true)
    (a_Grammar__seams : PySem.W.findIn K (.ref C_Grammar) "seams" = some (some (.ref f_Grammar__seams)))
    (i_Grammar__seams : PySem.W.isFn K (.ref f_Grammar__seams) = true)
    (l_Grammar__seams : K.lookup f_Grammar__seams = some ⟨oc_Grammar__seams, od_Grammar__seams, .func (PySem.W.fnOf "seams" "Grammar.seams" (defArgs s_Grammar__seams) (defBody s_Grammar__seams) (defScope s_Grammar__seams) .none kV_Grammar__seams dc_Grammar__seams pm_Grammar__seams an_Grammar__seams cd_Grammar__seams ct_Grammar__seams), sl_Grammar__seams⟩)
    (c_Grammar__seams : PySem.W.codeIn K cd_Grammar__seams "Grammar.seams" = true)
    (k_Grammar__seams : PySem.W.keepIn K (.ref f_Grammar__seams) = true)
    (a_reach : PySem.W.nsIn K mainGlobals "reach" = some (some (.ref f_reach)))
    (l_reach : K.lookup f_reach = some ⟨oc_reach, od_reach, .func (PySem.W.fnOf "reach" "reach" (defArgs s_reach) (defBody s_reach) (defScope s_reach) .none kV_reach dc_reach pm_reach an_reach cd_reach ct_reach), sl_reach⟩)
    (c_reach : PySem.W.codeIn K cd_reach "reach" = true)
    (k_reach : PySem.W.keepIn K (.ref f_reach) = true)
    (a_is_possible : PySem.W.nsIn K mainGlobals "is_possible" = some (some (.ref f_is_possible)))
    (l_is_possible : K.lookup f_is_possible = some ⟨oc_is_possible, od_is_possible, .func (PySem.W.fnOf "is_possible" "is_possible" (defArgs s_is_possible) (defBody s_is_possible) (defScope s_is_possible) .none kV_is_possible dc_is_possible pm_is_possible an_is_possible cd_is_possible ct_is_possible), sl_is_possible⟩)
    (c_is_possible : PySem.W.codeIn K cd_is_possible "is_possible" = true)
    (k_is_possible : PySem.W.keepIn K (.ref f_is_possible) = true)
    (a_possible : PySem.W.nsIn K mainGlobals "possible" = some (some (.ref f_possible)))
    (l_possible : K.lookup f_possible = some ⟨oc_possible, od_possible, .func (PySem.W.fnOf "possible" "possible" (defArgs s_possible) (defBody s_possible) (defScope s_possible) .none kV_possible dc_possible pm_possible an_possible cd_possible ct_possible), sl_possible⟩)
    (c_possible : PySem.W.codeIn K cd_possible "possible" = true)
    (k_possible : PySem.W.keepIn K (.ref f_possible) = true)
    (a__law_tape : PySem.W.nsIn K mainGlobals "_law_tape" = some (some (.ref f__law_tape)))
    (l__law_tape : K.lookup f__law_tape = some ⟨oc__law_tape, od__law_tape, .func (PySem.W.fnOf "_law_tape" "_law_tape" (defArgs s__law_tape) (defBody s__law_tape) (defScope s__law_tape) .none kV__law_tape dc__law_tape pm__law_tape an__law_tape cd__law_tape ct__law_tape), sl__law_tape⟩)
    (c__law_tape : PySem.W.codeIn K cd__law_tape "_law_tape" = true)
    (k__law_tape : PySem.W.keepIn K (.ref f__law_tape) = true)
    (a__law_take : PySem.W.nsIn K mainGlobals "_law_take" = some (some (.ref f__law_take)))
    (l__law_take : K.lookup f__law_take = some ⟨oc__law_take, od__law_take, .func (PySem.W.fnOf "_law_take" "_law_take" (defArgs s__law_take) (defBody s__law_take) (defScope s__law_take) .none kV__law_take dc__law_take pm__law_take an__law_take cd__law_take ct__law_take), sl__law_take⟩)
    (c__law_take : PySem.W.codeIn K cd__law_take "_law_take" = true)
    (k__law_take : PySem.W.keepIn K (.ref f__law_take) = true)
    (a__law_letters : PySem.W.nsIn K mainGlobals "_law_letters" = some (some (.ref f__law_letters)))
    (l__law_letters : K.lookup f__law_letters = some ⟨oc__law_letters, od__law_letters, .func (PySem.W.fnOf "_law_letters" "_law_letters" (defArgs s__law_letters) (defBody s__law_letters) (defScope s__law_letters) .none kV__law_letters dc__law_letters pm__law_letters an__law_letters cd__law_letters ct__law_letters), sl__law_letters⟩)
    (c__law_letters : PySem.W.codeIn K cd__law_letters "_law_letters" = true)
    (k__law_letters : PySem.W.keepIn K (.ref f__law_letters) = true)
    (a__law_alphabet : PySem.W.nsIn K mainGlobals "_law_alphabet" = some (some (.ref f__law_alphabet)))
    (l__law_alphabet : K.lookup f__law_alphabet = some ⟨oc__law_alphabet, od__law_alphabet, .func (PySem.W.fnOf "_law_alphabet" "_law_alphabet" (defArgs s__law_alphabet) (defBody s__law_alphabet) (defScope s__law_alphabet) .none kV__law_alphabet dc__law_alphabet pm__law_alphabet an__law_alphabet cd__law_alphabet ct__law_alphabet), sl__law_alphabet⟩)
    (c__law_alphabet : PySem.W.codeIn K cd__law_alphabet "_law_alphabet" = true)
    (k__law_alphabet : PySem.W.keepIn K (.ref f__law_alphabet) = true)
    (a__law_due : PySem.W.nsIn K mainGlobals "_law_due" = some (some (.ref f__law_due)))
    (l__law_due : K.lookup f__law_due = some ⟨oc__law_due, od__law_due, .func (PySem.W.fnOf "_law_due" "_law_due" (defArgs s__law_due) (defBody s__law_due) (defScope s__law_due) .none kV__law_due dc__law_due pm__law_due an__law_due cd__law_due ct__law_due), sl__law_due⟩)
    (c__law_due : PySem.W.codeIn K cd__law_due "_law_due" = true)
    (k__law_due : PySem.W.keepIn K (.ref f__law_due) = true)
    (a__law_strings : PySem.W.nsIn K mainGlobals "_law_strings" = some (some (.ref f__law_strings)))
    (l__law_strings : K.lookup f__law_strings = some ⟨oc__law_strings, od__law_strings, .func (PySem.W.fnOf "_law_strings" "_law_strings" (defArgs s__law_strings) (defBody s__law_strings) (defScope s__law_strings) .none kV__law_strings dc__law_strings pm__law_strings an__law_strings cd__law_strings ct__law_strings), sl__law_strings⟩)
    (c__law_strings : PySem.W.codeIn K cd__law_strings "_law_strings" = true)
    (k__law_strings : PySem.W.keepIn K (.ref f__law_strings) = true)
    (a__law_holds : PySem.W.nsIn K mainGlobals "_law_holds" = some (some (.ref f__law_holds)))
    (l__law_holds : K.lookup f__law_holds = some ⟨oc__law_holds, od__law_holds, .func (PySem.W.fnOf "_law_holds" "_law_holds" (defArgs s__law_holds) (defBody s__law_holds) (defScope s__law_holds) .none kV__law_holds dc__law_holds pm__law_holds an__law_holds cd__law_holds ct__law_holds), sl__law_holds⟩)
    (c__law_holds : PySem.W.codeIn K cd__law_holds "_law_holds" = true)
    (k__law_holds : PySem.W.keepIn K (.ref f__law_holds) = true)
    (a_law : PySem.W.nsIn K mainGlobals "law" = some (some (.ref f_law)))
    (l_law : K.lookup f_law = some ⟨oc_law, od_law, .func (PySem.W.fnOf "law" "law" (defArgs s_law) (defBody s_law) (defScope s_law) .none kV_law dc_law pm_law an_law cd_law ct_law), sl_law⟩)
    (c_law : PySem.W.codeIn K cd_law "law" = true)
    (k_law : PySem.W.keepIn K (.ref f_law) = true)
    (z_len : PySem.W.nsIn K mainGlobals "len" = some none)
    (z_range : PySem.W.nsIn K mainGlobals "range" = some none)
    (z_int : PySem.W.nsIn K mainGlobals "int" = some none)
    (z_abs : PySem.W.nsIn K mainGlobals "abs" = some none)
    (z_isinstance : PySem.W.nsIn K mainGlobals "isinstance" = some none)
    (z_min : PySem.W.nsIn K mainGlobals "min" = some none)
    (z_max : PySem.W.nsIn K mainGlobals "max" = some none)
    (z_bool : PySem.W.nsIn K mainGlobals "bool" = some none)
    (z_list : PySem.W.nsIn K mainGlobals "list" = some none)
    (z_all : PySem.W.nsIn K mainGlobals "all" = some none)
    (vLS : PySem.W.nsIn K mainGlobals "LONGEST_SIDE" = some (some (.int 4 tLS)))
    (vLJ : PySem.W.nsIn K mainGlobals "LONGEST_JOINED" = some (some (.int 8 tLJ)))
    (e_is_letters : cd_is_letters = .ref cc_is_letters)
    (t_is_letters : K.lookup cc_is_letters = some ⟨ob_is_letters, on_is_letters, .fields vs_is_letters, os_is_letters⟩)
    (v_is_letters : (vs_is_letters[11]? : Option Value) = some (.ref pp_is_letters))
    (n_is_letters : K.lookup pp_is_letters = none)
    (r_is_letters : ((PyProof.Rows.recsOf q).any fun e => e.name == "is_letters") = true) :
    LamX.LawAtS l w K CX0 8 63 "script" mg fa h := by
  have G := TT.g
  have e := (PySem.W.mg_of X G a_law).symm.trans hfa
  cases e
  have F_is_letter := fun_mk (st := s_is_letter) l_is_letter c_is_letter k_is_letter
  have B_is_letter := F_is_letter.binds (ps := ["char"]) fun _ _ _ _ _ _ us hl => match us, hl with | [_], _ => rfl
  have F_is_letters := fun_mk (st := s_is_letters) l_is_letters c_is_letters k_is_letters
  have B_is_letters := F_is_letters.binds (ps := ["text", "least", "most"]) fun _ _ _ _ _ _ us hl => match us, hl with | [_, _, _], _ => rfl
  have F_check_letters := fun_mk (st := s_check_letters) l_check_letters c_check_letters k_check_letters
  have B_check_letters := F_check_letters.binds (ps := ["text", "least", "most"]) fun _ _ _ _ _ _ us hl => match us, hl with | [_, _, _], _ => rfl
  have F_Grammar____init__ := fun_mk (st := s_Grammar____init__) l_Grammar____init__ c_Grammar____init__ k_Grammar____init__
  have B_Grammar____init__ := F_Grammar____init__.binds (ps := ["self"]) fun _ _ _ _ _ _ us hl => match us, hl with | [_], _ => rfl
  have F_Grammar__add_seam := fun_mk (st := s_Grammar__add_seam) l_Grammar__add_seam c_Grammar__add_seam k_Grammar__add_seam
  have B_Grammar__add_seam := F_Grammar__add_seam.binds (ps := ["self", "left", "right", "joined"]) fun _ _ _ _ _ _ us hl => match us, hl with | [_, _, _, _], _ => rfl
  have F_Grammar__seams := fun_mk (st := s_Grammar__seams) l_Grammar__seams c_Grammar__seams k_Grammar__seams
  have B_Grammar__seams := F_Grammar__seams.binds (ps := ["self"]) fun _ _ _ _ _ _ us hl => match us, hl with | [_], _ => rfl
  have F_reach := fun_mk (st := s_reach) l_reach c_reach k_reach
  have B_reach := F_reach.binds (ps := ["grammar"]) fun _ _ _ _ _ _ us hl => match us, hl with | [_], _ => rfl
  have F_is_possible := fun_mk (st := s_is_possible) l_is_possible c_is_possible k_is_possible
  have B_is_possible := F_is_possible.binds (ps := ["most_taken", "text", "form"]) fun _ _ _ _ _ _ us hl => match us, hl with | [_, _, _], _ => rfl
  have F_possible := fun_mk (st := s_possible) l_possible c_possible k_possible
  have B_possible := F_possible.binds (ps := ["grammar", "text", "form"]) fun _ _ _ _ _ _ us hl => match us, hl with | [_, _, _], _ => rfl
  have F__law_tape := fun_mk (st := s__law_tape) l__law_tape c__law_tape k__law_tape
  have B__law_tape := F__law_tape.binds (ps := ["script", "k"]) fun _ _ _ _ _ _ us hl => match us, hl with | [_, _], _ => rfl
  have F__law_take := fun_mk (st := s__law_take) l__law_take c__law_take k__law_take
  have B__law_take := F__law_take.binds (ps := ["tape", "many"]) fun _ _ _ _ _ _ us hl => match us, hl with | [_, _], _ => rfl
  have F__law_letters := fun_mk (st := s__law_letters) l__law_letters c__law_letters k__law_letters
  have B__law_letters := F__law_letters.binds (ps := ["tape", "letters", "least", "most"]) fun _ _ _ _ _ _ us hl => match us, hl with | [_, _, _, _], _ => rfl
  have F__law_alphabet := fun_mk (st := s__law_alphabet) l__law_alphabet c__law_alphabet k__law_alphabet
  have B__law_alphabet := F__law_alphabet.binds (ps := ["tape"]) fun _ _ _ _ _ _ us hl => match us, hl with | [_], _ => rfl
  have F__law_due := fun_mk (st := s__law_due) l__law_due c__law_due k__law_due
  have B__law_due := F__law_due.binds (ps := ["longest", "text", "form"]) fun _ _ _ _ _ _ us hl => match us, hl with | [_, _, _], _ => rfl
  have F__law_strings := fun_mk (st := s__law_strings) l__law_strings c__law_strings k__law_strings
  have B__law_strings := F__law_strings.binds (ps := ["tape", "letters", "longest", "form"]) fun _ _ _ _ _ _ us hl => match us, hl with | [_, _, _, _], _ => rfl
  have F__law_holds := fun_mk (st := s__law_holds) l__law_holds c__law_holds k__law_holds
  have B__law_holds := F__law_holds.binds (ps := ["grammar", "tape", "letters", "seams", "form"]) fun _ _ _ _ _ _ us hl => match us, hl with | [_, _, _, _, _], _ => rfl
  have F_law := fun_mk (st := s_law) l_law c_law k_law
  have B_law := F_law.binds (ps := ["script"]) fun _ _ _ _ _ _ us hl => match us, hl with | [_], _ => rfl
  have tt_is_letters := tab_at TT X r_is_letters (tab_in a_is_letters l_is_letters e_is_letters t_is_letters v_is_letters)
  let T : Tx K mg := { b := ⟨PySem.W.mg_none_of X G z_len, PySem.W.mg_none_of X G z_range, PySem.W.mg_none_of X G z_int, PySem.W.mg_none_of X G z_abs, PySem.W.mg_none_of X G z_isinstance, PySem.W.mg_none_of X G z_min, PySem.W.mg_none_of X G z_max, PySem.W.mg_none_of X G z_bool, PySem.W.mg_none_of X G z_list, PySem.W.mg_none_of X G z_all⟩, C_Grammar := C_Grammar, cl_Grammar := ⟨pg_Grammar, hd_Grammar, po_Grammar, sa_Grammar⟩, g_Grammar := PySem.W.mg_of X G aC_Grammar, n_Grammar__values := nf_Grammar__values, n_Grammar__categories := nf_Grammar__categories, n_Grammar__start := nf_Grammar__start, n_Grammar__first := nf_Grammar__first, n_Grammar__rules := nf_Grammar__rules, n_Grammar__morphs := nf_Grammar__morphs, n_Grammar__targets := nf_Grammar__targets, n_Grammar__ends := nf_Grammar__ends, n_Grammar__joins := nf_Grammar__joins, f_is_letter := f_is_letter, v_is_letter := _, d_is_letter := ⟨F_is_letter, B_is_letter, PySem.W.mg_of X G a_is_letter⟩, f_is_letters := f_is_letters, v_is_letters := _, d_is_letters := ⟨F_is_letters, B_is_letters, PySem.W.mg_of X G a_is_letters⟩, f_check_letters := f_check_letters, v_check_letters := _, d_check_letters := ⟨F_check_letters, B_check_letters, PySem.W.mg_of X G a_check_letters⟩, f_Grammar____init__ := f_Grammar____init__, v_Grammar____init__ := _, d_Grammar____init__ := ⟨F_Grammar____init__, B_Grammar____init__, ⟨a_Grammar____init__, i_Grammar____init__, k_Grammar____init__⟩⟩, mk_Grammar := ⟨mkk_Grammar, a_Grammar____init__, i_Grammar____init__, kc_Grammar⟩, f_Grammar__add_seam := f_Grammar__add_seam, v_Grammar__add_seam := _, d_Grammar__add_seam := ⟨F_Grammar__add_seam, B_Grammar__add_seam, ⟨a_Grammar__add_seam, i_Grammar__add_seam, k_Grammar__add_seam⟩⟩, f_Grammar__seams := f_Grammar__seams, v_Grammar__seams := _, d_Grammar__seams := ⟨F_Grammar__seams, B_Grammar__seams, ⟨a_Grammar__seams, i_Grammar__seams, k_Grammar__seams⟩⟩, f_reach := f_reach, v_reach := _, d_reach := ⟨F_reach, B_reach, PySem.W.mg_of X G a_reach⟩, f_is_possible := f_is_possible, v_is_possible := _, d_is_possible := ⟨F_is_possible, B_is_possible, PySem.W.mg_of X G a_is_possible⟩, f_possible := f_possible, v_possible := _, d_possible := ⟨F_possible, B_possible, PySem.W.mg_of X G a_possible⟩, f__law_tape := f__law_tape, v__law_tape := _, d__law_tape := ⟨F__law_tape, B__law_tape, PySem.W.mg_of X G a__law_tape⟩, f__law_take := f__law_take, v__law_take := _, d__law_take := ⟨F__law_take, B__law_take, PySem.W.mg_of X G a__law_take⟩, f__law_letters := f__law_letters, v__law_letters := _, d__law_letters := ⟨F__law_letters, B__law_letters, PySem.W.mg_of X G a__law_letters⟩, f__law_alphabet := f__law_alphabet, v__law_alphabet := _, d__law_alphabet := ⟨F__law_alphabet, B__law_alphabet, PySem.W.mg_of X G a__law_alphabet⟩, f__law_due := f__law_due, v__law_due := _, d__law_due := ⟨F__law_due, B__law_due, PySem.W.mg_of X G a__law_due⟩, f__law_strings := f__law_strings, v__law_strings := _, d__law_strings := ⟨F__law_strings, B__law_strings, PySem.W.mg_of X G a__law_strings⟩, f__law_holds := f__law_holds, v__law_holds := _, d__law_holds := ⟨F__law_holds, B__law_holds, PySem.W.mg_of X G a__law_holds⟩, f_law := fa, v_law := _, d_law := ⟨F_law, B_law, PySem.W.mg_of X G a_law⟩, c_is_letters := cc_is_letters, p_is_letters := pp_is_letters, k_is_letters := e_is_letters, t_LS := _, LONGEST_SIDE := PySem.W.mg_of X G vLS, t_LJ := _, LONGEST_JOINED := PySem.W.mg_of X G vLJ }
  refine ⟨_, [(cc_is_letters, pp_is_letters)], sp_law K pp_is_letters, fun p hp => ?g1, fun p hp => ?g2, fun p hp => ?g3, fun s v => .of_eq rfl, fun H a ns hl _ hT hS => ?g4, fun base _ _ hB => ok_law T ⟨(by obtain ⟨t1, t2, t3⟩ := hB (cc_is_letters, pp_is_letters) List.mem_cons_self; exact ⟨t1, t2, t3⟩)⟩⟩
  case g1 =>
    rw [List.mem_singleton.mp hp]
    exact tt_is_letters.2
  case g2 =>
    rw [List.mem_singleton.mp hp]
    exact n_is_letters
  case g3 =>
    rw [List.mem_singleton.mp hp]
    exact tt_is_letters.1
  case g4 =>
    exact ⟨a, ns, rfl, hS, hl, ⟨#[], hT _ List.mem_cons_self, trivial⟩, fun _ => rfl⟩
/-- the end, the top's own table of facts at hand -/
theorem walk_top {l : PySem.W.OpenLaw} {n k : Nat} {q : Program} {loose : List Str} {XP : (Str → Option Value) → Heap → Prop} {YP : World → Heap → Prop} {d : DefRec} {K : Params → PySem.W.Frag} {x : Str} (hn : l.most = some n) (hn2 : n ≤ sizeLine) (hdf : d.params.defaults = []) (hr : Room k callerA)
    (hY : ∀ (w : World) (h : Heap), YP w h → (K w.params).In h)
    (F : ∀ (w : World) (mean : PySem.ExcName → Option Value) (mg mb : Str → Option Value) (fa : Addr) (h : Heap), (K w.params).In h → PyProof.Rows.Top q (PySem.W.looseW q loose) mean mg mb h → mg d.name = some (.ref fa) → LamX.LawAtS l w (K w.params) CX0 k n x mg fa h) :
    PySem.W.WalkO q loose XP YP l.row.toRowW d [] (fun f vs => PySem.call f vs) := by
  refine Att.attach_callB hn hdf fun w s₀ s₁ mg mb fa o pm cd doc a vs ns G Y ho hd hcd hmg hobj hints hlen hbits hg => ?_
  have KX := hY w _ Y
  obtain ⟨fd, cs, sp, hT, nT, C, hb, hsp, hF⟩ := F w _ mg mb fa _ KX G.T hmg
  exact LamX.law_callTs KX G.T.g G.T.b G.T.builtins G.T.nolimit hg hT nT C G.T.bmain hobj hints (Nat.le_trans hlen hn2) hr hF hb (fun H hH hS => hsp H a ns hlen hbits hH hS) fun _ _ _ z => z
end K11
open PySem PySem.W PyProof.Rows
set_option maxRecDepth 100000 in
set_option maxHeartbeats 0 in
theorem PySem.Challenge.cw_readingsall_k11_possible_holds : PySem.Challenge.rw_readingsall_k11_possible.Holds := by
  w_on; o_law; k_head; (case hw => w_witness2)
  k_fill
  refine K11.walk_top (l := PySem.Challenge.rw_readingsall_k11_possible) (n := 63) (k := 8) (x := "script") rfl (by decide) rfl ⟨rfl, by decide, by decide⟩ (fun w h Y => PySem.W.kIn_of Y) ?F
  case F =>
    intro w mean mg mb fa h KX TT hmg
    refine' K11.all_mk TT KX hmg ?aC_Grammar ?pg_Grammar ?hd_Grammar ?po_Grammar ?sa_Grammar ?mkk_Grammar ?kc_Grammar ?nf_Grammar__values ?nf_Grammar__categories ?nf_Grammar__start ?nf_Grammar__first ?nf_Grammar__rules ?nf_Grammar__morphs ?nf_Grammar__targets ?nf_Grammar__ends ?nf_Grammar__joins ?a_is_letter ?l_is_letter ?c_is_letter ?k_is_letter ?a_is_letters ?l_is_letters ?c_is_letters ?k_is_letters ?a_check_letters ?l_check_letters ?c_check_letters ?k_check_letters ?a_Grammar____init__ ?i_Grammar____init__ ?l_Grammar____init__ ?c_Grammar____init__ ?k_Grammar____init__ ?a_Grammar__add_seam ?i_Grammar__add_seam ?l_Grammar__add_seam ?c_Grammar__add_seam ?k_Grammar__add_seam ?a_Grammar__seams ?i_Grammar__seams ?l_Grammar__seams ?c_Grammar__seams ?k_Grammar__seams ?a_reach ?l_reach ?c_reach ?k_reach ?a_is_possible ?l_is_possible ?c_is_possible ?k_is_possible ?a_possible ?l_possible ?c_possible ?k_possible ?a__law_tape ?l__law_tape ?c__law_tape ?k__law_tape ?a__law_take ?l__law_take ?c__law_take ?k__law_take ?a__law_letters ?l__law_letters ?c__law_letters ?k__law_letters ?a__law_alphabet ?l__law_alphabet ?c__law_alphabet ?k__law_alphabet ?a__law_due ?l__law_due ?c__law_due ?k__law_due ?a__law_strings ?l__law_strings ?c__law_strings ?k__law_strings ?a__law_holds ?l__law_holds ?c__law_holds ?k__law_holds ?a_law ?l_law ?c_law ?k_law ?z_len ?z_range ?z_int ?z_abs ?z_isinstance ?z_min ?z_max ?z_bool ?z_list ?z_all ?vLS ?vLJ ?e_is_letters ?t_is_letters ?v_is_letters ?n_is_letters ?r_is_letters
    (case aC_Grammar => k_is)
    (case pg_Grammar => k_is)
    (case hd_Grammar => k_is)
    (case po_Grammar => k_is)
    (case sa_Grammar => k_is)
    (case mkk_Grammar => k_is)
    (case kc_Grammar => k_is)
    (case nf_Grammar__values => k_is)
    (case nf_Grammar__categories => k_is)
    (case nf_Grammar__start => k_is)
    (case nf_Grammar__first => k_is)
    (case nf_Grammar__rules => k_is)
    (case nf_Grammar__morphs => k_is)
    (case nf_Grammar__targets => k_is)
    (case nf_Grammar__ends => k_is)
    (case nf_Grammar__joins => k_is)
    (case a_is_letter => k_is)
    (case l_is_letter => k_is)
    (case c_is_letter => k_is)
    (case k_is_letter => k_is)
    (case a_is_letters => k_is)
    (case l_is_letters => k_is)
    (case c_is_letters => k_is)
    (case k_is_letters => k_is)
    (case a_check_letters => k_is)
    (case l_check_letters => k_is)
    (case c_check_letters => k_is)
    (case k_check_letters => k_is)
    (case a_Grammar____init__ => k_is)
    (case i_Grammar____init__ => k_is)
    (case l_Grammar____init__ => k_is)
    (case c_Grammar____init__ => k_is)
    (case k_Grammar____init__ => k_is)
    (case a_Grammar__add_seam => k_is)
    (case i_Grammar__add_seam => k_is)
    (case l_Grammar__add_seam => k_is)
    (case c_Grammar__add_seam => k_is)
    (case k_Grammar__add_seam => k_is)
    (case a_Grammar__seams => k_is)
    (case i_Grammar__seams => k_is)
    (case l_Grammar__seams => k_is)
    (case c_Grammar__seams => k_is)
    (case k_Grammar__seams => k_is)
    (case a_reach => k_is)
    (case l_reach => k_is)
    (case c_reach => k_is)
    (case k_reach => k_is)
    (case a_is_possible => k_is)
    (case l_is_possible => k_is)
    (case c_is_possible => k_is)
    (case k_is_possible => k_is)
    (case a_possible => k_is)
    (case l_possible => k_is)
    (case c_possible => k_is)
    (case k_possible => k_is)
    (case a__law_tape => k_is)
    (case l__law_tape => k_is)
    (case c__law_tape => k_is)
    (case k__law_tape => k_is)
    (case a__law_take => k_is)
    (case l__law_take => k_is)
    (case c__law_take => k_is)
    (case k__law_take => k_is)
    (case a__law_letters => k_is)
    (case l__law_letters => k_is)
    (case c__law_letters => k_is)
    (case k__law_letters => k_is)
    (case a__law_alphabet => k_is)
    (case l__law_alphabet => k_is)
    (case c__law_alphabet => k_is)
    (case k__law_alphabet => k_is)
    (case a__law_due => k_is)
    (case l__law_due => k_is)
    (case c__law_due => k_is)
    (case k__law_due => k_is)
    (case a__law_strings => k_is)
    (case l__law_strings => k_is)
    (case c__law_strings => k_is)
    (case k__law_strings => k_is)
    (case a__law_holds => k_is)
    (case l__law_holds => k_is)
    (case c__law_holds => k_is)
    (case k__law_holds => k_is)
    (case a_law => k_is)
    (case l_law => k_is)
    (case c_law => k_is)
    (case k_law => k_is)
    (case z_len => k_is)
    (case z_range => k_is)
    (case z_int => k_is)
    (case z_abs => k_is)
    (case z_isinstance => k_is)
    (case z_min => k_is)
    (case z_max => k_is)
    (case z_bool => k_is)
    (case z_list => k_is)
    (case z_all => k_is)
    (case vLS => k_is)
    (case vLJ => k_is)
    (case e_is_letters => rfl)
    (case t_is_letters => k_is)
    (case v_is_letters => rfl)
    (case n_is_letters => first | k_is | rfl | decide +kernel)
    (case r_is_letters => first | decide +kernel | rfl)

