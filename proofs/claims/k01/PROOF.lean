import PyProof.Rows.All
import Wide.All
import OpenK.AllK
import Wide.FinOn
import HandS.ForMost
import HandS.Exc
import HandS.TryOnly
import HandS.ExcOwn
import HandS.WordsExc
import HandS.IsInst
import HandS.FStr
import HandS.Small
import HandS.AnyAll
import HandS.EndTab
import HandS.Wide
import HandS.Evl
import HandS.HotCalls
import HandS.ExcIs
import HandS.ExcCtx
import PyProof.GenCompD
import PySem.Challenge.RW_readingsall_k01_names_and_texts
import KE.KNest
set_option Elab.async false
set_option linter.all false
set_option maxRecDepth 100000
set_option maxHeartbeats 4000000
/-! # The readings, one lemma a combinator -/
namespace Y
open PySem L2 PySem.Spec PyProof.Rows

/-! ## heaps -/
def isTbl : HO → Bool
  | .tbl _ => true
  | _ => false
/-- all that was tracked stands, but for what T names; tables of code may grow -/
structure But (T : List Addr) (H H' : Hp) : Prop where
  keep : ∀ b o, H b = some o → b ∉ T → isTbl o = false → H' b = some o
  tab : ∀ b, GxR.TabG H b → GxR.TabG H' b
  up : ∀ b o, H b = some o → ∃ o', H' b = some o'
theorem But.refl {T : List Addr} (H : Hp) : But T H H := ⟨fun _ _ h _ _ => h, fun _ h => h, fun _ o h => ⟨o, h⟩⟩
theorem But.trans {T : List Addr} {H H1 H2 : Hp} (a : But T H H1) (b : But T H1 H2) : But T H H2 :=
  ⟨fun c o h n t => b.keep c o (a.keep c o h n t) n t, fun c h => b.tab c (a.tab c h), fun c o h => let ⟨o', h'⟩ := a.up c o h; b.up c o' h'⟩
theorem But.mono {T U : List Addr} {H H1 : Hp} (a : But T H H1) (s : ∀ x ∈ T, x ∈ U) : But U H H1 :=
  ⟨fun c o h n t => a.keep c o h (fun z => n (s c z)) t, a.tab, a.up⟩
theorem But.free {T : List Addr} {H H' : Hp} (a : But T H H') {p : Addr} (h : H' p = none) : H p = none := by
  cases e : H p with
  | none => rfl
  | some o =>
    obtain ⟨o', h'⟩ := a.up p o e
    rw [h] at h'
    cases h'
theorem But.new {T : List Addr} {H : Hp} {p : Addr} {o : HO} (h : H p = none) : But T H (upd H p o) := by
  refine ⟨fun b u e _ _ => ?_, fun b e => ?_, fun b u e => ⟨u, ?_⟩⟩
  · rw [upd_ne (ne_of_none e h)]
    exact e
  · obtain ⟨ps, e, t⟩ := e
    exact ⟨ps, by rw [upd_ne (ne_of_none e h)]; exact e, t⟩
  · rw [upd_ne (ne_of_none e h)]
    exact e
theorem But.set {T : List Addr} {H : Hp} {p : Addr} {o u : HO} (h : H p = some o) (ht : isTbl o = false) (hp : p ∈ T) : But T H (upd H p u) := by
  refine ⟨fun b v e n _ => ?_, fun b e => ?_, fun b v e => ?_⟩
  · rw [upd_ne (fun z => n (by rw [z]; exact hp))]
    exact e
  · obtain ⟨ps, e, t⟩ := e
    refine ⟨ps, ?_, t⟩
    rw [upd_ne (fun z => ?_)]
    · exact e
    · rw [z, h] at e
      cases e
      cases ht
  · by_cases z : b = p
    · exact ⟨u, by rw [z, upd_same]⟩
    · exact ⟨v, by rw [upd_ne z]; exact e⟩
/-- what was new to H may change -/
theorem But.setN {T : List Addr} {H H1 : Hp} {p : Addr} {o u : HO} (b : But T H H1) (n : H p = none) (h : H1 p = some o) (ht : isTbl o = false) : But T H (upd H1 p u) := by
  refine ⟨fun c v e nt hv => ?_, fun c e => ?_, fun c v e => ?_⟩
  · rw [upd_ne (ne_of_none e n)]
    exact b.keep c v e nt hv
  · obtain ⟨ps, e1, t1⟩ := e
    obtain ⟨qs, e2, t2⟩ := b.tab c ⟨ps, e1, t1⟩
    exact ⟨qs, by rw [upd_ne (ne_of_none e1 n)]; exact e2, t2⟩
  · obtain ⟨o', h'⟩ := b.up c v e
    exact ⟨o', by rw [upd_ne (ne_of_none e n)]; exact h'⟩
/-- an object that is new to H has been changed -/
theorem But.own {T : List Addr} {H H1 H2 : Hp} {l : Addr} (a : But T H H1) (n : H l = none) (b : But [l] H1 H2) : But T H H2 :=
  ⟨fun c o h nt t => b.keep c o (a.keep c o h nt t) (fun z => ne_of_none h n (List.mem_singleton.mp z)) t, fun c h => b.tab c (a.tab c h), fun c o h => let ⟨o', h'⟩ := a.up c o h; b.up c o' h'⟩
theorem But.tabbed {T : List Addr} {H H' : Hp} {P : Addr} (h0 : GxR.TabG H P) (h : GxR.Tabbed P H H') : But T H H' := by
  obtain ⟨ps0, e0, _⟩ := h0
  obtain ⟨⟨ps, e, t⟩, k⟩ := h
  refine ⟨fun b o hb _ ht => ?_, fun b hb => ?_, fun b o hb => ?_⟩
  · rw [k b (fun z => by rw [z, e0] at hb; cases hb; cases ht)]
    exact hb
  · by_cases z : b = P
    · rw [z]
      exact ⟨ps, e, t⟩
    · obtain ⟨qs, e1, t1⟩ := hb
      exact ⟨qs, by rw [k b z]; exact e1, t1⟩
  · by_cases z : b = P
    · rw [z]
      exact ⟨_, e⟩
    · exact ⟨o, by rw [k b z]; exact hb⟩
theorem But.lst {T : List Addr} {H H' : Hp} (b : But T H H') {p : Addr} {xs : List V} (h : H p = some (.lst xs)) (n : p ∉ T) : H' p = some (.lst xs) := b.keep p _ h n rfl
theorem But.tup {T : List Addr} {H H' : Hp} (b : But T H H') {p : Addr} {xs : List V} (h : H p = some (.tup xs)) (n : p ∉ T) : H' p = some (.tup xs) := b.keep p _ h n rfl
theorem But.seq {K : PySem.W.Frag} {T : List Addr} {H H' : Hp} {a : Addr} {xs : List V} (e : But T H H') (h : SqL K H a xs) (n : a ∉ T) : SqL K H' a xs := by
  rcases h with (h | ⟨o, h⟩) | h
  · exact .inl (.inl (e.keep _ _ h n rfl))
  · exact .inl (.inr ⟨o, e.keep _ _ h n rfl⟩)
  · exact .inr h
theorem But.seqT {K : PySem.W.Frag} {T : List Addr} {H H' : Hp} {a : Addr} {xs : List V} (e : But T H H') (h : SqT K H a xs) (n : a ∉ T) : SqT K H' a xs := by
  rcases h with (h | ⟨o, h⟩) | h
  · exact .inl (.inl (e.keep _ _ h n rfl))
  · exact .inl (.inr ⟨o, e.keep _ _ h n rfl⟩)
  · exact .inr h

/-! ## own words for operators whose reading the layer leaves open -/
section
variable {X : Cx}
theorem OpR.imp {f : Value → Value → Sem Value} {r r' : R2} (h : OpR X f r) (i : ∀ x y H Q, r' x y H Q → r x y H Q) : OpR X f r' := fun pins s σ H x y v u Q I rx ry q => h pins s σ H x y v u Q I rx ry (i _ _ _ _ q)
theorem CallR.imp {f : Value} {r r' : List V → Hp → VK → Prop} (h : CallR X f r) (i : ∀ xs H Q, r' xs H Q → r xs H Q) : CallR X f r' := fun pins s σ H xs us Q I rx q => h pins s σ H xs us Q I rx (i _ _ _ q)
/-- of two texts -/
def rS (g : Str → Str → V) : R2 := fun x y H Q => ∃ a b, x = .str a ∧ y = .str b ∧ Q (g a b) H
/-- of two ints, a bool -/
def rB (p : Int → Int → Bool) : R2 := fun x y H Q => ∃ i j, x = .int i ∧ y = .int j ∧ Q (.bl (p i j)) H
def sLe (a b : Str) : Bool := !decide (b.cps.toList < a.cps.toList)
theorem op_eqS : OpR X (compareOp .Eq) (rS fun a b => .bl (decide (a = b))) := OpR.imp op_eq fun x y H Q ⟨a, b, e1, e2, q⟩ => by
  subst e1
  subst e2
  refine ⟨rfl, ?_⟩
  have e : decide (V.str a = V.str b) = decide (a = b) := decide_eq_decide.mpr ⟨fun h => V.str.inj h, fun h => congrArg V.str h⟩
  rw [e]
  exact q
theorem op_neS : OpR X (compareOp .NotEq) (rS fun a b => .bl (!decide (a = b))) := OpR.imp op_ne fun x y H Q ⟨a, b, e1, e2, q⟩ => by
  subst e1
  subst e2
  refine ⟨rfl, ?_⟩
  have e : decide (V.str a = V.str b) = decide (a = b) := decide_eq_decide.mpr ⟨fun h => V.str.inj h, fun h => congrArg V.str h⟩
  rw [e]
  exact q
theorem op_leS : OpR X (compareOp .LtE) (rS fun a b => .bl (sLe a b)) := OpR.imp op_le_str fun x y H Q ⟨a, b, e1, e2, q⟩ => ⟨a, b, e1, e2, q⟩
theorem op_eqI : OpR X (compareOp .Eq) (rB fun i j => decide (i = j)) := OpR.imp op_eq fun x y H Q ⟨a, b, e1, e2, q⟩ => by
  subst e1
  subst e2
  refine ⟨rfl, ?_⟩
  have e : decide (V.int a = V.int b) = decide (a = b) := decide_eq_decide.mpr ⟨fun h => V.int.inj h, fun h => congrArg V.int h⟩
  rw [e]
  exact q
theorem op_neI : OpR X (compareOp .NotEq) (rB fun i j => !decide (i = j)) := OpR.imp op_ne fun x y H Q ⟨a, b, e1, e2, q⟩ => by
  subst e1
  subst e2
  refine ⟨rfl, ?_⟩
  have e : decide (V.int a = V.int b) = decide (a = b) := decide_eq_decide.mpr ⟨fun h => V.int.inj h, fun h => congrArg V.int h⟩
  rw [e]
  exact q
theorem op_ltI : OpR X (compareOp .Lt) (rB fun i j => decide (i < j)) := OpR.imp op_lt fun x y H Q h => h
theorem op_leI : OpR X (compareOp .LtE) (rB fun i j => decide (i ≤ j)) := OpR.imp op_le fun x y H Q h => h
theorem op_gtI : OpR X (compareOp .Gt) (rB fun i j => decide (j < i)) := OpR.imp op_gt fun x y H Q h => h
theorem op_geI : OpR X (compareOp .GtE) (rB fun i j => decide (j ≤ i)) := OpR.imp op_ge fun x y H Q h => h
/-- bools -/
def rEqB : R2 := fun x y H Q => ∃ a b, x = .bl a ∧ y = .bl b ∧ Q (.bl (decide (a = b))) H
theorem op_eqB : OpR X (compareOp .Eq) rEqB := OpR.imp op_eq fun x y H Q ⟨a, b, e1, e2, q⟩ => by
  subst e1
  subst e2
  refine ⟨rfl, ?_⟩
  have e : decide (V.bl a = V.bl b) = decide (a = b) := decide_eq_decide.mpr ⟨fun h => V.bl.inj h, fun h => congrArg V.bl h⟩
  rw [e]
  exact q
def rNeB : R2 := fun x y H Q => ∃ a b, x = .bl a ∧ y = .bl b ∧ Q (.bl (!decide (a = b))) H
theorem op_neB : OpR X (compareOp .NotEq) rNeB := OpR.imp op_ne fun x y H Q ⟨a, b, e1, e2, q⟩ => by
  subst e1
  subst e2
  refine ⟨rfl, ?_⟩
  have e : decide (V.bl a = V.bl b) = decide (a = b) := decide_eq_decide.mpr ⟨fun h => V.bl.inj h, fun h => congrArg V.bl h⟩
  rw [e]
  exact q
def rAddS : R2 := fun x y H Q => ∃ i j, x = .str i ∧ y = .str j ∧ i.length + j.length ≤ sizeLine ∧ Q (.str (i ++ j)) H
theorem op_addS : OpR X (binaryOp .Add) rAddS := op_add_str
/-- is None -/
def rIsN : R2 := fun x y H Q => y = .non ∧ Q (.bl (decide (x = .non))) H
theorem op_isNone : OpR X (compareOp .Is) rIsN := op_isN
def rNotN : R2 := fun x y H Q => y = .non ∧ Q (.bl (!decide (x = .non))) H
theorem op_isNotNone : OpR X (compareOp .IsNot) rNotN := op_notN
/-- one sign in a text -/
def rSgn (neg : Bool) : R2 := fun x y H Q => ∃ (c : Nat) (z : Str), x = .str ⟨#[c]⟩ ∧ y = .str z ∧ Q (.bl (if neg then !decide (c ∈ z.cps.toList) else decide (c ∈ z.cps.toList))) H
theorem op_sgnIn : OpR X (compareOp .In) (rSgn false) := op_in_sign
theorem op_sgnNotIn : OpR X (compareOp .NotIn) (rSgn true) := op_notIn_sign
/-- calls -/
def rLenS : List V → Hp → VK → Prop := fun xs H Q => ∃ z : Str, xs = [.str z] ∧ z.length ≤ sizeLine ∧ Q (.int z.length) H
theorem call_lenS : CallR X (.builtin "len") rLenS := CallR.imp call_len fun xs H Q ⟨z, e, h, q⟩ => ⟨.str z, z.length, e, ⟨h, rfl⟩, q⟩
def rLenQ (K : PySem.W.Frag) : List V → Hp → VK → Prop := fun xs H Q => ∃ p ys, xs = [.ref p] ∧ (SqL K H p ys ∨ SqT K H p ys) ∧ Q (.int ys.length) H
theorem call_lenQ : CallR X (.builtin "len") (rLenQ X.K) := call_len_seq
def rInt1 : List V → Hp → VK → Prop := fun xs H Q => ∃ i, xs = [.int i] ∧ Q (.int i) H
theorem call_intI : CallR X (.type "int") rInt1 := CallR.imp call_int1 fun xs H Q ⟨i, e, q⟩ => .inl ⟨i, e, q⟩
def rAbs1 : List V → Hp → VK → Prop := fun xs H Q => ∃ i, xs = [.int i] ∧ Q (.int (if i < 0 then -i else i)) H
theorem call_absI : CallR X (.builtin "abs") rAbs1 := call_abs
def rMax2 : List V → Hp → VK → Prop := fun xs H Q => ∃ i j, xs = [.int i, .int j] ∧ Q (.int (if j > i then j else i)) H
theorem call_maxI (hc : X.calm = true) : CallR X (.builtin "max") rMax2 := call_max2 hc
def rMin2 : List V → Hp → VK → Prop := fun xs H Q => ∃ i j, xs = [.int i, .int j] ∧ Q (.int (if j < i then j else i)) H
theorem call_minI (hc : X.calm = true) : CallR X (.builtin "min") rMin2 := call_min2 hc
def rList (K : PySem.W.Frag) : List V → Hp → VK → Prop := fun xs H Q => ∃ p ys, xs = [.ref p] ∧ (SqL K H p ys ∨ SqT K H p ys) ∧ ∀ l, H l = none → Q (.ref l) (upd H l (.lst ys))
theorem call_listQ : CallR X (.type "list") (rList X.K) := call_list_of
end

section
variable {X : Cx} {o e : Expr} {to te : TE}
def rJoin (K : PySem.W.Frag) : V → List V → Hp → VK → Prop := fun x xs H Q => ∃ a p, ∃ ys : List Str, x = .str a ∧ xs = [.ref p] ∧ (SqL K H p (ys.map V.str) ∨ SqT K H p (ys.map V.str)) ∧
  (ys.map (·.length)).sum + ys.length * a.length ≤ 16777216 ∧ Q (.str (Txt.join a ys)) H
def rSplit : V → List V → Hp → VK → Prop := fun x xs H Q => ∃ a b, x = .str a ∧ xs = [.str b] ∧ (b.length == 0) = false ∧ a.length + 2 ≤ sizeLine ∧ rNewStrs (Txt.split a b) H Q
theorem pjoin {apos pos : Pos} (ho : PE X o to) (he : PE X e te) (hs : starEach [e] X.env = [(false, eval e X.env)] := by rfl) (hbase : attributeBase o "join" X.env (eval o X.env) = eval o X.env := by rfl) (hline : (apos.endLine == pos.line) = true := by rfl) :
    PE X (.Call (.Attribute o "join" apos) [e] [] pos) (tM1 (rJoin X.K) to te) := pe_join ho he hs hbase hline
theorem psplit {apos pos : Pos} (ho : PE X o to) (he : PE X e te) (hs : starEach [e] X.env = [(false, eval e X.env)] := by rfl) (hbase : attributeBase o "split" X.env (eval o X.env) = eval o X.env := by rfl) (hline : (apos.endLine == pos.line) = true := by rfl) :
    PE X (.Call (.Attribute o "split" apos) [e] [] pos) (tM1 rSplit to te) := pe_split ho he hs hbase hline
end
/-! ## the readings -/
section
variable {K : PySem.W.Frag} {σ : L2.St} {H : Hp} {Q : VK} {v x y : V} {te ta tb tc : TE} {t u : TT} {D : Ends} {ts tu : TS} {tA tr : TA}
theorem var {i : Nat} (e : σ[i]? = some (some v)) (q : Q v H) : tVar i σ H Q := ⟨v, e, q⟩
theorem cst (q : Q v H) : tC v σ H Q := q
theorem op {r : R2} (q : ta σ H fun x H1 => tb σ H1 fun y H2 => r x y H2 Q) : tOp r ta tb σ H Q := q
theorem un {r : V → Hp → VK → Prop} (q : ta σ H fun x H1 => r x H1 Q) : tUn r ta σ H Q := q
theorem i0 {g : Int → Int → V} {i j : Int} (q : Q (g i j) H) : rI0 g (.int i) (.int j) H Q := ⟨i, j, rfl, rfl, q⟩
theorem iC {C : Int → Int → Prop} {g : Int → Int → V} {i j : Int} (hc : C i j) (q : Q (g i j) H) : rI C g (.int i) (.int j) H Q := ⟨i, j, rfl, rfl, hc, q⟩
theorem u1 {g : Int → V} {i : Int} (q : Q (g i) H) : rU g (.int i) H Q := ⟨i, rfl, q⟩
theorem s2 {g : Str → Str → V} {a b : Str} (q : Q (g a b) H) : rS g (.str a) (.str b) H Q := ⟨a, b, rfl, rfl, q⟩
theorem b2 {p : Int → Int → Bool} {i j : Int} (q : Q (.bl (p i j)) H) : rB p (.int i) (.int j) H Q := ⟨i, j, rfl, rfl, q⟩
theorem eqB {a b : Bool} (q : Q (.bl (decide (a = b))) H) : rEqB (.bl a) (.bl b) H Q := ⟨a, b, rfl, rfl, q⟩
theorem neB {a b : Bool} (q : Q (.bl (!decide (a = b))) H) : rNeB (.bl a) (.bl b) H Q := ⟨a, b, rfl, rfl, q⟩
theorem addS {a b : Str} (h : a.length + b.length ≤ sizeLine) (q : Q (.str (a ++ b)) H) : rAddS (.str a) (.str b) H Q := ⟨a, b, rfl, rfl, h, q⟩
theorem isN (q : Q (.bl (decide (x = .non))) H) : rIsN x .non H Q := ⟨rfl, q⟩
theorem notN (q : Q (.bl (!decide (x = .non))) H) : rNotN x .non H Q := ⟨rfl, q⟩
theorem sgn {c : Nat} {z : Str} (q : Q (.bl (decide (c ∈ z.cps.toList))) H) : rSgn false (.str ⟨#[c]⟩) (.str z) H Q := ⟨c, z, rfl, rfl, q⟩
theorem sgnN {c : Nat} {z : Str} (q : Q (.bl (!decide (c ∈ z.cps.toList))) H) : rSgn true (.str ⟨#[c]⟩) (.str z) H Q := ⟨c, z, rfl, rfl, q⟩
theorem cb {r : List V → Hp → VK → Prop} (q : tA σ H fun vs H1 => r vs H1 Q) : tCB r tA σ H Q := q
theorem acons {QA : List V → Hp → Prop} (q : ta σ H fun x H1 => tr σ H1 fun xs H2 => QA (x :: xs) H2) : tCons ta tr σ H QA := q
theorem anil {QA : List V → Hp → Prop} (q : QA [] H) : tNil σ H QA := q
theorem lenS {z : Str} (h : z.length ≤ sizeLine) (q : Q (.int z.length) H) : rLenS [.str z] H Q := ⟨z, rfl, h, q⟩
theorem lenL {p : Addr} {ys : List V} (h : SqL K H p ys) (q : Q (.int ys.length) H) : rLenQ K [.ref p] H Q := ⟨p, ys, rfl, .inl h, q⟩
theorem lenT {p : Addr} {ys : List V} (h : SqT K H p ys) (q : Q (.int ys.length) H) : rLenQ K [.ref p] H Q := ⟨p, ys, rfl, .inr h, q⟩
theorem int1 {i : Int} (q : Q (.int i) H) : rInt1 [.int i] H Q := ⟨i, rfl, q⟩
theorem abs1 {i : Int} (q : Q (.int (if i < 0 then -i else i)) H) : rAbs1 [.int i] H Q := ⟨i, rfl, q⟩
theorem max2 {i j : Int} (q : Q (.int (if j > i then j else i)) H) : rMax2 [.int i, .int j] H Q := ⟨i, j, rfl, q⟩
theorem min2 {i j : Int} (q : Q (.int (if j < i then j else i)) H) : rMin2 [.int i, .int j] H Q := ⟨i, j, rfl, q⟩
theorem listL {p : Addr} {ys : List V} (h : SqL K H p ys) (q : ∀ l, H l = none → Q (.ref l) (upd H l (.lst ys))) : rList K [.ref p] H Q := ⟨p, ys, rfl, .inl h, q⟩
theorem ixL {p : Addr} {xs : List V} {i : Int} (h : SqL K H p xs) (e : atI xs i = some v) (q : Q v H) : rIxL K (.ref p) (.int i) H Q := ⟨p, xs, i, v, rfl, rfl, h, e, q⟩
theorem ixT {p : Addr} {xs : List V} {i : Int} (h : SqT K H p xs) (e : atI xs i = some v) (q : Q v H) : rIxT K (.ref p) (.int i) H Q := ⟨p, xs, i, v, rfl, rfl, h, e, q⟩
theorem ixS {z : Str} {i : Int} {c : Nat} (h : z.length ≤ sizeLine) (e : atI z.cps.toList i = some c) (q : Q (.str ⟨#[c]⟩) H) : rIxS (.str z) (.int i) H Q := ⟨z, i, c, rfl, rfl, h, e, q⟩
theorem lst (h : tA σ H fun xs H1 => xs.length ≤ sizeLine ∧ ∀ p, H1 p = none → Q (.ref p) (upd H1 p (.lst xs))) : tLst tA σ H Q := h
theorem tup (h : tA σ H fun xs H1 => xs.length ≤ sizeLine ∧ ∀ p, H1 p = none → Q (.ref p) (upd H1 p (.tup xs))) : tTup tA σ H Q := h
theorem call {sp : Sp} {E : XK} (q : tA σ H fun vs H1 => sp vs H1 Q E) : tCall sp [] E tA σ H Q := by
  have e : (fun (vs : List V) H1 => sp (vs ++ []) H1 Q E) = fun vs H1 => sp vs H1 Q E := by
    funext vs H1
    rw [List.append_nil]
  show tA σ H (fun vs H1 => sp (vs ++ []) H1 Q E)
  rw [e]
  exact q
theorem andV (q : ta σ H fun x H1 => ∃ c, x = .bl c ∧ if c = true then tb σ H1 Q else Q (.bl false) H1) : tAndV ta tb σ H Q := q
theorem orV (q : ta σ H fun x H1 => ∃ c, x = .bl c ∧ if c = true then Q (.bl true) H1 else tb σ H1 Q) : tOrV ta tb σ H Q := q
theorem notV (q : ta σ H fun x H1 => ∃ c, x = .bl c ∧ Q (.bl (!c)) H1) : tNotV ta σ H Q := q
theorem chain {r r' : R2} (q : ta σ H fun x H1 => tb σ H1 fun y H2 => r x y H2 fun z H3 => ∃ k, z = .bl k ∧ (if k = true then tc σ H3 fun w' H4 => r' y w' H4 Q else Q (.bl false) H3)) : tChain r r' ta tb tc σ H Q := q
theorem bl {c : Bool} {P : Bool → Prop} (q : P c) : ∃ k, V.bl c = V.bl k ∧ P k := ⟨c, rfl, q⟩
theorem ifE (q : t σ H fun c H1 => if c = true then ta σ H1 Q else tb σ H1 Q) : tIf t ta tb σ H Q := q
/-! tests -/
variable {QT : Bool → Hp → Prop}
theorem test (q : te σ H fun x H' => ∃ k, x = .bl k ∧ QT k H') : tTest te σ H QT := q
theorem testB (q : te σ H fun x H' => ∃ k, x = .bl k ∧ QT k H') : tB te σ H QT := q
theorem tand (q : t σ H fun c H1 => if c = true then u σ H1 QT else QT false H1) : tAnd t u σ H QT := q
theorem tor (q : t σ H fun c H1 => if c = true then QT true H1 else u σ H1 QT) : tOr t u σ H QT := q
theorem tnot (q : t σ H fun c H1 => QT (!c) H1) : tNot t σ H QT := q
/-! statements -/
theorem seq (q : ts { D with nx := tu D } σ H) : tSeq ts tu D σ H := q
theorem next (q : D.nx σ H) : tNext D σ H := q
theorem asg {i : Nat} (q : te σ H fun x H1 => D.nx (σ.set i (some x)) H1) : tAsg te (gName i) D σ H := q
theorem asgSub {to ti : TE} {r : TSet} (q : te σ H fun v H1 => to σ H1 fun o H2 => ti σ H2 fun i H3 => r o i v H3 fun H4 => D.nx σ H4) : tAsg te (gSub to ti r) D σ H := q
theorem setL {p : Addr} {xs : List V} {k : Int} {j : Nat} {QH : Hp → Prop} (h : H p = some (.lst xs)) (e : ixN xs.length k = some j) (q : QH (upd H p (.lst (xs.set j v)))) : rSetL (.ref p) (.int k) v H QH := ⟨p, xs, k, j, rfl, rfl, h, e, q⟩
theorem ret (q : te σ H D.rt) : tRet te D σ H := q
theorem drop (q : te σ H fun _ H1 => D.nx σ H1) : tDrop te D σ H := q
theorem ifS (q : t σ H fun b H1 => if b = true then ts D σ H1 else tu D σ H1) : tIfS t ts tu D σ H := q
/-! choices -/
theorem iteD {p : Prop} [Decidable p] {A B : Prop} (h1 : p → A) (h2 : ¬ p → B) : if decide p = true then A else B := by
  by_cases h : p
  · rw [if_pos (decide_eq_true h)]
    exact h1 h
  · rw [if_neg (fun z => h (of_decide_eq_true z))]
    exact h2 h
theorem iteN {p : Prop} [Decidable p] {A B : Prop} (h1 : ¬ p → A) (h2 : p → B) : if (!decide p) = true then A else B := by
  by_cases h : p
  · rw [decide_eq_true h]
    exact h2 h
  · rw [decide_eq_false h]
    exact h1 h
theorem iteB {b : Bool} {A B : Prop} (h1 : b = true → A) (h2 : b = false → B) : if b = true then A else B := by
  cases b with
  | true => exact h1 rfl
  | false => exact h2 rfl
theorem iteNB {b : Bool} {A B : Prop} (h1 : b = false → A) (h2 : b = true → B) : if (!b) = true then A else B := by
  cases b with
  | true => exact h2 rfl
  | false => exact h1 rfl
end

section
variable {K : PySem.W.Frag} {σ : L2.St} {H : Hp} {Q : VK} {v x y : V} {te ta tb tc : TE} {t u : TT} {D : Ends} {ts tu : TS} {tA tr : TA}
/-! stores and new things: the heap behind by what is known of it -/
theorem setG {p : Addr} {xs ys : List V} {k : Int} {j : Nat} {QH : Hp → Prop} (h : H p = some (.lst xs)) (e : ixN xs.length k = some j) (ey : xs.set j v = ys)
    (q : ∀ H1, H1 p = some (.lst ys) → (∀ T, p ∈ T → But T H H1) → QH H1) : rSetL (.ref p) (.int k) v H QH := by
  refine ⟨p, xs, k, j, rfl, rfl, h, e, ?_⟩
  rw [ey]
  exact q _ upd_same fun T hT => But.set h rfl hT
theorem mkL {xs : List V} (hz : xs.length ≤ sizeLine) (q : ∀ p H2, H p = none → H2 p = some (.lst xs) → (∀ T, But T H H2) → Q (.ref p) H2) : xs.length ≤ sizeLine ∧ ∀ p, H p = none → Q (.ref p) (upd H p (.lst xs)) :=
  ⟨hz, fun p hp => q p _ hp upd_same fun _ => But.new hp⟩
theorem mkT {xs : List V} (hz : xs.length ≤ sizeLine) (q : ∀ p H2, H p = none → H2 p = some (.tup xs) → (∀ T, But T H H2) → Q (.ref p) H2) : xs.length ≤ sizeLine ∧ ∀ p, H p = none → Q (.ref p) (upd H p (.tup xs)) :=
  ⟨hz, fun p hp => q p _ hp upd_same fun _ => But.new hp⟩
theorem mkN {xs : List V} (q : ∀ p H2, H p = none → H2 p = some (.lst xs) → (∀ T, But T H H2) → Q (.ref p) H2) : ∀ l, H l = none → Q (.ref l) (upd H l (.lst xs)) := fun p hp => q p _ hp upd_same fun _ => But.new hp
theorem bm {T : String} {r : V → List V → Hp → VK → Prop} {to : TE} (q : to σ H fun x H1 => tyV K T x H1 ∧ tA σ H1 fun xs H2 => r x xs H2 Q) : tBM K T r to tA σ H Q := q
theorem bm0 {T : String} {r : V → List V → Hp → VK → Prop} {to : TE} (q : to σ H fun x H1 => tyV K T x H1 ∧ r x [] H1 Q) : tBM0 K T r to σ H Q := q
theorem tyL {p : Addr} {xs : List V} {B : Prop} (h : SqL K H p xs) (q : B) : tyV K "list" (.ref p) H ∧ B := ⟨.inl ⟨rfl, xs, h⟩, q⟩
theorem app {l : Addr} {xs : List V} {y : V} (h : H l = some (.lst xs)) (hz : xs.length < sizeLine) (q : ∀ H1, H1 l = some (.lst (xs ++ [y])) → (∀ T, l ∈ T → But T H H1) → Q .non H1) : rAppend (.ref l) [y] H Q :=
  ⟨l, xs, y, rfl, rfl, h, hz, q _ upd_same fun _ hT => But.set h rfl hT⟩

theorem rev {l : Addr} {xs : List V} (h : H l = some (.lst xs)) (q : ∀ H1, H1 l = some (.lst xs.reverse) → (∀ T, l ∈ T → But T H H1) → Q .non H1) : rReverse (.ref l) [] H Q :=
  ⟨l, xs, rfl, rfl, h, q _ upd_same fun _ hT => But.set h rfl hT⟩
theorem neD {d e : PyData} (h1 : Dp K H x d) (h2 : Dp K H y e) (s1 : SeqAt.shaped d = true) (s2 : SeqAt.shaped e = true) (q : Q (.bl (!PyData.eqv d e)) H) : rNeD K x y H Q := ⟨d, e, h1, h2, s1, s2, q⟩
/-! a word between a statement and the rest -/
theorem cut (M : L2.St → Hp → Prop) (h : ts { D with nx := M } σ H) (k : ∀ σ' H', M σ' H' → tu D σ' H') : Evl.tCut ts tu D σ H := ⟨M, h, k⟩
/-- nothing has changed where the statement falls through -/
theorem cutR (h : ts { D with nx := fun σ' H' => σ' = σ ∧ H' = H } σ H) (k : tu D σ H) : Evl.tCut ts tu D σ H := ⟨_, h, fun σ' H' e => by
  rw [e.1, e.2]
  exact k⟩
/-- a new thing: the heap behind gets a name -/
theorem gen {p : Addr} {o : HO} (h : H p = none) : ∃ H2, upd H p o = H2 ∧ H2 p = some o ∧ ∀ T, But T H H2 := ⟨_, rfl, upd_same, fun _ => But.new h⟩
theorem m1 {r : V → List V → Hp → VK → Prop} {to : TE} (q : to σ H fun x H1 => (∃ a, x = .str a) ∧ te σ H1 fun y H2 => r x [y] H2 Q) : tM1 r to te σ H Q := q
theorem strOk {z : Str} {B : Prop} (q : B) : (∃ a, V.str z = V.str a) ∧ B := ⟨⟨z, rfl⟩, q⟩
theorem joinL {a : Str} {p : Addr} {ys : List Str} (h : SqL K H p (ys.map V.str)) (hz : (ys.map (·.length)).sum + ys.length * a.length ≤ 16777216) (q : Q (.str (Str.join a ys)) H) : rJoin K (.str a) [.ref p] H Q :=
  ⟨a, p, ys, rfl, rfl, .inl h, hz, by rw [show Txt.join a ys = Str.join a ys from StrLaws.glued_eq_join a ys]; exact q⟩
theorem split {a b : Str} (hb : (b.length == 0) = false) (hz : a.length + 2 ≤ sizeLine) (q : ∀ p, H p = none → Q (.ref p) (upd H p (.lst ((Txt.split a b).map V.str)))) : rSplit (.str a) [.str b] H Q :=
  ⟨a, b, rfl, rfl, hb, hz, q⟩
theorem sl {r : V → Option Int → Option Int → Hp → VK → Prop} {tl th : TO} (q : te σ H fun x H1 => tl σ H1 fun l H2 => th σ H2 fun u H3 => r x l u H3 Q) : tSl r te tl th σ H Q := q
theorem part {QO : Option Int → Hp → Prop} (q : te σ H fun x H1 => ∃ i, x = .int i ∧ QO (some i) H1) : tPart te σ H QO := q
theorem noPart {QO : Option Int → Hp → Prop} (q : QO none H) : tNoPart σ H QO := q
theorem partI {i : Int} {R : Int → Prop} (q : R i) : ∃ k, V.int i = V.int k ∧ R k := ⟨i, rfl, q⟩
theorem slS {z : Str} {lo hi : Option Int} (h : z.length ≤ sizeLine) (q : Q (.str (cutS z lo hi)) H) : rSlS (.str z) lo hi H Q := ⟨z, rfl, h, q⟩
theorem allS {P : Addr} {pb : Nat → Bool} (q : te σ H fun v H1 => ∃ a : Str, v = .str a ∧ GxR.TabG H1 P ∧ ∀ H2, GxR.Tabbed P H1 H2 → Q (.bl (a.cps.toList.all pb)) H2) : GxR.tAllS P pb te σ H Q := q
theorem room1 {k : Nat} {A : Around} (hr : Room k A) : A.depth + 1 < recursionLimit := by
  have := hr.dp
  omega
/-- isinstance, both classes built in -/
theorem isi {a c : String} {b : Bool} (ty : TyX K H x (.type a)) (h : kitB a c = some b) (q : Q (.bl b) H) : rIsi K [x, .ty c] H Q := ⟨x, .ty c, .type a, .type c, b, rfl, .ty c, ty, kit_ty h, q⟩
theorem gname {i : Nat} {QS : L2.St → Hp → Prop} (q : QS (σ.set i (some v)) H) : gName i v σ H QS := q
theorem jcons {tt : TE} {ts' : List TE} {acc : Str} {QJ : Str → Hp → Prop} (q : tt σ H fun x H1 => ∃ y : Str, x = .str y ∧ (acc ++ y).length ≤ sizeLine ∧ tJs ts' (acc ++ y) σ H1 QJ) : tJs (tt :: ts') acc σ H QJ := q
theorem jnil {acc : Str} {QJ : Str → Hp → Prop} (q : QJ acc H) : tJs [] acc σ H QJ := q
theorem fmtR (q : te σ H fun x H1 => (∃ y : Str, x = .str y ∧ (reprText y).length ≤ sizeLine ∧ Q (.str (reprText y)) H1) ∨ ∃ i : Int, x = .int i ∧ i.natAbs.log2 < 1920 ∧ Q (.str (toString i)) H1) : tFmtR te σ H Q := q
/-! loops -/
/-- what a for asks, once its walk J is known -/
def Loop (J : It) (g : TG) (tb : TS) (D : Ends) (σ : L2.St) (H : Hp) : Prop := ∃ W : Nat → Nat → L2.St → Hp → Prop, (∃ m, W 0 m σ H) ∧ ∀ i m σ H, W i m σ H →
  (J.stop i H ∧ D.nx σ H) ∨ (J.go i H ∧ ∃ N : L2.St → Hp → Prop, (∀ σ' H', N σ' H' → ∃ m', m' < m ∧ W (i + 1) m' σ' H') ∧ ∀ x H', J.yld i H x H' → g x σ H' fun σ2 H2 => tb { D with nx := N, ct := N, bk := D.nx } σ2 H2)
theorem forS {wi : TI} {g : TG} {tb : TS} (q : wi σ H fun J H1 => Loop J g tb D σ H1) : tFor wi g tb D σ H := q
theorem rng1 {R : It → Hp → Prop} (q : tA σ H fun vs H1 => ∃ j : Int, vs = [.int j] ∧ -(2 ^ 62) ≤ j ∧ j < 2 ^ 62 ∧ R (Itr 0 j.toNat) H1) : iRng1 tA σ H R := q
theorem rngI {g : TG} {tb : TS} {n : Int} (h1 : -(2 ^ 62) ≤ n) (h2 : n < 2 ^ 62) (q : Loop (Itr 0 n.toNat) g tb D σ H) : ∃ j : Int, [V.int n] = [V.int j] ∧ -(2 ^ 62) ≤ j ∧ j < 2 ^ 62 ∧ Loop (Itr 0 j.toNat) g tb D σ H := ⟨n, rfl, h1, h2, q⟩
theorem itS {R : It → Hp → Prop} (q : te σ H fun v H1 => ∃ x, v = .str x ∧ R (Its x) H1) : iStr te σ H R := q
theorem itSs {g : TG} {tb : TS} {z : Str} (q : Loop (Its z) g tb D σ H) : ∃ x, V.str z = V.str x ∧ Loop (Its x) g tb D σ H := ⟨z, rfl, q⟩
theorem itL {R : It → Hp → Prop} (q : te σ H fun x H1 => ∃ a, x = .ref a ∧ (∃ xs, SqL K H1 a xs) ∧ R (Itl K a) H1) : iList K te σ H R := q
theorem itLs {g : TG} {tb : TS} {a : Addr} {xs : List V} (h : SqL K H a xs) (q : Loop (Itl K a) g tb D σ H) : ∃ b, V.ref a = V.ref b ∧ (∃ xs, SqL K H b xs) ∧ Loop (Itl K b) g tb D σ H := ⟨a, rfl, ⟨xs, h⟩, q⟩
theorem itT {R : It → Hp → Prop} (q : te σ H fun x H1 => ∃ a, x = .ref a ∧ (∃ xs, SqT K H1 a xs) ∧ R (Itt K a) H1) : iTup K te σ H R := q
theorem itTs {g : TG} {tb : TS} {a : Addr} {xs : List V} (h : SqT K H a xs) (q : Loop (Itt K a) g tb D σ H) : ∃ b, V.ref a = V.ref b ∧ (∃ xs, SqT K H b xs) ∧ Loop (Itt K b) g tb D σ H := ⟨a, rfl, ⟨xs, h⟩, q⟩
/-! comprehensions -/
def LC (J : It) (g : TG) (tt : TT) (te : TE) (vs : List Nat) (σ : L2.St) (H1 : Hp) (D : Addr) (Qd : Hp → Prop) : Prop := ∃ W : Nat → Nat → Hp → Prop, (∃ m, W 0 m (upd H1 D (.lst []))) ∧ ∀ i m H, W i m H →
  (J.stop i H ∧ Qd H) ∨ (J.go i H ∧ ∃ Nx : Hp → Prop, (∀ H', Nx H' → ∃ m', m' < m ∧ W (i + 1) m' H') ∧ ∀ x H', J.yld i H x H' → g x (wipe σ vs) H' fun σ2 H2 => wipe σ2 vs = wipe σ vs ∧ tt σ2 H2 fun b H3 =>
    if b = true then te σ2 H3 fun y H4 => ∃ acc, H4 D = some (.lst acc) ∧ acc.length < sizeLine ∧ Nx (upd H4 D (.lst (acc ++ [y]))) else Nx H3)
theorem lc {wi : TI} {g : TG} {tt : TT} {vs : List Nat} (q : wi σ H fun J H1 => ∀ D, H1 D = none → LC J g tt te vs σ H1 D fun H2 => Q (.ref D) H2) : tLc wi g tt te vs σ H Q := q
theorem lcLs {g : TG} {tt : TT} {vs : List Nat} {QD : Addr → Hp → Prop} {a : Addr} {xs : List V} (h : SqL K H a xs) (q : ∀ D, H D = none → LC (Itl K a) g tt te vs σ H D (QD D)) :
    ∃ b, V.ref a = V.ref b ∧ (∃ xs, SqL K H b xs) ∧ ∀ D, H D = none → LC (Itl K b) g tt te vs σ H D (QD D) := ⟨a, rfl, ⟨xs, h⟩, q⟩
/-- [e for x in xs if t], the test and the element worth f and v whatever has been laid meanwhile; what was tracked stands -/
theorem lcL {j : Nat} {tt : TT} {vs : List Nat} {a D : Addr} {xs : List V} {Qd : Hp → Prop} (f : V → Bool) (v : V → V) (hx : SqL K H a xs) (hD : H D = none) (hz : xs.length < 1000000) (hw : ∀ x, wipe ((wipe σ vs).set j (some x)) vs = wipe σ vs)
    (ht : ∀ x H1 QT, x ∈ xs → (∀ T, But T H H1) → (∀ H2, (∀ T, But T H1 H2) → QT (f x) H2) → tt ((wipe σ vs).set j (some x)) H1 QT)
    (he : ∀ x H1 QV, x ∈ xs → f x = true → (∀ T, But T H H1) → (∀ H2, (∀ T, But T H1 H2) → QV (v x) H2) → te ((wipe σ vs).set j (some x)) H1 QV)
    (hd : ∀ H1, (∀ T, But T H H1) → H1 D = some (.lst ((xs.filter f).map v)) → Qd H1) : LC (Itl K a) (gName j) tt te vs σ H D Qd := by
  refine lc_list (K := K) (a := a) (xs := xs) (fun i H1 => (∀ T, But T H H1) ∧ H1 D = some (.lst (((xs.take i).filter f).map v))) ⟨fun _ => But.new hD, upd_same⟩ (fun i H1 _ p => (p.1 []).seq hx (by simp)) (fun i x H1 hi p => ?_) fun H1 p => hd H1 p.1 (by rw [List.take_length] at p; exact p.2)
  have hm := List.mem_of_getElem? hi
  refine ⟨hw x, ht x H1 _ hm p.1 fun H2 b2 => ?_⟩
  have hb : ∀ T, But T H H2 := fun T => (p.1 T).trans (b2 T)
  have hD2 := (b2 []).lst p.2 (by simp)
  cases e : f x with
  | true =>
    refine L2.iteT (he x H2 _ hm e hb fun H3 b3 => ?_)
    have hD3 := (b3 []).lst hD2 (by simp)
    refine ⟨_, hD3, ?_, fun T => (((hb T).trans (b3 T)).own hD (But.set hD3 rfl (List.mem_singleton.mpr rfl))), ?_⟩
    · rw [List.length_map]
      exact Nat.lt_of_le_of_lt (Nat.le_trans (List.length_filter_le _ _) (List.length_take_le' _ _)) (Nat.lt_of_lt_of_le hz (by decide))
    · rw [upd_same, List.take_add_one, hi, List.filter_append, List.map_append]
      show some (HO.lst _) = some (HO.lst (_ ++ List.map v (List.filter f [x])))
      rw [List.filter_cons, if_pos e]
      rfl
  | false =>
    refine L2.iteF ⟨hb, ?_⟩
    rw [hD2, List.take_add_one, hi, List.filter_append, List.map_append]
    show some (HO.lst _) = some (HO.lst (_ ++ List.map v (List.filter f [x])))
    rw [List.filter_cons, if_neg (by rw [e]; decide)]
    show _ = some (HO.lst (_ ++ []))
    rw [List.append_nil]
theorem loopR {j : Nat} {tb : TS} {n : Nat} (Pv : Nat → L2.St → Hp → Prop) (h0 : Pv 0 σ H)
    (hs : ∀ i σ' H', i < n → Pv i σ' H' → tb { D with nx := Pv (i + 1), ct := Pv (i + 1), bk := D.nx } (σ'.set j (some (.int (i : Int)))) H') (hd : ∀ σ' H', Pv n σ' H' → D.nx σ' H') : Loop (Itr 0 n) (gName j) tb D σ H :=
  for_range (lo := 0) (n := n) Pv h0 (fun i σ' H' hi p => by
    have e : (0 : Int) + (i : Int) = (i : Int) := Int.zero_add _
    show tb { D with nx := Pv (i + 1), ct := Pv (i + 1), bk := D.nx } (σ'.set j (some (.int ((0 : Int) + (i : Int))))) H'
    rw [e]
    exact hs i σ' H' hi p) hd
theorem loopL {g : TG} {tb : TS} {a : Addr} {xs : List V} (Pv : Nat → L2.St → Hp → Prop) (h0 : Pv 0 σ H) (hl : ∀ i σ' H', i ≤ xs.length → Pv i σ' H' → SqL K H' a xs)
    (hs : ∀ i x σ' H', xs[i]? = some x → Pv i σ' H' → g x σ' H' fun σ2 H2 => tb { D with nx := Pv (i + 1), ct := Pv (i + 1), bk := D.nx } σ2 H2) (hd : ∀ σ' H', Pv xs.length σ' H' → D.nx σ' H') : Loop (Itl K a) g tb D σ H :=
  for_list (K := K) (a := a) (xs := xs) Pv h0 hl hs hd
theorem loopT {g : TG} {tb : TS} {a : Addr} {xs : List V} (Pv : Nat → L2.St → Hp → Prop) (h0 : Pv 0 σ H) (hl : ∀ i σ' H', i ≤ xs.length → Pv i σ' H' → SqT K H' a xs)
    (hs : ∀ i x σ' H', xs[i]? = some x → Pv i σ' H' → g x σ' H' fun σ2 H2 => tb { D with nx := Pv (i + 1), ct := Pv (i + 1), bk := D.nx } σ2 H2) (hd : ∀ σ' H', Pv xs.length σ' H' → D.nx σ' H') : Loop (Itt K a) g tb D σ H :=
  for_tup (K := K) (a := a) (xs := xs) Pv h0 hl hs hd
theorem loopS {g : TG} {tb : TS} {z : Str} (Pv : Nat → L2.St → Hp → Prop) (h0 : Pv 0 σ H)
    (hs : ∀ (i : Nat) (c : Nat) σ' H', z.cps.toList[i]? = some c → Pv i σ' H' → g (.str ⟨#[c]⟩) σ' H' fun σ2 H2 => tb { D with nx := Pv (i + 1), ct := Pv (i + 1), bk := D.nx } σ2 H2) (hd : ∀ σ' H', Pv z.cps.toList.length σ' H' → D.nx σ' H') : Loop (Its z) g tb D σ H := by
  have hsz : z.cps.toList.length = z.cps.size := Array.length_toList
  refine ⟨fun i m σ H => m = z.cps.size - i ∧ i ≤ z.cps.size ∧ Pv i σ H, ⟨z.cps.size, by simp, Nat.zero_le _, h0⟩, ?_⟩
  rintro i m σ' H' ⟨rfl, hi, p⟩
  by_cases hlt : i < z.cps.size
  · refine .inr ⟨hlt, Pv (i + 1), fun σ2 H2 p' => ⟨z.cps.size - (i + 1), by omega, rfl, hlt, p'⟩, fun x H2 y => ?_⟩
    obtain ⟨e, c, hc, ex⟩ := y
    subst e ex
    exact hs i c σ' _ (by rw [Array.getElem?_toList]; exact hc) p
  · have e : i = z.cps.size := by omega
    subst e
    exact .inl ⟨Nat.le_refl _, hd σ' H' (by rw [hsz]; exact p)⟩

end
/-- the slots at the start, written out -/
theorem st {N : List Str} {vs : List V} {ts : TS} {D : Ends} {H : Hp} {σ : L2.St} (e : L2.start N vs = σ) (q : ts D σ H) : ts D (L2.start N vs) H := by
  rw [e]
  exact q

/-! ## a def of the text, its address, how it binds -/
structure DefAt (K : PySem.W.Frag) (mg : Str → Option Value) (x : Str) (st : Stmt) (ps : List Str) (f : Addr) (fd : FuncData) : Prop where
  F : Fun K x x st f fd
  b : Binds K fd ps []
  g : mg x = some (.ref f)
section
variable {X : Cx} {CX : CXT} {k : Nat} {f : Addr} {fd : FuncData} {ps : List Str} {sp : Sp} {x : Str} {st : Stmt} {p pos : Pos} {e : Expr} {es : List Expr} {t : TA}
/-- f(..), f a def of one's own that raises nothing -/
theorem pcall (D : DefAt X.K X.mg x st ps f fd) (G : FnOk X.prog X.w X.K X.mg X.base CX0 k f fd ps sp) (hr : Room k X.A) (ha : PA X (e :: es) t) (hg : Gl X x := by rfl) (hdb : (x == ("__debug__" : Str)) = false := by decide)
    (he : starEach (e :: es) X.env = (false, eval e X.env) :: starEach es X.env := by rfl) (hpl : (backTo pos (starEach es X.env)).any (·.1) = false := by rfl) :
    PE X (.Call (.Name x p) (e :: es) [] pos) (tCall sp [] E0 t) := pe_call G hr hg D.g D.F.kp D.b .nil pass0 ha hdb he hpl
theorem pcall0 (D : DefAt X.K X.mg x st ps f fd) (G : FnOk X.prog X.w X.K X.mg X.base CX0 k f fd ps sp) (hr : Room k X.A) (hg : Gl X x := by rfl) (hdb : (x == ("__debug__" : Str)) = false := by decide) :
    PE X (.Call (.Name x p) [] [] pos) (tCall sp [] E0 tNil) := pe_call0 G hr hg D.g D.F.kp D.b .nil pass0 hdb
end
end Y


/-! # any(list of truth values) while an exception is handled -/
namespace Yh
open PySem PySem.Spec PyProof.Rows L2 HotX L2H
section
variable {prog : Program} {w : World} {A : Around} {E : Value → Shared → Prop} {s : Shared}
theorem list_end {it l x1 : Addr} {i : Nat} {items : Array Value} {Q : Option Value → Shared → Prop} (hot : HotAt A x1 s.heap) (hne : x1 ≠ it) (hit : s.heap.IsListIter it l i) (hl : s.heap.IsList l items) (hx : items[i]? = none)
    (hQ : ∀ h', Heap.ExtBut it s.heap h' → Q none { s with heap := h' }) : wpAny (model prog w) A (pyNext (.ref it)) Q E s := by
  obtain ⟨o, ho, hc, hd⟩ := _root_.id hit
  obtain ⟨ol, hol, _, nl, hdl⟩ := hl
  obtain ⟨hh, o1, vs1, h1, d1, c1⟩ := hot
  unfold pyNext
  refine wpAny_bind (wpAny_attempt (wpAny_callSpecial?_slot (name := Str.ofString "__next__") hit.typeIs slot_listiter_next (wpAny_call_entry slot_listiter_next hit.typeIs entry_listiter_next ?_ (args_listiter_next _))))
  show wpAny _ _ (field (.ref it) 0 >>= _) _ _ s
  refine wpAny_bind (wpAny_field ho hd (x := .ref l) rfl ?_)
  show wpAny _ _ (if (Value.ref l == Value.none) = true then _ else _) _ _ s
  rw [if_neg (show ¬ ((Value.ref l == Value.none) = true) from Bool.false_ne_true)]
  show wpAny _ _ (field (.ref it) 1 >>= _) _ _ s
  refine wpAny_bind (wpAny_field ho hd (x := .int i 0) rfl ?_)
  show wpAny _ _ (seqItems? (.ref l) >>= _) _ _ s
  refine wpAny_bind (wpAny_seqItems hol hdl ?_)
  simp only [Int.toNat_natCast, hx]
  refine wpAny_bind (wpAny_rule (wpAny_bind (wpAny_setField ho hd (by simp) ?_)))
  show wpAny _ _ (newExc (.type "StopIteration") [] >>= _) _ _ _
  refine wpAny_bind ?_
  simp only [newExc, newTuple]
  refine wpAny_bind (wpAny_newObj_type ?_ (by size_fits))
  refine wpAny_bind (m := firstArgMember _ _) (wpAny_of_eq (a := Value.none) (by first | rfl | (simp only [firstArgMember]; rfl)) ?_)
  refine wpAny_newObj_type ?_ (by size_fits)
  have h1a : (s.heap.update it (Obj.mapFields fun x => x.setIfInBounds 0 Value.none)).get? x1 = some o1 := by
    rw [Heap.get?_update_other _ _ (Ne.symm hne)]
    exact h1
  refine raiseNew_hot ⟨hh, o1, vs1, Heap.get?_push_of_some _ (Heap.get?_push_of_some _ h1a), d1, c1⟩ (Nat.ne_of_lt (Heap.lt_size (Heap.get?_push_of_some _ h1a))) (Heap.get?_push_size _ rfl) rfl (by first | (simp; done) | (simp; omega) | (simp only [Array.size_append]; simp; omega)) ?_
  refine wpAny_bind (wpAny_isInstance (T := "StopIteration") (b := true) ⟨_, Heap.get?_update_self _ (Heap.get?_push_size _ rfl) rfl, rfl⟩ isSubtype_stop ?_)
  refine wpAny_pure (hQ _ fun b u nb e => ?_)
  have ea : (s.heap.update it (Obj.mapFields fun x => x.setIfInBounds 0 Value.none)).get? b = some u := by
    rw [Heap.get?_update_other _ _ (Ne.symm nb)]
    exact e
  rw [Heap.get?_update_other _ _ (Nat.ne_of_gt (Heap.lt_size (Heap.get?_push_of_some _ ea)))]
  exact Heap.get?_push_of_some _ (Heap.get?_push_of_some _ ea)
/-- the walk of a list, an exception x1 being handled -/
theorem walks {x1 it l : Addr} (hh : A.handled = some (.ref x1)) (h1 : x1 ≠ it) (h2 : l ≠ it) (items : Array Value) : Walks prog w A it [it, l, x1] [it] items.size (fun i v => items[i]? = some v)
    (fun i h => h.IsListIter it l i ∧ h.IsList l items ∧ ∃ (o : Obj) (vs : Array Value), h.get? x1 = some o ∧ o.data = .fields vs ∧ vs[2]? = some .none) where
  sub := fun b hb => by
    rw [List.mem_singleton.mp hb]
    exact List.mem_cons_self
  frame := fun _ _ _ st hk => ⟨st.1.at fun o e => hk it (by simp) o e, st.2.1.at fun o e => hk l (by simp) o e, let ⟨o, vs, e, d, c⟩ := st.2.2; ⟨o, vs, hk x1 (by simp) o e, d, c⟩⟩
  item := fun i s Q E hi st hQ => by
    refine wpAny_pyNext_list_item st.1 st.2.1 (x := items[i]) (by simp [hi]) fun h' hit' hs' => ?_
    obtain ⟨o, vs, e, d, c⟩ := st.2.2
    exact hQ _ h' s.toks (by simp [hi]) ⟨hit', st.2.1.extBut hs'.extBut h2, o, vs, hs'.extBut x1 o h1 e, d, c⟩ fun b o hb e => hs'.extBut b o (fun h => hb (by simp [h])) e
  done := fun s Q E st hQ => by
    obtain ⟨o, vs, e, d, c⟩ := st.2.2
    exact list_end ⟨hh, o, vs, e, d, c⟩ h1 st.1 st.2.1 (by simp) fun h' he' => hQ h' s.toks fun b o hb e => he' b o (fun h => hb (by simp [h])) e
  self := fun _ _ _ _ st hQ => wpAny_pyIter_listiter st.1 hQ
end
section
variable {X : Cx}
/-- any(xs), xs a list of truth values, within an except suite -/
theorem cr_anyH (hot : HotC X) : CallR X (.builtin "any") (rAny X.K) := by
  intro pins s σ H vs us Q I r h
  obtain ⟨a, bs, rfl, hs, q⟩ := h
  obtain ⟨its, rv, hl, _⟩ := I.list hs
  obtain ⟨x1, hh, o1, vs1, e1, d1, c1⟩ := hot.at I
  rw [Vals.ref1 r]
  have hb := rv.bls
  refine call_any_walk (iter_any hl.isList fun s₂ e2 st hne => ?_)
  subst e2
  have hx : x1 ≠ s.heap.objs.size := Nat.ne_of_lt (Heap.lt_size e1)
  refine ⟨_, _, _, _, _, _, _, rfl, walks (A := X.A.in1) hh hx hne its.toArray, ⟨st.1, st.2, o1, vs1, Heap.get?_push_of_some _ e1, d1, c1⟩, truth_bools hb, fun h' tk hk => ?_⟩
  refine ⟨.bl (bs.any id), H, I.kept fun b o eo => hk b o (fun z => ?_) (Heap.get?_push_of_some _ eo), ?_, q⟩
  · rw [List.mem_singleton.mp z] at eo
    exact absurd (Heap.lt_size eo) (Nat.lt_irrefl _)
  · show Value.bool _ = Value.bool _
    rw [← L2.any_range, hb, List.size_toArray, List.length_map]
/-- isinstance(e, c), e the exception that the suite holds, an instance of the class at D without a dict of its own -/
def rIsX (K : PySem.W.Frag) (D a : Addr) (cls : Value) (d : Option Addr) : List V → Hp → VK → Prop := fun xs H Q => cls = .ref D ∧ d = none ∧ rIsE K D a xs H Q
theorem call_isX {a D : Addr} {oe : Obj} {cls : Value} {d : Option Addr} {pn : List (Addr × Obj)} (C : ExcC X.K D) (hz : Zc cls d oe) (hf : ∃ vs, oe.data = .fields vs) : CallR (X.suite a ((a, oe) :: pn)) (.builtin "isinstance") (rIsX X.K D a cls d) := by
  intro pins s σ H xs us Q I r h
  obtain ⟨e1, e2, h⟩ := h
  subst e1 e2
  exact call_isE C hz hf pins s σ H xs us Q I r h
/-- no exception leaves: the wish is empty -/
theorem passN : Passes (L2N.CX X.prog X.w) X E0 := fun _ _ _ _ _ _ _ h => by
  obtain ⟨_, _, _, _, _, _, _, _, _, _, _, _, z⟩ := h
  exact z.elim
theorem takesN : L2N.Takes X (fun _ _ _ _ => False) := fun _ _ x => by
  obtain ⟨_, _, _, _, _, _, _, _, _, _, _, _, _, _, _, _, z⟩ := x
  exact z.elim
/-- C(e, ..), an exception of one's own class -/
theorem pmkA {C : Addr} {bmB : List Value} {B newId initId : String} {x : Str} {p pos : Pos} {e : Expr} {es : List Expr} {t : TA} (F : ExcBaseFacts B newId initId bmB) (q : PySem.W.excIn X.K C bmB newId = true) (gC : X.mg x = some (.ref C))
    (kC : PySem.W.keepIn X.K (.ref C) = true) (r : Raises X (.ref C)) (ha : PA X (e :: es) t) (hg : Gl X x := by rfl) (hdb : (x == ("__debug__" : Str)) = false := by decide)
    (he : starEach (e :: es) X.env = (false, eval e X.env) :: starEach es X.env := by rfl) (hpl : (backTo pos (starEach es X.env)).any (·.1) = false := by rfl) :
    L2N.PMk X (.Call (.Name x p) (e :: es) [] pos) (fun σ H Q => t σ H fun vs H1 => vs.length ≤ sizeLine ∧ Q (.ref C) none H1) := by
  intro pins s σ H Q I h
  refine wpAny_Call_Name_kw (ld_glob I hg gC (PySem.W.callWith_K (h₀ := X.base) I.ok.mod.kin kC (thn (ha.run pos pins s σ H _ I h) fun us s1 hh => ?_) he hpl) hdb)
  obtain ⟨vs, H1, I1, r1, hz, q1⟩ := hh
  refine ⟨I1.kIn, ?_⟩
  show wpAny _ _ (call (.ref C) us) _ _ _
  obtain ⟨bm, N, nm, qn, bs, hdct, sn, sub, ab, col, dd, k0, k1, k2, k3, k5, mN, hC, hN, hni, T⟩ := exc_obj I1.kIn q
  exact wpAny_call_exc_subT F T hC hN hni (fun h' e hm => L2N.mk_of I1 hm r q1 (I1.hok.gone hm.new)) (by rw [← r1.length]; exact hz)
/-- a def that may raise, as it stands in the text -/
theorem okN {P : Program} {w : World} {K : PySem.W.Frag} {mg : Str → Option Value} {base : Heap} {x qual : Str} {st : Stmt} {f : Addr} {fd : FuncData} {N ps : List Str} {k : Nat} {sp : Sp} (F : Fun K x qual st f fd) (S : FnScope N ps (defScope st)) (len : ∀ vs H Q E, sp vs H Q E → vs.length = ps.length)
    (hbody : ∀ (cdv : Value) (A : Around) (outer : List Env) (s : Shared) (H : Hp) (vs : List V) (Q : VK) (E : XK), Room k (A.deeper (envOfC qual (defScope st) s.heap.objs.size f cdv)) → sp vs H Q E →
      ∃ t, PSs (cxOf (L2N.CX P w) P w K mg base N qual (defScope st) f cdv A outer s H E) (defBody st) t ∧ t { nx := fun _ H' => Q .non H', rt := Q } (start N vs) H) : FnOk P w K mg base (L2N.CX P w) (k + 1) f fd ps sp := by
  obtain ⟨oc, od, kV, doc, pm, an, cdv, ct, osl, rfl, lk, hcd⟩ := F.ex
  exact fn_of lk hcd S len fun A outer s H vs Q E hr hsp => hbody cdv A outer s H vs Q E hr hsp
/-- f(..), where what it raises is wished by W -/
theorem pcallS {k : Nat} {f : Addr} {fd : FuncData} {ps : List Str} {sp : Sp} {W : WX} {x : Str} {st : Stmt} {p pos : Pos} {e : Expr} {es : List Expr} {t : TA} (D : Y.DefAt X.K X.mg x st ps f fd) (G : FnOk X.prog X.w X.K X.mg X.base (L2N.CX X.prog X.w) k f fd ps sp) (hr : Room k X.A) (tk : L2N.Takes X W)
    (ha : PA X (e :: es) t) (hg : Gl X x := by rfl) (hdb : (x == ("__debug__" : Str)) = false := by decide) (he : starEach (e :: es) X.env = (false, eval e X.env) :: starEach es X.env := by rfl) (hpl : (backTo pos (starEach es X.env)).any (·.1) = false := by rfl) :
    PE X (.Call (.Name x p) (e :: es) [] pos) (tCallS sp (WE W) t) := pe_callS G hr hg D.g D.F.kp D.b (fun σ => L2N.passAt tk σ) ha hdb he hpl
/-- f(..), which raises nothing here -/
theorem pcallN {k : Nat} {f : Addr} {fd : FuncData} {ps : List Str} {sp : Sp} {x : Str} {st : Stmt} {p pos : Pos} {e : Expr} {es : List Expr} {t : TA} (D : Y.DefAt X.K X.mg x st ps f fd) (G : FnOk X.prog X.w X.K X.mg X.base (L2N.CX X.prog X.w) k f fd ps sp) (hr : Room k X.A)
    (ha : PA X (e :: es) t) (hg : Gl X x := by rfl) (hdb : (x == ("__debug__" : Str)) = false := by decide) (he : starEach (e :: es) X.env = (false, eval e X.env) :: starEach es X.env := by rfl) (hpl : (backTo pos (starEach es X.env)).any (·.1) = false := by rfl) :
    PE X (.Call (.Name x p) (e :: es) [] pos) (tCall sp [] E0 t) := pe_call G hr hg D.g D.F.kp D.b .nil passN ha hdb he hpl
theorem callS {sp : Sp} {W : L2.St → XK} {tA : TA} {σ : L2.St} {H : Hp} {Q : VK} (q : tA σ H fun vs H1 => sp vs H1 Q (W σ)) : tCallS sp W tA σ H Q := q
theorem isX {K : PySem.W.Frag} {D a C : Addr} {b : Bool} {H : Hp} {Q : VK} (h : PySem.W.kitOne K (.ref D) (.ref C) = some b) (q : Q (.bl b) H) : rIsX K D a (.ref D) none [.ref a, .ref C] H Q := ⟨rfl, rfl, .ref C, .ref C, b, rfl, fun _ r => r, h, q⟩
theorem isXt {K : PySem.W.Frag} {D a : Addr} {c : String} {b : Bool} {H : Hp} {Q : VK} (h : PySem.W.kitOne K (.ref D) (.type c) = some b) (q : Q (.bl b) H) : rIsX K D a (.ref D) none [.ref a, .ty c] H Q := ⟨rfl, rfl, .ty c, .type c, b, rfl, fun _ r => r, h, q⟩
theorem hot_of {X : Cx} {a : Addr} {oe : Obj} {cls : Value} {d : Option Addr} {pn : List (Addr × Obj)} (hz : L2N.Zn cls d oe) (hf : ∃ vs, oe.data = .fields vs) : HotC (X.suite a ((a, oe) :: pn)) := by
  obtain ⟨vs, e⟩ := hf
  exact ⟨(a, oe), ⟨rfl, vs, e, hz.2.2 vs e⟩, List.mem_cons_self⟩
end
end Yh

/-! # all(test for x in a text), the test calling what it likes of the written part -/
namespace Yg
open PySem PySem.Spec PyProof.Rows L2
/-- the test of one sign: wherever it is asked, the base standing as it stood -/
def EltX (X : Cx) (scope : Scope) (x : Str) (elt : Expr) (pb : Nat → Bool) : Prop :=
  ∀ (env : Env) (B : Around) (E : Value → Shared → Prop) (c : Nat) (t : Tok) (s : Shared) (m : Str → Option Value),
    B.handled = none → B.depth ≤ X.A.depth + 1 → B.units ≤ X.A.units + 8 → env.scope = scope → env.globals = mainGlobals → L2.Mod X.K X.mg X.base → (∀ b o, X.base.get? b = some o → s.heap.get? b = some o) →
    s.heap.Ns env.locals m → m x = some (.str ⟨#[c]⟩ t) → wpAny (model X.prog X.w) B (eval elt env) (fun y s' => y = .bool (pb c) ∧ Keeps s s') E s
section
variable {X : Cx} {pins : List (Addr × Obj)} {σ : L2.St} {H : Hp} {s : Shared}
/-- the generator is made and ready to be walked -/
theorem made {c P : Addr} {elt iter : Expr} {x : Str} {px gpos : Pos} {scope : Scope} {pb : Nat → Bool} {te : TE} {k : Nat} {Q' : Value → Shared → Prop} {R : Str → Hp → Prop}
    (hr : Room k X.A) (TB : GxR.TabB X.base X.mg c P) (hcode : X.env.code = .ref c) (S : GxR.GenS X.env scope x) (hi : PE X iter te) (hel : EltX X scope x elt pb) (hs : ∀ v, genFold iter X.env v = pure v)
    (I : Inv X pins σ H s) (h : te σ H fun v H1 => ∃ a : Str, v = .str a ∧ GxR.TabG H1 P ∧ R a H1) (hQ : ∀ a H1 g s5, R a H1 → GxR.Ready X pins σ H1 P a pb g s5 → Q' (.ref g) s5) :
    wpAny (model X.prog X.w) X.A (eval (.GeneratorExp elt [⟨.Name x px, iter, [], 0⟩] scope gpos) X.env) Q' X.xe s := by
  have hroom : X.A.depth < recursionLimit := hr.depth
  refine wpAny_GeneratorExp_walksQD hr.hd S.co (closure_ok S.free) S.cell S.dot S.loc S.kind hroom ?_ hs
  refine thn (hi.run pins s σ H _ I h) fun xv s1 hx1 => ?_
  obtain ⟨v, H1, I1, r1, a, ev, ⟨ps, hP, ht⟩, hR⟩ := hx1
  subst ev
  obtain ⟨tk0, rfl⟩ := r1
  refine wpAny_pyIter_str fun o St W hst => ?_
  have tabS : s1.heap.get? P = some { cls := .none, data := .fields ps } := I1.hok P _ hP
  have ltP := Heap.lt_size tabS
  have old : ∀ b u, s1.heap.get? b = some u → (s1.heap.push o).get? b = some u := fun b u e => Heap.get?_push_of_some _ e
  have tabO := old P _ tabS
  have head : PySem.W.CodeHd (s1.heap.push o) c P := TB.code.keeps fun b u e => old b u (I1.bk b u e)
  have lim := I1.nolimit.push o
  have baseNe : ∀ b u, X.base.get? b = some u → b ≠ P := fun b u e z => by
    have n := (I1.bs b u e).2
    rw [z, hP] at n
    cases n
  -- the state h3 with the generator's code laid; the table holds qs
  have go : ∀ (code : Value) (h3 : Heap) (tk : Nat) (qs : Array Value), Heap.ExtBut P (s1.heap.push o) h3 → (s1.heap.push o).objs.size ≤ h3.objs.size → h3.get? P = some { cls := .none, data := .fields qs } → (∃ more, qs = ps ++ more) → TriplesOk qs.toList →
      wpAny (model X.prog X.w) X.A (builtinsFor X.env.globals X.env.builtins) (fun bi s₄ => ∃ Ia fp wr n₀ Pf St₀ pz F, Value.ref s1.heap.objs.size = .ref Ia ∧ (∀ A' : Around, A'.handled = none → Walks X.prog X.w A' Ia fp wr n₀ Pf St₀) ∧ St₀ 0 s₄.heap ∧
        (∀ b ∈ fp, b < s₄.heap.objs.size) ∧ s₄.heap.NoLimit ∧ cStatics ∉ wr ∧
        (∀ href : Heap, (∀ b o, s₄.heap.get? b = some o → href.get? b = some o) → QuietGenD X.prog X.w (genEnv scope (cloFrom X.env.cells scope.names []) s₄.heap.objs.size code bi X.env) x [] elt (List.range s₄.heap.objs.size) wr Pf pz F href (X.A.depth + 1) (X.A.units + 8)) ∧
        (∀ a h₅ tk gs, gs.bare = true → s₄.heap.objs.size < a → h₅.objs.size = a + 1 → (∀ b o, s₄.heap.get? b = some o → h₅.get? b = some o) →
          WalksS X.prog X.w X.A.in4 a (a :: s₄.heap.objs.size :: List.range s₄.heap.objs.size) (s₄.heap.objs.size :: wr) (GenOnlyQ s₄.gens.size) (passing pz n₀ 0).length (fun j y => ∃ i, (passing pz n₀ 0)[j]? = some i ∧ F i y)
            (GenAt X.prog X.w X.A.in4 a s₄.gens.size s₄.heap.objs.size (List.range s₄.heap.objs.size) wr pz n₀ F) →
          GenAt X.prog X.w X.A.in4 a s₄.gens.size s₄.heap.objs.size (List.range s₄.heap.objs.size) wr pz n₀ F 0 { s₄ with gens := s₄.gens.push gs, toks := tk, heap := h₅ } → Q' (.ref a) { s₄ with gens := s₄.gens.push gs, toks := tk, heap := h₅ })) X.xe { s1 with heap := h3, toks := tk } := by
    intro code h3 tk qs ext hsz htab hmore hok
    obtain ⟨more, hm⟩ := hmore
    have keep : ∀ b u, b ≠ P → s1.heap.get? b = some u → h3.get? b = some u := fun b u nb e => ext b u nb (old b u e)
    have hsz2 : s1.heap.objs.size + 1 ≤ h3.objs.size := by
      have q := hsz
      rw [Heap.size_push] at q
      exact q
    obtain ⟨bm, ob, m1, m2, m3, m4, m5, m6, m7, m8⟩ := TB.bm
    have statNe : cStatics ≠ P ∧ cStatics < s1.heap.objs.size := by
      obtain ⟨_, nsS, _⟩ := I1.nolimit
      refine ⟨fun z => ?_, nsS.lt⟩
      obtain ⟨oS, es, ep, e1, e2, _⟩ := nsS
      rw [z, tabS] at e1
      cases e1
      cases e2
    have glob3 : h3.Ns X.env.globals X.mg := by
      rw [I1.ok.glob]
      exact ((I1.mod.glob.keeps I1.bk).push o).extBut ext TB.gP
    refine wpAny_builtinsFor (m := X.mg) glob3 m1 m2 (keep _ _ m4 (I1.bk _ _ m5)) m6 m7 m8 ?_
    refine ⟨s1.heap.objs.size, [s1.heap.objs.size], [s1.heap.objs.size], a.cps.size, SignAt a, St, fun _ => true, fun i y => ∃ cc, a.cps[i]? = some cc ∧ y = .bool (pb cc), rfl, W, ?_, fun b hb => ?_, lim.extBut ext statNe.1, fun z => ?_, fun href hh => ?_, fun g h5 tk5 gs gb gl g5 k5 W5 at5 => ?_⟩
    · refine (W X.A hr.hd).frame _ _ _ hst fun b hb u e => ext b u (fun z => ?_) e
      rw [List.mem_singleton.mp hb] at z
      exact absurd z (Nat.ne_of_gt ltP)
    · rw [List.mem_singleton.mp hb]
      exact hsz2
    · exact absurd (List.mem_singleton.mp z) (Nat.ne_of_lt statNe.2)
    · refine ⟨fun A' E' i v s₂ m₂ _ _ _ _ _ _ _ => ?_, fun A' E' i v s₂ m₂ hA hD hU hPv _ hn hmx hk => ?_⟩
      · simp only [List.forIn_nil]
        exact wpAny_pure ⟨rfl, GxR.keeps_refl _⟩
      · obtain ⟨cc, u, hcc, ev⟩ := hPv
        subst ev
        have base2 : ∀ b o', X.base.get? b = some o' → s₂.heap.get? b = some o' := fun b o' e => by
          have e1 := I1.bk b o' e
          have e3 := keep b o' (baseNe b o' e) e1
          refine hk b (List.mem_range.mpr (Heap.lt_size e3)) (fun z => ?_) o' (hh b o' e3)
          exact absurd (List.mem_singleton.mp z) (Nat.ne_of_lt (Heap.lt_size e1))
        exact wpAny_mono (hel _ A' E' cc u s₂ m₂ hA hD hU rfl I1.ok.glob I1.ok.mod base2 hn hmx) (fun y s3 r => ⟨⟨cc, hcc, r.1⟩, r.2⟩) fun _ _ e => e
    · simp only [GxR.passing_true, List.length_range] at W5
      refine hQ a H1 g _ hR ⟨_, _, _, _, _, W5.in4_1, at5, fun j y sj Qj Ej hy hq => ?_, fun s' mv => ?_⟩
      · obtain ⟨i, hij, cc, hcc, ey⟩ := hy
        subst ey
        have ej : j = i := by
          obtain ⟨hj, e⟩ := List.getElem?_eq_some_iff.mp hij
          rw [List.getElem_range] at e
          exact e
        subst ej
        have e9 : a.cps.toList[j]? = some cc := by rw [Array.getElem?_toList]; exact hcc
        have hq2 : Qj (GxR.trF pb a.cps.toList j) sj := hq
        rw [GxR.trF_some e9] at hq2
        exact wpAny_truthy_bool hq2
      · have stay : ∀ b u, s1.heap.get? b = some u → b ∉ h3.objs.size :: [s1.heap.objs.size] := fun b u e z => by
          have hl : b < s1.heap.objs.size := Heap.lt_size e
          rcases List.mem_cons.mp z with z | z
          · rw [z] at hl
            exact absurd hl (Nat.not_lt.mpr (Nat.le_of_succ_le hsz2))
          · rw [List.mem_singleton.mp z] at hl
            exact absurd hl (Nat.lt_irrefl _)
        have J := GxR.inv_tab (more := more) (h' := s'.heap) (g' := s'.gens) (d' := s'.drawn) (t' := s'.toks) I1 hP (fun b u hb e => mv.heap b u (stay b u e) (k5 b u (keep b u hb e)))
          (by rw [← hm]; exact mv.heap P _ (stay P _ tabS) (k5 P _ htab)) (AllBare.movedS (I1.bare.push gb) mv)
        rw [GxR.sh_eta s1 s' mv.os] at J
        exact ⟨upd H1 P (.tbl (ps ++ more)), ⟨⟨ps ++ more, upd_same, by rw [← hm]; exact hok⟩, fun b hb => upd_ne hb⟩, J⟩
  refine ⟨lim, ?_⟩
  cases found : codeAmong gpos ps.toList with
  | some cv =>
    refine wpAny_genexprCode_hit hcode (head.code tabO ht) found ?_
    exact go cv (s1.heap.push o) s1.toks ps (Heap.ExtBut.refl _ _) (Nat.le_refl _) tabO ⟨#[], by simp⟩ ht
  | none =>
    refine wpAny_genexprCodeX hcode (head.code tabO ht) (head.tab tabO) found fun c' h' tk ext ge lt co _ tab' _ => ?_
    obtain ⟨_, _, _, _, _, _, _, _, _, _, _, _, _, _, _, _, _, _, _, okT, _⟩ := co
    exact go (.ref c') h' tk _ ext (Nat.le_trans ge (Nat.le_of_lt lt)) tab'.2 ⟨_, rfl⟩ okT
/-- all(test for x in e) -/
theorem pe_all {c P : Addr} {elt iter : Expr} {x : Str} {px p pos gpos : Pos} {scope : Scope} {pb : Nat → Bool} {te : TE} {k : Nat} (hr : Room k X.A) (hm : X.mg "all" = none) (TB : GxR.TabB X.base X.mg c P) (hcode : X.env.code = .ref c) (S : GxR.GenS X.env scope x)
    (hi : PE X iter te) (hel : EltX X scope x elt pb) (hs : ∀ v, genFold iter X.env v = pure v) (hg : Gl X "all" := by rfl)
    (he : starEach [.GeneratorExp elt [⟨.Name x px, iter, [], 0⟩] scope gpos] X.env = (false, eval (.GeneratorExp elt [⟨.Name x px, iter, [], 0⟩] scope gpos) X.env) :: starEach [] X.env := by rfl) :
    PE X (.Call (.Name "all" p) [.GeneratorExp elt [⟨.Name x px, iter, [], 0⟩] scope gpos] [] pos) (GxR.tAllS P pb te) := by
  refine ⟨fun pins s σ H Q I h => wpAny_Call_Name_kw (ld_blt I hg hm boot_all ?_)⟩
  refine PyProof.Rows.callWith_builtin1 ?_ he (by rfl)
  rw [he]
  show wpAny _ _ (spliced ((false, eval (.GeneratorExp elt [⟨.Name x px, iter, [], 0⟩] scope gpos) X.env) :: backTo pos (starEach [] X.env))) _ _ s
  refine Calls.spliced_cons (made (R := fun a H1 => ∀ H2, GxR.Tabbed P H1 H2 → Q (.bl (a.cps.toList.all pb)) H2) hr TB hcode S hi hel hs I h fun a H1 g s5 hR hG => Calls.spliced_nil ?_)
  obtain ⟨fp, wr, G, F, St, W, hst, htr, hI⟩ := hG
  refine call_all_walkS (W.self 0 _ _ _ hst ⟨g, fp, wr, G, _, F, St, _, rfl, W, hst, htr, fun s' mv => ?_⟩)
  obtain ⟨H2, hT, J⟩ := hI s' mv
  rw [GxR.all_signs a pb]
  exact ⟨.bl _, H2, J, rfl, hR H2 hT⟩
end
/-! ## what leaves may be asked in such a test -/
section
variable {prog : Program} {w : World} {B : Around} {E : Value → Shared → Prop} {s : Shared} {env : Env}
theorem keeps_trans {s s1 s2 : Shared} (a : Keeps s s1) (b : Keeps s1 s2) : Keeps s s2 := by
  obtain ⟨h1, t1, rfl, k1⟩ := a
  obtain ⟨h2, t2, rfl, k2⟩ := b
  exact ⟨h2, t2, rfl, fun b o e => k2 b o (k1 b o e)⟩
theorem keeps_heap {s s1 : Shared} (a : Keeps s s1) : ∀ b o, s.heap.get? b = some o → s1.heap.get? b = some o := by
  obtain ⟨h1, t1, rfl, k1⟩ := a
  exact k1
/-- 'lo' <= x <= 'hi' -/
theorem between {lo hi x : Str} {i j : Nat} {p1 p2 p3 pos : Pos} {c : Nat} {t : Tok} {m : Str → Option Value} (hk : env.scope.kind = .function) (hl : env.scope.names.lookup x = some .local) (hn : s.heap.Ns env.locals m) (hm : m x = some (.str ⟨#[c]⟩ t))
    (hd : (x == ("__debug__" : Str)) = false := by decide) :
    wpAny (model prog w) B (eval (.Compare (.Constant (.str lo) i p1) [.LtE, .LtE] [.Name x p2, .Constant (.str hi) j p3] pos) env) (fun y s' => y = .bool (Y.sLe lo ⟨#[c]⟩ && Y.sLe ⟨#[c]⟩ hi) ∧ Keeps s s') E s := by
  refine Compare_chain (Calls.Constant_str (chain_link ?_))
  refine wpAny_Name (wpAny_loadName_local hk hl hn hm ?_) hd
  refine PySem.P.le_str (wpAny_truthy_bool ?_)
  by_cases h : lo.cps.toList > [c]
  · have e : Y.sLe lo ⟨#[c]⟩ = false := by
      unfold Y.sLe
      rw [decide_eq_true (show ((⟨#[c]⟩ : Str).cps.toList < lo.cps.toList) from h)]
      rfl
    have e2 : (!decide ((⟨#[c]⟩ : Str).cps.toList < lo.cps.toList)) = false := e
    rw [e, e2]
    exact ⟨rfl, GxR.keeps_tok _ _⟩
  · have e : Y.sLe lo ⟨#[c]⟩ = true := by
      unfold Y.sLe
      rw [decide_eq_false (show ¬ ((⟨#[c]⟩ : Str).cps.toList < lo.cps.toList) from h)]
      rfl
    have e2 : (!decide ((⟨#[c]⟩ : Str).cps.toList < lo.cps.toList)) = true := e
    rw [e, e2]
    show wpAny _ _ _ _ _ _
    refine chain_last (Calls.Constant_str (PySem.P.le_str ?_))
    exact ⟨rfl, GxR.keeps_tok _ _⟩
end
end Yg

namespace K1
open PySem PySem.Spec PyProof.Rows L2
open Y (But DefAt)
def topS (i : Nat) : Stmt := PySem.Challenge.pw_readingsall_k01_names_and_texts.main.body.getD i (.Pass ⟨0, 0, 0, 0⟩)
abbrev s_is_letter : Stmt := topS 14
abbrev N_is_letter : List Str := ["char"]
theorem sc_is_letter : FnScope ["char"] ["char"] (defScope s_is_letter) := ⟨rfl, rfl, rfl, by decide +kernel, rfl, by decide +kernel, by decide +kernel⟩
abbrev s_is_name : Stmt := topS 15
abbrev N_is_name : List Str := ["text"]
theorem sc_is_name : FnScope ["text"] ["text"] (defScope s_is_name) := ⟨rfl, rfl, rfl, by decide +kernel, rfl, by decide +kernel, by decide +kernel⟩
abbrev s_is_form : Stmt := topS 16
abbrev N_is_form : List Str := ["text"]
theorem sc_is_form : FnScope ["text"] ["text"] (defScope s_is_form) := ⟨rfl, rfl, rfl, by decide +kernel, rfl, by decide +kernel, by decide +kernel⟩
abbrev s_split_text : Stmt := topS 17
abbrev N_split_text : List Str := ["text", "words", "word"]
theorem sc_split_text : FnScope ["text", "words", "word"] ["text"] (defScope s_split_text) := ⟨rfl, rfl, rfl, by decide +kernel, rfl, by decide +kernel, by decide +kernel⟩
abbrev s_join_words : Stmt := topS 18
abbrev N_join_words : List Str := ["words"]
theorem sc_join_words : FnScope ["words"] ["words"] (defScope s_join_words) := ⟨rfl, rfl, rfl, by decide +kernel, rfl, by decide +kernel, by decide +kernel⟩
abbrev s__law_tape : Stmt := topS 20
abbrev N__law_tape : List Str := ["script", "k", "cell"]
theorem sc__law_tape : FnScope ["script", "k", "cell"] ["script", "k"] (defScope s__law_tape) := ⟨rfl, rfl, rfl, by decide +kernel, rfl, by decide +kernel, by decide +kernel⟩
abbrev s__law_take : Stmt := topS 21
abbrev N__law_take : List Str := ["tape", "many", "got", "mixed"]
theorem sc__law_take : FnScope ["tape", "many", "got", "mixed"] ["tape", "many"] (defScope s__law_take) := ⟨rfl, rfl, rfl, by decide +kernel, rfl, by decide +kernel, by decide +kernel⟩
abbrev s__law_pick : Stmt := topS 22
abbrev N__law_pick : List Str := ["tape", "items"]
theorem sc__law_pick : FnScope ["tape", "items"] ["tape", "items"] (defScope s__law_pick) := ⟨rfl, rfl, rfl, by decide +kernel, rfl, by decide +kernel, by decide +kernel⟩
abbrev s__law_says : Stmt := topS 23
abbrev N__law_says : List Str := ["told", "due"]
theorem sc__law_says : FnScope ["told", "due"] ["told", "due"] (defScope s__law_says) := ⟨rfl, rfl, rfl, by decide +kernel, rfl, by decide +kernel, by decide +kernel⟩
abbrev s__law_same : Stmt := topS 24
abbrev N__law_same : List Str := ["told", "due", "k"]
theorem sc__law_same : FnScope ["told", "due", "k"] ["told", "due"] (defScope s__law_same) := ⟨rfl, rfl, rfl, by decide +kernel, rfl, by decide +kernel, by decide +kernel⟩
abbrev s__law_chars : Stmt := topS 25
abbrev N__law_chars : List Str := ["chars"]
theorem sc__law_chars : FnScope ["chars"] [] (defScope s__law_chars) := ⟨rfl, rfl, rfl, by decide +kernel, rfl, by decide +kernel, by decide +kernel⟩
abbrev s__law_word : Stmt := topS 26
abbrev N__law_word : List Str := ["tape", "chars", "many", "text", "k"]
theorem sc__law_word : FnScope ["tape", "chars", "many", "text", "k"] ["tape", "chars", "many"] (defScope s__law_word) := ⟨rfl, rfl, rfl, by decide +kernel, rfl, by decide +kernel, by decide +kernel⟩
abbrev s__law_string : Stmt := topS 27
abbrev N__law_string : List Str := ["tape", "letters", "choice", "many", "words", "k"]
theorem sc__law_string : FnScope ["tape", "letters", "choice", "many", "words", "k"] ["tape"] (defScope s__law_string) := ⟨rfl, rfl, rfl, by decide +kernel, rfl, by decide +kernel, by decide +kernel⟩
abbrev s__law_spoilt : Stmt := topS 28
abbrev N__law_spoilt : List Str := ["tape", "text", "k", "spot", "char", "choice"]
theorem sc__law_spoilt : FnScope ["tape", "text", "k", "spot", "char", "choice"] ["tape", "text"] (defScope s__law_spoilt) := ⟨rfl, rfl, rfl, by decide +kernel, rfl, by decide +kernel, by decide +kernel⟩
abbrev s__law_consists : Stmt := topS 29
abbrev N__law_consists : List Str := ["text", "chars", "char"]
theorem sc__law_consists : FnScope ["text", "chars", "char"] ["text", "chars"] (defScope s__law_consists) := ⟨rfl, rfl, rfl, by decide +kernel, rfl, by decide +kernel, by decide +kernel⟩
abbrev s__law_is_name : Stmt := topS 30
abbrev N__law_is_name : List Str := ["text"]
theorem sc__law_is_name : FnScope ["text"] ["text"] (defScope s__law_is_name) := ⟨rfl, rfl, rfl, by decide +kernel, rfl, by decide +kernel, by decide +kernel⟩
abbrev s__law_is_form : Stmt := topS 31
abbrev N__law_is_form : List Str := ["text"]
theorem sc__law_is_form : FnScope ["text"] ["text"] (defScope s__law_is_form) := ⟨rfl, rfl, rfl, by decide +kernel, rfl, by decide +kernel, by decide +kernel⟩
abbrev s__law_forms : Stmt := topS 32
abbrev N__law_forms : List Str := ["text", "words", "char", "word"]
theorem sc__law_forms : FnScope ["text", "words", "char", "word"] ["text"] (defScope s__law_forms) := ⟨rfl, rfl, rfl, by decide +kernel, rfl, by decide +kernel, by decide +kernel⟩
abbrev s__law_refused : Stmt := topS 33
abbrev N__law_refused : List Str := ["text", "e", "others"]
theorem sc__law_refused : FnScope ["text", "e", "others"] ["text"] (defScope s__law_refused) := ⟨rfl, rfl, rfl, by decide +kernel, rfl, by decide +kernel, by decide +kernel⟩
abbrev s__law_holds : Stmt := topS 34
abbrev N__law_holds : List Str := ["text", "words", "told", "passed"]
theorem sc__law_holds : FnScope ["text", "words", "told", "passed"] ["text"] (defScope s__law_holds) := ⟨rfl, rfl, rfl, by decide +kernel, rfl, by decide +kernel, by decide +kernel⟩
abbrev s_law : Stmt := topS 35
abbrev N_law : List Str := ["script", "k", "tape"]
theorem sc_law : FnScope ["script", "k", "tape"] ["script"] (defScope s_law) := ⟨rfl, rfl, rfl, by decide +kernel, rfl, by decide +kernel, by decide +kernel⟩
/-- built-ins that the top leaves alone -/
structure Bt (mg : Str → Option Value) : Prop where
  len : mg "len" = none
  int : mg "int" = none
  abs : mg "abs" = none
  range : mg "range" = none
  isinstance : mg "isinstance" = none
  tuple : mg "tuple" = none
  list : mg "list" = none
  str : mg "str" = none
  bool : mg "bool" = none
  max : mg "max" = none
  min : mg "min" = none
  all : mg "all" = none
  any : mg "any" = none
  ValueError : mg "ValueError" = none
/-- the defs as the top has made them -/
structure Tx (K : PySem.W.Frag) (mg : Str → Option Value) where
  b : Bt mg
  f_is_letter : Addr
  v_is_letter : FuncData
  d_is_letter : Y.DefAt K mg "is_letter" s_is_letter ["char"] f_is_letter v_is_letter
  f_is_name : Addr
  v_is_name : FuncData
  d_is_name : Y.DefAt K mg "is_name" s_is_name ["text"] f_is_name v_is_name
  f_is_form : Addr
  v_is_form : FuncData
  d_is_form : Y.DefAt K mg "is_form" s_is_form ["text"] f_is_form v_is_form
  f_split_text : Addr
  v_split_text : FuncData
  d_split_text : Y.DefAt K mg "split_text" s_split_text ["text"] f_split_text v_split_text
  f_join_words : Addr
  v_join_words : FuncData
  d_join_words : Y.DefAt K mg "join_words" s_join_words ["words"] f_join_words v_join_words
  f__law_tape : Addr
  v__law_tape : FuncData
  d__law_tape : Y.DefAt K mg "_law_tape" s__law_tape ["script", "k"] f__law_tape v__law_tape
  f__law_take : Addr
  v__law_take : FuncData
  d__law_take : Y.DefAt K mg "_law_take" s__law_take ["tape", "many"] f__law_take v__law_take
  f__law_pick : Addr
  v__law_pick : FuncData
  d__law_pick : Y.DefAt K mg "_law_pick" s__law_pick ["tape", "items"] f__law_pick v__law_pick
  f__law_says : Addr
  v__law_says : FuncData
  d__law_says : Y.DefAt K mg "_law_says" s__law_says ["told", "due"] f__law_says v__law_says
  f__law_same : Addr
  v__law_same : FuncData
  d__law_same : Y.DefAt K mg "_law_same" s__law_same ["told", "due"] f__law_same v__law_same
  f__law_chars : Addr
  v__law_chars : FuncData
  d__law_chars : Y.DefAt K mg "_law_chars" s__law_chars [] f__law_chars v__law_chars
  f__law_word : Addr
  v__law_word : FuncData
  d__law_word : Y.DefAt K mg "_law_word" s__law_word ["tape", "chars", "many"] f__law_word v__law_word
  f__law_string : Addr
  v__law_string : FuncData
  d__law_string : Y.DefAt K mg "_law_string" s__law_string ["tape"] f__law_string v__law_string
  f__law_spoilt : Addr
  v__law_spoilt : FuncData
  d__law_spoilt : Y.DefAt K mg "_law_spoilt" s__law_spoilt ["tape", "text"] f__law_spoilt v__law_spoilt
  f__law_consists : Addr
  v__law_consists : FuncData
  d__law_consists : Y.DefAt K mg "_law_consists" s__law_consists ["text", "chars"] f__law_consists v__law_consists
  f__law_is_name : Addr
  v__law_is_name : FuncData
  d__law_is_name : Y.DefAt K mg "_law_is_name" s__law_is_name ["text"] f__law_is_name v__law_is_name
  f__law_is_form : Addr
  v__law_is_form : FuncData
  d__law_is_form : Y.DefAt K mg "_law_is_form" s__law_is_form ["text"] f__law_is_form v__law_is_form
  f__law_forms : Addr
  v__law_forms : FuncData
  d__law_forms : Y.DefAt K mg "_law_forms" s__law_forms ["text"] f__law_forms v__law_forms
  f__law_refused : Addr
  v__law_refused : FuncData
  d__law_refused : Y.DefAt K mg "_law_refused" s__law_refused ["text"] f__law_refused v__law_refused
  f__law_holds : Addr
  v__law_holds : FuncData
  d__law_holds : Y.DefAt K mg "_law_holds" s__law_holds ["text"] f__law_holds v__law_holds
  f_law : Addr
  v_law : FuncData
  d_law : Y.DefAt K mg "law" s_law ["script"] f_law v_law
  c_is_name : Addr
  p_is_name : Addr
  k_is_name : v_is_name.code = .ref c_is_name
  c_is_form : Addr
  p_is_form : Addr
  k_is_form : v_is_form.code = .ref c_is_form
  LONGEST_NAME : ∃ t, mg "LONGEST_NAME" = some (.int 12 t)
  x_BadText : Addr
  g_BadText : mg "BadText" = some (.ref x_BadText)
  q_BadText : PySem.W.excIn K x_BadText [.type "ValueError", .type "Exception", .type "BaseException", .type "object"] "ValueError.__new__" = true
  k_BadText : PySem.W.keepIn K (.ref x_BadText) = true
  s_BadText : PySem.W.subIn K (.ref x_BadText) (.type "BaseException") = some true
  t_BadText : PySem.W.typeIn K (.ref x_BadText) = some (.type "type")
  e_BadText : ExcC K x_BadText
  x_ReadingsError : Addr
  g_ReadingsError : mg "ReadingsError" = some (.ref x_ReadingsError)
  m_ReadingsError : PySem.W.exmOne K (.ref x_BadText) (.ref x_ReadingsError) = some true
  i_BadText : PySem.W.kitOne K (.ref x_BadText) (.ref x_BadText) = some true
  i_ValueError : PySem.W.kitOne K (.ref x_BadText) (.type "ValueError") = some true
  x_BadForest : Addr
  g_BadForest : mg "BadForest" = some (.ref x_BadForest)
  i_BadForest : PySem.W.kitOne K (.ref x_BadText) (.ref x_BadForest) = some false
  x_BadGrammar : Addr
  g_BadGrammar : mg "BadGrammar" = some (.ref x_BadGrammar)
  i_BadGrammar : PySem.W.kitOne K (.ref x_BadText) (.ref x_BadGrammar) = some false
  x_BadLine : Addr
  g_BadLine : mg "BadLine" = some (.ref x_BadLine)
  i_BadLine : PySem.W.kitOne K (.ref x_BadText) (.ref x_BadLine) = some false
  x_BadName : Addr
  g_BadName : mg "BadName" = some (.ref x_BadName)
  i_BadName : PySem.W.kitOne K (.ref x_BadText) (.ref x_BadName) = some false
  x_Duplicate : Addr
  g_Duplicate : mg "Duplicate" = some (.ref x_Duplicate)
  i_Duplicate : PySem.W.kitOne K (.ref x_BadText) (.ref x_Duplicate) = some false
  x_NoGrowth : Addr
  g_NoGrowth : mg "NoGrowth" = some (.ref x_NoGrowth)
  i_NoGrowth : PySem.W.kitOne K (.ref x_BadText) (.ref x_NoGrowth) = some false
  x_NoReading : Addr
  g_NoReading : mg "NoReading" = some (.ref x_NoReading)
  i_NoReading : PySem.W.kitOne K (.ref x_BadText) (.ref x_NoReading) = some false
  x_Ring : Addr
  g_Ring : mg "Ring" = some (.ref x_Ring)
  i_Ring : PySem.W.kitOne K (.ref x_BadText) (.ref x_Ring) = some false
  x_Unknown : Addr
  g_Unknown : mg "Unknown" = some (.ref x_Unknown)
  i_Unknown : PySem.W.kitOne K (.ref x_BadText) (.ref x_Unknown) = some false
end K1

/-! ## the words that read -/
local macro_rules | `(tactic| walk_at "rd") => `(tactic| first
  | (with_reducible refine Y.seq ?_)
  | ((with_reducible refine' Y.var ?y1 ?_); (case y1 => exact rfl))
  | (with_reducible refine Y.cst ?_)
  | (with_reducible refine Y.op ?_)
  | (with_reducible refine Y.un ?_)
  | (with_reducible refine Y.i0 ?_)
  | (with_reducible refine Y.u1 ?_)
  | (with_reducible refine Y.s2 ?_)
  | (with_reducible refine Y.b2 ?_)
  | (with_reducible refine Y.eqB ?_)
  | (with_reducible refine Y.neB ?_)
  | (with_reducible refine Y.isN ?_)
  | (with_reducible refine Y.notN ?_)
  | (with_reducible refine Y.sgn ?_)
  | (with_reducible refine Y.sgnN ?_)
  | (with_reducible refine Y.cb ?_)
  | (with_reducible refine Y.acons ?_)
  | (with_reducible refine Y.anil ?_)
  | (with_reducible refine Y.int1 ?_)
  | (with_reducible refine Y.abs1 ?_)
  | (with_reducible refine Y.max2 ?_)
  | (with_reducible refine Y.min2 ?_)
  | (with_reducible refine Y.lst ?_)
  | (with_reducible refine Y.tup ?_)
  | (with_reducible refine Y.call ?_)
  | (with_reducible refine Y.andV ?_)
  | (with_reducible refine Y.orV ?_)
  | (with_reducible refine Y.notV ?_)
  | (with_reducible refine Y.chain ?_)
  | (with_reducible refine Y.bl ?_)
  | (with_reducible refine Y.ifE ?_)
  | (with_reducible refine Y.test ?_)
  | (with_reducible refine Y.testB ?_)
  | (with_reducible refine Y.tand ?_)
  | (with_reducible refine Y.tor ?_)
  | (with_reducible refine Y.tnot ?_)
  | (with_reducible refine Y.next ?_)
  | (with_reducible refine Y.asg ?_)
  | (with_reducible refine Y.asgSub ?_)
  | (with_reducible refine Y.ret ?_)
  | (with_reducible refine Y.drop ?_)
  | (with_reducible refine Y.ifS ?_)
  | (with_reducible refine Y.sl ?_)
  | (with_reducible refine Y.part ?_)
  | (with_reducible refine Y.noPart ?_)
  | (with_reducible refine Y.partI ?_)
  | (with_reducible refine Y.allS ?_)
  | (with_reducible refine Y.gname ?_)
  | (with_reducible refine Y.jcons ?_)
  | (with_reducible refine Y.jnil ?_)
  | (with_reducible refine Y.fmtR ?_)
  | (with_reducible refine Y.lc ?_)
  | (with_reducible refine Y.m1 ?_)
  | (with_reducible refine Y.strOk ?_)
  | (with_reducible refine Y.bm ?_)
  | (with_reducible refine Y.bm0 ?_)
  | (with_reducible refine Y.forS ?_)
  | (with_reducible refine Y.rng1 ?_)
  | (with_reducible refine Y.itS ?_)
  | (with_reducible refine Y.itSs ?_)
  | (with_reducible refine Y.itL ?_)
  | (with_reducible refine Y.itT ?_)
  | (with_reducible refine L2.iteF ?_)
  | (with_reducible refine L2.iteT ?_)
  | ((with_reducible refine' Y.iC ?y1 ?_); (case y1 => first | assumption | exact .inr (by decide) | exact .inl (by decide) | exact ⟨by decide, by decide⟩ | exact ⟨by assumption, by assumption⟩ | decide))
  | ((with_reducible refine' Y.ixL ?y1 ?y2 ?_); (case y1 => exact .inl (.inl (by assumption))); (case y2 => exact rfl)))
local macro_rules | `(tactic| walk_at "rds") => `(tactic| repeat (first | (walk_at "rd") | (with_reducible refine Y.forS ?_)))
/-- an item of a list that stands at an address, its place known -/
local macro_rules | `(tactic| walk_at "ix") => `(tactic| ((with_reducible refine' Y.ixL ?y1 ?y2 ?_); (case y1 => exact .inl (.inl (by assumption))); (case y2 => exact rfl)))


namespace K1
open PySem PySem.Spec PyProof.Rows L2
open Y (But DefAt)
/-! ## drawing -/
def Tape (H : Hp) (t : Addr) : Prop := ∃ c b i j, H t = some (.lst [.int c, .bl b, .int i, .int j])
theorem Tape.but {H H' : Hp} {t : Addr} {T : List Addr} (h : Tape H t) (b : But T H H') (n : t ∉ T) : Tape H' t := by
  obtain ⟨c, k, i, j, e⟩ := h
  exact ⟨c, k, i, j, b.keep _ _ e n rfl⟩
theorem Tape.ne {H : Hp} {t p : Addr} (h : Tape H t) (n : H p = none) : p ≠ t := by
  obtain ⟨c, k, i, j, e⟩ := h
  exact (ne_of_none e n).symm
theorem not1 {p t : Addr} (h : p ≠ t) : p ∉ [t] := fun z => h (List.mem_singleton.mp z)
def sp__law_tape (K : PySem.W.Frag) : Sp := fun vs H Q _ => ∃ (a : Addr) (ns : List Int) (k : Nat), vs = [.ref a, .int (k : Int)] ∧ SqL K H a (ns.map V.int) ∧ ∀ t H', H t = none → Tape H' t → (∀ T, But T H H') → Q (.ref t) H'
def sp__law_take : Sp := fun vs H Q _ => ∃ t n, vs = [.ref t, .int n] ∧ Tape H t ∧ 0 < n ∧ n < 1073741824 ∧ ∀ (i : Int) H', 0 ≤ i → i < n → Tape H' t → But [t] H H' → Q (.int i) H'
/-- of a list | of a text -/
def sp__law_pickL (K : PySem.W.Frag) : Sp := fun vs H Q _ => ∃ t p xs, vs = [.ref t, .ref p] ∧ Tape H t ∧ p ≠ t ∧ SqL K H p xs ∧ xs ≠ [] ∧ xs.length < 1073741824 ∧ ∀ v H', v ∈ xs → Tape H' t → But [t] H H' → Q v H'
def sp__law_pickS : Sp := fun vs H Q _ => ∃ t z, vs = [.ref t, .str z] ∧ Tape H t ∧ z.cps.toList ≠ [] ∧ z.length ≤ 1000000 ∧ ∀ c H', c ∈ z.cps.toList → Tape H' t → But [t] H H' → Q (.str ⟨#[c]⟩) H'
def sp__law_word : Sp := fun vs H Q _ => ∃ t z n, vs = [.ref t, .str z, .int n] ∧ Tape H t ∧ z.cps.toList ≠ [] ∧ z.length ≤ 1000000 ∧ n ≤ 1000000 ∧ -1000000 ≤ n ∧
  ∀ out H', (∀ c ∈ out.cps.toList, c ∈ z.cps.toList) → out.length = n.toNat → Tape H' t → But [t] H H' → Q (.str out) H'

theorem sl_big {n : Nat} (h : n ≤ 1000000) : n ≤ sizeLine := Nat.le_trans h (by decide)
theorem at_in {α : Type} {xs : List α} {i : Int} (h0 : 0 ≤ i) (h1 : i < (xs.length : Int)) : ∃ v, atI xs i = some v ∧ v ∈ xs := by
  have h : ∀ j : Nat, i = (j : Int) → j < xs.length → ∃ v, atI xs i = some v ∧ v ∈ xs := fun j e hj => by
    subst e
    exact ⟨xs[j], atI_nat (List.getElem?_eq_getElem hj), List.getElem_mem hj⟩
  exact h i.toNat (by omega) (by omega)
theorem nil_cps : (PySem.Str.ofString "").cps.toList = [] := by decide +kernel
theorem len_list (z : Str) : z.length = z.cps.toList.length := (Array.length_toList).symm
theorem str_app (a b : Str) : (a ++ b).cps.toList = a.cps.toList ++ b.cps.toList := Array.toList_append
theorem str_len (a b : Str) : (a ++ b).length = a.length + b.length := Array.size_append

section
variable {P : Program} {w : World} {K : PySem.W.Frag} {mg : Str → Option Value} {base : Heap}
theorem ok__law_tape (T : Tx K mg) : FnOk P w K mg base CX0 1 T.f__law_tape T.v__law_tape ["script", "k"] (sp__law_tape K) := by
  refine T.d__law_tape.F.ok sc__law_tape (fun vs H Q E h => ?_) (fun cdv A outer s H vs Q E hr h => ?_)
  · obtain ⟨a, ns, k, rfl, _⟩ := h
    rfl
  · obtain ⟨a, ns, k, rfl, hS, q⟩ := h
    refine ⟨_, (pss_cons (ps_set (i := 2) sc__law_tape.nd rfl (Or.inl rfl) pe_int)
    (Evl.pss_cut (ps_if (pt_cmpR Y.op_ltI (pv 1) (pe_callB Y.call_lenQ (by rfl) T.b.len (by decide +kernel) (pa_cons (pv 0) pa_nil)) (nomark _))
      (pss_one (ps_set (i := 2) sc__law_tape.nd rfl (Or.inl rfl) (pe_callB Y.call_absI (by rfl) T.b.abs (by decide +kernel) (pa_cons (pe_ix ix_list (pv 0) (pv 1) (fun _ _ => rfl)) pa_nil))))
      pss_nil)
    (pss_one (ps_ret (pe_lst (pa_cons (pv 2) (pa_cons (pe_cmpR Y.op_geI (pv 2) (pe_op op_pow pe_int pe_int) (nomark _)) (pa_cons pe_int (pa_cons (pe_op op_mod (pe_callTy Y.call_intI (by rfl) T.b.int (by decide +kernel) (pa_cons (pe_op op_add (pe_op op_mul (pv 2) pe_int) (pv 1)) pa_nil)) pe_int) pa_nil))))))))), ?_⟩
    refine Y.st (σ := [some (.ref a), some (.int (k : Int)), none]) rfl ?_
    walk_at "rds"
    have fin : ∀ c : Int, (tRet (tLst (tCons (tVar 2) (tCons (tOp (Y.rB fun i j => decide (j ≤ i)) (tVar 2) (tOp (rI CPow fun i j => .int (i ^ j.toNat)) (tC (.int 10)) (tC (.int 18)))) (tCons (tC (.int 0)) (tCons (tOp (rI (fun _ j => 0 < j) fun i j => .int (i % j)) (tCB Y.rInt1 (tCons (tOp (rI0 fun i j => .int (i + j)) (tOp (rI CMul fun i j => .int (i * j)) (tVar 2) (tC (.int 64))) (tVar 1)) tNil)) (tC (.int 2147483647))) tNil)))))
        { nx := fun _ H' => Q .non H', rt := Q }) [some (.ref a), some (.int (k : Int)), some (.int c)] H := fun c => by
      walk_at "rds"
      refine Y.mkL (by show 4 ≤ sizeLine; decide) fun t H1 n e b => ?_
      exact q t H1 n ⟨_, _, _, _, e⟩ b
    refine Y.cut (fun σ' H' => ∃ c : Int, σ' = [some (.ref a), some (.int (k : Int)), some (.int c)] ∧ H' = H) ?_ fun σ' H' ⟨c, e1, e2⟩ => ?_
    · walk_at "rds"
      refine Y.lenL hS ?_
      walk_at "rds"
      refine Y.iteD (fun hk => ?_) (fun hk => ?_)
      · walk_at "rds"
        rw [List.length_map] at hk
        have hk2 : k < ns.length := by omega
        refine Y.ixL hS (v := .int ns[k]) (atI_nat (by rw [List.getElem?_map, List.getElem?_eq_getElem hk2] <;> rfl)) ?_
        walk_at "rds"
        exact ⟨_, rfl, rfl⟩
      · walk_at "rds"
        exact ⟨_, rfl, rfl⟩
    · rw [e1, e2]
      exact fin c
theorem ok__law_take (T : Tx K mg) : FnOk P w K mg base CX0 1 T.f__law_take T.v__law_take ["tape", "many"] sp__law_take := by
  refine T.d__law_take.F.ok sc__law_take (fun vs H Q E h => ?_) (fun cdv A outer s H vs Q E hr h => ?_)
  · obtain ⟨t, n, rfl, _⟩ := h
    rfl
  · obtain ⟨t, n, rfl, ⟨c, b, i, j, ht⟩, h1, h2, q⟩ := h
    refine ⟨_, (Evl.pss_cut (ps_if (PW.pt (pw_and (pt_val (pe_ix ix_list (pv 0) pe_int (fun _ _ => rfl))) (pw_and1 (pt_cmpR Y.op_gtI (pe_ix ix_list (pv 0) pe_int (fun _ _ => rfl)) pe_int (nomark _)))))
      (pss_cons (ps_set (i := 2) sc__law_take.nd rfl (Or.inl rfl) (pe_op op_mod (pe_callTy Y.call_intI (by rfl) T.b.int (by decide +kernel) (pa_cons (pe_ix ix_list (pv 0) pe_int (fun _ _ => rfl)) pa_nil)) (pv 1)))
      (pss_cons (ps_asg (pe_op op_fdiv (pe_ix ix_list (pv 0) pe_int (fun _ _ => rfl)) (pv 1)) (pg_sub (pv 0) pe_int set_list))
      (pss_one (ps_ret (pv 2)))))
      pss_nil)
    (pss_cons (ps_asg (pe_op op_add (pe_ix ix_list (pv 0) pe_int (fun _ _ => rfl)) pe_int) (pg_sub (pv 0) pe_int set_list))
    (pss_cons (ps_set (i := 3) sc__law_take.nd rfl (Or.inl rfl) (pe_op op_mod (pe_callTy Y.call_intI (by rfl) T.b.int (by decide +kernel) (pa_cons (pe_op op_add (pe_op op_add (pe_op op_mul (pe_ix ix_list (pv 0) pe_int (fun _ _ => rfl)) pe_int) (pe_op op_mul (pe_ix ix_list (pv 0) pe_int (fun _ _ => rfl)) pe_int)) pe_int) pa_nil)) pe_int))
    (pss_cons (ps_set (i := 3) sc__law_take.nd rfl (Or.inl rfl) (pe_op op_mod (pe_callTy Y.call_intI (by rfl) T.b.int (by decide +kernel) (pa_cons (pe_op op_add (pe_op op_add (pe_op op_mul (pv 3) pe_int) (pe_op op_mul (pe_op op_fdiv (pv 3) pe_int) pe_int)) (pe_ix ix_list (pv 0) pe_int (fun _ _ => rfl))) pa_nil)) pe_int))
    (pss_one (ps_ret (pe_op op_mod (pe_callTy Y.call_intI (by rfl) T.b.int (by decide +kernel) (pa_cons (pe_op op_fdiv (pv 3) pe_int) pa_nil)) (pv 1)))))))), ?_⟩
    refine Y.st (σ := [some (.ref t), some (.int n), none, none]) rfl ?_
    refine Y.cutR ?_ ?_
    · walk_at "rds"
      refine Y.iteB (fun hb => ?_) (fun hb => ?_)
      · walk_at "rds"
        refine Y.iteD (fun hc => ?_) (fun hc => ⟨rfl, rfl⟩)
        walk_at "rds"
        refine Y.setG ht rfl rfl fun H1 ht1 b1 => ?_
        walk_at "rds"
        exact q _ _ (Int.emod_nonneg _ (by omega)) (Int.emod_lt_of_pos _ h1) ⟨_, _, _, _, ht1⟩ (b1 _ (List.mem_singleton.mpr rfl))
      · walk_at "rds"
        exact ⟨rfl, rfl⟩
    · walk_at "rds"
      refine Y.setG ht rfl rfl fun H1 ht1 b1 => ?_
      walk_at "rds"
      exact q _ _ (Int.emod_nonneg _ (by omega)) (Int.emod_lt_of_pos _ h1) ⟨_, _, _, _, ht1⟩ (b1 _ (List.mem_singleton.mpr rfl))
theorem ok__law_pickL (T : Tx K mg) : FnOk P w K mg base CX0 2 T.f__law_pick T.v__law_pick ["tape", "items"] (sp__law_pickL K) := by
  refine T.d__law_pick.F.ok sc__law_pick (fun vs H Q E h => ?_) (fun cdv A outer s H vs Q E hr h => ?_)
  · obtain ⟨t, p, xs, rfl, _⟩ := h
    rfl
  · obtain ⟨t, p, xs, rfl, ht, hp, hx, hne, hl, q⟩ := h
    refine ⟨_, (pss_one (ps_ret (pe_ix ix_list (pv 1) (Y.pcall T.d__law_take (ok__law_take T) (hr.mono (by decide)) (pa_cons (pv 0) (pa_cons (pe_callB Y.call_lenQ (by rfl) T.b.len (by decide +kernel) (pa_cons (pv 1) pa_nil)) pa_nil))) (fun _ _ => rfl)))), ?_⟩
    refine Y.st (σ := [some (.ref t), some (.ref p)]) rfl ?_
    walk_at "rds"
    refine Y.lenL hx ?_
    walk_at "rds"
    have h0 : 0 < xs.length := List.length_pos_iff.mpr hne
    refine ⟨t, _, rfl, ht, by omega, by omega, fun i H1 i0 i1 ht1 b1 => ?_⟩
    obtain ⟨v, e, hv⟩ := at_in (xs := xs) i0 i1
    exact Y.ixL (b1.seq hx (not1 hp)) e (q v H1 hv ht1 b1)
theorem ok__law_pickS (T : Tx K mg) : FnOk P w K mg base CX0 2 T.f__law_pick T.v__law_pick ["tape", "items"] sp__law_pickS := by
  refine T.d__law_pick.F.ok sc__law_pick (fun vs H Q E h => ?_) (fun cdv A outer s H vs Q E hr h => ?_)
  · obtain ⟨t, z, rfl, _⟩ := h
    rfl
  · obtain ⟨t, z, rfl, ht, hne, hl, q⟩ := h
    refine ⟨_, (pss_one (ps_ret (pe_ix ix_str (pv 1) (Y.pcall T.d__law_take (ok__law_take T) (hr.mono (by decide)) (pa_cons (pv 0) (pa_cons (pe_callB Y.call_lenS (by rfl) T.b.len (by decide +kernel) (pa_cons (pv 1) pa_nil)) pa_nil))) (fun _ _ => rfl)))), ?_⟩
    refine Y.st (σ := [some (.ref t), some (.str z)]) rfl ?_
    walk_at "rds"
    refine Y.lenS (sl_big hl) ?_
    walk_at "rds"
    have h0 : 0 < z.cps.toList.length := List.length_pos_iff.mpr hne
    have h2 := len_list z
    refine ⟨t, _, rfl, ht, by omega, by omega, fun i H1 i0 i1 ht1 b1 => ?_⟩
    obtain ⟨v, e, hv⟩ := at_in (xs := z.cps.toList) i0 (by omega)
    exact Y.ixS (sl_big hl) e (q v H1 hv ht1 b1)
theorem ok__law_word (T : Tx K mg) : FnOk P w K mg base CX0 3 T.f__law_word T.v__law_word ["tape", "chars", "many"] sp__law_word := by
  refine T.d__law_word.F.ok sc__law_word (fun vs H Q E h => ?_) (fun cdv A outer s H vs Q E hr h => ?_)
  · obtain ⟨t, z, n, rfl, _⟩ := h
    rfl
  · obtain ⟨t, z, n, rfl, ht, hne, hl, hn, hn2, q⟩ := h
    refine ⟨_, (pss_cons (ps_set (i := 3) sc__law_word.nd rfl (Or.inl rfl) pe_str)
    (pss_cons (ps_for PassesOwn.never rfl (pi_range1 (by rfl) T.b.range (pa_cons (pv 2) pa_nil)) (pg_name (i := 4) sc__law_word.nd rfl (Or.inl rfl))
      (pss_one (ps_set (i := 3) sc__law_word.nd rfl (Or.inl rfl) (pe_op Y.op_addS (pv 3) (Y.pcall T.d__law_pick (ok__law_pickS T) (hr.mono (by decide)) (pa_cons (pv 0) (pa_cons (pv 1) pa_nil)))))))
    (pss_one (ps_ret (pv 3))))), ?_⟩
    refine Y.st (σ := [some (.ref t), some (.str z), some (.int n), none, none]) rfl ?_
    walk_at "rds"
    refine Y.rngI (by omega) (by omega) ?_
    refine Y.loopR (fun i σ' H' => ∃ (out : Str) (y : Option V), σ' = [some (.ref t), some (.str z), some (.int n), some (.str out), y] ∧ Tape H' t ∧ But [t] H H' ∧ out.length = i ∧ ∀ c ∈ out.cps.toList, c ∈ z.cps.toList)
      ⟨_, none, rfl, ht, But.refl H, rfl, fun c hc => by rw [nil_cps] at hc; cases hc⟩ (fun i σ' H' hi ⟨out, y, e, ht1, b1, ho, hc⟩ => ?_) (fun σ' H' ⟨out, y, e, ht1, b1, ho, hc⟩ => ?_)
    · subst e
      walk_at "rds"
      refine ⟨t, z, rfl, ht1, hne, hl, fun c H2 hcz ht2 b2 => ?_⟩
      have l1 : (⟨#[c]⟩ : Str).length = 1 := rfl
      refine Y.addS (sl_big (by rw [l1]; omega)) ?_
      walk_at "rds"
      refine ⟨_, _, rfl, ht2, b1.trans b2, by rw [str_len, l1, ho], fun d hd => ?_⟩
      rw [str_app, List.mem_append] at hd
      rcases hd with hd | hd
      · exact hc d hd
      · have e2 : d = c := by simpa using hd
        rw [e2]
        exact hcz
    · subst e
      walk_at "rds"
      exact q out H' hc ho ht1 b1
end
end K1


namespace K1
open PySem PySem.Spec PyProof.Rows L2
open Y (But DefAt)
/-! ## the strings that are drawn -/
/-- only plain signs, at most m of them -/
def Plain (m : Nat) (z : Str) : Prop := (∀ c ∈ z.cps.toList, c < 128) ∧ z.length ≤ m
theorem Plain.mono {m n : Nat} {z : Str} (h : Plain m z) (e : m ≤ n) : Plain n z := ⟨h.1, Nat.le_trans h.2 e⟩
theorem Plain.app {m n : Nat} {a b : Str} (ha : Plain m a) (hb : Plain n b) : Plain (m + n) (a ++ b) := by
  refine ⟨fun c hc => ?_, ?_⟩
  · rw [str_app, List.mem_append] at hc
    rcases hc with hc | hc
    · exact ha.1 c hc
    · exact hb.1 c hc
  · rw [str_len]
    exact Nat.add_le_add ha.2 hb.2
theorem Plain.of {m : Nat} {z y : Str} (h : ∀ c ∈ y.cps.toList, c ∈ z.cps.toList) (hz : ∀ c ∈ z.cps.toList, c < 128) (hl : y.length ≤ m) : Plain m y := ⟨fun c hc => hz c (h c hc), hl⟩
theorem Plain.sgn {c : Nat} (h : c < 128) : Plain 1 ⟨#[c]⟩ := ⟨fun d hd => by
  have e : d = c := by simpa using hd
  rw [e]
  exact h, Nat.le_refl _⟩
theorem Plain.cut {m : Nat} {z : Str} (h : Plain m z) (lo hi : Option Int) : Plain m (cutS z lo hi) := by
  have e : (cutS z lo hi).cps.toList = (z.cps.toList.drop (HT.sIx z.length 0 lo)).take (HT.sIx z.length z.length hi - HT.sIx z.length 0 lo) := rfl
  refine ⟨fun c hc => ?_, ?_⟩
  · rw [e] at hc
    exact h.1 c (List.mem_of_mem_drop (List.mem_of_mem_take hc))
  · rw [len_list, e, List.length_take, List.length_drop, ← len_list]
    have := h.2
    omega
theorem plain_join {m : Nat} {sep : Str} (hs : Plain 1 sep) : ∀ ys : List Str, (∀ y ∈ ys, Plain m y) → Plain (ys.length * (m + 1)) (Str.join sep ys)
  | [], _ => ⟨fun c hc => (by
      have e : (Str.join sep []).cps.toList = [] := rfl
      rw [e] at hc
      cases hc), Nat.zero_le _⟩
  | [x], h => (h x List.mem_cons_self).mono (by simp)
  | x :: y :: r, h => by
    have ih := plain_join hs (y :: r) fun a ha => h a (List.mem_cons_of_mem _ ha)
    have e : Str.join sep (x :: y :: r) = x ++ sep ++ Str.join sep (y :: r) := rfl
    rw [e]
    refine (((h x List.mem_cons_self).app hs).app ih).mono ?_
    show m + 1 + (y :: r).length * (m + 1) ≤ ((y :: r).length + 1) * (m + 1)
    rw [Nat.succ_mul]
    omega
theorem sum_le {m : Nat} : ∀ {ys : List Str}, (∀ y ∈ ys, Plain m y) → (ys.map (·.length)).sum ≤ ys.length * m
  | [], _ => Nat.zero_le _
  | y :: r, h => by
    have ih := sum_le (ys := r) fun a ha => h a (List.mem_cons_of_mem _ ha)
    have h1 := (h y List.mem_cons_self).2
    rw [List.map_cons, List.sum_cons, List.length_cons, Nat.succ_mul]
    omega
def chars : Str := PySem.Str.ofString " !\"#$&'()*+,-./0123456789:;<=>?@ABCDEFGHIJKLMNOPQRSTUVWXYZ[\\]^_`" ++ PySem.Str.ofString "abcdefghijklmnopqrstuvwxyz{|}~"
theorem plain_chars : Plain 100 chars := ⟨by decide +kernel, by decide +kernel⟩
def abc : Str := PySem.Str.ofString "abcdefghijklmnopqrstuvwxyz"
theorem plain_abc : Plain 26 abc := ⟨by decide +kernel, by decide +kernel⟩
def digs : Str := PySem.Str.ofString "0123456789"
theorem plain_digs : Plain 10 digs := ⟨by decide +kernel, by decide +kernel⟩
def sp__law_chars : Sp := fun vs H Q _ => vs = [] ∧ Q (.str chars) H
def sp__law_string : Sp := fun vs H Q _ => ∃ t, vs = [.ref t] ∧ Tape H t ∧ ∀ out H', Plain 200 out → Tape H' t → But [t] H H' → Q (.str out) H'
def sp__law_spoilt : Sp := fun vs H Q _ => ∃ t z, vs = [.ref t, .str z] ∧ Tape H t ∧ Plain 200 z ∧ ∀ out H', Plain 1000 out → Tape H' t → But [t] H H' → Q (.str out) H'
section
variable {P : Program} {w : World} {K : PySem.W.Frag} {mg : Str → Option Value} {base : Heap}
theorem ok__law_chars (T : Tx K mg) : FnOk P w K mg base CX0 1 T.f__law_chars T.v__law_chars [] sp__law_chars := by
  refine T.d__law_chars.F.ok sc__law_chars (fun vs H Q E h => ?_) (fun cdv A outer s H vs Q E hr h => ?_)
  · obtain ⟨rfl, _⟩ := h
    rfl
  · obtain ⟨rfl, q⟩ := h
    refine ⟨_, (pss_cons (ps_set (i := 0) sc__law_chars.nd rfl (Or.inl rfl) pe_str)
    (pss_one (ps_ret (pe_op Y.op_addS (pv 0) pe_str)))), ?_⟩
    refine Y.st (σ := [none]) rfl ?_
    walk_at "rds"
    refine Y.addS (by decide +kernel) ?_
    exact q
theorem int_mem {xs : List Int} {v : V} (h : v ∈ xs.map V.int) : ∃ i ∈ xs, v = .int i := by
  obtain ⟨i, hi, e⟩ := List.mem_map.mp h
  exact ⟨i, hi, e.symm⟩
/-- pick of a new list -/
theorem pick_new {K : PySem.W.Frag} {t : Addr} {H : Hp} {xs : List V} {Q : VK} (ht : Tape H t) (hne : xs ≠ []) (hl : xs.length ≤ 1000) (q : ∀ v H', v ∈ xs → Tape H' t → But [t] H H' → Q v H') :
    xs.length ≤ sizeLine ∧ ∀ p, H p = none → sp__law_pickL K [.ref t, .ref p] (upd H p (.lst xs)) Q E0 :=
  ⟨sl_big (by omega), fun p hp => by
    have b : ∀ T, But T H (upd H p (.lst xs)) := fun T => But.new hp
    refine ⟨t, p, xs, rfl, ht.but (b []) (by simp), ht.ne hp, .inl (.inl upd_same), hne, by omega, fun v H' hv ht' b' => q v H' hv ht' ((b [t]).trans b')⟩⟩
theorem ok__law_string (T : Tx K mg) : FnOk P w K mg base CX0 4 T.f__law_string T.v__law_string ["tape"] sp__law_string := by
  refine T.d__law_string.F.ok sc__law_string (fun vs H Q E h => ?_) (fun cdv A outer s H vs Q E hr h => ?_)
  · obtain ⟨t, rfl, _⟩ := h
    rfl
  · obtain ⟨t, rfl, ht, q⟩ := h
    refine ⟨_, (pss_cons (ps_set (i := 1) sc__law_string.nd rfl (Or.inl rfl) pe_str)
    (pss_cons (ps_set (i := 2) sc__law_string.nd rfl (Or.inl rfl) (Y.pcall T.d__law_take (ok__law_take T) (hr.mono (by decide)) (pa_cons (pv 0) (pa_cons pe_int pa_nil))))
    (Evl.pss_cut (ps_if (pt_cmpR Y.op_eqI (pv 2) pe_int (nomark _))
      (pss_cons (ps_set (i := 3) sc__law_string.nd rfl (Or.inl rfl) (Y.pcall T.d__law_pick (ok__law_pickL T) (hr.mono (by decide)) (pa_cons (pv 0) (pa_cons (pe_lst (pa_cons pe_int (pa_cons pe_int (pa_cons pe_int (pa_cons pe_int (pa_cons pe_int (pa_cons pe_int (pa_cons pe_int (pa_cons pe_int (pa_cons pe_int pa_nil)))))))))) pa_nil))))
      (pss_one (ps_ret (pe_op Y.op_addS (Y.pcall T.d__law_pick (ok__law_pickS T) (hr.mono (by decide)) (pa_cons (pv 0) (pa_cons (pv 1) pa_nil))) (Y.pcall T.d__law_word (ok__law_word T) (hr.mono (by decide)) (pa_cons (pv 0) (pa_cons (pe_op Y.op_addS (pv 1) pe_str) (pa_cons (pe_op op_sub (pv 3) pe_int) pa_nil))))))))
      pss_nil)
    (Evl.pss_cut (ps_if (pt_cmpR Y.op_eqI (pv 2) pe_int (nomark _))
      (pss_one (ps_ret (Y.pcall T.d__law_word (ok__law_word T) (hr.mono (by decide)) (pa_cons (pv 0) (pa_cons (pv 1) (pa_cons (Y.pcall T.d__law_pick (ok__law_pickL T) (hr.mono (by decide)) (pa_cons (pv 0) (pa_cons (pe_lst (pa_cons pe_int (pa_cons pe_int (pa_cons pe_int (pa_cons pe_int (pa_cons pe_int (pa_cons pe_int (pa_cons pe_int pa_nil)))))))) pa_nil))) pa_nil))))))
      pss_nil)
    (Evl.pss_cut (ps_if (pt_cmpR Y.op_eqI (pv 2) pe_int (nomark _))
      (pss_cons (ps_set (i := 4) sc__law_string.nd rfl (Or.inl rfl) (pe_lst pa_nil))
      (pss_cons (ps_for PassesOwn.never rfl (pi_range1 (by rfl) T.b.range (pa_cons (Y.pcall T.d__law_pick (ok__law_pickL T) (hr.mono (by decide)) (pa_cons (pv 0) (pa_cons (pe_lst (pa_cons pe_int (pa_cons pe_int (pa_cons pe_int (pa_cons pe_int (pa_cons pe_int (pa_cons pe_int (pa_cons pe_int pa_nil)))))))) pa_nil))) pa_nil)) (pg_name (i := 5) sc__law_string.nd rfl (Or.inl rfl))
        (pss_one (ps_expr (pe_bm PySem.F.plainAttrs_list PySem.F.slot_list_append PySem.F.type_list_append mt_append (pv 4) (pa_cons (Y.pcall T.d__law_word (ok__law_word T) (hr.mono (by decide)) (pa_cons (pv 0) (pa_cons (pv 1) (pa_cons (Y.pcall T.d__law_pick (ok__law_pickL T) (hr.mono (by decide)) (pa_cons (pv 0) (pa_cons (pe_lst (pa_cons pe_int (pa_cons pe_int (pa_cons pe_int (pa_cons pe_int (pa_cons pe_int pa_nil)))))) pa_nil))) pa_nil)))) pa_nil)))))
      (pss_one (ps_ret (Y.pjoin pe_str (pv 4))))))
      pss_nil)
    (pss_one (ps_ret (Y.pcall T.d__law_word (ok__law_word T) (hr.mono (by decide)) (pa_cons (pv 0) (pa_cons (Y.pcall0 T.d__law_chars (ok__law_chars T) (hr.mono (by decide))) (pa_cons (Y.pcall T.d__law_pick (ok__law_pickL T) (hr.mono (by decide)) (pa_cons (pv 0) (pa_cons (pe_lst (pa_cons pe_int (pa_cons pe_int (pa_cons pe_int (pa_cons pe_int (pa_cons pe_int (pa_cons pe_int pa_nil))))))) pa_nil))) pa_nil))))))))))), ?_⟩
    refine Y.st (σ := [some (.ref t), none, none, none, none, none]) rfl ?_
    walk_at "rds"
    refine ⟨t, 4, rfl, ht, by decide, by decide, fun ch H1 _ _ ht1 b1 => ?_⟩
    walk_at "rds"
    refine Y.cutR ?_ ?_
    · walk_at "rds"
      refine Y.iteD (fun _ => ?_) (fun _ => ⟨rfl, rfl⟩)
      walk_at "rds"
      refine pick_new ht1 (by simp) (by simp) fun v H2 hv ht2 b2 => ?_
      obtain ⟨n, hn, e⟩ := int_mem (xs := [1, 2, 5, 11, 12, 12, 13, 14, 40]) hv
      subst e
      have hn2 : 1 ≤ n ∧ n ≤ 40 := (by decide : ∀ i ∈ ([1, 2, 5, 11, 12, 12, 13, 14, 40] : List Int), 1 ≤ i ∧ i ≤ 40) n hn
      walk_at "rds"
      refine ⟨t, abc, rfl, ht2, by decide +kernel, by decide +kernel, fun c H3 hc ht3 b3 => ?_⟩
      walk_at "rds"
      refine Y.addS (by decide +kernel) ?_
      walk_at "rds"
      refine ⟨t, abc ++ digs, n - 1, rfl, ht3, by decide +kernel, by decide +kernel, by omega, by omega, fun out H4 ho hl ht4 b4 => ?_⟩
      have p1 : Plain 1 ⟨#[c]⟩ := .sgn (plain_abc.1 c hc)
      have p2 : Plain 39 out := .of ho (plain_abc.app plain_digs).1 (by omega)
      have p3 := p1.app p2
      refine Y.addS (by rw [← str_len]; exact sl_big (Nat.le_trans p3.2 (by decide))) ?_
      exact q _ H4 (p3.mono (by decide)) ht4 (((b1.trans b2).trans b3).trans b4)
    · refine Y.cutR ?_ ?_
      · walk_at "rds"
        refine Y.iteD (fun _ => ?_) (fun _ => ⟨rfl, rfl⟩)
        walk_at "rds"
        refine pick_new ht1 (by simp) (by simp) fun v H2 hv ht2 b2 => ?_
        obtain ⟨n, hn, e⟩ := int_mem (xs := [1, 2, 5, 12, 13, 40, 60]) hv
        subst e
        have hn2 : 1 ≤ n ∧ n ≤ 60 := (by decide : ∀ i ∈ ([1, 2, 5, 12, 13, 40, 60] : List Int), 1 ≤ i ∧ i ≤ 60) n hn
        walk_at "rds"
        refine ⟨t, abc, n, rfl, ht2, by decide +kernel, by decide +kernel, by omega, by omega, fun out H4 ho hl ht4 b4 => ?_⟩
        exact q _ H4 (.of ho plain_abc.1 (by omega)) ht4 ((b1.trans b2).trans b4)
      · refine Y.cutR ?_ ?_
        · walk_at "rds"
          refine Y.iteD (fun _ => ?_) (fun _ => ⟨rfl, rfl⟩)
          walk_at "rds"
          refine ⟨Nat.zero_le _, fun l nl => ?_⟩
          obtain ⟨H2, eH2, hl, b2⟩ := Y.gen (o := .lst []) nl
          rw [eH2]
          have hlt : l ≠ t := ht1.ne nl
          have ht2 := ht1.but (b2 []) (by simp)
          walk_at "rds"
          refine pick_new ht2 (by simp) (by simp) fun v H3 hv ht3 b3 => ?_
          obtain ⟨n, hn, e⟩ := int_mem (xs := [0, 1, 2, 3, 5, 10, 12]) hv
          subst e
          have hn2 : 0 ≤ n ∧ n ≤ 12 := (by decide : ∀ i ∈ ([0, 1, 2, 3, 5, 10, 12] : List Int), 0 ≤ i ∧ i ≤ 12) n hn
          walk_at "rds"
          refine Y.rngI (by omega) (by omega) ?_
          refine Y.loopR (fun i σ' H' => ∃ (ys : List Str) (y : Option V), σ' = [some (.ref t), some (.str abc), some (.int ch), none, some (.ref l), y] ∧ Tape H' t ∧ But [t] H1 H' ∧ H' l = some (.lst (ys.map V.str)) ∧ ys.length = i ∧ ∀ y ∈ ys, Plain 13 y)
            ⟨[], none, rfl, ht3, (b2 _).trans b3, b3.lst hl (not1 hlt), rfl, by simp⟩ (fun i σ' H' hi ⟨ys, y, e, ht4, b4, hl4, ho, hc⟩ => ?_) (fun σ' H' ⟨ys, y, e, ht4, b4, hl4, ho, hc⟩ => ?_)
          · subst e
            walk_at "rds"
            refine Y.tyL (.inl (.inl hl4)) ?_
            walk_at "rds"
            refine pick_new ht4 (by simp) (by simp) fun v H5 hv ht5 b6 => ?_
            obtain ⟨m, hm, e⟩ := int_mem (xs := [1, 1, 2, 3, 13]) hv
            subst e
            have hm2 : 1 ≤ m ∧ m ≤ 13 := (by decide : ∀ i ∈ ([1, 1, 2, 3, 13] : List Int), 1 ≤ i ∧ i ≤ 13) m hm
            walk_at "rds"
            refine ⟨t, abc, m, rfl, ht5, by decide +kernel, by decide +kernel, by omega, by omega, fun out H6 hout hlen ht6 b7 => ?_⟩
            have b9 := (b6.trans b7)
            have hl6 := b9.lst hl4 (not1 hlt)
            walk_at "rds"
            refine Y.app hl6 (by rw [List.length_map]; exact Nat.lt_of_lt_of_le (show ys.length < 1000 by omega) (by decide)) fun H7 hl7 b8 => ?_
            refine ⟨ys ++ [out], _, rfl, ht6.but (b8 [l] (by simp)) (not1 hlt.symm), (b4.trans b9).own nl (b8 [l] (by simp)), by rw [hl7, List.map_append]; rfl, by simp [ho], fun y hy => ?_⟩
            rcases List.mem_append.mp hy with hy | hy
            · exact hc y hy
            · rw [List.mem_singleton.mp hy]
              exact .of hout plain_abc.1 (by omega)
          · subst e
            walk_at "rds"
            have hn12 : ys.length ≤ 12 := by omega
            have hs := sum_le hc
            refine Y.joinL (.inl (.inl hl4)) (by
              have e1 : (PySem.Str.ofString " ").length = 1 := by decide +kernel
              rw [e1]
              omega) ?_
            have pj := plain_join (sep := PySem.Str.ofString " ") ⟨by decide +kernel, by decide +kernel⟩ ys hc
            exact q _ H' (pj.mono (by omega)) ht4 (b1.trans b4)
        · walk_at "rds"
          refine ⟨rfl, ?_⟩
          walk_at "rds"
          refine pick_new ht1 (by simp) (by simp) fun v H2 hv ht2 b2 => ?_
          obtain ⟨n, hn, e⟩ := int_mem (xs := [0, 1, 1, 2, 3, 12]) hv
          subst e
          have hn2 : 0 ≤ n ∧ n ≤ 12 := (by decide : ∀ i ∈ ([0, 1, 1, 2, 3, 12] : List Int), 0 ≤ i ∧ i ≤ 12) n hn
          walk_at "rds"
          refine ⟨t, chars, n, rfl, ht2, by decide +kernel, by decide +kernel, by omega, by omega, fun out H4 ho hl ht4 b4 => ?_⟩
          exact q _ H4 (.of ho plain_chars.1 (by omega)) ht4 ((b1.trans b2).trans b4)
def Bd : Nat → Nat
  | 0 => 200
  | n + 1 => 2 * Bd n + 1
theorem Bd_le {i : Nat} (h : i ≤ 2) : Bd i ≤ 803 := by
  match i, h with
  | 0, _ => decide
  | 1, _ => decide
  | 2, _ => decide
theorem str_eq {a b : Str} (h : a.cps.toList = b.cps.toList) : a = b := by
  cases a
  cases b
  exact congrArg Str.mk (Array.toList_inj.mp h)
theorem ok__law_spoilt (T : Tx K mg) : FnOk P w K mg base CX0 3 T.f__law_spoilt T.v__law_spoilt ["tape", "text"] sp__law_spoilt := by
  refine T.d__law_spoilt.F.ok sc__law_spoilt (fun vs H Q E h => ?_) (fun cdv A outer s H vs Q E hr h => ?_)
  · obtain ⟨t, z, rfl, _⟩ := h
    rfl
  · obtain ⟨t, z, rfl, ht, hz, q⟩ := h
    refine ⟨_, (pss_cons (ps_for PassesOwn.never rfl (pi_range1 (by rfl) T.b.range (pa_cons (Y.pcall T.d__law_pick (ok__law_pickL T) (hr.mono (by decide)) (pa_cons (pv 0) (pa_cons (pe_lst (pa_cons pe_int (pa_cons pe_int (pa_cons pe_int (pa_cons pe_int (pa_cons pe_int pa_nil)))))) pa_nil))) pa_nil)) (pg_name (i := 2) sc__law_spoilt.nd rfl (Or.inl rfl))
      (pss_cons (ps_set (i := 3) sc__law_spoilt.nd rfl (Or.inl rfl) (Y.pcall T.d__law_pick (ok__law_pickL T) (hr.mono (by decide)) (pa_cons (pv 0) (pa_cons (pe_lst (pa_cons pe_int (pa_cons (pe_callB Y.call_lenS (by rfl) T.b.len (by decide +kernel) (pa_cons (pv 1) pa_nil)) (pa_cons (Y.pcall T.d__law_take (ok__law_take T) (hr.mono (by decide)) (pa_cons (pv 0) (pa_cons (pe_op op_add (pe_callB Y.call_lenS (by rfl) T.b.len (by decide +kernel) (pa_cons (pv 1) pa_nil)) pe_int) pa_nil))) (pa_cons (Y.pcall T.d__law_take (ok__law_take T) (hr.mono (by decide)) (pa_cons (pv 0) (pa_cons (pe_op op_add (pe_callB Y.call_lenS (by rfl) T.b.len (by decide +kernel) (pa_cons (pv 1) pa_nil)) pe_int) pa_nil))) pa_nil))))) pa_nil))))
      (pss_cons (ps_set (i := 4) sc__law_spoilt.nd rfl (Or.inl rfl) (Y.pcall T.d__law_pick (ok__law_pickL T) (hr.mono (by decide)) (pa_cons (pv 0) (pa_cons (pe_lst (pa_cons pe_str (pa_cons pe_str (pa_cons pe_str (pa_cons pe_str (pa_cons pe_str (pa_cons pe_str (pa_cons (Y.pcall T.d__law_pick (ok__law_pickS T) (hr.mono (by decide)) (pa_cons (pv 0) (pa_cons (Y.pcall0 T.d__law_chars (ok__law_chars T) (hr.mono (by decide))) pa_nil))) pa_nil)))))))) pa_nil))))
      (pss_cons (ps_set (i := 5) sc__law_spoilt.nd rfl (Or.inl rfl) (Y.pcall T.d__law_take (ok__law_take T) (hr.mono (by decide)) (pa_cons (pv 0) (pa_cons pe_int pa_nil))))
      (pss_one (ps_if (pt_cmpR Y.op_eqI (pv 5) pe_int (nomark _))
        (pss_one (ps_set (i := 1) sc__law_spoilt.nd rfl (Or.inl rfl) (pe_op Y.op_addS (pe_op Y.op_addS (pe_slice sl_str (pv 1) po_none (po_some (pv 3))) (pv 4)) (pe_slice sl_str (pv 1) (po_some (pv 3)) po_none))))
        (pss_one (ps_if (pt_cmpR Y.op_eqI (pv 5) pe_int (nomark _))
          (pss_one (ps_set (i := 1) sc__law_spoilt.nd rfl (Or.inl rfl) (pe_op Y.op_addS (pe_op Y.op_addS (pe_slice sl_str (pv 1) po_none (po_some (pv 3))) (pv 4)) (pe_slice sl_str (pv 1) (po_some (pe_op op_add (pv 3) pe_int)) po_none))))
          (pss_one (ps_set (i := 1) sc__law_spoilt.nd rfl (Or.inl rfl) (pe_op Y.op_addS (pe_slice sl_str (pv 1) po_none (po_some (pv 3))) (pe_slice sl_str (pv 1) (po_some (pe_op op_add (pv 3) pe_int)) po_none))))))))))))
    (pss_one (ps_ret (pv 1)))), ?_⟩
    refine Y.st (σ := [some (.ref t), some (.str z), none, none, none, none]) rfl ?_
    walk_at "rds"
    refine pick_new ht (by simp) (by simp) fun v H1 hv ht1 b1 => ?_
    obtain ⟨n, hn, e⟩ := int_mem (xs := [0, 0, 1, 1, 2]) hv
    subst e
    have hn2 : 0 ≤ n ∧ n ≤ 2 := (by decide : ∀ i ∈ ([0, 0, 1, 1, 2] : List Int), 0 ≤ i ∧ i ≤ 2) n hn
    walk_at "rds"
    refine Y.rngI (by omega) (by omega) ?_
    refine Y.loopR (fun i σ' H' => ∃ (out : Str) (y2 y3 y4 y5 : Option V), σ' = [some (.ref t), some (.str out), y2, y3, y4, y5] ∧ Tape H' t ∧ But [t] H H' ∧ Plain (Bd i) out)
      ⟨z, none, none, none, none, rfl, ht1, b1, hz⟩ (fun i σ' H' hi ⟨out, y2, y3, y4, y5, e, ht2, b2, hp⟩ => ?_) (fun σ' H' ⟨out, y2, y3, y4, y5, e, ht2, b2, hp⟩ => ?_)
    · subst e
      have hi2 : i < 2 := by omega
      have hlen : out.length ≤ 803 := Nat.le_trans hp.2 (Bd_le (by omega))
      walk_at "rds"
      refine Y.lenS (sl_big (by omega)) ?_
      walk_at "rds"
      refine Y.lenS (sl_big (by omega)) ?_
      walk_at "rds"
      refine ⟨t, _, rfl, ht2, by omega, by omega, fun s1 H3 h0 h1 ht3 b3 => ?_⟩
      walk_at "rds"
      refine Y.lenS (sl_big (by omega)) ?_
      walk_at "rds"
      refine ⟨t, _, rfl, ht3, by omega, by omega, fun s2 H4 h2 h3 ht4 b4 => ?_⟩
      walk_at "rds"
      refine pick_new ht4 (by simp) (by simp) fun v H5 hv ht5 b5 => ?_
      obtain ⟨spot, _, e⟩ := int_mem (xs := [0, (out.length : Int), s1, s2]) hv
      subst e
      walk_at "rds"
      refine ⟨rfl, ?_⟩
      walk_at "rds"
      refine ⟨t, chars, rfl, ht5, by decide +kernel, by decide +kernel, fun c H6 hc ht6 b6 => ?_⟩
      walk_at "rds"
      refine pick_new ht6 (by simp) (by simp) fun v H7 hv ht7 b7 => ?_
      obtain ⟨ch, pc, e⟩ : ∃ ch : Str, Plain 1 ch ∧ v = .str ch := by
        simp only [List.mem_cons, List.not_mem_nil, or_false] at hv
        rcases hv with e | e | e | e | e | e | e
        · exact ⟨_, ⟨by decide +kernel, by decide +kernel⟩, e⟩
        · exact ⟨_, ⟨by decide +kernel, by decide +kernel⟩, e⟩
        · exact ⟨_, ⟨by decide +kernel, by decide +kernel⟩, e⟩
        · exact ⟨_, ⟨by decide +kernel, by decide +kernel⟩, e⟩
        · exact ⟨_, ⟨by decide +kernel, by decide +kernel⟩, e⟩
        · exact ⟨_, ⟨by decide +kernel, by decide +kernel⟩, e⟩
        · exact ⟨_, .sgn (plain_chars.1 c hc), e⟩
      subst e
      walk_at "rds"
      refine ⟨t, 3, rfl, ht7, by decide, by decide, fun cc H8 _ _ ht8 b8 => ?_⟩
      have bb := (((((b2.trans b3).trans b4).trans b5).trans b6).trans b7).trans b8
      have p1 : ∀ lo hi, Plain (Bd i) (cutS out lo hi) := fun lo hi => hp.cut lo hi
      have hb : Bd i ≤ 803 := Bd_le (by omega)
      have l1 := fun lo hi => (p1 lo hi).2
      have l2 := pc.2
      have e : 2 * Bd i + 1 = Bd (i + 1) := rfl
      -- a slice, the sign, a slice
      have three : ∀ (lo hi lo2 hi2 : Option Int), Plain (Bd (i + 1)) (cutS out lo hi ++ ch ++ cutS out lo2 hi2) ∧ (cutS out lo hi).length + ch.length ≤ sizeLine ∧ (cutS out lo hi ++ ch).length + (cutS out lo2 hi2).length ≤ sizeLine := fun lo hi lo2 hi2 => by
        have h1 := l1 lo hi
        have h2 := l1 lo2 hi2
        refine ⟨(((p1 lo hi).app pc).app (p1 lo2 hi2)).mono (by omega), sl_big (by omega), sl_big (by rw [str_len]; omega)⟩
      have two : ∀ (lo hi lo2 hi2 : Option Int), Plain (Bd (i + 1)) (cutS out lo hi ++ cutS out lo2 hi2) ∧ (cutS out lo hi).length + (cutS out lo2 hi2).length ≤ sizeLine := fun lo hi lo2 hi2 => by
        have h1 := l1 lo hi
        have h2 := l1 lo2 hi2
        exact ⟨((p1 lo hi).app (p1 lo2 hi2)).mono (by omega), sl_big (by omega)⟩
      walk_at "rds"
      refine Y.iteD (fun _ => ?_) (fun _ => ?_)
      · walk_at "rds"
        refine Y.slS (sl_big (by omega)) ?_
        walk_at "rds"
        refine Y.addS (three none (some spot) (some spot) none).2.1 ?_
        walk_at "rds"
        refine Y.slS (sl_big (by omega)) ?_
        refine Y.addS (three none (some spot) (some spot) none).2.2 ?_
        exact ⟨_, _, _, _, _, rfl, ht8, bb, (three none (some spot) (some spot) none).1⟩
      · walk_at "rds"
        refine Y.iteD (fun _ => ?_) (fun _ => ?_)
        · walk_at "rds"
          refine Y.slS (sl_big (by omega)) ?_
          walk_at "rds"
          refine Y.addS (three none (some spot) (some (spot + 1)) none).2.1 ?_
          walk_at "rds"
          refine Y.slS (sl_big (by omega)) ?_
          refine Y.addS (three none (some spot) (some (spot + 1)) none).2.2 ?_
          exact ⟨_, _, _, _, _, rfl, ht8, bb, (three none (some spot) (some (spot + 1)) none).1⟩
        · walk_at "rds"
          refine Y.slS (sl_big (by omega)) ?_
          walk_at "rds"
          refine Y.slS (sl_big (by omega)) ?_
          refine Y.addS (two none (some spot) (some (spot + 1)) none).2 ?_
          exact ⟨_, _, _, _, _, rfl, ht8, bb, (two none (some spot) (some (spot + 1)) none).1⟩
    · subst e
      walk_at "rds"
      exact q out H' (hp.mono (Nat.le_trans (Bd_le (by omega)) (by decide))) ht2 b2
end
end K1


namespace K1
open PySem PySem.Spec PyProof.Rows L2
open Y (But DefAt)
/-! ## the program's own tests -/
def isL (c : Nat) : Bool := Y.sLe (PySem.Str.ofString "a") ⟨#[c]⟩ && Y.sLe ⟨#[c]⟩ (PySem.Str.ofString "z")
def isD (c : Nat) : Bool := Y.sLe (PySem.Str.ofString "0") ⟨#[c]⟩ && Y.sLe ⟨#[c]⟩ (PySem.Str.ofString "9")
section
variable {prog : Program} {w : World} {K : PySem.W.Frag} {mg : Str → Option Value} {f : Addr} {fd : FuncData} {B : Around} {s : Shared} {c : Nat} {t : Tok}
/-- is_letter(c), wherever it is called -/
theorem letter_call (F : Fun K "is_letter" "is_letter" s_is_letter f fd) (X : K.In s.heap) (hlim : s.heap.NoLimit) (hroom : B.depth < recursionLimit) :
    codeAny (model prog w) B (.call (.ref f) ⟨[.str ⟨#[c]⟩ t], []⟩) (fun r s' => r = .ok (.ret (.bool (isL c))) ∧ Keeps s s') s := by
  obtain ⟨oc, od, kV, doc, pm, an, cdv, ct, osl, rfl, lk, hcd⟩ := F.ex
  refine Att.call_fn (binds := [("char", .str ⟨#[c]⟩ t)]) X hlim lk hcd hroom (BindsTo.of_eq (by rfl)) (by rfl) (fun s₁ IC => ?_) rfl rfl rfl
  obtain ⟨h₁, tk₁, rfl⟩ := IC.toInCall.same
  have k := IC.toInCall.keep
  have hn := IC.toInCall.ns
  refine wpAny_execs_cons (wpAny_Return_some ?_)
  refine wpAny_mono (Yg.between (x := "char") (c := c) (t := t) (by rfl) (by rfl) hn (by rfl)) (fun y s' r => ?_) (fun e s' z => z)
  obtain ⟨rfl, kp⟩ := r
  refine ⟨rfl, Yg.keeps_trans ⟨h₁, tk₁, rfl, k⟩ kp⟩
end
section
variable {X : Cx} {f : Addr} {fd : FuncData}
/-- is_letter(char) as a test in a generator -/
theorem elt_letter {scope : Scope} {p p2 pos : Pos} (F : Fun X.K "is_letter" "is_letter" s_is_letter f fd) (hg : X.mg "is_letter" = some (.ref f)) (hroom : X.A.depth + 1 < recursionLimit) (hk : scope.kind = .function)
    (h1 : scope.names.lookup ("char" : Str) = some NameKind.local) (h2 : scope.names.lookup ("is_letter" : Str) = some NameKind.globalImplicit) : Yg.EltX X scope "char" (.Call (.Name "is_letter" p) [.Name "char" p2] [] pos) isL := by
  intro env B E c t s m hh hd hu hs hgl M hb hn hm
  subst hs
  refine wpAny_Call_Name_kw (Calls.Name_function_global hk h2 (Calls.loadGlobal_global (by rw [hgl]; exact M.glob.keeps hb) hg ?_) (by decide))
  refine PySem.W.callWith_K (h₀ := X.base) M.kin F.kp (Calls.spliced_cons ?_) (by rfl) (by rfl)
  refine wpAny_Name (wpAny_loadName_local hk h1 hn hm ?_) (by decide)
  refine Calls.spliced_nil ⟨M.kin.keeps hb, ?_⟩
  refine wpAny_call (codeAny_mono (letter_call F (M.kin.keeps hb) (M.nolimit.keeps hb) (Nat.lt_of_le_of_lt hd hroom)) fun r s' hr => ?_)
  obtain ⟨rfl, kp⟩ := hr
  exact ⟨rfl, kp⟩
/-- is_letter(char) or '0' <= char <= '9' -/
theorem elt_sign {scope : Scope} {p p2 p3 p4 p5 p6 p7 pos : Pos} {i j : Nat} (F : Fun X.K "is_letter" "is_letter" s_is_letter f fd) (hg : X.mg "is_letter" = some (.ref f)) (hroom : X.A.depth + 1 < recursionLimit) (hk : scope.kind = .function)
    (h1 : scope.names.lookup ("char" : Str) = some NameKind.local) (h2 : scope.names.lookup ("is_letter" : Str) = some NameKind.globalImplicit) :
    Yg.EltX X scope "char" (.BoolOp .Or [.Call (.Name "is_letter" p) [.Name "char" p2] [] p3, .Compare (.Constant (.str "0") i p4) [.LtE, .LtE] [.Name "char" p5, .Constant (.str "9") j p6] p7] pos) (fun c => isL c || isD c) := by
  intro env B E c t s m hh hd hu hs hgl M hb hn hm
  refine BoolOp_or (wpAny_mono (elt_letter F hg hroom hk h1 h2 env B E c t s m hh hd hu hs hgl M hb hn hm) (fun y s1 r => ?_) fun _ _ z => z)
  obtain ⟨rfl, kp⟩ := r
  refine wpAny_truthy_bool ?_
  cases e : isL c with
  | true => exact ⟨by show Value.bool true = Value.bool (isL c || isD c); rw [e]; rfl, kp⟩
  | false =>
    subst hs
    refine BoolOp_one (wpAny_mono (Yg.between (x := "char") (c := c) (t := t) hk h1 (hn.keeps (Yg.keeps_heap kp)) hm) (fun y s2 r => ?_) fun _ _ z => z)
    obtain ⟨rfl, kp2⟩ := r
    refine ⟨?_, Yg.keeps_trans kp kp2⟩
    show Value.bool (isD c) = Value.bool (isL c || isD c)
    rw [e]
    rfl
end

/-- the tables of code of the two defs with generators -/
structure Tb {K : PySem.W.Frag} {mg : Str → Option Value} (T : Tx K mg) (base : Heap) : Prop where
  n : GxR.TabB base mg T.c_is_name T.p_is_name
  f : GxR.TabB base mg T.c_is_form T.p_is_form
def isForm (z : Str) : Bool := !decide (z = PySem.Str.ofString "") && z.cps.toList.all isL
def isName (z : Str) : Bool := decide (1 ≤ z.length ∧ z.length ≤ 12) && (isL (z.cps.getD 0 0) && z.cps.toList.all fun c => isL c || isD c)
def sp_is_letter : Sp := fun vs H Q _ => ∃ c, vs = [.str ⟨#[c]⟩] ∧ Q (.bl (isL c)) H
def sp_is_form (P : Addr) : Sp := fun vs H Q _ => ∃ z, vs = [.str z] ∧ z.length ≤ 1000000 ∧ GxR.TabG H P ∧ ∀ H', (∀ T, But T H H') → Q (.bl (isForm z)) H'
def sp_is_name (P : Addr) : Sp := fun vs H Q _ => ∃ z, vs = [.str z] ∧ z.length ≤ 1000000 ∧ GxR.TabG H P ∧ ∀ H', (∀ T, But T H H') → Q (.bl (isName z)) H'
section
variable {P : Program} {w : World} {K : PySem.W.Frag} {mg : Str → Option Value} {base : Heap}
theorem ok_is_letter (T : Tx K mg) : FnOk P w K mg base CX0 1 T.f_is_letter T.v_is_letter ["char"] sp_is_letter := by
  refine T.d_is_letter.F.ok sc_is_letter (fun vs H Q E h => ?_) (fun cdv A outer s H vs Q E hr h => ?_)
  · obtain ⟨c, rfl, _⟩ := h
    rfl
  · obtain ⟨c, rfl, q⟩ := h
    refine ⟨_, (pss_one (ps_ret (pe_chain Y.op_leS Y.op_leS pe_str (pv 0) pe_str))), ?_⟩
    refine Y.st (σ := [some (.str ⟨#[c]⟩)]) rfl ?_
    walk_at "rds"
    refine Y.iteB (fun e => ?_) (fun e => ?_)
    · walk_at "rds"
      show Q (.bl (Y.sLe ⟨#[c]⟩ (PySem.Str.ofString "z"))) H
      have e2 : isL c = Y.sLe ⟨#[c]⟩ (PySem.Str.ofString "z") := by unfold isL; rw [e]; rfl
      rw [← e2]
      exact q
    · show Q (.bl false) H
      have e2 : isL c = false := by unfold isL; rw [e]; rfl
      rw [← e2]
      exact q
theorem ok_is_form (T : Tx K mg) (B : Tb T base) : FnOk P w K mg base CX0 2 T.f_is_form T.v_is_form ["text"] (sp_is_form T.p_is_form) := by
  obtain ⟨oc, od, kV, doc, pm, an, cdv, ct, osl, efd, lk, hcd⟩ := T.d_is_form.F.ex
  have hc : cdv = .ref T.c_is_form := by
    have h := T.k_is_form
    rw [efd] at h
    exact h
  have main : FnOk P w K mg base CX0 2 T.f_is_form (PySem.W.fnOf "is_form" "is_form" (defArgs s_is_form) (defBody s_is_form) (defScope s_is_form) .none kV doc pm an cdv ct) ["text"] (sp_is_form T.p_is_form) := by
    rw [efd] at lk
    refine fn_of lk hcd sc_is_form (fun vs H Q E h => ?_) (fun A outer s H vs Q E hr h => ?_)
    · obtain ⟨z, rfl, _⟩ := h
      rfl
    · obtain ⟨z, rfl, hz, hT, q⟩ := h
      refine ⟨_, PSs.nox (pss_one (ps_ret (pe_and (pe_cmpR Y.op_neS (pv 0) pe_str (nomark _)) (pe_one (Yg.pe_all (c := T.c_is_form) (P := T.p_is_form) (pb := isL) hr T.b.all B.f hc
        ⟨rfl, rfl, by decide +kernel, by rfl, by rfl, fun y hy e => absurd e ((by decide +kernel : ∀ y ∈ _, y.2 ≠ .free) y hy)⟩ (pv 0)
        (elt_letter T.d_is_letter.F T.d_is_letter.g (Y.room1 hr) rfl (by rfl) (by rfl)) (fun _ => rfl)))))), ?_⟩
      refine Y.st (σ := [some (.str z)]) rfl ?_
      walk_at "rds"
      have e0 : isForm z = (!decide (z = PySem.Str.ofString "") && z.cps.toList.all isL) := rfl
      refine Y.iteB (fun e => ?_) (fun e => ?_)
      · walk_at "rds"
        refine ⟨z, rfl, hT, fun H2 h2 => ?_⟩
        rw [e, Bool.true_and] at e0
        rw [← e0]
        exact q H2 fun _ => But.tabbed hT h2
      · rw [e, Bool.false_and] at e0
        rw [← e0]
        exact q H fun _ => But.refl H
  rw [efd]
  exact main
theorem ok_is_name (T : Tx K mg) (B : Tb T base) : FnOk P w K mg base CX0 3 T.f_is_name T.v_is_name ["text"] (sp_is_name T.p_is_name) := by
  obtain ⟨oc, od, kV, doc, pm, an, cdv, ct, osl, efd, lk, hcd⟩ := T.d_is_name.F.ex
  have hc : cdv = .ref T.c_is_name := by
    have h := T.k_is_name
    rw [efd] at h
    exact h
  have main : FnOk P w K mg base CX0 3 T.f_is_name (PySem.W.fnOf "is_name" "is_name" (defArgs s_is_name) (defBody s_is_name) (defScope s_is_name) .none kV doc pm an cdv ct) ["text"] (sp_is_name T.p_is_name) := by
    rw [efd] at lk
    refine fn_of lk hcd sc_is_name (fun vs H Q E h => ?_) (fun A outer s H vs Q E hr h => ?_)
    · obtain ⟨z, rfl, _⟩ := h
      rfl
    · obtain ⟨z, rfl, hz, hT, q⟩ := h
      refine ⟨_, PSs.nox (Evl.pss_cut (ps_if (pt_not (pt_chain Y.op_leI Y.op_leI pe_int (pe_callB Y.call_lenS (by rfl) T.b.len (by decide +kernel) (pa_cons (pv 0) pa_nil)) (pe_glob (v := V.int 12) rfl T.LONGEST_NAME.choose_spec ⟨_, rfl⟩)))
          (pss_one (ps_ret pe_bl)) pss_nil)
        (pss_one (ps_ret (pe_and (Y.pcall T.d_is_letter (ok_is_letter T) (hr.mono (by decide)) (pa_cons (pe_ix ix_str (pv 0) pe_int (fun _ _ => rfl)) pa_nil)) (pe_one (Yg.pe_all (c := T.c_is_name) (P := T.p_is_name) (pb := fun c => isL c || isD c) hr T.b.all B.n hc
        ⟨rfl, rfl, by decide +kernel, by rfl, by rfl, fun y hy e => absurd e ((by decide +kernel : ∀ y ∈ _, y.2 ≠ .free) y hy)⟩ (pv 0)
        (elt_sign T.d_is_letter.F T.d_is_letter.g (Y.room1 hr) rfl (by rfl) (by rfl)) (fun _ => rfl))))))), ?_⟩
      refine Y.st (σ := [some (.str z)]) rfl ?_
      have e0 : isName z = (decide (1 ≤ z.length ∧ z.length ≤ 12) && (isL (z.cps.getD 0 0) && z.cps.toList.all fun c => isL c || isD c)) := rfl
      refine Y.cut (fun σ' H' => σ' = [some (.str z)] ∧ H' = H ∧ 1 ≤ z.length ∧ z.length ≤ 12) ?_ fun σ' H' ⟨e1, e2, h1, h12⟩ => ?_
      · walk_at "rds"
        refine Y.lenS (sl_big hz) ?_
        walk_at "rds"
        refine Y.iteD (fun h1 => ?_) (fun h1 => ?_)
        · walk_at "rds"
          refine Y.iteN (fun h2 => ?_) (fun h2 => ?_)
          · walk_at "rds"
            rw [decide_eq_false (by omega), Bool.false_and] at e0
            rw [← e0]
            exact q H fun _ => But.refl H
          · walk_at "rds"
            exact ⟨rfl, rfl, by omega, by omega⟩
        · walk_at "rds"
          refine L2.iteT ?_
          walk_at "rds"
          rw [decide_eq_false (by omega), Bool.false_and] at e0
          rw [← e0]
          exact q H fun _ => But.refl H
      · rw [e1, e2]
        walk_at "rds"
        rw [decide_eq_true ⟨h1, h12⟩, Bool.true_and] at e0
        have hs : z.cps.size = z.length := rfl
        refine Y.ixS (c := z.cps.getD 0 0) (sl_big hz) (atI_nat (j := 0) ?_) ?_
        · have h0 : 0 < z.cps.size := by omega
          rw [Array.getElem?_toList, Array.getElem?_eq_getElem h0]
          simp [Array.getD, h0]
        · walk_at "rds"
          refine ⟨_, rfl, ?_⟩
          refine Y.bl ?_
          refine Y.iteB (fun e => ?_) (fun e => ?_)
          · walk_at "rds"
            refine ⟨z, rfl, hT, fun H2 h2 => ?_⟩
            rw [e, Bool.true_and] at e0
            rw [← e0]
            exact q H2 fun _ => But.tabbed hT h2
          · rw [e, Bool.false_and] at e0
            rw [← e0]
            exact q H fun _ => But.refl H
  rw [efd]
  exact main
end
end K1


namespace K1
open PySem PySem.Spec PyProof.Rows L2
open Y (But DefAt)
/-! ## the law's tests, and that they are the program's -/
theorem sLe_l {k c : Nat} {x : Str} (hx : x.cps.toList = [k]) : Y.sLe x ⟨#[c]⟩ = decide (k ≤ c) := by
  have e : ((⟨#[c]⟩ : Str).cps.toList < x.cps.toList) ↔ c < k := by
    rw [hx]
    show ([c] < [k]) ↔ c < k
    simp [List.cons_lt_cons_iff]
  unfold Y.sLe
  by_cases h : c < k
  · rw [decide_eq_true (e.mpr h), decide_eq_false (by omega)]
    rfl
  · rw [decide_eq_false (fun z => h (e.mp z)), decide_eq_true (by omega)]
    rfl
theorem sLe_r {k c : Nat} {x : Str} (hx : x.cps.toList = [k]) : Y.sLe ⟨#[c]⟩ x = decide (c ≤ k) := by
  have e : (x.cps.toList < (⟨#[c]⟩ : Str).cps.toList) ↔ k < c := by
    rw [hx]
    show ([k] < [c]) ↔ k < c
    simp [List.cons_lt_cons_iff]
  unfold Y.sLe
  by_cases h : k < c
  · rw [decide_eq_true (e.mpr h), decide_eq_false (by omega)]
    rfl
  · rw [decide_eq_false (fun z => h (e.mp z)), decide_eq_true (by omega)]
    rfl
theorem abc_list : abc.cps.toList = List.range' 97 26 := by decide +kernel
theorem isL_iff (c : Nat) : isL c = decide (c ∈ abc.cps.toList) := by
  unfold isL
  rw [sLe_l (k := 97) (by decide +kernel), sLe_r (k := 122) (by decide +kernel), abc_list]
  rw [← Bool.decide_and]
  apply decide_eq_decide.mpr
  rw [List.mem_range'_1]
  omega
def abcd : Str := PySem.Str.ofString "abcdefghijklmnopqrstuvwxyz0123456789"
theorem abcd_list : abcd.cps.toList = List.range' 97 26 ++ List.range' 48 10 := by decide +kernel
theorem isLD_iff (c : Nat) : (isL c || isD c) = decide (c ∈ abcd.cps.toList) := by
  rw [isL_iff, abc_list]
  unfold isD
  rw [sLe_l (k := 48) (by decide +kernel), sLe_r (k := 57) (by decide +kernel), abcd_list]
  rw [← Bool.decide_and, ← Bool.decide_or]
  apply decide_eq_decide.mpr
  rw [List.mem_append, List.mem_range'_1, List.mem_range'_1]
  omega
def consists (z y : Str) : Bool := z.cps.toList.all fun c => decide (c ∈ y.cps.toList)
theorem form_is (z : Str) : isForm z = (!decide (z = PySem.Str.ofString "") && consists z abc) := by
  unfold isForm consists
  congr 1
  congr 1
  funext c
  exact isL_iff c
theorem name_is (z : Str) : isName z = (decide (1 ≤ z.length ∧ z.length ≤ 12) && (decide (z.cps.getD 0 0 ∈ abc.cps.toList) && consists z abcd)) := by
  unfold isName consists
  rw [isL_iff]
  congr 3
  funext c
  exact isLD_iff c
def sp__law_consists : Sp := fun vs H Q _ => ∃ z y, vs = [.str z, .str y] ∧ Q (.bl (consists z y)) H
def sp__law_is_name : Sp := fun vs H Q _ => ∃ z, vs = [.str z] ∧ z.length ≤ 1000000 ∧ Q (.bl (isName z)) H
def sp__law_is_form : Sp := fun vs H Q _ => ∃ z, vs = [.str z] ∧ Q (.bl (isForm z)) H
def sp__law_says : Sp := fun vs H Q _ => ∃ a b, vs = [.bl a, .bl b] ∧ Q (.bl (decide (a = b))) H
section
variable {P : Program} {w : World} {K : PySem.W.Frag} {mg : Str → Option Value} {base : Heap}
theorem ok__law_says (T : Tx K mg) : FnOk P w K mg base CX0 1 T.f__law_says T.v__law_says ["told", "due"] sp__law_says := by
  refine T.d__law_says.F.ok sc__law_says (fun vs H Q E h => ?_) (fun cdv A outer s H vs Q E hr h => ?_)
  · obtain ⟨a, b, rfl, _⟩ := h
    rfl
  · obtain ⟨a, b, rfl, q⟩ := h
    refine ⟨_, (pss_one (ps_ret (pe_and (pe_callB call_isi (by rfl) T.b.isinstance (by decide +kernel) (pa_cons (pv 0) (pa_cons (pe_bltn (v := .ty "bool") (u := .type "bool") (by rfl) T.b.bool (by decide +kernel) rfl) pa_nil))) (pe_one (pe_cmpR Y.op_eqB (pv 0) (pv 1) (nomark _)))))), ?_⟩
    refine Y.st (σ := [some (.bl a), some (.bl b)]) rfl ?_
    walk_at "rds"
    refine Y.isi (b := true) (.base (.bl a)) (by decide +kernel) ?_
    walk_at "rds"
    exact q
theorem ok__law_consists (T : Tx K mg) : FnOk P w K mg base CX0 1 T.f__law_consists T.v__law_consists ["text", "chars"] sp__law_consists := by
  refine T.d__law_consists.F.ok sc__law_consists (fun vs H Q E h => ?_) (fun cdv A outer s H vs Q E hr h => ?_)
  · obtain ⟨z, y, rfl, _⟩ := h
    rfl
  · obtain ⟨z, y, rfl, q⟩ := h
    refine ⟨_, (pss_cons (ps_for PassesOwn.never rfl (pi_str (pv 0)) (pg_name (i := 2) sc__law_consists.nd rfl (Or.inl rfl))
      (pss_one (ps_if (pt_cmpR Y.op_sgnNotIn (pv 2) (pv 1) rfl)
        (pss_one (ps_ret pe_bl))
        pss_nil)))
    (pss_one (ps_ret pe_bl))), ?_⟩
    refine Y.st (σ := [some (.str z), some (.str y), none]) rfl ?_
    walk_at "rds"
    refine Y.loopS (fun i σ' H' => (∃ v : Option V, σ' = [some (.str z), some (.str y), v]) ∧ H' = H ∧ ∀ c ∈ z.cps.toList.take i, c ∈ y.cps.toList) ⟨⟨none, rfl⟩, rfl, by simp⟩ (fun i c σ' H' hi ⟨⟨v, e⟩, e2, ha⟩ => ?_) (fun σ' H' ⟨⟨v, e⟩, e2, ha⟩ => ?_)
    · subst e e2
      show tIfS _ _ _ _ [some (.str z), some (.str y), some (.str ⟨#[c]⟩)] _
      walk_at "rds"
      refine Y.iteN (fun hc => ?_) (fun hc => ?_)
      · walk_at "rds"
        have e : consists z y = false := by
          unfold consists
          rw [List.all_eq_false]
          exact ⟨c, List.mem_of_getElem? hi, by simpa using hc⟩
        rw [← e]
        exact q
      · walk_at "rds"
        refine ⟨⟨_, rfl⟩, rfl, fun d hd => ?_⟩
        rw [List.take_add_one, hi] at hd
        rcases List.mem_append.mp hd with hd | hd
        · exact ha d hd
        · have e : d = c := by simpa using hd
          rw [e]
          exact hc
    · subst e e2
      walk_at "rds"
      have e : consists z y = true := by
        unfold consists
        rw [List.all_eq_true]
        rw [List.take_length] at ha
        exact fun c hc => decide_eq_true (ha c hc)
      rw [← e]
      exact q
theorem ok__law_is_form (T : Tx K mg) : FnOk P w K mg base CX0 2 T.f__law_is_form T.v__law_is_form ["text"] sp__law_is_form := by
  refine T.d__law_is_form.F.ok sc__law_is_form (fun vs H Q E h => ?_) (fun cdv A outer s H vs Q E hr h => ?_)
  · obtain ⟨z, rfl, _⟩ := h
    rfl
  · obtain ⟨z, rfl, q⟩ := h
    refine ⟨_, (pss_one (ps_ret (pe_and (pe_cmpR Y.op_neS (pv 0) pe_str (nomark _)) (pe_one (Y.pcall T.d__law_consists (ok__law_consists T) (hr.mono (by decide)) (pa_cons (pv 0) (pa_cons pe_str pa_nil))))))), ?_⟩
    refine Y.st (σ := [some (.str z)]) rfl ?_
    walk_at "rds"
    rw [form_is] at q
    refine Y.iteB (fun e => ?_) (fun e => ?_)
    · walk_at "rds"
      rw [e, Bool.true_and] at q
      exact ⟨z, abc, rfl, q⟩
    · rw [e, Bool.false_and] at q
      exact q
theorem ok__law_is_name (T : Tx K mg) : FnOk P w K mg base CX0 2 T.f__law_is_name T.v__law_is_name ["text"] sp__law_is_name := by
  refine T.d__law_is_name.F.ok sc__law_is_name (fun vs H Q E h => ?_) (fun cdv A outer s H vs Q E hr h => ?_)
  · obtain ⟨z, rfl, _⟩ := h
    rfl
  · obtain ⟨z, rfl, hz, q⟩ := h
    refine ⟨_, (Evl.pss_cut (ps_if (PW.pt (pw_or (pt_cmpR Y.op_ltI (pe_callB Y.call_lenS (by rfl) T.b.len (by decide +kernel) (pa_cons (pv 0) pa_nil)) pe_int (nomark _)) (pw_or (pt_cmpR Y.op_gtI (pe_callB Y.call_lenS (by rfl) T.b.len (by decide +kernel) (pa_cons (pv 0) pa_nil)) pe_int (nomark _)) (pw_or1 (pt_cmpR Y.op_sgnNotIn (pe_ix ix_str (pv 0) pe_int (fun _ _ => rfl)) pe_str rfl)))))
      (pss_one (ps_ret pe_bl))
      pss_nil)
    (pss_one (ps_ret (Y.pcall T.d__law_consists (ok__law_consists T) (hr.mono (by decide)) (pa_cons (pv 0) (pa_cons pe_str pa_nil)))))), ?_⟩
    refine Y.st (σ := [some (.str z)]) rfl ?_
    rw [name_is] at q
    refine Y.cut (fun σ' H' => σ' = [some (.str z)] ∧ H' = H ∧ 1 ≤ z.length ∧ z.length ≤ 12 ∧ z.cps.getD 0 0 ∈ abc.cps.toList) ?_ fun σ' H' ⟨e1, e2, h1, h12, hc⟩ => ?_
    · walk_at "rds"
      refine Y.lenS (sl_big hz) ?_
      walk_at "rds"
      refine Y.iteD (fun h1 => ?_) (fun h1 => ?_)
      · walk_at "rds"
        rw [decide_eq_false (by omega), Bool.false_and] at q
        exact q
      · walk_at "rds"
        refine Y.lenS (sl_big hz) ?_
        walk_at "rds"
        refine Y.iteD (fun h2 => ?_) (fun h2 => ?_)
        · walk_at "rds"
          rw [decide_eq_false (by omega), Bool.false_and] at q
          exact q
        · walk_at "rds"
          refine Y.ixS (c := z.cps.getD 0 0) (sl_big hz) (atI_nat (j := 0) ?_) ?_
          · have h0 : 0 < z.cps.size := by
              have : z.cps.size = z.length := rfl
              omega
            rw [Array.getElem?_toList, Array.getElem?_eq_getElem h0]
            simp [Array.getD, h0]
          · walk_at "rds"
            refine Y.iteN (fun h3 => ?_) (fun h3 => ?_)
            · walk_at "rds"
              have h3' : ¬ (z.cps.getD 0 0 ∈ abc.cps.toList) := h3
              rw [decide_eq_false h3', Bool.false_and, Bool.and_false] at q
              exact q
            · walk_at "rds"
              exact ⟨rfl, rfl, by omega, by omega, h3⟩
    · rw [e1, e2]
      walk_at "rds"
      rw [decide_eq_true ⟨h1, h12⟩, decide_eq_true hc, Bool.true_and, Bool.true_and] at q
      exact ⟨z, abcd, rfl, q⟩
end
end K1


namespace K1
open PySem PySem.Spec PyProof.Rows L2
open Y (But DefAt)
/-! ## texts in forms -/
def spc : Str := PySem.Str.ofString " "
theorem mem_join {sep : Str} : ∀ {ys : List Str} {y : Str}, y ∈ ys → (∀ c ∈ y.cps.toList, c ∈ (Str.join sep ys).cps.toList) ∧ y.length ≤ (Str.join sep ys).length
  | [], y, h => absurd h List.not_mem_nil
  | [x], y, h => by
    have e : y = x := List.mem_singleton.mp h
    subst e
    exact ⟨fun c hc => hc, Nat.le_refl _⟩
  | x :: x2 :: r, y, h => by
    have e : Str.join sep (x :: x2 :: r) = x ++ sep ++ Str.join sep (x2 :: r) := rfl
    rw [e]
    rcases List.mem_cons.mp h with h | h
    · subst h
      refine ⟨fun c hc => ?_, ?_⟩
      · rw [str_app, str_app]
        exact List.mem_append_left _ (List.mem_append_left _ hc)
      · rw [str_len, str_len]
        omega
    · obtain ⟨h1, h2⟩ := mem_join (sep := sep) h
      refine ⟨fun c hc => ?_, ?_⟩
      · rw [str_app]
        exact List.mem_append_right _ (h1 c hc)
      · rw [str_len]
        omega
theorem part_plain {m : Nat} {z p : Str} (h : Plain m z) (hp : p ∈ Txt.split z spc) : Plain m p := by
  have e : Str.join spc (Txt.split z spc) = z := StrLaws.join_split z spc
  obtain ⟨h1, h2⟩ := mem_join (sep := spc) hp
  rw [e] at h1 h2
  exact ⟨fun c hc => h.1 c (h1 c hc), Nat.le_trans h2 h.2⟩
/-- the forms of a text, or none -/
def pieces (z : Str) : Option (List Str) := if z = PySem.Str.ofString "" then some [] else if (Txt.split z spc).all isForm = true then some (Txt.split z spc) else none
theorem pieces_of {z : Str} (h : z ≠ PySem.Str.ofString "") (a : ∀ p ∈ Txt.split z spc, isForm p = true) : pieces z = some (Txt.split z spc) := by
  unfold pieces
  rw [if_neg h, if_pos (List.all_eq_true.mpr a)]
theorem pieces_none {z p : Str} (h : z ≠ PySem.Str.ofString "") (hp : p ∈ Txt.split z spc) (a : isForm p = false) : pieces z = none := by
  unfold pieces
  rw [if_neg h, if_neg (fun q => by rw [List.all_eq_true.mp q p hp] at a; cases a)]
def sp_split_text (P C : Addr) : Sp := fun vs H Q E => ∃ z, vs = [.str z] ∧ Plain 1000 z ∧ GxR.TabG H P ∧
  (∀ ws, pieces z = some ws → ∀ p H', H p = none → (∀ T, But T H H') → H' p = some (.lst (ws.map V.str)) → Q (.ref p) H') ∧ (pieces z = none → ∀ H', (∀ T, But T H H') → E (.ref C) none H')
def sp_join_words (K : PySem.W.Frag) : Sp := fun vs H Q _ => ∃ p ws, vs = [.ref p] ∧ SqL K H p (ws.map V.str) ∧ (ws.map (·.length)).sum + ws.length ≤ 16777216 ∧ Q (.str (Str.join spc ws)) H
section
variable {P : Program} {w : World} {K : PySem.W.Frag} {mg : Str → Option Value} {base : Heap}
theorem ok_join_words (T : Tx K mg) : FnOk P w K mg base CX0 1 T.f_join_words T.v_join_words ["words"] (sp_join_words K) := by
  refine T.d_join_words.F.ok sc_join_words (fun vs H Q E h => ?_) (fun cdv A outer s H vs Q E hr h => ?_)
  · obtain ⟨p, ws, rfl, _⟩ := h
    rfl
  · obtain ⟨p, ws, rfl, hS, hz, q⟩ := h
    refine ⟨_, (pss_one (ps_ret (Y.pjoin pe_str (pv 0)))), ?_⟩
    refine Y.st (σ := [some (.ref p)]) rfl ?_
    walk_at "rds"
    exact Y.joinL hS (by rw [show (PySem.Str.ofString " ").length = 1 from by decide +kernel]; omega) q
theorem ok_split_text (T : Tx K mg) (B : Tb T base) : FnOk P w K mg base (L2N.CX P w) 3 T.f_split_text T.v_split_text ["text"] (sp_split_text T.p_is_form T.x_BadText) := by
  refine Yh.okN T.d_split_text.F sc_split_text (fun vs H Q E h => ?_) (fun cdv A outer s H vs Q E hr h => ?_)
  · obtain ⟨z, rfl, _⟩ := h
    rfl
  · obtain ⟨z, rfl, hz, hT, q, qe⟩ := h
    refine ⟨_, (Evl.pss_cut (ps_if (pt_cmpR Y.op_eqS (pv 0) pe_str (nomark _)) (pss_one (ps_ret (pe_lst pa_nil))) pss_nil)
      (pss_cons (ps_set (i := 1) sc_split_text.nd rfl (Or.inl rfl) (Y.psplit (pv 0) pe_str))
      (pss_cons (ps_for (passes_of rfl) rfl (pi_list (pv 1)) (pg_name (i := 2) sc_split_text.nd rfl (Or.inl rfl))
        (pss_one (ps_if (pt_not (pt_val (Y.pcall T.d_is_form (ok_is_form T B) (hr.mono (by decide)) (pa_cons (pv 2) pa_nil))))
          (pss_one (L2N.ps_raise rfl (L2N.takes_of rfl rfl rfl rfl) (Yh.pmkA PySem.F.excBase_ValueError T.q_BadText T.g_BadText T.k_BadText (raises_own T.s_BadText T.t_BadText) (pa_cons (pe_joined (.cons (pe_fmtR (pv 2)) (.cons pe_str .nil))) pa_nil))))
          pss_nil)))
      (pss_one (ps_ret (pv 1)))))), ?_⟩
    refine Y.st (σ := [some (.str z), none, none]) rfl ?_
    have hzl := hz.2
    refine Y.cut (fun σ' H' => σ' = [some (.str z), none, none] ∧ H' = H ∧ z ≠ PySem.Str.ofString "") ?_ fun σ' H' ⟨e1, e2, hne⟩ => ?_
    · walk_at "rds"
      refine Y.iteD (fun e => ?_) (fun e => ?_)
      · walk_at "rds"
        refine ⟨Nat.zero_le _, fun l nl => ?_⟩
        exact q [] (by unfold pieces; rw [if_pos e]) l _ nl (fun _ => But.new nl) upd_same
      · walk_at "rds"
        exact ⟨rfl, rfl, e⟩
    · rw [e1, e2]
      walk_at "rds"
      refine Y.split (by decide +kernel) (sl_big (by omega)) fun p np => ?_
      obtain ⟨H1, eH1, hp, b1⟩ := Y.gen (o := .lst ((Txt.split z spc).map V.str)) np
      have eH1' : upd H p (.lst ((Txt.split z (PySem.Str.ofString " ")).map V.str)) = H1 := eH1
      rw [eH1']
      walk_at "rds"
      refine Y.itLs (.inl (.inl hp)) ?_
      refine Y.loopL (xs := (Txt.split z spc).map V.str) (fun i σ' H' => (∃ v, σ' = [some (.str z), some (.ref p), v]) ∧ H' p = some (.lst ((Txt.split z spc).map V.str)) ∧ (∀ T, But T H H') ∧ ∀ x ∈ (Txt.split z spc).take i, isForm x = true)
        ⟨⟨_, rfl⟩, hp, b1, by simp⟩ (fun i σ' H' _ h => .inl (.inl h.2.1)) (fun i x σ' H' hi ⟨⟨v, e⟩, hp2, b2, hf⟩ => ?_) (fun σ' H' ⟨⟨v, e⟩, hp2, b2, hf⟩ => ?_)
      · subst e
        rw [List.getElem?_map] at hi
        cases hy : (Txt.split z spc)[i]? with
        | none =>
          rw [hy] at hi
          cases hi
        | some y =>
          rw [hy] at hi
          cases hi
          have my := List.mem_of_getElem? hy
          have py := part_plain hz my
          have hyl := py.2
          walk_at "rds"
          refine ⟨y, rfl, by omega, (b2 []).tab _ hT, fun H3 b3 => ?_⟩
          walk_at "rds"
          refine Y.iteNB (fun e => ?_) (fun e => ?_)
          · have hrep := StrLaws.reprText_len y fun c hc => Nat.lt_trans (py.1 c hc) (by decide)
            walk_at "rds"
            have e1 : (Str.empty ++ reprText y).length = (reprText y).length := by
              rw [str_len]
              exact Nat.zero_add _
            refine .inl ⟨y, rfl, sl_big (by omega), _, rfl, sl_big (by omega), ?_⟩
            walk_at "rds"
            refine ⟨_, rfl, ?_, ?_⟩
            · rw [str_len, e1, show (PySem.Str.ofString " is not a form").length = 14 from by decide +kernel]
              exact sl_big (by omega)
            · walk_at "rds"
              refine ⟨by show 1 ≤ sizeLine; decide, ?_⟩
              exact qe (pieces_none hne my e) H3 fun T => (b2 T).trans (b3 T)
          · walk_at "rds"
            refine ⟨⟨_, rfl⟩, (b3 []).lst hp2 (by simp), fun T => (b2 T).trans (b3 T), fun x hx => ?_⟩
            rw [List.take_add_one, hy] at hx
            rcases List.mem_append.mp hx with hx | hx
            · exact hf x hx
            · have ex : x = y := by simpa using hx
              rw [ex]
              exact e
      · subst e
        rw [List.length_map, List.take_length] at hf
        walk_at "rds"
        exact q _ (pieces_of hne hf) p H' np b2 hp2
end
end K1


namespace K1
open PySem PySem.Spec PyProof.Rows L2
open Y (But DefAt)
/-! ## cutting at spaces: only one way -/
def jl : List (List Nat) → List Nat
  | [] => []
  | [x] => x
  | x :: y :: r => x ++ 32 :: jl (y :: r)
def cl (ws : List Str) : List (List Nat) := ws.map (·.cps.toList)
theorem spc_cps : spc.cps.toList = [32] := by decide +kernel
theorem join_jl : ∀ ws : List Str, (Str.join spc ws).cps.toList = jl (cl ws)
  | [] => rfl
  | [x] => rfl
  | x :: y :: r => by
    have ih := join_jl (y :: r)
    show (x ++ spc ++ Str.join spc (y :: r)).cps.toList = x.cps.toList ++ 32 :: jl (cl (y :: r))
    rw [str_app, str_app, ih, spc_cps, List.append_assoc]
    rfl
theorem jl_snoc : ∀ (xs : List (List Nat)) (y : List Nat), xs ≠ [] → jl (xs ++ [y]) = jl xs ++ 32 :: y
  | [], _, h => absurd rfl h
  | [x], y, _ => rfl
  | x :: x2 :: r, y, _ => by
    have ih := jl_snoc (x2 :: r) y (by simp)
    show x ++ 32 :: jl ((x2 :: r) ++ [y]) = (x ++ 32 :: jl (x2 :: r)) ++ 32 :: y
    rw [ih, List.append_assoc]
    rfl
theorem jl_last (xs : List (List Nat)) (y t : List Nat) : jl (xs ++ [y ++ t]) = jl (xs ++ [y]) ++ t := by
  cases xs with
  | nil => rfl
  | cons x r =>
    rw [jl_snoc _ _ (by simp), jl_snoc _ _ (by simp), List.append_assoc]
    rfl
theorem cut_eq : ∀ {x y t u : List Nat}, 32 ∉ x → 32 ∉ y → x ++ 32 :: t = y ++ 32 :: u → x = y ∧ t = u
  | [], [], t, u, _, _, h => ⟨rfl, (List.cons.inj h).2⟩
  | [], b :: y, t, u, _, hy, h => by
    have e : 32 = b := (List.cons.inj h).1
    exact absurd (by rw [e]; exact List.mem_cons_self) hy
  | a :: x, [], t, u, hx, _, h => by
    have e : a = 32 := (List.cons.inj h).1
    exact absurd (by rw [← e]; exact List.mem_cons_self) hx
  | a :: x, b :: y, t, u, hx, hy, h => by
    obtain ⟨e, h2⟩ := List.cons.inj h
    obtain ⟨e2, e3⟩ := cut_eq (fun z => hx (List.mem_cons_of_mem _ z)) (fun z => hy (List.mem_cons_of_mem _ z)) h2
    exact ⟨by rw [e, e2], e3⟩
theorem jl_inj : ∀ {xs ys : List (List Nat)}, xs ≠ [] → ys ≠ [] → (∀ x ∈ xs, 32 ∉ x) → (∀ y ∈ ys, 32 ∉ y) → jl xs = jl ys → xs = ys
  | [], _, h, _, _, _, _ => absurd rfl h
  | _ :: _, [], _, h, _, _, _ => absurd rfl h
  | [x], [y], _, _, _, _, e => congrArg (fun z => [z]) e
  | [x], y :: y2 :: r, _, _, hx, _, e => by
    have h : 32 ∈ x := by
      have e' : x = y ++ 32 :: jl (y2 :: r) := e
      rw [e']
      simp
    exact absurd h (hx x List.mem_cons_self)
  | x :: x2 :: r, [y], _, _, _, hy, e => by
    have h : 32 ∈ y := by
      have e' : x ++ 32 :: jl (x2 :: r) = y := e
      rw [← e']
      simp
    exact absurd h (hy y List.mem_cons_self)
  | x :: x2 :: r, y :: y2 :: q, _, _, hx, hy, e => by
    obtain ⟨e1, e2⟩ := cut_eq (hx x List.mem_cons_self) (hy y List.mem_cons_self) e
    have ih := jl_inj (xs := x2 :: r) (ys := y2 :: q) (by simp) (by simp) (fun z hz => hx z (List.mem_cons_of_mem _ hz)) (fun z hz => hy z (List.mem_cons_of_mem _ hz)) e2
    rw [e1, ih]
theorem cl_inj {xs ys : List Str} (h : cl xs = cl ys) : xs = ys := by
  have hm : List.map Str.mk (List.map List.toArray (cl xs)) = List.map Str.mk (List.map List.toArray (cl ys)) := by rw [h]
  have e : ∀ zs : List Str, List.map Str.mk (List.map List.toArray (cl zs)) = zs := fun zs => by
    have e1 : ∀ z : Str, Str.mk (List.toArray z.cps.toList) = z := fun z => by
      cases z
      simp
    unfold cl
    rw [List.map_map, List.map_map]
    exact (List.map_congr_left fun z _ => e1 z).trans (List.map_id zs)
  rw [e, e] at hm
  exact hm
theorem spc_one : spc = ⟨#[32]⟩ := by decide +kernel
/-- cut at every space, nothing else: it is the split -/
theorem split_is {z : Str} {ws : List Str} (hne : ws ≠ []) (hf : ∀ y ∈ ws, 32 ∉ y.cps.toList) (hj : jl (cl ws) = z.cps.toList) : ws = Txt.split z spc := by
  have e : Str.join spc (Txt.split z spc) = z := StrLaws.join_split z spc
  have h1 : jl (cl (Txt.split z spc)) = z.cps.toList := by rw [← join_jl, e]
  have h2 : ∀ y ∈ Txt.split z spc, 32 ∉ y.cps.toList := by
    rw [spc_one]
    exact StrLaws.split_free z 32
  have h3 : Txt.split z spc ≠ [] := fun q => by
    have := split_pos z spc
    rw [q] at this
    exact absurd this (by decide)
  refine cl_inj (jl_inj (fun q => hne (List.map_eq_nil_iff.mp q)) (fun q => h3 (List.map_eq_nil_iff.mp q)) (fun x hx => ?_) (fun x hx => ?_) (hj.trans h1.symm))
  · obtain ⟨y, hy, rfl⟩ := List.mem_map.mp hx
    exact hf y hy
  · obtain ⟨y, hy, rfl⟩ := List.mem_map.mp hx
    exact h2 y hy
theorem set_last : ∀ (pre : List Str) (x y : Str), ((pre ++ [x]).map V.str).set pre.length (.str y) = (pre ++ [y]).map V.str
  | [], _, _ => rfl
  | p :: r, x, y => congrArg (fun t => V.str p :: t) (set_last r x y)
def sp__law_forms : Sp := fun vs H Q _ => ∃ z, vs = [.str z] ∧ Plain 1000 z ∧
  (∀ ws, pieces z = some ws → ∀ p H', H p = none → (∀ T, But T H H') → H' p = some (.lst (ws.map V.str)) → Q (.ref p) H') ∧ (pieces z = none → ∀ H', (∀ T, But T H H') → Q .non H')
section
variable {P : Program} {w : World} {K : PySem.W.Frag} {mg : Str → Option Value} {base : Heap}
theorem ok__law_forms (T : Tx K mg) : FnOk P w K mg base CX0 3 T.f__law_forms T.v__law_forms ["text"] sp__law_forms := by
  refine T.d__law_forms.F.ok sc__law_forms (fun vs H Q E h => ?_) (fun cdv A outer s H vs Q E hr h => ?_)
  · obtain ⟨z, rfl, _⟩ := h
    rfl
  · obtain ⟨z, rfl, hz, q, qn⟩ := h
    refine ⟨_, (Evl.pss_cut (ps_if (pt_cmpR Y.op_eqS (pv 0) pe_str (nomark _))
      (pss_one (ps_ret (pe_lst pa_nil)))
      pss_nil)
    (pss_cons (ps_set (i := 1) sc__law_forms.nd rfl (Or.inl rfl) (pe_lst (pa_cons pe_str pa_nil)))
    (pss_cons (ps_for PassesOwn.never rfl (pi_str (pv 0)) (pg_name (i := 2) sc__law_forms.nd rfl (Or.inl rfl))
      (pss_one (ps_if (pt_cmpR Y.op_eqS (pv 2) pe_str (nomark _))
        (pss_one (ps_expr (pe_bm PySem.F.plainAttrs_list PySem.F.slot_list_append PySem.F.type_list_append mt_append (pv 1) (pa_cons pe_str pa_nil))))
        (pss_one (ps_asg (pe_op Y.op_addS (pe_ix ix_list (pv 1) (pe_un un_neg pe_int) (fun _ _ => rfl)) (pv 2)) (pg_sub (pv 1) (pe_un un_neg pe_int) set_list))))))
    (Evl.pss_cut (ps_if (pt_cmpR Y.op_gtI (pe_callB Y.call_lenQ (by rfl) T.b.len (by decide +kernel) (pa_cons (pe_lc (own := [("word", 3)]) (g := gName 3) (tt := _) rfl sc__law_forms.nd (pi_list (pv 1)) (blkOk_by (N := N__law_forms) (sc := defScope s__law_forms) (by decide +kernel)) (fun _ _ _ _ _ => pg_name (i := 3) sc__law_forms.nd rfl (Or.inl rfl)) (fun _ _ _ _ _ => pts_one ((pt_not (pt_val (Y.pcall T.d__law_is_form (ok__law_is_form T) (hr.mono (by decide)) (pa_cons (pv 3) pa_nil)))))) (fun _ _ _ _ _ => (pv 3))) pa_nil)) pe_int (nomark _))
      (pss_one (ps_ret pe_non))
      pss_nil)
    (pss_one (ps_ret (pv 1))))))), ?_⟩
    refine Y.st (σ := [some (.str z), none, none, none]) rfl ?_
    refine Y.cut (fun σ' H' => σ' = [some (.str z), none, none, none] ∧ H' = H ∧ z ≠ PySem.Str.ofString "") ?_ fun σ' H' ⟨e1, e2, hne⟩ => ?_
    · walk_at "rds"
      refine Y.iteD (fun e => ?_) (fun e => ?_)
      · walk_at "rds"
        refine ⟨Nat.zero_le _, fun l nl => ?_⟩
        exact q [] (by unfold pieces; rw [if_pos e]) l _ nl (fun _ => But.new nl) upd_same
      · walk_at "rds"
        exact ⟨rfl, rfl, e⟩
    · rw [e1, e2]
      walk_at "rds"
      refine ⟨by show 1 ≤ sizeLine; decide, fun l nl => ?_⟩
      obtain ⟨H1, eH1, hl, b1⟩ := Y.gen (o := .lst [V.str (PySem.Str.ofString "")]) nl
      rw [eH1]
      walk_at "rds"
      refine Y.loopS (fun i σ' H' => (∃ v, σ' = [some (.str z), some (.ref l), v, none]) ∧ (∀ T, But T H H') ∧ ∃ (pre : List Str) (x : Str), H' l = some (.lst ((pre ++ [x]).map V.str)) ∧ (∀ y ∈ pre ++ [x], 32 ∉ y.cps.toList) ∧ jl (cl (pre ++ [x])) = z.cps.toList.take i ∧ pre.length ≤ i)
        ⟨⟨none, rfl⟩, b1, [], PySem.Str.ofString "", hl, by decide +kernel, by rw [List.take_zero]; decide +kernel, Nat.le_refl _⟩ (fun i c σ' H' hi ⟨⟨v, e⟩, b2, pre, x, hl2, hf, hj, hn⟩ => ?_) (fun σ' H' ⟨⟨v, e⟩, b2, pre, x, hl2, hf, hj, hn⟩ => ?_)
      · subst e
        have hil : i < 1000 := by
          have h1 := (List.getElem?_eq_some_iff.mp hi).1
          have h2 := hz.2
          rw [len_list] at h2
          omega
        walk_at "rds"
        refine Y.iteD (fun e => ?_) (fun e => ?_)
        · have ec : c = 32 := by
            have h1 : (⟨#[c]⟩ : Str) = ⟨#[32]⟩ := e.trans spc_one
            have h2 := congrArg (fun s : Str => s.cps.toList) h1
            simpa using h2
          walk_at "rds"
          refine Y.tyL (.inl (.inl hl2)) ?_
          walk_at "rds"
          refine Y.app hl2 (by rw [List.length_map, List.length_append]; exact Nat.lt_of_lt_of_le (show pre.length + 1 < 2000 by omega) (by decide)) fun H3 hl3 b3 => ?_
          refine ⟨⟨_, rfl⟩, fun T => (b2 T).own nl (b3 [l] (by simp)), pre ++ [x], PySem.Str.ofString "", by rw [hl3]; simp, fun y hy => ?_, ?_, by rw [List.length_append]; exact Nat.succ_le_succ hn⟩
          · rcases List.mem_append.mp hy with hy | hy
            · exact hf y hy
            · rw [List.mem_singleton.mp hy, nil_cps]
              simp
          · have e5 : cl (pre ++ [x] ++ [PySem.Str.ofString ""]) = cl (pre ++ [x]) ++ [[]] := by
              unfold cl
              rw [List.map_append, List.map_singleton, nil_cps]
            rw [e5, jl_snoc _ _ (by unfold cl; simp), hj, List.take_add_one, hi, ec]
            rfl
        · have ec : c ≠ 32 := fun h => e (by rw [h]; exact spc_one.symm)
          walk_at "rds"
          refine Y.ixL (v := .str x) (.inl (.inl hl2)) (by rw [List.map_append]; exact atI_last _ _) ?_
          have hx1 : x.length ≤ 1000 := by
            have h1 : x.length ≤ (Str.join spc (pre ++ [x])).length := (mem_join (sep := spc) (List.mem_append_right _ List.mem_cons_self)).2
            rw [len_list (Str.join spc (pre ++ [x])), join_jl, hj, List.length_take] at h1
            omega
          walk_at "rds"
          refine Y.addS (sl_big (by show x.length + 1 ≤ 1000000; omega)) ?_
          walk_at "rds"
          refine Y.setG (j := pre.length) (ys := (pre ++ [x ++ ⟨#[c]⟩]).map V.str) hl2 ?_ ?_ fun H3 hl3 b3 => ?_
          · rw [List.length_map, List.length_append]
            show ixN (pre.length + 1) (-1) = some pre.length
            unfold ixN
            rw [if_neg (by omega), if_pos (by omega)]
            congr 1
            omega
          · exact set_last pre x _
          · refine ⟨⟨_, rfl⟩, fun T => (b2 T).own nl (b3 [l] (by simp)), pre, x ++ ⟨#[c]⟩, hl3, fun y hy => ?_, ?_, Nat.le_succ_of_le hn⟩
            · rcases List.mem_append.mp hy with hy | hy
              · exact hf y (List.mem_append_left _ hy)
              · rw [List.mem_singleton.mp hy, str_app]
                intro h
                rcases List.mem_append.mp h with h | h
                · exact hf x (List.mem_append_right _ List.mem_cons_self) h
                · have h2 : 32 = c := by simpa using h
                  exact ec h2.symm
            · have e5 : cl (pre ++ [x ++ ⟨#[c]⟩]) = cl pre ++ [x.cps.toList ++ [c]] := by
                unfold cl
                rw [List.map_append, List.map_singleton, str_app]
              have e6 : cl (pre ++ [x]) = cl pre ++ [x.cps.toList] := by
                unfold cl
                rw [List.map_append, List.map_singleton]
              rw [e5, jl_last, ← e6, hj, List.take_add_one, hi]
              rfl
      · subst e
        rw [List.take_length] at hj
        have es := split_is (z := z) (by simp) hf hj
        rw [es] at hl2
        have hlen : (Txt.split z spc).length ≤ 2000 := by
          rw [← es, List.length_append, ← len_list] at *
          have := hz.2
          show pre.length + 1 ≤ 2000
          omega
        refine Y.cut (fun σ2 H2 => σ2 = [some (.str z), some (.ref l), v, none] ∧ (∀ T, But T H H2) ∧ H2 l = some (.lst ((Txt.split z spc).map V.str)) ∧ ∀ p ∈ Txt.split z spc, isForm p = true) ?_ fun σ2 H2 ⟨e3, b3, hl3, ha⟩ => ?_
        · walk_at "rds"
          refine Y.lcLs (.inl (.inl hl2)) fun D hD => ?_
          refine Y.lcL (fun u => match u with | .str y => !isForm y | _ => false) id (.inl (.inl hl2)) hD (by rw [List.length_map]; omega) (fun x => rfl) (fun u H2 QT hu b3 k => ?_) (fun u H2 QV hu _ b3 k => ?_) fun H2 b3 hD2 => ?_
          · obtain ⟨y, _, rfl⟩ := List.mem_map.mp hu
            walk_at "rds"
            refine ⟨y, rfl, ?_⟩
            walk_at "rds"
            exact k H2 fun _ => But.refl H2
          · obtain ⟨y, _, rfl⟩ := List.mem_map.mp hu
            walk_at "rds"
            exact k H2 fun _ => But.refl H2
          · rw [List.map_id] at hD2
            walk_at "rds"
            refine Y.lenL (.inl (.inl hD2)) ?_
            walk_at "rds"
            refine Y.iteD (fun h0 => ?_) (fun h0 => ?_)
            · walk_at "rds"
              have h1 : 0 < (((Txt.split z spc).map V.str).filter fun u => match u with | .str y => !isForm y | _ => false).length := by omega
              obtain ⟨u, hu⟩ := List.exists_mem_of_length_pos h1
              obtain ⟨hu1, hu2⟩ := List.mem_filter.mp hu
              obtain ⟨y, hy, rfl⟩ := List.mem_map.mp hu1
              have hy2 : isForm y = false := by simpa using hu2
              exact qn (pieces_none hne hy hy2) H2 fun T => (b2 T).trans (b3 T)
            · walk_at "rds"
              refine ⟨rfl, fun T => (b2 T).trans (b3 T), (b3 []).lst hl2 (by simp), fun p hp => ?_⟩
              cases ef : isForm p with
              | true => rfl
              | false =>
                refine absurd (show (0 : Int) < _ from ?_) h0
                have hm : V.str p ∈ ((Txt.split z spc).map V.str).filter fun u => match u with | .str y => !isForm y | _ => false := List.mem_filter.mpr ⟨List.mem_map.mpr ⟨p, hp, rfl⟩, by simp [ef]⟩
                have := List.length_pos_of_mem hm
                omega
        · rw [e3]
          walk_at "rds"
          exact q _ (pieces_of hne ha) l H2 nl b3 hl3
end
end K1


namespace K1
open PySem PySem.Spec PyProof.Rows L2
open Y (But DefAt)
/-! ## the same, kinds and all -/
def sp__law_sameS : Sp := fun vs H Q _ => ∃ a b, vs = [.str a, .str b] ∧ Q (.bl (decide (a = b))) H
def sp__law_sameL : Sp := fun vs H Q _ => ∃ p q xs ys, vs = [.ref p, .ref q] ∧ H p = some (.lst (List.map V.str xs)) ∧ H q = some (.lst (List.map V.str ys)) ∧ ys.length ≤ 100000 ∧ Q (.bl (decide (xs = ys))) H
section
variable {P : Program} {w : World} {K : PySem.W.Frag} {mg : Str → Option Value} {base : Heap}
theorem ok__law_sameS (T : Tx K mg) : FnOk P w K mg base CX0 1 T.f__law_same T.v__law_same ["told", "due"] sp__law_sameS := by
  refine T.d__law_same.F.ok sc__law_same (fun vs H Q E h => ?_) (fun cdv A outer s H vs Q E hr h => ?_)
  · obtain ⟨a, b, rfl, _⟩ := h
    rfl
  · obtain ⟨a, b, rfl, q⟩ := h
    refine ⟨_, (Evl.pss_cut (ps_if (pt_cmpR Y.op_isNone (pv 1) pe_non (nomark _)) (pss_one (ps_ret (pe_cmpR Y.op_isNone (pv 0) pe_non (nomark _)))) pss_nil)
      (Evl.pss_cut (ps_if (PW.pt (pw_or (pt_val (pe_callB call_isi (by rfl) T.b.isinstance (by decide +kernel) (pa_cons (pv 1) (pa_cons (pe_bltn (v := .ty "tuple") (u := .type "tuple") (by rfl) T.b.tuple (by decide +kernel) rfl) pa_nil)))) (pw_or1 (pt_val (pe_callB call_isi (by rfl) T.b.isinstance (by decide +kernel) (pa_cons (pv 1) (pa_cons (pe_bltn (v := .ty "list") (u := .type "list") (by rfl) T.b.list (by decide +kernel) rfl) pa_nil))))))) pss_never pss_nil)
      (Evl.pss_cut (ps_if (pt_val (pe_callB call_isi (by rfl) T.b.isinstance (by decide +kernel) (pa_cons (pv 1) (pa_cons (pe_bltn (v := .ty "str") (u := .type "str") (by rfl) T.b.str (by decide +kernel) rfl) pa_nil)))) (pss_one (ps_ret (pe_and (pe_callB call_isi (by rfl) T.b.isinstance (by decide +kernel) (pa_cons (pv 0) (pa_cons (pe_bltn (v := .ty "str") (u := .type "str") (by rfl) T.b.str (by decide +kernel) rfl) pa_nil))) (pe_one (pe_cmpR Y.op_eqS (pv 0) (pv 1) (nomark _)))))) pss_nil)
      pss_never))), ?_⟩
    refine Y.st (σ := [some (.str a), some (.str b), none]) rfl ?_
    refine Y.cutR ?_ (Y.cutR ?_ (Y.cut (fun _ _ => False) ?_ fun _ _ z => z.elim))
    · walk_at "rds"
      exact Y.iteD (fun e => by cases e) (fun _ => ⟨rfl, rfl⟩)
    · walk_at "rds"
      refine Y.isi (b := false) (.base (.str b)) (by decide +kernel) ?_
      walk_at "rds"
      refine Y.isi (b := false) (.base (.str b)) (by decide +kernel) ?_
      walk_at "rds"
      exact ⟨rfl, rfl⟩
    · walk_at "rds"
      refine Y.isi (b := true) (.base (.str b)) (by decide +kernel) ?_
      walk_at "rds"
      refine Y.isi (b := true) (.base (.str a)) (by decide +kernel) ?_
      walk_at "rds"
      exact q
theorem ok__law_sameL (T : Tx K mg) : FnOk P w K mg base CX0 2 T.f__law_same T.v__law_same ["told", "due"] sp__law_sameL := by
  refine T.d__law_same.F.ok sc__law_same (fun vs H Q E h => ?_) (fun cdv A outer s H vs Q E hr h => ?_)
  · obtain ⟨p, p2, xs, ys, rfl, _⟩ := h
    rfl
  · obtain ⟨p, p2, xs, ys, rfl, hp, hp2, hl, q⟩ := h
    refine ⟨_, (Evl.pss_cut (ps_if (pt_cmpR Y.op_isNone (pv 1) pe_non (nomark _)) (pss_one (ps_ret (pe_cmpR Y.op_isNone (pv 0) pe_non (nomark _)))) pss_nil)
      (Evl.pss_cut (ps_if (PW.pt (pw_or (pt_val (pe_callB call_isi (by rfl) T.b.isinstance (by decide +kernel) (pa_cons (pv 1) (pa_cons (pe_bltn (v := .ty "tuple") (u := .type "tuple") (by rfl) T.b.tuple (by decide +kernel) rfl) pa_nil)))) (pw_or1 (pt_val (pe_callB call_isi (by rfl) T.b.isinstance (by decide +kernel) (pa_cons (pv 1) (pa_cons (pe_bltn (v := .ty "list") (u := .type "list") (by rfl) T.b.list (by decide +kernel) rfl) pa_nil)))))))
        (Evl.pss_cut (ps_if (PW.pt (pw_or (pt_cmpR Y.op_neB (pe_callB call_isi (by rfl) T.b.isinstance (by decide +kernel) (pa_cons (pv 1) (pa_cons (pe_bltn (v := .ty "tuple") (u := .type "tuple") (by rfl) T.b.tuple (by decide +kernel) rfl) pa_nil))) (pe_callB call_isi (by rfl) T.b.isinstance (by decide +kernel) (pa_cons (pv 0) (pa_cons (pe_bltn (v := .ty "tuple") (u := .type "tuple") (by rfl) T.b.tuple (by decide +kernel) rfl) pa_nil))) (nomark _)) (pw_or1 (pt_cmpR Y.op_neB (pe_callB call_isi (by rfl) T.b.isinstance (by decide +kernel) (pa_cons (pv 1) (pa_cons (pe_bltn (v := .ty "list") (u := .type "list") (by rfl) T.b.list (by decide +kernel) rfl) pa_nil))) (pe_callB call_isi (by rfl) T.b.isinstance (by decide +kernel) (pa_cons (pv 0) (pa_cons (pe_bltn (v := .ty "list") (u := .type "list") (by rfl) T.b.list (by decide +kernel) rfl) pa_nil))) (nomark _))))) (pss_one (ps_ret pe_bl)) pss_nil)
        (Evl.pss_cut (ps_if (pt_cmpR Y.op_neI (pe_callB Y.call_lenQ (by rfl) T.b.len (by decide +kernel) (pa_cons (pv 0) pa_nil)) (pe_callB Y.call_lenQ (by rfl) T.b.len (by decide +kernel) (pa_cons (pv 1) pa_nil)) (nomark _)) (pss_one (ps_ret pe_bl)) pss_nil)
        (pss_cons (ps_for PassesOwn.never rfl (pi_range1 (by rfl) T.b.range (pa_cons (pe_callB Y.call_lenQ (by rfl) T.b.len (by decide +kernel) (pa_cons (pv 1) pa_nil)) pa_nil)) (pg_name (i := 2) sc__law_same.nd rfl (Or.inl rfl))
          (pss_one (ps_if (pt_not (pt_val (Y.pcall T.d__law_same (ok__law_sameS T) (hr.mono (by decide)) (pa_cons (pe_ix ix_list (pv 0) (pv 2) (fun _ _ => rfl)) (pa_cons (pe_ix ix_list (pv 1) (pv 2) (fun _ _ => rfl)) pa_nil))))) (pss_one (ps_ret pe_bl)) pss_nil)))
        (pss_one (ps_ret pe_bl))))) pss_nil)
      pss_never)), ?_⟩
    refine Y.st (σ := [some (.ref p), some (.ref p2), none]) rfl ?_
    refine Y.cutR ?_ (Y.cut (fun _ _ => False) ?_ fun _ _ z => z.elim)
    · walk_at "rds"
      exact Y.iteD (fun e => by cases e) (fun _ => ⟨rfl, rfl⟩)
    · walk_at "rds"
      refine Y.isi (b := false) (.base (.lst hp2)) (by decide +kernel) ?_
      walk_at "rds"
      refine Y.isi (b := true) (.base (.lst hp2)) (by decide +kernel) ?_
      walk_at "rds"
      refine Y.cutR ?_ ?_
      · walk_at "rds"
        refine Y.isi (b := false) (.base (.lst hp2)) (by decide +kernel) ?_
        walk_at "rds"
        refine Y.isi (b := false) (.base (.lst hp)) (by decide +kernel) ?_
        walk_at "rds"
        refine Y.iteN (fun e => absurd rfl e) (fun _ => ?_)
        walk_at "rds"
        refine Y.isi (b := true) (.base (.lst hp2)) (by decide +kernel) ?_
        walk_at "rds"
        refine Y.isi (b := true) (.base (.lst hp)) (by decide +kernel) ?_
        walk_at "rds"
        refine Y.iteN (fun e => absurd rfl e) (fun _ => ?_)
        walk_at "rds"
        exact ⟨rfl, rfl⟩
      · refine Y.cut (fun σ' H' => σ' = [some (.ref p), some (.ref p2), none] ∧ H' = H ∧ xs.length = ys.length) ?_ fun σ' H' ⟨e1, e2, el⟩ => ?_
        · walk_at "rds"
          refine Y.lenL (.inl (.inl hp)) ?_
          walk_at "rds"
          refine Y.lenL (.inl (.inl hp2)) ?_
          walk_at "rds"
          rw [List.length_map, List.length_map]
          refine Y.iteN (fun e => ?_) (fun e => ?_)
          · walk_at "rds"
            rw [decide_eq_false (fun z => e (by rw [z]))] at q
            exact q
          · walk_at "rds"
            exact ⟨rfl, rfl, by omega⟩
        · rw [e1, e2]
          walk_at "rds"
          refine Y.lenL (.inl (.inl hp2)) ?_
          walk_at "rds"
          rw [List.length_map]
          refine Y.rngI (by omega) (by omega) ?_
          refine Y.loopR (fun i σ' H' => (∃ v, σ' = [some (.ref p), some (.ref p2), v]) ∧ H' = H ∧ xs.take i = ys.take i) ⟨⟨_, rfl⟩, rfl, by simp⟩ (fun i σ' H' hi ⟨⟨v, e⟩, e2, ht⟩ => ?_) (fun σ' H' ⟨⟨v, e⟩, e2, ht⟩ => ?_)
          · subst e e2
            have h1 : i < ys.length := by omega
            have h2 : i < xs.length := by omega
            walk_at "rds"
            refine Y.ixL (v := .str xs[i]) (.inl (.inl hp)) (atI_nat (by rw [List.getElem?_map, List.getElem?_eq_getElem h2] <;> rfl)) ?_
            walk_at "rds"
            refine Y.ixL (v := .str ys[i]) (.inl (.inl hp2)) (atI_nat (by rw [List.getElem?_map, List.getElem?_eq_getElem h1] <;> rfl)) ?_
            walk_at "rds"
            refine ⟨_, _, rfl, ?_⟩
            walk_at "rds"
            refine Y.iteN (fun e => ?_) (fun e => ?_)
            · walk_at "rds"
              rw [decide_eq_false (fun z => e (by subst z; rfl))] at q
              exact q
            · walk_at "rds"
              refine ⟨⟨_, rfl⟩, rfl, ?_⟩
              rw [List.take_add_one, List.take_add_one, ht, List.getElem?_eq_getElem h1, List.getElem?_eq_getElem h2, e]
          · subst e e2
            walk_at "rds"
            have e3 : xs = ys := by
              have h1 : ((ys.length : Int)).toNat = ys.length := Int.toNat_natCast _
              rw [h1, List.take_length, ← el, List.take_length] at ht
              exact ht
            rw [decide_eq_true e3] at q
            exact q
end
end K1


namespace K1
open PySem PySem.Spec PyProof.Rows L2
open Y (But DefAt)
/-! ## what is refused -/
def ix {K : PySem.W.Frag} {mg : Str → Option Value} (T : Tx K mg) (a : Addr) (cls : Value) (d : Option Addr) (C : V) : TE := tCB (Yh.rIsX K T.x_BadText a cls d) (tCons (tVar 1) (tCons (tC C) tNil))
def ts_refused {K : PySem.W.Frag} {mg : Str → Option Value} (T : Tx K mg) (a : Addr) (cls : Value) (d : Option Addr) : TS :=
  tSeq (tAsg (tLst (tCons (ix T a cls d (.ref T.x_BadForest)) (tCons (ix T a cls d (.ref T.x_BadGrammar)) (tCons (ix T a cls d (.ref T.x_BadLine)) (tCons (ix T a cls d (.ref T.x_BadName)) tNil))))) (gName 2)) (tSeq (tAsg (tOp rCat (tVar 2) (tLst (tCons (ix T a cls d (.ref T.x_Duplicate)) (tCons (ix T a cls d (.ref T.x_NoGrowth)) (tCons (ix T a cls d (.ref T.x_NoReading)) tNil))))) (gName 2)) (tSeq (tAsg (tOp rCat (tVar 2) (tLst (tCons (ix T a cls d (.ref T.x_Ring)) (tCons (ix T a cls d (.ref T.x_Unknown)) tNil)))) (gName 2))
    (tRet (tAndV (ix T a cls d (.ref T.x_BadText)) (tAndV (ix T a cls d (.ty "ValueError")) (tNotV (tCB (rAny K) (tCons (tVar 2) tNil))))))))
def sp__law_refused (P : Addr) : Sp := fun vs H Q _ => ∃ z, vs = [.str z] ∧ Plain 1000 z ∧ GxR.TabG H P ∧ pieces z = none ∧ ∀ H', (∀ T, But T H H') → Q (.bl true) H'
theorem ixr {K : PySem.W.Frag} {mg : Str → Option Value} {T : Tx K mg} {a : Addr} {cls : Value} {d : Option Addr} {C : V} {σ : L2.St} {H : Hp} {Q : VK} (h : tCB (Yh.rIsX K T.x_BadText a cls d) (tCons (tVar 1) (tCons (tC C) tNil)) σ H Q) : ix T a cls d C σ H Q := h
section
variable {P : Program} {w : World} {K : PySem.W.Frag} {mg : Str → Option Value} {base : Heap}
theorem cat {l b : Addr} {xs zs : List V} {H : Hp} {Q : VK} (h1 : H l = some (.lst xs)) (h2 : H b = some (.lst zs)) (hz : xs.length + zs.length ≤ sizeLine) (q : ∀ p H2, H p = none → H2 p = some (.lst (xs ++ zs)) → (∀ T, But T H H2) → Q (.ref p) H2) : rCat (.ref l) (.ref b) H Q :=
  ⟨l, b, xs, zs, rfl, rfl, h1, h2, hz, fun p hp => q p _ hp upd_same fun _ => But.new hp⟩
theorem ok__law_refused (T : Tx K mg) (B : Tb T base) : FnOk P w K mg base CX0 4 T.f__law_refused T.v__law_refused ["text"] (sp__law_refused T.p_is_form) := by
  refine T.d__law_refused.F.ok sc__law_refused (fun vs H Q E h => ?_) (fun cdv A outer s H vs Q E hr h => ?_)
  · obtain ⟨z, rfl, _⟩ := h
    rfl
  · obtain ⟨z, rfl, hz, hT, hn, q⟩ := h
    refine ⟨_, pss_cons (L2N.ps_try_as (i := 1) (tb := fun W => tDrop (tCallS (sp_split_text T.p_is_form T.x_BadText) (WE W) (tCons (tVar 0) tNil))) (ts := ts_refused T) (Wout := fun _ _ _ _ => False) rfl rfl sc__law_refused.nd rfl rfl ⟨rfl, by decide, .inl T.g_ReadingsError⟩ Yh.takesN
      (fun W pn xe tk _ => pss_one (ps_expr (by exact (Yh.pcallS T.d_split_text (ok_split_text T B) hr tk (pa_cons (pv 0) pa_nil)))))
      (fun a oe cls d pn hz hf => by exact (pss_cons (ps_set (i := 2) sc__law_refused.nd rfl (Or.inl rfl) (pe_lst (pa_cons (pe_callB (Yh.call_isX T.e_BadText hz.zc hf) (by rfl) T.b.isinstance (by decide +kernel) (pa_cons (pv 1) (pa_cons (pe_glob (v := .ref T.x_BadForest) rfl T.g_BadForest rfl) pa_nil))) (pa_cons (pe_callB (Yh.call_isX T.e_BadText hz.zc hf) (by rfl) T.b.isinstance (by decide +kernel) (pa_cons (pv 1) (pa_cons (pe_glob (v := .ref T.x_BadGrammar) rfl T.g_BadGrammar rfl) pa_nil))) (pa_cons (pe_callB (Yh.call_isX T.e_BadText hz.zc hf) (by rfl) T.b.isinstance (by decide +kernel) (pa_cons (pv 1) (pa_cons (pe_glob (v := .ref T.x_BadLine) rfl T.g_BadLine rfl) pa_nil))) (pa_cons (pe_callB (Yh.call_isX T.e_BadText hz.zc hf) (by rfl) T.b.isinstance (by decide +kernel) (pa_cons (pv 1) (pa_cons (pe_glob (v := .ref T.x_BadName) rfl T.g_BadName rfl) pa_nil))) pa_nil))))))
        (pss_cons (ps_set (i := 2) sc__law_refused.nd rfl (Or.inl rfl) (pe_op op_cat (pv 2) (pe_lst (pa_cons (pe_callB (Yh.call_isX T.e_BadText hz.zc hf) (by rfl) T.b.isinstance (by decide +kernel) (pa_cons (pv 1) (pa_cons (pe_glob (v := .ref T.x_Duplicate) rfl T.g_Duplicate rfl) pa_nil))) (pa_cons (pe_callB (Yh.call_isX T.e_BadText hz.zc hf) (by rfl) T.b.isinstance (by decide +kernel) (pa_cons (pv 1) (pa_cons (pe_glob (v := .ref T.x_NoGrowth) rfl T.g_NoGrowth rfl) pa_nil))) (pa_cons (pe_callB (Yh.call_isX T.e_BadText hz.zc hf) (by rfl) T.b.isinstance (by decide +kernel) (pa_cons (pv 1) (pa_cons (pe_glob (v := .ref T.x_NoReading) rfl T.g_NoReading rfl) pa_nil))) pa_nil))))))
        (pss_cons (ps_set (i := 2) sc__law_refused.nd rfl (Or.inl rfl) (pe_op op_cat (pv 2) (pe_lst (pa_cons (pe_callB (Yh.call_isX T.e_BadText hz.zc hf) (by rfl) T.b.isinstance (by decide +kernel) (pa_cons (pv 1) (pa_cons (pe_glob (v := .ref T.x_Ring) rfl T.g_Ring rfl) pa_nil))) (pa_cons (pe_callB (Yh.call_isX T.e_BadText hz.zc hf) (by rfl) T.b.isinstance (by decide +kernel) (pa_cons (pv 1) (pa_cons (pe_glob (v := .ref T.x_Unknown) rfl T.g_Unknown rfl) pa_nil))) pa_nil)))))
        (pss_one (ps_ret (pe_and (pe_callB (Yh.call_isX T.e_BadText hz.zc hf) (by rfl) T.b.isinstance (by decide +kernel) (pa_cons (pv 1) (pa_cons (pe_glob (v := .ref T.x_BadText) rfl T.g_BadText rfl) pa_nil))) (pe_and (pe_callB (Yh.call_isX T.e_BadText hz.zc hf) (by rfl) T.b.isinstance (by decide +kernel) (pa_cons (pv 1) (pa_cons (pe_bltn (v := .ty "ValueError") (u := .type "ValueError") (by rfl) T.b.ValueError (by decide +kernel) rfl) pa_nil))) (pe_one (pe_not (pe_callB (Yh.cr_anyH (Yh.hot_of hz hf)) (by rfl) T.b.any (by decide +kernel) (pa_cons (pv 2) pa_nil)))))))))) )))
      (pss_one (ps_ret pe_bl)), ?_⟩
    refine Y.st (σ := [some (.str z), none, none]) rfl ?_
    refine Y.seq ?_
    show tDrop _ _ _ _
    walk_at "rds"
    refine Yh.callS ?_
    walk_at "rds"
    refine ⟨z, rfl, hz, hT, fun ws e => ?_, fun _ H1 b1 => ?_⟩
    · rw [hn] at e
      cases e
    · refine ⟨true, T.m_ReadingsError, fun _ a na => ?_, fun z => nomatch z⟩
      unfold ts_refused
      walk_at "rds"
      refine ixr ?_
      walk_at "rds"
      refine Yh.isX T.i_BadForest ?_
      walk_at "rds"
      refine ixr ?_
      walk_at "rds"
      refine Yh.isX T.i_BadGrammar ?_
      walk_at "rds"
      refine ixr ?_
      walk_at "rds"
      refine Yh.isX T.i_BadLine ?_
      walk_at "rds"
      refine ixr ?_
      walk_at "rds"
      refine Yh.isX T.i_BadName ?_
      walk_at "rds"
      refine ⟨by show 4 ≤ sizeLine; decide, fun l1 n1 => ?_⟩
      obtain ⟨H2, e2, h2, b2⟩ := Y.gen (o := .lst [V.bl false, V.bl false, V.bl false, V.bl false]) n1
      rw [e2]
      walk_at "rds"
      refine ixr ?_
      walk_at "rds"
      refine Yh.isX T.i_Duplicate ?_
      walk_at "rds"
      refine ixr ?_
      walk_at "rds"
      refine Yh.isX T.i_NoGrowth ?_
      walk_at "rds"
      refine ixr ?_
      walk_at "rds"
      refine Yh.isX T.i_NoReading ?_
      walk_at "rds"
      refine ⟨by show 3 ≤ sizeLine; decide, fun l2 n2 => ?_⟩
      obtain ⟨H3, e3, h3, b3⟩ := Y.gen (o := .lst [V.bl false, V.bl false, V.bl false]) n2
      rw [e3]
      refine cat ((b3 []).lst h2 (by simp)) h3 (by decide) fun l3 H4 n4 h4 b4 => ?_
      walk_at "rds"
      refine ixr ?_
      walk_at "rds"
      refine Yh.isX T.i_Ring ?_
      walk_at "rds"
      refine ixr ?_
      walk_at "rds"
      refine Yh.isX T.i_Unknown ?_
      walk_at "rds"
      refine ⟨by show 2 ≤ sizeLine; decide, fun l4 n5 => ?_⟩
      obtain ⟨H5, e5, h5, b5⟩ := Y.gen (o := .lst [V.bl false, V.bl false]) n5
      rw [e5]
      refine cat ((b5 []).lst h4 (by simp)) h5 (by decide) fun l5 H6 n6 h6 b6 => ?_
      walk_at "rds"
      refine ixr ?_
      walk_at "rds"
      refine Yh.isX T.i_BadText ?_
      walk_at "rds"
      refine ixr ?_
      walk_at "rds"
      refine Yh.isXt T.i_ValueError ?_
      walk_at "rds"
      refine ⟨_, [false, false, false, false, false, false, false, false, false], rfl, .inl (.inl h6), ?_⟩
      walk_at "rds"
      exact q H6 fun T => ((((b1 T).trans (b2 T)).trans (b3 T)).trans (b4 T)).trans ((b5 T).trans (b6 T))
end
end K1


namespace K1
open PySem PySem.Spec PyProof.Rows L2
open Y (But DefAt)
/-! ## the law -/
theorem pieces_facts {z : Str} {ws : List Str} (hz : Plain 1000 z) (h : pieces z = some ws) : Str.join spc ws = z ∧ ws.length ≤ 1002 ∧ ∀ p ∈ ws, Plain 1000 p := by
  unfold pieces at h
  by_cases e : z = PySem.Str.ofString ""
  · rw [if_pos e] at h
    cases h
    refine ⟨?_, by decide, by simp⟩
    rw [e]
    decide +kernel
  · rw [if_neg e] at h
    by_cases a : (Txt.split z spc).all isForm = true
    · rw [if_pos a] at h
      cases h
      refine ⟨StrLaws.join_split z spc, ?_, fun p hp => part_plain hz hp⟩
      have h1 := split_le z spc
      have h2 := hz.2
      omega
    · rw [if_neg a] at h
      cases h
theorem strs_dp {K : PySem.W.Frag} {H : Hp} : ∀ ws : List Str, DpAll K H (ws.map V.str) (ws.map PyData.str)
  | [] => .nil
  | x :: r => .cons (.str x) (strs_dp r)
theorem strs_shaped {ws : List Str} (h : ∀ p ∈ ws, Plain 1000 p) : SeqAt.shaped (.list (ws.map PyData.str)) = true := by
  have h1 : ∀ l : List Str, (∀ p ∈ l, Plain 1000 p) → PyData.canLayAll0 (l.map PyData.str) = true ∧ PyData.depthAll (l.map PyData.str) = 0 := by
    intro l
    induction l with
    | nil => exact fun _ => ⟨rfl, rfl⟩
    | cons x r ih =>
      intro hl
      obtain ⟨i1, i2⟩ := ih fun p hp => hl p (List.mem_cons_of_mem _ hp)
      have hx := hl x List.mem_cons_self
      refine ⟨?_, ?_⟩
      · show (PyData.canLay0 (.str x) && PyData.canLayAll0 (r.map PyData.str)) = true
        rw [i1, Bool.and_true]
        show x.cps.all (fun c => decide (c < 0x110000)) = true
        rw [← Array.all_toList, List.all_eq_true]
        exact fun c hc => decide_eq_true (Nat.lt_trans (hx.1 c hc) (by decide))
      · show max (PyData.depth (.str x)) (PyData.depthAll (r.map PyData.str)) = 0
        rw [i2]
        rfl
  obtain ⟨h2, h3⟩ := h1 ws h
  unfold SeqAt.shaped
  have e1 : PyData.canLay0 (.list (ws.map PyData.str)) = true := by rw [PyData.canLay0]; exact h2
  have e2 : PyData.depth (.list (ws.map PyData.str)) = 1 := by rw [PyData.depth, h3]
  rw [e1, e2]
  rfl
def sp__law_holds (P P2 : Addr) : Sp := fun vs H Q _ => ∃ z, vs = [.str z] ∧ Plain 1000 z ∧ GxR.TabG H P ∧ GxR.TabG H P2 ∧ ∀ H', (∀ T, But T H H') → Q (.bl true) H'
section
variable {P : Program} {w : World} {K : PySem.W.Frag} {mg : Str → Option Value} {base : Heap}
theorem ok__law_holds (T : Tx K mg) (B : Tb T base) : FnOk P w K mg base CX0 5 T.f__law_holds T.v__law_holds ["text"] (sp__law_holds T.p_is_name T.p_is_form) := by
  refine T.d__law_holds.F.ok sc__law_holds (fun vs H Q E h => ?_) (fun cdv A outer s H vs Q E hr h => ?_)
  · obtain ⟨z, rfl, _⟩ := h
    rfl
  · obtain ⟨z, rfl, hz, hT, hT2, q⟩ := h
    have hzl := hz.2
    refine ⟨_, (Evl.pss_cut (ps_if (PW.pt (pw_or (pt_not (pt_val (Y.pcall T.d__law_says (ok__law_says T) (hr.mono (by decide)) (pa_cons (Y.pcall T.d_is_name (ok_is_name T B) (hr.mono (by decide)) (pa_cons (pv 0) pa_nil)) (pa_cons (Y.pcall T.d__law_is_name (ok__law_is_name T) (hr.mono (by decide)) (pa_cons (pv 0) pa_nil)) pa_nil))))) (pw_or1 (pt_not (pt_val (Y.pcall T.d__law_says (ok__law_says T) (hr.mono (by decide)) (pa_cons (Y.pcall T.d_is_form (ok_is_form T B) (hr.mono (by decide)) (pa_cons (pv 0) pa_nil)) (pa_cons (Y.pcall T.d__law_is_form (ok__law_is_form T) (hr.mono (by decide)) (pa_cons (pv 0) pa_nil)) pa_nil))))))))
      (pss_one (ps_ret pe_bl))
      pss_nil)
    (pss_cons (ps_set (i := 1) sc__law_holds.nd rfl (Or.inl rfl) (Y.pcall T.d__law_forms (ok__law_forms T) (hr.mono (by decide)) (pa_cons (pv 0) pa_nil)))
    (Evl.pss_cut (ps_if (pt_cmpR Y.op_isNone (pv 1) pe_non (nomark _))
      (pss_one (ps_ret (Y.pcall T.d__law_refused (ok__law_refused T B) (hr.mono (by decide)) (pa_cons (pv 0) pa_nil))))
      pss_nil)
    (pss_cons (ps_set (i := 2) sc__law_holds.nd rfl (Or.inl rfl) (Yh.pcallN T.d_split_text (ok_split_text T B) (hr.mono (by decide)) (pa_cons (pv 0) pa_nil)))
    (Evl.pss_cut (ps_if (pt_not (pt_val (Y.pcall T.d__law_same (ok__law_sameL T) (hr.mono (by decide)) (pa_cons (pv 2) (pa_cons (pv 1) pa_nil)))))
      (pss_one (ps_ret pe_bl))
      pss_nil)
    (pss_cons (ps_expr (pe_bm PySem.F.plainAttrs_list PySem.F.slot_list_append PySem.F.type_list_append mt_append (pv 2) (pa_cons pe_str pa_nil)))
    (pss_cons (ps_expr (pe_bm0 PySem.F.plainAttrs_list PySem.F.slot_list_reverse PySem.F.type_list_reverse mt_reverse (pv 2)))
    (pss_cons (ps_set (i := 3) sc__law_holds.nd rfl (Or.inl rfl) (pe_callTy Y.call_listQ (by rfl) T.b.list (by decide +kernel) (pa_cons (pv 1) pa_nil)))
    (Evl.pss_cut (ps_if (PW.pt (pw_or (pt_not (pt_val (Y.pcall T.d__law_same (ok__law_sameS T) (hr.mono (by decide)) (pa_cons (Y.pcall T.d_join_words (ok_join_words T) (hr.mono (by decide)) (pa_cons (pv 3) pa_nil)) (pa_cons (pv 0) pa_nil))))) (pw_or1 (pt_cmpR (op_neD hr.units) (pv 3) (pv 1) (nomark _)))))
      (pss_one (ps_ret pe_bl))
      pss_nil)
    (pss_one (ps_ret (Y.pcall T.d__law_same (ok__law_sameL T) (hr.mono (by decide)) (pa_cons (Yh.pcallN T.d_split_text (ok_split_text T B) (hr.mono (by decide)) (pa_cons (pv 0) pa_nil)) (pa_cons (pv 1) pa_nil)))))))))))))), ?_⟩
    refine Y.st (σ := [some (.str z), none, none, none]) rfl ?_
    refine Y.cut (fun σ' H' => σ' = [some (.str z), none, none, none] ∧ (∀ T, But T H H')) ?_ fun σ1 H1 ⟨e1, b1⟩ => ?_
    · walk_at "rds"
      refine ⟨z, rfl, by omega, hT, fun H1 b1 => ?_⟩
      walk_at "rds"
      refine ⟨z, rfl, by omega, ?_⟩
      walk_at "rds"
      refine ⟨_, _, rfl, ?_⟩
      walk_at "rds"
      refine Y.iteN (fun e => absurd rfl e) (fun _ => ?_)
      walk_at "rds"
      refine ⟨z, rfl, by omega, (b1 []).tab _ hT2, fun H2 b2 => ?_⟩
      walk_at "rds"
      refine ⟨z, rfl, ?_⟩
      walk_at "rds"
      refine ⟨_, _, rfl, ?_⟩
      walk_at "rds"
      refine Y.iteN (fun e => absurd rfl e) (fun _ => ?_)
      walk_at "rds"
      exact ⟨rfl, fun T => (b1 T).trans (b2 T)⟩
    · rw [e1]
      walk_at "rds"
      cases hp : pieces z with
      | none =>
        refine ⟨z, rfl, hz, fun ws e => (by rw [hp] at e; cases e), fun _ H2 b2 => ?_⟩
        have b3 : ∀ T, But T H H2 := fun T => (b1 T).trans (b2 T)
        walk_at "rds"
        refine Y.cut (fun _ _ => False) ?_ fun _ _ z => z.elim
        walk_at "rds"
        refine Y.iteD (fun _ => ?_) (fun e => absurd rfl e)
        walk_at "rds"
        exact ⟨z, rfl, hz, (b3 []).tab _ hT2, hp, fun H3 b4 => q H3 fun T => (b3 T).trans (b4 T)⟩
      | some ws =>
        obtain ⟨hj, hwl, hwp⟩ := pieces_facts hz hp
        refine ⟨z, rfl, hz, fun ws' e l H2 nl b2 hl2 => ?_, fun e => (by rw [hp] at e; cases e)⟩
        rw [hp] at e
        cases e
        have b3 : ∀ T, But T H H2 := fun T => (b1 T).trans (b2 T)
        walk_at "rds"
        refine Y.cutR ?_ ?_
        · walk_at "rds"
          refine Y.iteD (fun e => by cases e) (fun _ => ⟨rfl, rfl⟩)
        · walk_at "rds"
          refine ⟨z, rfl, hz, (b3 []).tab _ hT2, fun ws' e t H3 nt b4 ht3 => ?_, fun e => (by rw [hp] at e; cases e)⟩
          rw [hp] at e
          cases e
          have hl3 := (b4 []).lst hl2 (by simp)
          have hlt : l ≠ t := ne_of_none hl2 nt
          walk_at "rds"
          refine Y.cutR ?_ ?_
          · walk_at "rds"
            refine ⟨t, l, ws, ws, rfl, ht3, hl3, by omega, ?_⟩
            walk_at "rds"
            refine Y.iteN (fun e => absurd rfl e) (fun _ => ⟨rfl, rfl⟩)
          · walk_at "rds"
            refine Y.tyL (.inl (.inl ht3)) ?_
            walk_at "rds"
            refine Y.app ht3 (by rw [List.length_map]; exact Nat.lt_of_lt_of_le (show ws.length < 2000 by omega) (by decide)) fun H4 ht4 b5 => ?_
            have hl4 := (b5 [t] (by simp)).lst hl3 (not1 hlt)
            walk_at "rds"
            refine Y.tyL (.inl (.inl ht4)) ?_
            refine Y.rev ht4 fun H5 ht5 b6 => ?_
            have hl5 := (b6 [t] (by simp)).lst hl4 (not1 hlt)
            have b7 : ∀ T, But T H H5 := fun T => (((b3 T).trans (b4 T)).own ((b3 []).free nt) (b5 [t] (by simp))).own ((b3 []).free nt) (b6 [t] (by simp))
            walk_at "rds"
            refine Y.listL (.inl (.inl hl5)) fun p np => ?_
            obtain ⟨H6, e6, hp6, b8⟩ := Y.gen (o := .lst (ws.map V.str)) np
            rw [e6]
            have hl6 := (b8 []).lst hl5 (by simp)
            have hsh := strs_shaped hwp
            walk_at "rds"
            refine Y.cutR ?_ ?_
            · walk_at "rds"
              have hsum := sum_le (m := 1000) hwp
              refine ⟨p, ws, rfl, .inl (.inl hp6), by omega, ?_⟩
              walk_at "rds"
              refine ⟨_, _, rfl, ?_⟩
              walk_at "rds"
              refine Y.iteN (fun e => absurd hj e) (fun _ => ?_)
              walk_at "rds"
              refine Y.neD (.lst (.inl (.inl hp6)) (strs_dp ws)) (.lst (.inl (.inl hl6)) (strs_dp ws)) hsh hsh ?_
              walk_at "rds"
              rw [SeqAt.eqv_refl _ (SeqAt.canLay_of_shaped hsh)]
              exact L2.iteF ⟨rfl, rfl⟩
            · walk_at "rds"
              have b9 : ∀ T, But T H H6 := fun T => (b7 T).trans (b8 T)
              refine ⟨z, rfl, hz, (b9 []).tab _ hT2, fun ws' e t2 H7 nt2 b10 ht7 => ?_, fun e => (by rw [hp] at e; cases e)⟩
              rw [hp] at e
              cases e
              walk_at "rds"
              refine ⟨t2, l, ws, ws, rfl, ht7, (b10 []).lst hl6 (by simp), by omega, ?_⟩
              rw [decide_eq_true rfl]
              exact q H7 fun T => (b9 T).trans (b10 T)
def sp_law (K : PySem.W.Frag) (P P2 : Addr) : Sp := fun vs H Q _ => ∃ (a : Addr) (ns : List Int), vs = [.ref a] ∧ SqL K H a (ns.map V.int) ∧ ns.length ≤ 63 ∧ GxR.TabG H P ∧ GxR.TabG H P2 ∧ ∀ H', Q (.bl true) H'
theorem ok_law (T : Tx K mg) (B : Tb T base) : FnOk P w K mg base CX0 6 T.f_law T.v_law ["script"] (sp_law K T.p_is_name T.p_is_form) := by
  refine T.d_law.F.ok sc_law (fun vs H Q E h => ?_) (fun cdv A outer s H vs Q E hr h => ?_)
  · obtain ⟨a, ns, rfl, _⟩ := h
    rfl
  · obtain ⟨a, ns, rfl, hS, hn, hT, hT2, q⟩ := h
    refine ⟨_, (pss_cons (ps_for PassesOwn.never rfl (pi_range1 (by rfl) T.b.range (pa_cons (pe_callB (Y.call_maxI rfl) (by rfl) T.b.max (by decide +kernel) (pa_cons pe_int (pa_cons (pe_callB (Y.call_minI rfl) (by rfl) T.b.min (by decide +kernel) (pa_cons (pe_callB Y.call_lenQ (by rfl) T.b.len (by decide +kernel) (pa_cons (pv 0) pa_nil)) (pa_cons pe_int pa_nil))) pa_nil))) pa_nil)) (pg_name (i := 1) sc_law.nd rfl (Or.inl rfl))
      (pss_cons (ps_set (i := 2) sc_law.nd rfl (Or.inl rfl) (Y.pcall T.d__law_tape (ok__law_tape T) (hr.mono (by decide)) (pa_cons (pv 0) (pa_cons (pv 1) pa_nil))))
      (pss_one (ps_if (pt_not (pt_val (Y.pcall T.d__law_holds (ok__law_holds T B) (hr.mono (by decide)) (pa_cons (Y.pcall T.d__law_spoilt (ok__law_spoilt T) (hr.mono (by decide)) (pa_cons (pv 2) (pa_cons (Y.pcall T.d__law_string (ok__law_string T) (hr.mono (by decide)) (pa_cons (pv 2) pa_nil)) pa_nil))) pa_nil))))
        (pss_one (ps_ret pe_bl))
        pss_nil))))
    (pss_one (ps_ret pe_bl))), ?_⟩
    refine Y.st (σ := [some (.ref a), none, none]) rfl ?_
    walk_at "rds"
    refine Y.lenL hS ?_
    walk_at "rds"
    rw [List.length_map]
    refine Y.rngI (by split <;> split <;> omega) (by split <;> split <;> omega) ?_
    refine Y.loopR (fun i σ' H' => (∃ v v2, σ' = [some (.ref a), v, v2]) ∧ (∀ T, But T H H')) ⟨⟨_, _, rfl⟩, fun _ => But.refl H⟩ (fun i σ' H' hi ⟨⟨v, v2, e⟩, b1⟩ => ?_) (fun σ' H' ⟨⟨v, v2, e⟩, b1⟩ => ?_)
    · subst e
      walk_at "rds"
      refine ⟨a, ns, i, rfl, (b1 []).seq hS (by simp), fun t H2 nt ht2 b2 => ?_⟩
      have n0 := (b1 []).free nt
      walk_at "rds"
      refine ⟨t, rfl, ht2, fun out H3 hp ht3 b3 => ?_⟩
      walk_at "rds"
      refine ⟨t, out, rfl, ht3, hp, fun out2 H4 hp2 ht4 b4 => ?_⟩
      have b5 : ∀ T, But T H H4 := fun T => ((b1 T).trans (b2 T)).own n0 (b3.trans b4)
      walk_at "rds"
      refine ⟨out2, rfl, hp2, (b5 []).tab _ hT, (b5 []).tab _ hT2, fun H5 b6 => ?_⟩
      walk_at "rds"
      exact ⟨⟨_, _, rfl⟩, fun T => (b5 T).trans (b6 T)⟩
    · subst e
      walk_at "rds"
      exact q H'
end
end K1


namespace K1
open PySem PySem.Spec PyProof.Rows L2
open Y (But DefAt)
/-! ## what the top has written -/
/-- the code of a def and its table, at the law's entry -/
theorem tab_at {q : Program} {loose : List Str} {mean : PySem.ExcName → Option Value} {mg mb : Str → Option Value} {h : Heap} {K : PySem.W.Frag} {x : Str} {c P : Addr} (T : PyProof.Rows.Top q loose mean mg mb h) (X : K.In h) (hr : ((PyProof.Rows.recsOf q).any fun e => e.name == x) = true) (ht : PySem.W.tabIn K x = some (c, P)) :
    PySem.W.CodeHd h c P ∧ h.get? P = some { cls := .none, data := .fields #[] } := by
  cases hf : (PyProof.Rows.recsOf q).find? (fun e => e.name == x) with
  | none =>
    obtain ⟨d, hm, hn⟩ := List.any_eq_true.mp hr
    exact absurd hn (List.find?_eq_none.mp hf d hm)
  | some d => exact PySem.W.tab_of T X hf ht
theorem tab_in {K : PySem.W.Frag} {x : Str} {f c P : Addr} {oc od' : Value} {od on : Option Addr} {sl os : Array (Option Value)} {fd : FuncData} {vs : Array Value} (a : PySem.W.nsIn K mainGlobals x = some (some (.ref f)))
    (l : K.lookup f = some ⟨oc, od, .func fd, sl⟩) (e : fd.code = .ref c) (t : K.lookup c = some ⟨od', on, .fields vs, os⟩) (v : (vs[11]? : Option Value) = some (.ref P)) : PySem.W.tabIn K x = some (c, P) := by
  unfold PySem.W.tabIn
  rw [a]
  dsimp only
  rw [l]
  dsimp only
  rw [e]
  dsimp only
  rw [t]
  dsimp only
  rw [v]
theorem all_mk {l : PySem.W.OpenLaw} {q : Program} {loose : List Str} {w : World} {K : PySem.W.Frag} {h : Heap} {mean : PySem.ExcName → Option Value} {mg mb : Str → Option Value} {fa : Addr} (TT : PyProof.Rows.Top q loose mean mg mb h) (X : K.In h) (hfa : mg "law" = some (.ref fa))
    {f_is_letter : Addr} {oc_is_letter kV_is_letter dc_is_letter pm_is_letter cd_is_letter ct_is_letter : Value} {od_is_letter an_is_letter : Option Addr} {sl_is_letter : Array (Option Value)} {f_is_name : Addr} {oc_is_name kV_is_name dc_is_name pm_is_name cd_is_name ct_is_name : Value} {od_is_name an_is_name : Option Addr} {sl_is_name : Array (Option Value)} {f_is_form : Addr} {oc_is_form kV_is_form dc_is_form pm_is_form cd_is_form ct_is_form : Value} {od_is_form an_is_form : Option Addr} {sl_is_form : Array (Option Value)} {f_split_text : Addr} {oc_split_text kV_split_text dc_split_text pm_split_text cd_split_text ct_split_text : Value} {od_split_text an_split_text : Option Addr} {sl_split_text : Array (Option Value)} {f_join_words : Addr} {oc_join_words kV_join_words dc_join_words pm_join_words cd_join_words ct_join_words : Value} {od_join_words an_join_words : Option Addr} {sl_join_words : Array (Option Value)} {f__law_tape : Addr} {oc__law_tape kV__law_tape dc__law_tape pm__law_tape cd__law_tape ct__law_tape : Value} {od__law_tape an__law_tape : Option Addr} {sl__law_tape : Array (Option Value)} {f__law_take : Addr} {oc__law_take kV__law_take dc__law_take pm__law_take cd__law_take ct__law_take : Value} {od__law_take an__law_take : Option Addr} {sl__law_take : Array (Option Value)} {f__law_pick : Addr} {oc__law_pick kV__law_pick dc__law_pick pm__law_pick cd__law_pick ct__law_pick : Value} {od__law_pick an__law_pick : Option Addr} {sl__law_pick : Array (Option Value)} {f__law_says : Addr} {oc__law_says kV__law_says dc__law_says pm__law_says cd__law_says ct__law_says : Value} {od__law_says an__law_says : Option Addr} {sl__law_says : Array (Option Value)} {f__law_same : Addr} {oc__law_same kV__law_same dc__law_same pm__law_same cd__law_same ct__law_same : Value} {od__law_same an__law_same : Option Addr} {sl__law_same : Array (Option Value)} {f__law_chars : Addr} {oc__law_chars kV__law_chars dc__law_chars pm__law_chars cd__law_chars ct__law_chars : Value} {od__law_chars an__law_chars : Option Addr} {sl__law_chars : Array (Option Value)} {f__law_word : Addr} {oc__law_word kV__law_word dc__law_word pm__law_word cd__law_word ct__law_word : Value} {od__law_word an__law_word : Option Addr} {sl__law_word : Array (Option Value)} {f__law_string : Addr} {oc__law_string kV__law_string dc__law_string pm__law_string cd__law_string ct__law_string : Value} {od__law_string an__law_string : Option Addr} {sl__law_string : Array (Option Value)} {f__law_spoilt : Addr} {oc__law_spoilt kV__law_spoilt dc__law_spoilt pm__law_spoilt cd__law_spoilt ct__law_spoilt : Value} {od__law_spoilt an__law_spoilt : Option Addr} {sl__law_spoilt : Array (Option Value)} {f__law_consists : Addr} {oc__law_consists kV__law_consists dc__law_consists pm__law_consists cd__law_consists ct__law_consists : Value} {od__law_consists an__law_consists : Option Addr} {sl__law_consists : Array (Option Value)} {f__law_is_name : Addr} {oc__law_is_name kV__law_is_name dc__law_is_name pm__law_is_name cd__law_is_name ct__law_is_name : Value} {od__law_is_name an__law_is_name : Option Addr} {sl__law_is_name : Array (Option Value)} {f__law_is_form : Addr} {oc__law_is_form kV__law_is_form dc__law_is_form pm__law_is_form cd__law_is_form ct__law_is_form : Value} {od__law_is_form an__law_is_form : Option Addr} {sl__law_is_form : Array (Option Value)} {f__law_forms : Addr} {oc__law_forms kV__law_forms dc__law_forms pm__law_forms cd__law_forms ct__law_forms : Value} {od__law_forms an__law_forms : Option Addr} {sl__law_forms : Array (Option Value)} {f__law_refused : Addr} {oc__law_refused kV__law_refused dc__law_refused pm__law_refused cd__law_refused ct__law_refused : Value} {od__law_refused an__law_refused : Option Addr} {sl__law_refused : Array (Option Value)} {f__law_holds : Addr} {oc__law_holds kV__law_holds dc__law_holds pm__law_holds cd__law_holds ct__law_holds : Value} {od__law_holds an__law_holds : Option Addr} {sl__law_holds : Array (Option Value)} {f_law : Addr} {oc_law kV_law dc_law pm_law cd_law ct_law : Value} {od_law an_law : Option Addr} {sl_law : Array (Option Value)} {tLN : Tok} {cc_is_name pp_is_name : Addr} {ob_is_name : Value} {on_is_name : Option Addr} {os_is_name : Array (Option Value)} {vs_is_name : Array Value} {cc_is_form pp_is_form : Addr} {ob_is_form : Value} {on_is_form : Option Addr} {os_is_form : Array (Option Value)} {vs_is_form : Array Value} {x_BadText : Addr} {x_ReadingsError : Addr} {x_BadForest : Addr} {x_BadGrammar : Addr} {x_BadLine : Addr} {x_BadName : Addr} {x_Duplicate : Addr} {x_NoGrowth : Addr} {x_NoReading : Addr} {x_Ring : Addr} {x_Unknown : Addr}
    (a_is_letter : PySem.W.nsIn K mainGlobals "is_letter" = some (some (.ref f_is_letter)))
    (l_is_letter : K.lookup f_is_letter = some ⟨oc_is_letter, od_is_letter, .func (PySem.W.fnOf "is_letter" "is_letter" (defArgs s_is_letter) (defBody s_is_letter) (defScope s_is_letter) .none kV_is_letter dc_is_letter pm_is_letter an_is_letter cd_is_letter ct_is_letter), sl_is_letter⟩)
    (c_is_letter : PySem.W.codeIn K cd_is_letter "is_letter" = true)
    (k_is_letter : PySem.W.keepIn K (.ref f_is_letter) = true)
    (a_is_name : PySem.W.nsIn K mainGlobals "is_name" = some (some (.ref f_is_name)))
    (l_is_name : K.lookup f_is_name = some ⟨oc_is_name, od_is_name, .func (PySem.W.fnOf "is_name" "is_name" (defArgs s_is_name) (defBody s_is_name) (defScope s_is_name) .none kV_is_name dc_is_name pm_is_name an_is_name cd_is_name ct_is_name), sl_is_name⟩)
    (c_is_name : PySem.W.codeIn K cd_is_name "is_name" = true)
    (k_is_name : PySem.W.keepIn K (.ref f_is_name) = true)
    (a_is_form : PySem.W.nsIn K mainGlobals "is_form" = some (some (.ref f_is_form)))
    (l_is_form : K.lookup f_is_form = some ⟨oc_is_form, od_is_form, .func (PySem.W.fnOf "is_form" "is_form" (defArgs s_is_form) (defBody s_is_form) (defScope s_is_form) .none kV_is_form dc_is_form pm_is_form an_is_form cd_is_form ct_is_form), sl_is_form⟩)
    (c_is_form : PySem.W.codeIn K cd_is_form "is_form" = true)
    (k_is_form : PySem.W.keepIn K (.ref f_is_form) = true)
    (a_split_text : PySem.W.nsIn K mainGlobals "split_text" = some (some (.ref f_split_text)))
    (l_split_text : K.lookup f_split_text = some ⟨oc_split_text, od_split_text, .func (PySem.W.fnOf "split_text" "split_text" (defArgs s_split_text) (defBody s_split_text) (defScope s_split_text) .none kV_split_text dc_split_text pm_split_text an_split_text cd_split_text ct_split_text), sl_split_text⟩)
    (c_split_text : PySem.W.codeIn K cd_split_text "split_text" = true)
    (k_split_text : PySem.W.keepIn K (.ref f_split_text) = true)
    (a_join_words : PySem.W.nsIn K mainGlobals "join_words" = some (some (.ref f_join_words)))
    (l_join_words : K.lookup f_join_words = some ⟨oc_join_words, od_join_words, .func (PySem.W.fnOf "join_words" "join_words" (defArgs s_join_words) (defBody s_join_words) (defScope s_join_words) .none kV_join_words dc_join_words pm_join_words an_join_words cd_join_words ct_join_words), sl_join_words⟩)
    (c_join_words : PySem.W.codeIn K cd_join_words "join_words" = true)
    (k_join_words : PySem.W.keepIn K (.ref f_join_words) = true)
    (a__law_tape : PySem.W.nsIn K mainGlobals "_law_tape" = some (some (.ref f__law_tape)))
    (l__law_tape : K.lookup f__law_tape = some ⟨oc__law_tape, od__law_tape, .func (PySem.W.fnOf "_law_tape" "_law_tape" (defArgs s__law_tape) (defBody s__law_tape) (defScope s__law_tape) .none kV__law_tape dc__law_tape pm__law_tape an__law_tape cd__law_tape ct__law_tape), sl__law_tape⟩)
    (c__law_tape : PySem.W.codeIn K cd__law_tape "_law_tape" = true)
    (k__law_tape : PySem.W.keepIn K (.ref f__law_tape) = true)
    (a__law_take : PySem.W.nsIn K mainGlobals "_law_take" = some (some (.ref f__law_take)))
    (l__law_take : K.lookup f__law_take = some ⟨oc__law_take, od__law_take, .func (PySem.W.fnOf "_law_take" "_law_take" (defArgs s__law_take) (defBody s__law_take) (defScope s__law_take) .none kV__law_take dc__law_take pm__law_take an__law_take cd__law_take ct__law_take), sl__law_take⟩)
    (c__law_take : PySem.W.codeIn K cd__law_take "_law_take" = true)
    (k__law_take : PySem.W.keepIn K (.ref f__law_take) = true)
    (a__law_pick : PySem.W.nsIn K mainGlobals "_law_pick" = some (some (.ref f__law_pick)))
    (l__law_pick : K.lookup f__law_pick = some ⟨oc__law_pick, od__law_pick, .func (PySem.W.fnOf "_law_pick" "_law_pick" (defArgs s__law_pick) (defBody s__law_pick) (defScope s__law_pick) .none kV__law_pick dc__law_pick pm__law_pick an__law_pick cd__law_pick ct__law_pick), sl__law_pick⟩)
    (c__law_pick : PySem.W.codeIn K cd__law_pick "_law_pick" = true)
    (k__law_pick : PySem.W.keepIn K (.ref f__law_pick) = true)
    (a__law_says : PySem.W.nsIn K mainGlobals "_law_says" = some (some (.ref f__law_says)))
    (l__law_says : K.lookup f__law_says = some ⟨oc__law_says, od__law_says, .func (PySem.W.fnOf "_law_says" "_law_says" (defArgs s__law_says) (defBody s__law_says) (defScope s__law_says) .none kV__law_says dc__law_says pm__law_says an__law_says cd__law_says ct__law_says), sl__law_says⟩)
    (c__law_says : PySem.W.codeIn K cd__law_says "_law_says" = true)
    (k__law_says : PySem.W.keepIn K (.ref f__law_says) = true)
    (a__law_same : PySem.W.nsIn K mainGlobals "_law_same" = some (some (.ref f__law_same)))
    (l__law_same : K.lookup f__law_same = some ⟨oc__law_same, od__law_same, .func (PySem.W.fnOf "_law_same" "_law_same" (defArgs s__law_same) (defBody s__law_same) (defScope s__law_same) .none kV__law_same dc__law_same pm__law_same an__law_same cd__law_same ct__law_same), sl__law_same⟩)
    (c__law_same : PySem.W.codeIn K cd__law_same "_law_same" = true)
    (k__law_same : PySem.W.keepIn K (.ref f__law_same) = true)
    (a__law_chars : PySem.W.nsIn K mainGlobals "_law_chars" = some (some (.ref f__law_chars)))
    (l__law_chars : K.lookup f__law_chars = some ⟨oc__law_chars, od__law_chars, .func (PySem.W.fnOf "_law_chars" "_law_chars" (defArgs s__law_chars) (defBody s__law_chars) (defScope s__law_chars) .none kV__law_chars dc__law_chars pm__law_chars an__law_chars cd__law_chars ct__law_chars), sl__law_chars⟩)
    (c__law_chars : PySem.W.codeIn K cd__law_chars "_law_chars" = true)
    (k__law_chars : PySem.W.keepIn K (.ref f__law_chars) = true)
    (a__law_word : PySem.W.nsIn K mainGlobals "_law_word" = some (some (.ref f__law_word)))
    (l__law_word : K.lookup f__law_word = some ⟨oc__law_word, od__law_word, .func (PySem.W.fnOf "_law_word" "_law_word" (defArgs s__law_word) (defBody s__law_word) (defScope s__law_word) .none kV__law_word dc__law_word pm__law_word an__law_word cd__law_word ct__law_word), sl__law_word⟩)
    (c__law_word : PySem.W.codeIn K cd__law_word "_law_word" = true)
    (k__law_word : PySem.W.keepIn K (.ref f__law_word) = true)
    (a__law_string : PySem.W.nsIn K mainGlobals "_law_string" = some (some (.ref f__law_string)))
    (l__law_string : K.lookup f__law_string = some ⟨oc__law_string, od__law_string, .func (PySem.W.fnOf "_law_string" "_law_string" (defArgs s__law_string) (defBody s__law_string) (defScope s__law_string) .none kV__law_string dc__law_string pm__law_string an__law_string cd__law_string ct__law_string), sl__law_string⟩)
    (c__law_string : PySem.W.codeIn K cd__law_string "_law_string" = true)
    (k__law_string : PySem.W.keepIn K (.ref f__law_string) = true)
    (a__law_spoilt : PySem.W.nsIn K mainGlobals "_law_spoilt" = some (some (.ref f__law_spoilt)))
    (l__law_spoilt : K.lookup f__law_spoilt = some ⟨oc__law_spoilt, od__law_spoilt, .func (PySem.W.fnOf "_law_spoilt" "_law_spoilt" (defArgs s__law_spoilt) (defBody s__law_spoilt) (defScope s__law_spoilt) .none kV__law_spoilt dc__law_spoilt pm__law_spoilt an__law_spoilt cd__law_spoilt ct__law_spoilt), sl__law_spoilt⟩)
    (c__law_spoilt : PySem.W.codeIn K cd__law_spoilt "_law_spoilt" = true)
    (k__law_spoilt : PySem.W.keepIn K (.ref f__law_spoilt) = true)
    (a__law_consists : PySem.W.nsIn K mainGlobals "_law_consists" = some (some (.ref f__law_consists)))
    (l__law_consists : K.lookup f__law_consists = some ⟨oc__law_consists, od__law_consists, .func (PySem.W.fnOf "_law_consists" "_law_consists" (defArgs s__law_consists) (defBody s__law_consists) (defScope s__law_consists) .none kV__law_consists dc__law_consists pm__law_consists an__law_consists cd__law_consists ct__law_consists), sl__law_consists⟩)
    (c__law_consists : PySem.W.codeIn K cd__law_consists "_law_consists" = true)
    (k__law_consists : PySem.W.keepIn K (.ref f__law_consists) = true)
    (a__law_is_name : PySem.W.nsIn K mainGlobals "_law_is_name" = some (some (.ref f__law_is_name)))
    (l__law_is_name : K.lookup f__law_is_name = some ⟨oc__law_is_name, od__law_is_name, .func (PySem.W.fnOf "_law_is_name" "_law_is_name" (defArgs s__law_is_name) (defBody s__law_is_name) (defScope s__law_is_name) .none kV__law_is_name dc__law_is_name pm__law_is_name an__law_is_name cd__law_is_name ct__law_is_name), sl__law_is_name⟩)
    (c__law_is_name : PySem.W.codeIn K cd__law_is_name "_law_is_name" = true)
    (k__law_is_name : PySem.W.keepIn K (.ref f__law_is_name) = true)
    (a__law_is_form : PySem.W.nsIn K mainGlobals "_law_is_form" = some (some (.ref f__law_is_form)))
    (l__law_is_form : K.lookup f__law_is_form = some ⟨oc__law_is_form, od__law_is_form, .func (PySem.W.fnOf "_law_is_form" "_law_is_form" (defArgs s__law_is_form) (defBody s__law_is_form) (defScope s__law_is_form) .none kV__law_is_form dc__law_is_form pm__law_is_form an__law_is_form cd__law_is_form ct__law_is_form), sl__law_is_form⟩)
    (c__law_is_form : PySem.W.codeIn K cd__law_is_form "_law_is_form" = true)
    (k__law_is_form : PySem.W.keepIn K (.ref f__law_is_form) = true)
    (a__law_forms : PySem.W.nsIn K mainGlobals "_law_forms" = some (some (.ref f__law_forms)))
    (l__law_forms : K.lookup f__law_forms = some ⟨oc__law_forms, od__law_forms, .func (PySem.W.fnOf "_law_forms" "_law_forms" (defArgs s__law_forms) (defBody s__law_forms) (defScope s__law_forms) .none kV__law_forms dc__law_forms pm__law_forms an__law_forms cd__law_forms ct__law_forms), sl__law_forms⟩)
    (c__law_forms : PySem.W.codeIn K cd__law_forms "_law_forms" = true)
    (k__law_forms : PySem.W.keepIn K (.ref f__law_forms) = true)
    (a__law_refused : PySem.W.nsIn K mainGlobals "_law_refused" = some (some (.ref f__law_refused)))
    (l__law_refused : K.lookup f__law_refused = some ⟨oc__law_refused, od__law_refused, .func (PySem.W.fnOf "_law_refused" "_law_refused" (defArgs s__law_refused) (defBody s__law_refused) (defScope s__law_refused) .none kV__law_refused dc__law_refused pm__law_refused an__law_refused cd__law_refused ct__law_refused), sl__law_refused⟩)
    (c__law_refused : PySem.W.codeIn K cd__law_refused "_law_refused" = true)
    (k__law_refused : PySem.W.keepIn K (.ref f__law_refused) = true)
    (a__law_holds : PySem.W.nsIn K mainGlobals "_law_holds" = some (some (.ref f__law_holds)))
    (l__law_holds : K.lookup f__law_holds = some ⟨oc__law_holds, od__law_holds, .func (PySem.W.fnOf "_law_holds" "_law_holds" (defArgs s__law_holds) (defBody s__law_holds) (defScope s__law_holds) .none kV__law_holds dc__law_holds pm__law_holds an__law_holds cd__law_holds ct__law_holds), sl__law_holds⟩)
    (c__law_holds : PySem.W.codeIn K cd__law_holds "_law_holds" = true)
    (k__law_holds : PySem.W.keepIn K (.ref f__law_holds) = true)
    (a_law : PySem.W.nsIn K mainGlobals "law" = some (some (.ref f_law)))
    (l_law : K.lookup f_law = some ⟨oc_law, od_law, .func (PySem.W.fnOf "law" "law" (defArgs s_law) (defBody s_law) (defScope s_law) .none kV_law dc_law pm_law an_law cd_law ct_law), sl_law⟩)
    (c_law : PySem.W.codeIn K cd_law "law" = true)
    (k_law : PySem.W.keepIn K (.ref f_law) = true)
    (z_len : PySem.W.nsIn K mainGlobals "len" = some none)
    (z_int : PySem.W.nsIn K mainGlobals "int" = some none)
    (z_abs : PySem.W.nsIn K mainGlobals "abs" = some none)
    (z_range : PySem.W.nsIn K mainGlobals "range" = some none)
    (z_isinstance : PySem.W.nsIn K mainGlobals "isinstance" = some none)
    (z_tuple : PySem.W.nsIn K mainGlobals "tuple" = some none)
    (z_list : PySem.W.nsIn K mainGlobals "list" = some none)
    (z_str : PySem.W.nsIn K mainGlobals "str" = some none)
    (z_bool : PySem.W.nsIn K mainGlobals "bool" = some none)
    (z_max : PySem.W.nsIn K mainGlobals "max" = some none)
    (z_min : PySem.W.nsIn K mainGlobals "min" = some none)
    (z_all : PySem.W.nsIn K mainGlobals "all" = some none)
    (z_any : PySem.W.nsIn K mainGlobals "any" = some none)
    (z_ValueError : PySem.W.nsIn K mainGlobals "ValueError" = some none)
    (ln : PySem.W.nsIn K mainGlobals "LONGEST_NAME" = some (some (.int 12 tLN)))
    (e_is_name : cd_is_name = .ref cc_is_name)
    (t_is_name : K.lookup cc_is_name = some ⟨ob_is_name, on_is_name, .fields vs_is_name, os_is_name⟩)
    (v_is_name : (vs_is_name[11]? : Option Value) = some (.ref pp_is_name))
    (n_is_name : K.lookup pp_is_name = none)
    (r_is_name : ((PyProof.Rows.recsOf q).any fun e => e.name == "is_name") = true)
    (e_is_form : cd_is_form = .ref cc_is_form)
    (t_is_form : K.lookup cc_is_form = some ⟨ob_is_form, on_is_form, .fields vs_is_form, os_is_form⟩)
    (v_is_form : (vs_is_form[11]? : Option Value) = some (.ref pp_is_form))
    (n_is_form : K.lookup pp_is_form = none)
    (r_is_form : ((PyProof.Rows.recsOf q).any fun e => e.name == "is_form") = true)
    (g_BadText : PySem.W.nsIn K mainGlobals "BadText" = some (some (.ref x_BadText)))
    (g_ReadingsError : PySem.W.nsIn K mainGlobals "ReadingsError" = some (some (.ref x_ReadingsError)))
    (g_BadForest : PySem.W.nsIn K mainGlobals "BadForest" = some (some (.ref x_BadForest)))
    (g_BadGrammar : PySem.W.nsIn K mainGlobals "BadGrammar" = some (some (.ref x_BadGrammar)))
    (g_BadLine : PySem.W.nsIn K mainGlobals "BadLine" = some (some (.ref x_BadLine)))
    (g_BadName : PySem.W.nsIn K mainGlobals "BadName" = some (some (.ref x_BadName)))
    (g_Duplicate : PySem.W.nsIn K mainGlobals "Duplicate" = some (some (.ref x_Duplicate)))
    (g_NoGrowth : PySem.W.nsIn K mainGlobals "NoGrowth" = some (some (.ref x_NoGrowth)))
    (g_NoReading : PySem.W.nsIn K mainGlobals "NoReading" = some (some (.ref x_NoReading)))
    (g_Ring : PySem.W.nsIn K mainGlobals "Ring" = some (some (.ref x_Ring)))
    (g_Unknown : PySem.W.nsIn K mainGlobals "Unknown" = some (some (.ref x_Unknown)))
    (q_BadText : PySem.W.excIn K x_BadText [.type "ValueError", .type "Exception", .type "BaseException", .type "object"] "ValueError.__new__" = true)
    (kk_BadText : PySem.W.keepIn K (.ref x_BadText) = true)
    (s_BT : PySem.W.subIn K (.ref x_BadText) (.type "BaseException") = some true)
    (t_BT : PySem.W.typeIn K (.ref x_BadText) = some (.type "type"))
    (h_BT : PySem.W.findIn K (.ref x_BadText) "__getattribute__" = some (some (.builtin "BaseException.__getattribute__")))
    (h2_BT : PySem.W.findIn K (.ref x_BadText) "__getattr__" = some none)
    (h3_BT : PySem.W.hasDictIn K x_BadText = true)
    (h4_BT : PySem.W.findIn K (.ref x_BadText) "__class__" = some (some (.builtin "object.__class__")))
    (h5_BT : PySem.W.specialIn K (.builtin "object.__class__") "__get__" = some (some (.builtin "getset_descriptor.__get__")))
    (h6_BT : PySem.W.takesIn K (.builtin "object.__class__") = some true)
    (h7_BT : PySem.W.mroIn K x_BadText (.type "object") = some true)
    (m_RE : PySem.W.exmOne K (.ref x_BadText) (.ref x_ReadingsError) = some true)
    (i_BadText : PySem.W.kitOne K (.ref x_BadText) (.ref x_BadText) = some true)
    (i_BadForest : PySem.W.kitOne K (.ref x_BadText) (.ref x_BadForest) = some false)
    (i_BadGrammar : PySem.W.kitOne K (.ref x_BadText) (.ref x_BadGrammar) = some false)
    (i_BadLine : PySem.W.kitOne K (.ref x_BadText) (.ref x_BadLine) = some false)
    (i_BadName : PySem.W.kitOne K (.ref x_BadText) (.ref x_BadName) = some false)
    (i_Duplicate : PySem.W.kitOne K (.ref x_BadText) (.ref x_Duplicate) = some false)
    (i_NoGrowth : PySem.W.kitOne K (.ref x_BadText) (.ref x_NoGrowth) = some false)
    (i_NoReading : PySem.W.kitOne K (.ref x_BadText) (.ref x_NoReading) = some false)
    (i_Ring : PySem.W.kitOne K (.ref x_BadText) (.ref x_Ring) = some false)
    (i_Unknown : PySem.W.kitOne K (.ref x_BadText) (.ref x_Unknown) = some false)
    (i_ValueError : PySem.W.kitOne K (.ref x_BadText) (.type "ValueError") = some true) :
    LamX.LawAtS l w K CX0 6 63 "script" mg fa h := by
  have G := TT.g
  have e := (PySem.W.mg_of X G a_law).symm.trans hfa
  cases e
  have F_is_letter := fun_mk (st := s_is_letter) l_is_letter c_is_letter k_is_letter
  have B_is_letter := F_is_letter.binds (ps := ["char"]) fun _ _ _ _ _ _ us hl => match us, hl with | [_], _ => rfl
  have F_is_name := fun_mk (st := s_is_name) l_is_name c_is_name k_is_name
  have B_is_name := F_is_name.binds (ps := ["text"]) fun _ _ _ _ _ _ us hl => match us, hl with | [_], _ => rfl
  have F_is_form := fun_mk (st := s_is_form) l_is_form c_is_form k_is_form
  have B_is_form := F_is_form.binds (ps := ["text"]) fun _ _ _ _ _ _ us hl => match us, hl with | [_], _ => rfl
  have F_split_text := fun_mk (st := s_split_text) l_split_text c_split_text k_split_text
  have B_split_text := F_split_text.binds (ps := ["text"]) fun _ _ _ _ _ _ us hl => match us, hl with | [_], _ => rfl
  have F_join_words := fun_mk (st := s_join_words) l_join_words c_join_words k_join_words
  have B_join_words := F_join_words.binds (ps := ["words"]) fun _ _ _ _ _ _ us hl => match us, hl with | [_], _ => rfl
  have F__law_tape := fun_mk (st := s__law_tape) l__law_tape c__law_tape k__law_tape
  have B__law_tape := F__law_tape.binds (ps := ["script", "k"]) fun _ _ _ _ _ _ us hl => match us, hl with | [_, _], _ => rfl
  have F__law_take := fun_mk (st := s__law_take) l__law_take c__law_take k__law_take
  have B__law_take := F__law_take.binds (ps := ["tape", "many"]) fun _ _ _ _ _ _ us hl => match us, hl with | [_, _], _ => rfl
  have F__law_pick := fun_mk (st := s__law_pick) l__law_pick c__law_pick k__law_pick
  have B__law_pick := F__law_pick.binds (ps := ["tape", "items"]) fun _ _ _ _ _ _ us hl => match us, hl with | [_, _], _ => rfl
  have F__law_says := fun_mk (st := s__law_says) l__law_says c__law_says k__law_says
  have B__law_says := F__law_says.binds (ps := ["told", "due"]) fun _ _ _ _ _ _ us hl => match us, hl with | [_, _], _ => rfl
  have F__law_same := fun_mk (st := s__law_same) l__law_same c__law_same k__law_same
  have B__law_same := F__law_same.binds (ps := ["told", "due"]) fun _ _ _ _ _ _ us hl => match us, hl with | [_, _], _ => rfl
  have F__law_chars := fun_mk (st := s__law_chars) l__law_chars c__law_chars k__law_chars
  have B__law_chars := F__law_chars.binds (ps := []) fun _ _ _ _ _ _ us hl => match us, hl with | [], _ => rfl
  have F__law_word := fun_mk (st := s__law_word) l__law_word c__law_word k__law_word
  have B__law_word := F__law_word.binds (ps := ["tape", "chars", "many"]) fun _ _ _ _ _ _ us hl => match us, hl with | [_, _, _], _ => rfl
  have F__law_string := fun_mk (st := s__law_string) l__law_string c__law_string k__law_string
  have B__law_string := F__law_string.binds (ps := ["tape"]) fun _ _ _ _ _ _ us hl => match us, hl with | [_], _ => rfl
  have F__law_spoilt := fun_mk (st := s__law_spoilt) l__law_spoilt c__law_spoilt k__law_spoilt
  have B__law_spoilt := F__law_spoilt.binds (ps := ["tape", "text"]) fun _ _ _ _ _ _ us hl => match us, hl with | [_, _], _ => rfl
  have F__law_consists := fun_mk (st := s__law_consists) l__law_consists c__law_consists k__law_consists
  have B__law_consists := F__law_consists.binds (ps := ["text", "chars"]) fun _ _ _ _ _ _ us hl => match us, hl with | [_, _], _ => rfl
  have F__law_is_name := fun_mk (st := s__law_is_name) l__law_is_name c__law_is_name k__law_is_name
  have B__law_is_name := F__law_is_name.binds (ps := ["text"]) fun _ _ _ _ _ _ us hl => match us, hl with | [_], _ => rfl
  have F__law_is_form := fun_mk (st := s__law_is_form) l__law_is_form c__law_is_form k__law_is_form
  have B__law_is_form := F__law_is_form.binds (ps := ["text"]) fun _ _ _ _ _ _ us hl => match us, hl with | [_], _ => rfl
  have F__law_forms := fun_mk (st := s__law_forms) l__law_forms c__law_forms k__law_forms
  have B__law_forms := F__law_forms.binds (ps := ["text"]) fun _ _ _ _ _ _ us hl => match us, hl with | [_], _ => rfl
  have F__law_refused := fun_mk (st := s__law_refused) l__law_refused c__law_refused k__law_refused
  have B__law_refused := F__law_refused.binds (ps := ["text"]) fun _ _ _ _ _ _ us hl => match us, hl with | [_], _ => rfl
  have F__law_holds := fun_mk (st := s__law_holds) l__law_holds c__law_holds k__law_holds
  have B__law_holds := F__law_holds.binds (ps := ["text"]) fun _ _ _ _ _ _ us hl => match us, hl with | [_], _ => rfl
  have F_law := fun_mk (st := s_law) l_law c_law k_law
  have B_law := F_law.binds (ps := ["script"]) fun _ _ _ _ _ _ us hl => match us, hl with | [_], _ => rfl
  have tn := tab_at TT X r_is_name (tab_in a_is_name l_is_name e_is_name t_is_name v_is_name)
  have tf := tab_at TT X r_is_form (tab_in a_is_form l_is_form e_is_form t_is_form v_is_form)
  let T : Tx K mg := { b := ⟨PySem.W.mg_none_of X G z_len, PySem.W.mg_none_of X G z_int, PySem.W.mg_none_of X G z_abs, PySem.W.mg_none_of X G z_range, PySem.W.mg_none_of X G z_isinstance, PySem.W.mg_none_of X G z_tuple, PySem.W.mg_none_of X G z_list, PySem.W.mg_none_of X G z_str, PySem.W.mg_none_of X G z_bool, PySem.W.mg_none_of X G z_max, PySem.W.mg_none_of X G z_min, PySem.W.mg_none_of X G z_all, PySem.W.mg_none_of X G z_any, PySem.W.mg_none_of X G z_ValueError⟩, f_is_letter := f_is_letter, v_is_letter := _, d_is_letter := ⟨F_is_letter, B_is_letter, PySem.W.mg_of X G a_is_letter⟩, f_is_name := f_is_name, v_is_name := _, d_is_name := ⟨F_is_name, B_is_name, PySem.W.mg_of X G a_is_name⟩, f_is_form := f_is_form, v_is_form := _, d_is_form := ⟨F_is_form, B_is_form, PySem.W.mg_of X G a_is_form⟩, f_split_text := f_split_text, v_split_text := _, d_split_text := ⟨F_split_text, B_split_text, PySem.W.mg_of X G a_split_text⟩, f_join_words := f_join_words, v_join_words := _, d_join_words := ⟨F_join_words, B_join_words, PySem.W.mg_of X G a_join_words⟩, f__law_tape := f__law_tape, v__law_tape := _, d__law_tape := ⟨F__law_tape, B__law_tape, PySem.W.mg_of X G a__law_tape⟩, f__law_take := f__law_take, v__law_take := _, d__law_take := ⟨F__law_take, B__law_take, PySem.W.mg_of X G a__law_take⟩, f__law_pick := f__law_pick, v__law_pick := _, d__law_pick := ⟨F__law_pick, B__law_pick, PySem.W.mg_of X G a__law_pick⟩, f__law_says := f__law_says, v__law_says := _, d__law_says := ⟨F__law_says, B__law_says, PySem.W.mg_of X G a__law_says⟩, f__law_same := f__law_same, v__law_same := _, d__law_same := ⟨F__law_same, B__law_same, PySem.W.mg_of X G a__law_same⟩, f__law_chars := f__law_chars, v__law_chars := _, d__law_chars := ⟨F__law_chars, B__law_chars, PySem.W.mg_of X G a__law_chars⟩, f__law_word := f__law_word, v__law_word := _, d__law_word := ⟨F__law_word, B__law_word, PySem.W.mg_of X G a__law_word⟩, f__law_string := f__law_string, v__law_string := _, d__law_string := ⟨F__law_string, B__law_string, PySem.W.mg_of X G a__law_string⟩, f__law_spoilt := f__law_spoilt, v__law_spoilt := _, d__law_spoilt := ⟨F__law_spoilt, B__law_spoilt, PySem.W.mg_of X G a__law_spoilt⟩, f__law_consists := f__law_consists, v__law_consists := _, d__law_consists := ⟨F__law_consists, B__law_consists, PySem.W.mg_of X G a__law_consists⟩, f__law_is_name := f__law_is_name, v__law_is_name := _, d__law_is_name := ⟨F__law_is_name, B__law_is_name, PySem.W.mg_of X G a__law_is_name⟩, f__law_is_form := f__law_is_form, v__law_is_form := _, d__law_is_form := ⟨F__law_is_form, B__law_is_form, PySem.W.mg_of X G a__law_is_form⟩, f__law_forms := f__law_forms, v__law_forms := _, d__law_forms := ⟨F__law_forms, B__law_forms, PySem.W.mg_of X G a__law_forms⟩, f__law_refused := f__law_refused, v__law_refused := _, d__law_refused := ⟨F__law_refused, B__law_refused, PySem.W.mg_of X G a__law_refused⟩, f__law_holds := f__law_holds, v__law_holds := _, d__law_holds := ⟨F__law_holds, B__law_holds, PySem.W.mg_of X G a__law_holds⟩, f_law := fa, v_law := _, d_law := ⟨F_law, B_law, PySem.W.mg_of X G a_law⟩, c_is_name := cc_is_name, p_is_name := pp_is_name, k_is_name := e_is_name, c_is_form := cc_is_form, p_is_form := pp_is_form, k_is_form := e_is_form, LONGEST_NAME := ⟨_, PySem.W.mg_of X G ln⟩, x_BadText := x_BadText, g_BadText := PySem.W.mg_of X G g_BadText, q_BadText := q_BadText, k_BadText := kk_BadText, s_BadText := s_BT, t_BadText := t_BT, e_BadText := ⟨h_BT, h2_BT, s_BT, h3_BT, h4_BT, h5_BT, h6_BT, h7_BT⟩, x_ReadingsError := x_ReadingsError, g_ReadingsError := PySem.W.mg_of X G g_ReadingsError, m_ReadingsError := m_RE, i_BadText := i_BadText, i_ValueError := i_ValueError, x_BadForest := x_BadForest, g_BadForest := PySem.W.mg_of X G g_BadForest, i_BadForest := i_BadForest, x_BadGrammar := x_BadGrammar, g_BadGrammar := PySem.W.mg_of X G g_BadGrammar, i_BadGrammar := i_BadGrammar, x_BadLine := x_BadLine, g_BadLine := PySem.W.mg_of X G g_BadLine, i_BadLine := i_BadLine, x_BadName := x_BadName, g_BadName := PySem.W.mg_of X G g_BadName, i_BadName := i_BadName, x_Duplicate := x_Duplicate, g_Duplicate := PySem.W.mg_of X G g_Duplicate, i_Duplicate := i_Duplicate, x_NoGrowth := x_NoGrowth, g_NoGrowth := PySem.W.mg_of X G g_NoGrowth, i_NoGrowth := i_NoGrowth, x_NoReading := x_NoReading, g_NoReading := PySem.W.mg_of X G g_NoReading, i_NoReading := i_NoReading, x_Ring := x_Ring, g_Ring := PySem.W.mg_of X G g_Ring, i_Ring := i_Ring, x_Unknown := x_Unknown, g_Unknown := PySem.W.mg_of X G g_Unknown, i_Unknown := i_Unknown }
  refine ⟨_, [(cc_is_name, pp_is_name), (cc_is_form, pp_is_form)], sp_law K pp_is_name pp_is_form, fun p hp => ?_, fun p hp => ?_, fun p hp => ?_, fun s v => .of_eq rfl, fun H a ns hl _ hT hS => ?_, fun base _ _ hB => ok_law T ⟨?_, ?_⟩⟩
  · rcases List.mem_cons.mp hp with e | hp
    · rw [e]
      exact tn.2
    · rw [List.mem_singleton.mp hp]
      exact tf.2
  · rcases List.mem_cons.mp hp with e | hp
    · rw [e]
      exact n_is_name
    · rw [List.mem_singleton.mp hp]
      exact n_is_form
  · rcases List.mem_cons.mp hp with e | hp
    · rw [e]
      exact tn.1
    · rw [List.mem_singleton.mp hp]
      exact tf.1
  · exact ⟨a, ns, rfl, hS, hl, ⟨#[], hT _ List.mem_cons_self, trivial⟩, ⟨#[], hT _ (List.mem_cons_of_mem _ List.mem_cons_self), trivial⟩, fun _ => rfl⟩
  · obtain ⟨t1, t2, t3⟩ := hB (cc_is_name, pp_is_name) List.mem_cons_self
    exact ⟨t1, t2, t3⟩
  · obtain ⟨t1, t2, t3⟩ := hB (cc_is_form, pp_is_form) (List.mem_cons_of_mem _ List.mem_cons_self)
    exact ⟨t1, t2, t3⟩
/-- the end, the top's own table of facts at hand -/
theorem walk_top {l : PySem.W.OpenLaw} {n k : Nat} {q : Program} {loose : List Str} {XP : (Str → Option Value) → Heap → Prop} {YP : World → Heap → Prop} {d : DefRec} {K : Params → PySem.W.Frag} {x : Str} (hn : l.most = some n) (hn2 : n ≤ sizeLine) (hdf : d.params.defaults = []) (hr : Room k callerA)
    (hY : ∀ (w : World) (h : Heap), YP w h → (K w.params).In h)
    (F : ∀ (w : World) (mean : PySem.ExcName → Option Value) (mg mb : Str → Option Value) (fa : Addr) (h : Heap), (K w.params).In h → PyProof.Rows.Top q (PySem.W.looseW q loose) mean mg mb h → mg d.name = some (.ref fa) → LamX.LawAtS l w (K w.params) CX0 k n x mg fa h) :
    PySem.W.WalkO q loose XP YP l.row.toRowW d [] (fun f vs => PySem.call f vs) := by
  refine Att.attach_callB hn hdf fun w s₀ s₁ mg mb fa o pm cd doc a vs ns G Y ho hd hcd hmg hobj hints hlen hbits hg => ?_
  have KX := hY w _ Y
  obtain ⟨fd, cs, sp, hT, nT, C, hb, hsp, hF⟩ := F w _ mg mb fa _ KX G.T hmg
  exact LamX.law_callTs KX G.T.g G.T.b G.T.builtins G.T.nolimit hg hT nT C G.T.bmain hobj hints (Nat.le_trans hlen hn2) hr hF hb (fun H hH hS => hsp H a ns hlen hbits hH hS) fun _ _ _ z => z
end K1
open PySem PySem.W PyProof.Rows
set_option maxRecDepth 100000 in
set_option maxHeartbeats 0 in
theorem PySem.Challenge.cw_readingsall_k01_names_and_texts_holds : PySem.Challenge.rw_readingsall_k01_names_and_texts.Holds := by
  w_on; o_law; k_head; (case hw => w_witness2)
  k_fill
  refine K1.walk_top (l := PySem.Challenge.rw_readingsall_k01_names_and_texts) (n := 63) (k := 6) (x := "script") rfl (by decide) rfl ⟨rfl, by decide, by decide⟩ (fun w h Y => PySem.W.kIn_of Y) ?F
  case F =>
    intro w mean mg mb fa h KX TT hmg
    refine' K1.all_mk TT KX hmg ?a_is_letter ?l_is_letter ?c_is_letter ?k_is_letter ?a_is_name ?l_is_name ?c_is_name ?k_is_name ?a_is_form ?l_is_form ?c_is_form ?k_is_form ?a_split_text ?l_split_text ?c_split_text ?k_split_text ?a_join_words ?l_join_words ?c_join_words ?k_join_words ?a__law_tape ?l__law_tape ?c__law_tape ?k__law_tape ?a__law_take ?l__law_take ?c__law_take ?k__law_take ?a__law_pick ?l__law_pick ?c__law_pick ?k__law_pick ?a__law_says ?l__law_says ?c__law_says ?k__law_says ?a__law_same ?l__law_same ?c__law_same ?k__law_same ?a__law_chars ?l__law_chars ?c__law_chars ?k__law_chars ?a__law_word ?l__law_word ?c__law_word ?k__law_word ?a__law_string ?l__law_string ?c__law_string ?k__law_string ?a__law_spoilt ?l__law_spoilt ?c__law_spoilt ?k__law_spoilt ?a__law_consists ?l__law_consists ?c__law_consists ?k__law_consists ?a__law_is_name ?l__law_is_name ?c__law_is_name ?k__law_is_name ?a__law_is_form ?l__law_is_form ?c__law_is_form ?k__law_is_form ?a__law_forms ?l__law_forms ?c__law_forms ?k__law_forms ?a__law_refused ?l__law_refused ?c__law_refused ?k__law_refused ?a__law_holds ?l__law_holds ?c__law_holds ?k__law_holds ?a_law ?l_law ?c_law ?k_law ?z_len ?z_int ?z_abs ?z_range ?z_isinstance ?z_tuple ?z_list ?z_str ?z_bool ?z_max ?z_min ?z_all ?z_any ?z_ValueError ?ln ?e_is_name ?t_is_name ?v_is_name ?n_is_name ?r_is_name ?e_is_form ?t_is_form ?v_is_form ?n_is_form ?r_is_form ?g_BadText ?g_ReadingsError ?g_BadForest ?g_BadGrammar ?g_BadLine ?g_BadName ?g_Duplicate ?g_NoGrowth ?g_NoReading ?g_Ring ?g_Unknown ?q_BadText ?kk_BadText ?s_BT ?t_BT ?h_BT ?h2_BT ?h3_BT ?h4_BT ?h5_BT ?h6_BT ?h7_BT ?m_RE ?i_BadText ?i_BadForest ?i_BadGrammar ?i_BadLine ?i_BadName ?i_Duplicate ?i_NoGrowth ?i_NoReading ?i_Ring ?i_Unknown ?i_ValueError
    (case a_is_letter => k_is)
    (case l_is_letter => k_is)
    (case c_is_letter => k_is)
    (case k_is_letter => k_is)
    (case a_is_name => k_is)
    (case l_is_name => k_is)
    (case c_is_name => k_is)
    (case k_is_name => k_is)
    (case a_is_form => k_is)
    (case l_is_form => k_is)
    (case c_is_form => k_is)
    (case k_is_form => k_is)
    (case a_split_text => k_is)
    (case l_split_text => k_is)
    (case c_split_text => k_is)
    (case k_split_text => k_is)
    (case a_join_words => k_is)
    (case l_join_words => k_is)
    (case c_join_words => k_is)
    (case k_join_words => k_is)
    (case a__law_tape => k_is)
    (case l__law_tape => k_is)
    (case c__law_tape => k_is)
    (case k__law_tape => k_is)
    (case a__law_take => k_is)
    (case l__law_take => k_is)
    (case c__law_take => k_is)
    (case k__law_take => k_is)
    (case a__law_pick => k_is)
    (case l__law_pick => k_is)
    (case c__law_pick => k_is)
    (case k__law_pick => k_is)
    (case a__law_says => k_is)
    (case l__law_says => k_is)
    (case c__law_says => k_is)
    (case k__law_says => k_is)
    (case a__law_same => k_is)
    (case l__law_same => k_is)
    (case c__law_same => k_is)
    (case k__law_same => k_is)
    (case a__law_chars => k_is)
    (case l__law_chars => k_is)
    (case c__law_chars => k_is)
    (case k__law_chars => k_is)
    (case a__law_word => k_is)
    (case l__law_word => k_is)
    (case c__law_word => k_is)
    (case k__law_word => k_is)
    (case a__law_string => k_is)
    (case l__law_string => k_is)
    (case c__law_string => k_is)
    (case k__law_string => k_is)
    (case a__law_spoilt => k_is)
    (case l__law_spoilt => k_is)
    (case c__law_spoilt => k_is)
    (case k__law_spoilt => k_is)
    (case a__law_consists => k_is)
    (case l__law_consists => k_is)
    (case c__law_consists => k_is)
    (case k__law_consists => k_is)
    (case a__law_is_name => k_is)
    (case l__law_is_name => k_is)
    (case c__law_is_name => k_is)
    (case k__law_is_name => k_is)
    (case a__law_is_form => k_is)
    (case l__law_is_form => k_is)
    (case c__law_is_form => k_is)
    (case k__law_is_form => k_is)
    (case a__law_forms => k_is)
    (case l__law_forms => k_is)
    (case c__law_forms => k_is)
    (case k__law_forms => k_is)
    (case a__law_refused => k_is)
    (case l__law_refused => k_is)
    (case c__law_refused => k_is)
    (case k__law_refused => k_is)
    (case a__law_holds => k_is)
    (case l__law_holds => k_is)
    (case c__law_holds => k_is)
    (case k__law_holds => k_is)
    (case a_law => k_is)
    (case l_law => k_is)
    (case c_law => k_is)
    (case k_law => k_is)
    (case z_len => k_is)
    (case z_int => k_is)
    (case z_abs => k_is)
    (case z_range => k_is)
    (case z_isinstance => k_is)
    (case z_tuple => k_is)
    (case z_list => k_is)
    (case z_str => k_is)
    (case z_bool => k_is)
    (case z_max => k_is)
    (case z_min => k_is)
    (case z_all => k_is)
    (case z_any => k_is)
    (case z_ValueError => k_is)
    (case ln => k_is)
    (case e_is_name => rfl)
    (case t_is_name => k_is)
    (case v_is_name => rfl)
    (case n_is_name => first | k_is | rfl | decide +kernel)
    (case r_is_name => first | decide +kernel | rfl)
    (case e_is_form => rfl)
    (case t_is_form => k_is)
    (case v_is_form => rfl)
    (case n_is_form => first | k_is | rfl | decide +kernel)
    (case r_is_form => first | decide +kernel | rfl)
    (case g_BadText => k_is)
    (case g_ReadingsError => k_is)
    (case g_BadForest => k_is)
    (case g_BadGrammar => k_is)
    (case g_BadLine => k_is)
    (case g_BadName => k_is)
    (case g_Duplicate => k_is)
    (case g_NoGrowth => k_is)
    (case g_NoReading => k_is)
    (case g_Ring => k_is)
    (case g_Unknown => k_is)
    (case q_BadText => k_exc)
    (case kk_BadText => k_is)
    (case s_BT => k_is)
    (case t_BT => k_is)
    (case h_BT => k_is)
    (case h2_BT => k_is)
    (case h3_BT => k_is)
    (case h4_BT => k_is)
    (case h5_BT => k_is)
    (case h6_BT => k_is)
    (case h7_BT => k_is)
    (case m_RE => first | k_is | rfl)
    (case i_BadText => first | k_is | rfl)
    (case i_BadForest => first | k_is | rfl)
    (case i_BadGrammar => first | k_is | rfl)
    (case i_BadLine => first | k_is | rfl)
    (case i_BadName => first | k_is | rfl)
    (case i_Duplicate => first | k_is | rfl)
    (case i_NoGrowth => first | k_is | rfl)
    (case i_NoReading => first | k_is | rfl)
    (case i_Ring => first | k_is | rfl)
    (case i_Unknown => first | k_is | rfl)
    (case i_ValueError => first | k_is | rfl)

