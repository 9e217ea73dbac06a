import PyProof.Rows.All
import Wide.All
import OpenK.AllK
import Wide.FinOn
import HandS.ForMost
import HandS.Flow
import HandS.IsInst
import HandS.Style
import HandS.More
import HandS.Strs
import HandS.Zip
import HandS.Codes
import HandS.Defaults
import HandS.MakeKw
import HandS.TupAny
import HandS.TupMul
import HandS.Wide
import HandS.Sort
import HandS.SortInts
import HandS.NoneIn
import HandS.Conv
import HandS.Walk
import HandS.Head0
import HandS.Head1
import HandS.Head2
import HandS.HeadEnd
import HandS.HeadHook1
import HandS.HeadHook2
import HandS.Star
import HandS.SortOrd
import HandS.TryOnly
import PyProof.EqAt
import HandS.MakeKwOnly
import HandS.SortKw
import HandS.OwnEq
import KE.GoesEnumKw
import PySem.Challenge.RW_lockerwall_k16_whole_lines_of_books
set_option Elab.async false
set_option linter.all false
set_option maxRecDepth 100000
namespace My
open PySem PySem.Spec PyProof.Rows L2
/-! ### tables of the written part by address -/
def tupAt (K : PySem.W.Frag) (a : Addr) (vs : List V) : Bool := match K.lookup a with
  | some ⟨.type c, none, .seq its _, _⟩ => decide (c = "tuple") && (decide (its.size ≤ sizeLine) && He.relAll vs its.toList)
  | _ => false
theorem tupAt_ex {K : PySem.W.Frag} {a : Addr} {vs : List V} (h : tupAt K a vs = true) : ∃ (o : Obj) (its : Array Value) (n : Nat), K.lookup a = some o ∧ o.cls = .type "tuple" ∧ o.dict = none ∧ o.data = .seq its n ∧ its.size ≤ sizeLine ∧ Vals vs its.toList := by
  unfold tupAt at h
  cases q : K.lookup a with
  | none =>
    rw [q] at h
    cases h
  | some o =>
    obtain ⟨oc, od, dt, osl⟩ := o
    rw [q] at h
    cases oc with
    | type c =>
      cases od with
      | none =>
        cases dt with
        | seq its n =>
          obtain ⟨h1, h2⟩ := He.ba (show (decide (c = "tuple") && (decide (its.size ≤ sizeLine) && He.relAll vs its.toList)) = true from h)
          obtain ⟨h3, h4⟩ := He.ba h2
          exact ⟨_, its, n, rfl, congrArg Value.type (of_decide_eq_true h1), rfl, rfl, of_decide_eq_true h3, He.relAll_ok h4⟩
        | _ => cases h
      | some d => cases dt <;> cases h
    | _ => cases od <;> cases dt <;> cases h
theorem tupAt_ok {K : PySem.W.Frag} {a : Addr} {vs : List V} (h : tupAt K a vs = true) (H : Hp) : SqT K H a vs := by
  obtain ⟨o, its, n, h1, h2, h3, h4, h5, h6⟩ := tupAt_ex h
  exact .inr ⟨o, its, n, h1, h2, h4, h5, h6⟩
theorem tupAt_ty {K : PySem.W.Frag} {a : Addr} {vs : List V} (h : tupAt K a vs = true) (H : Hp) : tyV K "tuple" (.ref a) H := by
  obtain ⟨o, its, n, h1, h2, h3, h4, h5, h6⟩ := tupAt_ex h
  exact .inr (.inl ⟨rfl, o, h1, h2, h3⟩)
theorem all_ix {l : List Bool} (h : l.all id = true) (i : Nat) {b : Bool} (e : l[i]? = some b) : b = true := by
  have := List.all_eq_true.mp h b (List.mem_of_getElem? e)
  exact this
/-! ### the Hook: facts, defs, one more Bool -/
abbrev AlE : Type := He.AlD × Bool
def obsDG2 (n : Nat) (fa : List He.Fa) (fn : List He.DefD) (ex : PySem.W.Frag → Bool) (g : Addr → Option Obj) : AlE := (fun K => (He.obsD fa fn K, ex K)) (He.frG g (He.asD g n))
def hookD2 (n : Nat) (fa : List He.Fa) (fn : List He.DefD) (ex : PySem.W.Frag → Bool) : PySem.W.Hook where
  α := AlE
  obs := fun s => obsDG2 n fa fn ex s.heap.get?
  val := fun _ => (He.valD fn, true)
  says := fun _ h => ∃ K : PySem.W.Frag, K.In h ∧ He.SaysD fa fn K ∧ ex K = true
  of := fun _ _ e => ⟨_, He.frG_in, congrArg (fun z : AlE => z.1) e, congrArg (fun z : AlE => z.2) e⟩
  keeps := fun _ _ _ ⟨K, hK, c⟩ k => ⟨K, PySem.W.Frag.In.keeps hK k, c⟩
theorem obsDG2_eq {n : Nat} {fa : List He.Fa} {fn : List He.DefD} {ex : PySem.W.Frag → Bool} {g : Addr → Option Obj} {s : Shared} (h : ∀ a, g a = s.heap.get? a) : obsDG2 n fa fn ex g = (hookD2 n fa fn ex).obs s := by
  have e : g = s.heap.get? := funext h
  rw [e] <;> rfl
end My
namespace My
open PySem PySem.Spec PyProof.Rows L2
/-! ### small rules -/
section
variable {X : Cx} {k j : Nat} {C : Addr} {x : Str} {sp : Sp} {dvs : List V} {p pos : Pos}
theorem pe_c0 (c : C8.Cal X.prog X.w X.K X.mg X.base k x sp dvs) (hr : Room j X.A) (hk : k ≤ j) (hg : Gl X x) (hdb : (x == ("__debug__" : Str)) = false := by decide) :
    PE X (.Call (.Name x p) [] [] pos) (tCall sp dvs C8.E0 tNil) := by
  obtain ⟨f, fd, ps, ds, F, hm, kp, b, d⟩ := c.ex
  exact pe_call0 F (hr.mono hk) hg hm kp b d C8.pass0 hdb
theorem pe_mk0 (c : C8.Mak X.prog X.w X.K X.mg X.base k x C sp dvs) (hr : Room j X.A) (hk : k + 1 ≤ j) (hg : Gl X x) (hdb : (x == ("__debug__" : Str)) = false := by decide) :
    PE X (.Call (.Name x p) [] [] pos) (tMake C sp dvs C8.E0 tNil) := by
  obtain ⟨f, fd, ps, ds, M, F, hm, b, d⟩ := c.ex
  exact pe_make0 M F (hr.mono hk) hg hm b d C8.pass0 hdb
/-- ** of great ints -/
def CPowW (i j : Int) : Prop := 0 ≤ j ∧ j ≤ 100 ∧ i.natAbs < 2 ^ 10000
theorem op_powW : OpR X (binaryOp .Pow) (rI CPowW fun i j => .int (i ^ j.toNat)) := opI fun i j _ _ _ _ _ hc q => by
  obtain ⟨h1, h2, h3⟩ := hc
  have hb := intBits_le h3
  refine PyProof.Rows.pow_int h1 ?_ q
  have h4 : (Builtin.Int.intBits i : Int) ≤ 10000 := by omega
  have h5 : (Builtin.Int.intBits i : Int) * j ≤ 10000 * 100 := Int.mul_le_mul h4 h2 h1 (by decide)
  exact Int.le_trans h5 (by decide)
end
theorem inV_str (x : Str) : ∀ ws : List Str, inV (.str x) (ws.map V.str) = decide (x ∈ ws)
  | [] => rfl
  | y :: ws => by
    have ih := inV_str x ws
    show (eqV (.str y) (.str x) || inV (.str x) (ws.map V.str)) = _
    rw [ih]
    show ((y == x) || decide (x ∈ ws)) = _
    by_cases e : y = x
    · subst e
      simp
    · have e2 : ¬ x = y := fun z => e z.symm
      simp [e, e2]
theorem all_flat_str (ws : List Str) : (ws.map V.str).all flatV = true := by
  rw [List.all_map]
  exact List.all_eq_true.mpr fun _ _ => rfl
end My

namespace My
open PySem PySem.Spec PyProof.Rows L2
theorem map_get {α β : Type} {f : α → β} {l : List α} {i : Nat} {y : β} (h : (l.map f)[i]? = some y) : ∃ z, l[i]? = some z ∧ y = f z := by
  rw [List.getElem?_map] at h
  cases e : l[i]? with
  | none =>
    rw [e] at h
    cases h
  | some z =>
    rw [e] at h
    exact ⟨z, rfl, (Option.some.inj h).symm⟩
theorem tyx_tup {K : PySem.W.Frag} {H : Hp} {a : Addr} {xs : List V} (h : SqT K H a xs) : TyX K H (.ref a) (.type "tuple") := by
  rcases h with (h | ⟨o, h⟩) | ⟨o, its, n, hk, hc, _⟩
  · exact .base (.tup h)
  · exact .fTuple h
  · exact .kTuple hk hc
theorem tyx_lst {K : PySem.W.Frag} {H : Hp} {a : Addr} {xs : List V} (h : SqL K H a xs) : TyX K H (.ref a) (.type "list") := by
  rcases h with (h | ⟨o, h⟩) | ⟨o, its, n, hk, hc, _⟩
  · exact .base (.lst h)
  · exact .base (.frz h)
  · exact .kList hk hc
theorem same_tup {K : PySem.W.Frag} {H H' : Hp} {a : Addr} {xs : List V} (e : Same H H') (h : SqT K H a xs) : SqT K H' a xs := by
  rcases h with (h | ⟨o, h⟩) | h
  · exact .inl (.inl (e _ _ h))
  · exact .inl (.inr ⟨o, e _ _ h⟩)
  · exact .inr h
theorem same_new {H : Hp} {a : Addr} {o : HO} (h : H a = Option.none) : Same H (upd H a o) := fun b u e => by
  rw [upd_ne (ne_of_none e h)]
  exact e
theorem same_upd {H H' : Hp} {a : Addr} {o : HO} (s : Same H H') (h : H a = Option.none) : Same H (upd H' a o) := fun b u e => by
  rw [upd_ne (ne_of_none e h)]
  exact s b u e
/-- all that stood stands as it was, but at these addresses -/
def But (as : List Addr) (H H' : Hp) : Prop := ∀ b o, b ∉ as → H b = some o → H' b = some o
theorem But.refl (as : List Addr) (H : Hp) : But as H H := fun _ _ _ h => h
theorem But.trans {as : List Addr} {H H1 H2 : Hp} (a : But as H H1) (b : But as H1 H2) : But as H H2 := fun c o n h => b c o n (a c o n h)
theorem But.of {as : List Addr} {H H' : Hp} (s : Same H H') : But as H H' := fun c o _ h => s c o h
theorem But.mono {as bs : List Addr} {H H' : Hp} (s : But as H H') (h : ∀ a ∈ as, a ∈ bs) : But bs H H' := fun c o n e => s c o (fun z => n (h c z)) e
theorem But.same {H H' : Hp} (s : But [] H H') : Same H H' := fun c o h => s c o (by simp) h
/-- a change at a place that was not there, or that is let -/
theorem But.put {as : List Addr} {H H' : Hp} {a : Addr} {o : HO} (s : But as H H') (h : H a = Option.none ∨ a ∈ as) : But as H (upd H' a o) := fun b u n e => by
  have nb : b ≠ a := by
    intro z
    subst z
    rcases h with h | h
    · rw [h] at e
      cases e
    · exact n h
  rw [upd_ne nb]
  exact s b u n e
theorem But.tup {K : PySem.W.Frag} {as : List Addr} {H H' : Hp} {a : Addr} {xs : List V} (s : But as H H') (n : a ∉ as) (h : SqT K H a xs) : SqT K H' a xs := by
  rcases h with (h | ⟨o, h⟩) | h
  · exact .inl (.inl (s _ _ n h))
  · exact .inl (.inr ⟨o, s _ _ n h⟩)
  · exact .inr h
theorem But.lst {K : PySem.W.Frag} {as : List Addr} {H H' : Hp} {a : Addr} {xs : List V} (s : But as H H') (n : a ∉ as) (h : SqL K H a xs) : SqL K H' a xs := by
  rcases h with (h | ⟨o, h⟩) | h
  · exact .inl (.inl (s _ _ n h))
  · exact .inl (.inr ⟨o, s _ _ n h⟩)
  · exact .inr h
theorem But.none {as : List Addr} {H H' : Hp} {a : Addr} (s : But as H H') (n : a ∉ as) (h : H' a = Option.none) : H a = Option.none := by
  cases q : H a with
  | none => rfl
  | some o =>
    rw [s a o n q] at h
    cases h
end My
namespace My
open PySem PySem.Spec PyProof.Rows L2
/-! ### the rules by a named K (a comprehension's block has its own context over the same K) -/
section
variable {X : Cx} {K : PySem.W.Frag} {a b e o : Expr} {es : List Expr} {ta tb te to : TE} {t : TA} {pos apos cpos tpos p2 : Pos} {f name : Str} {T id : String} {r : V → List V → Hp → VK → Prop} {tg l : Expr} {tl : TE}
theorem ix_listK (h : X.K = K) : IxR X (rIxL K) := by subst h; exact ix_list
theorem ix_tupK (h : X.K = K) : IxR X (rIxT K) := by subst h; exact ix_tup
def rLenQ (K : PySem.W.Frag) : List V → Hp → VK → Prop := fun xs H Q => ∃ p ys, xs = [.ref p] ∧ (SqL K H p ys ∨ SqT K H p ys) ∧ Q (.int ys.length) H
theorem len_seqK (h : X.K = K) : CallR X (.builtin "len") (rLenQ K) := by subst h; exact call_len_seq
def rListOf (K : PySem.W.Frag) : List V → Hp → VK → Prop := fun xs H Q => ∃ p ys, xs = [.ref p] ∧ (SqL K H p ys ∨ SqT K H p ys) ∧ ∀ l, H l = none → Q (.ref l) (upd H l (.lst ys))
theorem list_ofK (h : X.K = K) : CallR X (.type "list") (rListOf K) := by subst h; exact call_list_of
def rTupleOf (K : PySem.W.Frag) : List V → Hp → VK → Prop := fun xs H Q => ∃ p ys, xs = [.ref p] ∧ ((SqL K H p ys ∧ ∀ l, H l = none → Q (.ref l) (upd H l (.tup ys))) ∨ (SqT K H p ys ∧ Q (.ref p) H))
theorem tuple_ofK (h : X.K = K) : CallR X (.type "tuple") (rTupleOf K) := by subst h; exact call_tuple_of
theorem isiK (h : X.K = K) : CallR X (.builtin "isinstance") (rIsi K) := by subst h; exact call_isi
theorem isiTK (h : X.K = K) : CallR X (.builtin "isinstance") (rIsiT K) := by subst h; exact call_isiT
theorem allK (h : X.K = K) (hc : X.calm = true) : CallR X (.builtin "all") (rAll K) := by subst h; exact cr_all hc
theorem anyK (h : X.K = K) (hc : X.calm = true) : CallR X (.builtin "any") (rAny K) := by subst h; exact cr_any hc
theorem sortedIK (h : X.K = K) : CallR X (.builtin "sorted") (rSortedI K) := by subst h; exact cr_sortedI
theorem in_seqK (h : X.K = K) : OpR X (compareOp .In) (rIn K false) := by subst h; exact op_in_seq
theorem notIn_seqK (h : X.K = K) : OpR X (compareOp .NotIn) (rIn K true) := by subst h; exact op_notIn_seq
theorem eqDK (h : X.K = K) (hu : X.A.units + 64 < cLine) : OpR X (compareOp .Eq) (rEqD K) := by subst h; exact op_eqD hu
theorem neDK (h : X.K = K) (hu : X.A.units + 64 < cLine) : OpR X (compareOp .NotEq) (rNeD K) := by subst h; exact op_neD hu
theorem catAK (h : X.K = K) : OpR X (binaryOp .Add) (rCatA K) := by subst h; exact op_catA
theorem repTK (h : X.K = K) : OpR X (binaryOp .Mult) (rRepT K) := by subst h; exact op_repT
theorem sl_listK (h : X.K = K) : SlR X (rSlL K) := by subst h; exact sl_list
theorem sl_tupAK (h : X.K = K) : SlR X (rSlA K) := by subst h; exact sl_tupA
theorem pe_fldK (h : X.K = K) (he : PE X e ta) (hb : attributeBase e f X.env (eval e X.env) = eval e X.env) : PE X (.Attribute e f pos) (tFld K ta f) := by subst h; exact pe_fld he hb
theorem pt_truthK (h : X.K = K) (ha : PE X a ta) (he : ∀ whole, isTrue a X.env whole = (do let v ← whole; standAt a.pos; holding [v] (truthy v))) : PT X a (fun σ H Q => ta σ H fun x H' => ∃ k, TruV K x H' k ∧ Q k H') := by subst h; exact pt_truth ha he
theorem pi_listK (h : X.K = K) (hl : PE X l tl) : PI X tg l (iList K tl) := by subst h; exact pi_list hl
theorem pi_tupK (h : X.K = K) (hl : PE X l tl) : PI X tg l (iTup K tl) := by subst h; exact pi_tup hl
theorem pe_revLK {k : Nat} {p1 p3 : Pos} (h : X.K = K) (he : PE X e te) : PE X (.Subscript e (.Slice none none (some (.UnaryOp .USub (.Constant (.int 1) k p1) p2)) p3) pos) (tRevL K te) := by subst h; exact pe_revL he
theorem pe_bm0K (h : X.K = K) (pa : PlainAttrs T) (slot : Slot T name id) (hty : typeOf (.builtin id) = pure (.type "method_descriptor")) (hm : MtR X id r) (ho : PE X o to)
    (hbase : attributeBase o name X.env (eval o X.env) = eval o X.env := by rfl) (hline : (apos.endLine == cpos.line) = true := by rfl) : PE X (.Call (.Attribute o name apos) [] [] cpos) (tBM0 K T r to) := by subst h; exact pe_bm0 pa slot hty hm ho hbase hline
theorem pe_bmK (h : X.K = K) (pa : PlainAttrs T) (slot : Slot T name id) (hty : typeOf (.builtin id) = pure (.type "method_descriptor")) (hm : MtR X id r) (ho : PE X o to) (ha : PA X (e :: es) t)
    (hbase : attributeBase o name X.env (eval o X.env) = eval o X.env := by rfl)
    (hfew : ((backTo cpos (starEach (e :: es) X.env)).all (fun x => !x.1) && (backToKw cpos (keywordEach [] X.env)).all (fun x => x.1.isSome)
      && decide ((e :: es).length + ([] : List Keyword).length + (if ([] : List Keyword).isEmpty then 0 else 1) < 30)) = true := by rfl)
    (hline : (apos.endLine == cpos.line) = true := by rfl) (hs : starEach (e :: es) X.env = (false, eval e X.env) :: starEach es X.env := by rfl) (hplain : (backTo cpos (starEach es X.env)).any (·.1) = false := by rfl) :
    PE X (.Call (.Attribute o name apos) (e :: es) [] cpos) (tBM K T r to t) := by subst h; exact pe_bm pa slot hty hm ho ha hbase hfew hline hs hplain
def rTupIx (K : PySem.W.Frag) : V → List V → Hp → VK → Prop := fun x xs H Q => ∃ p, ∃ ys : List Str, ∃ z j, x = .ref p ∧ xs = [.str z] ∧ SqT K H p (ys.map V.str) ∧ ys[j]? = some z ∧ (∀ m, m < j → ys[m]? ≠ some z) ∧ Q (.int (j : Nat)) H
theorem tup_indexK (h : X.K = K) : MtR X "tuple.index" (rTupIx K) := by subst h; exact mt_tup_index
end
end My
namespace My
open PySem PySem.Spec PyProof.Rows L2
theorem pg_tupK {X : Cx} {K : PySem.W.Frag} {es : List Expr} {k : Nat} {t : TGs} {n : Nat} {pos : Pos} (h0 : X.K = K) (hc : X.calm = true) (h : PGs X es t)
    (hn : (assignEach es X.env).length = n := by rfl) (hst : (assignEach es X.env).findIdx? (·.1) = none := by rfl) : PG X (.Tuple es k pos) (gTup K n t) := by subst h0; exact pg_tup hc h hn hst
/-! ### two fors in a comprehension -/
section
variable {J J1 : It} {n n1 : Nat} {G G1 : Hp → Prop} {Y Y1 : Nat → Hp → V → Hp → Prop} {g g1 : TG} {tt tt1 : TT} {te : TE} {wi1 : TI} {vs vs1 : List Nat} {σ σ2 : L2.St} {H1 H4 : Hp} {D : Addr} {Qd Nx : Hp → Prop}
theorem lc2_out (w : Walk J n G Y) (Pv : Nat → Hp → Prop) (h0 : Pv 0 (upd H1 D (.lst []))) (hG : ∀ i H, i ≤ n → Pv i H → G H)
    (hs : ∀ i x H H', i < n → Pv i H → Y i H x H' → g x (wipe σ vs) H' fun σ2 H2 => wipe σ2 vs = wipe σ vs ∧ tt σ2 H2 fun b H3 =>
      if b = true then wi1 σ2 H3 fun J1 H4 => ∃ W1 : Nat → Nat → Hp → Prop, (∃ m, W1 0 m H4) ∧ ∀ j k H, W1 j k H →
        (J1.stop j H ∧ Pv (i + 1) H) ∨ (J1.go j H ∧ ∃ Nx1 : Hp → Prop, (∀ H', Nx1 H' → ∃ k', k' < k ∧ W1 (j + 1) k' H') ∧ ∀ x H', J1.yld j H x H' → g1 x (wipe σ2 vs1) H' fun σ3 H5 => wipe σ3 vs1 = wipe σ2 vs1 ∧ tt1 σ3 H5 fun b H6 =>
          if b = true then te σ3 H6 fun y H7 => ∃ acc, H7 D = some (.lst acc) ∧ acc.length < sizeLine ∧ Nx1 (upd H7 D (.lst (acc ++ [y]))) else Nx1 H6)
      else Pv (i + 1) H3) (hd : ∀ H, Pv n H → Qd H) :
    ∃ W : Nat → Nat → Hp → Prop, (∃ m, W 0 m (upd H1 D (.lst []))) ∧ ∀ i m H, W i m H →
      (J.stop i H ∧ Qd H) ∨ (J.go i H ∧ ∃ Nx : Hp → Prop, (∀ H', Nx H' → ∃ m', m' < m ∧ W (i + 1) m' H') ∧ ∀ x H', J.yld i H x H' → g x (wipe σ vs) H' fun σ2 H2 => wipe σ2 vs = wipe σ vs ∧ tt σ2 H2 fun b H3 =>
        if b = true then wi1 σ2 H3 fun J1 H4 => ∃ W1 : Nat → Nat → Hp → Prop, (∃ m, W1 0 m H4) ∧ ∀ j k H, W1 j k H →
          (J1.stop j H ∧ Nx H) ∨ (J1.go j H ∧ ∃ Nx1 : Hp → Prop, (∀ H', Nx1 H' → ∃ k', k' < k ∧ W1 (j + 1) k' H') ∧ ∀ x H', J1.yld j H x H' → g1 x (wipe σ2 vs1) H' fun σ3 H5 => wipe σ3 vs1 = wipe σ2 vs1 ∧ tt1 σ3 H5 fun b H6 =>
            if b = true then te σ3 H6 fun y H7 => ∃ acc, H7 D = some (.lst acc) ∧ acc.length < sizeLine ∧ Nx1 (upd H7 D (.lst (acc ++ [y]))) else Nx1 H6)
        else Nx H3) := by
  refine ⟨fun i m H => m = n - i ∧ i ≤ n ∧ Pv i H, ⟨n, by simp, Nat.zero_le _, h0⟩, ?_⟩
  rintro i m H ⟨rfl, hi, p⟩
  have q := hG i H hi p
  by_cases hlt : i < n
  · exact .inr ⟨w.goes i H hlt q, Pv (i + 1), fun H' p' => ⟨n - (i + 1), by omega, rfl, hlt, p'⟩, fun x H' y => hs i x H H' hlt p (w.yields i H x H' hlt q y)⟩
  · have e : i = n := by omega
    subst e
    exact .inl ⟨w.stops H q, hd H p⟩
theorem lc2_in (w : Walk J1 n1 G1 Y1) (Pv : Nat → Hp → Prop) (h0 : Pv 0 H4) (hG : ∀ i H, i ≤ n1 → Pv i H → G1 H)
    (hs : ∀ i x H H', i < n1 → Pv i H → Y1 i H x H' → g1 x (wipe σ2 vs1) H' fun σ3 H5 => wipe σ3 vs1 = wipe σ2 vs1 ∧ tt1 σ3 H5 fun b H6 =>
      if b = true then te σ3 H6 fun y H7 => ∃ acc, H7 D = some (.lst acc) ∧ acc.length < sizeLine ∧ Pv (i + 1) (upd H7 D (.lst (acc ++ [y]))) else Pv (i + 1) H6) (hd : ∀ H, Pv n1 H → Nx H) :
    ∃ W1 : Nat → Nat → Hp → Prop, (∃ m, W1 0 m H4) ∧ ∀ j k H, W1 j k H →
      (J1.stop j H ∧ Nx H) ∨ (J1.go j H ∧ ∃ Nx1 : Hp → Prop, (∀ H', Nx1 H' → ∃ k', k' < k ∧ W1 (j + 1) k' H') ∧ ∀ x H', J1.yld j H x H' → g1 x (wipe σ2 vs1) H' fun σ3 H5 => wipe σ3 vs1 = wipe σ2 vs1 ∧ tt1 σ3 H5 fun b H6 =>
        if b = true then te σ3 H6 fun y H7 => ∃ acc, H7 D = some (.lst acc) ∧ acc.length < sizeLine ∧ Nx1 (upd H7 D (.lst (acc ++ [y]))) else Nx1 H6) := by
  refine ⟨fun i m H => m = n1 - i ∧ i ≤ n1 ∧ Pv i H, ⟨n1, by simp, Nat.zero_le _, h0⟩, ?_⟩
  rintro i m H ⟨rfl, hi, p⟩
  have q := hG i H hi p
  by_cases hlt : i < n1
  · exact .inr ⟨w.goes i H hlt q, Pv (i + 1), fun H' p' => ⟨n1 - (i + 1), by omega, rfl, hlt, p'⟩, fun x H' y => hs i x H H' hlt p (w.yields i H x H' hlt q y)⟩
  · have e : i = n1 := by omega
    subst e
    exact .inl ⟨w.stops H q, hd H p⟩
end
end My
namespace My
open PySem PySem.Spec PyProof.Rows L2
/-! ### f(b=.., a=..): both arguments by name, turned about -/
def kwG {α : Type} (us ws : List α) : List α := match us, ws with
  | [], [x, y] => [y, x]
  | _, _ => []
structure CalK2 (P : Program) (w : World) (K : PySem.W.Frag) (mg : Str → Option Value) (base : Heap) (k : Nat) (x : Str) (sp : Sp) (p1 p2 : Str) : Prop where
  ex : ∃ (f : Addr) (fd : FuncData), FnOk P w K mg base C8.CX0 k f fd [p1, p2] sp ∧ mg x = some (.ref f) ∧ PySem.W.keepIn K (.ref f) = true ∧ KBinds K fd [p1, p2] [p2, p1] kwG kwG
theorem kw2_of {K : PySem.W.Frag} {x qual : Str} {params : Arguments} {body : List Stmt} {scope : Scope} {kws : List (Str × V)} {f : Addr} {fd : FuncData} {p1 p2 : Str} (F : FunD K x qual params body scope [] kws f fd)
    (h : ∀ (kV doc pm : Value) (an : Option Addr) (cdv ct : Value) (u v : Value), bindArgs (PySem.W.fnOf x qual params body scope .none kV doc pm an cdv ct) ⟨[], [(p2, u), (p1, v)]⟩ = pure [(p1, v), (p2, u)]) : KBinds K fd [p1, p2] [p2, p1] kwG kwG := by
  obtain ⟨oc, od, dV, kV, doc, pm, an, cdv, ct, osl, rfl, lk, hcd, hD, hK⟩ := F.ex
  rcases hD with ⟨_, rfl⟩ | ⟨e, _⟩
  · refine ⟨fun s us ws X hl => ?_, fun {vs us zs ws} r1 r2 => ?_⟩
    · match us, ws, hl with
      | [], [u, v], _ => exact .of_eq (h kV doc pm an cdv ct u v)
    · cases r1 with
      | nil =>
        cases r2 with
        | nil => exact .nil
        | cons a r2 =>
          cases r2 with
          | nil => exact .nil
          | cons b r2 =>
            cases r2 with
            | nil => exact .cons b (.cons a .nil)
            | cons c r2 => exact .nil
      | cons a r1 => exact .nil
  · exact absurd rfl e
theorem pe_kw2 {X : Cx} {k j : Nat} {x p1 p2 : Str} {sp : Sp} {p pos : Pos} {kws : List Keyword} {tk : TA} (c : CalK2 X.prog X.w X.K X.mg X.base k x sp p1 p2) (hr : Room j X.A) (hk : k ≤ j) (hg : Gl X x) (hkw : PK X kws tk)
    (hall : (backToKw pos (keywordEach kws X.env)).all (·.1.isSome) = true := by rfl) (hks : (backToKw pos (keywordEach kws X.env)).filterMap (·.1) = [p2, p1] := by rfl) (hdb : (x == ("__debug__" : Str)) = false := by decide)
    (hpl : ((backTo pos (starEach [] X.env)).any (·.1) || (backToKw pos (keywordEach kws X.env)).any (·.1.isNone)) = false := by rfl) : PE X (.Call (.Name x p) [] kws pos) (tCallK sp kwG C8.E0 tNil tk) := by
  obtain ⟨f, fd, F, hm, kp, hb⟩ := c.ex
  refine ⟨fun pins s σ H Q I h => ?_⟩
  refine wpAny_Call_Name_kw (ld_glob I hg hm ?_ hdb)
  refine PySem.W.callWith_KW0 (h₀ := X.base) I.ok.mod.kin kp hall (thn (hkw.run pos pins s σ H _ I h) fun ws s2 ⟨zs, H2, I2, rz, q2⟩ => ⟨I2.kIn, ?_⟩) hpl
  rw [hks]
  exact run_fnk (us := []) F (hr.mono hk) hb C8.pass0 I2 .nil rz q2
end My
namespace My
open PySem PySem.Spec PyProof.Rows L2 StX
/-! ### C(e, *ys); C(e, .., k = v, ..) -/
section
variable {X : Cx} {K : PySem.W.Frag} {k j n : Nat} {C : Addr} {x : Str} {sp : Sp} {dvs : List V} {p pos sp_ : Pos} {e : Expr} {es : List Expr} {te : TE} {t tk : TA} {kws : List Keyword} {ks : List Str} {gV : List V → List V → List V}
theorem pa_starK (h : X.K = K) (he : PE X e te) (hr : PA X es t) (hs : starEach (.Starred e sp_ :: es) X.env = (true, eval e X.env) :: starEach es X.env := by rfl) : PA X (.Starred e sp_ :: es) (tStar K te t) := by subst h; exact pa_star he hr hs
theorem pe_mkS2 (c : C8.Mak X.prog X.w X.K X.mg X.base k x C sp dvs) (hr : Room j X.A) (hk : k + 1 ≤ j) (hg : Gl X x) (ha : PA X (e :: es) t) (hdb : (x == ("__debug__" : Str)) = false := by decide)
    (he : starEach (e :: es) X.env = (false, eval e X.env) :: starEach es X.env := by rfl) (hst : (backTo pos (starEach es X.env)).any (·.1) = true := by rfl) : PE X (.Call (.Name x p) (e :: es) [] pos) (tMake C sp dvs C8.E0 t) := by
  obtain ⟨f, fd, ps, ds, M, F, hm, b, d⟩ := c.ex
  refine ⟨fun pins s σ H Q I h => ?_⟩
  refine wpAny_Call_Name_kw (ld_glob I hg hm ?_ hdb)
  refine PySem.W.callWith_S2 (h₀ := X.base) I.ok.mod.kin M.kp (thn (ha.run pos pins s σ H _ I h) fun us s1 ⟨vs, H1, I1, r, q⟩ => ⟨I1.kIn, ?_⟩) he hst
  exact run_make M F (hr.mono hk) b d C8.pass0 I1 r q
structure MakN (P : Program) (w : World) (K : PySem.W.Frag) (mg : Str → Option Value) (base : Heap) (k : Nat) (x : Str) (C : Addr) (sp : Sp) (n : Nat) (ks : List Str) (gV : List V → List V → List V) : Prop where
  ex : ∃ (f : Addr) (fd : FuncData) (ps : List Str) (g : List Value → List Value → List Value), Mk K C f ∧ FnOk P w K mg base C8.CX0 k f fd ps sp ∧ mg x = some (.ref C) ∧ KBn K fd ps (n + 1) ks g gV
theorem pe_mkN (c : MakN X.prog X.w X.K X.mg X.base k x C sp n ks gV) (hr : Room j X.A) (hk : k + 1 ≤ j) (hg : Gl X x) (ha : PA X (e :: es) t) (hkw : PK X kws tk)
    (hall : (backToKw pos (keywordEach kws X.env)).all (·.1.isSome) = true := by rfl) (hks : (backToKw pos (keywordEach kws X.env)).filterMap (·.1) = ks := by rfl)
    (hdb : (x == ("__debug__" : Str)) = false := by decide) (he : starEach (e :: es) X.env = (false, eval e X.env) :: starEach es X.env := by rfl)
    (hpl : ((backTo pos (starEach (e :: es) X.env)).any (·.1) || (backToKw pos (keywordEach kws X.env)).any (·.1.isNone)) = false := by rfl) : PE X (.Call (.Name x p) (e :: es) kws pos) (tMakeN C n ks.length sp gV C8.E0 t tk) := by
  obtain ⟨f, fd, ps, g, M, F, hm, hb⟩ := c.ex
  exact pe_makeN M F (hr.mono hk) hg hm hb C8.pass0 ha hkw hall hks hdb he hpl
end
theorem vals_drop : ∀ {vs : List V} {us : List Value} (n : Nat), Vals vs us → Vals (vs.drop n) (us.drop n)
  | _, _, 0, h => h
  | _, _, _ + 1, .nil => .nil
  | _, _, n + 1, .cons _ t => vals_drop n t
end My
namespace My
open PySem PySem.Spec PyProof.Rows L2
/-! ### sorted of a dict, all its keys ints, as many as there are -/
def rSortW : List V → Hp → VK → Prop := fun ws H Q => ∃ (d : Addr) (pairs : List (Key × V)) (ns : List Int), ws = [.ref d] ∧ Rd H d (.dK pairs) ∧ pairs.map (·.1) = ns.map Sum.inl ∧ ns.length ≤ sizeLine ∧
  ∀ (zs : List Int) (q : Addr), zs.Perm ns → zs.Pairwise (· ≤ ·) → H q = none → Q (.ref q) (upd H q (.lst (zs.map V.int)))
section
variable {X : Cx}
theorem sortedW (calm : X.calm = true) : CallR X (.builtin "sorted") rSortW := by
  intro pins st σ H ws us Q inv rel ⟨d, pairs, ns, ew, rd, ek, hz, cont⟩
  subst ew
  obtain ⟨u, eu, ru⟩ := vals1 rel
  subst eu
  cases ru
  obtain ⟨_, lo, kv, rl, dd⟩ := dk_rd inv.hok rd
  obtain ⟨ep, at1⟩ := dd.dictAt
  have keys : kv.map (·.1) = ns.map Sum.inl := rl.keys.symm.trans ek
  have len : kv.length = ns.length := by
    have := congrArg List.length keys
    simpa using this
  refine Calls.call_function_entry kind_sorted plain_sorted entry_sorted (args_sorted1 _) ?_
  unfold Builtin.«sorted»
  refine wpAny_bind (m := checkCount "sorted" 1 1 _) (wpAny_pure ?_)
  refine wpAny_bind (PySem.W.kdu_collect (A := X.A.in1) (PySem.W.kdl_dict (knd := mixKind X.prog X.w) (kvs := kv) (ep := ep) lo) (inv.ok.hd calm) at1 (by rw [len]; exact hz) fun h2 tk got keep hgot => ?_)
  have glen : got.toList.length = ns.length := by rw [Array.length_toList, hgot.1, len]
  have allI : IntsAre got.toList ns := ints_each glen fun j v e => by
    obtain ⟨k, _, e1, e2⟩ := hgot.2 j v (by rw [← Array.getElem?_toList]; exact e)
    have e3 : (ns.map (Sum.inl : Int → Key))[j]? = some k := by rw [← keys, List.getElem?_map, e1]; rfl
    rw [List.getElem?_map] at e3
    cases e4 : ns[j]? with
    | none =>
      rw [e4] at e3
      cases e3
    | some y =>
      rw [e4] at e3
      cases e3
      rcases keyIs_shape (show keyIs (Sum.inl y) v = true from e2) with ⟨i, t, ek, ev⟩ | ⟨z, t, ek, _⟩
      · cases ek
        exact ⟨y, t, rfl, ev⟩
      · cases ek
  have inv2 : Inv X pins σ H { st with heap := h2, toks := tk } := inv.kept keep
  refine wpAny_bind (wpAny_newList ?_ (by rw [glen]; exact hz))
  have here : (h2.push (seqObj "list" got.toList.toArray 0)).get? h2.objs.size = some (seqObj "list" got.toList.toArray 0) := Heap.get?_push_size _ rfl
  show wpAny _ _ _ _ _ { st with heap := h2.push (seqObj "list" got.toList.toArray 0), toks := tk }
  refine wpAny_bind (wpAny_holding (wpAny_call_entry slot_list_sort ⟨_, here, rfl⟩ entry_list_sort (SrtO.list_sort_ord SrtO.swo_int here (by rw [glen]; exact hz) (fun two => SrtO.ints_sortable allI two) fun out o1 o2 => ⟨_, rfl, ?_⟩) (args_list_sort _)))
  obtain ⟨w1, w2, w3⟩ := SrtO.ints_out allI o1 o2
  obtain ⟨ep2, at2⟩ := sortedHeap_at (vs := got.toList) (out := out.toArray) here
  have fits : ((out.map SrtO.iv).map V.int).length ≤ sizeLine := by
    rw [List.length_map, w2.length_eq]
    exact hz
  refine wpAny_pure ⟨_, rfl, .ref h2.objs.size, _, inv2.laid (t' := tk) (fun b o e => ?_) (Nat.le_refl _) (show ObjOk X.prog X.w _ _ _ (.lst ((out.map SrtO.iv).map V.int)) from ⟨fits, out, ep2, vals_of_ints w1, at2⟩), rfl, cont _ _ w2 w3 (inv2.hok.fresh (Nat.le_refl _))⟩
  have lt : b < h2.objs.size := Heap.lt_size e
  rw [sortedHeap_old (Nat.ne_of_lt lt) (by rw [size_push']; exact Nat.lt_succ_of_lt lt)]
  exact Heap.get?_push_of_some _ e
end
end My
namespace My
open PySem PySem.Spec PyProof.Rows L2
/-! ### tuple.count of a text, among texts -/
def rTupCnt (K : PySem.W.Frag) : V → List V → Hp → VK → Prop := fun x xs H Q => ∃ (p : Addr) (ys : List Str) (z : Str), x = .ref p ∧ xs = [.str z] ∧ SqT K H p (ys.map V.str) ∧ Q (.int (ys.count z : Nat)) H
section
variable {X : Cx} {K : PySem.W.Frag}
theorem cnt_vals {z : Str} : ∀ {ys : List Str} {us : List Value}, Vals (ys.map V.str) us → us.countP (eqU (.str z)) = ys.count z
  | [], _, .nil => rfl
  | y :: ys, _, .cons (b := u) r t => by
    obtain ⟨k, rfl⟩ : ∃ k, u = Value.str y k := r
    have h1 := cnt_vals (z := z) t
    rw [List.countP_cons, h1, List.count_cons]
    congr 1
theorem tup_count : MtR X "tuple.count" (rTupCnt X.K) := by
  intro pins st S0 H x xs v us Q inv rel args hyp
  obtain ⟨p, ys, z, ex, exs, seq, cont⟩ := hyp
  subst ex exs
  cases rel
  obtain ⟨u, eu, ru⟩ := vals1 args
  obtain ⟨t, et⟩ := ru
  subst eu et
  obtain ⟨items, rv, plain, small⟩ := inv.tuple seq
  obtain ⟨⟨kind, dic, dat, slo⟩, at1, ek, n, ed⟩ := plain
  simp only at ek ed
  subst ek ed
  refine call_meets PySem.F.slot_tuple_count ⟨_, at1, rfl⟩ PySem.F.entry_tuple_count (PySem.F.args_tuple_count_2 _ _)
    (SeqAt.tuple_countAt p items.toArray n dic slo (.str z t) (eqU (.str z))) ⟨at1, fun w hw => mem_eqAt (x := .str z) ⟨t, rfl⟩ rfl rv (flat_strs ys) w (by simpa using hw), ?_⟩
  rw [show items.toArray.toList.countP (eqU (.str z)) = ys.count z from cnt_vals rv]
  exact ⟨.int (ys.count z : Nat), H, inv.tok _, ⟨_, rfl⟩, cont⟩
/-- tuple(list): what is made is held as it stands, with no dict -/
def rTupleNew (K : PySem.W.Frag) : List V → Hp → VK → Prop := fun xs H Q => ∃ p ys, xs = [.ref p] ∧ SqL K H p ys ∧ ∀ l o, H l = none → o.dict = Option.none → Q (.ref l) (upd H l (.frz o (.tup ys)))
theorem tuple_new : CallR X (.type "tuple") (rTupleNew X.K) := by
  intro pins st S0 H xs us Q inv args hyp
  obtain ⟨p, ys, ex, seq, cont⟩ := hyp
  subst ex
  obtain ⟨u, eu, ru⟩ := vals1 args
  subst eu
  cases ru
  obtain ⟨items, rv, plain, small⟩ := inv.list seq
  have len := rv.length
  refine call_tuple_list plain.isList (fun h1 keep => ?_) (by simp only [List.size_toArray] <;> omega)
  have I1 : Inv X pins S0 H { st with heap := h1 } := inv.kept (t' := st.toks) keep
  have new : (h1.push { cls := .type "tuple", data := .seq items.toArray }).get? h1.objs.size = some { cls := .type "tuple", data := .seq items.toArray } := Heap.get?_push_size _ rfl
  have I2 : Inv X pins S0 (upd H h1.objs.size (.frz { cls := .type "tuple", data := .seq items.toArray } (.tup ys))) { st with heap := h1.push { cls := .type "tuple", data := .seq items.toArray } } :=
    I1.laid (t' := st.toks) (fun b o e => Heap.get?_push_of_some _ e) (Nat.le_refl _) (show ObjOk X.prog X.w _ _ _ (.frz _ (.tup ys)) from ⟨new, small, items, rv, IsTup.new _ _⟩)
  exact ⟨.ref h1.objs.size, _, I2, rfl, cont _ _ (I1.hok.fresh (Nat.le_refl _)) rfl⟩
theorem tuple_newK (h : X.K = K) : CallR X (.type "tuple") (rTupleNew K) := by subst h; exact tuple_new
/-- a tuple with no dict -/
def FrzT (H : Hp) (p : Addr) : Prop := ∃ o xs, H p = some (.frz o (.tup xs)) ∧ o.dict = Option.none
def tBMT (r : V → List V → Hp → VK → Prop) (to : TE) (t : TA) : TE := fun σ H Q => to σ H fun x H1 => (∃ p, x = .ref p ∧ FrzT H1 p) ∧ t σ H1 fun xs H2 => r x xs H2 Q
theorem pe_bmT {o e : Expr} {es : List Expr} {to : TE} {t : TA} {name : Str} {apos cpos : Pos} {id : String} {r : V → List V → Hp → VK → Prop} (pa : PlainAttrs "tuple") (slot : Slot "tuple" name id) (hty : typeOf (.builtin id) = pure (.type "method_descriptor")) (hm : MtR X id r) (ho : PE X o to) (ha : PA X (e :: es) t)
    (base : attributeBase o name X.env (eval o X.env) = eval o X.env := by rfl)
    (few : ((backTo cpos (starEach (e :: es) X.env)).all (fun z => !z.1) && (backToKw cpos (keywordEach [] X.env)).all (fun z => z.1.isSome) && decide ((e :: es).length + ([] : List Keyword).length + (if ([] : List Keyword).isEmpty then 0 else 1) < 30)) = true := by rfl)
    (line : (apos.endLine == cpos.line) = true := by rfl) (star : starEach (e :: es) X.env = (false, eval e X.env) :: starEach es X.env := by rfl) (plain : (backTo cpos (starEach es X.env)).any (·.1) = false := by rfl) :
    PE X (.Call (.Attribute o name apos) (e :: es) [] cpos) (tBMT r to t) := by
  refine ⟨fun pins st S0 H Q I h => ?_⟩
  refine wpAny_Call_method_late base few line rfl (thn (ho.run pins st S0 H _ I h) fun v s1 ⟨x, H1, I1, r1, ty, q1⟩ => ?_)
  obtain ⟨p, ex, ob, xs, hp, hd⟩ := ty
  subst ex
  cases r1
  obtain ⟨e1, _, _, _, ob2, e2, ek, _⟩ := (show ObjOk X.prog X.w H1 s1.heap p (.frz ob (.tup xs)) from I1.hok p _ hp)
  have eo : ob2 = ob := by
    rw [e1] at e2
    exact (Option.some.inj e2).symm
  subst eo
  refine ⟨"tuple", id, pa, slot, hty, ⟨ob2, e1, ek⟩, fun a ea => by cases ea; exact ⟨ob2, e1, hd⟩, ?_⟩
  have run := ha.run cpos pins s1 S0 H1 _ I1 q1
  rw [star] at run ⊢
  refine Calls.callWith_builtin (by show (false || (backTo cpos (starEach es X.env)).any (·.1)) = false; rw [plain]; rfl) (Calls.evalArgs_plain ?_)
  exact thn run fun us s2 ⟨vs, H2, I2, r2, q2⟩ => hm pins s2 S0 H2 (.ref p) vs (.ref p) us Q I2 rfl r2 q2
theorem FrzT.same {H H' : Hp} {p : Addr} (s : Same H H') (h : FrzT H p) : FrzT H' p := by
  obtain ⟨o, xs, e, d⟩ := h
  exact ⟨o, xs, s _ _ e, d⟩
theorem tup_countK (h : X.K = K) : MtR X "tuple.count" (rTupCnt K) := by subst h; exact tup_count
end
end My

namespace My
open PySem PySem.Spec PyProof.Rows L2
set_option maxHeartbeats 4000000
/-! ### tuple * int, also by 0 and by 1 -/
theorem mul_once (l : Addr) (items : Array Value) (n : Nat) (dd : Option Addr) (sl : Array (Option Value)) (u : Tok) :
    Meets (Builtin.«tuple.__mul__» ⟨[.ref l, .int 1 u], []⟩) (fun _ R s => s.heap.get? l = some { cls := .type "tuple", dict := dd, data := .seq items n, slots := sl } ∧ R (.ok (.ret (Value.ref l))) s) := .of_wp fun prog w A R s hyp => by
  obtain ⟨hp, g, d, tk, os⟩ := s
  obtain ⟨at1, cont⟩ := hyp
  have f1 := AutoSeq1.idx_int
  wp_walk using wpAny_loadPart' at1
  exact ⟨_, rfl, cont⟩
theorem mul_none (l : Addr) (items : Array Value) (n : Nat) (dd : Option Addr) (sl : Array (Option Value)) (u : Tok) (c1 : items.isEmpty = false) :
    Meets (Builtin.«tuple.__mul__» ⟨[.ref l, .int 0 u], []⟩) (fun _ R s => s.heap.get? l = some { cls := .type "tuple", dict := dd, data := .seq items n, slots := sl } ∧ R (.ok (.ret (Value.ref s.heap.objs.size))) { s with heap := s.heap.push { cls := Value.type "tuple", data := Data.seq #[] }, toks := s.toks }) := .of_wp fun prog w A R s hyp => by
  obtain ⟨hp, g, d, tk, os⟩ := s
  obtain ⟨at1, cont⟩ := hyp
  have f1 := AutoSeq1.idx_int
  wp_walk using wpAny_loadPart' at1
  exact ⟨_, rfl, cont⟩
def rRepA (K : PySem.W.Frag) : R2 := fun x y H Q => ∃ l k xs, x = .ref l ∧ y = .int k ∧ SqT K H l xs ∧ xs ≠ [] ∧ 0 ≤ k ∧ k ≤ 1000 ∧ xs.length ≤ 1000 ∧ (k = 1 → Q (.ref l) H) ∧ (k ≠ 1 → ∀ p, H p = none → Q (.ref p) (upd H p (.tup (List.replicate k.toNat xs).flatten)))
section
variable {X : Cx}
theorem op_repA : OpR X (binaryOp .Mult) (rRepA X.K) := by
  intro pins st S0 H x y v u Q inv rel rel2 hyp
  obtain ⟨l, k, xs, ex, ey, seq, hne, h0, h1, hz, q1, q2⟩ := hyp
  subst ex ey
  by_cases k2 : 2 ≤ k
  · exact op_repT pins st S0 H _ _ v u Q inv rel rel2 ⟨l, k, xs, rfl, rfl, seq, hne, k2, h1, hz, q2 (by omega)⟩
  cases rel
  obtain ⟨t, et⟩ := rel2
  subst et
  obtain ⟨items, rv, plain, small⟩ := inv.tuple seq
  obtain ⟨⟨kind, dic, dat, slo⟩, at1, ek, n, ed⟩ := plain
  simp only at ek ed
  subst ek ed
  have full : items.toArray.isEmpty = false := by
    cases items with
    | nil => exact absurd (List.eq_nil_of_length_eq_zero rv.length) hne
    | cons a b => rfl
  rcases (show k = 0 ∨ k = 1 by omega) with e | e
  · subst e
    refine wpAny_binaryOp_repeat_ref (T := "tuple") (U := "int") (by decide) ⟨_, at1, rfl⟩ (fun s2 => typeIs_int s2 0 t) noFill_tuple_mul F.fills_int_mul F.slot_int_rmul repeat_tuple F.slot_int_index.lookup
      (call_meets F.slot_int_rmul (typeIs_int st 0 t) F.entry_int_rmul (F.args_int_rmul_2 _ _) (int_rmul_tuple 0 t l items.toArray n dic slo) ⟨at1, rfl, ⟨_, at1, rfl⟩, call_meets F.slot_tuple_mul ⟨_, at1, rfl⟩ F.entry_tuple_mul (F.args_tuple_mul_2 _ _) (mul_none l items.toArray n dic slo t full) ⟨at1, ?_⟩⟩)
    exact ⟨.ref st.heap.objs.size, _, inv.laid (t' := st.toks) (o := .tup []) (fun b ob q => Heap.get?_push_of_some _ q) (Nat.le_refl _) ⟨Nat.zero_le _, [], .nil, IsTup.new _ _⟩, rfl, q2 (by decide) _ (inv.hok.fresh (Nat.le_refl _))⟩
  · subst e
    refine wpAny_binaryOp_repeat_ref (T := "tuple") (U := "int") (by decide) ⟨_, at1, rfl⟩ (fun s2 => typeIs_int s2 1 t) noFill_tuple_mul F.fills_int_mul F.slot_int_rmul repeat_tuple F.slot_int_index.lookup
      (call_meets F.slot_int_rmul (typeIs_int st 1 t) F.entry_int_rmul (F.args_int_rmul_2 _ _) (int_rmul_tuple 1 t l items.toArray n dic slo) ⟨at1, rfl, ⟨_, at1, rfl⟩, call_meets F.slot_tuple_mul ⟨_, at1, rfl⟩ F.entry_tuple_mul (F.args_tuple_mul_2 _ _) (mul_once l items.toArray n dic slo t) ⟨at1, ?_⟩⟩)
    exact ⟨.ref l, H, inv, rfl, q1 rfl⟩
theorem repAK {K : PySem.W.Frag} (h : X.K = K) : OpR X (binaryOp .Mult) (rRepA K) := by subst h; exact op_repA
end
end My
namespace My
open PyProof.Rows PySem.Spec PySem
abbrev freshSet (b : Bool) : Obj := { cls := Value.type "set", dict := Option.none, data := .set #[] 0 (.fresh 0 0 b) }
/-! ### len(set(t)), t a tuple of texts, each one once -/
section
variable {w : World} {prog : Program} {A : Around} {R : Result → Shared → Prop} {I : Addr} {fp wr : List Addr} {G : Array GenState → Array GenState → Prop} {n : Nat} {P : Nat → Value → Prop} {St : Nat → Shared → Prop}
theorem take_not {zs : List Str} (dist : zs.Nodup) {i : Nat} (hi : i < zs.length) : zs.getD i Str.empty ∉ zs.take i := by
  intro mem
  rw [List.getD_eq_getElem?_getD, List.getElem?_eq_getElem hi, Option.getD_some] at mem
  obtain ⟨j, ej⟩ := List.mem_iff_getElem?.mp mem
  rw [List.getElem?_take] at ej
  split at ej
  · rename_i lt
    obtain ⟨jl, e⟩ := List.getElem?_eq_some_iff.mp ej
    exact absurd e (List.pairwise_iff_getElem.mp dist j i jl hi lt)
  · cases ej
theorem take_next {zs : List Str} {i : Nat} (hi : i < zs.length) : zs.take (i + 1) = zs.take i ++ [zs.getD i Str.empty] := by
  rw [List.take_add_one, List.getD_eq_getElem?_getD, List.getElem?_eq_getElem hi]
  rfl
theorem loopD (walk : WalksS prog w A.in1 I fp wr G n P St) {S : Addr} (out : S ∉ fp) {zs : List Str} (dist : zs.Nodup) (len : zs.length = n) (room : n + 1 < scanBound)
    (what : ∀ i v, P i v → ∃ t, v = .str (zs.getD i Str.empty) t) (left : Nat) : ∀ (i : Nat) (s : Shared), i + left = n → St i s →
      s.heap.SetOf (PySem.strKind prog w) S (fun k => decide (k ∈ zs.take i)) i →
      (∀ s', Moved (S :: wr) G s s' → s'.heap.SetOf (PySem.strKind prog w) S (fun k => decide (k ∈ zs)) n → R (.ok (.ret .none)) s') →
      codeAny (model prog w) A (Code.builtin "set.update.loop" ⟨[.ref S, .ref I], []⟩) R s := by
  have apart : S ∉ wr := fun z => out (walk.sub S z)
  have keepS : ∀ (s s' : Shared) (T : Str → Bool) (m : Nat), Moved wr G s s' → s.heap.SetOf (PySem.strKind prog w) S T m → s'.heap.SetOf (PySem.strKind prog w) S T m :=
    fun s s' T m mv ⟨o, es, ep, t, at1, more⟩ => ⟨o, es, ep, t, mv.heap S o apart at1, more⟩
  induction left with
  | zero =>
    intro i s e st has go
    obtain rfl : i = n := e
    refine codeAny_builtin (PyProof.Rows.F.entry_set_update_loop) ?_
    rw [Around.under_plainId PyProof.Rows.F.plain_set_update_loop]
    refine wpAny_bind (walk.done s _ _ st fun s1 mv => wpAny_pure (go s1 (mv.mono fun b hb => .tail _ hb) ?_))
    have h1 := keepS _ _ _ _ mv has
    rw [List.take_of_length_le (Nat.le_of_eq len)] at h1
    exact h1
  | succ left rec =>
    intro i s e st has go
    have lt : i < n := by omega
    refine codeAny_builtin (PyProof.Rows.F.entry_set_update_loop) ?_
    rw [Around.under_plainId PyProof.Rows.F.plain_set_update_loop]
    refine wpAny_bind (walk.item i s _ _ lt st fun v s1 pv st1 mv => ?_)
    obtain ⟨t, ev⟩ := what i v pv
    subst ev
    have h1 := keepS _ _ _ _ mv has
    refine wpAny_bind (wpAny_holding (wpAny_holding (wpAny_bind ((PySem.strKind prog w).pyHash (k := zs.getD i Str.empty) (strKind_is _ _ _ _) ?_))))
    refine wpAny_setAddHashed_of (knd := PySem.strKind prog w) (s := { s1 with toks := s1.toks + 1 }) (strKind_is _ _ _ _) rfl h1 (by omega) fun h2 but set2 => ?_
    have no := take_not dist (show i < zs.length by omega)
    have set3 : h2.SetOf (PySem.strKind prog w) S (fun k => decide (k ∈ zs.take (i + 1))) (i + 1) := by
      refine SetOf_congr set2 (fun k => ?_) (by rw [decide_eq_false no, if_neg Bool.false_ne_true])
      rw [take_next (show i < zs.length by omega)]
      simp only [List.mem_append, List.mem_singleton, Bool.decide_or]
    refine wpAny_pure ⟨plainId_quiet PyProof.Rows.F.plain_set_update_loop _, rec (i + 1) _ (by omega) (walk.frame _ s1 _ _ st1 (Nat.le_succ _) fun b hb o eb => ?_) set3 fun s3 mv3 => ?_⟩
    · rw [but.2 b (fun z : b = S => out (z ▸ hb))]
      exact eb
    · refine go s3 (Moved.trans walk.gtrans ((mv.mono fun b hb => .tail _ hb).then_heap (Nat.le_succ _) fun b o hb eb => ?_) mv3)
      rw [but.2 b (fun z : b = S => hb (z ▸ List.mem_cons_self ..))]
      exact eb
end
section
variable {w : World} {prog : Program} {A : Around} {E : Value → Shared → Prop} {s : Shared}
set_option maxHeartbeats 3000000 in
theorem setD {l : Addr} {arr : Array Value} {zs : List Str} {Q : Value → Shared → Prop} (calm : A.handled = Option.none) (tup : s.heap.IsTuple l arr) (are : StrsAre arr.toList zs) (dist : zs.Nodup) (room : zs.length + 1 < scanBound)
    (go : ∀ (h2 : Heap) (tk : Nat), h2.SetOf (PySem.strKind prog w) s.heap.objs.size (fun k => decide (k ∈ zs)) zs.length → (∀ b o, b < s.heap.objs.size → s.heap.get? b = some o → h2.get? b = some o) → Q (.ref s.heap.objs.size) { s with heap := h2, toks := tk }) :
    wpAny (model prog w) A (call (Value.type "set") [Value.ref l]) Q E s := by
  have len : zs.length = arr.size := (StrsAre.len_eq are).symm.trans Array.length_toList
  obtain ⟨cls1, rest1, mro1⟩ := PySem.F.called_set.mro
  have made1 := PySem.F.called_set.made
  have sub1 := PySem.F.called_set.sub
  refine wpAny_call (codeAny_of_tree (wpAny_pure ⟨Code.quiet_builtin _ (by decide +kernel), codeAny_builtin PySem.F.entry_type_call ?_⟩))
  rw [Around.under_plain (weight_type_call_type "set" [Value.ref l] []) rfl]
  have not1 := PySem.F.called_set.notType
  have can1 := PySem.F.called_set.canCreate
  have call1 := PySem.F.typeCall_set_1 (.ref l)
  repeat any_goals (first | assumption | wp_step)
  refine codeAny_mono (code_set_new_1 (.ref l) (E := E) (Q₁ := fun obj st => ∃ b : Bool, obj = .ref s.heap.objs.size ∧ st = { s with heap := s.heap.push (freshSet b) }) fun b => ⟨b, rfl, rfl⟩) fun res st hres => ?_
  cases res with
  | error e => exact hres
  | ok fl =>
    cases fl with
    | ret obj =>
      obtain ⟨b, eo, es⟩ := hres
      subst eo es
      have atS : (s.heap.push (freshSet b)).get? s.heap.objs.size = some (freshSet b) := Heap.get?_push_size _ rfl
      have isS : Shared.TypeIs { s with heap := s.heap.push (freshSet b) } (.ref s.heap.objs.size) "set" := ⟨_, atS, rfl⟩
      have look1 := PySem.F.called_set.init.lookup
      have bind1 := PySem.F.called_set.init.bind (.ref s.heap.objs.size)
      repeat any_goals (first | assumption | wp_step)
      refine codeAny_mono (codeAny_call_builtin (R := wants (fun r st => r = .none ∧ ∃ h2 tk, st = { s with heap := h2, toks := tk } ∧ h2.SetOf (PySem.strKind prog w) s.heap.objs.size (fun k => decide (k ∈ zs)) zs.length ∧
          ∀ b o, b < s.heap.objs.size → s.heap.get? b = some o → h2.get? b = some o) E) PySem.F.called_set.init.plain PySem.F.entry_set_init (check_set_init_1 isS ?_)) fun res2 st2 hres2 => ?_
      · obtain ⟨⟨ocls, odic, odat, oslo⟩, at0, ec, nn, ed⟩ := tup
        simp only at ec ed
        subst ec ed
        have at1 := Heap.get?_push_of_some (freshSet b) at0
        have nosub1 := PySem.F.sub_tuple_set
        have nosub2 := PySem.F.sub_tuple_frozenset
        have nodict : (Value.type "tuple" == Value.type "dict") = false := by decide
        have tup1 : (s.heap.push (freshSet b)).IsTuple l arr := ⟨_, at1, rfl, nn, rfl⟩
        unfold Builtin.«set.__init__»
        unfold noKeywords Builtin.Frozenset.updateFrom
        generalize hold : pyIter = PIter
        wp_walk
        subst hold
        refine wpAny_pyIter_tuple tup1 (wpAny_bind (wpAny_runValue ?_))
        have lt0 : l < s.heap.objs.size := Heap.lt_size at0
        have calm3 : A.in1.in1.in1.handled = Option.none := by simp [calm]
        have neI : l ≠ (s.heap.push (freshSet b)).objs.size := by
          rw [Heap.size_push]
          exact fun z => Nat.lt_irrefl _ (Nat.lt_trans (z ▸ lt0 : s.heap.objs.size + 1 < s.heap.objs.size) (Nat.lt_succ_self _))
        have outS : s.heap.objs.size ∉ [(s.heap.push (freshSet b)).objs.size, l] := by
          rw [Heap.size_push]
          simp only [List.mem_cons, List.not_mem_nil, or_false]
          exact fun z => z.elim (fun y => absurd y (Nat.ne_of_lt (Nat.lt_succ_self _))) fun y => absurd y (Nat.ne_of_gt lt0)
        refine loopD ((Walks.tuple calm3 _ l neI arr).toS) outS dist len (by omega) (fun i v hv => SS.strs_at are i v (by rw [Array.getElem?_toList]; exact hv)) arr.size 0 _ (Nat.zero_add _) ⟨⟨_, Heap.get?_push_size _ rfl, rfl, rfl⟩, tup1.push _⟩ ?_ ?_
        · exact SetOf_congr ((setObjOf_fresh (knd := PySem.strKind prog w) b).setOf (Heap.get?_push_of_some _ atS) (by unfold scanBound; omega)) (fun k => by simp) rfl
        · intro s3 mv has
          obtain ⟨h3, g3, d3, t3, os3⟩ := s3
          obtain rfl : g3 = s.gens := mv.gens
          obtain rfl : d3 = s.drawn := mv.drawn
          obtain rfl : os3 = s.os := mv.os
          refine wpAny_pure (wpAny_pure ⟨rfl, h3, t3, rfl, by rw [len]; exact has, fun c o hc ec => ?_⟩)
          refine mv.heap c o ?_ (Heap.get?_push_of_some _ (Heap.get?_push_of_some _ ec))
          rw [Heap.size_push]
          simp only [List.mem_cons, List.not_mem_nil, or_false]
          exact fun z => z.elim (fun y => absurd y (Nat.ne_of_lt hc)) fun y => absurd y (Nat.ne_of_lt (Nat.lt_succ_of_lt hc))
      · cases res2 with
        | error e => exact hres2
        | ok fl2 =>
          cases fl2 with
          | ret r =>
            obtain ⟨er, h2, tk, e2, has, keep⟩ := hres2
            subst er e2
            repeat any_goals (first | assumption | wp_step)
            exact go _ _ has keep
          | _ => exact hres2.elim
    | _ => exact hres.elim
end
open L2
def tLenSetT (K : PySem.W.Frag) (ta : TE) : TE := fun σ H Q => ta σ H fun x H1 => ∃ (l : Addr) (zs : List Str), x = .ref l ∧ SqT K H1 l (zs.map V.str) ∧ zs.Nodup ∧ zs.length ≤ 1000 ∧ Q (.int (zs.length : Nat)) H1
section
variable {X : Cx}
theorem pe_lenSetT {K : PySem.W.Frag} (hK : X.K = K) {a : Expr} {ta : TE} {p p2 q pos : Pos} (calm : X.calm = true) (g1 : Gl X "len") (m1 : X.mg "len" = Option.none) (g2 : Gl X "set") (m2 : X.mg "set" = Option.none) (arg : PE X a ta)
    (one : starEach [a] X.env = (false, eval a X.env) :: starEach [] X.env := by rfl) : PE X (.Call (.Name "len" p) [.Call (.Name "set" p2) [a] [] q] [] pos) (tLenSetT K ta) := by
  subst hK
  refine ⟨fun pins s σ H Q inv hyp => Call_ (ld_blt inv g1 m1 boot_len ?_)⟩
  refine callWith_builtin1 (args_cons (Call_ (ld_blt inv g2 m2 boot_set ?_)) rfl) rfl rfl
  refine callWith_type1 (args_cons (thn (arg.run pins s σ H _ inv hyp) fun v s1 ⟨x, H1, inv1, rel, more⟩ => args_nil ?_) one) one rfl
  obtain ⟨l, zs, ex, seq, dist, small, fin⟩ := more
  subst ex
  cases rel
  obtain ⟨its, rv, plain, _⟩ := inv1.tuple seq
  refine setD (inv1.ok.hd calm) plain (by simpa using strsAre_of rv) dist (by unfold scanBound; omega) fun h2 tk has keep => args_nil ?_
  obtain ⟨o, es, ep, t, at1, exact1, dat, _, _, _, fits, cnt⟩ := has
  have inv2 : Inv X pins σ H1 { s1 with heap := h2, toks := tk } := inv1.kept fun b o eb => keep b o (Heap.lt_size eb) eb
  exact call_len_set at1 exact1 dat fits (by rw [cnt]; omega) ⟨.int (zs.length : Nat), H1, inv2.tok _, ⟨_, by rw [cnt]⟩, fin⟩
end
end My
namespace My
open PyProof.Rows PySem.Spec PySem L2
/-! ### t[::-1], t a tuple -/
section
variable {w : World} {prog : Program} {A : Around} {E : Value → Shared → Prop} {s : Shared}
theorem adjust_rev (n : Nat) : Builtin.Slice.sliceAdjust none none (-1) (n : Int) = ((n : Int) - 1, -1) := rfl
theorem places_rev (n : Nat) : Builtin.Slice.slicePlaces ((n : Int) - 1) (-1) (-1) = n := by
  unfold Builtin.Slice.slicePlaces; rw [if_neg (by decide)]
  split <;> simp <;> omega
theorem fm_congr {α β : Type} {f g : α → Option β} : ∀ {l : List α}, (∀ x ∈ l, f x = g x) → l.filterMap f = l.filterMap g
  | [], _ => rfl
  | x :: l, h => by rw [List.filterMap_cons, List.filterMap_cons, h x (List.mem_cons_self ..), fm_congr fun y hy => h y (List.mem_cons_of_mem _ hy)]
theorem pick_rev (xs : Array Value) : ((List.range xs.size).filterMap fun (k : Nat) => xs[((xs.size : Int) - 1 + (k : Int) * -1).toNat]?).toArray = xs.toList.reverse.toArray := by
  have all := PySem.W.krv_all xs.toList.reverse.toArray
  rw [List.size_toArray, List.length_reverse, Array.length_toList] at all
  refine congrArg List.toArray (Eq.trans (fm_congr fun k hk => ?_) all)
  have lt := List.mem_range.mp hk
  have r : xs.toList.reverse.toArray[k]? = xs.toList.reverse[k]? := by simp
  rw [show ((xs.size : Int) - 1 + (k : Int) * -1).toNat = xs.size - 1 - k by omega, r, List.getElem?_reverse (by rw [Array.length_toList]; exact lt), Array.length_toList, Array.getElem?_toList]
theorem applied_rev {sl : Addr} {u : Tok} {n : Nat} {Q : Int × Int × Nat → Shared → Prop} (sli : s.heap.IsSliceOf sl .none .none (.int (-1) u)) (go : Q ((n : Int) - 1, -1, n) s) : wpAny (model prog w) A (Builtin.Slice.sliceApplied (.ref sl) (pure (n : Int))) Q E s := by
  obtain ⟨o, at1, cls1, dat1⟩ := sli
  unfold Builtin.Slice.sliceApplied
  unfold Builtin.Slice.sliceFields
  refine wpAny_bind (wpAny_bind (wpAny_field at1 dat1 (x := .none) rfl (wpAny_bind (wpAny_field at1 dat1 (x := .none) rfl (wpAny_bind (wpAny_field at1 dat1 (x := .int (-1) u) rfl (wpAny_pure ?_)))))))
  refine wpAny_bind (slicePart_int ?_)
  show wpAny _ _ (if ((-1 : Int) == 0) = true then _ else _) _ _ s
  rw [if_neg (by decide)]
  refine wpAny_bind (slicePart_none (wpAny_bind (slicePart_none (wpAny_bind (wpAny_pure ?_)))))
  have e : (match Builtin.Slice.sliceAdjust none none (-1) (n : Int) with | (lo, hi) => (lo, (-1 : Int), Builtin.Slice.slicePlaces lo hi (-1))) = ((n : Int) - 1, -1, n) := by
    rw [adjust_rev]
    show ((n : Int) - 1, (-1 : Int), Builtin.Slice.slicePlaces ((n : Int) - 1) (-1) (-1)) = _
    rw [places_rev]
  have go2 := go
  rw [← e] at go2
  exact wpAny_pure go2
set_option maxHeartbeats 1600000 in
theorem item_rev {t sl : Addr} {arr : Array Value} {u : Tok} {Q : Value → Shared → Prop} (tup : IsTup s.heap t arr) (sli : s.heap.IsSliceOf sl .none .none (.int (-1) u)) (small : arr.size ≤ sizeLine)
    (go : Q (.ref s.heap.objs.size) { s with heap := s.heap.push { cls := .type "tuple", data := .seq arr.toList.reverse.toArray } }) : wpAny (model prog w) A (getItem (.ref t) (.ref sl)) Q E s := by
  have fits : sizeOk (.seq arr.toList.reverse.toArray) := by
    show arr.toList.reverse.toArray.size ≤ sizeLine
    rw [List.size_toArray, List.length_reverse, Array.length_toList]
    exact small
  have isS : s.TypeIs (.ref sl) "slice" := by
    obtain ⟨o, at1, cls1, _⟩ := id sli
    exact ⟨o, at1, cls1⟩
  unfold getItem
  try (with_reducible refine wpAny_holding ?_)
  first | (refine wpAny_bind (wpAny_pure ?_)) | skip
  refine wpAny_bind (wpAny_sequenceKey tup.typeIs (by decide) (wpAny_bind (wpAny_callSpecial?_slot (name := Str.ofString "__getitem__") tup.typeIs PyProof.Rows.slot_tuple_getitem
    (wpAny_call_entry PyProof.Rows.slot_tuple_getitem tup.typeIs entry_tuple_getitem ?_ (args_tuple_getitem _ _)))))
  show wpAny _ _ (Builtin.Tuple.tupleItemsOf (Value.ref t) >>= _) _ _ s
  refine wpAny_bind (tupleItemsOf_ tup (wpAny_bind (wpAny_typeOf isS ?_)))
  rw [if_pos (by decide)]
  refine wpAny_bind (applied_rev sli ?_)
  have no : ¬ ((((arr.size : Int) - 1 == 0) && ((-1 : Int) == 1) && (arr.size == arr.size)) = true) := by
    rw [show ((-1 : Int) == 1) = false from rfl, Bool.and_false, Bool.false_and]
    exact Bool.false_ne_true
  show wpAny _ _ (if ((((arr.size : Int) - 1 == 0) && ((-1 : Int) == 1) && (arr.size == arr.size)) = true) then _ else _) _ _ s
  rw [if_neg no, pick_rev]
  first | exact wpAny_bind (m := Builtin.Tuple.tupleExact _) (wpAny_newObj_type (wpAny_pure ⟨_, rfl, wpAny_pure go⟩) fits) | exact wpAny_bind (m := Builtin.Tuple.tupleExact _) (wpAny_newObj_type (wpAny_bind (wpAny_pure (wpAny_pure ⟨_, rfl, wpAny_pure go⟩))) fits) | exact wpAny_bind (wpAny_bind (m := Builtin.Tuple.tupleExact _) (wpAny_newObj_type (wpAny_pure (wpAny_pure ⟨_, rfl, wpAny_pure go⟩)) fits)) | exact wpAny_bind (wpAny_bind (m := Builtin.Tuple.tupleExact _) (wpAny_newObj_type (wpAny_pure ⟨_, rfl, wpAny_pure go⟩) fits))
end
def tRevT (K : PySem.W.Frag) (te : TE) : TE := fun σ H Q => te σ H fun x H1 => ∃ a xs, x = .ref a ∧ SqT K H1 a xs ∧ ∀ p, H1 p = Option.none → Q (.ref p) (upd H1 p (.tup xs.reverse))
theorem pe_revT {X : Cx} {K : PySem.W.Frag} (hK : X.K = K) {e : Expr} {te : TE} {k : Nat} {p1 p2 p3 pos : Pos} (he : PE X e te) : PE X (.Subscript e (.Slice Option.none Option.none (some (.UnaryOp .USub (.Constant (.int 1) k p1) p2)) p3) pos) (tRevT K te) := by
  subst hK
  refine ⟨fun pins s σ H Q inv hyp => Subscript_ (thn (he.run pins s σ H _ inv hyp) fun v s1 ⟨x, H1, inv1, rel, a, xs, ex, seq, go⟩ => ?_)⟩
  subst ex
  cases rel
  have step : PO X (some (.UnaryOp .USub (.Constant (.int 1) k p1) p2)) (tPart (tUn (rU fun i => .int (-i)) (tC (.int 1)))) := po_some (pe_un un_neg pe_int)
  refine wpAny_Slice (thn (po_none.run pins s1 σ H1 (fun o J => o = Option.none ∧ J = H1) inv1 ⟨rfl, rfl⟩) fun vl s2 ⟨l, J1, inv2, pl, el, e1⟩ => ?_)
  subst el e1
  refine thn (po_none.run pins s2 σ J1 (fun o J => o = Option.none ∧ J = J1) inv2 ⟨rfl, rfl⟩) fun vu s3 ⟨l2, J2, inv3, pu, eu, e2⟩ => ?_
  subst eu e2
  refine thn (step.run pins s3 σ J2 (fun o J => o = some (-1) ∧ J = J2) inv3 ⟨1, rfl, -1, rfl, rfl, rfl⟩) fun vs s4 ⟨o, J3, inv4, ps, eo, e3⟩ => ?_
  subst eo e3
  obtain ⟨tk, ek⟩ : ∃ t, vs = Value.int (-1) t := by
    cases ps
    exact ⟨_, rfl⟩
  have el : vl = Value.none := by
    cases pl
    rfl
  have eu : vu = Value.none := by
    cases pu
    rfl
  subst ek el eu
  have inv5 : L2.Inv X pins σ J3 { s4 with heap := s4.heap.push { cls := .type "slice", data := .fields #[Value.none, Value.none, Value.int (-1) tk] } } := inv4.kept (t' := s4.toks) fun b ob q => Heap.get?_push_of_some _ q
  obtain ⟨its, rv, tup, small⟩ := inv5.tuple seq
  show wpAny (model X.prog X.w) X.A (subscriptTail e (.Slice Option.none Option.none (some (.UnaryOp .USub (.Constant (.int 1) k p1) p2)) p3) (.ref a) (.ref s4.heap.objs.size)) (EP X pins σ Q) X.xe { s4 with heap := s4.heap.push { cls := .type "slice", data := .fields #[Value.none, Value.none, Value.int (-1) tk] } }
  refine tail_any (ops := [.ref a, .ref s4.heap.objs.size]) tup.typeIs PyProof.Rows.slot_tuple_getitem.lookup (item_rev tup (Heap.IsSliceOf.new _ Value.none Value.none (Value.int (-1) tk)) (by rw [List.size_toArray, ← rv.length]; exact small) ?_) (by with_unfolding_all rfl)
  refine ⟨.ref _, _, inv5.laid (t' := s4.toks) (o := .tup xs.reverse) (fun b ob q => Heap.get?_push_of_some _ q) (Nat.le_refl _) ⟨by rw [List.length_reverse]; exact small, _, rv.reverse, IsTup.new _ _⟩, rfl, go _ (inv5.hok.fresh (Nat.le_refl _))⟩
/-! ### o.m(p1=.., p2=..): a method, its arguments by name, in their order -/
structure MetN (P : Program) (w : World) (K : PySem.W.Frag) (mg : Str → Option Value) (base : Heap) (k : Nat) (C : Addr) (m : Str) (sp : Sp) (ks : List Str) (gV : List V → List V → List V) : Prop where
  ex : ∃ (f : Addr) (fd : FuncData) (ps : List Str) (g : List Value → List Value → List Value), Cls K C ∧ Meth K C m f ∧ FnOk P w K mg base C8.CX0 k f fd ps sp ∧ KBn K fd ps 1 ks g gV
def tMethN (C : Addr) (m : Str) (nk : Nat) (sp : Sp) (gV : List V → List V → List V) (ta : TE) (tk : TA) : TE := fun σ H Q => ta σ H fun x H1 => ∃ a dx fs, x = .ref a ∧ H1 a = some (.ins C dx fs) ∧ fs.lookup m = Option.none ∧
  tk σ H1 fun zs H2 => zs.length = nk ∧ sp (gV [V.ref a] zs) H2 Q C8.E0
def kwGm {α : Type} (us ws : List α) : List α := match us, ws with
  | [a], [x, y] => [a, x, y]
  | _, _ => []
theorem kwm_of {K : PySem.W.Frag} {x qual : Str} {params : Arguments} {body : List Stmt} {scope : Scope} {kws : List (Str × V)} {f : Addr} {fd : FuncData} {p0 p1 p2 : Str} (F : FunD K x qual params body scope [] kws f fd)
    (h : ∀ (kV doc pm : Value) (an : Option Addr) (cdv ct : Value) (a u v : Value), bindArgs (PySem.W.fnOf x qual params body scope .none kV doc pm an cdv ct) ⟨[a], [(p1, u), (p2, v)]⟩ = pure [(p0, a), (p1, u), (p2, v)]) : KBn K fd [p0, p1, p2] 1 [p1, p2] kwGm kwGm := by
  obtain ⟨oc, od, dV, kV, doc, pm, an, cdv, ct, osl, efd, lk, hcd, hD, hK⟩ := F.ex
  subst efd
  rcases hD with ⟨_, ed⟩ | ⟨e, _⟩
  · subst ed
    refine ⟨fun s us ws _ l1 l2 => ?_, fun {vs us zs ws} r1 r2 => ?_⟩
    · match us, ws, l1, l2 with
      | [a], [u, v], _, _ => exact .of_eq (h kV doc pm an cdv ct a u v)
    · match vs, us, zs, ws, r1, r2 with
      | [], _, _, _, .nil, _ => exact .nil
      | [_], _, [], _, .cons _ .nil, .nil => exact .nil
      | [_], _, [_], _, .cons _ .nil, .cons _ .nil => exact .nil
      | [_], _, [_, _], _, .cons a .nil, .cons b (.cons c .nil) => exact .cons a (.cons b (.cons c .nil))
      | [_], _, _ :: _ :: _ :: _, _, .cons _ .nil, .cons _ (.cons _ (.cons _ _)) => exact .nil
      | _ :: _ :: _, _, _, _, .cons _ (.cons _ _), _ => exact .nil
  · exact absurd rfl e
theorem pe_mtN {X : Cx} {k j : Nat} {C : Addr} {m : Str} {sp : Sp} {ks : List Str} {gV : List V → List V → List V} {o : Expr} {ta : TE} {tk : TA} {kws : List Keyword} {apos pos : Pos} {pl : Sem Bool} (c : MetN X.prog X.w X.K X.mg X.base k C m sp ks gV) (hr : Room j X.A) (hk : k ≤ j) (he : PE X o ta) (hkw : PK X kws tk)
    (hall : (backToKw pos (keywordEach kws X.env)).all (·.1.isSome) = true := by rfl) (hks : (backToKw pos (keywordEach kws X.env)).filterMap (·.1) = ks := by rfl)
    (hpl : ((backTo pos (starEach [] X.env)).any (·.1) || (backToKw pos (keywordEach kws X.env)).any (·.1.isNone)) = false := by rfl)
    (ht : eval (.Call (.Attribute o m apos) [] kws pos) X.env = (do
      let ov ← eval o X.env
      standAt apos.atName
      let (f, first) ← holding [ov] (getMethod ov m (pl))
      callWith pos f first (backTo pos (starEach [] X.env)) (backToKw pos (keywordEach kws X.env))) := by rfl) : PE X (.Call (.Attribute o m apos) [] kws pos) (tMethN C m ks.length sp gV ta tk) := by
  obtain ⟨f, fd, ps, g, cl, hm, F, hb⟩ := c.ex
  refine ⟨fun pins s σ H Q inv hyp => PySem.W.methodCall_KW (pl := pl) (thn (he.run pins s σ H _ inv hyp) fun u s1 ⟨x, H1, inv1, rx, a, dx, fs, ex, ea, lk, more⟩ => ?_) ht⟩
  subst ex
  cases rx
  refine getmeth_ok inv1 ea cl hm lk ?_
  refine PySem.W.callWith_KW0 (first := [Value.ref a]) (h₀ := X.base) inv.ok.mod.kin hm.kp hall (thn (hkw.run pos pins s1 σ H1 _ inv1 more) fun ws s2 ⟨zs, H2, inv2, rz, len, fin⟩ => ⟨inv2.kIn, ?_⟩) hpl
  rw [hks]
  have pass : Passes C8.CX0 X C8.E0 := C8.pass0
  have rel := hb.rel (vs := [V.ref a]) (us := [Value.ref a]) (.cons rfl .nil) rz
  refine wpAny_call (codeAny_mono (F.run X.A X.stack s2 H2 ⟨[Value.ref a], ks.zip ws⟩ (g [Value.ref a] ws) (gV [V.ref a] zs) Q C8.E0 (hr.mono hk) inv2.env0 (hb.to s2 [Value.ref a] ws inv2.kIn rfl (rz.length.symm.trans len)) rel fin) fun res s3 hres => ?_)
  cases res with
  | error e => exact pass pins σ H2 s2 e s3 inv2 hres
  | ok fl =>
    cases fl with
    | ret u => exact inv2.after hres
    | _ => exact False.elim hres
/-! ### C(k=.., ..): an instance, all arguments by name -/
theorem pe_mkK {X : Cx} {k j : Nat} {x : Str} {C : Addr} {sp : Sp} {ks : List Str} {gV : List V → List V → List V} {p pos : Pos} {kws : List Keyword} {tk : TA} (c : MakN X.prog X.w X.K X.mg X.base k x C sp 0 ks gV) (hr : Room j X.A) (hk : k + 1 ≤ j) (hg : Gl X x) (hkw : PK X kws tk)
    (hall : ((backToKw pos (keywordEach kws X.env)).all (·.1.isSome)) = true := by rfl) (hks : (backToKw pos (keywordEach kws X.env)).filterMap (·.1) = ks := by rfl) (hdb : (x == ("__debug__" : Str)) = false := by decide)
    (hpl : ((backTo pos (starEach [] X.env)).any (·.1) || (backToKw pos (keywordEach kws X.env)).any (·.1.isNone)) = false := by rfl) : PE X (.Call (.Name x p) [] kws pos) (tMakeK C 0 ks.length sp gV C8.E0 tNil tk) := by
  obtain ⟨f, fd, ps, g, M, F, hm, hb⟩ := c.ex
  exact pe_makeK0 M F (hr.mono hk) hg hm hb C8.pass0 hkw hall hks hdb hpl
/-! ### + of tuples and parts of them, over a K of its own -/
theorem catTK {X : Cx} {K : PySem.W.Frag} (h : X.K = K) : OpR X (binaryOp .Add) (rCatT K) := by subst h; exact op_catT
theorem slTK {X : Cx} {K : PySem.W.Frag} (h : X.K = K) : SlR X (rSlT K) := by subst h; exact sl_tup
end My
namespace My
open PyProof.Rows PySem.Spec PySem L2
section
variable {X : Cx} {K : PySem.W.Frag} {o e : Expr} {to te : TE} {apos pos : Pos}
/-! ### sep.join(xs) -/
def rJoin (K : PySem.W.Frag) : V → List V → Hp → VK → Prop := fun x xs H Q => ∃ a p, ∃ ys : List Str, x = .str a ∧ xs = [.ref p] ∧ (SqL K H p (ys.map V.str) ∨ SqT K H p (ys.map V.str)) ∧ (ys.map (·.length)).sum + ys.length * a.length ≤ 16777216 ∧ Q (.str (Txt.join a ys)) H
theorem pe_joinK (h : X.K = K) (ho : PE X o to) (he : PE X e te) (hs : starEach [e] X.env = [(false, eval e X.env)] := by rfl) (hbase : attributeBase o "join" X.env (eval o X.env) = eval o X.env := by rfl) (hline : (apos.endLine == pos.line) = true := by rfl) :
    PE X (.Call (.Attribute o "join" apos) [e] [] pos) (tM1 (rJoin K) to te) := by
  subst h
  exact pe_join ho he hs hbase hline
end
end My
namespace My
open PyProof.Rows PySem.Spec PySem L2
section
variable {X : Cx} {K : PySem.W.Frag}
/-! ### xs[i], xs a list or a tuple -/
def rIxB (K : PySem.W.Frag) : R2 := fun x y H Q => rIxL K x y H Q ∨ rIxT K x y H Q
theorem ix_bothK (h : X.K = K) : IxR X (rIxB K) := by
  subst h
  intro value slice pins s σ H x y v u Q I rx ry hw hs
  rcases hw with hw | hw
  · exact ix_list value slice pins s σ H x y v u Q I rx ry hw hs
  · exact ix_tup value slice pins s σ H x y v u Q I rx ry hw hs
end
end My
namespace My
open PyProof.Rows PySem.Spec PySem L2
/-! ### f(a=..): the only argument by name -/
def kwG1 {α : Type} (us ws : List α) : List α := match us, ws with
  | [], [x] => [x]
  | _, _ => []
structure CalK1 (P : Program) (w : World) (K : PySem.W.Frag) (mg : Str → Option Value) (base : Heap) (k : Nat) (x : Str) (sp : Sp) (p1 : Str) : Prop where
  ex : ∃ (f : Addr) (fd : FuncData), FnOk P w K mg base C8.CX0 k f fd [p1] sp ∧ mg x = some (.ref f) ∧ PySem.W.keepIn K (.ref f) = true ∧ KBinds K fd [p1] [p1] kwG1 kwG1
theorem kw1_of {K : PySem.W.Frag} {x qual : Str} {params : Arguments} {body : List Stmt} {scope : Scope} {kws : List (Str × V)} {f : Addr} {fd : FuncData} {p1 : Str} (F : FunD K x qual params body scope [] kws f fd)
    (h : ∀ (kV doc pm : Value) (an : Option Addr) (cdv ct : Value) (u : Value), bindArgs (PySem.W.fnOf x qual params body scope .none kV doc pm an cdv ct) ⟨[], [(p1, u)]⟩ = pure [(p1, u)]) : KBinds K fd [p1] [p1] kwG1 kwG1 := by
  obtain ⟨oc, od, dV, kV, doc, pm, an, cdv, ct, osl, efd, lk, hcd, hdv, hK⟩ := F.ex
  subst efd
  rcases hdv with ⟨_, edv⟩ | ⟨e, _⟩
  · subst edv
    refine ⟨fun s us ws _ len => ?_, fun {vs us zs ws} r1 r2 => ?_⟩
    · match us, ws, len with
      | [], [u], _ => exact .of_eq (h kV doc pm an cdv ct u)
    · match vs, us, zs, ws, r1, r2 with
      | [], _, [], _, .nil, .nil => exact .nil
      | [], _, [_], _, .nil, .cons a .nil => exact .cons a .nil
      | [], _, _ :: _ :: _, _, .nil, .cons _ (.cons _ _) => exact .nil
      | _ :: _, _, _, _, .cons _ _, _ => exact .nil
  · exact absurd rfl e
theorem pe_kw1 {X : Cx} {k j : Nat} {x p1 : Str} {sp : Sp} {p pos : Pos} {kws : List Keyword} {tk : TA} (c : CalK1 X.prog X.w X.K X.mg X.base k x sp p1) (hr : Room j X.A) (hk : k ≤ j) (hg : Gl X x) (hkw : PK X kws tk)
    (hall : (backToKw pos (keywordEach kws X.env)).all (·.1.isSome) = true := by rfl) (hks : (backToKw pos (keywordEach kws X.env)).filterMap (·.1) = [p1] := by rfl) (hdb : (x == ("__debug__" : Str)) = false := by decide)
    (hpl : ((backTo pos (starEach [] X.env)).any (·.1) || (backToKw pos (keywordEach kws X.env)).any (·.1.isNone)) = false := by rfl) : PE X (.Call (.Name x p) [] kws pos) (tCallK sp kwG1 C8.E0 tNil tk) := by
  obtain ⟨f, fd, F, hm, kp, hb⟩ := c.ex
  refine ⟨fun pins s σ H Q inv hyp => ?_⟩
  refine wpAny_Call_Name_kw (ld_glob inv hg hm ?_ hdb)
  refine PySem.W.callWith_KW0 (h₀ := X.base) inv.ok.mod.kin kp hall (thn (hkw.run pos pins s σ H _ inv hyp) fun ws s2 ⟨zs, H2, inv2, rz, q2⟩ => ⟨inv2.kIn, ?_⟩) hpl
  rw [hks]
  exact run_fnk (us := []) F (hr.mono hk) hb C8.pass0 inv2 .nil rz q2
end My
namespace My
open PyProof.Rows PySem.Spec PySem L2
/-! ### for i, x in enumerate(t, start=k), t a tuple -/
/-- the tuple at a, each item in a new pair, counted from k on -/
def IteT (K : PySem.W.Frag) (a : Addr) (k : Int) : It :=
  ⟨fun i H => ∃ (xs : List V) (x : V), SqT K H a xs ∧ xs[i]? = some x,
   fun i H v H' => ∃ T x, v = .ref T ∧ H T = Option.none ∧ H' = upd H T (.tup [.int (k + ((i : Nat) : Int)), x]) ∧ ∀ xs, SqT K H a xs → xs[i]? = some x,
   fun i H => ∃ xs : List V, SqT K H a xs ∧ xs.length ≤ i⟩
theorem enumT_end {prog : Program} {w : World} {A : Around} {E : Value → Shared → Prop} {s : Shared} {e it a : Addr} {c : Int} {i : Nat} {items : Array Value} {old : Value} {Q : Option Value → Shared → Prop} (calm : A.handled = Option.none) (isE : IsEnum s.heap e it c old)
    (isI : s.heap.IsTupleIter it a i) (tupIs : s.heap.IsTuple a items) (over : items[i]? = Option.none) (go : ∀ h', Heap.ExtBut it s.heap h' → Q Option.none { s with heap := h' }) : wpAny (model prog w) A (pyNext (.ref e)) Q E s := by
  have typ : s.TypeIs (.ref e) "enumerate" := ⟨_, isE, rfl⟩
  unfold pyNext
  refine wpAny_bind (wpAny_attempt (wpAny_callSpecial?_slot (name := Str.ofString "__next__") typ F.slot_enumerate_next (wpAny_call_entry F.slot_enumerate_next typ F.entry_enumerate_next ?_ (F.args_enumerate_next_1 _))))
  show wpAny _ _ (field (Value.ref e) 2 >>= _) _ _ _
  refine wpAny_bind (wpAny_field isE rfl (x := .ref it) rfl (wpAny_bind (wpAny_nextOf_tuple_end calm isI tupIs over fun h' x ext raised => ?_)))
  obtain ⟨ob, at0, cls0⟩ := raised
  exact wpAny_bind (wpAny_isInstance (T := "StopIteration") (b := true) ⟨ob, at0, cls0⟩ isSubtype_stop (wpAny_pure (go _ ext)))
theorem turn_enumT {P : Program} {w : World} {K : PySem.W.Frag} {elts : List Expr} {kk : Nat} {tpos : Pos} (a e it : Addr) (k : Int) :
    Turn P w K (.Tuple elts kk tpos) (IteT K a k) [e, it] e (fun i h => (∃ old, IsEnum h e it (k + ((i : Nat) : Int)) old) ∧ h.IsTupleIter it a i ∧ e ≠ it ∧ a ≠ it ∧ e ≠ a) where
  mem := List.mem_cons_self ..
  obj := fun i h st b hb => by
    obtain ⟨⟨old, isE⟩, ⟨ob, atI, clsI, datI⟩, _⟩ := st
    rcases (by simpa using hb : b = e ∨ b = it) with z | z
    · subst z; exact ⟨_, isE, fun v bad => nomatch bad⟩
    · subst z; exact ⟨ob, atI, fun v bad => by rw [datI] at bad; cases bad⟩
  keep := fun i h h' st kp => let ⟨⟨old, isE⟩, isI, ne⟩ := st; ⟨⟨old, kp e (by simp) _ isE⟩, isI.at fun ob at0 => kp it (by simp) ob at0, ne⟩
  item := by
    intro X eP eW eK calm i pins s σ H E inv fpo st going
    subst eP eW eK
    obtain ⟨⟨old, isE⟩, isI, nei, nai, nea⟩ := st
    obtain ⟨xs, x, seq, at1⟩ := going
    obtain ⟨its, rv, tupIs, small⟩ := inv.tuple seq
    obtain ⟨u, atU, relU⟩ := rv.get at1
    have eLt : e < s.heap.objs.size := Heap.lt_size isE
    have iLt : it < s.heap.objs.size := by obtain ⟨_, at0, _⟩ := isI; exact Heap.lt_size at0
    have tupIs2 : s.heap.IsTuple a its.toArray := tupIs
    have lt1 : i < its.toArray.size := by
      have := (List.getElem?_eq_some_iff.mp atU).1
      simpa using this
    refine wpAny_pyNext_enum_itemC (Draws.tuple (A := X.A.in1) (show X.A.in1.handled = Option.none from inv.ok.hd calm) it a nai its.toArray) isE ⟨isI, tupIs2⟩ lt1 nei (by simp; exact ⟨nei, nea⟩) fun x1 h' tk drew out' st' atT size' rest => ?_
    have ex : x1 = u := by
      have e1 : its.toArray[i]? = some x1 := drew
      rw [List.getElem?_toArray, atU] at e1
      exact (Option.some.inj e1).symm
    subst ex
    refine ⟨_, rfl, wpAny_letOwnedTupleGo_enum (s := { s with heap := h', toks := tk + 1 }) out' fun h2 isE2 same2 => ?_⟩
    have atT2 : h2.get? s.heap.objs.size = some { cls := .type "tuple", data := .seq #[.int (k + ((i : Nat) : Int)) tk, x1] } := (same2.2 _ (Nat.ne_of_gt eLt)).trans atT
    have fresh1 : ObjOk X.prog X.w (upd H s.heap.objs.size (.tup [.int (k + ((i : Nat) : Int)), x])) h2 s.heap.objs.size (.tup [.int (k + ((i : Nat) : Int)), x]) :=
      ⟨by show 2 ≤ sizeLine; decide, [.int (k + ((i : Nat) : Int)) tk, x1], .cons ⟨_, rfl⟩ (.cons relU .nil), ⟨_, atT2, rfl, _, rfl⟩⟩
    have inv1 : Inv X pins σ (upd H s.heap.objs.size (.tup [.int (k + ((i : Nat) : Int)), x])) { s with heap := h2, toks := tk + 1 } :=
      inv.turnedNew (ch := [e, it]) (fun b ob nb at0 => (same2.2 b (fun z => nb (by simp [z]))).trans (rest b ob (fun z => nb (by simp [z])) (fun z => nb (by simp [z])) at0)) fpo (Nat.le_refl _) fresh1
    refine ⟨.ref s.heap.objs.size, _, inv1, rfl, ⟨_, x, rfl, inv.hok.fresh (Nat.le_refl _), rfl, fun ys sq => by rw [inv.tuple_inj sq seq]; exact at1⟩, ⟨⟨x1, ?_⟩, st'.1.at fun ob at0 => (same2.2 it (Ne.symm nei)).trans at0, nei, nai, nea⟩, fun b hb => ?_⟩
    · have e1 : k + (((i + 1 : Nat)) : Int) = k + (i : Int) + 1 := by omega
      rw [e1]
      exact isE2
    · have lt2 : b < s.heap.objs.size := by
        rcases (by simpa using hb : b = e ∨ b = it) with z | z
        · subst z; exact eLt
        · subst z; exact iLt
      rw [upd_ne (Nat.ne_of_lt lt2)]
      exact (fpo b hb).1
  done := by
    intro X eP eW eK calm i pins s σ H E inv fpo st stops
    subst eP eW eK
    obtain ⟨⟨old, isE⟩, isI, nei, nai, nea⟩ := st
    obtain ⟨xs, seq, over⟩ := stops
    obtain ⟨its, rv, tupIs, small⟩ := inv.tuple seq
    have len := rv.length
    refine enumT_end (inv.ok.hd calm) isE isI (show s.heap.IsTuple a its.toArray from tupIs) (by simp; omega) fun h' same => ⟨rfl, ?_⟩
    obtain ⟨f0, f1, f2, f3, f4, f5⟩ := fpo it (by simp)
    exact inv.turned (t' := s.toks) (fun b ob nb at0 => same b ob nb at0) f0 f1 f3 f4 f5
  self := fun A i s Q E st hyp => let ⟨⟨_, isE⟩, _⟩ := st; wpAny_pyIter_enum isE hyp
/-- a call of a built-in class, the last arguments by name -/
theorem callTyKw {M : Model} {A : Around} {E : Value → Shared → Prop} {s : Shared} {env : Env} {pos : Pos} {T : String} {e : Expr} {rest : List Expr} {kws : List Keyword} {Q : Value → Shared → Prop}
    (hyp : wpAny M A (spliced (backTo pos (starEach (e :: rest) env))) (fun vs s1 => wpAny M A (evalAll ((backToKw pos (keywordEach kws env)).map (·.2))) (fun us s2 => wpAny M A (call (.type T) vs (((backToKw pos (keywordEach kws env)).filterMap (·.1)).zip us)) Q E s2) E s1) E s)
    (first : backTo pos (starEach (e :: rest) env) = (false, eval e env) :: backTo pos (starEach rest env)) (plain : (backTo pos (starEach (e :: rest) env)).any (·.1) = false)
    (named : (backToKw pos (keywordEach kws env)).all (·.1.isSome) = true) (noStars : (backToKw pos (keywordEach kws env)).any (·.1.isNone) = false) :
    wpAny M A (callWith pos (.type T) [] (backTo pos (starEach (e :: rest) env)) (backToKw pos (keywordEach kws env))) Q E s := by
  have args : wpAny M A (evalArgs (.type T) true (backTo pos (starEach (e :: rest) env)) (backToKw pos (keywordEach kws env))) (fun a s1 => wpAny M A (call (.type T) ([] ++ a.pos) a.kw) Q E s1) E s := by
    rw [first] at hyp ⊢
    exact evalArgs_kwB named hyp
  unfold callWith
  refine wpAny_bind (wpAny_holding (wpAny_mono args (fun a s1 h1 => wpAny_bind (wpAny_standAt ?_)) fun _ _ bad => bad))
  simp only [plain, noStars, Bool.or_false]
  exact wpAny_bind (wpAny_pure (wpAny_bind (wpAny_mono h1 (fun r s2 h2 => wpAny_bind (wpAny_holding (wpAny_point (wpAny_pure h2)))) fun _ _ bad => bad)))
/-- enumerate(t, start=k) -/
def iEnumT (K : PySem.W.Frag) (ta tk : TA) : TI := fun σ H R => ta σ H fun vs H1 => tk σ H1 fun zs H2 => ∃ a xs k, vs = [.ref a] ∧ zs = [.int k] ∧ -(2 ^ 63) ≤ k ∧ k < 2 ^ 63 ∧ SqT K H2 a xs ∧ R (IteT K a k) H2
theorem pi_enumT {X : Cx} {K : PySem.W.Frag} {e : Expr} {ta tk : TA} {p pos tpos : Pos} {elts : List Expr} {kk : Nat} {kws : List Keyword} (h : X.K = K) (hg : Gl X "enumerate") (hm : X.mg "enumerate" = Option.none) (ha : PA X [e] ta) (hk : PK X kws tk)
    (he : backTo pos (starEach [e] X.env) = (false, eval e X.env) :: backTo pos (starEach [] X.env) := by rfl) (hpl : (backTo pos (starEach [e] X.env)).any (·.1) = false := by rfl)
    (hall : (backToKw pos (keywordEach kws X.env)).all (·.1.isSome) = true := by rfl) (hnone : (backToKw pos (keywordEach kws X.env)).any (·.1.isNone) = false := by rfl) (hks : (backToKw pos (keywordEach kws X.env)).filterMap (·.1) = [Str.ofString "start"] := by rfl) :
    PI X (.Tuple elts kk tpos) (.Call (.Name "enumerate" p) [e] kws pos) (iEnumT K ta tk) := by
  subst h
  refine ⟨fun pins s σ H R inv hyp => ?_⟩
  refine wpAny_Call_Name_kw (ld_blt inv hg hm boot_enumerate ?_)
  refine callTyKw (thn (ha.run pos pins s σ H _ inv hyp) fun us s1 ⟨vs, H1, inv1, r1, q1⟩ => thn (hk.run pos pins s1 σ H1 _ inv1 q1) fun ws s2 ⟨zs, H2, inv2, r2, q2⟩ => ?_) he hpl hall hnone
  rw [hks]
  obtain ⟨a, xs, k, ev, ez, k0, k1, seq, go⟩ := q2
  subst ev ez
  cases r1 with
  | cons ra rr =>
    cases rr
    cases ra
    cases r2 with
    | cons rk rr =>
      cases rr
      obtain ⟨tk1, ek⟩ := rk
      subst ek
      obtain ⟨its, rv, tupIs, small⟩ := inv2.tuple seq
      have tup2 : s2.heap.IsTuple a its.toArray := tupIs
      have aLt : a < s2.heap.objs.size := by obtain ⟨_, at0, _⟩ := tup2; exact Heap.lt_size at0
      refine enum_begins_start (begins_tuple a its.toArray) tup2 k0 k1 fun h' isE atI size' rest => wpAny_pyIter_enum isE ?_
      have inv3 : Inv X pins σ H2 { s2 with heap := h' } := inv2.kept (t' := s2.toks) rest
      refine ⟨s2.heap.objs.size + 1, [s2.heap.objs.size + 1, s2.heap.objs.size], _, _, H2, rfl, inv3, turn_enumT a (s2.heap.objs.size + 1) s2.heap.objs.size k, ⟨⟨.none, ?_⟩, ⟨_, atI, rfl, rfl⟩, Nat.succ_ne_self _, Nat.ne_of_lt aLt, Nat.ne_of_gt (Nat.lt_succ_of_lt aLt)⟩, fun b hb => ?_, go⟩
      · have e0 : k + ((0 : Nat) : Int) = k := by omega
        rw [e0]
        exact isE
      · have le1 : s2.heap.objs.size ≤ b := by
          rcases (by simpa using hb : b = s2.heap.objs.size + 1 ∨ b = s2.heap.objs.size) with z | z
          · rw [z]; exact Nat.le_add_right _ 1
          · rw [z]; exact Nat.le_refl _
        exact inv2.fpOk le1 (inv2.hok.fresh le1)
theorem walk_enumT {K : PySem.W.Frag} {a : Addr} {xs : List V} {k : Int} : Walk (IteT K a k) xs.length (fun H => SqT K H a xs) (YPair (fun i => some (.int (k + ((i : Nat) : Int)))) (fun i => xs[i]?)) := by
  refine ⟨fun i _ lt seq => ⟨xs, xs[i], seq, by simp [lt]⟩, fun _ seq => ⟨xs, seq, Nat.le_refl _⟩, fun i H v H' _ seq drew => ?_⟩
  obtain ⟨T, x, e1, e2, e3, at1⟩ := drew
  exact ⟨T, .int (k + ((i : Nat) : Int)), x, e1, e2, e3, rfl, at1 xs seq⟩
theorem len_anyK {X : Cx} {K : PySem.W.Frag} (h : X.K = K) : CallR X (.builtin "len") (fun xs H Q => ∃ x n, xs = [x] ∧ LenV K x H n ∧ Q (.int n) H) := by
  subst h
  exact call_len
/-! ### what isinstance asks of an instance; == by an own __eq__ -/
def insB (K : PySem.W.Frag) (C : Addr) : Bool := He.eqO (PySem.W.findIn K (.ref C) "__class__") (some (some (.builtin "object.__class__"))) && (He.eqO (PySem.W.specialIn K (.builtin "object.__class__") "__get__") (some (some (.builtin "getset_descriptor.__get__"))) &&
  (decide (PySem.W.takesIn K (.builtin "object.__class__") = some true) && decide (PySem.W.mroIn K C (.type "object") = some true)))
theorem insB_ty {K : PySem.W.Frag} {C : Addr} (ok : insB K C = true) (cl : Cls K C) {H : Hp} {a dx : Addr} {fs : List (Str × V)} (e : H a = some (.ins C dx fs)) : TyX K H (.ref a) (.ref C) := by
  obtain ⟨c1, ok⟩ := He.ba ok
  obtain ⟨c2, ok⟩ := He.ba ok
  obtain ⟨c3, c4⟩ := He.ba ok
  exact .base (.ins e cl (He.eqO_ok c1) (He.eqO_ok c2) (of_decide_eq_true c3) (of_decide_eq_true c4))
theorem kit_own {K : PySem.W.Frag} {C : Addr} : PySem.W.kitOne K (.ref C) (.ref C) = some true := by
  unfold PySem.W.kitOne
  exact if_pos (by simp)
theorem op_eqIns {X : Cx} {k j : Nat} {C : Addr} {R : Addr → Addr → Hp → Prop} (c : C8.Met X.prog X.w X.K X.mg X.base k C "__eq__" (spEq R) []) (room : Room j X.A) (hk : k ≤ j) : OpR X (compareOp .Eq) (rEqG (DIns C R)) := by
  obtain ⟨f, fd, ps, ds, cl, me, F, b, d⟩ := c.ex
  cases d
  exact op_eqG (rcG_ins (E := C8.E0) F me.at_ me.fn b C8.pass0) (room.mono hk)
end My
set_option maxHeartbeats 0
namespace K16
open PySem PySem.Spec PyProof.Rows L2
def top (i : Nat) : Stmt := PySem.Challenge.pw_lockerwall_k16_whole_lines_of_books.main.body.getD i (.Pass ⟨0, 0, 0, 0⟩)
abbrev s_is_integer_within : Stmt := top 1
abbrev N_is_integer_within : List Str := ["value", "low", "high"]
theorem sc_is_integer_within : FnScope N_is_integer_within ["value", "low", "high"] (defScope s_is_integer_within) := C8.fnScope_by (by decide +kernel)
def d_is_integer_within : He.DefD := ⟨("is_integer_within", none), "is_integer_within", "is_integer_within", defArgs s_is_integer_within, defBody s_is_integer_within, defScope s_is_integer_within, [], []⟩
abbrev s_is_word : Stmt := top 2
abbrev N_is_word : List Str := ["value", "words"]
theorem sc_is_word : FnScope N_is_word ["value", "words"] (defScope s_is_word) := C8.fnScope_by (by decide +kernel)
def d_is_word : He.DefD := ⟨("is_word", none), "is_word", "is_word", defArgs s_is_word, defBody s_is_word, defScope s_is_word, [], []⟩
abbrev s_are_distinct_words : Stmt := top 3
abbrev N_are_distinct_words : List Str := ["value", "words", "item"]
theorem sc_are_distinct_words : FnScope N_are_distinct_words ["value", "words"] (defScope s_are_distinct_words) := C8.fnScope_by (by decide +kernel)
def d_are_distinct_words : He.DefD := ⟨("are_distinct_words", none), "are_distinct_words", "are_distinct_words", defArgs s_are_distinct_words, defBody s_are_distinct_words, defScope s_are_distinct_words, [], []⟩
abbrev s_is_rule : Stmt := top 16
abbrev N_is_rule : List Str := ["value", "action"]
theorem sc_is_rule : FnScope N_is_rule ["value"] (defScope s_is_rule) := C8.fnScope_by (by decide +kernel)
def d_is_rule : He.DefD := ⟨("is_rule", none), "is_rule", "is_rule", defArgs s_is_rule, defBody s_is_rule, defScope s_is_rule, [], []⟩
abbrev s_Book_init : Stmt := inClass (top 17) 0
abbrev N_Book_init : List Str := ["self", "days", "given", "laid", "left", "opened", "taken", "gone", "late", "power", "rules", "moment", "rule"]
theorem sc_Book_init : FnScope N_Book_init ["self", "days", "given", "laid", "left", "opened", "taken", "gone", "late", "power"] (defScope s_Book_init) := C8.fnScope_by (by decide +kernel)
def d_Book_init : He.DefD := ⟨("Book", some "__init__"), "__init__", "Book.__init__", defArgs s_Book_init, defBody s_Book_init, defScope s_Book_init, [.adr (He.dflAt ("Book", some "__init__") 0), .adr (He.dflAt ("Book", some "__init__") 1), .adr (He.dflAt ("Book", some "__init__") 2), .adr (He.dflAt ("Book", some "__init__") 3), .adr (He.dflAt ("Book", some "__init__") 4), .adr (He.dflAt ("Book", some "__init__") 5), .adr (He.dflAt ("Book", some "__init__") 6), .adr (He.dflAt ("Book", some "__init__") 7)], []⟩
abbrev s_Book_eq : Stmt := inClass (top 17) 1
abbrev N_Book_eq : List Str := ["self", "other"]
theorem sc_Book_eq : FnScope N_Book_eq ["self", "other"] (defScope s_Book_eq) := C8.fnScope_by (by decide +kernel)
def d_Book_eq : He.DefD := ⟨("Book", some "__eq__"), "__eq__", "Book.__eq__", defArgs s_Book_eq, defBody s_Book_eq, defScope s_Book_eq, [], []⟩
abbrev s_Book_days : Stmt := inClass (top 17) 2
abbrev N_Book_days : List Str := ["self"]
theorem sc_Book_days : FnScope N_Book_days ["self"] (defScope s_Book_days) := C8.fnScope_by (by decide +kernel)
def d_Book_days : He.DefD := ⟨("Book", some "days"), "days", "Book.days", defArgs s_Book_days, defBody s_Book_days, defScope s_Book_days, [], []⟩
abbrev s_Book_rule : Stmt := inClass (top 17) 3
abbrev N_Book_rule : List Str := ["self", "moment"]
theorem sc_Book_rule : FnScope N_Book_rule ["self", "moment"] (defScope s_Book_rule) := C8.fnScope_by (by decide +kernel)
def d_Book_rule : He.DefD := ⟨("Book", some "rule"), "rule", "Book.rule", defArgs s_Book_rule, defBody s_Book_rule, defScope s_Book_rule, [], []⟩
abbrev s_Book_rules : Stmt := inClass (top 17) 4
abbrev N_Book_rules : List Str := ["self"]
theorem sc_Book_rules : FnScope N_Book_rules ["self"] (defScope s_Book_rules) := C8.fnScope_by (by decide +kernel)
def d_Book_rules : He.DefD := ⟨("Book", some "rules"), "rules", "Book.rules", defArgs s_Book_rules, defBody s_Book_rules, defScope s_Book_rules, [], []⟩
abbrev s_Book_with_rule : Stmt := inClass (top 17) 5
abbrev N_Book_with_rule : List Str := ["self", "moment", "rule", "rules"]
theorem sc_Book_with_rule : FnScope N_Book_with_rule ["self", "moment", "rule"] (defScope s_Book_with_rule) := C8.fnScope_by (by decide +kernel)
def d_Book_with_rule : He.DefD := ⟨("Book", some "with_rule"), "with_rule", "Book.with_rule", defArgs s_Book_with_rule, defBody s_Book_with_rule, defScope s_Book_with_rule, [], []⟩
abbrev s_Book_with_days : Stmt := inClass (top 17) 6
abbrev N_Book_with_days : List Str := ["self", "days", "rules"]
theorem sc_Book_with_days : FnScope N_Book_with_days ["self", "days"] (defScope s_Book_with_days) := C8.fnScope_by (by decide +kernel)
def d_Book_with_days : He.DefD := ⟨("Book", some "with_days"), "with_days", "Book.with_days", defArgs s_Book_with_days, defBody s_Book_with_days, defScope s_Book_with_days, [], []⟩
abbrev s_Book_taking : Stmt := inClass (top 17) 7
abbrev N_Book_taking : List Str := ["self", "good", "moments", "rules", "moment"]
theorem sc_Book_taking : FnScope N_Book_taking ["self", "good", "moments"] (defScope s_Book_taking) := C8.fnScope_by (by decide +kernel)
def d_Book_taking : He.DefD := ⟨("Book", some "taking"), "taking", "Book.taking", defArgs s_Book_taking, defBody s_Book_taking, defScope s_Book_taking, [], []⟩
abbrev s_book_text : Stmt := top 20
abbrev N_book_text : List Str := ["book", "lines", "moment", "rule"]
theorem sc_book_text : FnScope N_book_text ["book"] (defScope s_book_text) := C8.fnScope_by (by decide +kernel)
def d_book_text : He.DefD := ⟨("book_text", none), "book_text", "book_text", defArgs s_book_text, defBody s_book_text, defScope s_book_text, [], []⟩
abbrev s_read_book : Stmt := top 21
abbrev N_read_book : List Str := ["text", "lines", "days", "rules", "at", "moment", "rule"]
theorem sc_read_book : FnScope N_read_book ["text"] (defScope s_read_book) := C8.fnScope_by (by decide +kernel)
def d_read_book : He.DefD := ⟨("read_book", none), "read_book", "read_book", defArgs s_read_book, defBody s_read_book, defScope s_read_book, [], []⟩
abbrev s_lines_of : Stmt := top 22
abbrev N_lines_of : List Str := ["text"]
theorem sc_lines_of : FnScope N_lines_of ["text"] (defScope s_lines_of) := C8.fnScope_by (by decide +kernel)
def d_lines_of : He.DefD := ⟨("lines_of", none), "lines_of", "lines_of", defArgs s_lines_of, defBody s_lines_of, defScope s_lines_of, [], []⟩
abbrev s_read_number : Stmt := top 23
abbrev N_read_number : List Str := ["figures", "most", "figure"]
theorem sc_read_number : FnScope N_read_number ["figures", "most"] (defScope s_read_number) := C8.fnScope_by (by decide +kernel)
def d_read_number : He.DefD := ⟨("read_number", none), "read_number", "read_number", defArgs s_read_number, defBody s_read_number, defScope s_read_number, [], []⟩
abbrev s_read_days : Stmt := top 24
abbrev N_read_days : List Str := ["line", "word", "_", "figures"]
theorem sc_read_days : FnScope N_read_days ["line"] (defScope s_read_days) := C8.fnScope_by (by decide +kernel)
def d_read_days : He.DefD := ⟨("read_days", none), "read_days", "read_days", defArgs s_read_days, defBody s_read_days, defScope s_read_days, [], []⟩
abbrev s_read_rule : Stmt := top 25
abbrev N_read_rule : List Str := ["line", "moment", "words", "rule"]
theorem sc_read_rule : FnScope N_read_rule ["line", "moment"] (defScope s_read_rule) := C8.fnScope_by (by decide +kernel)
def d_read_rule : He.DefD := ⟨("read_rule", none), "read_rule", "read_rule", defArgs s_read_rule, defBody s_read_rule, defScope s_read_rule, [], []⟩
abbrev s_law_pot : Stmt := top 27
abbrev N_law_pot : List Str := ["script", "k", "cell"]
theorem sc_law_pot : FnScope N_law_pot ["script", "k"] (defScope s_law_pot) := C8.fnScope_by (by decide +kernel)
def d_law_pot : He.DefD := ⟨("_law_pot", none), "_law_pot", "_law_pot", defArgs s_law_pot, defBody s_law_pot, defScope s_law_pot, [], []⟩
abbrev s_law_dip : Stmt := top 28
abbrev N_law_dip : List Str := ["pot", "many", "found", "mixed"]
theorem sc_law_dip : FnScope N_law_dip ["pot", "many"] (defScope s_law_dip) := C8.fnScope_by (by decide +kernel)
def d_law_dip : He.DefD := ⟨("_law_dip", none), "_law_dip", "_law_dip", defArgs s_law_dip, defBody s_law_dip, defScope s_law_dip, [], []⟩
abbrev s_law_rule : Stmt := top 29
abbrev N_law_rule : List Str := ["pot", "some", "k"]
theorem sc_law_rule : FnScope N_law_rule ["pot"] (defScope s_law_rule) := C8.fnScope_by (by decide +kernel)
def d_law_rule : He.DefD := ⟨("_law_rule", none), "_law_rule", "_law_rule", defArgs s_law_rule, defBody s_law_rule, defScope s_law_rule, [], []⟩
abbrev s_law_plan : Stmt := top 30
abbrev N_law_plan : List Str := ["pot", "k"]
theorem sc_law_plan : FnScope N_law_plan ["pot"] (defScope s_law_plan) := C8.fnScope_by (by decide +kernel)
def d_law_plan : He.DefD := ⟨("_law_plan", none), "_law_plan", "_law_plan", defArgs s_law_plan, defBody s_law_plan, defScope s_law_plan, [], []⟩
abbrev s_law_moments : Stmt := top 31
abbrev N_law_moments : List Str := []
theorem sc_law_moments : FnScope N_law_moments [] (defScope s_law_moments) := C8.fnScope_by (by decide +kernel)
def d_law_moments : He.DefD := ⟨("_law_moments", none), "_law_moments", "_law_moments", defArgs s_law_moments, defBody s_law_moments, defScope s_law_moments, [], []⟩
abbrev s_law_alike : Stmt := top 32
abbrev N_law_alike : List Str := ["found", "due", "k"]
theorem sc_law_alike : FnScope N_law_alike ["found", "due"] (defScope s_law_alike) := C8.fnScope_by (by decide +kernel)
def d_law_alike : He.DefD := ⟨("_law_alike", none), "_law_alike", "_law_alike", defArgs s_law_alike, defBody s_law_alike, defScope s_law_alike, [], []⟩
abbrev s_law_line : Stmt := top 33
abbrev N_law_line : List Str := ["word", "row"]
theorem sc_law_line : FnScope N_law_line ["word", "row"] (defScope s_law_line) := C8.fnScope_by (by decide +kernel)
def d_law_line : He.DefD := ⟨("_law_line", none), "_law_line", "_law_line", defArgs s_law_line, defBody s_law_line, defScope s_law_line, [], []⟩
abbrev s_law_lines : Stmt := top 34
abbrev N_law_lines : List Str := ["plan", "words", "k"]
theorem sc_law_lines : FnScope N_law_lines ["plan"] (defScope s_law_lines) := C8.fnScope_by (by decide +kernel)
def d_law_lines : He.DefD := ⟨("_law_lines", none), "_law_lines", "_law_lines", defArgs s_law_lines, defBody s_law_lines, defScope s_law_lines, [], []⟩
abbrev s_law_stepped : Stmt := top 35
abbrev N_law_stepped : List Str := ["pot", "books", "rows", "way", "lines", "words", "spot", "row", "number", "some", "k"]
theorem sc_law_stepped : FnScope N_law_stepped ["pot", "books", "rows"] (defScope s_law_stepped) := C8.fnScope_by (by decide +kernel)
def d_law_stepped : He.DefD := ⟨("_law_stepped", none), "_law_stepped", "_law_stepped", defArgs s_law_stepped, defBody s_law_stepped, defScope s_law_stepped, [], []⟩
abbrev s_law_right : Stmt := top 36
abbrev N_law_right : List Str := ["pot", "rows", "books", "lines", "turn", "now", "page"]
theorem sc_law_right : FnScope N_law_right ["pot"] (defScope s_law_right) := C8.fnScope_by (by decide +kernel)
def d_law_right : He.DefD := ⟨("_law_right", none), "_law_right", "_law_right", defArgs s_law_right, defBody s_law_right, defScope s_law_right, [], []⟩
abbrev s_law : Stmt := top 37
abbrev N_law : List Str := ["script", "k"]
theorem sc_law : FnScope N_law ["script"] (defScope s_law) := C8.fnScope_by (by decide +kernel)
def d_law : He.DefD := ⟨("law", none), "law", "law", defArgs s_law, defBody s_law, defScope s_law, [], []⟩
def fa0 : List He.Fa := [.glo "is_integer_within", .glo "is_word", .glo "are_distinct_words", .glo "is_rule", .glo "book_text", .glo "read_book", .glo "lines_of", .glo "read_number", .glo "read_days", .glo "read_rule", .glo "_law_pot", .glo "_law_dip", .glo "_law_rule", .glo "_law_plan", .glo "_law_moments", .glo "_law_alike", .glo "_law_line", .glo "_law_lines", .glo "_law_stepped", .glo "_law_right"]
def fa1 : List He.Fa := [.glo "law", .glo "Book", .glo "WallError", .glo "NoDays", .glo "NoMoments", .glo "NoRule", .glo "NoMoment", .glo "NoText", .glo "ACTIONS", .glo "MOMENTS", .int "MOST_ACTIONS" 6, .int "MOST_DAYS" 30, .str "FIGURES" "0123456789", .free "len", .free "abs", .free "max", .free "min", .free "isinstance", .free "all", .free "zip"]
def fa2 : List He.Fa := [.free "enumerate", .free "super", .free "ValueError", .free "int", .free "str", .free "bool", .free "list", .free "tuple", .free "set", .free "range", .cls "Book", .noat "Book" "_days", .noat "Book" "_rules", .meth "Book" "__eq__", .meth "Book" "days", .meth "Book" "rule", .meth "Book" "rules", .meth "Book" "with_rule", .meth "Book" "with_days", .meth "Book" "taking"]
def fa3 : List He.Fa := [.mkr "Book"]
def fa : List He.Fa := fa0 ++ fa1 ++ fa2 ++ fa3
def fn0 : List He.DefD := [d_is_integer_within, d_is_word, d_are_distinct_words, d_is_rule, d_Book_init, d_Book_eq, d_Book_days, d_Book_rule, d_Book_rules, d_Book_with_rule, d_Book_with_days, d_Book_taking, d_book_text, d_read_book, d_lines_of, d_read_number, d_read_days, d_read_rule, d_law_pot, d_law_dip]
def fn1 : List He.DefD := [d_law_rule, d_law_plan, d_law_moments, d_law_alike, d_law_line, d_law_lines, d_law_stepped, d_law_right, d_law]
def fn : List He.DefD := fn0 ++ fn1
def exl (K : PySem.W.Frag) : List Bool := [My.tupAt K (He.ga K "ACTIONS") [.str "free", .str "full", .str "off", .str "code", .str "void", .str "look", .str "lock"], My.tupAt K (He.ga K "MOMENTS") [.str "given", .str "laid", .str "left", .str "opened", .str "taken", .str "gone", .str "late", .str "power"], My.tupAt K (He.dflAt ("Book", some "__init__") 0 K) [], My.tupAt K (He.dflAt ("Book", some "__init__") 1 K) [], My.tupAt K (He.dflAt ("Book", some "__init__") 2 K) [], My.tupAt K (He.dflAt ("Book", some "__init__") 3 K) [], My.tupAt K (He.dflAt ("Book", some "__init__") 4 K) [], My.tupAt K (He.dflAt ("Book", some "__init__") 5 K) [], My.tupAt K (He.dflAt ("Book", some "__init__") 6 K) [], My.tupAt K (He.dflAt ("Book", some "__init__") 7 K) [], My.insB K (He.ga K "Book")]
def ex (K : PySem.W.Frag) : Bool := (exl K).all id
structure Txt (K : PySem.W.Frag) (mg : Str → Option Value) : Prop where
  ex : ∃ h : Heap, K.In h ∧ h.Ns mainGlobals mg ∧ He.SaysD fa fn K ∧ ex K = true
section
variable {K : PySem.W.Frag} {mg : Str → Option Value}
theorem Txt.g_is_integer_within (T : Txt K mg) : mg "is_integer_within" = some (.ref (He.ga K "is_integer_within")) := by
  obtain ⟨h, X, G, c, _⟩ := T.ex
  exact He.glo_ok X G (c.fact 0 rfl)
theorem Txt.g_is_word (T : Txt K mg) : mg "is_word" = some (.ref (He.ga K "is_word")) := by
  obtain ⟨h, X, G, c, _⟩ := T.ex
  exact He.glo_ok X G (c.fact 1 rfl)
theorem Txt.g_are_distinct_words (T : Txt K mg) : mg "are_distinct_words" = some (.ref (He.ga K "are_distinct_words")) := by
  obtain ⟨h, X, G, c, _⟩ := T.ex
  exact He.glo_ok X G (c.fact 2 rfl)
theorem Txt.g_is_rule (T : Txt K mg) : mg "is_rule" = some (.ref (He.ga K "is_rule")) := by
  obtain ⟨h, X, G, c, _⟩ := T.ex
  exact He.glo_ok X G (c.fact 3 rfl)
theorem Txt.g_book_text (T : Txt K mg) : mg "book_text" = some (.ref (He.ga K "book_text")) := by
  obtain ⟨h, X, G, c, _⟩ := T.ex
  exact He.glo_ok X G (c.fact 4 rfl)
theorem Txt.g_read_book (T : Txt K mg) : mg "read_book" = some (.ref (He.ga K "read_book")) := by
  obtain ⟨h, X, G, c, _⟩ := T.ex
  exact He.glo_ok X G (c.fact 5 rfl)
theorem Txt.g_lines_of (T : Txt K mg) : mg "lines_of" = some (.ref (He.ga K "lines_of")) := by
  obtain ⟨h, X, G, c, _⟩ := T.ex
  exact He.glo_ok X G (c.fact 6 rfl)
theorem Txt.g_read_number (T : Txt K mg) : mg "read_number" = some (.ref (He.ga K "read_number")) := by
  obtain ⟨h, X, G, c, _⟩ := T.ex
  exact He.glo_ok X G (c.fact 7 rfl)
theorem Txt.g_read_days (T : Txt K mg) : mg "read_days" = some (.ref (He.ga K "read_days")) := by
  obtain ⟨h, X, G, c, _⟩ := T.ex
  exact He.glo_ok X G (c.fact 8 rfl)
theorem Txt.g_read_rule (T : Txt K mg) : mg "read_rule" = some (.ref (He.ga K "read_rule")) := by
  obtain ⟨h, X, G, c, _⟩ := T.ex
  exact He.glo_ok X G (c.fact 9 rfl)
theorem Txt.g_law_pot (T : Txt K mg) : mg "_law_pot" = some (.ref (He.ga K "_law_pot")) := by
  obtain ⟨h, X, G, c, _⟩ := T.ex
  exact He.glo_ok X G (c.fact 10 rfl)
theorem Txt.g_law_dip (T : Txt K mg) : mg "_law_dip" = some (.ref (He.ga K "_law_dip")) := by
  obtain ⟨h, X, G, c, _⟩ := T.ex
  exact He.glo_ok X G (c.fact 11 rfl)
theorem Txt.g_law_rule (T : Txt K mg) : mg "_law_rule" = some (.ref (He.ga K "_law_rule")) := by
  obtain ⟨h, X, G, c, _⟩ := T.ex
  exact He.glo_ok X G (c.fact 12 rfl)
theorem Txt.g_law_plan (T : Txt K mg) : mg "_law_plan" = some (.ref (He.ga K "_law_plan")) := by
  obtain ⟨h, X, G, c, _⟩ := T.ex
  exact He.glo_ok X G (c.fact 13 rfl)
theorem Txt.g_law_moments (T : Txt K mg) : mg "_law_moments" = some (.ref (He.ga K "_law_moments")) := by
  obtain ⟨h, X, G, c, _⟩ := T.ex
  exact He.glo_ok X G (c.fact 14 rfl)
theorem Txt.g_law_alike (T : Txt K mg) : mg "_law_alike" = some (.ref (He.ga K "_law_alike")) := by
  obtain ⟨h, X, G, c, _⟩ := T.ex
  exact He.glo_ok X G (c.fact 15 rfl)
theorem Txt.g_law_line (T : Txt K mg) : mg "_law_line" = some (.ref (He.ga K "_law_line")) := by
  obtain ⟨h, X, G, c, _⟩ := T.ex
  exact He.glo_ok X G (c.fact 16 rfl)
theorem Txt.g_law_lines (T : Txt K mg) : mg "_law_lines" = some (.ref (He.ga K "_law_lines")) := by
  obtain ⟨h, X, G, c, _⟩ := T.ex
  exact He.glo_ok X G (c.fact 17 rfl)
theorem Txt.g_law_stepped (T : Txt K mg) : mg "_law_stepped" = some (.ref (He.ga K "_law_stepped")) := by
  obtain ⟨h, X, G, c, _⟩ := T.ex
  exact He.glo_ok X G (c.fact 18 rfl)
theorem Txt.g_law_right (T : Txt K mg) : mg "_law_right" = some (.ref (He.ga K "_law_right")) := by
  obtain ⟨h, X, G, c, _⟩ := T.ex
  exact He.glo_ok X G (c.fact 19 rfl)
theorem Txt.g_law (T : Txt K mg) : mg "law" = some (.ref (He.ga K "law")) := by
  obtain ⟨h, X, G, c, _⟩ := T.ex
  exact He.glo_ok X G (c.fact 20 rfl)
theorem Txt.g_Book (T : Txt K mg) : mg "Book" = some (.ref (He.ga K "Book")) := by
  obtain ⟨h, X, G, c, _⟩ := T.ex
  exact He.glo_ok X G (c.fact 21 rfl)
theorem Txt.g_WallError (T : Txt K mg) : mg "WallError" = some (.ref (He.ga K "WallError")) := by
  obtain ⟨h, X, G, c, _⟩ := T.ex
  exact He.glo_ok X G (c.fact 22 rfl)
theorem Txt.g_NoDays (T : Txt K mg) : mg "NoDays" = some (.ref (He.ga K "NoDays")) := by
  obtain ⟨h, X, G, c, _⟩ := T.ex
  exact He.glo_ok X G (c.fact 23 rfl)
theorem Txt.g_NoMoments (T : Txt K mg) : mg "NoMoments" = some (.ref (He.ga K "NoMoments")) := by
  obtain ⟨h, X, G, c, _⟩ := T.ex
  exact He.glo_ok X G (c.fact 24 rfl)
theorem Txt.g_NoRule (T : Txt K mg) : mg "NoRule" = some (.ref (He.ga K "NoRule")) := by
  obtain ⟨h, X, G, c, _⟩ := T.ex
  exact He.glo_ok X G (c.fact 25 rfl)
theorem Txt.g_NoMoment (T : Txt K mg) : mg "NoMoment" = some (.ref (He.ga K "NoMoment")) := by
  obtain ⟨h, X, G, c, _⟩ := T.ex
  exact He.glo_ok X G (c.fact 26 rfl)
theorem Txt.g_NoText (T : Txt K mg) : mg "NoText" = some (.ref (He.ga K "NoText")) := by
  obtain ⟨h, X, G, c, _⟩ := T.ex
  exact He.glo_ok X G (c.fact 27 rfl)
theorem Txt.g_ACTIONS (T : Txt K mg) : mg "ACTIONS" = some (.ref (He.ga K "ACTIONS")) := by
  obtain ⟨h, X, G, c, _⟩ := T.ex
  exact He.glo_ok X G (c.fact 28 rfl)
theorem Txt.g_MOMENTS (T : Txt K mg) : mg "MOMENTS" = some (.ref (He.ga K "MOMENTS")) := by
  obtain ⟨h, X, G, c, _⟩ := T.ex
  exact He.glo_ok X G (c.fact 29 rfl)
theorem Txt.g_MOST_ACTIONS (T : Txt K mg) : ∃ t, mg "MOST_ACTIONS" = some (.int 6 t) := by
  obtain ⟨h, X, G, c, _⟩ := T.ex
  exact He.int_ok X G (c.fact 30 rfl)
theorem Txt.g_MOST_DAYS (T : Txt K mg) : ∃ t, mg "MOST_DAYS" = some (.int 30 t) := by
  obtain ⟨h, X, G, c, _⟩ := T.ex
  exact He.int_ok X G (c.fact 31 rfl)
theorem Txt.g_FIGURES (T : Txt K mg) : ∃ t, mg "FIGURES" = some (.str "0123456789" t) := by
  obtain ⟨h, X, G, c, _⟩ := T.ex
  exact He.str_ok X G (c.fact 32 rfl)
theorem Txt.len (T : Txt K mg) : mg "len" = none := by
  obtain ⟨h, X, G, c, _⟩ := T.ex
  exact He.free_ok X G (c.fact 33 rfl)
theorem Txt.abs (T : Txt K mg) : mg "abs" = none := by
  obtain ⟨h, X, G, c, _⟩ := T.ex
  exact He.free_ok X G (c.fact 34 rfl)
theorem Txt.max (T : Txt K mg) : mg "max" = none := by
  obtain ⟨h, X, G, c, _⟩ := T.ex
  exact He.free_ok X G (c.fact 35 rfl)
theorem Txt.min (T : Txt K mg) : mg "min" = none := by
  obtain ⟨h, X, G, c, _⟩ := T.ex
  exact He.free_ok X G (c.fact 36 rfl)
theorem Txt.isinstance (T : Txt K mg) : mg "isinstance" = none := by
  obtain ⟨h, X, G, c, _⟩ := T.ex
  exact He.free_ok X G (c.fact 37 rfl)
theorem Txt.all (T : Txt K mg) : mg "all" = none := by
  obtain ⟨h, X, G, c, _⟩ := T.ex
  exact He.free_ok X G (c.fact 38 rfl)
theorem Txt.zip (T : Txt K mg) : mg "zip" = none := by
  obtain ⟨h, X, G, c, _⟩ := T.ex
  exact He.free_ok X G (c.fact 39 rfl)
theorem Txt.enumerate (T : Txt K mg) : mg "enumerate" = none := by
  obtain ⟨h, X, G, c, _⟩ := T.ex
  exact He.free_ok X G (c.fact 40 rfl)
theorem Txt.super (T : Txt K mg) : mg "super" = none := by
  obtain ⟨h, X, G, c, _⟩ := T.ex
  exact He.free_ok X G (c.fact 41 rfl)
theorem Txt.ValueError (T : Txt K mg) : mg "ValueError" = none := by
  obtain ⟨h, X, G, c, _⟩ := T.ex
  exact He.free_ok X G (c.fact 42 rfl)
theorem Txt.int (T : Txt K mg) : mg "int" = none := by
  obtain ⟨h, X, G, c, _⟩ := T.ex
  exact He.free_ok X G (c.fact 43 rfl)
theorem Txt.str (T : Txt K mg) : mg "str" = none := by
  obtain ⟨h, X, G, c, _⟩ := T.ex
  exact He.free_ok X G (c.fact 44 rfl)
theorem Txt.bool (T : Txt K mg) : mg "bool" = none := by
  obtain ⟨h, X, G, c, _⟩ := T.ex
  exact He.free_ok X G (c.fact 45 rfl)
theorem Txt.list (T : Txt K mg) : mg "list" = none := by
  obtain ⟨h, X, G, c, _⟩ := T.ex
  exact He.free_ok X G (c.fact 46 rfl)
theorem Txt.tuple (T : Txt K mg) : mg "tuple" = none := by
  obtain ⟨h, X, G, c, _⟩ := T.ex
  exact He.free_ok X G (c.fact 47 rfl)
theorem Txt.set (T : Txt K mg) : mg "set" = none := by
  obtain ⟨h, X, G, c, _⟩ := T.ex
  exact He.free_ok X G (c.fact 48 rfl)
theorem Txt.range (T : Txt K mg) : mg "range" = none := by
  obtain ⟨h, X, G, c, _⟩ := T.ex
  exact He.free_ok X G (c.fact 49 rfl)
theorem Txt.cl_Book (T : Txt K mg) : Cls K (He.ga K "Book") := by
  obtain ⟨h, X, G, c, _⟩ := T.ex
  exact He.cls_ok (c.fact 50 rfl)
theorem Txt.no_Book__days (T : Txt K mg) : NoAttr K (He.ga K "Book") "_days" := by
  obtain ⟨h, X, G, c, _⟩ := T.ex
  exact He.noat_ok (c.fact 51 rfl)
theorem Txt.no_Book__rules (T : Txt K mg) : NoAttr K (He.ga K "Book") "_rules" := by
  obtain ⟨h, X, G, c, _⟩ := T.ex
  exact He.noat_ok (c.fact 52 rfl)
theorem Txt.m_Book_eq (T : Txt K mg) : Meth K (He.ga K "Book") "__eq__" (He.ma K (He.ga K "Book") "__eq__") := by
  obtain ⟨h, X, G, c, _⟩ := T.ex
  exact He.meth_ok (c.fact 53 rfl)
theorem Txt.m_Book_days (T : Txt K mg) : Meth K (He.ga K "Book") "days" (He.ma K (He.ga K "Book") "days") := by
  obtain ⟨h, X, G, c, _⟩ := T.ex
  exact He.meth_ok (c.fact 54 rfl)
theorem Txt.m_Book_rule (T : Txt K mg) : Meth K (He.ga K "Book") "rule" (He.ma K (He.ga K "Book") "rule") := by
  obtain ⟨h, X, G, c, _⟩ := T.ex
  exact He.meth_ok (c.fact 55 rfl)
theorem Txt.m_Book_rules (T : Txt K mg) : Meth K (He.ga K "Book") "rules" (He.ma K (He.ga K "Book") "rules") := by
  obtain ⟨h, X, G, c, _⟩ := T.ex
  exact He.meth_ok (c.fact 56 rfl)
theorem Txt.m_Book_with_rule (T : Txt K mg) : Meth K (He.ga K "Book") "with_rule" (He.ma K (He.ga K "Book") "with_rule") := by
  obtain ⟨h, X, G, c, _⟩ := T.ex
  exact He.meth_ok (c.fact 57 rfl)
theorem Txt.m_Book_with_days (T : Txt K mg) : Meth K (He.ga K "Book") "with_days" (He.ma K (He.ga K "Book") "with_days") := by
  obtain ⟨h, X, G, c, _⟩ := T.ex
  exact He.meth_ok (c.fact 58 rfl)
theorem Txt.m_Book_taking (T : Txt K mg) : Meth K (He.ga K "Book") "taking" (He.ma K (He.ga K "Book") "taking") := by
  obtain ⟨h, X, G, c, _⟩ := T.ex
  exact He.meth_ok (c.fact 59 rfl)
theorem Txt.mk_Book (T : Txt K mg) : Mk K (He.ga K "Book") (He.ma K (He.ga K "Book") "__init__") := by
  obtain ⟨h, X, G, c, _⟩ := T.ex
  exact He.mkr_ok (c.fact 60 rfl)
theorem Txt.tup_ACTIONS (T : Txt K mg) : ∀ H, SqT K H (He.ga K "ACTIONS") [.str "free", .str "full", .str "off", .str "code", .str "void", .str "look", .str "lock"] := by
  obtain ⟨h, X, G, c, e⟩ := T.ex
  exact fun H => My.tupAt_ok (My.all_ix e 0 rfl) H
theorem Txt.ty_ACTIONS (T : Txt K mg) : ∀ H, tyV K "tuple" (.ref (He.ga K "ACTIONS")) H := by
  obtain ⟨h, X, G, c, e⟩ := T.ex
  exact fun H => My.tupAt_ty (My.all_ix e 0 rfl) H
theorem Txt.tup_MOMENTS (T : Txt K mg) : ∀ H, SqT K H (He.ga K "MOMENTS") [.str "given", .str "laid", .str "left", .str "opened", .str "taken", .str "gone", .str "late", .str "power"] := by
  obtain ⟨h, X, G, c, e⟩ := T.ex
  exact fun H => My.tupAt_ok (My.all_ix e 1 rfl) H
theorem Txt.ty_MOMENTS (T : Txt K mg) : ∀ H, tyV K "tuple" (.ref (He.ga K "MOMENTS")) H := by
  obtain ⟨h, X, G, c, e⟩ := T.ex
  exact fun H => My.tupAt_ty (My.all_ix e 1 rfl) H
theorem Txt.dfl_Book_init_0 (T : Txt K mg) : ∀ H, SqT K H (He.dflAt ("Book", some "__init__") 0 K) [] := by
  obtain ⟨h, X, G, c, e⟩ := T.ex
  exact fun H => My.tupAt_ok (My.all_ix e 2 rfl) H
theorem Txt.dfl_Book_init_1 (T : Txt K mg) : ∀ H, SqT K H (He.dflAt ("Book", some "__init__") 1 K) [] := by
  obtain ⟨h, X, G, c, e⟩ := T.ex
  exact fun H => My.tupAt_ok (My.all_ix e 3 rfl) H
theorem Txt.dfl_Book_init_2 (T : Txt K mg) : ∀ H, SqT K H (He.dflAt ("Book", some "__init__") 2 K) [] := by
  obtain ⟨h, X, G, c, e⟩ := T.ex
  exact fun H => My.tupAt_ok (My.all_ix e 4 rfl) H
theorem Txt.dfl_Book_init_3 (T : Txt K mg) : ∀ H, SqT K H (He.dflAt ("Book", some "__init__") 3 K) [] := by
  obtain ⟨h, X, G, c, e⟩ := T.ex
  exact fun H => My.tupAt_ok (My.all_ix e 5 rfl) H
theorem Txt.dfl_Book_init_4 (T : Txt K mg) : ∀ H, SqT K H (He.dflAt ("Book", some "__init__") 4 K) [] := by
  obtain ⟨h, X, G, c, e⟩ := T.ex
  exact fun H => My.tupAt_ok (My.all_ix e 6 rfl) H
theorem Txt.dfl_Book_init_5 (T : Txt K mg) : ∀ H, SqT K H (He.dflAt ("Book", some "__init__") 5 K) [] := by
  obtain ⟨h, X, G, c, e⟩ := T.ex
  exact fun H => My.tupAt_ok (My.all_ix e 7 rfl) H
theorem Txt.dfl_Book_init_6 (T : Txt K mg) : ∀ H, SqT K H (He.dflAt ("Book", some "__init__") 6 K) [] := by
  obtain ⟨h, X, G, c, e⟩ := T.ex
  exact fun H => My.tupAt_ok (My.all_ix e 8 rfl) H
theorem Txt.dfl_Book_init_7 (T : Txt K mg) : ∀ H, SqT K H (He.dflAt ("Book", some "__init__") 7 K) [] := by
  obtain ⟨h, X, G, c, e⟩ := T.ex
  exact fun H => My.tupAt_ok (My.all_ix e 9 rfl) H
theorem Txt.insB_Book (T : Txt K mg) : My.insB K (He.ga K "Book") = true := by
  obtain ⟨h, X, G, c, e⟩ := T.ex
  exact My.all_ix e 10 rfl
theorem Txt.f_is_integer_within (T : Txt K mg) : ∃ fd, FunD K d_is_integer_within.name d_is_integer_within.qual d_is_integer_within.params d_is_integer_within.body d_is_integer_within.scope (d_is_integer_within.dvs K) (d_is_integer_within.kws K) (He.fAd K d_is_integer_within.at_) fd := by
  obtain ⟨h, X, G, c, e⟩ := T.ex
  exact c.def_ 0 rfl
theorem Txt.f_is_word (T : Txt K mg) : ∃ fd, FunD K d_is_word.name d_is_word.qual d_is_word.params d_is_word.body d_is_word.scope (d_is_word.dvs K) (d_is_word.kws K) (He.fAd K d_is_word.at_) fd := by
  obtain ⟨h, X, G, c, e⟩ := T.ex
  exact c.def_ 1 rfl
theorem Txt.f_are_distinct_words (T : Txt K mg) : ∃ fd, FunD K d_are_distinct_words.name d_are_distinct_words.qual d_are_distinct_words.params d_are_distinct_words.body d_are_distinct_words.scope (d_are_distinct_words.dvs K) (d_are_distinct_words.kws K) (He.fAd K d_are_distinct_words.at_) fd := by
  obtain ⟨h, X, G, c, e⟩ := T.ex
  exact c.def_ 2 rfl
theorem Txt.f_is_rule (T : Txt K mg) : ∃ fd, FunD K d_is_rule.name d_is_rule.qual d_is_rule.params d_is_rule.body d_is_rule.scope (d_is_rule.dvs K) (d_is_rule.kws K) (He.fAd K d_is_rule.at_) fd := by
  obtain ⟨h, X, G, c, e⟩ := T.ex
  exact c.def_ 3 rfl
theorem Txt.f_Book_init (T : Txt K mg) : ∃ fd, FunD K d_Book_init.name d_Book_init.qual d_Book_init.params d_Book_init.body d_Book_init.scope (d_Book_init.dvs K) (d_Book_init.kws K) (He.fAd K d_Book_init.at_) fd := by
  obtain ⟨h, X, G, c, e⟩ := T.ex
  exact c.def_ 4 rfl
theorem Txt.f_Book_eq (T : Txt K mg) : ∃ fd, FunD K d_Book_eq.name d_Book_eq.qual d_Book_eq.params d_Book_eq.body d_Book_eq.scope (d_Book_eq.dvs K) (d_Book_eq.kws K) (He.fAd K d_Book_eq.at_) fd := by
  obtain ⟨h, X, G, c, e⟩ := T.ex
  exact c.def_ 5 rfl
theorem Txt.f_Book_days (T : Txt K mg) : ∃ fd, FunD K d_Book_days.name d_Book_days.qual d_Book_days.params d_Book_days.body d_Book_days.scope (d_Book_days.dvs K) (d_Book_days.kws K) (He.fAd K d_Book_days.at_) fd := by
  obtain ⟨h, X, G, c, e⟩ := T.ex
  exact c.def_ 6 rfl
theorem Txt.f_Book_rule (T : Txt K mg) : ∃ fd, FunD K d_Book_rule.name d_Book_rule.qual d_Book_rule.params d_Book_rule.body d_Book_rule.scope (d_Book_rule.dvs K) (d_Book_rule.kws K) (He.fAd K d_Book_rule.at_) fd := by
  obtain ⟨h, X, G, c, e⟩ := T.ex
  exact c.def_ 7 rfl
theorem Txt.f_Book_rules (T : Txt K mg) : ∃ fd, FunD K d_Book_rules.name d_Book_rules.qual d_Book_rules.params d_Book_rules.body d_Book_rules.scope (d_Book_rules.dvs K) (d_Book_rules.kws K) (He.fAd K d_Book_rules.at_) fd := by
  obtain ⟨h, X, G, c, e⟩ := T.ex
  exact c.def_ 8 rfl
theorem Txt.f_Book_with_rule (T : Txt K mg) : ∃ fd, FunD K d_Book_with_rule.name d_Book_with_rule.qual d_Book_with_rule.params d_Book_with_rule.body d_Book_with_rule.scope (d_Book_with_rule.dvs K) (d_Book_with_rule.kws K) (He.fAd K d_Book_with_rule.at_) fd := by
  obtain ⟨h, X, G, c, e⟩ := T.ex
  exact c.def_ 9 rfl
theorem Txt.f_Book_with_days (T : Txt K mg) : ∃ fd, FunD K d_Book_with_days.name d_Book_with_days.qual d_Book_with_days.params d_Book_with_days.body d_Book_with_days.scope (d_Book_with_days.dvs K) (d_Book_with_days.kws K) (He.fAd K d_Book_with_days.at_) fd := by
  obtain ⟨h, X, G, c, e⟩ := T.ex
  exact c.def_ 10 rfl
theorem Txt.f_Book_taking (T : Txt K mg) : ∃ fd, FunD K d_Book_taking.name d_Book_taking.qual d_Book_taking.params d_Book_taking.body d_Book_taking.scope (d_Book_taking.dvs K) (d_Book_taking.kws K) (He.fAd K d_Book_taking.at_) fd := by
  obtain ⟨h, X, G, c, e⟩ := T.ex
  exact c.def_ 11 rfl
theorem Txt.f_book_text (T : Txt K mg) : ∃ fd, FunD K d_book_text.name d_book_text.qual d_book_text.params d_book_text.body d_book_text.scope (d_book_text.dvs K) (d_book_text.kws K) (He.fAd K d_book_text.at_) fd := by
  obtain ⟨h, X, G, c, e⟩ := T.ex
  exact c.def_ 12 rfl
theorem Txt.f_read_book (T : Txt K mg) : ∃ fd, FunD K d_read_book.name d_read_book.qual d_read_book.params d_read_book.body d_read_book.scope (d_read_book.dvs K) (d_read_book.kws K) (He.fAd K d_read_book.at_) fd := by
  obtain ⟨h, X, G, c, e⟩ := T.ex
  exact c.def_ 13 rfl
theorem Txt.f_lines_of (T : Txt K mg) : ∃ fd, FunD K d_lines_of.name d_lines_of.qual d_lines_of.params d_lines_of.body d_lines_of.scope (d_lines_of.dvs K) (d_lines_of.kws K) (He.fAd K d_lines_of.at_) fd := by
  obtain ⟨h, X, G, c, e⟩ := T.ex
  exact c.def_ 14 rfl
theorem Txt.f_read_number (T : Txt K mg) : ∃ fd, FunD K d_read_number.name d_read_number.qual d_read_number.params d_read_number.body d_read_number.scope (d_read_number.dvs K) (d_read_number.kws K) (He.fAd K d_read_number.at_) fd := by
  obtain ⟨h, X, G, c, e⟩ := T.ex
  exact c.def_ 15 rfl
theorem Txt.f_read_days (T : Txt K mg) : ∃ fd, FunD K d_read_days.name d_read_days.qual d_read_days.params d_read_days.body d_read_days.scope (d_read_days.dvs K) (d_read_days.kws K) (He.fAd K d_read_days.at_) fd := by
  obtain ⟨h, X, G, c, e⟩ := T.ex
  exact c.def_ 16 rfl
theorem Txt.f_read_rule (T : Txt K mg) : ∃ fd, FunD K d_read_rule.name d_read_rule.qual d_read_rule.params d_read_rule.body d_read_rule.scope (d_read_rule.dvs K) (d_read_rule.kws K) (He.fAd K d_read_rule.at_) fd := by
  obtain ⟨h, X, G, c, e⟩ := T.ex
  exact c.def_ 17 rfl
theorem Txt.f_law_pot (T : Txt K mg) : ∃ fd, FunD K d_law_pot.name d_law_pot.qual d_law_pot.params d_law_pot.body d_law_pot.scope (d_law_pot.dvs K) (d_law_pot.kws K) (He.fAd K d_law_pot.at_) fd := by
  obtain ⟨h, X, G, c, e⟩ := T.ex
  exact c.def_ 18 rfl
theorem Txt.f_law_dip (T : Txt K mg) : ∃ fd, FunD K d_law_dip.name d_law_dip.qual d_law_dip.params d_law_dip.body d_law_dip.scope (d_law_dip.dvs K) (d_law_dip.kws K) (He.fAd K d_law_dip.at_) fd := by
  obtain ⟨h, X, G, c, e⟩ := T.ex
  exact c.def_ 19 rfl
theorem Txt.f_law_rule (T : Txt K mg) : ∃ fd, FunD K d_law_rule.name d_law_rule.qual d_law_rule.params d_law_rule.body d_law_rule.scope (d_law_rule.dvs K) (d_law_rule.kws K) (He.fAd K d_law_rule.at_) fd := by
  obtain ⟨h, X, G, c, e⟩ := T.ex
  exact c.def_ 20 rfl
theorem Txt.f_law_plan (T : Txt K mg) : ∃ fd, FunD K d_law_plan.name d_law_plan.qual d_law_plan.params d_law_plan.body d_law_plan.scope (d_law_plan.dvs K) (d_law_plan.kws K) (He.fAd K d_law_plan.at_) fd := by
  obtain ⟨h, X, G, c, e⟩ := T.ex
  exact c.def_ 21 rfl
theorem Txt.f_law_moments (T : Txt K mg) : ∃ fd, FunD K d_law_moments.name d_law_moments.qual d_law_moments.params d_law_moments.body d_law_moments.scope (d_law_moments.dvs K) (d_law_moments.kws K) (He.fAd K d_law_moments.at_) fd := by
  obtain ⟨h, X, G, c, e⟩ := T.ex
  exact c.def_ 22 rfl
theorem Txt.f_law_alike (T : Txt K mg) : ∃ fd, FunD K d_law_alike.name d_law_alike.qual d_law_alike.params d_law_alike.body d_law_alike.scope (d_law_alike.dvs K) (d_law_alike.kws K) (He.fAd K d_law_alike.at_) fd := by
  obtain ⟨h, X, G, c, e⟩ := T.ex
  exact c.def_ 23 rfl
theorem Txt.f_law_line (T : Txt K mg) : ∃ fd, FunD K d_law_line.name d_law_line.qual d_law_line.params d_law_line.body d_law_line.scope (d_law_line.dvs K) (d_law_line.kws K) (He.fAd K d_law_line.at_) fd := by
  obtain ⟨h, X, G, c, e⟩ := T.ex
  exact c.def_ 24 rfl
theorem Txt.f_law_lines (T : Txt K mg) : ∃ fd, FunD K d_law_lines.name d_law_lines.qual d_law_lines.params d_law_lines.body d_law_lines.scope (d_law_lines.dvs K) (d_law_lines.kws K) (He.fAd K d_law_lines.at_) fd := by
  obtain ⟨h, X, G, c, e⟩ := T.ex
  exact c.def_ 25 rfl
theorem Txt.f_law_stepped (T : Txt K mg) : ∃ fd, FunD K d_law_stepped.name d_law_stepped.qual d_law_stepped.params d_law_stepped.body d_law_stepped.scope (d_law_stepped.dvs K) (d_law_stepped.kws K) (He.fAd K d_law_stepped.at_) fd := by
  obtain ⟨h, X, G, c, e⟩ := T.ex
  exact c.def_ 26 rfl
theorem Txt.f_law_right (T : Txt K mg) : ∃ fd, FunD K d_law_right.name d_law_right.qual d_law_right.params d_law_right.body d_law_right.scope (d_law_right.dvs K) (d_law_right.kws K) (He.fAd K d_law_right.at_) fd := by
  obtain ⟨h, X, G, c, e⟩ := T.ex
  exact c.def_ 27 rfl
theorem Txt.f_law (T : Txt K mg) : ∃ fd, FunD K d_law.name d_law.qual d_law.params d_law.body d_law.scope (d_law.dvs K) (d_law.kws K) (He.fAd K d_law.at_) fd := by
  obtain ⟨h, X, G, c, e⟩ := T.ex
  exact c.def_ 28 rfl
end
end K16


namespace K16
open PySem PySem.Spec PyProof.Rows L2
abbrev R : PySem.W.OpenRow := PySem.W.OpenLaw.row PySem.Challenge.rw_lockerwall_k16_whole_lines_of_books
abbrev hk : PySem.W.Hook := My.hookD2 5 fa fn ex
def ob (s : PySem.W.SharedT) : My.AlE := My.obsDG2 5 fa fn ex (HandSHeadRun.getT s)
theorem ob_eq (s : PySem.W.SharedT) : ob s = hk.obs s.abs := My.obsDG2_eq (HandSHeadRun.getT_eq s)
def loose : List PySem.Str := ((["is_integer_within", "is_word", "are_distinct_words", "WallError", "NoDays", "NoMoments", "NoRule", "NoMoment", "NoText", "is_rule", "Book", "book_text", "read_book", "lines_of", "read_number", "read_days", "read_rule", "_law_pot", "_law_dip", "_law_rule", "_law_plan", "_law_moments", "_law_alike", "_law_line", "_law_lines", "_law_stepped", "_law_right", "ACTIONS", "MOMENTS", "MOST_ACTIONS"] : List PySem.Str) ++ (["MOST_DAYS", "FIGURES"] : List PySem.Str))
theorem run (w : World) : HandSHeadRun.RunEq R (PySem.W.view R.prog [37]) hk ob 6000 loose w := by
  intro os
  kernel_rfl
end K16

set_option maxHeartbeats 200000
namespace K16
open PySem PySem.Spec PyProof.Rows L2
section
variable {P : Program} {w : World} {K : PySem.W.Frag} {mg : Str → Option Value} {base : Heap}
/-! ### checks -/
def sp_is_integer_within (K : PySem.W.Frag) : Sp := fun vs H Q _ => ∃ n lo hi : Int, vs = [.int n, .int lo, .int hi] ∧ Q (.bl (decide (lo ≤ n) && decide (n ≤ hi))) H
set_option maxHeartbeats 2000000 in
theorem ok_is_integer_within (T : Txt K mg) {fd : FuncData} (F : FunD K d_is_integer_within.name d_is_integer_within.qual d_is_integer_within.params d_is_integer_within.body d_is_integer_within.scope (d_is_integer_within.dvs K) (d_is_integer_within.kws K) (He.fAd K d_is_integer_within.at_) fd) : FnOk P w K mg base C8.CX0 1 (He.fAd K d_is_integer_within.at_) fd ["value", "low", "high"] (sp_is_integer_within K) := by
  refine F.ok sc_is_integer_within (fun vs H Q E h => ?_) (fun cdv A outer s H vs Q E hr h => ?_)
  · obtain ⟨n, lo, hi, rfl, _⟩ := h
    rfl
  · have hu := L2.hu_of hr
    obtain ⟨n, lo, hi, rfl, q⟩ := h
    refine ⟨_, (PSs.nox ((pss_one (ps_ret (pe_and (pe_callB (My.isiK (K := K) rfl) (by rfl) T.isinstance (by decide +kernel) (pa_cons (pv 0) (pa_cons (pe_bltn (v := .ty "int") (u := .type "int") rfl T.int (by decide +kernel) rfl) pa_nil))) (pe_and (pe_not (pe_callB (My.isiK (K := K) rfl) (by rfl) T.isinstance (by decide +kernel) (pa_cons (pv 0) (pa_cons (pe_bltn (v := .ty "bool") (u := .type "bool") rfl T.bool (by decide +kernel) rfl) pa_nil)))) (pe_one (pe_chain op_le op_le (pv 1) (pv 0) (pv 2))))))))), ?_⟩
    refine ⟨_, rfl, _, _, _, _, _, rfl, .ty "int", .base (.int n), L2.kit_ty (by decide +kernel), true, rfl, ?_⟩
    refine L2.iteT ?_
    refine ⟨_, rfl, _, _, _, _, _, rfl, .ty "bool", .base (.int n), L2.kit_ty (by decide +kernel), false, rfl, true, rfl, ?_⟩
    refine L2.iteT ?_
    refine ⟨_, rfl, _, rfl, _, _, rfl, rfl, _, rfl, ?_⟩
    refine L2.ite2 (fun c => ?_) (fun c => ?_)
    · refine ⟨_, rfl, _, _, rfl, rfl, ?_⟩
      rw [c] at q
      exact q
    · have e : decide (lo ≤ n) = false := by simpa using c
      rw [e] at q
      exact q
theorem c_is_integer_within (T : Txt K mg) : C8.Cal P w K mg base 1 "is_integer_within" (sp_is_integer_within K) [] := by
  obtain ⟨fd, F⟩ := T.f_is_integer_within
  exact ⟨_, fd, _, _, ok_is_integer_within T F, T.g_is_integer_within, F.kp, F.bindsN (fun _ _ _ _ _ _ us hl => match us, hl with | [_, _, _], _ => rfl), .nil⟩
def sp_is_truth (K : PySem.W.Frag) : Sp := fun vs H Q _ => ∃ b : Bool, vs = [.bl b] ∧ Q (.bl true) H
def sp_is_word (K : PySem.W.Frag) : Sp := fun vs H Q _ => ∃ (x : Str) (a : Addr) (ws : List Str), vs = [.str x, .ref a] ∧ SqT K H a (ws.map V.str) ∧ Q (.bl (decide (x ∈ ws))) H
set_option maxHeartbeats 2000000 in
theorem ok_is_word (T : Txt K mg) {fd : FuncData} (F : FunD K d_is_word.name d_is_word.qual d_is_word.params d_is_word.body d_is_word.scope (d_is_word.dvs K) (d_is_word.kws K) (He.fAd K d_is_word.at_) fd) : FnOk P w K mg base C8.CX0 1 (He.fAd K d_is_word.at_) fd ["value", "words"] (sp_is_word K) := by
  refine F.ok sc_is_word (fun vs H Q E h => ?_) (fun cdv A outer s H vs Q E hr h => ?_)
  · obtain ⟨x, a, ws, rfl, _⟩ := h
    rfl
  · have hu := L2.hu_of hr
    obtain ⟨x, a, ws, rfl, hS, q⟩ := h
    refine ⟨_, (PSs.nox ((pss_one (ps_ret (pe_and (pe_callB (My.isiK (K := K) rfl) (by rfl) T.isinstance (by decide +kernel) (pa_cons (pv 0) (pa_cons (pe_bltn (v := .ty "str") (u := .type "str") rfl T.str (by decide +kernel) rfl) pa_nil))) (pe_one (pe_cmpR (My.in_seqK (K := K) rfl) (pv 0) (pv 1) (by rfl)))))))), ?_⟩
    refine ⟨_, rfl, _, _, _, _, _, rfl, .ty "str", .base (.str x), L2.kit_ty (by decide +kernel), true, rfl, ?_⟩
    refine L2.iteT ?_
    refine ⟨_, rfl, _, rfl, a, _, rfl, .inr hS, rfl, My.all_flat_str ws, ?_⟩
    show Q (.bl (if false = true then _ else inV (.str x) (ws.map V.str))) H
    rw [if_neg Bool.false_ne_true, My.inV_str]
    exact q
theorem c_is_word (T : Txt K mg) : C8.Cal P w K mg base 1 "is_word" (sp_is_word K) [] := by
  obtain ⟨fd, F⟩ := T.f_is_word
  exact ⟨_, fd, _, _, ok_is_word T F, T.g_is_word, F.kp, F.bindsN (fun _ _ _ _ _ _ us hl => match us, hl with | [_, _], _ => rfl), .nil⟩
end
end K16

namespace K16
open PySem PySem.Spec PyProof.Rows L2 My
/-! ### books -/
abbrev acts : List Str := ["free", "full", "off", "code", "void", "look", "lock"]
abbrev moms : List Str := ["given", "laid", "left", "opened", "taken", "gone", "late", "power"]
abbrev RuleL := List Str
def GoodRule (r : RuleL) : Prop := r.length ≤ 6 ∧ ∀ x ∈ r, x ∈ acts
/-- a rule as it stands: a tuple of texts -/
def RuleAt (K : PySem.W.Frag) (H : Hp) (a : Addr) (r : RuleL) : Prop := SqT K H a (r.map V.str)
def bkf (d : Int) (t : Addr) : List (Str × V) := [("_days", V.int d), ("_rules", V.ref t)]
/-- a book of d days with these rules -/
def BookAt (K : PySem.W.Frag) (H : Hp) (b : Addr) (d : Int) (rs : List RuleL) : Prop := ∃ (dx t : Addr) (as : List Addr), H b = some (.ins (He.ga K "Book") dx (bkf d t)) ∧ SqT K H t (as.map V.ref) ∧ Paired (RuleAt K H) as rs ∧ rs.length = 8
theorem RuleAt.but {K : PySem.W.Frag} {xs : List Addr} {H H' : Hp} {a : Addr} {r : RuleL} (s : But xs H H') (n : a ∉ xs) (h : RuleAt K H a r) : RuleAt K H' a r := s.tup n h
theorem paired_map {α β : Type} {F G : α → β → Prop} : ∀ {l : List α} {m : List β}, (∀ a b, a ∈ l → F a b → G a b) → Paired F l m → Paired G l m
  | _, _, _, .nil => .nil
  | _, _, h, .cons r t => .cons (h _ _ (List.mem_cons_self ..) r) (paired_map (fun a b m => h a b (List.mem_cons_of_mem _ m)) t)
theorem paired_get {α β : Type} {F : α → β → Prop} : ∀ {l : List α} {m : List β} {i : Nat} {b : β}, Paired F l m → m[i]? = some b → ∃ a, l[i]? = some a ∧ F a b
  | _, _, _, _, .nil, e => by simp at e
  | _, _, 0, _, .cons r _, e => by simp at e; subst e; exact ⟨_, rfl, r⟩
  | _, _, i + 1, _, .cons _ t, e => by
    obtain ⟨a, h1, h2⟩ := paired_get t (by simpa using e)
    exact ⟨a, by simpa using h1, h2⟩
theorem BookAt.same {K : PySem.W.Frag} {H H' : Hp} {b : Addr} {d : Int} {rs : List RuleL} (s : Same H H') (h : BookAt K H b d rs) : BookAt K H' b d rs := by
  obtain ⟨dx, t, as, h1, h2, h3, h4⟩ := h
  exact ⟨dx, t, as, s _ _ h1, same_tup s h2, paired_map (fun a b _ r => same_tup s r) h3, h4⟩
section
variable {P : Program} {w : World} {K : PySem.W.Frag} {mg : Str → Option Value} {base : Heap}
def sp_is_rule (K : PySem.W.Frag) : Sp := fun vs H Q _ => ∃ (a : Addr) (r : RuleL), vs = [.ref a] ∧ RuleAt K H a r ∧ GoodRule r ∧ ∀ H', Same H H' → Q (.bl true) H'
set_option maxHeartbeats 2000000 in
theorem ok_is_rule (T : Txt K mg) {fd : FuncData} (F : FunD K d_is_rule.name d_is_rule.qual d_is_rule.params d_is_rule.body d_is_rule.scope (d_is_rule.dvs K) (d_is_rule.kws K) (He.fAd K d_is_rule.at_) fd) : FnOk P w K mg base C8.CX0 2 (He.fAd K d_is_rule.at_) fd ["value"] (sp_is_rule K) := by
  obtain ⟨t_MOST_ACTIONS, g_MOST_ACTIONS⟩ := T.g_MOST_ACTIONS
  have c_is_word := c_is_word (P := P) (w := w) (base := base) T
  refine F.ok sc_is_rule (fun vs H Q E h => ?_) (fun cdv A outer s H vs Q E hr h => ?_)
  · obtain ⟨a, r, rfl, _⟩ := h
    rfl
  · have hu := L2.hu_of hr
    obtain ⟨a, r, rfl, hS, hg, q⟩ := h
    refine ⟨_, (PSs.nox ((pss_cons (ps_if (PW.pt (pw_or (pt_not (pt_val (pe_callB (My.isiK (K := K) rfl) (by rfl) T.isinstance (by decide +kernel) (pa_cons (pv 0) (pa_cons (pe_bltn (v := .ty "tuple") (u := .type "tuple") rfl T.tuple (by decide +kernel) rfl) pa_nil))))) (pw_or1 (pt_cmpR op_gt (pe_callB (My.len_seqK (K := K) rfl) (by rfl) T.len (by decide +kernel) (pa_cons (pv 0) pa_nil)) (pe_glob (v := .int 6) rfl g_MOST_ACTIONS ⟨_, rfl⟩) (nomark _)))))
  (pss_one (ps_ret pe_bl))
  pss_nil)
  (pss_one (ps_ret (pe_callB (My.allK (K := K) rfl rfl) (by rfl) T.all (by decide +kernel) (pa_cons (pe_lc (own := [("action", 1)]) (g := (gName 1)) (tt := tYes) (by rfl) sc_is_rule.nd (My.pi_tupK (K := K) rfl (pv 0)) (blkOk_by (N := N_is_rule) (sc := defScope s_is_rule) (by decide +kernel)) (fun _ _ _ _ _ => (pg_name (i := 1) sc_is_rule.nd rfl (by first | exact Or.inl rfl | exact Or.inr rfl))) (fun _ _ _ _ _ => pts_nil) (fun _ _ _ _ _ => (C8.pe_c c_is_word hr (by decide) rfl (pa_cons (pv 1) (pa_cons (pe_glob (v := .ref (He.ga K "ACTIONS")) rfl T.g_ACTIONS rfl) pa_nil))))) pa_nil))))))), ?_⟩
    refine ⟨_, rfl, _, _, _, _, _, rfl, .ty "tuple", tyx_tup hS, L2.kit_ty (by decide +kernel), true, rfl, ?_⟩
    refine L2.iteF ?_
    refine ⟨_, rfl, a, _, rfl, .inr hS, _, _, rfl, rfl, _, rfl, ?_⟩
    have e : decide (((r.map V.str).length : Int) > 6) = false := decide_eq_false (by rw [List.length_map]; have := hg.1; omega)
    rw [e]
    refine L2.iteF ?_
    refine ⟨_, rfl, a, rfl, ⟨_, hS⟩, fun D hD => lc_tup (K := K) (a := a) (xs := r.map V.str) (fun i H' => Same H H' ∧ H' D = some (.lst ((List.replicate i true).map V.bl))) ⟨same_new hD, upd_same⟩ (fun i H' _ p => same_tup p.1 hS) ?_ ?_⟩
    · rintro i y H2 hi ⟨s2, hD2⟩
      obtain ⟨z, hz, rfl⟩ := map_get hi
      have hlt : i < r.length := (List.getElem?_eq_some_iff.mp hz).1
      have hm : z ∈ acts := hg.2 z (List.mem_of_getElem? hz)
      refine ⟨rfl, ?_⟩
      refine ⟨_, rfl, z, _, acts, rfl, T.tup_ACTIONS _, ?_⟩
      rw [decide_eq_true hm]
      refine ⟨_, hD2, ?_, same_upd s2 hD, ?_⟩
      · rw [List.length_map, List.length_replicate]
        have := hg.1
        exact Nat.lt_of_lt_of_le hlt (Nat.le_trans this (by decide))
      · rw [upd_same, List.replicate_succ', List.map_append]
        rfl
    · rintro H2 ⟨s2, hD2⟩
      refine ⟨D, _, rfl, SqL.of hD2, ?_⟩
      have e2 : (List.replicate (r.map V.str).length true).all id = true := List.all_eq_true.mpr fun x hx => (List.mem_replicate.mp hx).2
      rw [e2]
      exact q _ s2
theorem c_is_rule (T : Txt K mg) : C8.Cal P w K mg base 2 "is_rule" (sp_is_rule K) [] := by
  obtain ⟨fd, F⟩ := T.f_is_rule
  exact ⟨_, fd, _, _, ok_is_rule T F, T.g_is_rule, F.kp, F.bindsN (fun _ _ _ _ _ _ us hl => match us, hl with | [_], _ => rfl), .nil⟩
def sp_Book_init (K : PySem.W.Frag) : Sp := fun vs H Q _ => ∃ (p dx : Addr) (d : Int) (as : List Addr) (rs : List RuleL), vs = .ref p :: .int d :: as.map V.ref ∧ H p = some (.ins (He.ga K "Book") dx []) ∧ 1 ≤ d ∧ d ≤ 30 ∧
  Paired (RuleAt K H) as rs ∧ rs.length = 8 ∧ (∀ r ∈ rs, GoodRule r) ∧ ∀ H' t, But [p] H H' → H' p = some (.ins (He.ga K "Book") dx (bkf d t)) → H' t = some (.tup (as.map V.ref)) → Q .non H'
theorem len8 {α β : Type} {F : α → β → Prop} {as : List α} {rs : List β} (h : Paired F as rs) (e : rs.length = 8) : ∃ a0 a1 a2 a3 a4 a5 a6 a7, as = [a0, a1, a2, a3, a4, a5, a6, a7] := by
  have l : as.length = 8 := h.length.trans e
  match as, l with
  | [a0, a1, a2, a3, a4, a5, a6, a7], _ => exact ⟨a0, a1, a2, a3, a4, a5, a6, a7, rfl⟩
set_option maxHeartbeats 2000000 in
theorem ok_Book_init (T : Txt K mg) {fd : FuncData} (F : FunD K d_Book_init.name d_Book_init.qual d_Book_init.params d_Book_init.body d_Book_init.scope (d_Book_init.dvs K) (d_Book_init.kws K) (He.fAd K d_Book_init.at_) fd) : FnOk P w K mg base C8.CX0 3 (He.fAd K d_Book_init.at_) fd ["self", "days", "given", "laid", "left", "opened", "taken", "gone", "late", "power"] (sp_Book_init K) := by
  obtain ⟨t_MOST_DAYS, g_MOST_DAYS⟩ := T.g_MOST_DAYS
  have c_is_rule := c_is_rule (P := P) (w := w) (base := base) T
  have c_is_integer_within := c_is_integer_within (P := P) (w := w) (base := base) T
  refine F.ok sc_Book_init (fun vs H Q E h => ?_) (fun cdv A outer s H vs Q E hr h => ?_)
  · obtain ⟨p, dx, d, as, rs, rfl, _, _, _, h3, h4, _⟩ := h
    obtain ⟨a0, a1, a2, a3, a4, a5, a6, a7, rfl⟩ := len8 h3 h4
    rfl
  · have hu := L2.hu_of hr
    obtain ⟨p, dx, d, as, rs, rfl, hp, h1, h2, h3, h4, h5, q⟩ := h
    obtain ⟨a0, a1, a2, a3, a4, a5, a6, a7, rfl⟩ := len8 h3 h4
    refine ⟨_, (PSs.nox ((pss_cons (ps_if (pt_not (pt_val (C8.pe_c c_is_integer_within hr (by decide) rfl (pa_cons (pv 1) (pa_cons pe_int (pa_cons (pe_glob (v := .int 30) rfl g_MOST_DAYS ⟨_, rfl⟩) pa_nil))))))
  (pss_one ps_never)
  pss_nil)
  (pss_cons (ps_set (i := 10) sc_Book_init.nd rfl (by first | exact Or.inl rfl | exact Or.inr rfl) (pe_tup (pa_cons (pv 2) (pa_cons (pv 3) (pa_cons (pv 4) (pa_cons (pv 5) (pa_cons (pv 6) (pa_cons (pv 7) (pa_cons (pv 8) (pa_cons (pv 9) pa_nil))))))))))
  (pss_cons (ps_for PassesOwn.never rfl (RZ.pi_zipA (by rfl) T.zip (pa_cons (pe_glob (v := .ref (He.ga K "MOMENTS")) rfl T.g_MOMENTS rfl) (pa_cons (pv 10) pa_nil))) (My.pg_tupK (K := K) (n := 2) rfl rfl (pgs_cons (pg_name (i := 11) sc_Book_init.nd rfl (by first | exact Or.inl rfl | exact Or.inr rfl)) (pgs_cons (pg_name (i := 12) sc_Book_init.nd rfl (by first | exact Or.inl rfl | exact Or.inr rfl)) pgs_nil)))
  (pss_one (ps_if (pt_not (pt_val (C8.pe_c c_is_rule hr (by decide) rfl (pa_cons (pv 12) pa_nil))))
  (pss_one ps_never)
  pss_nil)))
  (pss_cons (ps_fld (pv 0) (pv 1) rfl)
  (pss_one (ps_fld (pv 0) (pv 10) rfl)))))))), ?_⟩
    refine ⟨_, rfl, d, 1, 30, rfl, true, by rw [decide_eq_true h1, decide_eq_true h2] <;> rfl, ?_⟩
    refine L2.iteF ?_
    refine ⟨_, rfl, _, rfl, _, rfl, _, rfl, _, rfl, _, rfl, _, rfl, _, rfl, by show 8 ≤ sizeLine; decide, fun t ht => ?_⟩
    have npt : p ≠ t := ne_of_none hp ht
    refine ⟨_, rfl, _, _, moms.map V.str, [V.ref a0, V.ref a1, V.ref a2, V.ref a3, V.ref a4, V.ref a5, V.ref a6, V.ref a7], rfl, .inr ⟨T.tup_MOMENTS _, SqT.of upd_same, ?_⟩⟩
    refine RZ.for_zipT (K := K) (xs := moms.map V.str) (ys := [V.ref a0, V.ref a1, V.ref a2, V.ref a3, V.ref a4, V.ref a5, V.ref a6, V.ref a7]) rfl (fun i σ H' => ∃ u v, σ = [some (.ref p), some (.int d), some (.ref a0), some (.ref a1), some (.ref a2), some (.ref a3), some (.ref a4), some (.ref a5), some (.ref a6), some (.ref a7), some (.ref t), u, v] ∧ Same (upd H t (.tup [V.ref a0, V.ref a1, V.ref a2, V.ref a3, V.ref a4, V.ref a5, V.ref a6, V.ref a7])) H')
      ⟨_, _, rfl, Same.refl _⟩ (fun i σ H' ⟨_, _, _, s⟩ => ⟨T.tup_MOMENTS _, same_tup s (SqT.of upd_same)⟩) ?_ ?_
    · rintro i x y T2 σ H2 hx hy ⟨u, v, rfl, s2⟩ hT2
      refine ⟨_, _, rfl, SqT.of upd_same, rfl, _, _, rfl, _, _, rfl, rfl, ?_⟩
      have hy' : ([a0, a1, a2, a3, a4, a5, a6, a7].map V.ref)[i]? = some y := hy
      obtain ⟨a, ha, rfl⟩ := map_get hy'
      obtain ⟨r, hr1, hr2⟩ : ∃ r, rs[i]? = some r ∧ RuleAt K H a r := by
        have hlt : i < rs.length := by rw [h4]; exact (List.getElem?_eq_some_iff.mp ha).1
        obtain ⟨b, hb, hR⟩ := paired_get h3 (List.getElem?_eq_getElem hlt)
        rw [ha] at hb
        cases hb
        exact ⟨_, List.getElem?_eq_getElem hlt, hR⟩
      have s3 : Same H (upd H2 T2 (.tup [x, .ref a])) := (same_new ht).trans (s2.trans (same_new hT2))
      refine ⟨_, rfl, a, r, rfl, same_tup s3 hr2, h5 r (List.mem_of_getElem? hr1), fun H3 s4 => ?_⟩
      refine ⟨true, rfl, L2.iteF ⟨_, _, rfl, s2.trans ((same_new hT2).trans s4)⟩⟩
    · rintro σ H2 ⟨u, v, rfl, s2⟩
      have hp2 : H2 p = some (.ins (He.ga K "Book") dx []) := s2 _ _ (by rw [upd_ne npt]; exact hp)
      have ht2 : H2 t = some (.tup [V.ref a0, V.ref a1, V.ref a2, V.ref a3, V.ref a4, V.ref a5, V.ref a6, V.ref a7]) := s2 _ _ upd_same
      refine ⟨_, rfl, _, rfl, p, _, dx, _, rfl, hp2, T.cl_Book, T.no_Book__days, (by show 0 < 1000; decide), ?_⟩
      refine ⟨_, rfl, _, rfl, p, _, dx, _, rfl, upd_same, T.cl_Book, T.no_Book__rules, (by show 1 < 1000; decide), ?_⟩
      refine q _ t ?_ upd_same ?_
      · exact (((But.of ((same_new ht).trans s2)).put (.inr (by simp))).put (.inr (by simp)))
      · rw [upd_ne npt.symm, upd_ne npt.symm]
        exact ht2
theorem c_Book_init (T : Txt K mg) : C8.Mak P w K mg base 3 "Book" (He.ga K "Book") (sp_Book_init K) [] := by
  obtain ⟨fd, F⟩ := T.f_Book_init
  obtain ⟨ds, rd, bd⟩ := F.binds1 (ps := ["self", "days", "given", "laid", "left", "opened", "taken", "gone", "late", "power"]) 10 8 (by intro z; cases z) rfl (fun T kV doc pm an cdv ct us its hl hi => match us, its, hl, hi with | [_, _, _, _, _, _, _, _, _, _], [_, _, _, _, _, _, _, _], _, _ => ⟨_, rfl, rfl⟩)
  exact ⟨_, fd, _, _, T.mk_Book, ok_Book_init T F, T.g_Book, bd, rd⟩
def sp_Book_days (K : PySem.W.Frag) : Sp := fun vs H Q _ => ∃ (b : Addr) (d : Int) (rs : List RuleL), vs = [.ref b] ∧ BookAt K H b d rs ∧ Q (.int d) H
set_option maxHeartbeats 2000000 in
theorem ok_Book_days (T : Txt K mg) {fd : FuncData} (F : FunD K d_Book_days.name d_Book_days.qual d_Book_days.params d_Book_days.body d_Book_days.scope (d_Book_days.dvs K) (d_Book_days.kws K) (He.fAd K d_Book_days.at_) fd) : FnOk P w K mg base C8.CX0 1 (He.fAd K d_Book_days.at_) fd ["self"] (sp_Book_days K) := by
  refine F.ok sc_Book_days (fun vs H Q E h => ?_) (fun cdv A outer s H vs Q E hr h => ?_)
  · obtain ⟨b, d, rs, rfl, _⟩ := h
    rfl
  · have hu := L2.hu_of hr
    obtain ⟨b, d, rs, rfl, ⟨dx, t, as, hb, _⟩, q⟩ := h
    refine ⟨_, (PSs.nox ((pss_one (ps_ret (My.pe_fldK (K := K) rfl (pv 0) rfl))))), ?_⟩
    exact ⟨_, rfl, b, _, dx, _, _, rfl, hb, T.cl_Book, T.no_Book__days, rfl, q⟩
theorem c_Book_days (T : Txt K mg) : C8.Met P w K mg base 1 (He.ga K "Book") "days" (sp_Book_days K) [] := by
  obtain ⟨fd, F⟩ := T.f_Book_days
  exact ⟨_, fd, _, _, T.cl_Book, T.m_Book_days, ok_Book_days T F, F.bindsN (fun _ _ _ _ _ _ us hl => match us, hl with | [_], _ => rfl), .nil⟩
/-- the rule of the i-th moment -/
def sp_Book_rule (K : PySem.W.Frag) : Sp := fun vs H Q _ => ∃ (H0 : Hp) (b : Addr) (d : Int) (rs : List RuleL) (m : Str) (i : Nat) (r : RuleL), vs = [.ref b, .str m] ∧ Same H0 H ∧ BookAt K H0 b d rs ∧ moms[i]? = some m ∧ rs[i]? = some r ∧ ∀ a, RuleAt K H0 a r → Q (.ref a) H
set_option maxHeartbeats 2000000 in
theorem ok_Book_rule (T : Txt K mg) {fd : FuncData} (F : FunD K d_Book_rule.name d_Book_rule.qual d_Book_rule.params d_Book_rule.body d_Book_rule.scope (d_Book_rule.dvs K) (d_Book_rule.kws K) (He.fAd K d_Book_rule.at_) fd) : FnOk P w K mg base C8.CX0 2 (He.fAd K d_Book_rule.at_) fd ["self", "moment"] (sp_Book_rule K) := by
  have c_is_word := c_is_word (P := P) (w := w) (base := base) T
  refine F.ok sc_Book_rule (fun vs H Q E h => ?_) (fun cdv A outer s H vs Q E hr h => ?_)
  · obtain ⟨H0, b, d, rs, m, i, r, rfl, _⟩ := h
    rfl
  · have hu := L2.hu_of hr
    obtain ⟨H0, b, d, rs, m, i, r, rfl, s0, ⟨dx, t, as, hb0, ht0, hrs, hl⟩, hm, hr1, q⟩ := h
    have hb := s0 _ _ hb0
    have ht := same_tup s0 ht0
    refine ⟨_, (PSs.nox ((pss_cons (ps_if (pt_not (pt_val (C8.pe_c c_is_word hr (by decide) rfl (pa_cons (pv 1) (pa_cons (pe_glob (v := .ref (He.ga K "MOMENTS")) rfl T.g_MOMENTS rfl) pa_nil)))))
  (pss_one ps_never)
  pss_nil)
  (pss_one (ps_ret (pe_ix (My.ix_tupK (K := K) rfl) (My.pe_fldK (K := K) rfl (pv 0) rfl) (My.pe_bmK (K := K) rfl PySem.F.plainAttrs_tuple PySem.F.slot_tuple_index PySem.F.type_tuple_index (My.tup_indexK (K := K) rfl) (pe_glob (v := .ref (He.ga K "MOMENTS")) rfl T.g_MOMENTS rfl) (pa_cons (pv 1) pa_nil)) (fun _ _ => rfl))))))), ?_⟩
    have hmem : m ∈ moms := List.mem_of_getElem? hm
    refine ⟨_, rfl, m, _, moms, rfl, T.tup_MOMENTS _, true, by rw [decide_eq_true hmem], ?_⟩
    refine L2.iteF ?_
    obtain ⟨a, ha, hR⟩ := paired_get hrs hr1
    have first : ∀ j, j < i → moms[j]? ≠ some m := by
      intro j hj e
      have hn : moms.Nodup := by decide +kernel
      exact absurd (L2.nd_ix hn e hm) (by omega)
    refine ⟨_, rfl, b, _, dx, _, _, rfl, hb, T.cl_Book, T.no_Book__rules, rfl, T.ty_MOMENTS _, _, rfl, _, moms, m, i, rfl, rfl, T.tup_MOMENTS _, hm, first, ?_⟩
    refine ⟨t, _, _, _, rfl, rfl, ht, atI_nat (by rw [List.getElem?_map, ha]; rfl), q a hR⟩
theorem c_Book_rule (T : Txt K mg) : C8.Met P w K mg base 2 (He.ga K "Book") "rule" (sp_Book_rule K) [] := by
  obtain ⟨fd, F⟩ := T.f_Book_rule
  exact ⟨_, fd, _, _, T.cl_Book, T.m_Book_rule, ok_Book_rule T F, F.bindsN (fun _ _ _ _ _ _ us hl => match us, hl with | [_, _], _ => rfl), .nil⟩
end
end K16

namespace K16
open PySem PySem.Spec PyProof.Rows L2 My
theorem lt_line {n : Nat} (h : n ≤ 1000000) : n < sizeLine := Nat.lt_of_le_of_lt h (by decide)
end K16

namespace K16
open PySem PySem.Spec PyProof.Rows L2 My
theorem take_more {α : Type} {l : List α} {i : Nat} {x : α} (h : l[i]? = some x) : l.take (i + 1) = l.take i ++ [x] := by
  rw [List.take_add_one, h]
  rfl
theorem paired_at {α β : Type} {F : α → β → Prop} : ∀ {l : List α} {m : List β} {i : Nat} {a : α}, Paired F l m → l[i]? = some a → ∃ b, m[i]? = some b ∧ F a b
  | _, _, _, _, .nil, e => by simp at e
  | _, _, 0, _, .cons r _, e => by simp at e; subst e; exact ⟨_, rfl, r⟩
  | _, _, i + 1, _, .cons _ t, e => by
    obtain ⟨a, h1, h2⟩ := paired_at t (by simpa using e)
    exact ⟨a, by simpa using h1, h2⟩
end K16

namespace K16
open PySem PySem.Spec PyProof.Rows L2 My
/-! ### what laws of books need, without boxes -/
def at_ (rs : List RuleL) (i : Nat) : RuleL := (rs[i]?).getD []
structure GoodB (rs : List RuleL) : Prop where
  len : rs.length = 8
  good : ∀ r ∈ rs, GoodRule r
theorem GoodB.get {rs : List RuleL} (h : GoodB rs) {i : Nat} (hi : i < 8) : rs[i]? = some (at_ rs i) := by
  have hl : i < rs.length := by rw [h.len]; exact hi
  unfold at_
  rw [List.getElem?_eq_getElem hl]
  rfl
theorem GoodB.six {rs : List RuleL} (h : GoodB rs) {i : Nat} (hi : i < 8) : (at_ rs i).length ≤ 6 := (h.good _ (List.mem_of_getElem? (h.get hi))).1
end K16

namespace K16
open PySem PySem.Spec PyProof.Rows L2 My StX
/-! ### books by another rule, books by name -/
section
variable {P : Program} {w : World} {K : PySem.W.Frag} {mg : Str → Option Value} {base : Heap}
theorem paired_set {α β : Type} {F : α → β → Prop} : ∀ {l : List α} {m : List β} {a : α} {b : β} (i : Nat), Paired F l m → F a b → Paired F (l.set i a) (m.set i b)
  | _, _, _, _, _, .nil, _ => .nil
  | _, _, _, _, 0, .cons _ t, h => .cons h t
  | _, _, _, _, i + 1, .cons r t, h => .cons r (paired_set i t h)
theorem ixN_nat {n i : Nat} (h : i < n) : ixN n (i : Int) = some i := by
  unfold ixN
  rw [if_pos (by omega), if_pos (by omega), Int.toNat_natCast]
def sp_Book_with_rule (K : PySem.W.Frag) : Sp := fun vs H Q _ => ∃ (b a : Addr) (d : Int) (rs : List RuleL) (m : Str) (i : Nat) (r : RuleL), vs = [.ref b, .str m, .ref a] ∧ BookAt K H b d rs ∧ moms[i]? = some m ∧ RuleAt K H a r ∧ GoodRule r ∧ (∀ r ∈ rs, GoodRule r) ∧ 1 ≤ d ∧ d ≤ 30 ∧
  ∀ H' p, H p = none → Same H H' → BookAt K H' p d (rs.set i r) → Q (.ref p) H'
set_option maxHeartbeats 2000000 in
theorem ok_Book_with_rule (T : Txt K mg) {fd : FuncData} (F : FunD K d_Book_with_rule.name d_Book_with_rule.qual d_Book_with_rule.params d_Book_with_rule.body d_Book_with_rule.scope (d_Book_with_rule.dvs K) (d_Book_with_rule.kws K) (He.fAd K d_Book_with_rule.at_) fd) : FnOk P w K mg base C8.CX0 5 (He.fAd K d_Book_with_rule.at_) fd ["self", "moment", "rule"] (sp_Book_with_rule K) := by
  have c_Book_init := c_Book_init (P := P) (w := w) (base := base) T
  have c_is_word := c_is_word (P := P) (w := w) (base := base) T
  refine F.ok sc_Book_with_rule (fun vs H Q E h => ?_) (fun cdv A outer s H vs Q E hr h => ?_)
  · obtain ⟨b, a, d, rs, m, i, r, rfl, _⟩ := h
    rfl
  · have hu := L2.hu_of hr
    obtain ⟨b, a, d, rs, m, i, r, rfl, ⟨dxb, t, as, hb, ht, hrs, hl⟩, hm, hR, hg, hgs, h1, h2, q⟩ := h
    refine ⟨_, (PSs.nox ((pss_cons (ps_if (pt_not (pt_val (C8.pe_c c_is_word hr (by decide) rfl (pa_cons (pv 1) (pa_cons (pe_glob (v := .ref (He.ga K "MOMENTS")) rfl T.g_MOMENTS rfl) pa_nil)))))
  (pss_one ps_never)
  pss_nil)
  (pss_cons (ps_set (i := 3) sc_Book_with_rule.nd rfl (by first | exact Or.inl rfl | exact Or.inr rfl) (pe_callTy (My.list_ofK (K := K) rfl) (by rfl) T.list (by decide +kernel) (pa_cons (My.pe_fldK (K := K) rfl (pv 0) rfl) pa_nil)))
  (pss_cons (ps_asg (pv 2) (pg_sub (pv 3) (My.pe_bmK (K := K) rfl PySem.F.plainAttrs_tuple PySem.F.slot_tuple_index PySem.F.type_tuple_index (My.tup_indexK (K := K) rfl) (pe_glob (v := .ref (He.ga K "MOMENTS")) rfl T.g_MOMENTS rfl) (pa_cons (pv 1) pa_nil)) set_list))
  (pss_one (ps_ret (My.pe_mkS2 c_Book_init hr (by decide) rfl (pa_cons (My.pe_fldK (K := K) rfl (pv 0) rfl) (My.pa_starK (K := K) rfl (pv 3) pa_nil)))))))))), ?_⟩
    have hmem : m ∈ moms := List.mem_of_getElem? hm
    have hi8 : i < 8 := (List.getElem?_eq_some_iff.mp hm).1
    refine ⟨_, rfl, m, _, moms, rfl, T.tup_MOMENTS _, true, by rw [decide_eq_true hmem], ?_⟩
    refine L2.iteF ?_
    have first : ∀ j, j < i → moms[j]? ≠ some m := by
      intro j hj e
      have hn : moms.Nodup := by decide +kernel
      exact absurd (L2.nd_ix hn e hm) (by omega)
    refine ⟨_, rfl, b, _, dxb, _, _, rfl, hb, T.cl_Book, T.no_Book__rules, rfl, t, _, rfl, .inr ht, fun l hl0 => ?_⟩
    have hal : as.length = 8 := hrs.length.trans hl
    have es : (as.map V.ref).set i (.ref a) = (as.set i a).map V.ref := by rw [List.map_set]
    refine ⟨_, rfl, _, rfl, T.ty_MOMENTS _, _, rfl, _, moms, m, i, rfl, rfl, T.tup_MOMENTS _, hm, first, l, _, _, i, rfl, rfl, upd_same, ixN_nat (by rw [List.length_map, hal]; exact hi8), ?_⟩
    rw [es]
    have s0 : Same H (upd (upd H l (.lst (as.map V.ref))) l (.lst ((as.set i a).map V.ref))) := same_upd (same_new hl0) hl0
    have hl3 : upd (upd H l (.lst (as.map V.ref))) l (.lst ((as.set i a).map V.ref)) l = some (.lst ((as.set i a).map V.ref)) := upd_same
    generalize upd (upd H l (.lst (as.map V.ref))) l (.lst ((as.set i a).map V.ref)) = H1 at s0 hl3
    refine ⟨_, rfl, b, _, dxb, _, _, rfl, s0 _ _ hb, T.cl_Book, T.no_Book__days, rfl, _, rfl, l, _, rfl, .inr (SqL.of hl3), ?_⟩
    intro x dx nx ndx nex
    have s1 : Same H1 (upd (upd H1 dx (.own x)) x (.ins (He.ga K "Book") dx [])) := (same_new ndx).trans (same_upd (Same.refl _) (by rw [upd_ne nex.symm]; exact nx))
    have s2 := s0.trans s1
    refine ⟨x, dx, d, as.set i a, rs.set i r, by rw [List.append_nil, List.append_nil], upd_same, h1, h2, paired_set i (paired_map (fun a r _ hr => same_tup s2 hr) hrs) (same_tup s2 hR), by rw [List.length_set]; exact hl, fun y hy => ?_, fun H' t2 bt hx ht2 => ⟨rfl, ?_⟩⟩
    · rcases List.mem_or_eq_of_mem_set hy with hy | hy
      · exact hgs y hy
      · rw [hy]; exact hg
    have s3 : Same H1 H' := fun c o e => bt c o (by simpa using ne_of_none e nx) (s1 _ _ e)
    have s4 := s0.trans s3
    exact q _ x (s0.free nx) s4 ⟨dx, t2, _, hx, SqT.of ht2, paired_set i (paired_map (fun a r _ hr => same_tup s4 hr) hrs) (same_tup s4 hR), by rw [List.length_set]; exact hl⟩
theorem c_Book_with_rule (T : Txt K mg) : C8.Met P w K mg base 5 (He.ga K "Book") "with_rule" (sp_Book_with_rule K) [] := by
  obtain ⟨fd, F⟩ := T.f_Book_with_rule
  exact ⟨_, fd, _, _, T.cl_Book, T.m_Book_with_rule, ok_Book_with_rule T F, F.bindsN (fun _ _ _ _ _ _ us hl => match us, hl with | [_, _, _], _ => rfl), .nil⟩
def gB {α : Type} (us its ws : List α) : List α := us ++ ws ++ its.drop 6
theorem kn_Book_init (T : Txt K mg) : My.MakN P w K mg base 3 "Book" (He.ga K "Book") (sp_Book_init K) 4 ["opened", "taken", "gone"] (fun vs zs => gB vs (d_Book_init.dvs K) zs) := by
  obtain ⟨fd, F⟩ := T.f_Book_init
  obtain ⟨its, hb⟩ := F.kbindsD (ps := ["self", "days", "given", "laid", "left", "opened", "taken", "gone", "late", "power"]) 5 ["opened", "taken", "gone"] (fun us its ws => gB us its ws) (by intro z; cases z)
    (fun r1 r2 r3 => (r1.append r3).append (My.vals_drop 6 r2))
    (fun T kV doc pm an cdv ct us its ws h1 h2 h3 => match us, its, ws, h1, h2, h3 with | [_, _, _, _, _], [_, _, _, _, _, _, _, _], [_, _, _], _, _, _ => ⟨_, rfl, rfl⟩)
  exact ⟨_, fd, _, _, T.mk_Book, ok_Book_init T F, T.g_Book, hb⟩
end
end K16

namespace K16
open PySem PySem.Spec PyProof.Rows L2 My
/-! ### springs: where a law's draws come from -/
/-- at a: a spring that was drawn from at most n times -/
def SpringAt (H : Hp) (a : Addr) (n : Nat) : Prop := ∃ w0 w1 w2 : Int, H a = some (.lst [.int w0, .int w1, .int w2]) ∧ w1.natAbs < 2 ^ 200 ∧ 0 ≤ w2 ∧ w2 ≤ (n : Int)
theorem SpringAt.mono {H : Hp} {a : Addr} {n m : Nat} (h : SpringAt H a n) (e : n ≤ m) : SpringAt H a m := by
  obtain ⟨w0, w1, w2, h1, h2, h3, h4⟩ := h
  exact ⟨w0, w1, w2, h1, h2, h3, by omega⟩
theorem pow_lt {x : Int} {k n : Nat} (h : x.natAbs < 2 ^ k) (hn : n ≠ 0) : (x ^ n).natAbs < 2 ^ (k * n) := by
  rw [Int.natAbs_pow, Nat.pow_mul]
  exact Nat.pow_lt_pow_left h hn
theorem two_le {a b x : Nat} (h : x < 2 ^ a) (e : a ≤ b) : x < 2 ^ b := Nat.lt_of_lt_of_le h (Nat.pow_le_pow_right (by decide) e)
theorem add_lt {x y : Int} {k : Nat} (h1 : x.natAbs < 2 ^ k) (h2 : y.natAbs < 2 ^ k) : (x + y).natAbs < 2 ^ (k + 1) := by
  have h3 := Int.natAbs_add_le x y
  have h4 : 2 ^ (k + 1) = 2 ^ k + 2 ^ k := by rw [Nat.pow_succ]; omega
  omega
theorem emod_lt2 {x m : Int} {k : Nat} (h0 : 0 < m) (h : m.natAbs < 2 ^ k) : (x % m).natAbs < 2 ^ k := by
  have h1 := Int.emod_nonneg x (show m ≠ 0 by omega)
  have h2 := Int.emod_lt_of_pos x h0
  omega
set_option exponentiation.threshold 20000 in
theorem powW {x j : Int} {k : Nat} (h : x.natAbs < 2 ^ k) (hk : k ≤ 10000) (h1 : 0 ≤ j) (h2 : j ≤ 100) : CPowW x j := ⟨h1, h2, two_le h hk⟩
theorem ten_pow {j : Int} (h1 : 0 ≤ j) (h2 : j ≤ 100) : CPowW 10 j := powW (k := 4) (by decide) (by decide) h1 h2
section
variable {P : Program} {w : World} {K : PySem.W.Frag} {mg : Str → Option Value} {base : Heap}
def sp_law_drop (K : PySem.W.Frag) : Sp := fun vs H Q _ => ∃ (a : Addr) (n : Nat) (many : Int), vs = [.ref a, .int many] ∧ SpringAt H a n ∧ n < 2 ^ 100 ∧ 0 < many ∧ many < 2 ^ 100 ∧
  ∀ H' k, But [a] H H' → SpringAt H' a (n + 1) → 0 ≤ k → k < many → Q (.int k) H'
def sp_law_spring (K : PySem.W.Frag) : Sp := fun vs H Q _ => ∃ (a : Addr) (ns : List Int) (k : Int), vs = [.ref a, .int k] ∧ SqL K H a (ns.map V.int) ∧ 0 ≤ k ∧ k < 100 ∧
  ∀ H' p, H p = none → Same H H' → SpringAt H' p 1 → Q (.ref p) H'
end
end K16

namespace K16
open PySem PySem.Spec PyProof.Rows L2 My
theorem SpringAt.put {H : Hp} {a b : Addr} {n : Nat} {o : HO} (h : SpringAt H a n) (ne : a ≠ b) : SpringAt (upd H b o) a n := by
  obtain ⟨w0, w1, w2, h1, h2⟩ := h
  exact ⟨w0, w1, w2, by rw [upd_ne ne]; exact h1, h2⟩
theorem SpringAt.same {H H' : Hp} {a : Addr} {n : Nat} (s : Same H H') (h : SpringAt H a n) : SpringAt H' a n := by
  obtain ⟨w0, w1, w2, h1, h2⟩ := h
  exact ⟨w0, w1, w2, s _ _ h1, h2⟩
/-- a list of other things stands apart from a spring -/
theorem SpringAt.ne {H : Hp} {a b : Addr} {n : Nat} {o : HO} (h : SpringAt H a n) (hb : H b = some o) (no : ∀ i r, o ≠ .lst (.int i :: r)) : a ≠ b := by
  obtain ⟨w0, w1, w2, h1, _⟩ := h
  exact ne_of h1 hb fun z => no _ _ z.symm
theorem strs_no (ws : List Str) (i : Int) (r : List V) : HO.lst (ws.map V.str) ≠ .lst (.int i :: r) := by
  intro z
  cases ws with
  | nil => cases z
  | cons x l => cases z
theorem refs_no (ws : List Addr) (i : Int) (r : List V) : HO.lst (ws.map V.ref) ≠ .lst (.int i :: r) := by
  intro z
  cases ws with
  | nil => cases z
  | cons x l => cases z
theorem tup_no (ws : List V) (i : Int) (r : List V) : HO.tup ws ≠ .lst (.int i :: r) := fun z => by cases z
/-- a tuple stands as it was behind a change of a spring -/
theorem But.tupS {K : PySem.W.Frag} {H H' : Hp} {a b : Addr} {n : Nat} {xs : List V} (s : But [a] H H') (h : SpringAt H a n) (t : SqT K H b xs) : SqT K H' b xs := by
  obtain ⟨w0, w1, w2, h1, _⟩ := h
  rcases t with (t | ⟨o, t⟩) | t
  · exact .inl (.inl (s _ _ (by simpa using (ne_of t h1 (fun z => by cases z))) t))
  · exact .inl (.inr ⟨o, s _ _ (by simpa using (ne_of t h1 (fun z => by cases z))) t⟩)
  · exact .inr t
theorem lstS {K : PySem.W.Frag} {H H' : Hp} {a b : Addr} {n : Nat} {xs : List V} (s : But [a] H H') (h : SpringAt H a n) (t : SqL K H b xs) (no : ∀ i r, HO.lst xs ≠ .lst (.int i :: r)) : SqL K H' b xs := by
  obtain ⟨w0, w1, w2, h1, _⟩ := h
  rcases t with (t | ⟨o, t⟩) | t
  · exact .inl (.inl (s _ _ (by simpa using (ne_of t h1 (fun z => no _ _ z))) t))
  · exact .inl (.inr ⟨o, s _ _ (by simpa using (ne_of t h1 (fun z => by cases z))) t⟩)
  · exact .inr t
end K16

namespace K16
open PySem PySem.Spec PyProof.Rows L2 My
/-! ### lists, tuples and pots -/
theorem rawS {H H' : Hp} {a b : Addr} {n : Nat} {o : HO} (s : But [a] H H') (h : SpringAt H a n) (t : H b = some o) (no : ∀ i r, o ≠ .lst (.int i :: r)) : H' b = some o := s _ _ (by simpa using (h.ne t no).symm) t
theorem tupU {K : PySem.W.Frag} {H : Hp} {D b : Addr} {l xs : List V} {o : HO} (h : H D = some (.lst l)) (t : SqT K H b xs) : SqT K (upd H D o) b xs := by
  rcases t with (t | ⟨o, t⟩) | t
  · exact .inl (.inl (by rw [upd_ne (ne_of t h (fun z => by cases z))]; exact t))
  · exact .inl (.inr ⟨o, by rw [upd_ne (ne_of t h (fun z => by cases z))]; exact t⟩)
  · exact .inr t
/-- a tuple stands where only a list changes -/
theorem tup_but {K : PySem.W.Frag} {H H' : Hp} {L b : Addr} {l xs : List V} (s : But [L] H H') (h : H L = some (.lst l)) (t : SqT K H b xs) : SqT K H' b xs := by
  rcases t with (t | ⟨o, t⟩) | t
  · exact .inl (.inl (s _ _ (by simpa using (ne_of t h (fun z => by cases z))) t))
  · exact .inl (.inr ⟨o, s _ _ (by simpa using (ne_of t h (fun z => by cases z))) t⟩)
  · exact .inr t
theorem paired_app {α β : Type} {F : α → β → Prop} : ∀ {l : List α} {m : List β} {l2 : List α} {m2 : List β}, Paired F l m → Paired F l2 m2 → Paired F (l ++ l2) (m ++ m2)
  | _, _, _, _, .nil, h => h
  | _, _, _, _, .cons r t, h => .cons r (paired_app t h)
theorem paired_take {α β : Type} {F : α → β → Prop} : ∀ {l : List α} {m : List β} (n : Nat), Paired F l m → Paired F (l.take n) (m.take n)
  | _, _, 0, _ => .nil
  | _, _, _ + 1, .nil => .nil
  | _, _, n + 1, .cons r t => .cons r (paired_take n t)
theorem paired_drop {α β : Type} {F : α → β → Prop} : ∀ {l : List α} {m : List β} (n : Nat), Paired F l m → Paired F (l.drop n) (m.drop n)
  | _, _, 0, h => h
  | _, _, _ + 1, .nil => .nil
  | _, _, n + 1, .cons _ t => paired_drop n t
theorem paired_flat {α β : Type} {F : α → β → Prop} {l : List α} {m : List β} (h : Paired F l m) : ∀ n : Nat, Paired F (List.replicate n l).flatten (List.replicate n m).flatten
  | 0 => .nil
  | n + 1 => by
    rw [List.replicate_succ, List.replicate_succ, List.flatten_cons, List.flatten_cons]
    exact paired_app h (paired_flat h n)
theorem paired_rev {α β : Type} {F : α → β → Prop} : ∀ {l : List α} {m : List β}, Paired F l m → Paired F l.reverse m.reverse
  | _, _, .nil => .nil
  | _, _, .cons r t => by
    rw [List.reverse_cons, List.reverse_cons]
    exact paired_app (paired_rev t) (.cons r .nil)
end K16

namespace K16
open PySem PySem.Spec PyProof.Rows L2 My
/-! ### pots: where a law's draws come from -/
section
variable {P : Program} {w : World} {K : PySem.W.Frag} {mg : Str → Option Value} {base : Heap}
def sp_law_dip (K : PySem.W.Frag) : Sp := fun vs H Q _ => ∃ (a : Addr) (n : Nat) (many : Int), vs = [.ref a, .int many] ∧ SpringAt H a n ∧ n < 2 ^ 100 ∧ 0 < many ∧ many < 2 ^ 200 ∧
  ∀ H' k, But [a] H H' → SpringAt H' a (n + 1) → 0 ≤ k → k < many → Q (.int k) H'
set_option maxHeartbeats 2000000 in
theorem ok_law_dip (T : Txt K mg) {fd : FuncData} (F : FunD K d_law_dip.name d_law_dip.qual d_law_dip.params d_law_dip.body d_law_dip.scope (d_law_dip.dvs K) (d_law_dip.kws K) (He.fAd K d_law_dip.at_) fd) : FnOk P w K mg base C8.CX0 1 (He.fAd K d_law_dip.at_) fd ["pot", "many"] (sp_law_dip K) := by
  refine F.ok sc_law_dip (fun vs H Q E h => ?_) (fun cdv A outer s H vs Q E hr h => ?_)
  · obtain ⟨a, n, many, rfl, _⟩ := h
    rfl
  · have hu := L2.hu_of hr
    obtain ⟨a, n, many, rfl, ⟨w0, w1, w2, ha, hw1, hw2, hw3⟩, hn, hm0, hm1, q⟩ := h
    refine ⟨_, (PSs.nox ((pss_cons (ps_if (pt_cmpR op_gt (pe_ix (My.ix_listK (K := K) rfl) (pv 0) pe_int (fun _ _ => rfl)) pe_int (nomark _))
  (pss_cons (ps_set (i := 2) sc_law_dip.nd rfl (by first | exact Or.inl rfl | exact Or.inr rfl) (pe_op op_mod (pe_callTy call_int1 (by rfl) T.int (by decide +kernel) (pa_cons (pe_ix (My.ix_listK (K := K) rfl) (pv 0) pe_int (fun _ _ => rfl)) pa_nil)) (pv 1)))
  (pss_cons (ps_asg (pe_op op_fdivW (pe_ix (My.ix_listK (K := K) rfl) (pv 0) pe_int (fun _ _ => rfl)) (pv 1)) (pg_sub (pv 0) pe_int set_list))
  (pss_one (ps_ret (pv 2)))))
  pss_nil)
  (pss_cons (ps_asg (pe_op op_add (pe_ix (My.ix_listK (K := K) rfl) (pv 0) pe_int (fun _ _ => rfl)) pe_int) (pg_sub (pv 0) pe_int set_list))
  (pss_cons (ps_set (i := 3) sc_law_dip.nd rfl (by first | exact Or.inl rfl | exact Or.inr rfl) (pe_op op_mod (pe_callTy call_int1 (by rfl) T.int (by decide +kernel) (pa_cons (pe_op My.op_powW (pe_op op_add (pe_ix (My.ix_listK (K := K) rfl) (pv 0) pe_int (fun _ _ => rfl)) (pe_op op_mulW pe_int (pe_ix (My.ix_listK (K := K) rfl) (pv 0) pe_int (fun _ _ => rfl)))) pe_int) pa_nil)) (pe_op op_add (pe_op My.op_powW pe_int pe_int) pe_int)))
  (pss_cons (ps_set (i := 3) sc_law_dip.nd rfl (by first | exact Or.inl rfl | exact Or.inr rfl) (pe_op op_mod (pe_callTy call_int1 (by rfl) T.int (by decide +kernel) (pa_cons (pe_op My.op_powW (pe_op op_add (pv 3) (pe_op op_mulW pe_int (pe_ix (My.ix_listK (K := K) rfl) (pv 0) pe_int (fun _ _ => rfl)))) pe_int) pa_nil)) (pe_op op_add (pe_op My.op_powW pe_int pe_int) pe_int)))
  (pss_one (ps_ret (pe_op op_mod (pe_callTy call_int1 (by rfl) T.int (by decide +kernel) (pa_cons (pe_op op_fdivW (pv 3) (pe_op My.op_powW pe_int pe_int)) pa_nil)) (pv 1)))))))))), ?_⟩
    have hmW : CDivW w0 many := wide_div (b := 200) hm0 (by omega) (by decide) (by decide)
    refine ⟨_, rfl, a, _, _, _, rfl, rfl, SqL.of ha, rfl, _, _, rfl, rfl, _, rfl, ?_⟩
    refine L2.ite2 (fun c => ?_) (fun c => ?_)
    · refine ⟨_, rfl, a, _, _, _, rfl, rfl, SqL.of ha, rfl, .inl ⟨_, rfl, _, rfl, _, _, rfl, rfl, hm0, ?_⟩⟩
      refine ⟨_, rfl, a, _, _, _, rfl, rfl, SqL.of ha, rfl, _, rfl, _, _, rfl, rfl, hmW, _, rfl, a, _, 0, 0, rfl, rfl, ha, rfl, ?_⟩
      refine ⟨_, rfl, q _ _ ((But.refl _ _).put (.inr (by simp))) ⟨_, w1, w2, upd_same, hw1, hw2, by omega⟩ (Int.emod_nonneg _ (by omega)) (Int.emod_lt_of_pos _ hm0)⟩
    · have b2 : (w2 + 1).natAbs < 2 ^ 101 := by
        have : (2 : Nat) ^ 101 = 2 ^ 100 + 2 ^ 100 := by decide
        omega
      have m1 : (86028121 : Int).natAbs < 2 ^ 40 := by decide
      have m2 : (179424673 : Int).natAbs < 2 ^ 40 := by decide
      have m41 : (0 : Int) < 10 ^ (41 : Int).toNat + 9 := by decide
      have m39 : (0 : Int) < 10 ^ (39 : Int).toNat + 57 := by decide
      have q1 : (86028121 * (w2 + 1)).natAbs < 2 ^ 200 := by
        have : (2 : Nat) ^ 200 > 86028121 * 2 ^ 101 := by decide
        omega
      have q2 : (179424673 * (w2 + 1)).natAbs < 2 ^ 200 := by
        have : (2 : Nat) ^ 200 > 179424673 * 2 ^ 101 := by decide
        omega
      have c1 : CMulW 86028121 (w2 + 1) := wide_mul m1 b2 (by decide) (by decide) (by decide)
      have c2 : CMulW 179424673 (w2 + 1) := wide_mul m2 b2 (by decide) (by decide) (by decide)
      refine ⟨_, rfl, a, _, _, _, rfl, rfl, SqL.of ha, rfl, _, _, rfl, rfl, _, rfl, a, _, 2, 2, rfl, rfl, ha, rfl, ?_⟩
      have ha2 : upd H a (.lst [.int w0, .int w1, .int (w2 + 1)]) a = some (.lst [.int w0, .int w1, .int (w2 + 1)]) := upd_same
      refine ⟨_, rfl, a, _, _, _, rfl, rfl, SqL.of ha2, rfl, ?_⟩
      refine ⟨_, rfl, a, _, _, _, rfl, rfl, SqL.of ha2, rfl, _, _, rfl, rfl, c1, _, _, rfl, rfl, ?_⟩
      refine ⟨_, _, rfl, rfl, powW (add_lt hw1 q1) (by decide) (by decide) (by decide), .inl ⟨_, rfl, ?_⟩⟩
      refine ⟨_, _, rfl, rfl, ten_pow (by decide) (by decide), _, _, rfl, rfl, _, _, rfl, rfl, m41, ?_⟩
      have e1 := emod_lt2 (x := (w1 + 86028121 * (w2 + 1)) ^ (3 : Int).toNat) (m := 10 ^ (41 : Int).toNat + 9) (k := 200) (by decide) (by decide)
      refine ⟨_, rfl, ?_⟩
      refine ⟨_, rfl, a, _, _, _, rfl, rfl, SqL.of ha2, rfl, _, _, rfl, rfl, c2, _, _, rfl, rfl, ?_⟩
      refine ⟨_, _, rfl, rfl, powW (add_lt e1 q2) (by decide) (by decide) (by decide), .inl ⟨_, rfl, ?_⟩⟩
      refine ⟨_, _, rfl, rfl, ten_pow (by decide) (by decide), _, _, rfl, rfl, _, _, rfl, rfl, m39, ?_⟩
      refine ⟨_, rfl, _, _, rfl, rfl, ten_pow (by decide) (by decide), _, _, rfl, rfl, wide_div (b := 100) (by decide) (by decide) (by decide) (by decide), .inl ⟨_, rfl, ?_⟩⟩
      refine ⟨_, rfl, _, _, rfl, rfl, hm0, ?_⟩
      exact q _ _ ((But.refl _ _).put (.inr (by simp))) ⟨_, w1, w2 + 1, upd_same, hw1, by omega, by omega⟩ (Int.emod_nonneg _ (by omega)) (Int.emod_lt_of_pos _ hm0)
theorem c_law_dip (T : Txt K mg) : C8.Cal P w K mg base 1 "_law_dip" (sp_law_dip K) [] := by
  obtain ⟨fd, F⟩ := T.f_law_dip
  exact ⟨_, fd, _, _, ok_law_dip T F, T.g_law_dip, F.kp, F.bindsN (fun _ _ _ _ _ _ us hl => match us, hl with | [_, _], _ => rfl), .nil⟩
def sp_law_pot (K : PySem.W.Frag) : Sp := fun vs H Q _ => ∃ (a : Addr) (ns : List Int) (k : Int), vs = [.ref a, .int k] ∧ SqL K H a (ns.map V.int) ∧ 0 ≤ k ∧ k < 100 ∧
  ∀ H' p, H p = none → Same H H' → SpringAt H' p 0 → Q (.ref p) H'
set_option maxHeartbeats 2000000 in
theorem ok_law_pot (T : Txt K mg) {fd : FuncData} (F : FunD K d_law_pot.name d_law_pot.qual d_law_pot.params d_law_pot.body d_law_pot.scope (d_law_pot.dvs K) (d_law_pot.kws K) (He.fAd K d_law_pot.at_) fd) : FnOk P w K mg base C8.CX0 1 (He.fAd K d_law_pot.at_) fd ["script", "k"] (sp_law_pot K) := by
  refine F.ok sc_law_pot (fun vs H Q E h => ?_) (fun cdv A outer s H vs Q E hr h => ?_)
  · obtain ⟨a, ns, k, rfl, _⟩ := h
    rfl
  · have hu := L2.hu_of hr
    obtain ⟨a, ns, k, rfl, hS, hk0, hk1, q⟩ := h
    refine ⟨_, (PSs.nox ((pss_cons (ps_set (i := 2) sc_law_pot.nd rfl (by first | exact Or.inl rfl | exact Or.inr rfl) pe_int)
  (pss_cons (ps_if (pt_cmpR op_lt (pv 1) (pe_callB (My.len_seqK (K := K) rfl) (by rfl) T.len (by decide +kernel) (pa_cons (pv 0) pa_nil)) (nomark _))
  (pss_one (ps_set (i := 2) sc_law_pot.nd rfl (by first | exact Or.inl rfl | exact Or.inr rfl) (pe_callB call_abs (by rfl) T.abs (by decide +kernel) (pa_cons (pe_callTy call_int1 (by rfl) T.int (by decide +kernel) (pa_cons (pe_ix (My.ix_listK (K := K) rfl) (pv 0) (pv 1) (fun _ _ => rfl)) pa_nil)) pa_nil))))
  pss_nil)
  (pss_one (ps_ret (pe_lst (pa_cons (pe_callB (call_max2 rfl) (by rfl) T.max (by decide +kernel) (pa_cons pe_int (pa_cons (pe_op op_sub (pv 2) (pe_op My.op_powW pe_int pe_int)) pa_nil))) (pa_cons (pe_op op_add (pe_op op_mod (pe_callTy call_int1 (by rfl) T.int (by decide +kernel) (pa_cons (pv 2) pa_nil)) (pe_op op_add (pe_op My.op_powW pe_int pe_int) pe_int)) (pe_op op_mulW pe_int (pv 1))) (pa_cons pe_int pa_nil)))))))))), ?_⟩
    have fin : ∀ cell : Int, (∀ p, H p = none → ∀ w0, Q (.ref p) (upd H p (.lst [.int w0, .int (cell % (10 ^ (33 : Int).toNat + 33) + 524309 * k), .int 0]))) := by
      intro cell p hp w0
      refine q _ p hp (same_new hp) ⟨_, _, _, upd_same, ?_, by decide, by decide⟩
      have e1 := emod_lt2 (x := cell) (m := 10 ^ (33 : Int).toNat + 33) (k := 120) (by decide) (by decide)
      have e2 : (524309 * k).natAbs < 2 ^ 120 := by
        have : (2 : Nat) ^ 120 > 300000000 := by decide
        omega
      exact two_le (add_lt e1 e2) (by decide)
    have m33 : (0 : Int) < 10 ^ (33 : Int).toNat + 33 := by decide
    have mk : CMulW 524309 k := by
      refine wide_mul (a := 40) (b := 40) (by decide) ?_ (by decide) (by decide) (by decide)
      have : (2 : Nat) ^ 40 > 1000 := by decide
      omega
    have rest : ∀ cell : Int, tRet
            (tLst
              (tCons
                (tCB (fun xs H Q => ∃ i j, xs = [V.int i, V.int j] ∧ Q (V.int (if j > i then j else i)) H)
                  (tCons (tC (V.int 0))
                    (tCons
                      (tOp (rI0 fun i j => V.int (i - j)) (tVar 2)
                        (tOp (rI CPowW fun i j => V.int (i ^ j.toNat)) (tC (V.int 10)) (tC (V.int 18))))
                      tNil)))
                (tCons
                  (tOp (rI0 fun i j => V.int (i + j))
                    (tOp (rI (fun x j => 0 < j) fun i j => V.int (i % j))
                      (tCB
                        (fun xs H Q =>
                          (∃ i, xs = [V.int i] ∧ Q (V.int i) H) ∨
                            ∃ k, xs = [V.bl k] ∧ Q (V.int (if k = true then 1 else 0)) H)
                        (tCons (tVar 2) tNil))
                      (tOp (rI0 fun i j => V.int (i + j))
                        (tOp (rI CPowW fun i j => V.int (i ^ j.toNat)) (tC (V.int 10)) (tC (V.int 33))) (tC (V.int 33))))
                    (tOp (rI CMulW fun i j => V.int (i * j)) (tC (V.int 524309)) (tVar 1)))
                  (tCons (tC (V.int 0)) tNil)))) { nx := fun x H' => Q V.non H', rt := Q } [some (.ref a), some (.int k), some (.int cell)] H := by
      intro cell
      refine ⟨_, rfl, _, _, rfl, rfl, ten_pow (by decide) (by decide), _, _, rfl, rfl, _, _, rfl, ?_⟩
      refine ⟨_, rfl, .inl ⟨_, rfl, _, _, rfl, rfl, ten_pow (by decide) (by decide), _, _, rfl, rfl, _, _, rfl, rfl, m33, ?_⟩⟩
      exact ⟨_, rfl, _, _, rfl, rfl, mk, _, _, rfl, rfl, by show 3 ≤ sizeLine; decide, fun p hp => fin _ p hp _⟩
    refine ⟨_, rfl, _, rfl, a, _, rfl, .inl hS, _, _, rfl, rfl, _, rfl, ?_⟩
    rw [List.length_map]
    refine L2.ite2 (fun c => ?_) (fun c => ?_)
    · have hlt : k < (ns.length : Int) := of_decide_eq_true c
      obtain ⟨j, rfl⟩ : ∃ j : Nat, k = (j : Int) := ⟨k.toNat, by omega⟩
      have hj : j < ns.length := by omega
      refine ⟨_, rfl, _, rfl, a, _, _, _, rfl, rfl, hS, atI_nat (by rw [List.getElem?_map, List.getElem?_eq_getElem hj]; rfl), .inl ⟨_, rfl, ?_⟩⟩
      refine ⟨_, rfl, ?_⟩
      exact rest _
    · exact rest 0
theorem c_law_pot (T : Txt K mg) : C8.Cal P w K mg base 1 "_law_pot" (sp_law_pot K) [] := by
  obtain ⟨fd, F⟩ := T.f_law_pot
  exact ⟨_, fd, _, _, ok_law_pot T F, T.g_law_pot, F.kp, F.bindsN (fun _ _ _ _ _ _ us hl => match us, hl with | [_, _], _ => rfl), .nil⟩
end
end K16

namespace K16
open PySem PySem.Spec PyProof.Rows L2 My
/-! ### alike: two values that lay the same data -/
def Sized : Nat → PyData → Prop
  | 0, _ => False
  | n + 1, .list ds => ds.length ≤ 100000 ∧ ∀ e ∈ ds, Sized n e
  | n + 1, .tuple ds => ds.length ≤ 100000 ∧ ∀ e ∈ ds, Sized n e
  | _ + 1, .dict _ => False
  | _ + 1, _ => True
theorem dpall_len {K : PySem.W.Frag} {H : Hp} : ∀ {xs : List V} {ds : List PyData}, DpAll K H xs ds → xs.length = ds.length
  | _, _, .nil => rfl
  | _, _, .cons _ t => congrArg (· + 1) (dpall_len t)
theorem dpall_at {K : PySem.W.Frag} {H : Hp} : ∀ {xs : List V} {ds : List PyData} {i : Nat} {d : PyData}, DpAll K H xs ds → ds[i]? = some d → ∃ v, xs[i]? = some v ∧ Dp K H v d
  | _, _, 0, _, .cons h _, e => ⟨_, rfl, by cases e; exact h⟩
  | _, _, i + 1, _, .cons _ t, e => dpall_at (i := i) t e
mutual
theorem dp_same {K : PySem.W.Frag} {H H' : Hp} (s : Same H H') : ∀ {v : V} {d : PyData}, Dp K H v d → Dp K H' v d
  | _, _, .non => .non
  | _, _, .bl b => .bl b
  | _, _, .int i => .int i
  | _, _, .str x => .str x
  | _, _, .lst h t => .lst (s.seq h) (dpall_same s t)
  | _, _, .tup h t => .tup (same_tup s h) (dpall_same s t)
theorem dpall_same {K : PySem.W.Frag} {H H' : Hp} (s : Same H H') : ∀ {vs : List V} {ds : List PyData}, DpAll K H vs ds → DpAll K H' vs ds
  | _, _, .nil => .nil
  | _, _, .cons h t => .cons (dp_same s h) (dpall_same s t)
end
section
variable {P : Program} {w : World} {K : PySem.W.Frag} {mg : Str → Option Value} {base : Heap}
def spr_law_alike (K : PySem.W.Frag) (n : Nat) : Sp := fun vs H Q _ => ∃ (x y : V) (d : PyData), vs = [x, y] ∧ Dp K H x d ∧ Dp K H y d ∧ Sized n d ∧ ∀ H', Same H H' → Q (.bl true) H'
theorem no_law_alike (K : PySem.W.Frag) {vs : List V} {H : Hp} {Q : VK} {E : XK} : ¬ spr_law_alike K 0 vs H Q E := fun ⟨_, _, d, _, _, _, h, _⟩ => by
  cases d <;> exact h
def sp_law_alike (K : PySem.W.Frag) : Sp := spr_law_alike K 5
set_option maxHeartbeats 2000000 in
theorem okr_law_alike (T : Txt K mg) {rn : Nat} (c_law_alike : C8.Cal P w K mg base rn "_law_alike" (spr_law_alike K rn) []) {fd : FuncData} (F : FunD K d_law_alike.name d_law_alike.qual d_law_alike.params d_law_alike.body d_law_alike.scope (d_law_alike.dvs K) (d_law_alike.kws K) (He.fAd K d_law_alike.at_) fd) : FnOk P w K mg base C8.CX0 (rn + 1) (He.fAd K d_law_alike.at_) fd ["found", "due"] (spr_law_alike K (rn + 1)) := by
  refine F.ok sc_law_alike (fun vs H Q E h => ?_) (fun cdv A outer s H vs Q E hr h => ?_)
  · obtain ⟨x, y, d, rfl, _⟩ := h
    rfl
  · have hu := L2.hu_of hr
    obtain ⟨x, y, d, rfl, hx, hy, hz, q⟩ := h
    refine ⟨_, (PSs.nox ((pss_cons (ps_if (PW.pt (pw_or (pt_cmpR op_ne (pe_callB (My.isiK (K := K) rfl) (by rfl) T.isinstance (by decide +kernel) (pa_cons (pv 0) (pa_cons (pe_bltn (v := .ty "tuple") (u := .type "tuple") rfl T.tuple (by decide +kernel) rfl) pa_nil))) (pe_callB (My.isiK (K := K) rfl) (by rfl) T.isinstance (by decide +kernel) (pa_cons (pv 1) (pa_cons (pe_bltn (v := .ty "tuple") (u := .type "tuple") rfl T.tuple (by decide +kernel) rfl) pa_nil))) (nomark _)) (pw_or1 (pt_cmpR op_ne (pe_callB (My.isiK (K := K) rfl) (by rfl) T.isinstance (by decide +kernel) (pa_cons (pv 0) (pa_cons (pe_bltn (v := .ty "list") (u := .type "list") rfl T.list (by decide +kernel) rfl) pa_nil))) (pe_callB (My.isiK (K := K) rfl) (by rfl) T.isinstance (by decide +kernel) (pa_cons (pv 1) (pa_cons (pe_bltn (v := .ty "list") (u := .type "list") rfl T.list (by decide +kernel) rfl) pa_nil))) (nomark _)))))
  (pss_one (ps_ret pe_bl))
  pss_nil)
  (pss_cons (ps_if (pt_val (pe_callB (My.isiTK (K := K) rfl) (by rfl) T.isinstance (by decide +kernel) (pa_cons (pv 1) (pa_cons (pe_tup (pa_cons (pe_bltn (v := .ty "tuple") (u := .type "tuple") rfl T.tuple (by decide +kernel) rfl) (pa_cons (pe_bltn (v := .ty "list") (u := .type "list") rfl T.list (by decide +kernel) rfl) pa_nil))) pa_nil))))
  (pss_cons (ps_if (pt_cmpR op_ne (pe_callB (My.len_seqK (K := K) rfl) (by rfl) T.len (by decide +kernel) (pa_cons (pv 0) pa_nil)) (pe_callB (My.len_seqK (K := K) rfl) (by rfl) T.len (by decide +kernel) (pa_cons (pv 1) pa_nil)) (nomark _))
  (pss_one (ps_ret pe_bl))
  pss_nil)
  (pss_one (ps_ret (pe_cmpR (My.eqDK (K := K) rfl hr.units) (pe_lc (own := [("k", 2)]) (g := (gName 2)) (by rfl) sc_law_alike.nd (pi_range1 (by rfl) T.range (pa_cons (pe_callB (My.len_seqK (K := K) rfl) (by rfl) T.len (by decide +kernel) (pa_cons (pv 1) pa_nil)) pa_nil)) (blkOk_by (N := N_law_alike) (sc := defScope s_law_alike) (by decide +kernel)) (fun _ _ _ _ _ => (pg_name (i := 2) sc_law_alike.nd rfl (by first | exact Or.inl rfl | exact Or.inr rfl))) (fun _ _ _ _ _ => (pts_one (pt_not (pt_val (C8.pe_c c_law_alike hr (Nat.le_refl _) rfl (pa_cons (pe_ix (My.ix_bothK (K := K) rfl) (pv 0) (pv 2) (fun _ _ => rfl)) (pa_cons (pe_ix (My.ix_bothK (K := K) rfl) (pv 1) (pv 2) (fun _ _ => rfl)) pa_nil))))))) (fun _ _ _ _ _ => (pv 2))) (pe_lst pa_nil) (nomark _)))))
  pss_nil)
  (pss_cons (ps_if (PW.pt (pw_or (pt_cmpR op_ne (pe_callB (My.isiK (K := K) rfl) (by rfl) T.isinstance (by decide +kernel) (pa_cons (pv 0) (pa_cons (pe_bltn (v := .ty "bool") (u := .type "bool") rfl T.bool (by decide +kernel) rfl) pa_nil))) (pe_callB (My.isiK (K := K) rfl) (by rfl) T.isinstance (by decide +kernel) (pa_cons (pv 1) (pa_cons (pe_bltn (v := .ty "bool") (u := .type "bool") rfl T.bool (by decide +kernel) rfl) pa_nil))) (nomark _)) (pw_or1 (pt_cmpR op_ne (pe_callB (My.isiK (K := K) rfl) (by rfl) T.isinstance (by decide +kernel) (pa_cons (pv 0) (pa_cons (pe_bltn (v := .ty "str") (u := .type "str") rfl T.str (by decide +kernel) rfl) pa_nil))) (pe_callB (My.isiK (K := K) rfl) (by rfl) T.isinstance (by decide +kernel) (pa_cons (pv 1) (pa_cons (pe_bltn (v := .ty "str") (u := .type "str") rfl T.str (by decide +kernel) rfl) pa_nil))) (nomark _)))))
  (pss_one (ps_ret pe_bl))
  pss_nil)
  (pss_one (ps_ret (pe_cmpR op_eq (pv 0) (pv 1) (nomark _))))))))), ?_⟩
    have flat : ∀ (v : V) (t : String) (b1 b2 : Bool), x = v → y = v → (∀ HH, TyX K HH v (.type t)) → PySem.W.kitOne K (.type t) (.type "tuple") = some false → PySem.W.kitOne K (.type t) (.type "list") = some false → PySem.W.kitAny K (.type t) [.type "tuple", .type "list"] = some false → PySem.W.kitOne K (.type t) (.type "bool") = some b1 → PySem.W.kitOne K (.type t) (.type "str") = some b2 → scal v v = true →
        tSeq
        (tIfS
          (tOr
            (tTest
              (tOp rNe (tCB (rIsi K) (tCons (tVar 0) (tCons (tC (V.ty "tuple")) tNil)))
                (tCB (rIsi K) (tCons (tVar 1) (tCons (tC (V.ty "tuple")) tNil)))))
            (tTest
              (tOp rNe (tCB (rIsi K) (tCons (tVar 0) (tCons (tC (V.ty "list")) tNil)))
                (tCB (rIsi K) (tCons (tVar 1) (tCons (tC (V.ty "list")) tNil))))))
          (tRet (tC (V.bl false))) tNext)
        (tSeq
          (tIfS
            (tB
              (tCB (rIsiT K)
                (tCons (tVar 1) (tCons (tTup (tCons (tC (V.ty "tuple")) (tCons (tC (V.ty "list")) tNil))) tNil))))
            (tSeq
              (tIfS (tTest (tOp rNe (tCB (rLenQ K) (tCons (tVar 0) tNil)) (tCB (rLenQ K) (tCons (tVar 1) tNil))))
                (tRet (tC (V.bl false))) tNext)
              (tRet
                (tOp (rEqD K)
                  (tLc (iRng1 (tCons (tCB (rLenQ K) (tCons (tVar 1) tNil)) tNil)) (gName 2)
                    (tNot
                      (tB
                        (tCall (spr_law_alike K rn) [] C8.E0
                          (tCons (tOp (rIxB K) (tVar 0) (tVar 2)) (tCons (tOp (rIxB K) (tVar 1) (tVar 2)) tNil)))))
                    (tVar 2) (List.map (fun x => x.snd) [("k", 2)]))
                  (tLst tNil))))
            tNext)
          (tSeq
            (tIfS
              (tOr
                (tTest
                  (tOp rNe (tCB (rIsi K) (tCons (tVar 0) (tCons (tC (V.ty "bool")) tNil)))
                    (tCB (rIsi K) (tCons (tVar 1) (tCons (tC (V.ty "bool")) tNil)))))
                (tTest
                  (tOp rNe (tCB (rIsi K) (tCons (tVar 0) (tCons (tC (V.ty "str")) tNil)))
                    (tCB (rIsi K) (tCons (tVar 1) (tCons (tC (V.ty "str")) tNil))))))
              (tRet (tC (V.bl false))) tNext)
            (tRet (tOp rEq (tVar 0) (tVar 1)))))
        { nx := fun x H' => Q V.non H', rt := Q } (L2.start N_law_alike [x, y]) H := by
      intro v t b1 b2 ex ey ty k1 k2 k3 k4 k5 sc
      subst ex
      subst ey
      refine ⟨_, rfl, _, _, _, _, _, rfl, .ty "tuple", ty _, k1, _, rfl, _, _, _, _, _, rfl, .ty "tuple", ty _, k1, rfl, _, rfl, ?_⟩
      refine ⟨_, rfl, _, _, _, _, _, rfl, .ty "list", ty _, k2, _, rfl, _, _, _, _, _, rfl, .ty "list", ty _, k2, rfl, _, rfl, ?_⟩
      refine ⟨_, rfl, by show 2 ≤ sizeLine; decide, fun tt htt => ⟨_, tt, _, _, _, _, rfl, upd_same, .cons (.ty _) (.cons (.ty _) .nil), ty _, k3, false, rfl, ?_⟩⟩
      refine ⟨_, rfl, _, _, _, _, _, rfl, .ty "bool", ty _, k4, _, rfl, _, _, _, _, _, rfl, .ty "bool", ty _, k4, rfl, _, rfl, ?_⟩
      rw [decide_eq_true (show V.bl b1 = V.bl b1 from rfl)]
      refine ⟨_, rfl, _, _, _, _, _, rfl, .ty "str", ty _, k5, _, rfl, _, _, _, _, _, rfl, .ty "str", ty _, k5, rfl, _, rfl, ?_⟩
      rw [decide_eq_true (show V.bl b2 = V.bl b2 from rfl)]
      refine ⟨_, rfl, _, rfl, sc, ?_⟩
      rw [decide_eq_true rfl]
      exact q _ (same_new htt)
    have kA : ∀ t : String, PySem.W.kitOne K (.type t) (.type "tuple") = some false → PySem.W.kitOne K (.type t) (.type "list") = some false → PySem.W.kitAny K (.type t) [.type "tuple", .type "list"] = some false := fun t k1 k2 => kitAny_cons k1 (fun _ => kitAny_cons k2 (fun _ => kitAny_nil) (fun z => by cases z)) (fun z => by cases z)
    have kz : ∀ (p : Prop), some true = some false → p := fun p z => by cases z
    have seq : ∀ (H1 : Hp) (a b : Addr) (xs ys : List V) (ds : List PyData), Same H H1 → (SqL K H1 a xs ∨ SqT K H1 a xs) → (SqL K H1 b ys ∨ SqT K H1 b ys) → DpAll K H xs ds → DpAll K H ys ds → ds.length ≤ 100000 → (∀ e ∈ ds, Sized rn e) →
        tOp (rEqD K)
                  (tLc (iRng1 (tCons (tCB (rLenQ K) (tCons (tVar 1) tNil)) tNil)) (gName 2)
                    (tNot
                      (tB
                        (tCall (spr_law_alike K rn) [] C8.E0
                          (tCons (tOp (rIxB K) (tVar 0) (tVar 2)) (tCons (tOp (rIxB K) (tVar 1) (tVar 2)) tNil)))))
                    (tVar 2) (List.map (fun x => x.snd) [("k", 2)]))
                  (tLst tNil) [some (.ref a), some (.ref b), none] H1 Q := by
      intro H1 a b xs ys ds s1 hS hT hA hB hl hd
      have lx := dpall_len hA
      have ly := dpall_len hB
      refine ⟨_, rfl, b, ys, rfl, hT, ((ds.length : Nat) : Int), by rw [ly], by omega, by omega, fun D hD => ?_⟩
      refine lc_range (lo := 0) (n := ((ds.length : Nat) : Int).toNat) (fun i H' => Same H1 H' ∧ H' D = some (.lst [])) ⟨same_new hD, upd_same⟩ ?_ ?_
      · rintro i H2 hi ⟨s2, hD2⟩
        have hi2 : i < ds.length := by omega
        have hdi := List.getElem?_eq_getElem hi2
        obtain ⟨v1, hv1, d1⟩ := dpall_at hA hdi
        obtain ⟨v2, hv2, d2⟩ := dpall_at hB hdi
        have ss := s1.trans s2
        refine ⟨rfl, ?_⟩
        have e0 : (0 : Int) + (i : Int) = (i : Int) := by omega
        have ix : ∀ {c : Addr} {zs : List V} {v : V} {Q2 : VK}, (SqL K H1 c zs ∨ SqT K H1 c zs) → zs[i]? = some v → Q2 v H2 → rIxB K (.ref c) (.int (0 + (i : Int))) H2 Q2 := fun {c zs v Q2} hc hv q2 => by
          rcases hc with hc | hc
          · exact .inl ⟨c, zs, (i : Int), v, rfl, by rw [e0], s2.seq hc, atI_nat hv, q2⟩
          · exact .inr ⟨c, zs, (i : Int), v, rfl, by rw [e0], same_tup s2 hc, atI_nat hv, q2⟩
        refine ⟨_, rfl, _, rfl, ix hS hv1 ⟨_, rfl, _, rfl, ix hT hv2 ⟨v1, v2, ds[i], rfl, dp_same ss d1, dp_same ss d2, hd _ (List.getElem_mem _), fun H3 s3 => ?_⟩⟩⟩
        exact ⟨true, rfl, s2.trans s3, s3 _ _ hD2⟩
      · rintro H2 ⟨s2, hD2⟩
        refine ⟨Nat.zero_le _, fun e he => ?_⟩
        refine ⟨.list [], .list [], .lst (SqL.of (by rw [upd_ne (ne_of_none hD2 he)]; exact hD2)) .nil, .lst (SqL.of upd_same) .nil, by decide +kernel, by decide +kernel, ?_⟩
        exact q _ ((s1.trans s2).trans (same_new he))
    cases d with
    | none =>
      cases hx
      cases hy
      exact flat .non "NoneType" false false rfl rfl (fun _ => .base .non) (L2.kit_ty (by decide +kernel)) (L2.kit_ty (by decide +kernel)) (kA _ (L2.kit_ty (by decide +kernel)) (L2.kit_ty (by decide +kernel))) (L2.kit_ty (by decide +kernel)) (L2.kit_ty (by decide +kernel)) rfl
    | bool b =>
      cases hx
      cases hy
      exact flat (.bl b) "bool" true false rfl rfl (fun _ => .base (.bl b)) (L2.kit_ty (by decide +kernel)) (L2.kit_ty (by decide +kernel)) (kA _ (L2.kit_ty (by decide +kernel)) (L2.kit_ty (by decide +kernel))) (L2.kit_ty (by decide +kernel)) (L2.kit_ty (by decide +kernel)) rfl
    | int b =>
      cases hx
      cases hy
      exact flat (.int b) "int" false false rfl rfl (fun _ => .base (.int b)) (L2.kit_ty (by decide +kernel)) (L2.kit_ty (by decide +kernel)) (kA _ (L2.kit_ty (by decide +kernel)) (L2.kit_ty (by decide +kernel))) (L2.kit_ty (by decide +kernel)) (L2.kit_ty (by decide +kernel)) rfl
    | str b =>
      cases hx
      cases hy
      exact flat (.str b) "str" false true rfl rfl (fun _ => .base (.str b)) (L2.kit_ty (by decide +kernel)) (L2.kit_ty (by decide +kernel)) (kA _ (L2.kit_ty (by decide +kernel)) (L2.kit_ty (by decide +kernel))) (L2.kit_ty (by decide +kernel)) (L2.kit_ty (by decide +kernel)) rfl
    | dict kvs => exact absurd hz (fun z => z)
    | list ds =>
      cases hx with
      | @lst a xs _ hS hA =>
      cases hy with
      | @lst b ys _ hT hB =>
      obtain ⟨hl, hd⟩ := hz
      have lx := dpall_len hA
      have ly := dpall_len hB
      refine ⟨_, rfl, _, _, _, _, false, rfl, .ty "tuple", tyx_lst hS, L2.kit_ty (by decide +kernel), _, rfl, _, _, _, _, false, rfl, .ty "tuple", tyx_lst hT, L2.kit_ty (by decide +kernel), rfl, _, rfl, ?_⟩
      refine ⟨_, rfl, _, _, _, _, true, rfl, .ty "list", tyx_lst hS, L2.kit_ty (by decide +kernel), _, rfl, _, _, _, _, true, rfl, .ty "list", tyx_lst hT, L2.kit_ty (by decide +kernel), rfl, _, rfl, ?_⟩
      refine ⟨_, rfl, by show 2 ≤ sizeLine; decide, fun tt htt => ⟨_, tt, _, _, _, _, rfl, upd_same, .cons (.ty _) (.cons (.ty _) .nil), tyx_lst ((same_new htt).seq hT), kitAny_cons (b := false) (r := true) (L2.kit_ty (by decide +kernel)) (fun _ => kitAny_cons (b := true) (L2.kit_ty (by decide +kernel)) (fun z => by cases z) (fun _ => rfl)) (fun z => by cases z), true, rfl, ?_⟩⟩
      have s1 := same_new (o := .tup [V.ty "tuple", .ty "list"]) htt
      refine ⟨_, rfl, a, _, rfl, .inl (s1.seq hS), _, rfl, b, _, rfl, .inl (s1.seq hT), rfl, _, rfl, ?_⟩
      rw [lx, ly, decide_eq_true rfl]
      exact seq _ a b xs ys ds s1 (.inl (s1.seq hS)) (.inl (s1.seq hT)) hA hB hl hd
    | tuple ds =>
      cases hx with
      | @tup a xs _ hS hA =>
      cases hy with
      | @tup b ys _ hT hB =>
      obtain ⟨hl, hd⟩ := hz
      have lx := dpall_len hA
      have ly := dpall_len hB
      refine ⟨_, rfl, _, _, _, _, true, rfl, .ty "tuple", tyx_tup hS, L2.kit_ty (by decide +kernel), _, rfl, _, _, _, _, true, rfl, .ty "tuple", tyx_tup hT, L2.kit_ty (by decide +kernel), rfl, _, rfl, ?_⟩
      refine ⟨_, rfl, _, _, _, _, false, rfl, .ty "list", tyx_tup hS, L2.kit_ty (by decide +kernel), _, rfl, _, _, _, _, false, rfl, .ty "list", tyx_tup hT, L2.kit_ty (by decide +kernel), rfl, _, rfl, ?_⟩
      refine ⟨_, rfl, by show 2 ≤ sizeLine; decide, fun tt htt => ⟨_, tt, _, _, _, _, rfl, upd_same, .cons (.ty _) (.cons (.ty _) .nil), tyx_tup (same_tup (same_new htt) hT), kitAny_cons (b := true) (L2.kit_ty (by decide +kernel)) (fun z => by cases z) (fun _ => rfl), true, rfl, ?_⟩⟩
      have s1 := same_new (o := .tup [V.ty "tuple", .ty "list"]) htt
      refine ⟨_, rfl, a, _, rfl, .inr (same_tup s1 hS), _, rfl, b, _, rfl, .inr (same_tup s1 hT), rfl, _, rfl, ?_⟩
      rw [lx, ly, decide_eq_true rfl]
      exact seq _ a b xs ys ds s1 (.inr (same_tup s1 hS)) (.inr (same_tup s1 hT)) hA hB hl hd
theorem cr_law_alike (T : Txt K mg) : ∀ rn : Nat, C8.Cal P w K mg base rn "_law_alike" (spr_law_alike K rn) []
  | 0 => by
    obtain ⟨fd, F⟩ := T.f_law_alike
    exact ⟨_, fd, ["found", "due"], _, ⟨fun vs H Q E h => absurd h (no_law_alike K), fun A outer s H args us vs Q E _ _ _ _ h => absurd h (no_law_alike K)⟩, T.g_law_alike, F.kp, F.bindsN (fun _ _ _ _ _ _ us hl => match us, hl with | [_, _], _ => rfl), .nil⟩
  | rn + 1 => by
    obtain ⟨fd, F⟩ := T.f_law_alike
    exact ⟨_, fd, _, _, okr_law_alike T (cr_law_alike T rn) F, T.g_law_alike, F.kp, F.bindsN (fun _ _ _ _ _ _ us hl => match us, hl with | [_, _], _ => rfl), .nil⟩
theorem c_law_alike (T : Txt K mg) : C8.Cal P w K mg base 5 "_law_alike" (sp_law_alike K) [] := cr_law_alike T 5
end
end K16

namespace K16
open PySem PySem.Spec PyProof.Rows L2 My
/-! ### data (as k20/P16) -/
theorem dp_flatInts (K : PySem.W.Frag) (H : Hp) : ∀ l : List Int, DpAll K H (l.map V.int) (l.map PyData.int)
  | [] => .nil
  | a :: l => .cons (.int a) (dp_flatInts K H l)
theorem lay_ints : ∀ l : List Int, PyData.canLayAll0 (l.map PyData.int) = true
  | [] => rfl
  | a :: l => by
    show (true && PyData.canLayAll0 (l.map PyData.int)) = true
    rw [lay_ints l]
    rfl
theorem dep_ints : ∀ l : List Int, PyData.depthAll (l.map PyData.int) = 0
  | [] => rfl
  | a :: l => by
    show max 0 (PyData.depthAll (l.map PyData.int)) = 0
    rw [dep_ints l]
    rfl
/-- data that may be compared: laid out, of small depth -/
structure Sm (n : Nat) (d : PyData) : Prop where
  lay : d.canLay0 = true
  dep : d.depth ≤ n
theorem Sm.shaped {n : Nat} {d : PyData} (h : Sm n d) (e : n ≤ 64) : SeqAt.shaped d = true := Bool.and_eq_true_iff.mpr ⟨h.lay, decide_eq_true (Nat.le_trans h.dep e)⟩
theorem Sm.refl {n : Nat} {d : PyData} (h : Sm n d) : PyData.eqv d d = true := SeqAt.eqv_refl d h.lay
theorem sm_int (i : Int) : Sm 0 (.int i) := ⟨rfl, Nat.le_refl _⟩
theorem sm_bool (i : Bool) : Sm 0 (.bool i) := ⟨rfl, Nat.le_refl _⟩
theorem sm_none : Sm 0 .none := ⟨rfl, Nat.le_refl _⟩
theorem lay_all : ∀ {ds : List PyData} {n : Nat}, (∀ d ∈ ds, Sm n d) → PyData.canLayAll0 ds = true ∧ PyData.depthAll ds ≤ n
  | [], n, _ => ⟨rfl, Nat.zero_le _⟩
  | d :: ds, n, h => by
    obtain ⟨h1, h2⟩ := lay_all (ds := ds) fun x hx => h x (List.mem_cons_of_mem _ hx)
    have h3 := h d (List.mem_cons_self ..)
    refine ⟨Bool.and_eq_true_iff.mpr ⟨h3.lay, h1⟩, ?_⟩
    show max d.depth (PyData.depthAll ds) ≤ n
    exact Nat.max_le.mpr ⟨h3.dep, h2⟩
theorem sm_list {ds : List PyData} {n : Nat} (h : ∀ d ∈ ds, Sm n d) : Sm (n + 1) (.list ds) := ⟨(lay_all h).1, Nat.succ_le_succ (lay_all h).2⟩
theorem sm_tuple {ds : List PyData} {n : Nat} (h : ∀ d ∈ ds, Sm n d) : Sm (n + 1) (.tuple ds) := ⟨(lay_all h).1, Nat.succ_le_succ (lay_all h).2⟩
theorem Sm.mono {n m : Nat} {d : PyData} (h : Sm n d) (e : n ≤ m) : Sm m d := ⟨h.lay, Nat.le_trans h.dep e⟩
theorem sm_ints (l : List Int) : Sm 1 (.list (l.map PyData.int)) := sm_list fun d hd => by
  obtain ⟨i, _, rfl⟩ := List.mem_map.mp hd
  exact sm_int i
theorem sok {x : Str} (h : PyData.canLay0 (.str x) = true) : Sm 0 (.str x) := ⟨h, Nat.le_refl _⟩
theorem nilD {K : PySem.W.Frag} {H : Hp} {a : Addr} (h : H a = some (.lst [])) : Dp K H (.ref a) (.list []) := .lst (SqL.of h) .nil
theorem sm_nil : Sm 1 (.list []) := sm_list fun d hd => by cases hd
end K16

namespace K16
open PySem PySem.Spec PyProof.Rows L2 My
/-! ### numbers and lengths of texts -/
def numS (p : Int) : Str := Str.ofString (toString p)
theorem len_tl (x : Str) : x.length = (TL.tl x).length := by
  show x.cps.size = _
  rw [← Array.length_toList]
theorem len_of (s : String) : (Str.ofString s).length = s.length := by
  rw [len_tl, TL.tl_ofString, List.length_map, String.length_toList]
theorem num_len {p : Int} (h : 1 ≤ p ∧ p ≤ 1000000000) : (numS p).length ≤ 11 := by
  unfold numS
  rw [len_of]
  exact int_text_length_le10 (k := 10) (by decide) (by have : (10 : Nat) ^ 10 = 10000000000 := by decide
                                                       omega)
theorem num_log {p : Int} (h : 1 ≤ p ∧ p ≤ 1000000000) : p.natAbs.log2 < 1920 := by
  have h1 : p.natAbs < 2 ^ 40 := by
    have : (2 : Nat) ^ 40 > 1000000000 := by decide
    omega
  have : p.natAbs.log2 < 40 := (Nat.log2_lt (by omega)).mpr h1
  omega
theorem app_len {x y : Str} (a b : Nat) (h1 : x.length ≤ a) (h2 : y.length ≤ b) : (x ++ y).length ≤ a + b := by
  rw [len_tl] at *
  rw [TL.tl_append, List.length_append]
  omega
theorem cat_ok {x y : Str} (a b : Nat) (h1 : x.length ≤ a) (h2 : y.length ≤ b) (h : a + b ≤ 1000000 := by decide) : x.length + y.length ≤ sizeLine := Nat.le_of_lt (lt_line (by omega))
end K16

namespace K16
open PySem PySem.Spec PyProof.Rows L2 My StX
section
variable {P : Program} {w : World} {K : PySem.W.Frag} {mg : Str → Option Value} {base : Heap}
def sp_are_distinct_words (K : PySem.W.Frag) : Sp := fun vs H Q _ => ∃ (a b : Addr) (zs ws : List Str), vs = [.ref a, .ref b] ∧ SqT K H a (zs.map V.str) ∧ SqT K H b (ws.map V.str) ∧ zs.Nodup ∧ zs.length ≤ 100 ∧ (∀ z ∈ zs, z ∈ ws) ∧ ∀ H', Same H H' → Q (.bl true) H'
set_option maxHeartbeats 2000000 in
theorem ok_are_distinct_words (T : Txt K mg) {fd : FuncData} (F : FunD K d_are_distinct_words.name d_are_distinct_words.qual d_are_distinct_words.params d_are_distinct_words.body d_are_distinct_words.scope (d_are_distinct_words.dvs K) (d_are_distinct_words.kws K) (He.fAd K d_are_distinct_words.at_) fd) : FnOk P w K mg base C8.CX0 2 (He.fAd K d_are_distinct_words.at_) fd ["value", "words"] (sp_are_distinct_words K) := by
  have c_is_word := c_is_word (P := P) (w := w) (base := base) T
  refine F.ok sc_are_distinct_words (fun vs H Q E h => ?_) (fun cdv A outer s H vs Q E hr h => ?_)
  · obtain ⟨a, b, zs, ws, rfl, _⟩ := h
    rfl
  · have hu := L2.hu_of hr
    obtain ⟨a, b, zs, ws, rfl, hz, hw, hd, hl, hm, q⟩ := h
    refine ⟨_, (PSs.nox ((pss_cons (ps_if (PW.pt (pw_or (pt_not (pt_val (pe_callB (My.isiK (K := K) rfl) (by rfl) T.isinstance (by decide +kernel) (pa_cons (pv 0) (pa_cons (pe_bltn (v := .ty "tuple") (u := .type "tuple") rfl T.tuple (by decide +kernel) rfl) pa_nil))))) (pw_or1 (pt_not (pt_val (pe_callB (My.allK (K := K) rfl rfl) (by rfl) T.all (by decide +kernel) (pa_cons (pe_lc (own := [("item", 2)]) (g := (gName 2)) (tt := tYes) (by rfl) sc_are_distinct_words.nd (My.pi_tupK (K := K) rfl (pv 0)) (blkOk_by (N := N_are_distinct_words) (sc := defScope s_are_distinct_words) (by decide +kernel)) (fun _ _ _ _ _ => (pg_name (i := 2) sc_are_distinct_words.nd rfl (by first | exact Or.inl rfl | exact Or.inr rfl))) (fun _ _ _ _ _ => pts_nil) (fun _ _ _ _ _ => (C8.pe_c c_is_word hr (by decide) rfl (pa_cons (pv 2) (pa_cons (pv 1) pa_nil))))) pa_nil)))))))
  (pss_one (ps_ret pe_bl))
  pss_nil)
  (pss_one (ps_ret (pe_cmpR op_eq (My.pe_lenSetT (K := K) rfl (by rfl) (by rfl) T.len (by rfl) T.set (pv 0)) (pe_callB (My.len_seqK (K := K) rfl) (by rfl) T.len (by decide +kernel) (pa_cons (pv 0) pa_nil)) (nomark _))))))), ?_⟩
    refine ⟨_, rfl, _, _, _, _, _, rfl, .ty "tuple", tyx_tup hz, L2.kit_ty (by decide +kernel), true, rfl, ?_⟩
    refine L2.iteF ?_
    refine ⟨_, rfl, a, rfl, ⟨_, hz⟩, fun D hD => lc_tup (K := K) (a := a) (xs := zs.map V.str) (fun i H' => Same H H' ∧ H' D = some (.lst ((List.replicate i true).map V.bl))) ⟨same_new hD, upd_same⟩ (fun i H' _ p => same_tup p.1 hz) ?_ ?_⟩
    · rintro i y H2 hi ⟨s2, hD2⟩
      obtain ⟨z, hzz, rfl⟩ := map_get hi
      have hlt : i < zs.length := (List.getElem?_eq_some_iff.mp hzz).1
      have hmz : z ∈ ws := hm z (List.mem_of_getElem? hzz)
      refine ⟨rfl, ?_⟩
      refine ⟨_, rfl, _, rfl, z, b, ws, rfl, same_tup s2 hw, ?_⟩
      rw [decide_eq_true hmz]
      refine ⟨_, hD2, ?_, same_upd s2 hD, ?_⟩
      · rw [List.length_map, List.length_replicate]
        exact lt_line (by omega)
      · rw [upd_same, List.replicate_succ', List.map_append]
        rfl
    · rintro H2 ⟨s2, hD2⟩
      refine ⟨D, _, rfl, SqL.of hD2, ?_⟩
      have e2 : (List.replicate (zs.map V.str).length true).all id = true := List.all_eq_true.mpr fun x hx => (List.mem_replicate.mp hx).2
      rw [e2]
      refine ⟨_, rfl, L2.iteF ?_⟩
      refine ⟨_, rfl, a, zs, rfl, same_tup s2 hz, hd, by omega, ?_⟩
      refine ⟨_, rfl, a, _, rfl, .inr (same_tup s2 hz), rfl, ?_⟩
      rw [List.length_map, decide_eq_true rfl]
      exact q _ s2
theorem c_are_distinct_words (T : Txt K mg) : C8.Cal P w K mg base 2 "are_distinct_words" (sp_are_distinct_words K) [] := by
  obtain ⟨fd, F⟩ := T.f_are_distinct_words
  exact ⟨_, fd, _, _, ok_are_distinct_words T F, T.g_are_distinct_words, F.kp, F.bindsN (fun _ _ _ _ _ _ us hl => match us, hl with | [_, _], _ => rfl), .nil⟩
def takeR (zs : List Str) (rs gs : List RuleL) : List RuleL := (List.range 8).map fun i => if moms.getD i Str.empty ∈ zs then at_ gs i else at_ rs i
def sp_Book_taking (K : PySem.W.Frag) : Sp := fun vs H Q _ => ∃ (s g m : Addr) (d d2 : Int) (rs gs : List RuleL) (zs : List Str), vs = [.ref s, .ref g, .ref m] ∧ BookAt K H s d rs ∧ BookAt K H g d2 gs ∧ GoodB rs ∧ GoodB gs ∧ SqT K H m (zs.map V.str) ∧ zs.Nodup ∧ zs.length ≤ 100 ∧ (∀ z ∈ zs, z ∈ moms) ∧ 1 ≤ d ∧ d ≤ 30 ∧
  ∀ H' p, H p = none → Same H H' → BookAt K H' p d (takeR zs rs gs) → Q (.ref p) H'
set_option maxHeartbeats 2000000 in
theorem ok_Book_taking (T : Txt K mg) {fd : FuncData} (F : FunD K d_Book_taking.name d_Book_taking.qual d_Book_taking.params d_Book_taking.body d_Book_taking.scope (d_Book_taking.dvs K) (d_Book_taking.kws K) (He.fAd K d_Book_taking.at_) fd) : FnOk P w K mg base C8.CX0 5 (He.fAd K d_Book_taking.at_) fd ["self", "good", "moments"] (sp_Book_taking K) := by
  have c_Book_init := c_Book_init (P := P) (w := w) (base := base) T
  have c_Book_rule := c_Book_rule (P := P) (w := w) (base := base) T
  have c_are_distinct_words := c_are_distinct_words (P := P) (w := w) (base := base) T
  refine F.ok sc_Book_taking (fun vs H Q E h => ?_) (fun cdv A outer s H vs Q E hr h => ?_)
  · obtain ⟨s, g, m, d, d2, rs, gs, zs, rfl, _⟩ := h
    rfl
  · have hu := L2.hu_of hr
    obtain ⟨s1, g, m, d, d2, rs, gs, zs, rfl, hs, hg, gr, gg, hm, hd, hl, hmm, h1, h2, q⟩ := h
    refine ⟨_, (PSs.nox ((pss_cons (ps_if (pt_not (pt_val (C8.pe_c c_are_distinct_words hr (by decide) rfl (pa_cons (pv 2) (pa_cons (pe_glob (v := .ref (He.ga K "MOMENTS")) rfl T.g_MOMENTS rfl) pa_nil)))))
  (pss_one ps_never)
  pss_nil)
  (pss_cons (ps_setLc (i := 3) (own := [("moment", 4)]) (g := (gName 4)) (tt := tYes) (by rfl) sc_Book_taking.nd rfl rfl (sw_true rfl rfl rfl (by decide +kernel)) (My.pi_tupK (K := K) rfl (pe_glob (v := .ref (He.ga K "MOMENTS")) rfl T.g_MOMENTS rfl)) (blkOk_by (N := N_Book_taking) (sc := defScope s_Book_taking) (by decide +kernel)) (fun _ _ _ _ _ => (pg_name (i := 4) sc_Book_taking.nd rfl (by first | exact Or.inl rfl | exact Or.inr rfl))) (fun _ _ _ _ _ => pts_nil) (fun _ _ _ _ _ => (pe_ifExp (pt_cmpR (My.in_seqK (K := K) rfl) (pv 4) (pv 2) (by rfl)) (C8.pe_mt c_Book_rule hr (by decide) (pv 1) (pa_cons (pv 4) pa_nil)) (C8.pe_mt c_Book_rule hr (by decide) (pv 0) (pa_cons (pv 4) pa_nil)))))
  (pss_one (ps_ret (My.pe_mkS2 c_Book_init hr (by decide) rfl (pa_cons (My.pe_fldK (K := K) rfl (pv 0) rfl) (My.pa_starK (K := K) rfl (pv 3) pa_nil))))))))), ?_⟩
    refine ⟨_, rfl, m, He.ga K "MOMENTS", zs, moms, rfl, hm, T.tup_MOMENTS _, hd, hl, hmm, fun H1 s2 => ⟨_, rfl, L2.iteF ?_⟩⟩
    have hs1 := hs.same s2
    have hg1 := hg.same s2
    have hm1 := same_tup s2 hm
    refine ⟨_, rfl, ⟨_, T.tup_MOMENTS _⟩, fun D hD => ?_⟩
    refine lc_tup (K := K) (xs := moms.map V.str) (fun i H' => Same H1 H' ∧ ∃ us : List Addr, H' D = some (.lst (us.map V.ref)) ∧ Paired (RuleAt K H') us ((takeR zs rs gs).take i)) ⟨same_new hD, [], upd_same, .nil⟩ (fun i H' _ p => T.tup_MOMENTS _) ?_ ?_
    · rintro i y H2 hi ⟨s3, us, hD2, hu⟩
      obtain ⟨z, hz, rfl⟩ := map_get hi
      have hi8 : i < 8 := (List.getElem?_eq_some_iff.mp hz).1
      have hul : us.length ≤ 8 := by
        rw [hu.length, List.length_take]
        unfold takeR
        rw [List.length_map, List.length_range]
        omega
      have hs2 := hs1.same s3
      have hg2 := hg1.same s3
      have hrow : (takeR zs rs gs)[i]? = some (if z ∈ zs then at_ gs i else at_ rs i) := by
        unfold takeR
        have eg : moms.getD i Str.empty = z := by
          rw [List.getD_eq_getElem?_getD, hz]
          rfl
        rw [List.getElem?_map, List.getElem?_range hi8]
        show some (if moms.getD i Str.empty ∈ zs then at_ gs i else at_ rs i) = _
        rw [eg]
      have add : ∀ a, RuleAt K H2 a (if z ∈ zs then at_ gs i else at_ rs i) → ∃ acc, H2 D = some (.lst acc) ∧ acc.length < sizeLine ∧ Same H1 (upd H2 D (.lst (acc ++ [V.ref a]))) ∧ ∃ us : List Addr, upd H2 D (.lst (acc ++ [V.ref a])) D = some (.lst (us.map V.ref)) ∧ Paired (RuleAt K (upd H2 D (.lst (acc ++ [V.ref a])))) us ((takeR zs rs gs).take (i + 1)) := fun a ha => by
        refine ⟨_, hD2, by rw [List.length_map]; exact lt_line (by omega), same_upd s3 hD, us ++ [a], by rw [upd_same, List.map_append]; rfl, ?_⟩
        rw [take_more hrow]
        exact Paired.snoc (paired_map (fun _ _ _ hh => tupU hD2 hh) hu) (tupU hD2 ha)
      refine ⟨rfl, ?_⟩
      refine ⟨_, rfl, _, rfl, m, _, rfl, .inr (same_tup s3 hm1), rfl, My.all_flat_str zs, _, rfl, ?_⟩
      have e0 : (if false = true then !(inV (.str z) (zs.map V.str)) else inV (.str z) (zs.map V.str)) = decide (z ∈ zs) := by rw [if_neg Bool.false_ne_true, My.inV_str]
      rw [e0]
      refine L2.ite2 (fun c => ?_) (fun c => ?_)
      · have c2 : z ∈ zs := of_decide_eq_true c
        rw [if_pos c2] at add
        obtain ⟨dxg, tg, ag, hgb, _⟩ := id hg2
        refine ⟨_, rfl, g, _, _, rfl, hgb, rfl, _, rfl, H2, g, d2, gs, z, i, at_ gs i, rfl, Same.refl _, hg2, hz, gg.get hi8, fun a ha => add a ha⟩
      · have c2 : z ∉ zs := fun e => c (decide_eq_true e)
        rw [if_neg c2] at add
        obtain ⟨dxs, ts, as, hsb, _⟩ := id hs2
        refine ⟨_, rfl, s1, _, _, rfl, hsb, rfl, _, rfl, H2, s1, d, rs, z, i, at_ rs i, rfl, Same.refl _, hs2, hz, gr.get hi8, fun a ha => add a ha⟩
    · rintro H2 ⟨s3, us, hD2, hu⟩
      have htl : (takeR zs rs gs).length = 8 := by
        unfold takeR
        rw [List.length_map, List.length_range]
      rw [List.take_of_length_le (by rw [htl]; exact Nat.le_refl _)] at hu
      have hs2 := hs1.same s3
      have tgood : ∀ r ∈ takeR zs rs gs, GoodRule r := fun r hr => by
        unfold takeR at hr
        obtain ⟨i, hi, rfl⟩ := List.mem_map.mp hr
        have hi8 := List.mem_range.mp hi
        split
        · exact gg.good _ (List.mem_of_getElem? (gg.get hi8))
        · exact gr.good _ (List.mem_of_getElem? (gr.get hi8))
      obtain ⟨dxb, t, as, hb, ht, hrs, hl8⟩ := id hs2
      refine ⟨_, rfl, s1, _, dxb, _, _, rfl, hb, T.cl_Book, T.no_Book__days, rfl, _, rfl, D, _, rfl, .inr (SqL.of hD2), ?_⟩
      intro x dx nx ndx nex
      have z1 : Same H2 (upd (upd H2 dx (.own x)) x (.ins (He.ga K "Book") dx [])) := (same_new ndx).trans (same_upd (Same.refl _) (by rw [upd_ne nex.symm]; exact nx))
      have z2 := s2.trans s3
      refine ⟨x, dx, d, us, takeR zs rs gs, by rw [List.append_nil, List.append_nil], upd_same, h1, h2, paired_map (fun a r _ hr => same_tup z1 hr) hu, htl, tgood, fun H' t2 bt hx ht2 => ⟨rfl, ?_⟩⟩
      have z3 : Same H2 H' := fun c o e => bt c o (by simpa using ne_of_none e nx) (z1 _ _ e)
      exact q _ x (z2.free nx) (z2.trans z3) ⟨dx, t2, _, hx, SqT.of ht2, paired_map (fun a r _ hr => same_tup z3 hr) hu, htl⟩
theorem c_Book_taking (T : Txt K mg) : C8.Met P w K mg base 5 (He.ga K "Book") "taking" (sp_Book_taking K) [] := by
  obtain ⟨fd, F⟩ := T.f_Book_taking
  exact ⟨_, fd, _, _, T.cl_Book, T.m_Book_taking, ok_Book_taking T F, F.bindsN (fun _ _ _ _ _ _ us hl => match us, hl with | [_, _, _], _ => rfl), .nil⟩
def sp_Book_with_days (K : PySem.W.Frag) : Sp := fun vs H Q _ => ∃ (s : Addr) (d d2 : Int) (rs : List RuleL), vs = [.ref s, .int d2] ∧ BookAt K H s d rs ∧ GoodB rs ∧ 1 ≤ d2 ∧ d2 ≤ 30 ∧
  ∀ H' p, H p = none → Same H H' → BookAt K H' p d2 rs → Q (.ref p) H'
set_option maxHeartbeats 2000000 in
theorem ok_Book_with_days (T : Txt K mg) {fd : FuncData} (F : FunD K d_Book_with_days.name d_Book_with_days.qual d_Book_with_days.params d_Book_with_days.body d_Book_with_days.scope (d_Book_with_days.dvs K) (d_Book_with_days.kws K) (He.fAd K d_Book_with_days.at_) fd) : FnOk P w K mg base C8.CX0 5 (He.fAd K d_Book_with_days.at_) fd ["self", "days"] (sp_Book_with_days K) := by
  have c_Book_init := c_Book_init (P := P) (w := w) (base := base) T
  refine F.ok sc_Book_with_days (fun vs H Q E h => ?_) (fun cdv A outer s H vs Q E hr h => ?_)
  · obtain ⟨s, d, d2, rs, rfl, _⟩ := h
    rfl
  · have hu := L2.hu_of hr
    obtain ⟨s1, d, d2, rs, rfl, hs, gr, h1, h2, q⟩ := h
    refine ⟨_, (PSs.nox ((pss_cons (ps_set (i := 2) sc_Book_with_days.nd rfl (by first | exact Or.inl rfl | exact Or.inr rfl) (My.pe_fldK (K := K) rfl (pv 0) rfl))
  (pss_one (ps_ret (My.pe_mkS2 c_Book_init hr (by decide) rfl (pa_cons (pv 1) (My.pa_starK (K := K) rfl (pv 2) pa_nil)))))))), ?_⟩
    obtain ⟨dxb, t, as, hb, ht, hrs, hl⟩ := id hs
    refine ⟨_, rfl, s1, _, dxb, _, _, rfl, hb, T.cl_Book, T.no_Book__rules, rfl, ?_⟩
    refine ⟨_, rfl, _, rfl, t, _, rfl, .inl ht, ?_⟩
    intro x dx nx ndx nex
    have z1 : Same H (upd (upd H dx (.own x)) x (.ins (He.ga K "Book") dx [])) := (same_new ndx).trans (same_upd (Same.refl _) (by rw [upd_ne nex.symm]; exact nx))
    refine ⟨x, dx, d2, as, rs, by rw [List.append_nil, List.append_nil], upd_same, h1, h2, paired_map (fun a r _ hr => same_tup z1 hr) hrs, hl, gr.good, fun H' t2 bt hx ht2 => ⟨rfl, ?_⟩⟩
    have z3 : Same H H' := fun c o e => bt c o (by simpa using ne_of_none e nx) (z1 _ _ e)
    exact q _ x nx z3 ⟨dx, t2, _, hx, SqT.of ht2, paired_map (fun a r _ hr => same_tup z3 hr) hrs, hl⟩
theorem c_Book_with_days (T : Txt K mg) : C8.Met P w K mg base 5 (He.ga K "Book") "with_days" (sp_Book_with_days K) [] := by
  obtain ⟨fd, F⟩ := T.f_Book_with_days
  exact ⟨_, fd, _, _, T.cl_Book, T.m_Book_with_days, ok_Book_with_days T F, F.bindsN (fun _ _ _ _ _ _ us hl => match us, hl with | [_, _], _ => rfl), .nil⟩
end
end K16

namespace K16
open PySem PySem.Spec PyProof.Rows L2 My StX
section
variable {P : Program} {w : World} {K : PySem.W.Frag} {mg : Str → Option Value} {base : Heap}
def gK5 {α : Type} (us its ws : List α) : List α := us ++ ws.drop 4 ++ its.take 4 ++ (ws.take 4).reverse
set_option maxHeartbeats 4000000 in
theorem kn_Book_init_power_late_gone_taken_days (T : Txt K mg) : My.MakN P w K mg base 3 "Book" (He.ga K "Book") (sp_Book_init K) 0 ["power", "late", "gone", "taken", "days"] (fun vs zs => gK5 vs (d_Book_init.dvs K) zs) := by
  obtain ⟨fd, F⟩ := T.f_Book_init
  obtain ⟨its, hb⟩ := F.kbindsD (ps := ["self", "days", "given", "laid", "left", "opened", "taken", "gone", "late", "power"]) 1 ["power", "late", "gone", "taken", "days"] (fun us its ws => gK5 us its ws) (by intro z; cases z)
    (fun r1 r2 r3 => ((r1.append (My.vals_drop 4 r3)).append (r2.take 4)).append (r3.take 4).reverse)
    (fun T kV doc pm an cdv ct us its ws h1 h2 h3 => match us, its, ws, h1, h2, h3 with | [_], [_, _, _, _, _, _, _, _], [_, _, _, _, _], _, _, _ => ⟨_, rfl, rfl⟩)
  exact ⟨_, fd, _, _, T.mk_Book, ok_Book_init T F, T.g_Book, hb⟩
def gK1 {α : Type} (us its ws : List α) : List α := us ++ its.take 1 ++ ws ++ its.drop 2
set_option maxHeartbeats 4000000 in
theorem kn_Book_init_laid (T : Txt K mg) : My.MakN P w K mg base 3 "Book" (He.ga K "Book") (sp_Book_init K) 1 ["laid"] (fun vs zs => gK1 vs (d_Book_init.dvs K) zs) := by
  obtain ⟨fd, F⟩ := T.f_Book_init
  obtain ⟨its, hb⟩ := F.kbindsD (ps := ["self", "days", "given", "laid", "left", "opened", "taken", "gone", "late", "power"]) 2 ["laid"] (fun us its ws => gK1 us its ws) (by intro z; cases z)
    (fun r1 r2 r3 => ((r1.append (r2.take 1)).append r3).append (My.vals_drop 2 r2))
    (fun T kV doc pm an cdv ct us its ws h1 h2 h3 => match us, its, ws, h1, h2, h3 with | [_, _], [_, _, _, _, _, _, _, _], [_], _, _, _ => ⟨_, rfl, rfl⟩)
  exact ⟨_, fd, _, _, T.mk_Book, ok_Book_init T F, T.g_Book, hb⟩
def gK0 {α : Type} (us its ws : List α) : List α := us ++ ws ++ its
set_option maxHeartbeats 4000000 in
theorem kn_Book_init_none (T : Txt K mg) : My.MakN P w K mg base 3 "Book" (He.ga K "Book") (sp_Book_init K) 1 [] (fun vs zs => gK0 vs (d_Book_init.dvs K) zs) := by
  obtain ⟨fd, F⟩ := T.f_Book_init
  obtain ⟨its, hb⟩ := F.kbindsD (ps := ["self", "days", "given", "laid", "left", "opened", "taken", "gone", "late", "power"]) 2 [] (fun us its ws => gK0 us its ws) (by intro z; cases z)
    (fun r1 r2 r3 => (r1.append r3).append r2)
    (fun T kV doc pm an cdv ct us its ws h1 h2 h3 => match us, its, ws, h1, h2, h3 with | [_, _], [_, _, _, _, _, _, _, _], [], _, _, _ => ⟨_, rfl, rfl⟩)
  exact ⟨_, fd, _, _, T.mk_Book, ok_Book_init T F, T.g_Book, hb⟩
theorem mn_Book_taking (T : Txt K mg) : My.MetN P w K mg base 5 (He.ga K "Book") "taking" (sp_Book_taking K) ["good", "moments"] My.kwGm := by
  obtain ⟨fd, F⟩ := T.f_Book_taking
  exact ⟨_, fd, _, _, T.cl_Book, T.m_Book_taking, ok_Book_taking T F, My.kwm_of F fun _ _ _ _ _ _ _ _ _ => rfl⟩
theorem takeR_by {zs : List Str} {rs gs : List RuleL} (c : List Bool) (hc : ((List.range 8).map fun i => decide (moms.getD i Str.empty ∈ zs)) = c) : takeR zs rs gs = (List.range 8).map fun i => if c.getD i false = true then at_ gs i else at_ rs i := by
  subst hc
  unfold takeR
  refine List.map_congr_left fun i hi => ?_
  have h8 := List.mem_range.mp hi
  rw [List.getD_eq_getElem?_getD (l := (List.range 8).map fun i => decide (moms.getD i Str.empty ∈ zs)), List.getElem?_map, List.getElem?_range h8]
  show (if moms.getD i Str.empty ∈ zs then at_ gs i else at_ rs i) = if decide (moms.getD i Str.empty ∈ zs) = true then at_ gs i else at_ rs i
  by_cases h : moms.getD i Str.empty ∈ zs
  · rw [if_pos h, if_pos (show decide (moms.getD i Str.empty ∈ zs) = true from decide_eq_true h)]
  · rw [if_neg h, if_neg (show ¬ decide (moms.getD i Str.empty ∈ zs) = true from fun e => h (of_decide_eq_true e))]
theorem take_a {a0 a1 a2 a3 r0 r1 r2 r3 r4 r5 r6 r7 : RuleL} : takeR (moms.take 4) [a0, a1, a2, a3, r4, r5, r6, r7] [r0, r1, r2, r3, r4, r5, r6, r7] = [r0, r1, r2, r3, r4, r5, r6, r7] := by
  rw [takeR_by [true, true, true, true, false, false, false, false] (by decide +kernel)]
  rfl
theorem take_b {a0 a1 a2 a3 a4 a5 a6 a7 r0 r1 r2 r3 r4 r5 r6 r7 : RuleL} : takeR moms.reverse [a0, a1, a2, a3, a4, a5, a6, a7] [r0, r1, r2, r3, r4, r5, r6, r7] = [r0, r1, r2, r3, r4, r5, r6, r7] := by
  rw [takeR_by [true, true, true, true, true, true, true, true] (by decide +kernel)]
  rfl
theorem take_c {a0 a2 a3 a4 a5 a6 a7 r0 r1 r2 r3 r4 r5 r6 r7 : RuleL} : takeR (moms.take 1 ++ moms.drop 2) [a0, r1, a2, a3, a4, a5, a6, a7] [r0, r1, r2, r3, r4, r5, r6, r7] = [r0, r1, r2, r3, r4, r5, r6, r7] := by
  rw [takeR_by [true, false, true, true, true, true, true, true] (by decide +kernel)]
  rfl
end
end K16

namespace K16
open PySem PySem.Spec PyProof.Rows L2 My StX
/-! ### parts, sums and repeats of tuples, whatever object they are -/
theorem cut_to {xs : List V} {c : Nat} : cutV xs none (some (c : Int)) = xs.take c := by
  unfold cutV
  rw [HT.sIx_nat, HT.sIx_none, List.drop_zero, Nat.sub_zero]
  by_cases h : c ≤ xs.length
  · rw [Nat.min_eq_left h]
  · rw [Nat.min_eq_right (by omega), List.take_of_length_le (Nat.le_refl _), List.take_of_length_le (by omega)]
theorem cut_from {xs : List V} {c : Nat} : cutV xs (some (c : Int)) none = xs.drop c := by
  unfold cutV
  rw [HT.sIx_nat, HT.sIx_none]
  by_cases h : c ≤ xs.length
  · rw [Nat.min_eq_left h]
    exact List.take_of_length_le (by rw [List.length_drop]; exact Nat.le_refl _)
  · rw [Nat.min_eq_right (by omega), List.drop_length, List.drop_of_length_le (by omega), List.take_nil]
section
variable {K : PySem.W.Frag} {H : Hp} {t u : Addr} {xs ys : List V} {Q : VK} {σ : L2.St}
theorem slA_cut {lo hi : Option Int} (h : SqT K H t xs) (q : ∀ m H7, Same H H7 → SqT K H7 m (cutV xs lo hi) → Q (.ref m) H7) : rSlA K (.ref t) lo hi H Q := by
  refine ⟨t, xs, rfl, h, fun z => ?_, fun _ m hm => q m _ (same_new hm) (SqT.of upd_same)⟩
  have e : cutV xs lo hi = xs := by
    unfold cutV
    rw [z.1, z.2, Nat.sub_zero, List.drop_zero, List.take_length]
  exact q t H (Same.refl _) (by rw [e]; exact h)
theorem slA_from {i : Nat} (h : SqT K H t xs) (q : ∀ m H7, Same H H7 → SqT K H7 m (xs.drop i) → Q (.ref m) H7) : tNoPart σ H fun v H3 => rSlA K (.ref t) (some (i : Int)) v H3 Q :=
  slA_cut (lo := some (i : Int)) (hi := none) h (by rw [cut_from]; exact q)
theorem slA_to {i : Nat} (h : SqT K H t xs) (q : ∀ m H7, Same H H7 → SqT K H7 m (xs.take i) → Q (.ref m) H7) : rSlA K (.ref t) none (some (i : Int)) H Q :=
  slA_cut (lo := none) (hi := some (i : Int)) h (by rw [cut_to]; exact q)
theorem catA_of (h : SqT K H t xs) (h2 : SqT K H u ys) (hl : xs.length + ys.length ≤ sizeLine) (q : ∀ m H7, Same H H7 → SqT K H7 m (xs ++ ys) → Q (.ref m) H7) : rCatA K (.ref t) (.ref u) H Q := by
  refine ⟨t, u, xs, ys, rfl, rfl, h, h2, hl, fun e => ?_, fun _ e => ?_, fun _ _ m hm => q m _ (same_new hm) (SqT.of upd_same)⟩
  · exact q u H (Same.refl _) (by rw [e]; exact h2)
  · exact q t H (Same.refl _) (by rw [e, List.append_nil]; exact h)
theorem repA_of {k : Nat} (h : SqT K H t xs) (hne : xs ≠ []) (hk : k ≤ 1000) (hl : xs.length ≤ 1000) (q : ∀ m H7, Same H H7 → SqT K H7 m (List.replicate k xs).flatten → Q (.ref m) H7) : rRepA K (.ref t) (.int (k : Int)) H Q := by
  refine ⟨t, (k : Int), xs, rfl, rfl, h, hne, by omega, by omega, hl, fun e => ?_, fun _ m hm => ?_⟩
  · obtain rfl : k = 1 := by omega
    exact q t H (Same.refl _) (by
      have e1 : (List.replicate 1 xs).flatten = xs := by
        show xs ++ [] = xs
        rw [List.append_nil]
      rw [e1]; exact h)
  · refine q m _ (same_new hm) ?_
    have e : (k : Int).toNat = k := Int.toNat_natCast k
    have := SqT.of (K := K) (upd_same (H := H) (a := m) (o := .tup (List.replicate (k : Int).toNat xs).flatten))
    rw [e] at this ⊢
    exact this
end
theorem repA_of2 {K : PySem.W.Frag} {H : Hp} {t : Addr} {xs : List V} {Q : VK} {v : Int} {k : Nat} (e : v = (k : Int)) (h : SqT K H t xs) (hne : xs ≠ []) (hk : k ≤ 1000) (hl : xs.length ≤ 1000) (q : ∀ m H7, Same H H7 → SqT K H7 m (List.replicate k xs).flatten → Q (.ref m) H7) : rRepA K (.ref t) (.int v) H Q := by
  subst e
  exact repA_of h hne hk hl q
theorem repA_c {K : PySem.W.Frag} {H : Hp} {t : Addr} {xs : List V} {Q : VK} {σ : L2.St} {v : Int} {k : Nat} (e : v = (k : Int)) (h : SqT K H t xs) (hne : xs ≠ []) (hk : k ≤ 1000) (hl : xs.length ≤ 1000) (q : ∀ m H7, Same H H7 → SqT K H7 m (List.replicate k xs).flatten → Q (.ref m) H7) : tC (.int v) σ H fun y H2 => rRepA K (.ref t) y H2 Q := repA_of2 e h hne hk hl q
theorem flat_one {α : Type} (x : α) : ∀ k : Nat, (List.replicate k [x]).flatten = List.replicate k x
  | 0 => rfl
  | k + 1 => by
    rw [List.replicate_succ, List.replicate_succ, List.flatten_cons, flat_one x k]
    rfl
theorem paired_rep {α β : Type} {F : α → β → Prop} {a : α} {b : β} (h : F a b) : ∀ m : Nat, Paired F (List.replicate m a) (List.replicate m b)
  | 0 => .nil
  | m + 1 => by
    rw [List.replicate_succ, List.replicate_succ]
    exact .cons h (paired_rep h m)
end K16

namespace K16
open PySem PySem.Spec PyProof.Rows L2 My StX
theorem len8r {rs : List RuleL} (e : rs.length = 8) : ∃ r0 r1 r2 r3 r4 r5 r6 r7, rs = [r0, r1, r2, r3, r4, r5, r6, r7] := by
  match rs, e with
  | [r0, r1, r2, r3, r4, r5, r6, r7], _ => exact ⟨r0, r1, r2, r3, r4, r5, r6, r7, rfl⟩
/-- days and rules as a pair -/
def PlanAt (K : PySem.W.Frag) (H : Hp) (p : Addr) (d : Int) (rs : List RuleL) : Prop := ∃ (t : Addr) (as : List Addr), SqT K H p [.int d, .ref t] ∧ SqT K H t (as.map V.ref) ∧ Paired (RuleAt K H) as rs
theorem PlanAt.same {K : PySem.W.Frag} {H H' : Hp} {p : Addr} {d : Int} {rs : List RuleL} (s : Same H H') (h : PlanAt K H p d rs) : PlanAt K H' p d rs := by
  obtain ⟨t, as, h1, h2, h3⟩ := h
  exact ⟨t, as, same_tup s h1, same_tup s h2, paired_map (fun _ _ _ x => same_tup s x) h3⟩
theorem PlanAt.draw {K : PySem.W.Frag} {H H' : Hp} {a p : Addr} {n : Nat} {d : Int} {rs : List RuleL} (b : But [a] H H') (s : SpringAt H a n) (h : PlanAt K H p d rs) : PlanAt K H' p d rs := by
  obtain ⟨t, as, h1, h2, h3⟩ := h
  exact ⟨t, as, But.tupS b s h1, But.tupS b s h2, paired_map (fun _ _ _ x => But.tupS b s x) h3⟩
theorem PlanAt.putL {K : PySem.W.Frag} {H : Hp} {D p : Addr} {l : List V} {o : HO} {d : Int} {rs : List RuleL} (hD : H D = some (.lst l)) (h : PlanAt K H p d rs) : PlanAt K (upd H D o) p d rs := by
  obtain ⟨t, as, h1, h2, h3⟩ := h
  exact ⟨t, as, tupU hD h1, tupU hD h2, paired_map (fun _ _ _ x => tupU hD x) h3⟩
theorem BookAt.draw {K : PySem.W.Frag} {H H' : Hp} {a b : Addr} {n : Nat} {d : Int} {rs : List RuleL} (s : But [a] H H') (h : SpringAt H a n) (t : BookAt K H b d rs) : BookAt K H' b d rs := by
  obtain ⟨dx, u, qs, q1, q2, q3, q4⟩ := t
  exact ⟨dx, u, qs, rawS s h q1 (fun _ _ z => by cases z), But.tupS s h q2, paired_map (fun x y _ hx => But.tupS s h hx) q3, q4⟩
theorem BookAt.putL {K : PySem.W.Frag} {H : Hp} {D b : Addr} {l : List V} {o : HO} {d : Int} {rs : List RuleL} (hD : H D = some (.lst l)) (t : BookAt K H b d rs) : BookAt K (upd H D o) b d rs := by
  obtain ⟨dx, u, qs, q1, q2, q3, q4⟩ := t
  exact ⟨dx, u, qs, (upd_ne (ne_of q1 hD (fun z => by cases z))).trans q1, tupU hD q2, paired_map (fun x y _ hx => tupU hD hx) q3, q4⟩
theorem made_one {r0 r1 r2 r3 r4 r5 r6 r7 : RuleL} : ∀ {i : Nat}, i < 9 → takeR (moms.drop i).reverse ([r0, r1, r2, r3, r4, r5, r6, r7].take i ++ List.replicate (8 - i) []) (List.replicate i (["off"] : RuleL) ++ [r0, r1, r2, r3, r4, r5, r6, r7].drop i) = [r0, r1, r2, r3, r4, r5, r6, r7]
  | 0, _ => by rw [takeR_by [true, true, true, true, true, true, true, true] (by decide +kernel)]; rfl
  | 1, _ => by rw [takeR_by [false, true, true, true, true, true, true, true] (by decide +kernel)]; rfl
  | 2, _ => by rw [takeR_by [false, false, true, true, true, true, true, true] (by decide +kernel)]; rfl
  | 3, _ => by rw [takeR_by [false, false, false, true, true, true, true, true] (by decide +kernel)]; rfl
  | 4, _ => by rw [takeR_by [false, false, false, false, true, true, true, true] (by decide +kernel)]; rfl
  | 5, _ => by rw [takeR_by [false, false, false, false, false, true, true, true] (by decide +kernel)]; rfl
  | 6, _ => by rw [takeR_by [false, false, false, false, false, false, true, true] (by decide +kernel)]; rfl
  | 7, _ => by rw [takeR_by [false, false, false, false, false, false, false, true] (by decide +kernel)]; rfl
  | 8, _ => by rw [takeR_by [false, false, false, false, false, false, false, false] (by decide +kernel)]; rfl
  | _ + 9, h => absurd h (by omega)
theorem good_nil : GoodRule [] := ⟨Nat.zero_le _, fun x hx => by cases hx⟩
theorem good_off : GoodRule ["off"] := ⟨by decide, fun x hx => by rw [List.mem_singleton.mp hx]; exact of_decide_eq_true (by decide +kernel)⟩
theorem set_next {rs : List RuleL} {i : Nat} {r : RuleL} (hl : rs.length = 8) (hi : i < 8) (hr : rs[i]? = some r) : (rs.take i ++ List.replicate (8 - i) []).set i r = rs.take (i + 1) ++ List.replicate (8 - (i + 1)) [] := by
  have e : 8 - i = (8 - (i + 1)) + 1 := by omega
  rw [e, List.replicate_succ, List.set_append, if_neg (by rw [List.length_take]; omega), take_more hr, List.length_take, Nat.min_eq_left (by omega), Nat.sub_self, List.append_assoc]
  rfl
section
variable {P : Program} {w : World} {K : PySem.W.Frag} {mg : Str → Option Value} {base : Heap}
def sp_law_rule (K : PySem.W.Frag) : Sp := fun vs H Q _ => ∃ (a : Addr) (n : Nat), vs = [.ref a] ∧ SpringAt H a n ∧ n ≤ 50000 ∧ ∀ H' p r, But [a] H H' → SpringAt H' a (n + 7) → RuleAt K H' p r → GoodRule r → Q (.ref p) H'
set_option maxHeartbeats 2000000 in
theorem ok_law_rule (T : Txt K mg) {fd : FuncData} (F : FunD K d_law_rule.name d_law_rule.qual d_law_rule.params d_law_rule.body d_law_rule.scope (d_law_rule.dvs K) (d_law_rule.kws K) (He.fAd K d_law_rule.at_) fd) : FnOk P w K mg base C8.CX0 2 (He.fAd K d_law_rule.at_) fd ["pot"] (sp_law_rule K) := by
  have c_law_dip := c_law_dip (P := P) (w := w) (base := base) T
  refine F.ok sc_law_rule (fun vs H Q E h => ?_) (fun cdv A outer s H vs Q E hr h => ?_)
  · obtain ⟨a, n, rfl, _⟩ := h
    rfl
  · have hu := L2.hu_of hr
    obtain ⟨a, n, rfl, hs, hn, q⟩ := h
    refine ⟨_, (PSs.nox ((pss_cons (ps_set (i := 1) sc_law_rule.nd rfl (by first | exact Or.inl rfl | exact Or.inr rfl) (pe_lst (pa_cons pe_str (pa_cons pe_str (pa_cons pe_str (pa_cons pe_str (pa_cons pe_str (pa_cons pe_str (pa_cons pe_str pa_nil)))))))))
  (pss_one (ps_ret (pe_callTy (My.tuple_ofK (K := K) rfl) (by rfl) T.tuple (by decide +kernel) (pa_cons (pe_lc (own := [("k", 2)]) (g := (gName 2)) (tt := tYes) (by rfl) sc_law_rule.nd (pi_range1 (by rfl) T.range (pa_cons (C8.pe_c c_law_dip hr (by decide) rfl (pa_cons (pv 0) (pa_cons pe_int pa_nil))) pa_nil)) (blkOk_by (N := N_law_rule) (sc := defScope s_law_rule) (by decide +kernel)) (fun _ _ _ _ _ => (pg_name (i := 2) sc_law_rule.nd rfl (by first | exact Or.inl rfl | exact Or.inr rfl))) (fun _ _ _ _ _ => pts_nil) (fun _ _ _ _ _ => (pe_ix (My.ix_listK (K := K) rfl) (pv 1) (C8.pe_c c_law_dip hr (by decide) rfl (pa_cons (pv 0) (pa_cons pe_int pa_nil))) (fun _ _ => rfl)))) pa_nil))))))), ?_⟩
    refine ⟨by show 7 ≤ sizeLine; decide, fun b hb => ?_⟩
    have lt100 : ∀ m : Nat, m ≤ 60000 → m < 2 ^ 100 := fun m h => Nat.lt_of_le_of_lt h (by decide)
    have yb := same_new (o := .lst (acts.map V.str)) hb
    have nb : b ∉ [a] := fun z => by
      obtain ⟨_, _, _, e, _⟩ := hs
      rw [List.mem_singleton.mp z, e] at hb
      cases hb
    have hb1 : upd H b (.lst (acts.map V.str)) b = some (.lst (acts.map V.str)) := upd_same
    refine ⟨_, rfl, a, n, 7, rfl, hs.same yb, lt100 _ (by omega), by decide, by decide, fun H1 k b1 s1 k0 k1 => ⟨k, rfl, by omega, by omega, fun D hD => ?_⟩⟩
    have b01 := (But.of yb : But [a] H _).trans b1
    have hb2 := b1 _ _ nb hb1
    have yD := same_new (o := .lst []) hD
    have naD : a ≠ D := by
      obtain ⟨_, _, _, e, _⟩ := s1
      exact ne_of_none e hD
    have hHD : H D = none := b01.none (by simpa using naD.symm) hD
    have nbD : b ≠ D := ne_of_none hb2 hD
    refine lc_range (lo := 0) (n := k.toNat) (fun i H' => ∃ r : RuleL, r.length = i ∧ But [a] H H' ∧ SpringAt H' a (n + 1 + i) ∧ H' D = some (.lst (r.map V.str)) ∧ H' b = some (.lst (acts.map V.str)) ∧ ∀ x ∈ r, x ∈ acts) ⟨[], rfl, b01.put (.inl hHD), s1.put naD, upd_same, (upd_ne nbD).trans hb2, fun x hx => by cases hx⟩ ?_ ?_
    · rintro i H2 hi ⟨r, hl2, b2, s2, hD2, hb3, hr2⟩
      refine ⟨rfl, ?_⟩
      refine ⟨_, rfl, _, rfl, a, n + 1 + i, 7, rfl, s2, lt100 _ (by omega), by decide, by decide, fun H3 j b3 s3 j0 j1 => ?_⟩
      obtain ⟨m, hm, rfl⟩ : ∃ m : Nat, m < 7 ∧ j = (m : Int) := ⟨j.toNat, by omega, by omega⟩
      obtain ⟨x, hx⟩ : ∃ x, acts[m]? = some x := ⟨_, List.getElem?_eq_getElem (show m < acts.length from hm)⟩
      have hb4 := b3 _ _ nb hb3
      have hD3 := b3 _ _ (by simpa using naD.symm) hD2
      refine ⟨b, _, _, .str x, rfl, rfl, SqL.of hb4, atI_nat (by rw [List.getElem?_map, hx]; rfl), _, hD3, ?_, r ++ [x], by rw [List.length_append, hl2]; rfl, (b2.trans b3).put (.inl hHD), s3.put naD, by rw [upd_same, List.map_append]; rfl, (upd_ne nbD).trans hb4, fun z hz => ?_⟩
      · rw [List.length_map, hl2]
        exact lt_line (by omega)
      · rcases List.mem_append.mp hz with hz | hz
        · exact hr2 z hz
        · rw [List.mem_singleton.mp hz]; exact List.mem_of_getElem? hx
    · rintro H2 ⟨r, hl2, b2, s2, hD2, hb3, hr2⟩
      refine ⟨D, _, rfl, .inl ⟨SqL.of hD2, fun t ht => ?_⟩⟩
      have yt := same_new (o := .tup (r.map V.str)) ht
      exact q _ t r (b2.trans (But.of yt)) ((s2.same yt).mono (by omega)) (SqT.of upd_same) ⟨by omega, hr2⟩
theorem c_law_rule (T : Txt K mg) : C8.Cal P w K mg base 2 "_law_rule" (sp_law_rule K) [] := by
  obtain ⟨fd, F⟩ := T.f_law_rule
  exact ⟨_, fd, _, _, ok_law_rule T F, T.g_law_rule, F.kp, F.bindsN (fun _ _ _ _ _ _ us hl => match us, hl with | [_], _ => rfl), .nil⟩
def sp_law_plan (K : PySem.W.Frag) : Sp := fun vs H Q _ => ∃ (a : Addr) (n : Nat), vs = [.ref a] ∧ SpringAt H a n ∧ n ≤ 40000 ∧ ∀ H' p d rs, But [a] H H' → SpringAt H' a (n + 60) → PlanAt K H' p d rs → GoodB rs → 1 ≤ d → d ≤ 30 → Q (.ref p) H'
set_option maxHeartbeats 2000000 in
theorem ok_law_plan (T : Txt K mg) {fd : FuncData} (F : FunD K d_law_plan.name d_law_plan.qual d_law_plan.params d_law_plan.body d_law_plan.scope (d_law_plan.dvs K) (d_law_plan.kws K) (He.fAd K d_law_plan.at_) fd) : FnOk P w K mg base C8.CX0 3 (He.fAd K d_law_plan.at_) fd ["pot"] (sp_law_plan K) := by
  have c_law_rule := c_law_rule (P := P) (w := w) (base := base) T
  have c_law_dip := c_law_dip (P := P) (w := w) (base := base) T
  refine F.ok sc_law_plan (fun vs H Q E h => ?_) (fun cdv A outer s H vs Q E hr h => ?_)
  · obtain ⟨a, n, rfl, _⟩ := h
    rfl
  · have hu := L2.hu_of hr
    obtain ⟨a, n, rfl, hs, hn, q⟩ := h
    refine ⟨_, (PSs.nox ((pss_one (ps_ret (pe_tup (pa_cons (pe_op op_add pe_int (C8.pe_c c_law_dip hr (by decide) rfl (pa_cons (pv 0) (pa_cons pe_int pa_nil)))) (pa_cons (pe_callTy (My.tuple_ofK (K := K) rfl) (by rfl) T.tuple (by decide +kernel) (pa_cons (pe_lc (own := [("k", 1)]) (g := (gName 1)) (tt := tYes) (by rfl) sc_law_plan.nd (pi_range1 (by rfl) T.range (pa_cons pe_int pa_nil)) (blkOk_by (N := N_law_plan) (sc := defScope s_law_plan) (by decide +kernel)) (fun _ _ _ _ _ => (pg_name (i := 1) sc_law_plan.nd rfl (by first | exact Or.inl rfl | exact Or.inr rfl))) (fun _ _ _ _ _ => pts_nil) (fun _ _ _ _ _ => (C8.pe_c c_law_rule hr (by decide) rfl (pa_cons (pv 0) pa_nil)))) pa_nil)) pa_nil))))))), ?_⟩
    have lt100 : ∀ m : Nat, m ≤ 60000 → m < 2 ^ 100 := fun m h => Nat.lt_of_le_of_lt h (by decide)
    refine ⟨_, rfl, a, n, 30, rfl, hs, lt100 _ (by omega), by decide, by decide, fun H1 k b1 s1 k0 k1 => ⟨_, _, rfl, rfl, 8, rfl, by decide, by decide, fun D hD => ?_⟩⟩
    have yD := same_new (o := .lst []) hD
    have naD : a ≠ D := by
      obtain ⟨_, _, _, e, _⟩ := s1
      exact ne_of_none e hD
    have hHD : H D = none := b1.none (by simpa using naD.symm) hD
    refine lc_range (lo := 0) (n := (8 : Int).toNat) (fun i H' => ∃ (as : List Addr) (rs : List RuleL), rs.length = i ∧ But [a] H H' ∧ SpringAt H' a (n + 1 + 7 * i) ∧ H' D = some (.lst (as.map V.ref)) ∧ Paired (RuleAt K H') as rs ∧ ∀ r ∈ rs, GoodRule r) ⟨[], [], rfl, b1.put (.inl hHD), s1.put naD, upd_same, .nil, fun x hx => by cases hx⟩ ?_ ?_
    · rintro i H2 hi ⟨as, rs, hl2, b2, s2, hD2, hp2, hr2⟩
      have hi8 : i < 8 := hi
      refine ⟨rfl, ?_⟩
      refine ⟨_, rfl, a, _, rfl, s2, by omega, fun H3 p r b3 s3 hr hgr => ?_⟩
      have hD3 := b3 _ _ (by simpa using naD.symm) hD2
      refine ⟨_, hD3, ?_, as ++ [p], rs ++ [r], by rw [List.length_append, hl2]; rfl, (b2.trans b3).put (.inl hHD), ((s3.put naD).mono (by omega)), by rw [upd_same, List.map_append]; rfl, paired_app (paired_map (fun _ _ _ x => tupU hD3 (But.tupS b3 s2 x)) hp2) (.cons (tupU hD3 hr) .nil), fun z hz => ?_⟩
      · rw [List.length_map, hp2.length, hl2]
        exact lt_line (by omega)
      · rcases List.mem_append.mp hz with hz | hz
        · exact hr2 z hz
        · rw [List.mem_singleton.mp hz]; exact hgr
    · rintro H2 ⟨as, rs, hl2, b2, s2, hD2, hp2, hr2⟩
      refine ⟨D, _, rfl, .inl ⟨SqL.of hD2, fun t ht => ?_⟩⟩
      have yt := same_new (o := .tup (as.map V.ref)) ht
      refine ⟨by show 2 ≤ sizeLine; decide, fun p hp => ?_⟩
      have yp := same_new (o := .tup [.int (1 + k), .ref t]) hp
      have yy := yt.trans yp
      exact q _ p (1 + k) rs (b2.trans (But.of yy)) ((s2.same yy).mono (by show n + 1 + 7 * 8 ≤ n + 60; omega)) ⟨t, as, SqT.of upd_same, SqT.of (yp _ _ upd_same), paired_map (fun _ _ _ x => same_tup yy x) hp2⟩ ⟨hl2, hr2⟩ (by omega) (by omega)
theorem c_law_plan (T : Txt K mg) : C8.Cal P w K mg base 3 "_law_plan" (sp_law_plan K) [] := by
  obtain ⟨fd, F⟩ := T.f_law_plan
  exact ⟨_, fd, _, _, ok_law_plan T F, T.g_law_plan, F.kp, F.bindsN (fun _ _ _ _ _ _ us hl => match us, hl with | [_], _ => rfl), .nil⟩
def sp_law_moments (K : PySem.W.Frag) : Sp := fun vs H Q _ => vs = [] ∧ ∀ t, H t = none → Q (.ref t) (upd H t (.lst (moms.map V.str)))
set_option maxHeartbeats 2000000 in
theorem ok_law_moments (T : Txt K mg) {fd : FuncData} (F : FunD K d_law_moments.name d_law_moments.qual d_law_moments.params d_law_moments.body d_law_moments.scope (d_law_moments.dvs K) (d_law_moments.kws K) (He.fAd K d_law_moments.at_) fd) : FnOk P w K mg base C8.CX0 1 (He.fAd K d_law_moments.at_) fd [] (sp_law_moments K) := by
  refine F.ok sc_law_moments (fun vs H Q E h => ?_) (fun cdv A outer s H vs Q E hr h => ?_)
  · obtain ⟨rfl, _⟩ := h
    rfl
  · have hu := L2.hu_of hr
    obtain ⟨rfl, q⟩ := h
    refine ⟨_, (PSs.nox ((pss_one (ps_ret (pe_lst (pa_cons pe_str (pa_cons pe_str (pa_cons pe_str (pa_cons pe_str (pa_cons pe_str (pa_cons pe_str (pa_cons pe_str (pa_cons pe_str pa_nil))))))))))))), ?_⟩
    exact ⟨by show 8 ≤ sizeLine; decide, fun t ht => q t ht⟩
theorem c_law_moments (T : Txt K mg) : C8.Cal P w K mg base 1 "_law_moments" (sp_law_moments K) [] := by
  obtain ⟨fd, F⟩ := T.f_law_moments
  exact ⟨_, fd, _, _, ok_law_moments T F, T.g_law_moments, F.kp, F.bindsN (fun _ _ _ _ _ _ us hl => match us, hl with | [], _ => rfl), .nil⟩
def sp_law_book (K : PySem.W.Frag) : Sp := fun vs H Q _ => ∃ (p : Addr) (d : Int) (rs : List RuleL), vs = [.ref p] ∧ PlanAt K H p d rs ∧ GoodB rs ∧ 1 ≤ d ∧ d ≤ 30 ∧ ∀ H' b, H b = none → Same H H' → BookAt K H' b d rs → Q (.ref b) H'
def sp_law_made (K : PySem.W.Frag) : Sp := fun vs H Q _ => ∃ (a p : Addr) (n : Nat) (d : Int) (rs : List RuleL), vs = [.ref a, .ref p] ∧ SpringAt H a n ∧ n ≤ 30000 ∧ PlanAt K H p d rs ∧ GoodB rs ∧ 1 ≤ d ∧ d ≤ 30 ∧ ∀ H' b, But [a] H H' → SpringAt H' a (n + 10) → BookAt K H' b d rs → Q (.ref b) H'
end
end K16

namespace K16
open PySem PySem.Spec PyProof.Rows L2 My StX
/-! ### the text of a book -/
def lineS (m : Str) (r : RuleL) : Str := Txt.join " " ((m ++ ":") :: r)
def linesN (n : Nat) (rs : List RuleL) : List Str := (List.range n).map fun i => lineS (moms.getD i Str.empty) (at_ rs i)
def linesS (d : Int) (rs : List RuleL) : List Str := ("days " ++ numS d) :: linesN 8 rs
def bookS (d : Int) (rs : List RuleL) : Str := Txt.join "\n" (linesS d rs)
theorem linesN_more (n : Nat) (rs : List RuleL) : linesN (n + 1) rs = linesN n rs ++ [lineS (moms.getD n Str.empty) (at_ rs n)] := by
  unfold linesN
  rw [List.range_succ, List.map_append]
  rfl
theorem joinL_len (a : List Nat) : ∀ ys : List (List Nat), (TL.joinL a ys).length ≤ (ys.map (·.length)).sum + ys.length * a.length
  | [] => Nat.zero_le _
  | [y] => by
    show y.length ≤ y.length + 0 + 1 * a.length
    omega
  | y :: z :: r => by
    have ih := joinL_len a (z :: r)
    show (y ++ (a ++ TL.joinL a (z :: r))).length ≤ y.length + ((z :: r).map (·.length)).sum + ((z :: r).length + 1) * a.length
    rw [List.length_append, List.length_append, Nat.add_mul]
    omega
theorem join_len (a : Str) (ys : List Str) : (Txt.join a ys).length ≤ (ys.map (·.length)).sum + ys.length * a.length := by
  have e : (ys.map TL.tl).map (·.length) = ys.map (·.length) := by
    rw [List.map_map]
    exact List.map_congr_left fun x _ => (len_tl x).symm
  have h := joinL_len (TL.tl a) (ys.map TL.tl)
  rw [e, List.length_map, ← len_tl] at h
  rw [len_tl, TL.join_eq, TL.tl_join]
  exact h
theorem act_len : ∀ x ∈ acts, x.length ≤ 4 := by decide +kernel
theorem mom_len (i : Nat) : (moms.getD i Str.empty).length ≤ 6 := by
  have h : ∀ x ∈ moms, x.length ≤ 6 := by decide +kernel
  rw [List.getD_eq_getElem?_getD]
  cases e : moms[i]? with
  | none => exact Nat.zero_le _
  | some x => exact h x (List.mem_of_getElem? e)
theorem rule_sum : ∀ {r : RuleL}, (∀ x ∈ r, x ∈ acts) → (r.map (·.length)).sum ≤ 4 * r.length
  | [], _ => Nat.le_refl _
  | x :: r, h => by
    have h1 := act_len x (h x (List.mem_cons_self ..))
    have h2 := rule_sum (r := r) fun y hy => h y (List.mem_cons_of_mem _ hy)
    show x.length + (r.map (·.length)).sum ≤ 4 * (r.length + 1)
    omega
theorem colon_len {m : Str} (h : m.length ≤ 6) : (m ++ ":").length ≤ 7 := app_len 6 1 h (by decide +kernel)
theorem line_pre {m : Str} {r : RuleL} (hm : m.length ≤ 6) (hr : GoodRule r) : (((m ++ ":") :: r).map (·.length)).sum + ((m ++ ":") :: r).length * (" " : Str).length ≤ 40 := by
  have h1 := colon_len hm
  have h2 := rule_sum hr.2
  have h3 := hr.1
  have e : (" " : Str).length = 1 := by decide +kernel
  rw [e]
  show (m ++ ":").length + (r.map (·.length)).sum + (r.length + 1) * 1 ≤ 40
  omega
theorem lineS_len {m : Str} {r : RuleL} (hm : m.length ≤ 6) (hr : GoodRule r) : (lineS m r).length ≤ 40 := Nat.le_trans (join_len _ _) (line_pre hm hr)
theorem linesN_sum {rs : List RuleL} (hg : GoodB rs) : ∀ n : Nat, n ≤ 8 → ((linesN n rs).map (·.length)).sum ≤ 40 * n
  | 0, _ => Nat.le_refl _
  | n + 1, h => by
    have h1 := linesN_sum hg n (by omega)
    have h2 := lineS_len (mom_len n) (hg.good _ (List.mem_of_getElem? (hg.get (i := n) (by omega))))
    rw [linesN_more, List.map_append, List.sum_append]
    show _ + ((lineS (moms.getD n Str.empty) (at_ rs n)).length + 0) ≤ _
    omega
theorem linesN_len (n : Nat) (rs : List RuleL) : (linesN n rs).length = n := by
  unfold linesN
  rw [List.length_map, List.length_range]
theorem days_len {d : Int} (h1 : 1 ≤ d) (h2 : d ≤ 30) : ("days " ++ numS d).length ≤ 16 := app_len 5 11 (by decide +kernel) (num_len ⟨h1, by omega⟩)
theorem book_pre {d : Int} {rs : List RuleL} (hg : GoodB rs) (h1 : 1 ≤ d) (h2 : d ≤ 30) : ((linesS d rs).map (·.length)).sum + (linesS d rs).length * ("\n" : Str).length ≤ 16777216 := by
  have e : ("\n" : Str).length = 1 := by decide +kernel
  have a := days_len h1 h2
  have b := linesN_sum hg 8 (by decide)
  have c := linesN_len 8 rs
  rw [e]
  show ("days " ++ numS d).length + ((linesN 8 rs).map (·.length)).sum + ((linesN 8 rs).length + 1) * 1 ≤ _
  omega
section
variable {P : Program} {w : World} {K : PySem.W.Frag} {mg : Str → Option Value} {base : Heap}
def sp_Book_rules (K : PySem.W.Frag) : Sp := fun vs H Q _ => ∃ (b : Addr) (d : Int) (rs : List RuleL), vs = [.ref b] ∧ BookAt K H b d rs ∧ ∀ t as, SqT K H t (as.map V.ref) → Paired (RuleAt K H) as rs → Q (.ref t) H
set_option maxHeartbeats 2000000 in
theorem ok_Book_rules (T : Txt K mg) {fd : FuncData} (F : FunD K d_Book_rules.name d_Book_rules.qual d_Book_rules.params d_Book_rules.body d_Book_rules.scope (d_Book_rules.dvs K) (d_Book_rules.kws K) (He.fAd K d_Book_rules.at_) fd) : FnOk P w K mg base C8.CX0 1 (He.fAd K d_Book_rules.at_) fd ["self"] (sp_Book_rules K) := by
  refine F.ok sc_Book_rules (fun vs H Q E h => ?_) (fun cdv A outer s H vs Q E hr h => ?_)
  · obtain ⟨b, d, rs, rfl, _⟩ := h
    rfl
  · have hu := L2.hu_of hr
    obtain ⟨b, d, rs, rfl, ⟨dx, t, as, hb, ht, h3, _⟩, q⟩ := h
    refine ⟨_, (PSs.nox ((pss_one (ps_ret (My.pe_fldK (K := K) rfl (pv 0) rfl))))), ?_⟩
    exact ⟨_, rfl, b, _, dx, _, _, rfl, hb, T.cl_Book, T.no_Book__rules, rfl, q t as ht h3⟩
theorem c_Book_rules (T : Txt K mg) : C8.Met P w K mg base 1 (He.ga K "Book") "rules" (sp_Book_rules K) [] := by
  obtain ⟨fd, F⟩ := T.f_Book_rules
  exact ⟨_, fd, _, _, T.cl_Book, T.m_Book_rules, ok_Book_rules T F, F.bindsN (fun _ _ _ _ _ _ us hl => match us, hl with | [_], _ => rfl), .nil⟩
def sp_book_text (K : PySem.W.Frag) : Sp := fun vs H Q _ => ∃ (b : Addr) (d : Int) (rs : List RuleL), vs = [.ref b] ∧ BookAt K H b d rs ∧ GoodB rs ∧ 1 ≤ d ∧ d ≤ 30 ∧ ∀ H', Same H H' → Q (.str (bookS d rs)) H'
set_option maxHeartbeats 2000000 in
theorem ok_book_text (T : Txt K mg) {fd : FuncData} (F : FunD K d_book_text.name d_book_text.qual d_book_text.params d_book_text.body d_book_text.scope (d_book_text.dvs K) (d_book_text.kws K) (He.fAd K d_book_text.at_) fd) : FnOk P w K mg base C8.CX0 2 (He.fAd K d_book_text.at_) fd ["book"] (sp_book_text K) := by
  have c_Book_rules := c_Book_rules (P := P) (w := w) (base := base) T
  have c_Book_days := c_Book_days (P := P) (w := w) (base := base) T
  refine F.ok sc_book_text (fun vs H Q E h => ?_) (fun cdv A outer s H vs Q E hr h => ?_)
  · obtain ⟨b, d, rs, rfl, _⟩ := h
    rfl
  · have hu := L2.hu_of hr
    obtain ⟨b, d, rs, rfl, hB, hg, h1, h2, q⟩ := h
    refine ⟨_, (PSs.nox ((pss_cons (ps_set (i := 1) sc_book_text.nd rfl (by first | exact Or.inl rfl | exact Or.inr rfl) (pe_lst (pa_cons (pe_op op_add_str pe_str (pe_callTy call_str_int (by rfl) T.str (by decide +kernel) (pa_cons (C8.pe_mt0 c_Book_days hr (by decide) (pv 0)) pa_nil))) pa_nil)))
  (pss_cons (ps_for PassesOwn.never rfl (RZ.pi_zipA (by rfl) T.zip (pa_cons (pe_glob (v := .ref (He.ga K "MOMENTS")) rfl T.g_MOMENTS rfl) (pa_cons (C8.pe_mt0 c_Book_rules hr (by decide) (pv 0)) pa_nil))) (My.pg_tupK (K := K) (n := 2) rfl rfl (pgs_cons (pg_name (i := 2) sc_book_text.nd rfl (by first | exact Or.inl rfl | exact Or.inr rfl)) (pgs_cons (pg_name (i := 3) sc_book_text.nd rfl (by first | exact Or.inl rfl | exact Or.inr rfl)) pgs_nil)))
  (pss_one (ps_expr (My.pe_bmK (K := K) rfl PySem.F.plainAttrs_list PySem.F.slot_list_append PySem.F.type_list_append mt_append (pv 1) (pa_cons (My.pe_joinK (K := K) rfl pe_str (pe_lst (pa_cons (pe_op op_add_str (pv 2) pe_str) (My.pa_starK (K := K) rfl (pv 3) pa_nil)))) pa_nil)))))
  (pss_one (ps_ret (My.pe_joinK (K := K) rfl pe_str (pv 1)))))))), ?_⟩
    obtain ⟨dx, _, _, hb, _⟩ := id hB
    have hd := num_len (p := d) ⟨h1, by omega⟩
    refine ⟨_, rfl, b, dx, _, rfl, hb, rfl, b, d, rs, rfl, hB, d, rfl, num_log ⟨h1, by omega⟩, ?_⟩
    refine ⟨_, _, rfl, rfl, cat_ok 5 11 (by decide +kernel) hd, by show 1 ≤ sizeLine; decide, fun L hL => ?_⟩
    have yL := same_new (o := .lst [.str ("days " ++ Str.ofString (toString d))]) hL
    have hB1 := hB.same yL
    refine ⟨_, rfl, b, dx, _, rfl, yL _ _ hb, rfl, b, d, rs, rfl, hB1, fun t as ht h3 => ?_⟩
    have al8 : as.length = 8 := h3.length.trans hg.len
    have mem : ∀ {i : Nat} {x : Str}, moms[i]? = some x → moms.getD i Str.empty = x := fun e => by rw [List.getD_eq_getElem?_getD, e]; rfl
    have hL1 : upd H L (.lst [.str ("days " ++ Str.ofString (toString d))]) L = some (.lst [.str ("days " ++ numS d)]) := upd_same
    generalize upd H L (.lst [.str ("days " ++ Str.ofString (toString d))]) = H1 at ht h3 yL hB1 hL1
    refine ⟨_, _, moms.map V.str, as.map V.ref, rfl, .inr ⟨T.tup_MOMENTS _, ht, ?_⟩⟩
    refine RZ.for_zipT (K := K) (xs := moms.map V.str) (ys := as.map V.ref) (by rw [List.length_map, List.length_map, al8]; rfl) (fun i σ H' => ∃ u v, σ = [some (.ref b), some (.ref L), u, v] ∧ But [L] H1 H' ∧ Same H H' ∧ H' L = some (.lst ((("days " ++ numS d) :: linesN i rs).map V.str)))
      ⟨_, _, rfl, But.refl _ _, yL, hL1⟩ (fun i σ H' ⟨_, _, _, s, _⟩ => ⟨T.tup_MOMENTS _, tup_but s hL1 ht⟩) ?_ ?_
    · rintro i x y T2 σ H2 hx hy ⟨u, v, rfl, b2, s2, hL2⟩ hT2
      obtain ⟨m, hm, rfl⟩ := map_get hx
      obtain ⟨a, ha, rfl⟩ := map_get hy
      have hi8 : i < 8 := by
        have := (List.getElem?_eq_some_iff.mp ha).1
        omega
      obtain ⟨r, hr, hra⟩ := paired_at h3 ha
      have er := hg.get hi8
      rw [hr] at er
      have er := Option.some.inj er
      have gr := hg.good _ (List.mem_of_getElem? hr)
      have ml : m.length ≤ 6 := by rw [← mem hm]; exact mom_len i
      have yT := same_new (o := .tup [.str m, .ref a]) hT2
      have ra : RuleAt K (upd H2 T2 (.tup [.str m, .ref a])) a r := same_tup yT (tup_but b2 hL1 hra)
      refine ⟨_, _, rfl, SqT.of upd_same, rfl, _, _, rfl, _, _, rfl, rfl, ?_⟩
      refine ⟨_, rfl, .inl ⟨rfl, _, SqL.of (yT _ _ hL2)⟩, ⟨_, rfl⟩, _, rfl, _, _, rfl, rfl, cat_ok 6 1 ml (by decide +kernel), _, rfl, a, _, rfl, .inl ra, ?_⟩
      have en : (r.map V.str ++ ([] : List V)) = r.map V.str := List.append_nil _
      refine ⟨by
        show (V.str (m ++ ":") :: (r.map V.str ++ [])).length ≤ sizeLine
        rw [en, List.length_cons, List.length_map]
        have := gr.1
        exact Nat.le_of_lt (lt_line (by omega)), fun q1 hq1 => ?_⟩
      have yq := same_new (o := .lst (V.str (m ++ ":") :: (r.map V.str ++ []))) hq1
      refine ⟨" ", q1, (m ++ ":") :: r, rfl, rfl, .inl (SqL.of ?_), Nat.le_trans (line_pre ml gr) (by decide), ?_⟩
      · rw [upd_same, en]
        rfl
      refine ⟨L, _, _, rfl, rfl, yq _ _ (yT _ _ hL2), ?_, ?_⟩
      · rw [List.length_map, List.length_cons, linesN_len]
        exact lt_line (by omega)
      have z := yT.trans yq
      have hHL : H L = none := hL
      refine ⟨_, _, rfl, (b2.trans (But.of z)).put (.inr (by simp)), same_upd (s2.trans z) hHL, ?_⟩
      rw [upd_same, linesN_more, mem hm, ← er]
      show _ = some (HO.lst ((("days " ++ numS d) :: (linesN i rs ++ [lineS m r])).map V.str))
      rw [← List.cons_append, List.map_append]
      rfl
    · rintro σ H2 ⟨u, v, rfl, b2, s2, hL2⟩
      refine ⟨⟨_, rfl⟩, _, rfl, "\n", L, linesS d rs, rfl, rfl, .inl (SqL.of hL2), book_pre hg h1 h2, q _ s2⟩
theorem c_book_text (T : Txt K mg) : C8.Cal P w K mg base 2 "book_text" (sp_book_text K) [] := by
  obtain ⟨fd, F⟩ := T.f_book_text
  exact ⟨_, fd, _, _, ok_book_text T F, T.g_book_text, F.kp, F.bindsN (fun _ _ _ _ _ _ us hl => match us, hl with | [_], _ => rfl), .nil⟩
theorem k_book_text (T : Txt K mg) : My.CalK1 P w K mg base 2 "book_text" (sp_book_text K) "book" := by
  obtain ⟨fd, F⟩ := T.f_book_text
  exact ⟨_, fd, ok_book_text T F, T.g_book_text, F.kp, My.kw1_of F (fun _ _ _ _ _ _ _ => rfl)⟩
end
end K16

namespace K16
open PySem PySem.Spec PyProof.Rows L2 My StX
/-! ### rules as data -/
def ruleD (r : RuleL) : PyData := .tuple (r.map PyData.str)
def rulesD (rs : List RuleL) : PyData := .tuple (rs.map ruleD)
theorem dp_words {K : PySem.W.Frag} {H : Hp} : ∀ ws : List Str, DpAll K H (ws.map V.str) (ws.map PyData.str)
  | [] => .nil
  | x :: l => .cons (.str x) (dp_words l)
theorem dp_rule {K : PySem.W.Frag} {H : Hp} {a : Addr} {r : RuleL} (h : RuleAt K H a r) : Dp K H (.ref a) (ruleD r) := .tup h (dp_words r)
theorem dp_ruleL {K : PySem.W.Frag} {H : Hp} : ∀ {as : List Addr} {rs : List RuleL}, Paired (RuleAt K H) as rs → DpAll K H (as.map V.ref) (rs.map ruleD)
  | _, _, .nil => .nil
  | _, _, .cons r t => .cons (dp_rule r) (dp_ruleL t)
theorem dp_rules {K : PySem.W.Frag} {H : Hp} {t : Addr} {as : List Addr} {rs : List RuleL} (h : SqT K H t (as.map V.ref)) (h3 : Paired (RuleAt K H) as rs) : Dp K H (.ref t) (rulesD rs) := .tup h (dp_ruleL h3)
theorem act_lay : ∀ x ∈ acts, PyData.canLay0 (.str x) = true := by
  intro x hx
  simp only [acts, List.mem_cons, List.not_mem_nil, or_false] at hx
  rcases hx with rfl | rfl | rfl | rfl | rfl | rfl | rfl <;> decide +kernel
theorem sm_rule {r : RuleL} (h : GoodRule r) : Sm 1 (ruleD r) := sm_tuple fun d hd => by
  obtain ⟨x, hx, rfl⟩ := List.mem_map.mp hd
  exact sok (act_lay x (h.2 x hx))
theorem sm_rules {rs : List RuleL} (h : GoodB rs) : Sm 2 (rulesD rs) := sm_tuple fun d hd => by
  obtain ⟨r, hr, rfl⟩ := List.mem_map.mp hd
  exact sm_rule (h.good r hr)
end K16

namespace K16
open PySem PySem.Spec PyProof.Rows L2 My
/-! ### a number written and read -/
theorem numL_head : ∀ n : Nat, 1 ≤ n → ∃ c r, TL.numL n = c :: r ∧ c ≠ 48 := by
  intro n
  induction n using Nat.strongRecOn with
  | _ n ih =>
    intro h
    by_cases h10 : n < 10
    · exact ⟨48 + n, [], TL.numL_lt h10, by omega⟩
    · obtain ⟨c, r, e, hc⟩ := ih (n / 10) (by omega) (by omega)
      exact ⟨c, r ++ [48 + n % 10], by rw [TL.numL_step (by omega), e]; rfl, hc⟩
theorem numS_nat (n : Nat) : numS (n : Int) = Str.ofString (Nat.repr n) := rfl
theorem numS_tl (n : Nat) : TL.tl (numS (n : Int)) = TL.numL n := TL.tl_num n
theorem starts_no {x : Str} {c : Nat} {r : List Nat} (h : TL.tl x = c :: r) (hc : c ≠ 48) : Txt.startswith x "0" = false := by
  have e : Builtin.Str.subAt x "0" 0 = false := by
    rw [StrLaws.subAt_eq, List.drop_zero]
    show ((TL.tl x).take ("0" : Str).length == TL.tl ("0" : Str)) = false
    have e1 : ("0" : Str).length = 1 := by decide +kernel
    have e2 : TL.tl ("0" : Str) = [48] := by decide +kernel
    rw [h, e1, e2]
    show ([c] == [48]) = false
    exact beq_eq_false_iff_ne.mpr fun z => hc (List.cons.inj z).1
  unfold Txt.startswith
  rw [e, Bool.and_false]
theorem num_le {p m : Int} (h1 : 1 ≤ p) (h2 : p ≤ m) : (numS p).length ≤ (numS m).length := by
  obtain ⟨a, rfl⟩ : ∃ a : Nat, p = (a : Int) := ⟨p.toNat, by omega⟩
  obtain ⟨b, rfl⟩ : ∃ b : Nat, m = (b : Int) := ⟨m.toNat, by omega⟩
  rw [numS_nat, numS_nat, len_of, len_of]
  have hk : 0 < (Nat.repr b).length := by
    have := TL.numL_ne b
    rw [← numS_tl, numS_nat] at this
    have e := len_of (Nat.repr b)
    rw [len_tl] at e
    rw [← e]
    exact List.length_pos_iff.mpr this
  refine (Nat.length_repr_le_iff hk).mpr ?_
  have := (Nat.length_repr_le_iff hk).mp (Nat.le_refl (Nat.repr b).length)
  omega
theorem num_int {p : Int} (h : 1 ≤ p ∧ p ≤ 1000000000) : intText? (numS p) = some p := by
  obtain ⟨a, rfl⟩ : ∃ a : Nat, p = (a : Int) := ⟨p.toNat, by omega⟩
  refine TL.int_num ?_
  have := num_len h
  rw [len_tl, numS_tl] at this
  omega
theorem num_sign {p : Int} (h : 1 ≤ p) : ∀ c ∈ (numS p).cps.toList, c ∈ ("0123456789" : Str).cps.toList := by
  obtain ⟨a, rfl⟩ : ∃ a : Nat, p = (a : Int) := ⟨p.toNat, by omega⟩
  intro c hc
  have h1 : c ∈ TL.numL a := by rw [← numS_tl]; exact hc
  have h2 := TL.numL_digits a c h1
  have e : ("0123456789" : Str).cps.toList = [48, 49, 50, 51, 52, 53, 54, 55, 56, 57] := by decide +kernel
  rw [e]
  simp only [List.mem_cons, List.not_mem_nil, or_false]
  omega
theorem num_no0 {p : Int} (h : 1 ≤ p) : Txt.startswith (numS p) "0" = false := by
  obtain ⟨a, rfl⟩ : ∃ a : Nat, p = (a : Int) := ⟨p.toNat, by omega⟩
  obtain ⟨c, r, e, hc⟩ := numL_head a (by omega)
  exact starts_no (by rw [numS_tl, e]) hc
theorem num_ne {p : Int} (h : 1 ≤ p) : numS p ≠ "" := by
  obtain ⟨a, rfl⟩ : ∃ a : Nat, p = (a : Int) := ⟨p.toNat, by omega⟩
  intro z
  have := numS_tl a
  rw [z] at this
  exact TL.numL_ne a (this.symm.trans (by decide +kernel))
section
variable {P : Program} {w : World} {K : PySem.W.Frag} {mg : Str → Option Value} {base : Heap}
def sp_lines_of (K : PySem.W.Frag) : Sp := fun vs H Q _ => ∃ x : Str, vs = [.str x] ∧ x.length + 2 ≤ sizeLine ∧ ∀ p, H p = none → Q (.ref p) (upd H p (.lst ((Txt.split x "\n").map V.str)))
set_option maxHeartbeats 2000000 in
theorem ok_lines_of (T : Txt K mg) {fd : FuncData} (F : FunD K d_lines_of.name d_lines_of.qual d_lines_of.params d_lines_of.body d_lines_of.scope (d_lines_of.dvs K) (d_lines_of.kws K) (He.fAd K d_lines_of.at_) fd) : FnOk P w K mg base C8.CX0 1 (He.fAd K d_lines_of.at_) fd ["text"] (sp_lines_of K) := by
  refine F.ok sc_lines_of (fun vs H Q E h => ?_) (fun cdv A outer s H vs Q E hr h => ?_)
  · obtain ⟨x, rfl, _⟩ := h
    rfl
  · have hu := L2.hu_of hr
    obtain ⟨x, rfl, hl, q⟩ := h
    refine ⟨_, (PSs.nox ((pss_cons (ps_if (pt_not (pt_val (pe_callB (My.isiK (K := K) rfl) (by rfl) T.isinstance (by decide +kernel) (pa_cons (pv 0) (pa_cons (pe_bltn (v := .ty "str") (u := .type "str") rfl T.str (by decide +kernel) rfl) pa_nil)))))
  (pss_one ps_never)
  pss_nil)
  (pss_one (ps_ret (pe_split (pv 0) pe_str)))))), ?_⟩
    refine ⟨_, rfl, _, _, _, _, true, rfl, .ty "str", .base (.str _), L2.kit_ty (by decide +kernel), true, rfl, ?_⟩
    exact ⟨_, rfl, ⟨_, rfl⟩, x, "\n", rfl, rfl, by decide +kernel, hl, q⟩
theorem c_lines_of (T : Txt K mg) : C8.Cal P w K mg base 1 "lines_of" (sp_lines_of K) [] := by
  obtain ⟨fd, F⟩ := T.f_lines_of
  exact ⟨_, fd, _, _, ok_lines_of T F, T.g_lines_of, F.kp, F.bindsN (fun _ _ _ _ _ _ us hl => match us, hl with | [_], _ => rfl), .nil⟩
def sp_read_number (K : PySem.W.Frag) : Sp := fun vs H Q _ => ∃ p m : Int, vs = [.str (numS p), .int m] ∧ 1 ≤ p ∧ p ≤ m ∧ m ≤ 1000000000 ∧ ∀ H', Same H H' → Q (.int p) H'
set_option maxHeartbeats 2000000 in
theorem ok_read_number (T : Txt K mg) {fd : FuncData} (F : FunD K d_read_number.name d_read_number.qual d_read_number.params d_read_number.body d_read_number.scope (d_read_number.dvs K) (d_read_number.kws K) (He.fAd K d_read_number.at_) fd) : FnOk P w K mg base C8.CX0 1 (He.fAd K d_read_number.at_) fd ["figures", "most"] (sp_read_number K) := by
  obtain ⟨t_FIGURES, g_FIGURES⟩ := T.g_FIGURES
  refine F.ok sc_read_number (fun vs H Q E h => ?_) (fun cdv A outer s H vs Q E hr h => ?_)
  · obtain ⟨p, m, rfl, _⟩ := h
    rfl
  · have hu := L2.hu_of hr
    obtain ⟨p, m, rfl, h1, h2, h3, q⟩ := h
    refine ⟨_, (PSs.nox ((pss_cons (ps_if (PW.pt (pw_or (pt_cmpR op_eq (pv 0) pe_str (nomark _)) (pw_or (pt_val (pe_m1 PySem.F.slot_str_startswith PySem.F.type_str_startswith mt_startswith (pv 0) pe_str)) (pw_or1 (pt_not (pt_val (pe_callB (My.allK (K := K) rfl rfl) (by rfl) T.all (by decide +kernel) (pa_cons (pe_lc (own := [("figure", 2)]) (g := (gName 2)) (tt := tYes) (by rfl) sc_read_number.nd (pi_str (pv 0)) (blkOk_by (N := N_read_number) (sc := defScope s_read_number) (by decide +kernel)) (fun _ _ _ _ _ => (pg_name (i := 2) sc_read_number.nd rfl (by first | exact Or.inl rfl | exact Or.inr rfl))) (fun _ _ _ _ _ => pts_nil) (fun _ _ _ _ _ => (pe_cmpR op_in_sign (pv 2) (pe_glob (v := .str "0123456789") rfl g_FIGURES ⟨_, rfl⟩) (by rfl)))) pa_nil))))))))
  (pss_one (ps_ret pe_non))
  pss_nil)
  (pss_cons (ps_if (PW.pt (pw_or (pt_cmpR op_gt (pe_callB (My.len_anyK (K := K) rfl) (by rfl) T.len (by decide +kernel) (pa_cons (pv 0) pa_nil)) (pe_callB (My.len_anyK (K := K) rfl) (by rfl) T.len (by decide +kernel) (pa_cons (pe_callTy call_str_int (by rfl) T.str (by decide +kernel) (pa_cons (pv 1) pa_nil)) pa_nil)) (nomark _)) (pw_or1 (pt_cmpR op_gt (pe_callTy call_int_str (by rfl) T.int (by decide +kernel) (pa_cons (pv 0) pa_nil)) (pv 1) (nomark _)))))
  (pss_one (ps_ret pe_non))
  pss_nil)
  (pss_one (ps_ret (pe_callTy call_int_str (by rfl) T.int (by decide +kernel) (pa_cons (pv 0) pa_nil)))))))), ?_⟩
    have hp : 1 ≤ p ∧ p ≤ 1000000000 := ⟨h1, by omega⟩
    have hm : 1 ≤ m ∧ m ≤ 1000000000 := ⟨by omega, h3⟩
    refine ⟨_, rfl, rfl, _, rfl, ?_⟩
    rw [decide_eq_false (show ¬ V.str (numS p) = V.str "" from fun z => num_ne h1 (V.str.inj z))]
    refine ⟨_, rfl, ⟨_, rfl⟩, _, _, rfl, rfl, _, rfl, ?_⟩
    rw [num_no0 h1]
    refine ⟨_, rfl, _, rfl, fun D hD => ?_⟩
    refine lc_it (walk_str (z := numS p)) (fun i H' => Same H H' ∧ H' D = some (.lst ((List.replicate i true).map V.bl))) ⟨same_new hD, upd_same⟩ (fun _ _ _ _ => trivial) ?_ ?_
    · rintro i y H2 H3 hi ⟨s2, hD2⟩ ⟨rfl, c, hc, rfl⟩
      refine ⟨rfl, ?_⟩
      have hmem : c ∈ (numS p).cps.toList := by
        have e := Array.getElem?_toList (xs := (numS p).cps) (i := i)
        rw [hc] at e
        exact List.mem_of_getElem? e
      refine ⟨_, rfl, c, "0123456789", rfl, rfl, ?_⟩
      rw [decide_eq_true (num_sign h1 c hmem)]
      have hsz : i < 11 := Nat.lt_of_lt_of_le hi (num_len hp)
      refine ⟨_, hD2, ?_, same_upd s2 hD, ?_⟩
      · rw [List.length_map, List.length_replicate]
        exact lt_line (by omega)
      · rw [upd_same, List.replicate_succ', List.map_append]
        rfl
    rintro H2 ⟨s2, hD2⟩
    refine ⟨D, _, rfl, SqL.of hD2, _, rfl, ?_⟩
    have e2 : (List.replicate (numS p).cps.size true).all id = true := List.all_eq_true.mpr fun x hx => (List.mem_replicate.mp hx).2
    rw [e2]
    have l1 := num_len hp
    have l2 := num_len hm
    have l3 := num_le h1 h2
    refine ⟨_, rfl, _, _, rfl, ⟨Nat.le_of_lt (lt_line (by omega)), rfl⟩, ?_⟩
    refine ⟨_, rfl, m, rfl, num_log hm, V.str (numS m), _, rfl, ⟨Nat.le_of_lt (lt_line (by omega)), rfl⟩, _, _, rfl, rfl, _, rfl, ?_⟩
    rw [decide_eq_false (show ¬ (((numS m).length : Nat) : Int) < (((numS p).length : Nat) : Int) by omega)]
    refine ⟨_, rfl, _, p, rfl, num_int hp, by omega, _, rfl, _, _, rfl, rfl, _, rfl, ?_⟩
    rw [decide_eq_false (show ¬ m < p by omega)]
    exact ⟨_, rfl, _, p, rfl, num_int hp, by omega, q _ s2⟩
theorem c_read_number (T : Txt K mg) : C8.Cal P w K mg base 1 "read_number" (sp_read_number K) [] := by
  obtain ⟨fd, F⟩ := T.f_read_number
  exact ⟨_, fd, _, _, ok_read_number T F, T.g_read_number, F.kp, F.bindsN (fun _ _ _ _ _ _ us hl => match us, hl with | [_, _], _ => rfl), .nil⟩
end
end K16

namespace K16
open PySem PySem.Spec PyProof.Rows L2 My StX
/-! ### the text of a book, read -/
theorem days_part {d : Int} : Txt.partition ("days " ++ numS d) " " = (("days" : Str), (" " : Str), numS d) := by
  have e : ("days " ++ numS d : Str) = "days" ++ " " ++ numS d := by
    have e2 : ("days " : Str) = "days" ++ " " := by decide +kernel
    rw [e2]
  rw [e]
  exact TL.partition_app (y := " ") (s := 32) (S := []) (by decide +kernel) (by decide +kernel)
theorem words_split {m : Str} {r : RuleL} (hm : m ∈ moms) (hr : GoodRule r) : Txt.split (lineS m r) " " = (m ++ ":") :: r := by
  refine TL.split_join (y := " ") (s := 32) (S := []) (by decide +kernel) (by decide +kernel) (fun z => by cases z) fun p hp => ?_
  rcases List.mem_cons.mp hp with z | z
  · subst z
    rw [TL.tl_append]
    have h1 : ∀ x ∈ moms, 32 ∉ TL.tl x := by decide +kernel
    intro hc
    rcases List.mem_append.mp hc with hc | hc
    · exact h1 m hm hc
    · exact absurd hc (by decide +kernel)
  · have h1 : ∀ x ∈ acts, 32 ∉ TL.tl x := by decide +kernel
    exact h1 p (hr.2 p z)
theorem joinL_free {s : Nat} {S : List Nat} (hS : s ∉ S) : ∀ {ys : List (List Nat)}, (∀ y ∈ ys, s ∉ y) → s ∉ TL.joinL S ys
  | [], _ => fun h => by cases h
  | [y], h => h y (List.mem_cons_self ..)
  | y :: z :: r, h => by
    show s ∉ y ++ (S ++ TL.joinL S (z :: r))
    intro hc
    rcases List.mem_append.mp hc with hc | hc
    · exact h y (List.mem_cons_self ..) hc
    · rcases List.mem_append.mp hc with hc | hc
      · exact hS hc
      · exact joinL_free hS (fun x hx => h x (List.mem_cons_of_mem _ hx)) hc
theorem line_free {m : Str} {r : RuleL} (hm : m ∈ moms) (hr : GoodRule r) : 10 ∉ TL.tl (lineS m r) := by
  unfold lineS
  rw [TL.join_eq, TL.tl_join]
  refine joinL_free (by decide +kernel) fun y hy => ?_
  obtain ⟨p, hp, rfl⟩ := List.mem_map.mp hy
  rcases List.mem_cons.mp hp with z | z
  · subst z
    rw [TL.tl_append]
    have h1 : ∀ x ∈ moms, 10 ∉ TL.tl x := by decide +kernel
    intro hc
    rcases List.mem_append.mp hc with hc | hc
    · exact h1 m hm hc
    · exact absurd hc (by decide +kernel)
  · have h1 : ∀ x ∈ acts, 10 ∉ TL.tl x := by decide +kernel
    exact h1 p (hr.2 p z)
theorem num_free {p : Int} (h : 1 ≤ p) : 10 ∉ TL.tl (numS p) ∧ 32 ∉ TL.tl (numS p) := by
  obtain ⟨a, rfl⟩ : ∃ a : Nat, p = (a : Int) := ⟨p.toNat, by omega⟩
  rw [numS_tl]
  exact ⟨TL.numL_free (by omega), TL.numL_free (by omega)⟩
theorem moms_at {i : Nat} (hi : i < 8) : moms.getD i Str.empty ∈ moms := by
  rw [List.getD_eq_getElem?_getD, List.getElem?_eq_getElem (show i < moms.length from hi)]
  exact List.getElem_mem _
theorem book_split {d : Int} {rs : List RuleL} (hg : GoodB rs) (h1 : 1 ≤ d) : Txt.split (bookS d rs) "\n" = linesS d rs := by
  refine TL.split_join (y := "\n") (s := 10) (S := []) (by decide +kernel) (by decide +kernel) (fun z => by cases z) fun p hp => ?_
  rcases List.mem_cons.mp hp with z | z
  · subst z
    rw [TL.tl_append]
    intro hc
    rcases List.mem_append.mp hc with hc | hc
    · exact absurd hc (by decide +kernel)
    · exact (num_free h1).1 hc
  · obtain ⟨i, hi, rfl⟩ := List.mem_map.mp z
    have hi8 := List.mem_range.mp hi
    exact line_free (moms_at hi8) (hg.good _ (List.mem_of_getElem? (hg.get hi8)))
theorem book_len {d : Int} {rs : List RuleL} (hg : GoodB rs) (h1 : 1 ≤ d) (h2 : d ≤ 30) : (bookS d rs).length ≤ 1000 := by
  have e : ("\n" : Str).length = 1 := by decide +kernel
  have a := days_len h1 h2
  have b := linesN_sum hg 8 (by decide)
  have c := linesN_len 8 rs
  have j := join_len "\n" (linesS d rs)
  rw [e] at j
  have s : ((linesS d rs).map (·.length)).sum = ("days " ++ numS d).length + ((linesN 8 rs).map (·.length)).sum := rfl
  have l : (linesS d rs).length = 9 := by
    show (linesN 8 rs).length + 1 = 9
    rw [c]
  rw [s, l] at j
  show (Txt.join "\n" (linesS d rs)).length ≤ 1000
  omega
section
variable {P : Program} {w : World} {K : PySem.W.Frag} {mg : Str → Option Value} {base : Heap}
def sp_read_days (K : PySem.W.Frag) : Sp := fun vs H Q _ => ∃ d : Int, vs = [.str ("days " ++ numS d)] ∧ 1 ≤ d ∧ d ≤ 30 ∧ ∀ H', Same H H' → Q (.int d) H'
set_option maxHeartbeats 2000000 in
theorem ok_read_days (T : Txt K mg) {fd : FuncData} (F : FunD K d_read_days.name d_read_days.qual d_read_days.params d_read_days.body d_read_days.scope (d_read_days.dvs K) (d_read_days.kws K) (He.fAd K d_read_days.at_) fd) : FnOk P w K mg base C8.CX0 2 (He.fAd K d_read_days.at_) fd ["line"] (sp_read_days K) := by
  obtain ⟨t_MOST_DAYS, g_MOST_DAYS⟩ := T.g_MOST_DAYS
  have c_read_number := c_read_number (P := P) (w := w) (base := base) T
  refine F.ok sc_read_days (fun vs H Q E h => ?_) (fun cdv A outer s H vs Q E hr h => ?_)
  · obtain ⟨d, rfl, _⟩ := h
    rfl
  · have hu := L2.hu_of hr
    obtain ⟨d, rfl, h1, h2, q⟩ := h
    refine ⟨_, (PSs.nox ((pss_cons (ps_asg (pe_partition (pv 0) pe_str) (My.pg_tupK (K := K) (n := 3) rfl rfl (pgs_cons (pg_name (i := 1) sc_read_days.nd rfl (by first | exact Or.inl rfl | exact Or.inr rfl)) (pgs_cons (pg_name (i := 2) sc_read_days.nd rfl (by first | exact Or.inl rfl | exact Or.inr rfl)) (pgs_cons (pg_name (i := 3) sc_read_days.nd rfl (by first | exact Or.inl rfl | exact Or.inr rfl)) pgs_nil)))))
  (pss_one (ps_ret (pe_ifExp (pt_cmpR op_eq (pv 1) pe_str (nomark _)) (C8.pe_c c_read_number hr (by decide) rfl (pa_cons (pv 3) (pa_cons (pe_glob (v := .int 30) rfl g_MOST_DAYS ⟨_, rfl⟩) pa_nil))) pe_non)))))), ?_⟩
    refine ⟨_, rfl, ⟨_, rfl⟩, _, " ", rfl, rfl, by decide +kernel, Nat.le_of_lt (lt_line (Nat.le_trans (days_len h1 h2) (by decide))), fun p hp => ?_⟩
    rw [days_part]
    have yp := same_new (o := .tup [V.str "days", .str " ", .str (numS d)]) hp
    refine ⟨p, _, rfl, SqT.of upd_same, rfl, _, _, rfl, _, _, rfl, _, _, rfl, rfl, ?_⟩
    refine ⟨_, rfl, rfl, _, rfl, ?_⟩
    rw [decide_eq_true (show V.str "days" = V.str "days" from rfl)]
    exact ⟨_, rfl, d, 30, rfl, h1, h2, by decide, fun H' s' => q _ (yp.trans s')⟩
theorem c_read_days (T : Txt K mg) : C8.Cal P w K mg base 2 "read_days" (sp_read_days K) [] := by
  obtain ⟨fd, F⟩ := T.f_read_days
  exact ⟨_, fd, _, _, ok_read_days T F, T.g_read_days, F.kp, F.bindsN (fun _ _ _ _ _ _ us hl => match us, hl with | [_], _ => rfl), .nil⟩
def sp_read_rule (K : PySem.W.Frag) : Sp := fun vs H Q _ => ∃ (m : Str) (r : RuleL), vs = [.str (lineS m r), .str m] ∧ m ∈ moms ∧ GoodRule r ∧ ∀ H' p, Same H H' → RuleAt K H' p r → Q (.ref p) H'
set_option maxHeartbeats 2000000 in
theorem ok_read_rule (T : Txt K mg) {fd : FuncData} (F : FunD K d_read_rule.name d_read_rule.qual d_read_rule.params d_read_rule.body d_read_rule.scope (d_read_rule.dvs K) (d_read_rule.kws K) (He.fAd K d_read_rule.at_) fd) : FnOk P w K mg base C8.CX0 3 (He.fAd K d_read_rule.at_) fd ["line", "moment"] (sp_read_rule K) := by
  have c_is_rule := c_is_rule (P := P) (w := w) (base := base) T
  refine F.ok sc_read_rule (fun vs H Q E h => ?_) (fun cdv A outer s H vs Q E hr h => ?_)
  · obtain ⟨m, r, rfl, _⟩ := h
    rfl
  · have hu := L2.hu_of hr
    obtain ⟨m, r, rfl, hm, gr, q⟩ := h
    refine ⟨_, (PSs.nox ((pss_cons (ps_set (i := 2) sc_read_rule.nd rfl (by first | exact Or.inl rfl | exact Or.inr rfl) (pe_split (pv 0) pe_str))
  (pss_cons (ps_set (i := 3) sc_read_rule.nd rfl (by first | exact Or.inl rfl | exact Or.inr rfl) (pe_callTy (My.tuple_ofK (K := K) rfl) (by rfl) T.tuple (by decide +kernel) (pa_cons (pe_slice (My.sl_listK (K := K) rfl) (pv 2) (po_some pe_int) po_none) pa_nil)))
  (pss_one (ps_ret (pe_ifExp (PW.pt (pw_and (pt_cmpR op_eq (pe_ix (My.ix_listK (K := K) rfl) (pv 2) pe_int (fun _ _ => rfl)) (pe_op op_add_str (pv 1) pe_str) (nomark _)) (pw_and1 (pt_val (C8.pe_c c_is_rule hr (by decide) rfl (pa_cons (pv 3) pa_nil)))))) (pv 3) pe_non))))))), ?_⟩
    have ml : m.length ≤ 6 := by
      have h : ∀ x ∈ moms, x.length ≤ 6 := by decide +kernel
      exact h m hm
    refine ⟨_, rfl, ⟨_, rfl⟩, _, " ", rfl, rfl, by decide +kernel, ?_, fun L hL => ?_⟩
    · have := lineS_len ml gr
      exact Nat.le_of_lt (lt_line (by omega))
    rw [words_split hm gr]
    have yL := same_new (o := .lst (((m ++ ":") :: r).map V.str)) hL
    refine ⟨_, rfl, 1, rfl, L, _, rfl, SqL.of upd_same, fun q1 hq1 => ?_⟩
    have ec : cutV (((m ++ ":") :: r).map V.str) (some (1 : Int)) none = r.map V.str := cut_from (c := 1)
    rw [ec]
    have y1 := same_new (o := .lst (r.map V.str)) hq1
    refine ⟨q1, _, rfl, .inl ⟨SqL.of upd_same, fun t ht => ?_⟩⟩
    have yt := same_new (o := .tup (r.map V.str)) ht
    have ss := (yL.trans y1).trans yt
    have hL3 := yt _ _ (y1 _ _ (show upd H L (.lst (((m ++ ":") :: r).map V.str)) L = some (.lst (((m ++ ":") :: r).map V.str)) from upd_same))
    have ht3 : RuleAt K (upd (upd (upd H L (.lst (((m ++ ":") :: r).map V.str))) q1 (.lst (r.map V.str))) t (.tup (r.map V.str))) t r := SqT.of upd_same
    refine ⟨_, rfl, L, _, 0, _, rfl, rfl, SqL.of hL3, atI_nat (j := 0) rfl, _, rfl, _, _, rfl, rfl, cat_ok 6 1 ml (by decide +kernel), rfl, _, rfl, ?_⟩
    rw [decide_eq_true (show V.str (m ++ ":") = V.str (m ++ ":") from rfl)]
    refine ⟨_, rfl, t, r, rfl, ht3, gr, fun H5 s5 => ?_⟩
    exact ⟨true, rfl, _, rfl, q _ t (ss.trans s5) (same_tup s5 ht3)⟩
theorem c_read_rule (T : Txt K mg) : C8.Cal P w K mg base 3 "read_rule" (sp_read_rule K) [] := by
  obtain ⟨fd, F⟩ := T.f_read_rule
  exact ⟨_, fd, _, _, ok_read_rule T F, T.g_read_rule, F.kp, F.bindsN (fun _ _ _ _ _ _ us hl => match us, hl with | [_, _], _ => rfl), .nil⟩
def sp_read_book (K : PySem.W.Frag) : Sp := fun vs H Q _ => ∃ (d : Int) (rs : List RuleL), vs = [.str (bookS d rs)] ∧ GoodB rs ∧ 1 ≤ d ∧ d ≤ 30 ∧ ∀ H' b, H b = none → Same H H' → BookAt K H' b d rs → Q (.ref b) H'
set_option maxHeartbeats 2000000 in
theorem ok_read_book (T : Txt K mg) {fd : FuncData} (F : FunD K d_read_book.name d_read_book.qual d_read_book.params d_read_book.body d_read_book.scope (d_read_book.dvs K) (d_read_book.kws K) (He.fAd K d_read_book.at_) fd) : FnOk P w K mg base C8.CX0 5 (He.fAd K d_read_book.at_) fd ["text"] (sp_read_book K) := by
  have c_Book_init := c_Book_init (P := P) (w := w) (base := base) T
  have c_read_rule := c_read_rule (P := P) (w := w) (base := base) T
  have c_read_days := c_read_days (P := P) (w := w) (base := base) T
  have c_lines_of := c_lines_of (P := P) (w := w) (base := base) T
  refine F.ok sc_read_book (fun vs H Q E h => ?_) (fun cdv A outer s H vs Q E hr h => ?_)
  · obtain ⟨d, rs, rfl, _⟩ := h
    rfl
  · have hu := L2.hu_of hr
    obtain ⟨d, rs, rfl, hg, h1, h2, q⟩ := h
    refine ⟨_, (PSs.nox ((pss_cons (ps_set (i := 1) sc_read_book.nd rfl (by first | exact Or.inl rfl | exact Or.inr rfl) (C8.pe_c c_lines_of hr (by decide) rfl (pa_cons (pv 0) pa_nil)))
  (pss_cons (ps_set (i := 2) sc_read_book.nd rfl (by first | exact Or.inl rfl | exact Or.inr rfl) (C8.pe_c c_read_days hr (by decide) rfl (pa_cons (pe_ix (My.ix_listK (K := K) rfl) (pv 1) pe_int (fun _ _ => rfl)) pa_nil)))
  (pss_cons (ps_if (pt_cmpR op_isN (pv 2) pe_non (nomark _))
  (pss_one ps_never)
  pss_nil)
  (pss_cons (ps_set (i := 3) sc_read_book.nd rfl (by first | exact Or.inl rfl | exact Or.inr rfl) (pe_lst pa_nil))
  (pss_cons (ps_for PassesOwn.never rfl (My.pi_enumT (K := K) rfl (by rfl) T.enumerate (pa_cons (pe_glob (v := .ref (He.ga K "MOMENTS")) rfl T.g_MOMENTS rfl) pa_nil) (pk_cons pe_int pk_nil)) (My.pg_tupK (K := K) (n := 2) rfl rfl (pgs_cons (pg_name (i := 4) sc_read_book.nd rfl (by first | exact Or.inl rfl | exact Or.inr rfl)) (pgs_cons (pg_name (i := 5) sc_read_book.nd rfl (by first | exact Or.inl rfl | exact Or.inr rfl)) pgs_nil)))
  (pss_cons (ps_set (i := 6) sc_read_book.nd rfl (by first | exact Or.inl rfl | exact Or.inr rfl) (pe_ifExp (pt_cmpR op_lt (pv 4) (pe_callB (My.len_seqK (K := K) rfl) (by rfl) T.len (by decide +kernel) (pa_cons (pv 1) pa_nil)) (nomark _)) (C8.pe_c c_read_rule hr (by decide) rfl (pa_cons (pe_ix (My.ix_listK (K := K) rfl) (pv 1) (pv 4) (fun _ _ => rfl)) (pa_cons (pv 5) pa_nil))) pe_non))
  (pss_cons (ps_if (pt_cmpR op_isN (pv 6) pe_non (nomark _))
  (pss_one ps_never)
  pss_nil)
  (pss_one (ps_expr (My.pe_bmK (K := K) rfl PySem.F.plainAttrs_list PySem.F.slot_list_append PySem.F.type_list_append mt_append (pv 3) (pa_cons (pv 6) pa_nil)))))))
  (pss_cons (ps_if (pt_cmpR op_gt (pe_callB (My.len_seqK (K := K) rfl) (by rfl) T.len (by decide +kernel) (pa_cons (pv 1) pa_nil)) (pe_op op_add pe_int (pe_callB (My.len_seqK (K := K) rfl) (by rfl) T.len (by decide +kernel) (pa_cons (pe_glob (v := .ref (He.ga K "MOMENTS")) rfl T.g_MOMENTS rfl) pa_nil))) (nomark _))
  (pss_one ps_never)
  pss_nil)
  (pss_one (ps_ret (My.pe_mkS2 c_Book_init hr (by decide) rfl (pa_cons (pv 2) (My.pa_starK (K := K) rfl (pv 3) pa_nil))))))))))))), ?_⟩
    refine ⟨_, rfl, _, rfl, Nat.le_of_lt (lt_line (Nat.le_trans (Nat.add_le_add_right (book_len hg h1 h2) 2) (by decide))), fun L hL => ?_⟩
    rw [book_split hg h1]
    have yL := same_new (o := .lst ((linesS d rs).map V.str)) hL
    have hL1 : upd H L (.lst ((linesS d rs).map V.str)) L = some (.lst ((linesS d rs).map V.str)) := upd_same
    generalize upd H L (.lst ((linesS d rs).map V.str)) = H1 at yL hL1
    refine ⟨_, rfl, L, _, 0, _, rfl, rfl, SqL.of hL1, atI_nat (j := 0) rfl, d, rfl, h1, h2, fun H2 s2 => ?_⟩
    refine ⟨_, rfl, rfl, _, rfl, ?_⟩
    rw [decide_eq_false (show ¬ V.int d = V.non from fun z => by cases z)]
    refine ⟨Nat.zero_le _, fun R hR => ?_⟩
    have yR := same_new (o := .lst []) hR
    have s12 := s2
    have hHR : H R = none := yL.free (s2.free hR)
    have nLR : L ≠ R := ne_of_none (s2 _ _ hL1) hR
    refine ⟨He.ga K "MOMENTS", moms.map V.str, 1, rfl, rfl, by decide, by decide, T.tup_MOMENTS _, ?_⟩
    refine for_it (walk_enumT (xs := moms.map V.str)) (fun i σ H' => ∃ o4 o5 o6, σ = [some (.str (bookS d rs)), some (.ref L), some (.int d), some (.ref R), o4, o5, o6] ∧ Same H H' ∧ H' L = some (.lst ((linesS d rs).map V.str)) ∧ ∃ as : List Addr, H' R = some (.lst (as.map V.ref)) ∧ Paired (RuleAt K H') as (rs.take i))
      ⟨_, _, _, rfl, (yL.trans s2).trans yR, yR _ _ (s2 _ _ hL1), [], upd_same, .nil⟩ (fun i σ H' _ _ => T.tup_MOMENTS _) ?_ ?_
    · rintro i x σ H3 H4 hi ⟨o4, o5, o6, rfl, s3, hL3, as, hR3, has⟩ ⟨T2, x1, y, rfl, hT, rfl, e1, hy⟩
      cases e1
      obtain ⟨m, hm, rfl⟩ := map_get hy
      have hi8 : i < 8 := hi
      have er := hg.get hi8
      have gr := hg.good _ (List.mem_of_getElem? er)
      have em : moms.getD i Str.empty = m := by rw [List.getD_eq_getElem?_getD, hm]; rfl
      have yT := same_new (o := .tup [.int (1 + (i : Int)), .str m]) hT
      refine ⟨T2, _, rfl, SqT.of upd_same, rfl, _, _, rfl, _, _, rfl, rfl, ?_⟩
      have hline : ((linesS d rs).map V.str)[i + 1]? = some (.str (lineS m (at_ rs i))) := by
        show ((linesN 8 rs).map V.str)[i]? = _
        unfold linesN
        rw [List.getElem?_map, List.getElem?_map, List.getElem?_range hi8, ← em]
        rfl
      have e9 : ((linesS d rs).map V.str).length = 9 := by
        rw [List.length_map]
        show (linesN 8 rs).length + 1 = 9
        rw [linesN_len]
      refine ⟨_, rfl, _, rfl, L, _, rfl, .inl (SqL.of (yT _ _ hL3)), _, _, rfl, rfl, _, rfl, ?_⟩
      rw [e9, decide_eq_true (show (1 : Int) + (i : Int) < ((9 : Nat) : Int) by omega)]
      have e1 : (1 : Int) + (i : Int) = ((i + 1 : Nat) : Int) := by omega
      refine ⟨_, rfl, _, rfl, L, _, _, _, rfl, rfl, SqL.of (yT _ _ hL3), by rw [e1]; exact atI_nat hline, _, rfl, m, at_ rs i, rfl, List.mem_of_getElem? hm, gr, fun H5 p s5 hp => ?_⟩
      refine ⟨_, rfl, rfl, _, rfl, ?_⟩
      rw [decide_eq_false (show ¬ V.ref p = V.non from fun z => by cases z)]
      have hR5 := s5 _ _ (yT _ _ hR3)
      refine ⟨_, rfl, .inl ⟨rfl, _, SqL.of hR5⟩, _, rfl, R, _, _, rfl, rfl, hR5, ?_, ?_⟩
      · rw [List.length_map, has.length, List.length_take]
        exact lt_line (by omega)
      have s35 := yT.trans s5
      refine ⟨_, _, _, rfl, same_upd (s3.trans s35) hHR, (upd_ne nLR).trans (s35 _ _ hL3), as ++ [p], by rw [upd_same, List.map_append]; rfl, ?_⟩
      rw [take_more er]
      exact paired_app (paired_map (fun _ _ _ x => tupU hR5 (same_tup s35 x)) has) (.cons (tupU hR5 hp) .nil)
    rintro σ H3 ⟨o4, o5, o6, rfl, s3, hL3, as, hR3, has⟩
    have has8 : Paired (RuleAt K H3) as rs := by
      have e : rs.take (moms.map V.str).length = rs := List.take_of_length_le (by rw [hg.len]; exact Nat.le_refl _)
      rw [e] at has
      exact has
    have e9 : ((linesS d rs).map V.str).length = 9 := by
      rw [List.length_map]
      show (linesN 8 rs).length + 1 = 9
      rw [linesN_len]
    refine ⟨_, rfl, L, _, rfl, .inl (SqL.of hL3), He.ga K "MOMENTS", _, rfl, .inr (T.tup_MOMENTS _), _, _, rfl, rfl, _, _, rfl, rfl, _, rfl, ?_⟩
    rw [e9]
    refine ⟨_, rfl, _, rfl, R, _, rfl, .inr (SqL.of hR3), ?_⟩
    intro x dx nx ndx nex
    have z1 : Same H3 (upd (upd H3 dx (.own x)) x (.ins (He.ga K "Book") dx [])) := (same_new ndx).trans (same_upd (Same.refl _) (by rw [upd_ne nex.symm]; exact nx))
    refine ⟨x, dx, d, as, rs, by rw [List.append_nil, List.append_nil], upd_same, h1, h2, paired_map (fun a r _ hr => same_tup z1 hr) has8, hg.len, hg.good, fun H' t2 bt hx ht2 => ⟨rfl, ?_⟩⟩
    have z3 : Same H3 H' := fun c o e => bt c o (by simpa using ne_of_none e nx) (z1 _ _ e)
    exact q _ x (s3.free nx) (s3.trans z3) ⟨dx, t2, _, hx, SqT.of ht2, paired_map (fun a r _ hr => same_tup z3 hr) has8, hg.len⟩
theorem c_read_book (T : Txt K mg) : C8.Cal P w K mg base 5 "read_book" (sp_read_book K) [] := by
  obtain ⟨fd, F⟩ := T.f_read_book
  exact ⟨_, fd, _, _, ok_read_book T F, T.g_read_book, F.kp, F.bindsN (fun _ _ _ _ _ _ us hl => match us, hl with | [_], _ => rfl), .nil⟩
end
end K16

namespace K16
open PySem PySem.Spec PyProof.Rows L2 My StX
section
variable {P : Program} {w : World} {K : PySem.W.Frag} {mg : Str → Option Value} {base : Heap}
def sp_law_line (K : PySem.W.Frag) : Sp := fun vs H Q _ => ∃ (m : Str) (a : Addr) (r : RuleL), vs = [.str m, .ref a] ∧ m.length ≤ 6 ∧ RuleAt K H a r ∧ GoodRule r ∧ ∀ H', Same H H' → Q (.str (lineS m r)) H'
set_option maxHeartbeats 2000000 in
theorem ok_law_line (T : Txt K mg) {fd : FuncData} (F : FunD K d_law_line.name d_law_line.qual d_law_line.params d_law_line.body d_law_line.scope (d_law_line.dvs K) (d_law_line.kws K) (He.fAd K d_law_line.at_) fd) : FnOk P w K mg base C8.CX0 1 (He.fAd K d_law_line.at_) fd ["word", "row"] (sp_law_line K) := by
  refine F.ok sc_law_line (fun vs H Q E h => ?_) (fun cdv A outer s H vs Q E hr h => ?_)
  · obtain ⟨m, a, r, rfl, _⟩ := h
    rfl
  · have hu := L2.hu_of hr
    obtain ⟨m, a, r, rfl, hm, ha, hr, q⟩ := h
    refine ⟨_, (PSs.nox ((pss_one (ps_ret (My.pe_joinK (K := K) rfl pe_str (pe_op op_cat (pe_lst (pa_cons (pe_op op_add_str (pv 0) pe_str) pa_nil)) (pe_callTy (My.list_ofK (K := K) rfl) (by rfl) T.list (by decide +kernel) (pa_cons (pv 1) pa_nil)))))))), ?_⟩
    refine ⟨⟨_, rfl⟩, _, rfl, _, _, rfl, rfl, cat_ok 6 1 hm (by decide +kernel), by show 1 ≤ sizeLine; decide, fun q1 hq1 => ?_⟩
    have y1 := same_new (o := .lst [.str (m ++ ":")]) hq1
    refine ⟨_, rfl, a, _, rfl, .inr (same_tup y1 ha), fun q2 hq2 => ?_⟩
    have y2 := same_new (o := .lst (r.map V.str)) hq2
    refine ⟨q1, q2, _, _, rfl, rfl, y2 _ _ upd_same, upd_same, ?_, fun q3 hq3 => ?_⟩
    · rw [List.length_map]
      have := hr.1
      exact Nat.le_of_lt (lt_line (by show 1 + r.length ≤ _; omega))
    exact ⟨" ", q3, (m ++ ":") :: r, rfl, rfl, .inl (SqL.of upd_same), Nat.le_trans (line_pre hm hr) (by decide), q _ ((y1.trans y2).trans (same_new hq3))⟩
theorem c_law_line (T : Txt K mg) : C8.Cal P w K mg base 1 "_law_line" (sp_law_line K) [] := by
  obtain ⟨fd, F⟩ := T.f_law_line
  exact ⟨_, fd, _, _, ok_law_line T F, T.g_law_line, F.kp, F.bindsN (fun _ _ _ _ _ _ us hl => match us, hl with | [_, _], _ => rfl), .nil⟩
def sp_law_lines (K : PySem.W.Frag) : Sp := fun vs H Q _ => ∃ (p : Addr) (d : Int) (rs : List RuleL), vs = [.ref p] ∧ PlanAt K H p d rs ∧ GoodB rs ∧ 1 ≤ d ∧ d ≤ 30 ∧ ∀ H' L, Same H H' → H' L = some (.lst ((linesS d rs).map V.str)) → Q (.ref L) H'
set_option maxHeartbeats 2000000 in
theorem ok_law_lines (T : Txt K mg) {fd : FuncData} (F : FunD K d_law_lines.name d_law_lines.qual d_law_lines.params d_law_lines.body d_law_lines.scope (d_law_lines.dvs K) (d_law_lines.kws K) (He.fAd K d_law_lines.at_) fd) : FnOk P w K mg base C8.CX0 2 (He.fAd K d_law_lines.at_) fd ["plan"] (sp_law_lines K) := by
  have c_law_line := c_law_line (P := P) (w := w) (base := base) T
  have c_law_moments := c_law_moments (P := P) (w := w) (base := base) T
  refine F.ok sc_law_lines (fun vs H Q E h => ?_) (fun cdv A outer s H vs Q E hr h => ?_)
  · obtain ⟨p, d, rs, rfl, _⟩ := h
    rfl
  · have hu := L2.hu_of hr
    obtain ⟨p, d, rs, rfl, ⟨t, as, hp, ht, h3⟩, hg, h1, h2, q⟩ := h
    refine ⟨_, (PSs.nox ((pss_cons (ps_set (i := 1) sc_law_lines.nd rfl (by first | exact Or.inl rfl | exact Or.inr rfl) (My.pe_c0 c_law_moments hr (by decide) rfl))
  (pss_one (ps_ret (pe_op op_cat (pe_lst (pa_cons (pe_op op_add_str pe_str (pe_callTy call_str_int (by rfl) T.str (by decide +kernel) (pa_cons (pe_ix (My.ix_tupK (K := K) rfl) (pv 0) pe_int (fun _ _ => rfl)) pa_nil))) pa_nil)) (pe_lc (own := [("k", 2)]) (g := (gName 2)) (tt := tYes) (by rfl) sc_law_lines.nd (pi_range1 (by rfl) T.range (pa_cons pe_int pa_nil)) (blkOk_by (N := N_law_lines) (sc := defScope s_law_lines) (by decide +kernel)) (fun _ _ _ _ _ => (pg_name (i := 2) sc_law_lines.nd rfl (by first | exact Or.inl rfl | exact Or.inr rfl))) (fun _ _ _ _ _ => pts_nil) (fun _ _ _ _ _ => (C8.pe_c c_law_line hr (by decide) rfl (pa_cons (pe_ix (My.ix_listK (K := K) rfl) (pv 1) (pv 2) (fun _ _ => rfl)) (pa_cons (pe_ix (My.ix_tupK (K := K) rfl) (pe_ix (My.ix_tupK (K := K) rfl) (pv 0) pe_int (fun _ _ => rfl)) (pv 2) (fun _ _ => rfl)) pa_nil))))))))))), ?_⟩
    have mem : ∀ {i : Nat} {x : Str}, moms[i]? = some x → moms.getD i Str.empty = x := fun e => by rw [List.getD_eq_getElem?_getD, e]; rfl
    have hd := num_len (p := d) ⟨h1, by omega⟩
    refine ⟨rfl, fun wl hwl => ?_⟩
    have yw := same_new (o := .lst (moms.map V.str)) hwl
    refine ⟨_, rfl, p, _, 0, _, rfl, rfl, same_tup yw hp, rfl, d, rfl, num_log ⟨h1, by omega⟩, _, _, rfl, rfl, cat_ok 5 11 (by decide +kernel) hd, by show 1 ≤ sizeLine; decide, fun L hL => ?_⟩
    have hw1 : upd H wl (.lst (moms.map V.str)) wl = some (.lst (moms.map V.str)) := upd_same
    have yL := same_new (o := .lst [.str ("days " ++ Str.ofString (toString d))]) hL
    have hL1 : upd (upd H wl (.lst (moms.map V.str))) L (.lst [.str ("days " ++ Str.ofString (toString d))]) L = some (.lst [.str ("days " ++ numS d)]) := upd_same
    have hw2 := yL _ _ hw1
    have y0 := yw.trans yL
    generalize upd (upd H wl (.lst (moms.map V.str))) L (.lst [.str ("days " ++ Str.ofString (toString d))]) = H1 at hL1 hw2 y0
    refine ⟨8, rfl, by decide, by decide, fun D hD => ?_⟩
    refine lc_range (lo := 0) (n := (8 : Int).toNat) (fun i H' => Same H1 H' ∧ H' D = some (.lst ((linesN i rs).map V.str))) ⟨same_new hD, upd_same⟩ ?_ ?_
    · rintro i H2 hi ⟨s2, hD2⟩
      have hi8 : i < 8 := hi
      have e0 : (0 : Int) + (i : Int) = (i : Int) := by omega
      have s02 := y0.trans s2
      have hr := hg.get hi8
      obtain ⟨ai, hai, hra⟩ := paired_get h3 hr
      obtain ⟨m, hm⟩ : ∃ m, moms[i]? = some m := ⟨_, List.getElem?_eq_getElem (show i < moms.length from hi8)⟩
      have ml : m.length ≤ 6 := by rw [← mem hm]; exact mom_len i
      refine ⟨rfl, ?_⟩
      refine ⟨_, rfl, _, rfl, wl, _, _, _, rfl, rfl, SqL.of (s2 _ _ hw2), by rw [e0]; exact atI_nat (by rw [List.getElem?_map, hm]; rfl), _, rfl, p, _, 1, _, rfl, rfl, same_tup s02 hp, rfl, _, rfl, t, _, _, _, rfl, rfl, same_tup s02 ht, by rw [e0]; exact atI_nat (by rw [List.getElem?_map, hai]; rfl), ?_⟩
      refine ⟨m, ai, at_ rs i, rfl, ml, same_tup s02 hra, hg.good _ (List.mem_of_getElem? hr), fun H3 s3 => ?_⟩
      refine ⟨_, s3 _ _ hD2, by rw [List.length_map, linesN_len]; exact lt_line (by omega), same_upd (s2.trans s3) hD, ?_⟩
      rw [upd_same, linesN_more, mem hm, List.map_append]
      rfl
    · rintro H2 ⟨s2, hD2⟩
      have hD8 : H2 D = some (.lst ((linesN 8 rs).map V.str)) := hD2
      refine ⟨L, D, _, _, rfl, rfl, s2 _ _ hL1, hD8, ?_, fun q3 hq3 => ?_⟩
      · rw [List.length_map, linesN_len]
        exact Nat.le_of_lt (lt_line (by show 1 + 8 ≤ 1000000; decide))
      exact q _ q3 ((y0.trans s2).trans (same_new hq3)) upd_same
theorem c_law_lines (T : Txt K mg) : C8.Cal P w K mg base 2 "_law_lines" (sp_law_lines K) [] := by
  obtain ⟨fd, F⟩ := T.f_law_lines
  exact ⟨_, fd, _, _, ok_law_lines T F, T.g_law_lines, F.kp, F.bindsN (fun _ _ _ _ _ _ us hl => match us, hl with | [_], _ => rfl), .nil⟩
end
end K16

namespace K16
open PySem PySem.Spec PyProof.Rows L2 My StX
section
variable {P : Program} {w : World} {K : PySem.W.Frag} {mg : Str → Option Value} {base : Heap}
/-- two books that hold the same -/
def EqBook (K : PySem.W.Frag) (a b : Addr) (H : Hp) : Prop := ∃ d rs, BookAt K H a d rs ∧ BookAt K H b d rs ∧ GoodB rs
def sp_Book_eq (K : PySem.W.Frag) : Sp := spEq (EqBook K)
set_option maxHeartbeats 2000000 in
theorem ok_Book_eq (T : Txt K mg) {fd : FuncData} (F : FunD K d_Book_eq.name d_Book_eq.qual d_Book_eq.params d_Book_eq.body d_Book_eq.scope (d_Book_eq.dvs K) (d_Book_eq.kws K) (He.fAd K d_Book_eq.at_) fd) : FnOk P w K mg base C8.CX0 1 (He.fAd K d_Book_eq.at_) fd ["self", "other"] (sp_Book_eq K) := by
  refine F.ok sc_Book_eq (fun vs H Q E h => ?_) (fun cdv A outer s H vs Q E hr h => ?_)
  · obtain ⟨a, b, rfl, _⟩ := h
    rfl
  · have hu := L2.hu_of hr
    obtain ⟨a, b, rfl, ⟨d, rs, ha, hb, hg⟩, q⟩ := h
    refine ⟨_, (PSs.nox ((pss_one (ps_ret (pe_and (pe_callB (My.isiK (K := K) rfl) (by rfl) T.isinstance (by decide +kernel) (pa_cons (pv 1) (pa_cons (pe_glob (v := .ref (He.ga K "Book")) rfl T.g_Book rfl) pa_nil))) (pe_and (pe_cmpR op_eq (My.pe_fldK (K := K) rfl (pv 0) rfl) (My.pe_fldK (K := K) rfl (pv 1) rfl) (nomark _)) (pe_one (pe_cmpR (My.eqDK (K := K) rfl hr.units) (My.pe_fldK (K := K) rfl (pv 0) rfl) (My.pe_fldK (K := K) rfl (pv 1) rfl) (nomark _))))))))), ?_⟩
    obtain ⟨dx, t, as, hx, ht, h3, h8⟩ := id ha
    obtain ⟨dy, t', as', hy, ht', h3', h8'⟩ := id hb
    refine ⟨_, rfl, _, _, _, .ref (He.ga K (Str.ofString "Book")), true, rfl, .own _, insB_ty T.insB_Book T.cl_Book hy, kit_own, ⟨true, rfl, ?_⟩⟩
    refine ⟨_, rfl, a, _, dx, _, _, rfl, hx, T.cl_Book, T.no_Book__days, rfl, _, rfl, b, _, dy, _, _, rfl, hy, T.cl_Book, T.no_Book__days, rfl, rfl, _, rfl, ?_⟩
    rw [decide_eq_true (show V.int d = V.int d from rfl), if_pos rfl]
    refine ⟨_, rfl, a, _, dx, _, _, rfl, hx, T.cl_Book, T.no_Book__rules, rfl, _, rfl, b, _, dy, _, _, rfl, hy, T.cl_Book, T.no_Book__rules, rfl, rulesD rs, rulesD rs, dp_rules ht h3, dp_rules ht' h3', (sm_rules hg).shaped (by decide), (sm_rules hg).shaped (by decide), ?_⟩
    rw [(sm_rules hg).refl]
    exact q _ (fun _ _ z => z)
theorem c_Book_eq (T : Txt K mg) : C8.Met P w K mg base 1 (He.ga K "Book") "__eq__" (sp_Book_eq K) [] := by
  obtain ⟨fd, F⟩ := T.f_Book_eq
  exact ⟨_, fd, _, _, T.cl_Book, T.m_Book_eq, ok_Book_eq T F, F.bindsN (fun _ _ _ _ _ _ us hl => match us, hl with | [_, _], _ => rfl), .nil⟩
end
end K16

namespace K16
open PySem PySem.Spec PyProof.Rows L2 My StX
theorem len8l : ∀ {rs : List RuleL}, rs.length = 8 → ∃ r0 r1 r2 r3 r4 r5 r6 r7, rs = [r0, r1, r2, r3, r4, r5, r6, r7]
  | [r0, r1, r2, r3, r4, r5, r6, r7], _ => ⟨r0, r1, r2, r3, r4, r5, r6, r7, rfl⟩
theorem linesS_set {d : Int} {rs : List RuleL} (hg : rs.length = 8) (r : RuleL) : ∀ {i : Nat}, i < 8 → (linesS d rs).set (1 + i) (lineS (moms.getD i Str.empty) r) = linesS d (rs.set i r) := by
  intro i hi
  obtain ⟨r0, r1, r2, r3, r4, r5, r6, r7, rfl⟩ := len8l hg
  match i, hi with
  | 0, _ => rfl
  | 1, _ => rfl
  | 2, _ => rfl
  | 3, _ => rfl
  | 4, _ => rfl
  | 5, _ => rfl
  | 6, _ => rfl
  | 7, _ => rfl
/-- the rules at the given places from the other book -/
def tk (ks : List Nat) (rs gs : List RuleL) : List RuleL := (List.range 8).map fun i => if i ∈ ks then at_ gs i else at_ rs i
theorem tk_good {ks : List Nat} {rs gs : List RuleL} (gr : GoodB rs) (gg : GoodB gs) : GoodB (tk ks rs gs) := by
  refine ⟨by unfold tk; rw [List.length_map, List.length_range], fun r hr => ?_⟩
  unfold tk at hr
  obtain ⟨i, hi, rfl⟩ := List.mem_map.mp hr
  have hi8 := List.mem_range.mp hi
  split
  · exact gg.good _ (List.mem_of_getElem? (gg.get hi8))
  · exact gr.good _ (List.mem_of_getElem? (gr.get hi8))
theorem tk_nil {rs gs : List RuleL} (gr : GoodB rs) : tk [] rs gs = rs := by
  obtain ⟨r0, r1, r2, r3, r4, r5, r6, r7, rfl⟩ := len8l gr.len
  rfl
theorem tk_more {ks : List Nat} {rs gs : List RuleL} {k : Nat} (hk : k < 8) : (tk ks rs gs).set k (at_ gs k) = tk (ks ++ [k]) rs gs := by
  refine List.ext_getElem? fun i => ?_
  unfold tk
  rw [List.getElem?_set, List.length_map, List.length_range, List.getElem?_map, List.getElem?_map]
  by_cases hi : i < 8
  · rw [List.getElem?_range hi]
    by_cases e : k = i
    · subst e
      rw [if_pos rfl, if_pos hk]
      simp
    · rw [if_neg e]
      have e2 : i ≠ k := fun z => e z.symm
      simp [e2]
  · have h9 : (List.range 8)[i]? = none := by
      rw [List.getElem?_eq_none]
      rw [List.length_range]
      omega
    rw [h9]
    have e2 : k ≠ i := by omega
    rw [if_neg e2]
    rfl
theorem mom_inj : ∀ {i k : Nat}, i < 8 → k < 8 → moms.getD i Str.empty = moms.getD k Str.empty → i = k := by
  have h : ∀ i ∈ List.range 8, ∀ k ∈ List.range 8, moms.getD i Str.empty = moms.getD k Str.empty → i = k := by decide +kernel
  intro i k hi hk e
  exact h i (List.mem_range.mpr hi) k (List.mem_range.mpr hk) e
theorem tk_take {ks : List Nat} {rs gs : List RuleL} (hk : ∀ k ∈ ks, k < 8) : takeR (ks.map fun k => moms.getD k Str.empty) rs gs = tk ks rs gs := by
  unfold takeR tk
  refine List.map_congr_left fun i hi => ?_
  have hi8 := List.mem_range.mp hi
  by_cases c : i ∈ ks
  · rw [if_pos c, if_pos (List.mem_map.mpr ⟨i, c, rfl⟩)]
  · rw [if_neg c, if_neg]
    intro z
    obtain ⟨k, hk2, e⟩ := List.mem_map.mp z
    exact c (by rw [mom_inj hi8 (hk k hk2) e.symm]; exact hk2)
theorem tk_rev {ks : List Nat} {rs gs : List RuleL} : tk ks.reverse rs gs = tk ks rs gs := by
  unfold tk
  refine List.map_congr_left fun i _ => ?_
  simp only [List.mem_reverse]
theorem ixS {n i : Nat} (h : i < n) : ixN n (i : Int) = some i := by
  unfold ixN
  rw [if_pos (by omega), if_pos (by omega)]
  rfl
theorem ixS1 {n i : Nat} (h : 1 + i < n) : ixN n (1 + (i : Int)) = some (1 + i) := by
  have := ixS h
  have e : ((1 + i : Nat) : Int) = 1 + (i : Int) := by omega
  rwa [e] at this
theorem set_good {rs : List RuleL} {i : Nat} {r : RuleL} (hg : GoodB rs) (gr : GoodRule r) : GoodB (rs.set i r) :=
  ⟨by rw [List.length_set]; exact hg.len, fun x hx => by
    rcases List.mem_or_eq_of_mem_set hx with z | z
    · exact hg.good _ z
    · rw [z]; exact gr⟩
theorem strs_int {qs : List Str} : ∀ i r, HO.lst (qs.map V.str) ≠ .lst (.int i :: r) := fun i r e => by
  cases qs with
  | nil => cases e
  | cons a l => cases e
theorem nodup_mom {ks : List Nat} (hn : ks.Nodup) (h8 : ∀ k ∈ ks, k < 8) : (ks.map fun k => moms.getD k Str.empty).Nodup := by
  unfold List.Nodup at *
  rw [List.pairwise_map]
  exact hn.imp_of_mem fun {i k} hi hk ne e => ne (mom_inj (h8 i hi) (h8 k hk) e)
theorem linesN_at {rs : List RuleL} {k : Nat} (hk : k < 8) : (linesN 8 rs)[k]? = some (lineS (moms.getD k Str.empty) (at_ rs k)) := by
  unfold linesN
  rw [List.getElem?_map, List.getElem?_range hk]
  rfl
theorem linesS_at {d : Int} {rs : List RuleL} {k : Nat} (hk : k < 8) : atI ((linesS d rs).map V.str) (1 + (k : Int)) = some (.str (lineS (moms.getD k Str.empty) (at_ rs k))) := by
  have e : (1 + (k : Int)) = ((k + 1 : Nat) : Int) := by omega
  rw [e]
  refine atI_nat ?_
  rw [List.getElem?_map]
  show ((linesN 8 rs)[k]?).map V.str = _
  rw [linesN_at hk]
  rfl
structure TwoB (K : PySem.W.Frag) (B R b0 b1 l0 l1 : Addr) (d0 d1 : Int) (rs0 rs1 : List RuleL) (H : Hp) : Prop where
  B : H B = some (.lst [.ref b0, .ref b1])
  R : H R = some (.lst [.ref l0, .ref l1])
  b0 : BookAt K H b0 d0 rs0
  b1 : BookAt K H b1 d1 rs1
  l0 : H l0 = some (.lst ((linesS d0 rs0).map V.str))
  l1 : H l1 = some (.lst ((linesS d1 rs1).map V.str))
theorem TwoB.same {K : PySem.W.Frag} {B R b0 b1 l0 l1 : Addr} {d0 d1 : Int} {rs0 rs1 : List RuleL} {H H' : Hp} (h : TwoB K B R b0 b1 l0 l1 d0 d1 rs0 rs1 H) (s : Same H H') : TwoB K B R b0 b1 l0 l1 d0 d1 rs0 rs1 H' :=
  ⟨s _ _ h.B, s _ _ h.R, h.b0.same s, h.b1.same s, s _ _ h.l0, s _ _ h.l1⟩
theorem TwoB.draw {K : PySem.W.Frag} {B R b0 b1 l0 l1 a : Addr} {n : Nat} {d0 d1 : Int} {rs0 rs1 : List RuleL} {H H' : Hp} (h : TwoB K B R b0 b1 l0 l1 d0 d1 rs0 rs1 H) (b : But [a] H H') (s : SpringAt H a n) : TwoB K B R b0 b1 l0 l1 d0 d1 rs0 rs1 H' :=
  ⟨rawS b s h.B (fun _ _ z => by cases z), rawS b s h.R (fun _ _ z => by cases z), h.b0.draw b s, h.b1.draw b s, rawS b s h.l0 strs_int, rawS b s h.l1 strs_int⟩
structure Off (x B R l0 l1 : Addr) : Prop where
  B : B ≠ x
  R : R ≠ x
  l0 : l0 ≠ x
  l1 : l1 ≠ x
theorem TwoB.off {K : PySem.W.Frag} {B R b0 b1 l0 l1 x : Addr} {d0 d1 : Int} {rs0 rs1 : List RuleL} {H : Hp} (h : TwoB K B R b0 b1 l0 l1 d0 d1 rs0 rs1 H) (hx : H x = none) : Off x B R l0 l1 :=
  ⟨ne_of_none h.B hx, ne_of_none h.R hx, ne_of_none h.l0 hx, ne_of_none h.l1 hx⟩
theorem TwoB.put {K : PySem.W.Frag} {B R b0 b1 l0 l1 x : Addr} {d0 d1 : Int} {rs0 rs1 : List RuleL} {H : Hp} {xs ys : List V} (h : TwoB K B R b0 b1 l0 l1 d0 d1 rs0 rs1 H) (o : Off x B R l0 l1) (hx : H x = some (.lst xs)) : TwoB K B R b0 b1 l0 l1 d0 d1 rs0 rs1 (upd H x (.lst ys)) :=
  ⟨(upd_ne o.B).trans h.B, (upd_ne o.R).trans h.R, h.b0.putL hx, h.b1.putL hx, (upd_ne o.l0).trans h.l0, (upd_ne o.l1).trans h.l1⟩
theorem linesS_len (d : Int) (rs : List RuleL) : (linesS d rs).length = 9 := by
  show (linesN 8 rs).length + 1 = 9
  rw [linesN_len]
section
variable {P : Program} {w : World} {K : PySem.W.Frag} {mg : Str → Option Value} {base : Heap}
def sp_law_stepped (K : PySem.W.Frag) : Sp := fun vs H Q _ => ∃ (a B R b0 b1 l0 l1 : Addr) (n : Nat) (d0 d1 : Int) (rs0 rs1 : List RuleL), vs = [.ref a, .ref B, .ref R] ∧ SpringAt H a n ∧ n ≤ 40000 ∧ H B = some (.lst [.ref b0, .ref b1]) ∧ H R = some (.lst [.ref l0, .ref l1]) ∧
  BookAt K H b0 d0 rs0 ∧ GoodB rs0 ∧ 1 ≤ d0 ∧ d0 ≤ 30 ∧ BookAt K H b1 d1 rs1 ∧ GoodB rs1 ∧ 1 ≤ d1 ∧ d1 ≤ 30 ∧ H l0 = some (.lst ((linesS d0 rs0).map V.str)) ∧ H l1 = some (.lst ((linesS d1 rs1).map V.str)) ∧
  ∀ H' t b l d rs, But [a] H H' → SpringAt H' a (n + 20) → BookAt K H' b d rs → GoodB rs → 1 ≤ d → d ≤ 30 → H' l = some (.lst ((linesS d rs).map V.str)) → H' t = some (.tup [.ref b, .ref l]) → Q (.ref t) H'
set_option maxHeartbeats 2000000 in
theorem ok_law_stepped (T : Txt K mg) {fd : FuncData} (F : FunD K d_law_stepped.name d_law_stepped.qual d_law_stepped.params d_law_stepped.body d_law_stepped.scope (d_law_stepped.dvs K) (d_law_stepped.kws K) (He.fAd K d_law_stepped.at_) fd) : FnOk P w K mg base C8.CX0 6 (He.fAd K d_law_stepped.at_) fd ["pot", "books", "rows"] (sp_law_stepped K) := by
  have c_Book_taking := c_Book_taking (P := P) (w := w) (base := base) T
  have c_law_dip := c_law_dip (P := P) (w := w) (base := base) T
  have c_Book_with_days := c_Book_with_days (P := P) (w := w) (base := base) T
  have c_Book_with_rule := c_Book_with_rule (P := P) (w := w) (base := base) T
  have c_law_line := c_law_line (P := P) (w := w) (base := base) T
  have c_law_rule := c_law_rule (P := P) (w := w) (base := base) T
  have c_law_moments := c_law_moments (P := P) (w := w) (base := base) T
  refine F.ok sc_law_stepped (fun vs H Q E h => ?_) (fun cdv A outer s H vs Q E hr h => ?_)
  · obtain ⟨a, B, R, b0, b1, l0, l1, n, d0, d1, rs0, rs1, rfl, _⟩ := h
    rfl
  · have hu := L2.hu_of hr
    obtain ⟨a, B, R, b0, b1, l0, l1, n, d0, d1, rs0, rs1, rfl, hs, hn, hB, hR, hb0, hg0, h01, h02, hb1, hg1, h11, h12, hl0, hl1, q⟩ := h
    refine ⟨_, (PSs.nox ((pss_cons (ps_asg (pe_tup (pa_cons (C8.pe_c c_law_dip hr (by decide) rfl (pa_cons (pv 0) (pa_cons pe_int pa_nil))) (pa_cons (pe_callTy (My.list_ofK (K := K) rfl) (by rfl) T.list (by decide +kernel) (pa_cons (pe_ix (My.ix_listK (K := K) rfl) (pv 2) pe_int (fun _ _ => rfl)) pa_nil)) (pa_cons (My.pe_c0 c_law_moments hr (by decide) rfl) pa_nil)))) (My.pg_tupK (K := K) (n := 3) rfl rfl (pgs_cons (pg_name (i := 3) sc_law_stepped.nd rfl (by first | exact Or.inl rfl | exact Or.inr rfl)) (pgs_cons (pg_name (i := 4) sc_law_stepped.nd rfl (by first | exact Or.inl rfl | exact Or.inr rfl)) (pgs_cons (pg_name (i := 5) sc_law_stepped.nd rfl (by first | exact Or.inl rfl | exact Or.inr rfl)) pgs_nil)))))
  (pss_cons (ps_if (pt_cmpR op_eq (pv 3) pe_int (nomark _))
  (pss_cons (ps_par (i := 6) (j := 7) (by rfl) sc_law_stepped.nd rfl rfl (by decide) rfl rfl (pa_cons (C8.pe_c c_law_dip hr (by decide) rfl (pa_cons (pv 0) (pa_cons pe_int pa_nil))) (pa_cons (C8.pe_c c_law_rule hr (by decide) rfl (pa_cons (pv 0) pa_nil)) pa_nil)) (by rfl))
  (pss_cons (ps_asg (C8.pe_c c_law_line hr (by decide) rfl (pa_cons (pe_ix (My.ix_listK (K := K) rfl) (pv 5) (pv 6) (fun _ _ => rfl)) (pa_cons (pv 7) pa_nil))) (pg_sub (pv 4) (pe_op op_add pe_int (pv 6)) set_list))
  (pss_one (ps_ret (pe_tup (pa_cons (C8.pe_mt c_Book_with_rule hr (by decide) (pe_ix (My.ix_listK (K := K) rfl) (pv 1) pe_int (fun _ _ => rfl)) (pa_cons (pe_ix (My.ix_listK (K := K) rfl) (pv 5) (pv 6) (fun _ _ => rfl)) (pa_cons (pv 7) pa_nil))) (pa_cons (pv 4) pa_nil)))))))
  pss_nil)
  (pss_cons (ps_if (pt_cmpR op_eq (pv 3) pe_int (nomark _))
  (pss_cons (ps_set (i := 8) sc_law_stepped.nd rfl (by first | exact Or.inl rfl | exact Or.inr rfl) (pe_op op_add pe_int (C8.pe_c c_law_dip hr (by decide) rfl (pa_cons (pv 0) (pa_cons pe_int pa_nil)))))
  (pss_cons (ps_asg (pe_op op_add_str pe_str (pe_callTy call_str_int (by rfl) T.str (by decide +kernel) (pa_cons (pv 8) pa_nil))) (pg_sub (pv 4) pe_int set_list))
  (pss_one (ps_ret (pe_tup (pa_cons (C8.pe_mt c_Book_with_days hr (by decide) (pe_ix (My.ix_listK (K := K) rfl) (pv 1) pe_int (fun _ _ => rfl)) (pa_cons (pv 8) pa_nil)) (pa_cons (pv 4) pa_nil)))))))
  pss_nil)
  (pss_cons (ps_setLc (i := 9) (own := [("k", 10)]) (g := (gName 10)) (by rfl) sc_law_stepped.nd rfl rfl (sw_true rfl rfl rfl (by decide +kernel)) (pi_range1 (by rfl) T.range (pa_cons pe_int pa_nil)) (blkOk_by (N := N_law_stepped) (sc := defScope s_law_stepped) (by decide +kernel)) (fun _ _ _ _ _ => (pg_name (i := 10) sc_law_stepped.nd rfl (by first | exact Or.inl rfl | exact Or.inr rfl))) (fun _ _ _ _ _ => (pts_one (pt_cmpR op_eq (C8.pe_c c_law_dip hr (by decide) rfl (pa_cons (pv 0) (pa_cons pe_int pa_nil))) pe_int (nomark _)))) (fun _ _ _ _ _ => (pv 10)))
  (pss_cons (ps_for PassesOwn.never rfl (My.pi_listK (K := K) rfl (pv 9)) (pg_name (i := 10) sc_law_stepped.nd rfl (by first | exact Or.inl rfl | exact Or.inr rfl))
  (pss_one (ps_asg (pe_ix (My.ix_listK (K := K) rfl) (pe_ix (My.ix_listK (K := K) rfl) (pv 2) pe_int (fun _ _ => rfl)) (pe_op op_add pe_int (pv 10)) (fun _ _ => rfl)) (pg_sub (pv 4) (pe_op op_add pe_int (pv 10)) set_list))))
  (pss_cons (ps_if (pt_cmpR op_eq (pv 3) pe_int (nomark _))
  (pss_one (ps_set (i := 9) sc_law_stepped.nd rfl (by first | exact Or.inl rfl | exact Or.inr rfl) (My.pe_revLK (K := K) rfl (pv 9))))
  pss_nil)
  (pss_one (ps_ret (pe_tup (pa_cons (C8.pe_mt c_Book_taking hr (by decide) (pe_ix (My.ix_listK (K := K) rfl) (pv 1) pe_int (fun _ _ => rfl)) (pa_cons (pe_ix (My.ix_listK (K := K) rfl) (pv 1) pe_int (fun _ _ => rfl)) (pa_cons (pe_callTy (My.tuple_ofK (K := K) rfl) (by rfl) T.tuple (by decide +kernel) (pa_cons (pe_lc (own := [("k", 10)]) (g := (gName 10)) (tt := tYes) (by rfl) sc_law_stepped.nd (My.pi_listK (K := K) rfl (pv 9)) (blkOk_by (N := N_law_stepped) (sc := defScope s_law_stepped) (by decide +kernel)) (fun _ _ _ _ _ => (pg_name (i := 10) sc_law_stepped.nd rfl (by first | exact Or.inl rfl | exact Or.inr rfl))) (fun _ _ _ _ _ => pts_nil) (fun _ _ _ _ _ => (pe_ix (My.ix_listK (K := K) rfl) (pv 5) (pv 10) (fun _ _ => rfl)))) pa_nil)) pa_nil))) (pa_cons (pv 4) pa_nil))))))))))))), ?_⟩
    have c0 : TwoB K B R b0 b1 l0 l1 d0 d1 rs0 rs1 H := ⟨hB, hR, hb0, hb1, hl0, hl1⟩
    have lt100 : ∀ m : Nat, m ≤ 60000 → m < 2 ^ 100 := fun m h => Nat.lt_of_le_of_lt h (by decide)
    refine ⟨_, rfl, a, n, 4, rfl, hs, lt100 _ (by omega), by decide, by decide, fun H1 way u1 s1 w0 w1 => ?_⟩
    have c1 := c0.draw u1 hs
    refine ⟨_, rfl, R, _, 0, _, rfl, rfl, SqL.of c1.R, atI_nat (j := 0) rfl, ?_⟩
    refine ⟨l0, _, rfl, .inl (SqL.of c1.l0), fun x hx => ?_⟩
    have yx := same_new (o := .lst ((linesS d0 rs0).map V.str)) hx
    have c2 := c1.same yx
    have o2 := c1.off hx
    have nax : a ≠ x := by
      obtain ⟨_, _, _, e, _⟩ := s1
      exact ne_of_none e hx
    have s2 := s1.same yx
    have bHx : H x = none := u1.none (by simpa using nax.symm) hx
    have b2 := u1.trans (But.of yx)
    have hx2 : upd H1 x (.lst ((linesS d0 rs0).map V.str)) x = some (.lst ((linesS d0 rs0).map V.str)) := upd_same
    refine ⟨rfl, fun wl hwl => ?_⟩
    have yw := same_new (o := .lst (moms.map V.str)) hwl
    have c3 := c2.same yw
    have s3 := s2.same yw
    have b3 := b2.trans (But.of yw)
    have hx3 := yw _ _ hx2
    have nwx : wl ≠ x := fun z => by
      subst z
      rw [hx2] at hwl
      cases hwl
    have hw3 : upd (upd H1 x (.lst ((linesS d0 rs0).map V.str))) wl (.lst (moms.map V.str)) wl = some (.lst (moms.map V.str)) := upd_same
    generalize upd (upd H1 x (.lst ((linesS d0 rs0).map V.str))) wl (.lst (moms.map V.str)) = H3 at c3 s3 b3 hx3 hw3
    refine ⟨by show 3 ≤ sizeLine; decide, fun p hp => ?_⟩
    refine ⟨_, _, rfl, SqT.of upd_same, rfl, _, _, rfl, _, _, rfl, _, _, rfl, rfl, ?_⟩
    have yp := same_new (o := .tup [.int way, .ref x, .ref wl]) hp
    have c4 := c3.same yp
    have s4 := s3.same yp
    have b4 := b3.trans (But.of yp)
    have hx4 := yp _ _ hx3
    have hw4 := yp _ _ hw3
    have hmg : ∀ {i : Nat}, i < 8 → moms[i]? = some (moms.getD i Str.empty) := fun {i} h => by
      rw [List.getD_eq_getElem?_getD, List.getElem?_eq_getElem (show i < moms.length from h)]; rfl
    show Ends.nx _ [some (.ref a), some (.ref B), some (.ref R), some (.int way), some (.ref x), some (.ref wl), none, none, none, none, none] (upd H3 p (.tup [.int way, .ref x, .ref wl]))
    generalize upd H3 p (.tup [.int way, .ref x, .ref wl]) = H4 at c4 s4 b4 hx4 hw4
    refine ⟨_, rfl, rfl, _, rfl, L2.ite2 (fun c => ?_) (fun _ => ?_)⟩
    · clear c
      refine ⟨_, rfl, a, n + 1, 8, rfl, s4, lt100 _ (by omega), by decide, by decide, fun H5 spot b5 s5 k0 k1 => ?_⟩
      refine ⟨_, rfl, a, n + 2, rfl, s5, by omega, fun H6 rp r b6 s6 hr6 gr6 => ?_⟩
      refine ⟨_, _, rfl, ?_⟩
      have c6 := (c4.draw b5 s4).draw b6 s5
      have hx6 := rawS b6 s5 (rawS b5 s4 hx4 strs_int) strs_int
      have hw6 := rawS b6 s5 (rawS b5 s4 hw4 strs_int) strs_int
      obtain ⟨i, hi, rfl⟩ : ∃ i : Nat, i < 8 ∧ spot = (i : Int) := ⟨spot.toNat, by omega, by omega⟩
      have hmi : atI (moms.map V.str) (i : Int) = some (.str (moms.getD i Str.empty)) := atI_nat (by rw [List.getElem?_map, hmg hi]; rfl)
      refine ⟨_, rfl, _, rfl, wl, _, _, _, rfl, rfl, SqL.of hw6, hmi, _, rfl, moms.getD i Str.empty, rp, r, rfl, mom_len i, hr6, gr6, fun H7 y7 => ?_⟩
      have c7 := c6.same y7
      have hx7 := y7 _ _ hx6
      have s7 := s6.same y7
      have hr7 := same_tup y7 hr6
      have b7 := (((b4.trans b5).trans b6).trans (But.of y7))
      refine ⟨_, rfl, _, rfl, _, _, rfl, rfl, x, _, _, 1 + i, rfl, rfl, hx7, ixS1 (by rw [List.length_map, linesS_len]; omega), ?_⟩
      rw [← List.map_set, linesS_set hg0.len r hi]
      have c8 := c7.put (ys := (linesS d0 (rs0.set i r)).map V.str) o2 hx7
      have b8 := b7.put (o := .lst <| (linesS d0 (rs0.set i r)).map V.str) (.inl bHx)
      have s8 := s7.put (o := .lst <| (linesS d0 (rs0.set i r)).map V.str) nax
      have hr8 : RuleAt K (upd H7 x (.lst ((linesS d0 (rs0.set i r)).map V.str))) rp r := tupU hx7 hr7
      have hw8 : upd H7 x (.lst ((linesS d0 (rs0.set i r)).map V.str)) wl = _ := (upd_ne nwx).trans (y7 _ _ hw6)
      have hx8 : upd H7 x (.lst ((linesS d0 (rs0.set i r)).map V.str)) x = _ := upd_same
      generalize upd H7 x (.lst ((linesS d0 (rs0.set i r)).map V.str)) = H8 at c8 b8 s8 hr8 hw8 hx8
      obtain ⟨dxb, tb, ab, hb, _⟩ := id c8.b0
      refine ⟨_, rfl, B, _, 0, _, rfl, rfl, SqL.of c8.B, atI_nat (j := 0) rfl, b0, dxb, _, rfl, hb, rfl, ?_⟩
      refine ⟨_, rfl, _, rfl, wl, _, _, _, rfl, rfl, SqL.of hw8, hmi, _, rfl, b0, rp, d0, rs0, moms.getD i Str.empty, i, r, rfl, c8.b0, hmg hi, hr8, gr6, hg0.good, h01, h02, fun H9 z hz y9 hz9 => ?_⟩
      refine ⟨_, rfl, by show 2 ≤ sizeLine; decide, fun t ht => ?_⟩
      have yt := same_new (o := .tup [.ref z, .ref x]) ht
      have y89 := y9.trans yt
      exact q _ t z x d0 (rs0.set i r) (b8.trans (But.of y89)) ((s8.same y89).mono (by omega)) (hz9.same yt) (set_good hg0 gr6) h01 h02 (y89 _ _ hx8) upd_same
    refine ⟨_, rfl, rfl, _, rfl, L2.ite2 (fun c => ?_) (fun _ => ?_)⟩
    · clear c
      refine ⟨_, rfl, a, n + 1, 30, rfl, s4, lt100 _ (by omega), by decide, by decide, fun H5 size b5 s5 k0 k1 => ⟨_, _, rfl, rfl, ?_⟩⟩
      have c5 := c4.draw b5 s4
      have hx5 := rawS b5 s4 hx4 strs_int
      have hd := num_len (p := 1 + size) ⟨by omega, by omega⟩
      refine ⟨_, rfl, _, rfl, num_log ⟨by omega, by omega⟩, _, _, rfl, rfl, cat_ok 5 11 (by decide +kernel) hd, ?_⟩
      refine ⟨_, rfl, x, _, 0, 0, rfl, rfl, hx5, ixS (i := 0) (by rw [List.length_map, linesS_len]; omega), ?_⟩
      have ex : ((linesS d0 rs0).map V.str).set 0 (V.str ("days " ++ Str.ofString (toString (1 + size)))) = (linesS (1 + size) rs0).map V.str := rfl
      rw [ex]
      have b5' := b4.trans b5
      have c8 := c5.put (ys := (linesS (1 + size) rs0).map V.str) o2 hx5
      have b8 := b5'.put (o := .lst <| (linesS (1 + size) rs0).map V.str) (.inl bHx)
      have s8 := s5.put (o := .lst <| (linesS (1 + size) rs0).map V.str) nax
      have hx8 : upd H5 x (.lst ((linesS (1 + size) rs0).map V.str)) x = _ := upd_same
      generalize upd H5 x (.lst ((linesS (1 + size) rs0).map V.str)) = H8 at c8 b8 s8 hx8
      obtain ⟨dxb, tb, ab, hb, _⟩ := id c8.b0
      refine ⟨_, rfl, B, _, 0, _, rfl, rfl, SqL.of c8.B, atI_nat (j := 0) rfl, b0, dxb, _, rfl, hb, rfl, ?_⟩
      refine ⟨_, rfl, b0, d0, 1 + size, rs0, rfl, c8.b0, hg0, by omega, by omega, fun H9 z hz y9 hz9 => ?_⟩
      refine ⟨_, rfl, by show 2 ≤ sizeLine; decide, fun t ht => ?_⟩
      have yt := same_new (o := .tup [.ref z, .ref x]) ht
      have y89 := y9.trans yt
      exact q _ t z x (1 + size) rs0 (b8.trans (But.of y89)) ((s8.same y89).mono (by omega)) (hz9.same yt) hg0 (by omega) (by omega) (y89 _ _ hx8) upd_same
    refine ⟨8, rfl, by decide, by decide, fun D hD => ?_⟩
    have yD := same_new (o := .lst []) hD
    have c5 := c4.same yD
    have o5 := c4.off hD
    have naD : a ≠ D := by
      obtain ⟨_, _, _, e, _⟩ := s4
      exact ne_of_none e hD
    have nxD : x ≠ D := ne_of_none hx4 hD
    have nwD : wl ≠ D := ne_of_none hw4 hD
    have bHD : H D = none := b4.none (by simpa using naD.symm) hD
    refine lc_range (lo := 0) (n := (8 : Int).toNat) (fun i H' => ∃ ks : List Nat, TwoB K B R b0 b1 l0 l1 d0 d1 rs0 rs1 H' ∧ But [a] H H' ∧ SpringAt H' a (n + 1 + i) ∧ H' x = some (.lst ((linesS d0 rs0).map V.str)) ∧ H' wl = some (.lst (moms.map V.str)) ∧ H' D = some (.lst (ks.map fun (k : Nat) => V.int (k : Int))) ∧ ks.Nodup ∧ ks.length ≤ i ∧ ∀ k ∈ ks, k < i)
      ⟨[], c5, b4.trans (But.of yD), s4.same yD, yD _ _ hx4, yD _ _ hw4, upd_same, List.nodup_nil, Nat.le_refl _, fun _ z => (by cases z)⟩ ?_ ?_
    · rintro i H5 hi ⟨ks, c, b, s, hx5, hw5, hD5, nd, ln, lt⟩
      have hi8 : i < 8 := hi
      refine ⟨rfl, ?_⟩
      refine ⟨_, rfl, a, n + 1 + i, 3, rfl, s, lt100 _ (by omega), by decide, by decide, fun H6 kk b6 s6 k0 k1 => ⟨rfl, _, rfl, L2.ite2 (fun _ => ?_) (fun _ => ?_)⟩⟩
      · have hD6 := b6 _ _ (by simpa using naD.symm) hD5
        refine ⟨_, rfl, _, hD6, by rw [List.length_map]; exact lt_line (by omega), ks ++ [i], (c.draw b6 s).put o5 hD6, (b.trans b6).put (.inl bHD), s6.put naD, (upd_ne nxD).trans (rawS b6 s hx5 strs_int), (upd_ne nwD).trans (rawS b6 s hw5 strs_int), ?_, ?_, ?_, ?_⟩
        · rw [upd_same, List.map_append]
          have e0 : (0 : Int) + (i : Int) = (i : Int) := by omega
          rw [e0]
          rfl
        · refine List.nodup_append.mpr ⟨nd, by simp, fun x hx y hy => ?_⟩
          rw [List.mem_singleton.mp hy]
          exact Nat.ne_of_lt (lt x hx)
        · rw [List.length_append]
          exact Nat.succ_le_succ ln
        · intro k hk
          rcases List.mem_append.mp hk with z | z
          · exact Nat.lt_succ_of_lt (lt k z)
          · rw [List.mem_singleton.mp z]
            exact Nat.lt_succ_self _
      · exact ⟨ks, c.draw b6 s, b.trans b6, s6, rawS b6 s hx5 strs_int, rawS b6 s hw5 strs_int, b6 _ _ (by simpa using naD.symm) hD5, nd, Nat.le_succ_of_le ln, fun k hk => Nat.lt_succ_of_lt (lt k hk)⟩
    rintro H5 ⟨ks, c, b, s, hx5, hw5, hD5, nd, ln, lt⟩
    have lt8 : ∀ k ∈ ks, k < 8 := lt
    have ln8 : ks.length ≤ 8 := ln
    have s5 : SpringAt H5 a (n + 9) := s.mono (by show n + 1 + 8 ≤ n + 9; omega)
    have rest : ∀ (H6 : Hp) (E : Addr) (zs : List Nat) (o10 : Option V), TwoB K B R b0 b1 l0 l1 d0 d1 rs0 rs1 H6 → But [a] H H6 → SpringAt H6 a (n + 9) → H6 x = some (.lst ((linesS d0 (tk zs rs0 rs1)).map V.str)) → H6 wl = some (.lst (moms.map V.str)) → H6 E = some (.lst (zs.map fun (k : Nat) => V.int (k : Int))) → zs.Nodup → zs.length ≤ 8 → (∀ k ∈ zs, k < 8) →
        tRet
                    (tTup
                      (tCons
                        (tMeth (He.ga K (Str.ofString "Book")) (Str.ofString "taking") (sp_Book_taking K) [] C8.E0
                          (tOp (rIxL K) (tVar 1) (tC (V.int 0)))
                          (tCons (tOp (rIxL K) (tVar 1) (tC (V.int 1)))
                            (tCons
                              (tCB (rTupleOf K)
                                (tCons
                                  (tLc (iList K (tVar 9)) (gName 10) tYes (tOp (rIxL K) (tVar 5) (tVar 10))
                                    (List.map (fun x => x.snd) [(Str.ofString "k", 10)]))
                                  tNil))
                              tNil)))
                        (tCons (tVar 4) tNil))) { nx := fun x H' => Q V.non H', rt := Q } [some (.ref a), some (.ref B), some (.ref R), some (.int way), some (.ref x), some (.ref wl), none, none, none, some (.ref E), o10] H6 := by
      intro H6 E zs o10 c6 b6 s6 hx6 hw6 hE6 nd6 ln6 lt6
      obtain ⟨dxb, tb, ab, hb, _⟩ := id c6.b0
      refine ⟨_, rfl, B, _, 0, _, rfl, rfl, SqL.of c6.B, atI_nat (j := 0) rfl, b0, dxb, _, rfl, hb, rfl, ?_⟩
      refine ⟨_, rfl, B, _, 1, _, rfl, rfl, SqL.of c6.B, atI_nat (j := 1) rfl, ?_⟩
      refine ⟨_, rfl, E, rfl, ⟨_, SqL.of hE6⟩, fun F hF => ?_⟩
      have yF := same_new (o := .lst []) hF
      have c7 := c6.same yF
      have nEF : E ≠ F := ne_of_none hE6 hF
      have nwF : wl ≠ F := ne_of_none hw6 hF
      refine lc_list (K := K) (a := E) (xs := zs.map fun (k : Nat) => V.int (k : Int)) (fun i H' => Same H6 H' ∧ H' F = some (.lst (((zs.take i).map fun k => moms.getD k Str.empty).map V.str))) ⟨yF, upd_same⟩ (fun i H' _ z => SqL.of (z.1 _ _ hE6)) ?_ ?_
      · rintro i y H7 hi ⟨y7, hF7⟩
        rw [List.getElem?_map] at hi
        obtain ⟨k, hk, rfl⟩ := Option.map_eq_some_iff.mp hi
        have k8 := lt6 k (List.mem_of_getElem? hk)
        refine ⟨rfl, ?_⟩
        refine ⟨_, rfl, _, rfl, wl, _, _, _, rfl, rfl, SqL.of (y7 _ _ hw6), atI_nat (by rw [List.getElem?_map, hmg k8]; rfl), ?_⟩
        refine ⟨_, hF7, by rw [List.length_map, List.length_map, List.length_take]; exact lt_line (by omega), same_upd y7 hF, ?_⟩
        rw [upd_same, take_more hk, List.map_append, List.map_append]
        rfl
      rintro H7 ⟨y7, hF7⟩
      rw [List.length_map, List.take_length] at hF7
      refine ⟨F, _, rfl, .inl ⟨SqL.of hF7, fun G hG => ?_⟩⟩
      have yG := same_new (o := .tup ((zs.map fun k => moms.getD k Str.empty).map V.str)) hG
      have c8 := (c6.same y7).same yG
      have hG8 : SqT K (upd H7 G (.tup ((zs.map fun k => moms.getD k Str.empty).map V.str))) G ((zs.map fun k => moms.getD k Str.empty).map V.str) := SqT.of upd_same
      refine ⟨b0, b1, G, d0, d1, rs0, rs1, zs.map fun k => moms.getD k Str.empty, rfl, c8.b0, c8.b1, hg0, hg1, hG8, nodup_mom nd6 lt6, by rw [List.length_map]; omega, fun z hz => ?_, h01, h02, fun H9 p hp y9 hp9 => ?_⟩
      · obtain ⟨k, hk, rfl⟩ := List.mem_map.mp hz
        exact List.mem_of_getElem? (hmg (lt6 k hk))
      rw [tk_take lt6] at hp9
      refine ⟨_, rfl, by show 2 ≤ sizeLine; decide, fun t ht => ?_⟩
      have yt := same_new (o := .tup [.ref p, .ref x]) ht
      have y6t := ((y7.trans yG).trans y9).trans yt
      exact q _ t p x d0 (tk zs rs0 rs1) (b6.trans (But.of y6t)) ((s6.same y6t).mono (by omega)) (hp9.same yt) (tk_good hg0 hg1) h01 h02 (y6t _ _ hx6) upd_same
    refine ⟨_, rfl, D, rfl, ⟨_, SqL.of hD5⟩, ?_⟩
    refine for_list (K := K) (a := D) (xs := ks.map fun (k : Nat) => V.int (k : Int)) (fun i σ H' => ∃ o10, σ = [some (.ref a), some (.ref B), some (.ref R), some (.int way), some (.ref x), some (.ref wl), none, none, none, some (.ref D), o10] ∧ TwoB K B R b0 b1 l0 l1 d0 d1 rs0 rs1 H' ∧ But [a] H H' ∧ SpringAt H' a (n + 9) ∧ H' x = some (.lst ((linesS d0 (tk (ks.take i) rs0 rs1)).map V.str)) ∧ H' wl = some (.lst (moms.map V.str)) ∧ H' D = some (.lst (ks.map fun (k : Nat) => V.int (k : Int))))
      ⟨_, rfl, c, b, s5, by rw [List.take_zero, tk_nil hg0]; exact hx5, hw5, hD5⟩ (fun i σ H' _ ⟨_, _, _, _, _, _, _, z⟩ => SqL.of z) ?_ ?_
    · rintro i y σ H6 hi ⟨o10, rfl, c6, b6, s6, hx6, hw6, hD6⟩
      rw [List.getElem?_map] at hi
      obtain ⟨k, hk, rfl⟩ := Option.map_eq_some_iff.mp hi
      have k8 := lt8 k (List.mem_of_getElem? hk)
      refine ⟨_, rfl, R, _, 1, _, rfl, rfl, SqL.of c6.R, atI_nat (j := 1) rfl, _, rfl, _, _, rfl, rfl, l1, _, _, _, rfl, rfl, SqL.of c6.l1, linesS_at k8, ?_⟩
      refine ⟨_, rfl, _, rfl, _, _, rfl, rfl, x, _, _, 1 + k, rfl, rfl, hx6, ixS1 (by rw [List.length_map, linesS_len]; omega), ?_⟩
      rw [← List.map_set, linesS_set (tk_good hg0 hg1).len _ k8, tk_more k8]
      refine ⟨_, rfl, c6.put o2 hx6, b6.put (.inl bHx), s6.put nax, ?_, (upd_ne nwx).trans hw6, (upd_ne (fun z => nxD z.symm)).trans hD6⟩
      rw [upd_same, take_more hk]
    rintro σ H6 ⟨o10, rfl, c6, b6, s6, hx6, hw6, hD6⟩
    rw [List.length_map, List.take_length] at hx6
    refine ⟨_, rfl, rfl, _, rfl, L2.ite2 (fun _ => ?_) (fun _ => ?_)⟩
    · refine ⟨_, rfl, D, _, rfl, SqL.of hD6, fun E hE => ?_⟩
      rw [← List.map_reverse]
      have yE := same_new (o := .lst (ks.reverse.map fun (k : Nat) => V.int (k : Int))) hE
      exact rest _ E ks.reverse o10 (c6.same yE) (b6.trans (But.of yE)) (s6.same yE) (by rw [tk_rev]; exact yE _ _ hx6) (yE _ _ hw6) upd_same (List.pairwise_reverse.mpr (nd.imp fun z => z.symm)) (by rw [List.length_reverse]; exact ln8) (fun k hk => lt8 k (List.mem_reverse.mp hk))
    exact rest _ D ks o10 c6 b6 s6 hx6 hw6 hD6 nd ln8 lt8
theorem c_law_stepped (T : Txt K mg) : C8.Cal P w K mg base 6 "_law_stepped" (sp_law_stepped K) [] := by
  obtain ⟨fd, F⟩ := T.f_law_stepped
  exact ⟨_, fd, _, _, ok_law_stepped T F, T.g_law_stepped, F.kp, F.bindsN (fun _ _ _ _ _ _ us hl => match us, hl with | [_, _, _], _ => rfl), .nil⟩
end
end K16

namespace K16
open PySem PySem.Spec PyProof.Rows L2 My StX
section
variable {P : Program} {w : World} {K : PySem.W.Frag} {mg : Str → Option Value} {base : Heap}
def sp_law_right (K : PySem.W.Frag) : Sp := fun vs H Q _ => ∃ (a : Addr) (n : Nat), vs = [.ref a] ∧ SpringAt H a n ∧ n ≤ 10 ∧ ∀ H', But [a] H H' → Q (.bl true) H'
set_option maxHeartbeats 2000000 in
theorem ok_law_right (T : Txt K mg) {fd : FuncData} (F : FunD K d_law_right.name d_law_right.qual d_law_right.params d_law_right.body d_law_right.scope (d_law_right.dvs K) (d_law_right.kws K) (He.fAd K d_law_right.at_) fd) : FnOk P w K mg base C8.CX0 7 (He.fAd K d_law_right.at_) fd ["pot"] (sp_law_right K) := by
  have c_law_alike := c_law_alike (P := P) (w := w) (base := base) T
  have c_book_text := c_book_text (P := P) (w := w) (base := base) T
  have c_law_dip := c_law_dip (P := P) (w := w) (base := base) T
  have c_read_book := c_read_book (P := P) (w := w) (base := base) T
  have c_law_stepped := c_law_stepped (P := P) (w := w) (base := base) T
  have c_law_lines := c_law_lines (P := P) (w := w) (base := base) T
  have c_law_plan := c_law_plan (P := P) (w := w) (base := base) T
  refine F.ok sc_law_right (fun vs H Q E h => ?_) (fun cdv A outer s H vs Q E hr h => ?_)
  · obtain ⟨a, n, rfl, _⟩ := h
    rfl
  · have hu := L2.hu_of hr
    obtain ⟨a, n, rfl, hs, hn, q⟩ := h
    refine ⟨_, (PSs.nox ((pss_cons (ps_set (i := 1) sc_law_right.nd rfl (by first | exact Or.inl rfl | exact Or.inr rfl) (pe_lst (pa_cons (C8.pe_c c_law_lines hr (by decide) rfl (pa_cons (C8.pe_c c_law_plan hr (by decide) rfl (pa_cons (pv 0) pa_nil)) pa_nil)) (pa_cons (C8.pe_c c_law_lines hr (by decide) rfl (pa_cons (C8.pe_c c_law_plan hr (by decide) rfl (pa_cons (pv 0) pa_nil)) pa_nil)) pa_nil))))
  (pss_cons (ps_setLc (i := 2) (own := [("lines", 3)]) (g := (gName 3)) (tt := tYes) (by rfl) sc_law_right.nd rfl rfl (sw_true rfl rfl rfl (by decide +kernel)) (My.pi_listK (K := K) rfl (pv 1)) (blkOk_by (N := N_law_right) (sc := defScope s_law_right) (by decide +kernel)) (fun _ _ _ _ _ => (pg_name (i := 3) sc_law_right.nd rfl (by first | exact Or.inl rfl | exact Or.inr rfl))) (fun _ _ _ _ _ => pts_nil) (fun _ _ _ _ _ => (C8.pe_c c_read_book hr (by decide) rfl (pa_cons (My.pe_joinK (K := K) rfl pe_str (pv 3)) pa_nil))))
  (pss_cons (ps_for PassesOwn.never rfl (pi_range1 (by rfl) T.range (pa_cons (pe_op op_add pe_int (C8.pe_c c_law_dip hr (by decide) rfl (pa_cons (pv 0) (pa_cons pe_int pa_nil)))) pa_nil)) (pg_name (i := 4) sc_law_right.nd rfl (by first | exact Or.inl rfl | exact Or.inr rfl))
  (pss_cons (ps_asg (C8.pe_c c_law_stepped hr (by decide) rfl (pa_cons (pv 0) (pa_cons (pv 2) (pa_cons (pv 1) pa_nil)))) (My.pg_tupK (K := K) (n := 2) rfl rfl (pgs_cons (pg_name (i := 5) sc_law_right.nd rfl (by first | exact Or.inl rfl | exact Or.inr rfl)) (pgs_cons (pg_name (i := 3) sc_law_right.nd rfl (by first | exact Or.inl rfl | exact Or.inr rfl)) pgs_nil))))
  (pss_cons (ps_set (i := 6) sc_law_right.nd rfl (by first | exact Or.inl rfl | exact Or.inr rfl) (My.pe_joinK (K := K) rfl pe_str (pv 3)))
  (pss_cons (ps_if (PW.pt (pw_or (pt_cmpR op_ne (C8.pe_c c_book_text hr (by decide) rfl (pa_cons (pv 5) pa_nil)) (pv 6) (nomark _)) (pw_or1 (pt_not (pt_val (C8.pe_c c_law_alike hr (by decide) rfl (pa_cons (pe_cmpR (My.op_eqIns (c_Book_eq (P := P) (w := w) (base := base) T) hr (by decide)) (C8.pe_c c_read_book hr (by decide) rfl (pa_cons (pv 6) pa_nil)) (pv 5) (nomark _)) (pa_cons pe_bl pa_nil))))))))
  (pss_one (ps_ret pe_bl))
  pss_nil)
  (pss_cons (ps_if (PW.pt (pw_or (pt_cmpR op_ne (C8.pe_c c_book_text hr (by decide) rfl (pa_cons (pe_ix (My.ix_listK (K := K) rfl) (pv 2) pe_int (fun _ _ => rfl)) pa_nil)) (My.pe_joinK (K := K) rfl pe_str (pe_ix (My.ix_listK (K := K) rfl) (pv 1) pe_int (fun _ _ => rfl))) (nomark _)) (pw_or1 (pt_cmpR op_ne (C8.pe_c c_book_text hr (by decide) rfl (pa_cons (pe_ix (My.ix_listK (K := K) rfl) (pv 2) pe_int (fun _ _ => rfl)) pa_nil)) (My.pe_joinK (K := K) rfl pe_str (pe_ix (My.ix_listK (K := K) rfl) (pv 1) pe_int (fun _ _ => rfl))) (nomark _)))))
  (pss_one (ps_ret pe_bl))
  pss_nil)
  (pss_cons (ps_par (i := 2) (j := 1) (by rfl) sc_law_right.nd rfl rfl (by decide) rfl rfl (pa_cons (pe_lst (pa_cons (pv 5) (pa_cons (pe_ix (My.ix_listK (K := K) rfl) (pv 2) pe_int (fun _ _ => rfl)) pa_nil))) (pa_cons (pe_lst (pa_cons (pv 3) (pa_cons (pe_ix (My.ix_listK (K := K) rfl) (pv 1) pe_int (fun _ _ => rfl)) pa_nil))) pa_nil)) (by rfl))
  (pss_one (ps_if (pt_cmpR op_eq (C8.pe_c c_law_dip hr (by decide) rfl (pa_cons (pv 0) (pa_cons pe_int pa_nil))) pe_int (nomark _))
  (pss_one (ps_par (i := 2) (j := 1) (by rfl) sc_law_right.nd rfl rfl (by decide) rfl rfl (pa_cons (My.pe_revLK (K := K) rfl (pv 2)) (pa_cons (My.pe_revLK (K := K) rfl (pv 1)) pa_nil)) (by rfl)))
  pss_nil))))))))
  (pss_one (ps_ret (C8.pe_c c_law_alike hr (by decide) rfl (pa_cons (C8.pe_c c_book_text hr (by decide) rfl (pa_cons (pe_ix (My.ix_listK (K := K) rfl) (pv 2) pe_int (fun _ _ => rfl)) pa_nil)) (pa_cons (My.pe_joinK (K := K) rfl pe_str (pe_ix (My.ix_listK (K := K) rfl) (pv 1) pe_int (fun _ _ => rfl))) pa_nil)))))))))), ?_⟩
    have lt100 : ∀ m : Nat, m ≤ 60000 → m < 2 ^ 100 := fun m h => Nat.lt_of_le_of_lt h (by decide)
    refine ⟨_, rfl, a, n, rfl, hs, by omega, fun H1 p0 d0 rs0 b1 s1 hp0 hg0 h01 h02 => ?_⟩
    refine ⟨p0, d0, rs0, rfl, hp0, hg0, h01, h02, fun H2 l0 y2 hl0 => ?_⟩
    have s2 := s1.same y2
    refine ⟨_, rfl, a, _, rfl, s2, by omega, fun H3 p1 d1 rs1 b3 s3 hp1 hg1 h11 h12 => ?_⟩
    refine ⟨p1, d1, rs1, rfl, hp1, hg1, h11, h12, fun H4 l1 y4 hl1 => ?_⟩
    have s4 := s3.same y4
    have hl04 := y4 _ _ (rawS b3 s2 hl0 strs_int)
    have b4 := ((b1.trans (But.of y2)).trans b3).trans (But.of y4)
    refine ⟨by show 2 ≤ sizeLine; decide, fun R hR => ?_⟩
    have yR := same_new (o := .lst [V.ref l0, .ref l1]) hR
    have hl05 := yR _ _ hl04
    have hl15 := yR _ _ hl1
    have s5 := s4.same yR
    have b5 := b4.trans (But.of yR)
    have hR5 : upd H4 R (.lst [V.ref l0, .ref l1]) R = some (.lst [V.ref l0, .ref l1]) := upd_same
    show Ends.nx _ [some (.ref a), some (.ref R), none, none, none, none, none] (upd H4 R (.lst [V.ref l0, .ref l1]))
    generalize upd H4 R (.lst [V.ref l0, .ref l1]) = H5 at hl05 hl15 s5 b5 hR5
    refine ⟨_, rfl, R, rfl, ⟨_, SqL.of hR5⟩, fun B hB => ?_⟩
    have yB := same_new (o := .lst []) hB
    refine lc_list (K := K) (a := R) (xs := [V.ref l0, .ref l1]) (fun i H' => ∃ bs : List Addr, Same H5 H' ∧ H' B = some (.lst (bs.map V.ref)) ∧ Paired (fun b (x : Int × List RuleL) => BookAt K H' b x.1 x.2) bs ([(d0, rs0), (d1, rs1)].take i))
      ⟨[], yB, upd_same, .nil⟩ (fun i H' _ z => SqL.of (z.choose_spec.1 _ _ hR5)) ?_ ?_
    · rintro i y H6 hi ⟨bs, y6, hB6, hbs⟩
      have st : ∀ (l : Addr) (d : Int) (rs : List RuleL), y = .ref l → H5 l = some (.lst ((linesS d rs).map V.str)) → GoodB rs → 1 ≤ d → d ≤ 30 → ([(d0, rs0), (d1, rs1)] : List (Int × List RuleL))[i]? = some (d, rs) →
          tCall (sp_read_book K) [] C8.E0 (tCons (tM1 (rJoin K) (tC (V.str (Str.ofString "\n"))) (tVar 3)) tNil) [some (.ref a), some (.ref R), none, some y, none, none, none] H6 fun y H7 => ∃ acc, H7 B = some (.lst acc) ∧ acc.length < sizeLine ∧ ∃ bs : List Addr, Same H5 (upd H7 B (.lst (acc ++ [y]))) ∧ upd H7 B (.lst (acc ++ [y])) B = some (.lst (bs.map V.ref)) ∧ Paired (fun b (x : Int × List RuleL) => BookAt K (upd H7 B (.lst (acc ++ [y]))) b x.1 x.2) bs ([(d0, rs0), (d1, rs1)].take (i + 1)) := by
        intro l d rs ey hl hg h1 h2 hx
        subst ey
        have hi2 : i < 2 := (List.getElem?_eq_some_iff.mp hx).1
        refine ⟨⟨_, rfl⟩, _, rfl, "\n", l, linesS d rs, rfl, rfl, .inl (SqL.of (y6 _ _ hl)), book_pre hg h1 h2, ?_⟩
        refine ⟨d, rs, rfl, hg, h1, h2, fun H7 b hb y7 hb7 => ?_⟩
        have hB7 := y7 _ _ hB6
        refine ⟨_, hB7, ?_, bs ++ [b], same_upd (y6.trans y7) hB, by rw [upd_same, List.map_append]; rfl, ?_⟩
        · rw [List.length_map, hbs.length, List.length_take]
          exact lt_line (by omega)
        · rw [take_more hx]
          exact paired_app (paired_map (fun _ _ _ x => (x.same y7).putL hB7) hbs) (.cons (hb7.putL hB7) .nil)
      refine ⟨rfl, ?_⟩
      match i, hi with
      | 0, hi =>
        cases hi
        exact st l0 d0 rs0 rfl hl05 hg0 h01 h02 rfl
      | 1, hi =>
        cases hi
        exact st l1 d1 rs1 rfl hl15 hg1 h11 h12 rfl
    rintro H6 ⟨bs, y6, hB6, hbs⟩
    obtain ⟨k0, k1, rfl⟩ : ∃ x y, bs = [x, y] := by
      match bs, hbs with
      | [x, y], _ => exact ⟨x, y, rfl⟩
    have hb0 : BookAt K H6 k0 d0 rs0 := by
      cases hbs with
      | cons r t => exact r
    have hb1 : BookAt K H6 k1 d1 rs1 := by
      cases hbs with
      | cons r t => cases t with
        | cons r t => exact r
    have c6 : TwoB K B R k0 k1 l0 l1 d0 d1 rs0 rs1 H6 := ⟨hB6, y6 _ _ hR5, hb0, hb1, y6 _ _ hl05, y6 _ _ hl15⟩
    have s6 := s5.same y6
    have b6 := b5.trans (But.of y6)
    refine ⟨_, rfl, a, _, 8, rfl, s6, lt100 _ (by omega), by decide, by decide, fun H7 k b7 s7 e0 e1 => ⟨_, _, rfl, rfl, 1 + k, rfl, by omega, by omega, ?_⟩⟩
    refine for_range (n := (1 + k).toNat) (fun i σ H' => ∃ (B R k0 k1 l0 l1 : Addr) (d0 d1 : Int) (rs0 rs1 : List RuleL) (o3 o4 o5 o6 : Option V), σ = [some (.ref a), some (.ref R), some (.ref B), o3, o4, o5, o6] ∧ TwoB K B R k0 k1 l0 l1 d0 d1 rs0 rs1 H' ∧ GoodB rs0 ∧ 1 ≤ d0 ∧ d0 ≤ 30 ∧ GoodB rs1 ∧ 1 ≤ d1 ∧ d1 ≤ 30 ∧ But [a] H H' ∧ SpringAt H' a (n + 121 + 21 * i))
      ⟨B, R, k0, k1, l0, l1, d0, d1, rs0, rs1, _, _, _, _, rfl, c6.draw b7 s6, hg0, h01, h02, hg1, h11, h12, b6.trans b7, s7.mono (by omega)⟩ ?_ ?_
    · clear c6 hb0 hb1 hbs hB6 hg0 hg1 h01 h02 h11 h12
      rintro i σ H8 hi ⟨B, R, k0, k1, l0, l1, d0, d1, rs0, rs1, o3, o4, o5, o6, rfl, c, hg0, h01, h02, hg1, h11, h12, b8, s8⟩
      have hi9 : i < 9 := by omega
      refine ⟨_, rfl, _, rfl, _, rfl, a, B, R, k0, k1, l0, l1, _, d0, d1, rs0, rs1, rfl, s8, by omega, c.B, c.R, c.b0, hg0, h01, h02, c.b1, hg1, h11, h12, c.l0, c.l1, fun H9 t b l d rs b9 s9 hb hg h1 h2 hl ht => ?_⟩
      refine ⟨_, _, rfl, SqT.of ht, rfl, _, _, rfl, _, _, rfl, rfl, ?_⟩
      have c9 := c.draw b9 s8
      have b09 := b8.trans b9
      refine ⟨⟨_, rfl⟩, _, rfl, "\n", l, linesS d rs, rfl, rfl, .inl (SqL.of hl), book_pre hg h1 h2, ?_⟩
      refine ⟨_, rfl, b, d, rs, rfl, hb, hg, h1, h2, fun H10 y10 => ⟨_, rfl, rfl, _, rfl, ?_⟩⟩
      have tr : ∀ (d : Int) (rs : List RuleL), (!decide (V.str (bookS d rs) = V.str (Txt.join "\n" (linesS d rs)))) = false := fun d rs => by rw [decide_eq_true (show V.str (bookS d rs) = V.str (Txt.join "\n" (linesS d rs)) from rfl)]; rfl
      rw [tr]
      have hb10 := hb.same y10
      refine ⟨_, rfl, d, rs, rfl, hg, h1, h2, fun H11 z hz y11 hz11 => ?_⟩
      have hb11 := hb10.same y11
      obtain ⟨dx, _, _, hx, _⟩ := id hb11
      obtain ⟨dz, _, _, hzx, _⟩ := id hz11
      refine ⟨_, rfl, ⟨z, b, dz, dx, _, _, rfl, rfl, hzx, hx, d, rs, hz11, hb11, hg⟩, fun H12 e12 => ?_⟩
      refine ⟨_, _, .bool true, rfl, .bl true, .bl true, trivial, fun H13 y13 => ⟨true, rfl, ?_⟩⟩
      have y := ((y10.trans y11).trans (show Same H11 H12 from e12)).trans y13
      have c13 := c9.same y
      have hb13 := hb.same y
      have hl13 := y _ _ hl
      have s13 := s9.same y
      refine ⟨_, rfl, B, _, 0, _, rfl, rfl, SqL.of c13.B, atI_nat (j := 0) rfl, k0, d0, rs0, rfl, c13.b0, hg0, h01, h02, fun H14 y14 => ?_⟩
      have c14 := c13.same y14
      refine ⟨⟨_, rfl⟩, _, rfl, R, _, 0, _, rfl, rfl, SqL.of c14.R, atI_nat (j := 0) rfl, "\n", l0, linesS d0 rs0, rfl, rfl, .inl (SqL.of c14.l0), book_pre hg0 h01 h02, rfl, _, rfl, ?_⟩
      rw [tr]
      refine ⟨_, rfl, B, _, 1, _, rfl, rfl, SqL.of c14.B, atI_nat (j := 1) rfl, k1, d1, rs1, rfl, c14.b1, hg1, h11, h12, fun H15 y15 => ?_⟩
      have c15 := c14.same y15
      refine ⟨⟨_, rfl⟩, _, rfl, R, _, 1, _, rfl, rfl, SqL.of c15.R, atI_nat (j := 1) rfl, "\n", l1, linesS d1 rs1, rfl, rfl, .inl (SqL.of c15.l1), book_pre hg1 h11 h12, rfl, _, rfl, ?_⟩
      rw [tr]
      refine ⟨_, rfl, _, rfl, B, _, 1, _, rfl, rfl, SqL.of c15.B, atI_nat (j := 1) rfl, by show 2 ≤ sizeLine; decide, fun N1 hN1 => ?_⟩
      have n1 := same_new (o := .lst [V.ref b, .ref k1]) hN1
      refine ⟨_, rfl, _, rfl, R, _, 1, _, rfl, rfl, SqL.of (n1 _ _ c15.R), atI_nat (j := 1) rfl, by show 2 ≤ sizeLine; decide, fun N2 hN2 => ⟨_, _, rfl, ?_⟩⟩
      have n2 := same_new (o := .lst [V.ref l, .ref l1]) hN2
      have y1315 := y14.trans y15
      have y1516 := n1.trans n2
      have y16 := y1315.trans y1516
      have c16 : TwoB K N1 N2 b k1 l l1 d d1 rs rs1 (upd (upd H15 N1 (.lst [V.ref b, .ref k1])) N2 (.lst [V.ref l, .ref l1])) := ⟨n2 _ _ upd_same, upd_same, hb13.same y16, c15.b1.same y1516, y16 _ _ hl13, y1516 _ _ c15.l1⟩
      have s16 := s13.same y16
      have b16 := b09.trans (But.of (y.trans y16))
      show Ends.nx _ _ (upd (upd H15 N1 (.lst [V.ref b, .ref k1])) N2 (.lst [V.ref l, .ref l1]))
      generalize upd (upd H15 N1 (.lst [V.ref b, .ref k1])) N2 (.lst [V.ref l, .ref l1]) = H16 at c16 s16 b16
      refine ⟨_, rfl, a, _, 3, rfl, s16, lt100 _ (by omega), by decide, by decide, fun H17 kk b17 s17 j0 j1 => ⟨rfl, _, rfl, L2.ite2 (fun _ => ?_) (fun _ => ?_)⟩⟩
      · have c17 := c16.draw b17 s16
        refine ⟨_, rfl, N1, _, rfl, SqL.of c17.B, fun M1 hM1 => ?_⟩
        have m1 := same_new (o := .lst ([V.ref b, .ref k1].reverse)) hM1
        refine ⟨_, rfl, N2, _, rfl, SqL.of (m1 _ _ c17.R), fun M2 hM2 => ⟨_, _, rfl, ?_⟩⟩
        have m2 := same_new (o := .lst ([V.ref l, .ref l1].reverse)) hM2
        have m := m1.trans m2
        exact ⟨M1, M2, k1, b, l1, l, d1, d, rs1, rs, _, _, _, _, rfl, ⟨m2 _ _ upd_same, upd_same, c17.b1.same m, c17.b0.same m, m _ _ c17.l1, m _ _ c17.l0⟩, hg1, h11, h12, hg, h1, h2, (b16.trans b17).trans (But.of m), (s17.same m).mono (by omega)⟩
      · exact ⟨N1, N2, b, k1, l, l1, d, d1, rs, rs1, _, _, _, _, rfl, c16.draw b17 s16, hg, h1, h2, hg1, h11, h12, b16.trans b17, s17.mono (by omega)⟩
    rintro σ H8 ⟨B, R, k0, k1, l0, l1, d0, d1, rs0, rs1, o3, o4, o5, o6, rfl, c, hg0, h01, h02, hg1, h11, h12, b8, s8⟩
    refine ⟨_, rfl, B, _, 1, _, rfl, rfl, SqL.of c.B, atI_nat (j := 1) rfl, k1, d1, rs1, rfl, c.b1, hg1, h11, h12, fun H9 y9 => ?_⟩
    have c9 := c.same y9
    refine ⟨⟨_, rfl⟩, _, rfl, R, _, 1, _, rfl, rfl, SqL.of c9.R, atI_nat (j := 1) rfl, "\n", l1, linesS d1 rs1, rfl, rfl, .inl (SqL.of c9.l1), book_pre hg1 h11 h12, ?_⟩
    refine ⟨_, _, .str (bookS d1 rs1), rfl, .str _, .str _, trivial, fun H10 y10 => ?_⟩
    exact q _ (b8.trans (But.of (y9.trans y10)))
theorem c_law_right (T : Txt K mg) : C8.Cal P w K mg base 7 "_law_right" (sp_law_right K) [] := by
  obtain ⟨fd, F⟩ := T.f_law_right
  exact ⟨_, fd, _, _, ok_law_right T F, T.g_law_right, F.kp, F.bindsN (fun _ _ _ _ _ _ us hl => match us, hl with | [_], _ => rfl), .nil⟩
def sp_law (K : PySem.W.Frag) : Sp := fun vs H Q _ => ∃ (a : Addr) (ns : List Int), vs = [.ref a] ∧ SqL K H a (ns.map V.int) ∧ ns.length ≤ 63 ∧ ∀ H', Q (.bl true) H'
set_option maxHeartbeats 2000000 in
theorem ok_law (T : Txt K mg) {fd : FuncData} (F : FunD K d_law.name d_law.qual d_law.params d_law.body d_law.scope (d_law.dvs K) (d_law.kws K) (He.fAd K d_law.at_) fd) : FnOk P w K mg base C8.CX0 8 (He.fAd K d_law.at_) fd ["script"] (sp_law K) := by
  have c_law_right := c_law_right (P := P) (w := w) (base := base) T
  have c_law_pot := c_law_pot (P := P) (w := w) (base := base) T
  refine F.ok sc_law (fun vs H Q E h => ?_) (fun cdv A outer s H vs Q E hr h => ?_)
  · obtain ⟨a, ns, rfl, _⟩ := h
    rfl
  · have hu := L2.hu_of hr
    obtain ⟨a, ns, rfl, hS, hl, q⟩ := h
    refine ⟨_, (PSs.nox ((pss_cons (ps_for PassesOwn.never rfl (pi_range1 (by rfl) T.range (pa_cons (pe_callB (call_max2 rfl) (by rfl) T.max (by decide +kernel) (pa_cons pe_int (pa_cons (pe_callB (call_min2 rfl) (by rfl) T.min (by decide +kernel) (pa_cons pe_int (pa_cons (pe_callB (My.len_seqK (K := K) rfl) (by rfl) T.len (by decide +kernel) (pa_cons (pv 0) pa_nil)) pa_nil))) pa_nil))) pa_nil)) (pg_name (i := 1) sc_law.nd rfl (by first | exact Or.inl rfl | exact Or.inr rfl))
  (pss_one (ps_if (pt_not (pt_val (C8.pe_c c_law_right hr (by decide) rfl (pa_cons (C8.pe_c c_law_pot hr (by decide) rfl (pa_cons (pv 0) (pa_cons (pv 1) pa_nil))) pa_nil))))
  (pss_one (ps_ret pe_bl))
  pss_nil)))
  (pss_one (ps_ret pe_bl))))), ?_⟩
    obtain ⟨m, hm, hm1, hm2⟩ : ∃ m : Nat, (if (if (((ns.map V.int).length : Nat) : Int) < 6 then (((ns.map V.int).length : Nat) : Int) else 6) > 1 then (if (((ns.map V.int).length : Nat) : Int) < 6 then (((ns.map V.int).length : Nat) : Int) else 6) else 1) = (m : Int) ∧ 1 ≤ m ∧ m ≤ 6 := by
      rw [List.length_map]
      split <;> split <;> first | exact ⟨ns.length, by omega, by omega, by omega⟩ | exact ⟨1, by omega, by omega, by omega⟩ | exact ⟨6, by omega, by omega, by omega⟩
    refine ⟨_, rfl, a, _, rfl, .inl hS, _, _, rfl, _, _, rfl, (m : Int), (by rw [hm]), by omega, by omega, ?_⟩
    refine for_range (n := (m : Int).toNat) (fun i σ H' => ∃ o, σ = [some (.ref a), o] ∧ Same H H') ⟨_, rfl, Same.refl _⟩ ?_ ?_
    · rintro i σ H2 hi ⟨o, rfl, s2⟩
      refine ⟨_, rfl, _, rfl, a, ns, _, rfl, s2.seq hS, by omega, by omega, fun H3 p hp s3 hsp => ?_⟩
      refine ⟨p, 0, rfl, hsp, by decide, fun H4 b4 => ⟨true, rfl, _, rfl, fun c o e => ?_⟩⟩
      have e2 := s2 _ _ e
      exact b4 _ _ (fun z => by rw [List.mem_singleton.mp z, hp] at e2; cases e2) (s3 _ _ e2)
    · rintro σ H2 ⟨o, rfl, s2⟩
      exact q _
theorem c_law (T : Txt K mg) : C8.Cal P w K mg base 8 "law" (sp_law K) [] := by
  obtain ⟨fd, F⟩ := T.f_law
  exact ⟨_, fd, _, _, ok_law T F, T.g_law, F.kp, F.bindsN (fun _ _ _ _ _ _ us hl => match us, hl with | [_], _ => rfl), .nil⟩
end
end K16

namespace K16
open PySem PySem.Spec PyProof.Rows L2 My
abbrev spLaw (K : PySem.W.Frag) : Sp := sp_law K
theorem law_end {P : Program} {w : World} {K : PySem.W.Frag} {mg : Str → Option Value} {fa : Addr} (T : Txt K mg) (hmg : mg ("law" : Str) = some (.ref fa)) :
    ∃ fd, (∀ (s : Shared) (u : Value), BindsTo s fd ⟨[u], []⟩ [("script", u)]) ∧ ∀ base : Heap, K.In base → base.Ns mainGlobals mg → FnOk P w K mg base L2.CX0 8 fa fd ["script"] (spLaw K) := by
  obtain ⟨fd, F⟩ := T.f_law
  have e : fa = He.fAd K d_law.at_ := by
    have h := T.g_law
    rw [hmg] at h
    exact Value.ref.inj (Option.some.inj h)
  subst e
  exact ⟨fd, fun s u => F.bindsA (ps := ["script"]) (fun _ _ _ _ _ _ us hl => match us, hl with | [_], _ => rfl) s [u] rfl, fun base _ _ => ok_law T F⟩
end K16

open PySem PySem.W PySem.Calls PyProof.Rows in
set_option maxRecDepth 100000 in
set_option maxHeartbeats 0 in
theorem PySem.Challenge.cw_lockerwall_k16_whole_lines_of_books_holds : PySem.Challenge.rw_lockerwall_k16_whole_lines_of_books.Holds := by
  w_on; o_law
  refine HandSHeadRun.head_any (r := OpenLaw.row PySem.Challenge.rw_lockerwall_k16_whole_lines_of_books) (q := view (OpenLaw.row PySem.Challenge.rw_lockerwall_k16_whole_lines_of_books).prog [37]) (H := K16.hk) (ob := K16.ob) (M := 6000) (loose := K16.loose) (d := HandSHeadRun.topDef (OpenLaw.row PySem.Challenge.rw_lockerwall_k16_whole_lines_of_books).prog 37) (kwd := []) K16.ob_eq
    (by kernel_rfl) (fun s => by kernel_rfl) K16.run (by kernel_rfl) (by kernel_rfl) (by kernel_rfl) (by rfl) (by first | assumption | decide +kernel) (by decide +kernel) ⟨rfl, rfl, rfl, rfl, rfl, by decide +kernel⟩ ?hw ?hc
  case hw => w_witness2
  case hc =>
    refine L2.walk_ofE (l := PySem.Challenge.rw_lockerwall_k16_whole_lines_of_books) (n := 63) (k := 8) (x := "script") (CX := L2.CX0) rfl (by decide) (by kernel_rfl) ⟨rfl, by decide, by decide⟩ ?F (fun _ _ _ _ z => z)
    intro w mg fa h Y G hmg0
    obtain ⟨K, KX, c, e⟩ := Y
    have hmg : mg ("law" : PySem.Str) = some (.ref fa) := by
      have e : (HandSHeadRun.topDef (OpenLaw.row PySem.Challenge.rw_lockerwall_k16_whole_lines_of_books).prog 37).name = ("law" : PySem.Str) := by kernel_rfl
      rw [← e]
      exact hmg0
    obtain ⟨fd, hb, hF⟩ := K16.law_end (P := (PySem.Challenge.rw_lockerwall_k16_whole_lines_of_books).prog) (w := w) ⟨h, KX, G, c, e⟩ hmg
    exact ⟨K, fd, K16.spLaw K, KX, hb, fun H a ns hl hO hS => ⟨a, ns, rfl, hS, hl, fun _ => rfl⟩, hF⟩

