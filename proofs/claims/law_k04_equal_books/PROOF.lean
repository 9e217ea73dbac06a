import PyProof.Rows.All
import Wide.All
import OpenK.AllK
import Wide.FinOn
import HandS.ForMost
import HandS.Flow
import HandS.IsInst
import HandS.Style
import HandS.More
import HandS.Strs
import HandS.Zip
import HandS.Codes
import HandS.Defaults
import HandS.MakeKw
import HandS.TupAny
import HandS.TupMul
import HandS.Wide
import HandS.Sort
import HandS.SortInts
import HandS.NoneIn
import HandS.Conv
import HandS.Walk
import HandS.Head0
import HandS.Head1
import HandS.Head2
import HandS.HeadEnd
import HandS.HeadHook1
import HandS.HeadHook2
import HandS.Star
import HandS.SortOrd
import HandS.TryOnly
import PyProof.EqAt
import HandS.MakeKwOnly
import HandS.SortKw
import HandS.OwnEq
import HandS.HeadHook3
import KE.GoesEnumKw
import OpenK.KOps
import OpenK.KMeth
import HandS.Property
import PyProof.MinMaxWalk
import PyProof.WalkInts
import KE.KExcSuper
import HandS.Exc
import HandS.ExcOwn
import HandS.ExcField
import HandS.ExcIs
import HandS.TryMany
import HandS.CallSlots
import HandS.DictComp
import PyProof.InstEq
import PySem.Challenge.RW_lockerwall_k04_equal_books
set_option Elab.async false
set_option linter.all false
set_option maxRecDepth 100000
namespace My
open PySem PySem.Spec PyProof.Rows L2
/-! ### tables of the written part by address -/
def tupAt (K : PySem.W.Frag) (a : Addr) (vs : List V) : Bool := match K.lookup a with
  | some ⟨.type c, none, .seq its _, _⟩ => decide (c = "tuple") && (decide (its.size ≤ sizeLine) && He.relAll vs its.toList)
  | _ => false
theorem tupAt_ex {K : PySem.W.Frag} {a : Addr} {vs : List V} (h : tupAt K a vs = true) : ∃ (o : Obj) (its : Array Value) (n : Nat), K.lookup a = some o ∧ o.cls = .type "tuple" ∧ o.dict = none ∧ o.data = .seq its n ∧ its.size ≤ sizeLine ∧ Vals vs its.toList := by
  unfold tupAt at h
  cases q : K.lookup a with
  | none =>
    rw [q] at h
    cases h
  | some o =>
    obtain ⟨oc, od, dt, osl⟩ := o
    rw [q] at h
    cases oc with
    | type c =>
      cases od with
      | none =>
        cases dt with
        | seq its n =>
          obtain ⟨h1, h2⟩ := He.ba (show (decide (c = "tuple") && (decide (its.size ≤ sizeLine) && He.relAll vs its.toList)) = true from h)
          obtain ⟨h3, h4⟩ := He.ba h2
          exact ⟨_, its, n, rfl, congrArg Value.type (of_decide_eq_true h1), rfl, rfl, of_decide_eq_true h3, He.relAll_ok h4⟩
        | _ => cases h
      | some d => cases dt <;> cases h
    | _ => cases od <;> cases dt <;> cases h
theorem tupAt_ok {K : PySem.W.Frag} {a : Addr} {vs : List V} (h : tupAt K a vs = true) (H : Hp) : SqT K H a vs := by
  obtain ⟨o, its, n, h1, h2, h3, h4, h5, h6⟩ := tupAt_ex h
  exact .inr ⟨o, its, n, h1, h2, h4, h5, h6⟩
theorem tupAt_ty {K : PySem.W.Frag} {a : Addr} {vs : List V} (h : tupAt K a vs = true) (H : Hp) : tyV K "tuple" (.ref a) H := by
  obtain ⟨o, its, n, h1, h2, h3, h4, h5, h6⟩ := tupAt_ex h
  exact .inr (.inl ⟨rfl, o, h1, h2, h3⟩)
theorem all_ix {l : List Bool} (h : l.all id = true) (i : Nat) {b : Bool} (e : l[i]? = some b) : b = true := by
  have := List.all_eq_true.mp h b (List.mem_of_getElem? e)
  exact this
/-! ### the Hook: facts, defs, one more Bool -/
abbrev AlE : Type := He.AlD × Bool
def obsDG2 (n : Nat) (fa : List He.Fa) (fn : List He.DefD) (ex : PySem.W.Frag → Bool) (g : Addr → Option Obj) : AlE := (fun K => (He.obsD fa fn K, ex K)) (He.frG g (He.asD g n))
def hookD2 (n : Nat) (fa : List He.Fa) (fn : List He.DefD) (ex : PySem.W.Frag → Bool) : PySem.W.Hook where
  α := AlE
  obs := fun s => obsDG2 n fa fn ex s.heap.get?
  val := fun _ => (He.valD fn, true)
  says := fun _ h => ∃ K : PySem.W.Frag, K.In h ∧ He.SaysD fa fn K ∧ ex K = true
  of := fun _ _ e => ⟨_, He.frG_in, congrArg (fun z : AlE => z.1) e, congrArg (fun z : AlE => z.2) e⟩
  keeps := fun _ _ _ ⟨K, hK, c⟩ k => ⟨K, PySem.W.Frag.In.keeps hK k, c⟩
theorem obsDG2_eq {n : Nat} {fa : List He.Fa} {fn : List He.DefD} {ex : PySem.W.Frag → Bool} {g : Addr → Option Obj} {s : Shared} (h : ∀ a, g a = s.heap.get? a) : obsDG2 n fa fn ex g = (hookD2 n fa fn ex).obs s := by
  have e : g = s.heap.get? := funext h
  rw [e] <;> rfl
end My
namespace My
open PySem PySem.Spec PyProof.Rows L2
/-! ### small rules -/
section
variable {X : Cx} {k j : Nat} {C : Addr} {x : Str} {sp : Sp} {dvs : List V} {p pos : Pos}
theorem pe_c0 (c : C8.Cal X.prog X.w X.K X.mg X.base k x sp dvs) (hr : Room j X.A) (hk : k ≤ j) (hg : Gl X x) (hdb : (x == ("__debug__" : Str)) = false := by decide) :
    PE X (.Call (.Name x p) [] [] pos) (tCall sp dvs C8.E0 tNil) := by
  obtain ⟨f, fd, ps, ds, F, hm, kp, b, d⟩ := c.ex
  exact pe_call0 F (hr.mono hk) hg hm kp b d C8.pass0 hdb
theorem pe_mk0 (c : C8.Mak X.prog X.w X.K X.mg X.base k x C sp dvs) (hr : Room j X.A) (hk : k + 1 ≤ j) (hg : Gl X x) (hdb : (x == ("__debug__" : Str)) = false := by decide) :
    PE X (.Call (.Name x p) [] [] pos) (tMake C sp dvs C8.E0 tNil) := by
  obtain ⟨f, fd, ps, ds, M, F, hm, b, d⟩ := c.ex
  exact pe_make0 M F (hr.mono hk) hg hm b d C8.pass0 hdb
/-- ** of great ints -/
def CPowW (i j : Int) : Prop := 0 ≤ j ∧ j ≤ 100 ∧ i.natAbs < 2 ^ 10000
theorem op_powW : OpR X (binaryOp .Pow) (rI CPowW fun i j => .int (i ^ j.toNat)) := opI fun i j _ _ _ _ _ hc q => by
  obtain ⟨h1, h2, h3⟩ := hc
  have hb := intBits_le h3
  refine PyProof.Rows.pow_int h1 ?_ q
  have h4 : (Builtin.Int.intBits i : Int) ≤ 10000 := by omega
  have h5 : (Builtin.Int.intBits i : Int) * j ≤ 10000 * 100 := Int.mul_le_mul h4 h2 h1 (by decide)
  exact Int.le_trans h5 (by decide)
end
theorem inV_str (x : Str) : ∀ ws : List Str, inV (.str x) (ws.map V.str) = decide (x ∈ ws)
  | [] => rfl
  | y :: ws => by
    have ih := inV_str x ws
    show (eqV (.str y) (.str x) || inV (.str x) (ws.map V.str)) = _
    rw [ih]
    show ((y == x) || decide (x ∈ ws)) = _
    by_cases e : y = x
    · subst e
      simp
    · have e2 : ¬ x = y := fun z => e z.symm
      simp [e, e2]
theorem all_flat_str (ws : List Str) : (ws.map V.str).all flatV = true := by
  rw [List.all_map]
  exact List.all_eq_true.mpr fun _ _ => rfl
end My

namespace My
open PySem PySem.Spec PyProof.Rows L2
theorem map_get {α β : Type} {f : α → β} {l : List α} {i : Nat} {y : β} (h : (l.map f)[i]? = some y) : ∃ z, l[i]? = some z ∧ y = f z := by
  rw [List.getElem?_map] at h
  cases e : l[i]? with
  | none =>
    rw [e] at h
    cases h
  | some z =>
    rw [e] at h
    exact ⟨z, rfl, (Option.some.inj h).symm⟩
theorem tyx_tup {K : PySem.W.Frag} {H : Hp} {a : Addr} {xs : List V} (h : SqT K H a xs) : TyX K H (.ref a) (.type "tuple") := by
  rcases h with (h | ⟨o, h⟩) | ⟨o, its, n, hk, hc, _⟩
  · exact .base (.tup h)
  · exact .fTuple h
  · exact .kTuple hk hc
theorem tyx_lst {K : PySem.W.Frag} {H : Hp} {a : Addr} {xs : List V} (h : SqL K H a xs) : TyX K H (.ref a) (.type "list") := by
  rcases h with (h | ⟨o, h⟩) | ⟨o, its, n, hk, hc, _⟩
  · exact .base (.lst h)
  · exact .base (.frz h)
  · exact .kList hk hc
theorem same_tup {K : PySem.W.Frag} {H H' : Hp} {a : Addr} {xs : List V} (e : Same H H') (h : SqT K H a xs) : SqT K H' a xs := by
  rcases h with (h | ⟨o, h⟩) | h
  · exact .inl (.inl (e _ _ h))
  · exact .inl (.inr ⟨o, e _ _ h⟩)
  · exact .inr h
theorem same_new {H : Hp} {a : Addr} {o : HO} (h : H a = Option.none) : Same H (upd H a o) := fun b u e => by
  rw [upd_ne (ne_of_none e h)]
  exact e
theorem same_upd {H H' : Hp} {a : Addr} {o : HO} (s : Same H H') (h : H a = Option.none) : Same H (upd H' a o) := fun b u e => by
  rw [upd_ne (ne_of_none e h)]
  exact s b u e
/-- all that stood stands as it was, but at these addresses -/
def But (as : List Addr) (H H' : Hp) : Prop := ∀ b o, b ∉ as → H b = some o → H' b = some o
theorem But.refl (as : List Addr) (H : Hp) : But as H H := fun _ _ _ h => h
theorem But.trans {as : List Addr} {H H1 H2 : Hp} (a : But as H H1) (b : But as H1 H2) : But as H H2 := fun c o n h => b c o n (a c o n h)
theorem But.of {as : List Addr} {H H' : Hp} (s : Same H H') : But as H H' := fun c o _ h => s c o h
theorem But.mono {as bs : List Addr} {H H' : Hp} (s : But as H H') (h : ∀ a ∈ as, a ∈ bs) : But bs H H' := fun c o n e => s c o (fun z => n (h c z)) e
theorem But.same {H H' : Hp} (s : But [] H H') : Same H H' := fun c o h => s c o (by simp) h
/-- a change at a place that was not there, or that is let -/
theorem But.put {as : List Addr} {H H' : Hp} {a : Addr} {o : HO} (s : But as H H') (h : H a = Option.none ∨ a ∈ as) : But as H (upd H' a o) := fun b u n e => by
  have nb : b ≠ a := by
    intro z
    subst z
    rcases h with h | h
    · rw [h] at e
      cases e
    · exact n h
  rw [upd_ne nb]
  exact s b u n e
theorem But.tup {K : PySem.W.Frag} {as : List Addr} {H H' : Hp} {a : Addr} {xs : List V} (s : But as H H') (n : a ∉ as) (h : SqT K H a xs) : SqT K H' a xs := by
  rcases h with (h | ⟨o, h⟩) | h
  · exact .inl (.inl (s _ _ n h))
  · exact .inl (.inr ⟨o, s _ _ n h⟩)
  · exact .inr h
theorem But.lst {K : PySem.W.Frag} {as : List Addr} {H H' : Hp} {a : Addr} {xs : List V} (s : But as H H') (n : a ∉ as) (h : SqL K H a xs) : SqL K H' a xs := by
  rcases h with (h | ⟨o, h⟩) | h
  · exact .inl (.inl (s _ _ n h))
  · exact .inl (.inr ⟨o, s _ _ n h⟩)
  · exact .inr h
theorem But.none {as : List Addr} {H H' : Hp} {a : Addr} (s : But as H H') (n : a ∉ as) (h : H' a = Option.none) : H a = Option.none := by
  cases q : H a with
  | none => rfl
  | some o =>
    rw [s a o n q] at h
    cases h
end My
namespace My
open PySem PySem.Spec PyProof.Rows L2
/-! ### the rules by a named K (a comprehension's block has its own context over the same K) -/
section
variable {X : Cx} {K : PySem.W.Frag} {a b e o : Expr} {es : List Expr} {ta tb te to : TE} {t : TA} {pos apos cpos tpos p2 : Pos} {f name : Str} {T id : String} {r : V → List V → Hp → VK → Prop} {tg l : Expr} {tl : TE}
theorem ix_listK (h : X.K = K) : IxR X (rIxL K) := by subst h; exact ix_list
theorem ix_tupK (h : X.K = K) : IxR X (rIxT K) := by subst h; exact ix_tup
def rLenQ (K : PySem.W.Frag) : List V → Hp → VK → Prop := fun xs H Q => ∃ p ys, xs = [.ref p] ∧ (SqL K H p ys ∨ SqT K H p ys) ∧ Q (.int ys.length) H
theorem len_seqK (h : X.K = K) : CallR X (.builtin "len") (rLenQ K) := by subst h; exact call_len_seq
def rListOf (K : PySem.W.Frag) : List V → Hp → VK → Prop := fun xs H Q => ∃ p ys, xs = [.ref p] ∧ (SqL K H p ys ∨ SqT K H p ys) ∧ ∀ l, H l = none → Q (.ref l) (upd H l (.lst ys))
theorem list_ofK (h : X.K = K) : CallR X (.type "list") (rListOf K) := by subst h; exact call_list_of
def rTupleOf (K : PySem.W.Frag) : List V → Hp → VK → Prop := fun xs H Q => ∃ p ys, xs = [.ref p] ∧ ((SqL K H p ys ∧ ∀ l, H l = none → Q (.ref l) (upd H l (.tup ys))) ∨ (SqT K H p ys ∧ Q (.ref p) H))
theorem tuple_ofK (h : X.K = K) : CallR X (.type "tuple") (rTupleOf K) := by subst h; exact call_tuple_of
theorem isiK (h : X.K = K) : CallR X (.builtin "isinstance") (rIsi K) := by subst h; exact call_isi
theorem isiTK (h : X.K = K) : CallR X (.builtin "isinstance") (rIsiT K) := by subst h; exact call_isiT
theorem allK (h : X.K = K) (hc : X.calm = true) : CallR X (.builtin "all") (rAll K) := by subst h; exact cr_all hc
theorem anyK (h : X.K = K) (hc : X.calm = true) : CallR X (.builtin "any") (rAny K) := by subst h; exact cr_any hc
theorem sortedIK (h : X.K = K) : CallR X (.builtin "sorted") (rSortedI K) := by subst h; exact cr_sortedI
theorem in_seqK (h : X.K = K) : OpR X (compareOp .In) (rIn K false) := by subst h; exact op_in_seq
theorem notIn_seqK (h : X.K = K) : OpR X (compareOp .NotIn) (rIn K true) := by subst h; exact op_notIn_seq
theorem eqDK (h : X.K = K) (hu : X.A.units + 64 < cLine) : OpR X (compareOp .Eq) (rEqD K) := by subst h; exact op_eqD hu
theorem neDK (h : X.K = K) (hu : X.A.units + 64 < cLine) : OpR X (compareOp .NotEq) (rNeD K) := by subst h; exact op_neD hu
theorem catAK (h : X.K = K) : OpR X (binaryOp .Add) (rCatA K) := by subst h; exact op_catA
theorem repTK (h : X.K = K) : OpR X (binaryOp .Mult) (rRepT K) := by subst h; exact op_repT
theorem sl_listK (h : X.K = K) : SlR X (rSlL K) := by subst h; exact sl_list
theorem sl_tupAK (h : X.K = K) : SlR X (rSlA K) := by subst h; exact sl_tupA
theorem pe_fldK (h : X.K = K) (he : PE X e ta) (hb : attributeBase e f X.env (eval e X.env) = eval e X.env) : PE X (.Attribute e f pos) (tFld K ta f) := by subst h; exact pe_fld he hb
theorem pt_truthK (h : X.K = K) (ha : PE X a ta) (he : ∀ whole, isTrue a X.env whole = (do let v ← whole; standAt a.pos; holding [v] (truthy v))) : PT X a (fun σ H Q => ta σ H fun x H' => ∃ k, TruV K x H' k ∧ Q k H') := by subst h; exact pt_truth ha he
theorem pi_listK (h : X.K = K) (hl : PE X l tl) : PI X tg l (iList K tl) := by subst h; exact pi_list hl
theorem pi_tupK (h : X.K = K) (hl : PE X l tl) : PI X tg l (iTup K tl) := by subst h; exact pi_tup hl
theorem pe_revLK {k : Nat} {p1 p3 : Pos} (h : X.K = K) (he : PE X e te) : PE X (.Subscript e (.Slice none none (some (.UnaryOp .USub (.Constant (.int 1) k p1) p2)) p3) pos) (tRevL K te) := by subst h; exact pe_revL he
theorem pe_bm0K (h : X.K = K) (pa : PlainAttrs T) (slot : Slot T name id) (hty : typeOf (.builtin id) = pure (.type "method_descriptor")) (hm : MtR X id r) (ho : PE X o to)
    (hbase : attributeBase o name X.env (eval o X.env) = eval o X.env := by rfl) (hline : (apos.endLine == cpos.line) = true := by rfl) : PE X (.Call (.Attribute o name apos) [] [] cpos) (tBM0 K T r to) := by subst h; exact pe_bm0 pa slot hty hm ho hbase hline
theorem pe_bmK (h : X.K = K) (pa : PlainAttrs T) (slot : Slot T name id) (hty : typeOf (.builtin id) = pure (.type "method_descriptor")) (hm : MtR X id r) (ho : PE X o to) (ha : PA X (e :: es) t)
    (hbase : attributeBase o name X.env (eval o X.env) = eval o X.env := by rfl)
    (hfew : ((backTo cpos (starEach (e :: es) X.env)).all (fun x => !x.1) && (backToKw cpos (keywordEach [] X.env)).all (fun x => x.1.isSome)
      && decide ((e :: es).length + ([] : List Keyword).length + (if ([] : List Keyword).isEmpty then 0 else 1) < 30)) = true := by rfl)
    (hline : (apos.endLine == cpos.line) = true := by rfl) (hs : starEach (e :: es) X.env = (false, eval e X.env) :: starEach es X.env := by rfl) (hplain : (backTo cpos (starEach es X.env)).any (·.1) = false := by rfl) :
    PE X (.Call (.Attribute o name apos) (e :: es) [] cpos) (tBM K T r to t) := by subst h; exact pe_bm pa slot hty hm ho ha hbase hfew hline hs hplain
def rTupIx (K : PySem.W.Frag) : V → List V → Hp → VK → Prop := fun x xs H Q => ∃ p, ∃ ys : List Str, ∃ z j, x = .ref p ∧ xs = [.str z] ∧ SqT K H p (ys.map V.str) ∧ ys[j]? = some z ∧ (∀ m, m < j → ys[m]? ≠ some z) ∧ Q (.int (j : Nat)) H
theorem tup_indexK (h : X.K = K) : MtR X "tuple.index" (rTupIx K) := by subst h; exact mt_tup_index
end
end My
namespace My
open PySem PySem.Spec PyProof.Rows L2
theorem pg_tupK {X : Cx} {K : PySem.W.Frag} {es : List Expr} {k : Nat} {t : TGs} {n : Nat} {pos : Pos} (h0 : X.K = K) (hc : X.calm = true) (h : PGs X es t)
    (hn : (assignEach es X.env).length = n := by rfl) (hst : (assignEach es X.env).findIdx? (·.1) = none := by rfl) : PG X (.Tuple es k pos) (gTup K n t) := by subst h0; exact pg_tup hc h hn hst
/-! ### two fors in a comprehension -/
section
variable {J J1 : It} {n n1 : Nat} {G G1 : Hp → Prop} {Y Y1 : Nat → Hp → V → Hp → Prop} {g g1 : TG} {tt tt1 : TT} {te : TE} {wi1 : TI} {vs vs1 : List Nat} {σ σ2 : L2.St} {H1 H4 : Hp} {D : Addr} {Qd Nx : Hp → Prop}
theorem lc2_out (w : Walk J n G Y) (Pv : Nat → Hp → Prop) (h0 : Pv 0 (upd H1 D (.lst []))) (hG : ∀ i H, i ≤ n → Pv i H → G H)
    (hs : ∀ i x H H', i < n → Pv i H → Y i H x H' → g x (wipe σ vs) H' fun σ2 H2 => wipe σ2 vs = wipe σ vs ∧ tt σ2 H2 fun b H3 =>
      if b = true then wi1 σ2 H3 fun J1 H4 => ∃ W1 : Nat → Nat → Hp → Prop, (∃ m, W1 0 m H4) ∧ ∀ j k H, W1 j k H →
        (J1.stop j H ∧ Pv (i + 1) H) ∨ (J1.go j H ∧ ∃ Nx1 : Hp → Prop, (∀ H', Nx1 H' → ∃ k', k' < k ∧ W1 (j + 1) k' H') ∧ ∀ x H', J1.yld j H x H' → g1 x (wipe σ2 vs1) H' fun σ3 H5 => wipe σ3 vs1 = wipe σ2 vs1 ∧ tt1 σ3 H5 fun b H6 =>
          if b = true then te σ3 H6 fun y H7 => ∃ acc, H7 D = some (.lst acc) ∧ acc.length < sizeLine ∧ Nx1 (upd H7 D (.lst (acc ++ [y]))) else Nx1 H6)
      else Pv (i + 1) H3) (hd : ∀ H, Pv n H → Qd H) :
    ∃ W : Nat → Nat → Hp → Prop, (∃ m, W 0 m (upd H1 D (.lst []))) ∧ ∀ i m H, W i m H →
      (J.stop i H ∧ Qd H) ∨ (J.go i H ∧ ∃ Nx : Hp → Prop, (∀ H', Nx H' → ∃ m', m' < m ∧ W (i + 1) m' H') ∧ ∀ x H', J.yld i H x H' → g x (wipe σ vs) H' fun σ2 H2 => wipe σ2 vs = wipe σ vs ∧ tt σ2 H2 fun b H3 =>
        if b = true then wi1 σ2 H3 fun J1 H4 => ∃ W1 : Nat → Nat → Hp → Prop, (∃ m, W1 0 m H4) ∧ ∀ j k H, W1 j k H →
          (J1.stop j H ∧ Nx H) ∨ (J1.go j H ∧ ∃ Nx1 : Hp → Prop, (∀ H', Nx1 H' → ∃ k', k' < k ∧ W1 (j + 1) k' H') ∧ ∀ x H', J1.yld j H x H' → g1 x (wipe σ2 vs1) H' fun σ3 H5 => wipe σ3 vs1 = wipe σ2 vs1 ∧ tt1 σ3 H5 fun b H6 =>
            if b = true then te σ3 H6 fun y H7 => ∃ acc, H7 D = some (.lst acc) ∧ acc.length < sizeLine ∧ Nx1 (upd H7 D (.lst (acc ++ [y]))) else Nx1 H6)
        else Nx H3) := by
  refine ⟨fun i m H => m = n - i ∧ i ≤ n ∧ Pv i H, ⟨n, by simp, Nat.zero_le _, h0⟩, ?_⟩
  rintro i m H ⟨rfl, hi, p⟩
  have q := hG i H hi p
  by_cases hlt : i < n
  · exact .inr ⟨w.goes i H hlt q, Pv (i + 1), fun H' p' => ⟨n - (i + 1), by omega, rfl, hlt, p'⟩, fun x H' y => hs i x H H' hlt p (w.yields i H x H' hlt q y)⟩
  · have e : i = n := by omega
    subst e
    exact .inl ⟨w.stops H q, hd H p⟩
theorem lc2_in (w : Walk J1 n1 G1 Y1) (Pv : Nat → Hp → Prop) (h0 : Pv 0 H4) (hG : ∀ i H, i ≤ n1 → Pv i H → G1 H)
    (hs : ∀ i x H H', i < n1 → Pv i H → Y1 i H x H' → g1 x (wipe σ2 vs1) H' fun σ3 H5 => wipe σ3 vs1 = wipe σ2 vs1 ∧ tt1 σ3 H5 fun b H6 =>
      if b = true then te σ3 H6 fun y H7 => ∃ acc, H7 D = some (.lst acc) ∧ acc.length < sizeLine ∧ Pv (i + 1) (upd H7 D (.lst (acc ++ [y]))) else Pv (i + 1) H6) (hd : ∀ H, Pv n1 H → Nx H) :
    ∃ W1 : Nat → Nat → Hp → Prop, (∃ m, W1 0 m H4) ∧ ∀ j k H, W1 j k H →
      (J1.stop j H ∧ Nx H) ∨ (J1.go j H ∧ ∃ Nx1 : Hp → Prop, (∀ H', Nx1 H' → ∃ k', k' < k ∧ W1 (j + 1) k' H') ∧ ∀ x H', J1.yld j H x H' → g1 x (wipe σ2 vs1) H' fun σ3 H5 => wipe σ3 vs1 = wipe σ2 vs1 ∧ tt1 σ3 H5 fun b H6 =>
        if b = true then te σ3 H6 fun y H7 => ∃ acc, H7 D = some (.lst acc) ∧ acc.length < sizeLine ∧ Nx1 (upd H7 D (.lst (acc ++ [y]))) else Nx1 H6) := by
  refine ⟨fun i m H => m = n1 - i ∧ i ≤ n1 ∧ Pv i H, ⟨n1, by simp, Nat.zero_le _, h0⟩, ?_⟩
  rintro i m H ⟨rfl, hi, p⟩
  have q := hG i H hi p
  by_cases hlt : i < n1
  · exact .inr ⟨w.goes i H hlt q, Pv (i + 1), fun H' p' => ⟨n1 - (i + 1), by omega, rfl, hlt, p'⟩, fun x H' y => hs i x H H' hlt p (w.yields i H x H' hlt q y)⟩
  · have e : i = n1 := by omega
    subst e
    exact .inl ⟨w.stops H q, hd H p⟩
end
end My
namespace My
open PySem PySem.Spec PyProof.Rows L2
/-! ### f(b=.., a=..): both arguments by name, turned about -/
def kwG {α : Type} (us ws : List α) : List α := match us, ws with
  | [], [x, y] => [y, x]
  | _, _ => []
structure CalK2 (P : Program) (w : World) (K : PySem.W.Frag) (mg : Str → Option Value) (base : Heap) (k : Nat) (x : Str) (sp : Sp) (p1 p2 : Str) : Prop where
  ex : ∃ (f : Addr) (fd : FuncData), FnOk P w K mg base C8.CX0 k f fd [p1, p2] sp ∧ mg x = some (.ref f) ∧ PySem.W.keepIn K (.ref f) = true ∧ KBinds K fd [p1, p2] [p2, p1] kwG kwG
theorem kw2_of {K : PySem.W.Frag} {x qual : Str} {params : Arguments} {body : List Stmt} {scope : Scope} {kws : List (Str × V)} {f : Addr} {fd : FuncData} {p1 p2 : Str} (F : FunD K x qual params body scope [] kws f fd)
    (h : ∀ (kV doc pm : Value) (an : Option Addr) (cdv ct : Value) (u v : Value), bindArgs (PySem.W.fnOf x qual params body scope .none kV doc pm an cdv ct) ⟨[], [(p2, u), (p1, v)]⟩ = pure [(p1, v), (p2, u)]) : KBinds K fd [p1, p2] [p2, p1] kwG kwG := by
  obtain ⟨oc, od, dV, kV, doc, pm, an, cdv, ct, osl, rfl, lk, hcd, hD, hK⟩ := F.ex
  rcases hD with ⟨_, rfl⟩ | ⟨e, _⟩
  · refine ⟨fun s us ws X hl => ?_, fun {vs us zs ws} r1 r2 => ?_⟩
    · match us, ws, hl with
      | [], [u, v], _ => exact .of_eq (h kV doc pm an cdv ct u v)
    · cases r1 with
      | nil =>
        cases r2 with
        | nil => exact .nil
        | cons a r2 =>
          cases r2 with
          | nil => exact .nil
          | cons b r2 =>
            cases r2 with
            | nil => exact .cons b (.cons a .nil)
            | cons c r2 => exact .nil
      | cons a r1 => exact .nil
  · exact absurd rfl e
theorem pe_kw2 {X : Cx} {k j : Nat} {x p1 p2 : Str} {sp : Sp} {p pos : Pos} {kws : List Keyword} {tk : TA} (c : CalK2 X.prog X.w X.K X.mg X.base k x sp p1 p2) (hr : Room j X.A) (hk : k ≤ j) (hg : Gl X x) (hkw : PK X kws tk)
    (hall : (backToKw pos (keywordEach kws X.env)).all (·.1.isSome) = true := by rfl) (hks : (backToKw pos (keywordEach kws X.env)).filterMap (·.1) = [p2, p1] := by rfl) (hdb : (x == ("__debug__" : Str)) = false := by decide)
    (hpl : ((backTo pos (starEach [] X.env)).any (·.1) || (backToKw pos (keywordEach kws X.env)).any (·.1.isNone)) = false := by rfl) : PE X (.Call (.Name x p) [] kws pos) (tCallK sp kwG C8.E0 tNil tk) := by
  obtain ⟨f, fd, F, hm, kp, hb⟩ := c.ex
  refine ⟨fun pins s σ H Q I h => ?_⟩
  refine wpAny_Call_Name_kw (ld_glob I hg hm ?_ hdb)
  refine PySem.W.callWith_KW0 (h₀ := X.base) I.ok.mod.kin kp hall (thn (hkw.run pos pins s σ H _ I h) fun ws s2 ⟨zs, H2, I2, rz, q2⟩ => ⟨I2.kIn, ?_⟩) hpl
  rw [hks]
  exact run_fnk (us := []) F (hr.mono hk) hb C8.pass0 I2 .nil rz q2
end My
namespace My
open PySem PySem.Spec PyProof.Rows L2 StX
/-! ### C(e, *ys); C(e, .., k = v, ..) -/
section
variable {X : Cx} {K : PySem.W.Frag} {k j n : Nat} {C : Addr} {x : Str} {sp : Sp} {dvs : List V} {p pos sp_ : Pos} {e : Expr} {es : List Expr} {te : TE} {t tk : TA} {kws : List Keyword} {ks : List Str} {gV : List V → List V → List V}
theorem pa_starK (h : X.K = K) (he : PE X e te) (hr : PA X es t) (hs : starEach (.Starred e sp_ :: es) X.env = (true, eval e X.env) :: starEach es X.env := by rfl) : PA X (.Starred e sp_ :: es) (tStar K te t) := by subst h; exact pa_star he hr hs
theorem pe_mkS2 (c : C8.Mak X.prog X.w X.K X.mg X.base k x C sp dvs) (hr : Room j X.A) (hk : k + 1 ≤ j) (hg : Gl X x) (ha : PA X (e :: es) t) (hdb : (x == ("__debug__" : Str)) = false := by decide)
    (he : starEach (e :: es) X.env = (false, eval e X.env) :: starEach es X.env := by rfl) (hst : (backTo pos (starEach es X.env)).any (·.1) = true := by rfl) : PE X (.Call (.Name x p) (e :: es) [] pos) (tMake C sp dvs C8.E0 t) := by
  obtain ⟨f, fd, ps, ds, M, F, hm, b, d⟩ := c.ex
  refine ⟨fun pins s σ H Q I h => ?_⟩
  refine wpAny_Call_Name_kw (ld_glob I hg hm ?_ hdb)
  refine PySem.W.callWith_S2 (h₀ := X.base) I.ok.mod.kin M.kp (thn (ha.run pos pins s σ H _ I h) fun us s1 ⟨vs, H1, I1, r, q⟩ => ⟨I1.kIn, ?_⟩) he hst
  exact run_make M F (hr.mono hk) b d C8.pass0 I1 r q
structure MakN (P : Program) (w : World) (K : PySem.W.Frag) (mg : Str → Option Value) (base : Heap) (k : Nat) (x : Str) (C : Addr) (sp : Sp) (n : Nat) (ks : List Str) (gV : List V → List V → List V) : Prop where
  ex : ∃ (f : Addr) (fd : FuncData) (ps : List Str) (g : List Value → List Value → List Value), Mk K C f ∧ FnOk P w K mg base C8.CX0 k f fd ps sp ∧ mg x = some (.ref C) ∧ KBn K fd ps (n + 1) ks g gV
theorem pe_mkN (c : MakN X.prog X.w X.K X.mg X.base k x C sp n ks gV) (hr : Room j X.A) (hk : k + 1 ≤ j) (hg : Gl X x) (ha : PA X (e :: es) t) (hkw : PK X kws tk)
    (hall : (backToKw pos (keywordEach kws X.env)).all (·.1.isSome) = true := by rfl) (hks : (backToKw pos (keywordEach kws X.env)).filterMap (·.1) = ks := by rfl)
    (hdb : (x == ("__debug__" : Str)) = false := by decide) (he : starEach (e :: es) X.env = (false, eval e X.env) :: starEach es X.env := by rfl)
    (hpl : ((backTo pos (starEach (e :: es) X.env)).any (·.1) || (backToKw pos (keywordEach kws X.env)).any (·.1.isNone)) = false := by rfl) : PE X (.Call (.Name x p) (e :: es) kws pos) (tMakeN C n ks.length sp gV C8.E0 t tk) := by
  obtain ⟨f, fd, ps, g, M, F, hm, hb⟩ := c.ex
  exact pe_makeN M F (hr.mono hk) hg hm hb C8.pass0 ha hkw hall hks hdb he hpl
end
theorem vals_drop : ∀ {vs : List V} {us : List Value} (n : Nat), Vals vs us → Vals (vs.drop n) (us.drop n)
  | _, _, 0, h => h
  | _, _, _ + 1, .nil => .nil
  | _, _, n + 1, .cons _ t => vals_drop n t
end My
namespace My
open PySem PySem.Spec PyProof.Rows L2
/-! ### sorted of a dict, all its keys ints, as many as there are -/
def rSortW : List V → Hp → VK → Prop := fun ws H Q => ∃ (d : Addr) (pairs : List (Key × V)) (ns : List Int), ws = [.ref d] ∧ Rd H d (.dK pairs) ∧ pairs.map (·.1) = ns.map Sum.inl ∧ ns.length ≤ sizeLine ∧
  ∀ (zs : List Int) (q : Addr), zs.Perm ns → zs.Pairwise (· ≤ ·) → H q = none → Q (.ref q) (upd H q (.lst (zs.map V.int)))
section
variable {X : Cx}
theorem sortedW (calm : X.calm = true) : CallR X (.builtin "sorted") rSortW := by
  intro pins st σ H ws us Q inv rel ⟨d, pairs, ns, ew, rd, ek, hz, cont⟩
  subst ew
  obtain ⟨u, eu, ru⟩ := vals1 rel
  subst eu
  cases ru
  obtain ⟨_, lo, kv, rl, dd⟩ := dk_rd inv.hok rd
  obtain ⟨ep, at1⟩ := dd.dictAt
  have keys : kv.map (·.1) = ns.map Sum.inl := rl.keys.symm.trans ek
  have len : kv.length = ns.length := by
    have := congrArg List.length keys
    simpa using this
  refine Calls.call_function_entry kind_sorted plain_sorted entry_sorted (args_sorted1 _) ?_
  unfold Builtin.«sorted»
  refine wpAny_bind (m := checkCount "sorted" 1 1 _) (wpAny_pure ?_)
  refine wpAny_bind (PySem.W.kdu_collect (A := X.A.in1) (PySem.W.kdl_dict (knd := mixKind X.prog X.w) (kvs := kv) (ep := ep) lo) (inv.ok.hd calm) at1 (by rw [len]; exact hz) fun h2 tk got keep hgot => ?_)
  have glen : got.toList.length = ns.length := by rw [Array.length_toList, hgot.1, len]
  have allI : IntsAre got.toList ns := ints_each glen fun j v e => by
    obtain ⟨k, _, e1, e2⟩ := hgot.2 j v (by rw [← Array.getElem?_toList]; exact e)
    have e3 : (ns.map (Sum.inl : Int → Key))[j]? = some k := by rw [← keys, List.getElem?_map, e1]; rfl
    rw [List.getElem?_map] at e3
    cases e4 : ns[j]? with
    | none =>
      rw [e4] at e3
      cases e3
    | some y =>
      rw [e4] at e3
      cases e3
      rcases keyIs_shape (show keyIs (Sum.inl y) v = true from e2) with ⟨i, t, ek, ev⟩ | ⟨z, t, ek, _⟩
      · cases ek
        exact ⟨y, t, rfl, ev⟩
      · cases ek
  have inv2 : Inv X pins σ H { st with heap := h2, toks := tk } := inv.kept keep
  refine wpAny_bind (wpAny_newList ?_ (by rw [glen]; exact hz))
  have here : (h2.push (seqObj "list" got.toList.toArray 0)).get? h2.objs.size = some (seqObj "list" got.toList.toArray 0) := Heap.get?_push_size _ rfl
  show wpAny _ _ _ _ _ { st with heap := h2.push (seqObj "list" got.toList.toArray 0), toks := tk }
  refine wpAny_bind (wpAny_holding (wpAny_call_entry slot_list_sort ⟨_, here, rfl⟩ entry_list_sort (SrtO.list_sort_ord SrtO.swo_int here (by rw [glen]; exact hz) (fun two => SrtO.ints_sortable allI two) fun out o1 o2 => ⟨_, rfl, ?_⟩) (args_list_sort _)))
  obtain ⟨w1, w2, w3⟩ := SrtO.ints_out allI o1 o2
  obtain ⟨ep2, at2⟩ := sortedHeap_at (vs := got.toList) (out := out.toArray) here
  have fits : ((out.map SrtO.iv).map V.int).length ≤ sizeLine := by
    rw [List.length_map, w2.length_eq]
    exact hz
  refine wpAny_pure ⟨_, rfl, .ref h2.objs.size, _, inv2.laid (t' := tk) (fun b o e => ?_) (Nat.le_refl _) (show ObjOk X.prog X.w _ _ _ (.lst ((out.map SrtO.iv).map V.int)) from ⟨fits, out, ep2, vals_of_ints w1, at2⟩), rfl, cont _ _ w2 w3 (inv2.hok.fresh (Nat.le_refl _))⟩
  have lt : b < h2.objs.size := Heap.lt_size e
  rw [sortedHeap_old (Nat.ne_of_lt lt) (by rw [size_push']; exact Nat.lt_succ_of_lt lt)]
  exact Heap.get?_push_of_some _ e
end
end My
namespace My
open PySem PySem.Spec PyProof.Rows L2
/-! ### tuple.count of a text, among texts -/
def rTupCnt (K : PySem.W.Frag) : V → List V → Hp → VK → Prop := fun x xs H Q => ∃ (p : Addr) (ys : List Str) (z : Str), x = .ref p ∧ xs = [.str z] ∧ SqT K H p (ys.map V.str) ∧ Q (.int (ys.count z : Nat)) H
section
variable {X : Cx} {K : PySem.W.Frag}
theorem cnt_vals {z : Str} : ∀ {ys : List Str} {us : List Value}, Vals (ys.map V.str) us → us.countP (eqU (.str z)) = ys.count z
  | [], _, .nil => rfl
  | y :: ys, _, .cons (b := u) r t => by
    obtain ⟨k, rfl⟩ : ∃ k, u = Value.str y k := r
    have h1 := cnt_vals (z := z) t
    rw [List.countP_cons, h1, List.count_cons]
    congr 1
theorem tup_count : MtR X "tuple.count" (rTupCnt X.K) := by
  intro pins st S0 H x xs v us Q inv rel args hyp
  obtain ⟨p, ys, z, ex, exs, seq, cont⟩ := hyp
  subst ex exs
  cases rel
  obtain ⟨u, eu, ru⟩ := vals1 args
  obtain ⟨t, et⟩ := ru
  subst eu et
  obtain ⟨items, rv, plain, small⟩ := inv.tuple seq
  obtain ⟨⟨kind, dic, dat, slo⟩, at1, ek, n, ed⟩ := plain
  simp only at ek ed
  subst ek ed
  refine call_meets PySem.F.slot_tuple_count ⟨_, at1, rfl⟩ PySem.F.entry_tuple_count (PySem.F.args_tuple_count_2 _ _)
    (SeqAt.tuple_countAt p items.toArray n dic slo (.str z t) (eqU (.str z))) ⟨at1, fun w hw => mem_eqAt (x := .str z) ⟨t, rfl⟩ rfl rv (flat_strs ys) w (by simpa using hw), ?_⟩
  rw [show items.toArray.toList.countP (eqU (.str z)) = ys.count z from cnt_vals rv]
  exact ⟨.int (ys.count z : Nat), H, inv.tok _, ⟨_, rfl⟩, cont⟩
/-- tuple(list): what is made is held as it stands, with no dict -/
def rTupleNew (K : PySem.W.Frag) : List V → Hp → VK → Prop := fun xs H Q => ∃ p ys, xs = [.ref p] ∧ SqL K H p ys ∧ ∀ l o, H l = none → o.dict = Option.none → Q (.ref l) (upd H l (.frz o (.tup ys)))
theorem tuple_new : CallR X (.type "tuple") (rTupleNew X.K) := by
  intro pins st S0 H xs us Q inv args hyp
  obtain ⟨p, ys, ex, seq, cont⟩ := hyp
  subst ex
  obtain ⟨u, eu, ru⟩ := vals1 args
  subst eu
  cases ru
  obtain ⟨items, rv, plain, small⟩ := inv.list seq
  have len := rv.length
  refine call_tuple_list plain.isList (fun h1 keep => ?_) (by simp only [List.size_toArray] <;> omega)
  have I1 : Inv X pins S0 H { st with heap := h1 } := inv.kept (t' := st.toks) keep
  have new : (h1.push { cls := .type "tuple", data := .seq items.toArray }).get? h1.objs.size = some { cls := .type "tuple", data := .seq items.toArray } := Heap.get?_push_size _ rfl
  have I2 : Inv X pins S0 (upd H h1.objs.size (.frz { cls := .type "tuple", data := .seq items.toArray } (.tup ys))) { st with heap := h1.push { cls := .type "tuple", data := .seq items.toArray } } :=
    I1.laid (t' := st.toks) (fun b o e => Heap.get?_push_of_some _ e) (Nat.le_refl _) (show ObjOk X.prog X.w _ _ _ (.frz _ (.tup ys)) from ⟨new, small, items, rv, IsTup.new _ _⟩)
  exact ⟨.ref h1.objs.size, _, I2, rfl, cont _ _ (I1.hok.fresh (Nat.le_refl _)) rfl⟩
theorem tuple_newK (h : X.K = K) : CallR X (.type "tuple") (rTupleNew K) := by subst h; exact tuple_new
/-- a tuple with no dict -/
def FrzT (H : Hp) (p : Addr) : Prop := ∃ o xs, H p = some (.frz o (.tup xs)) ∧ o.dict = Option.none
def tBMT (r : V → List V → Hp → VK → Prop) (to : TE) (t : TA) : TE := fun σ H Q => to σ H fun x H1 => (∃ p, x = .ref p ∧ FrzT H1 p) ∧ t σ H1 fun xs H2 => r x xs H2 Q
theorem pe_bmT {o e : Expr} {es : List Expr} {to : TE} {t : TA} {name : Str} {apos cpos : Pos} {id : String} {r : V → List V → Hp → VK → Prop} (pa : PlainAttrs "tuple") (slot : Slot "tuple" name id) (hty : typeOf (.builtin id) = pure (.type "method_descriptor")) (hm : MtR X id r) (ho : PE X o to) (ha : PA X (e :: es) t)
    (base : attributeBase o name X.env (eval o X.env) = eval o X.env := by rfl)
    (few : ((backTo cpos (starEach (e :: es) X.env)).all (fun z => !z.1) && (backToKw cpos (keywordEach [] X.env)).all (fun z => z.1.isSome) && decide ((e :: es).length + ([] : List Keyword).length + (if ([] : List Keyword).isEmpty then 0 else 1) < 30)) = true := by rfl)
    (line : (apos.endLine == cpos.line) = true := by rfl) (star : starEach (e :: es) X.env = (false, eval e X.env) :: starEach es X.env := by rfl) (plain : (backTo cpos (starEach es X.env)).any (·.1) = false := by rfl) :
    PE X (.Call (.Attribute o name apos) (e :: es) [] cpos) (tBMT r to t) := by
  refine ⟨fun pins st S0 H Q I h => ?_⟩
  refine wpAny_Call_method_late base few line rfl (thn (ho.run pins st S0 H _ I h) fun v s1 ⟨x, H1, I1, r1, ty, q1⟩ => ?_)
  obtain ⟨p, ex, ob, xs, hp, hd⟩ := ty
  subst ex
  cases r1
  obtain ⟨e1, _, _, _, ob2, e2, ek, _⟩ := (show ObjOk X.prog X.w H1 s1.heap p (.frz ob (.tup xs)) from I1.hok p _ hp)
  have eo : ob2 = ob := by
    rw [e1] at e2
    exact (Option.some.inj e2).symm
  subst eo
  refine ⟨"tuple", id, pa, slot, hty, ⟨ob2, e1, ek⟩, fun a ea => by cases ea; exact ⟨ob2, e1, hd⟩, ?_⟩
  have run := ha.run cpos pins s1 S0 H1 _ I1 q1
  rw [star] at run ⊢
  refine Calls.callWith_builtin (by show (false || (backTo cpos (starEach es X.env)).any (·.1)) = false; rw [plain]; rfl) (Calls.evalArgs_plain ?_)
  exact thn run fun us s2 ⟨vs, H2, I2, r2, q2⟩ => hm pins s2 S0 H2 (.ref p) vs (.ref p) us Q I2 rfl r2 q2
theorem FrzT.same {H H' : Hp} {p : Addr} (s : Same H H') (h : FrzT H p) : FrzT H' p := by
  obtain ⟨o, xs, e, d⟩ := h
  exact ⟨o, xs, s _ _ e, d⟩
theorem tup_countK (h : X.K = K) : MtR X "tuple.count" (rTupCnt K) := by subst h; exact tup_count
end
end My

namespace My
open PySem PySem.Spec PyProof.Rows L2
set_option maxHeartbeats 4000000
/-! ### tuple * int, also by 0 and by 1 -/
theorem mul_once (l : Addr) (items : Array Value) (n : Nat) (dd : Option Addr) (sl : Array (Option Value)) (u : Tok) :
    Meets (Builtin.«tuple.__mul__» ⟨[.ref l, .int 1 u], []⟩) (fun _ R s => s.heap.get? l = some { cls := .type "tuple", dict := dd, data := .seq items n, slots := sl } ∧ R (.ok (.ret (Value.ref l))) s) := .of_wp fun prog w A R s hyp => by
  obtain ⟨hp, g, d, tk, os⟩ := s
  obtain ⟨at1, cont⟩ := hyp
  have f1 := AutoSeq1.idx_int
  wp_walk using wpAny_loadPart' at1
  exact ⟨_, rfl, cont⟩
theorem mul_none (l : Addr) (items : Array Value) (n : Nat) (dd : Option Addr) (sl : Array (Option Value)) (u : Tok) (c1 : items.isEmpty = false) :
    Meets (Builtin.«tuple.__mul__» ⟨[.ref l, .int 0 u], []⟩) (fun _ R s => s.heap.get? l = some { cls := .type "tuple", dict := dd, data := .seq items n, slots := sl } ∧ R (.ok (.ret (Value.ref s.heap.objs.size))) { s with heap := s.heap.push { cls := Value.type "tuple", data := Data.seq #[] }, toks := s.toks }) := .of_wp fun prog w A R s hyp => by
  obtain ⟨hp, g, d, tk, os⟩ := s
  obtain ⟨at1, cont⟩ := hyp
  have f1 := AutoSeq1.idx_int
  wp_walk using wpAny_loadPart' at1
  exact ⟨_, rfl, cont⟩
def rRepA (K : PySem.W.Frag) : R2 := fun x y H Q => ∃ l k xs, x = .ref l ∧ y = .int k ∧ SqT K H l xs ∧ xs ≠ [] ∧ 0 ≤ k ∧ k ≤ 1000 ∧ xs.length ≤ 1000 ∧ (k = 1 → Q (.ref l) H) ∧ (k ≠ 1 → ∀ p, H p = none → Q (.ref p) (upd H p (.tup (List.replicate k.toNat xs).flatten)))
section
variable {X : Cx}
theorem op_repA : OpR X (binaryOp .Mult) (rRepA X.K) := by
  intro pins st S0 H x y v u Q inv rel rel2 hyp
  obtain ⟨l, k, xs, ex, ey, seq, hne, h0, h1, hz, q1, q2⟩ := hyp
  subst ex ey
  by_cases k2 : 2 ≤ k
  · exact op_repT pins st S0 H _ _ v u Q inv rel rel2 ⟨l, k, xs, rfl, rfl, seq, hne, k2, h1, hz, q2 (by omega)⟩
  cases rel
  obtain ⟨t, et⟩ := rel2
  subst et
  obtain ⟨items, rv, plain, small⟩ := inv.tuple seq
  obtain ⟨⟨kind, dic, dat, slo⟩, at1, ek, n, ed⟩ := plain
  simp only at ek ed
  subst ek ed
  have full : items.toArray.isEmpty = false := by
    cases items with
    | nil => exact absurd (List.eq_nil_of_length_eq_zero rv.length) hne
    | cons a b => rfl
  rcases (show k = 0 ∨ k = 1 by omega) with e | e
  · subst e
    refine wpAny_binaryOp_repeat_ref (T := "tuple") (U := "int") (by decide) ⟨_, at1, rfl⟩ (fun s2 => typeIs_int s2 0 t) noFill_tuple_mul F.fills_int_mul F.slot_int_rmul repeat_tuple F.slot_int_index.lookup
      (call_meets F.slot_int_rmul (typeIs_int st 0 t) F.entry_int_rmul (F.args_int_rmul_2 _ _) (int_rmul_tuple 0 t l items.toArray n dic slo) ⟨at1, rfl, ⟨_, at1, rfl⟩, call_meets F.slot_tuple_mul ⟨_, at1, rfl⟩ F.entry_tuple_mul (F.args_tuple_mul_2 _ _) (mul_none l items.toArray n dic slo t full) ⟨at1, ?_⟩⟩)
    exact ⟨.ref st.heap.objs.size, _, inv.laid (t' := st.toks) (o := .tup []) (fun b ob q => Heap.get?_push_of_some _ q) (Nat.le_refl _) ⟨Nat.zero_le _, [], .nil, IsTup.new _ _⟩, rfl, q2 (by decide) _ (inv.hok.fresh (Nat.le_refl _))⟩
  · subst e
    refine wpAny_binaryOp_repeat_ref (T := "tuple") (U := "int") (by decide) ⟨_, at1, rfl⟩ (fun s2 => typeIs_int s2 1 t) noFill_tuple_mul F.fills_int_mul F.slot_int_rmul repeat_tuple F.slot_int_index.lookup
      (call_meets F.slot_int_rmul (typeIs_int st 1 t) F.entry_int_rmul (F.args_int_rmul_2 _ _) (int_rmul_tuple 1 t l items.toArray n dic slo) ⟨at1, rfl, ⟨_, at1, rfl⟩, call_meets F.slot_tuple_mul ⟨_, at1, rfl⟩ F.entry_tuple_mul (F.args_tuple_mul_2 _ _) (mul_once l items.toArray n dic slo t) ⟨at1, ?_⟩⟩)
    exact ⟨.ref l, H, inv, rfl, q1 rfl⟩
theorem repAK {K : PySem.W.Frag} (h : X.K = K) : OpR X (binaryOp .Mult) (rRepA K) := by subst h; exact op_repA
end
end My
namespace My
open PyProof.Rows PySem.Spec PySem
abbrev freshSet (b : Bool) : Obj := { cls := Value.type "set", dict := Option.none, data := .set #[] 0 (.fresh 0 0 b) }
/-! ### len(set(t)), t a tuple of texts, each one once -/
section
variable {w : World} {prog : Program} {A : Around} {R : Result → Shared → Prop} {I : Addr} {fp wr : List Addr} {G : Array GenState → Array GenState → Prop} {n : Nat} {P : Nat → Value → Prop} {St : Nat → Shared → Prop}
theorem take_not {zs : List Str} (dist : zs.Nodup) {i : Nat} (hi : i < zs.length) : zs.getD i Str.empty ∉ zs.take i := by
  intro mem
  rw [List.getD_eq_getElem?_getD, List.getElem?_eq_getElem hi, Option.getD_some] at mem
  obtain ⟨j, ej⟩ := List.mem_iff_getElem?.mp mem
  rw [List.getElem?_take] at ej
  split at ej
  · rename_i lt
    obtain ⟨jl, e⟩ := List.getElem?_eq_some_iff.mp ej
    exact absurd e (List.pairwise_iff_getElem.mp dist j i jl hi lt)
  · cases ej
theorem take_next {zs : List Str} {i : Nat} (hi : i < zs.length) : zs.take (i + 1) = zs.take i ++ [zs.getD i Str.empty] := by
  rw [List.take_add_one, List.getD_eq_getElem?_getD, List.getElem?_eq_getElem hi]
  rfl
theorem loopD (walk : WalksS prog w A.in1 I fp wr G n P St) {S : Addr} (out : S ∉ fp) {zs : List Str} (dist : zs.Nodup) (len : zs.length = n) (room : n + 1 < scanBound)
    (what : ∀ i v, P i v → ∃ t, v = .str (zs.getD i Str.empty) t) (left : Nat) : ∀ (i : Nat) (s : Shared), i + left = n → St i s →
      s.heap.SetOf (PySem.strKind prog w) S (fun k => decide (k ∈ zs.take i)) i →
      (∀ s', Moved (S :: wr) G s s' → s'.heap.SetOf (PySem.strKind prog w) S (fun k => decide (k ∈ zs)) n → R (.ok (.ret .none)) s') →
      codeAny (model prog w) A (Code.builtin "set.update.loop" ⟨[.ref S, .ref I], []⟩) R s := by
  have apart : S ∉ wr := fun z => out (walk.sub S z)
  have keepS : ∀ (s s' : Shared) (T : Str → Bool) (m : Nat), Moved wr G s s' → s.heap.SetOf (PySem.strKind prog w) S T m → s'.heap.SetOf (PySem.strKind prog w) S T m :=
    fun s s' T m mv ⟨o, es, ep, t, at1, more⟩ => ⟨o, es, ep, t, mv.heap S o apart at1, more⟩
  induction left with
  | zero =>
    intro i s e st has go
    obtain rfl : i = n := e
    refine codeAny_builtin (PyProof.Rows.F.entry_set_update_loop) ?_
    rw [Around.under_plainId PyProof.Rows.F.plain_set_update_loop]
    refine wpAny_bind (walk.done s _ _ st fun s1 mv => wpAny_pure (go s1 (mv.mono fun b hb => .tail _ hb) ?_))
    have h1 := keepS _ _ _ _ mv has
    rw [List.take_of_length_le (Nat.le_of_eq len)] at h1
    exact h1
  | succ left rec =>
    intro i s e st has go
    have lt : i < n := by omega
    refine codeAny_builtin (PyProof.Rows.F.entry_set_update_loop) ?_
    rw [Around.under_plainId PyProof.Rows.F.plain_set_update_loop]
    refine wpAny_bind (walk.item i s _ _ lt st fun v s1 pv st1 mv => ?_)
    obtain ⟨t, ev⟩ := what i v pv
    subst ev
    have h1 := keepS _ _ _ _ mv has
    refine wpAny_bind (wpAny_holding (wpAny_holding (wpAny_bind ((PySem.strKind prog w).pyHash (k := zs.getD i Str.empty) (strKind_is _ _ _ _) ?_))))
    refine wpAny_setAddHashed_of (knd := PySem.strKind prog w) (s := { s1 with toks := s1.toks + 1 }) (strKind_is _ _ _ _) rfl h1 (by omega) fun h2 but set2 => ?_
    have no := take_not dist (show i < zs.length by omega)
    have set3 : h2.SetOf (PySem.strKind prog w) S (fun k => decide (k ∈ zs.take (i + 1))) (i + 1) := by
      refine SetOf_congr set2 (fun k => ?_) (by rw [decide_eq_false no, if_neg Bool.false_ne_true])
      rw [take_next (show i < zs.length by omega)]
      simp only [List.mem_append, List.mem_singleton, Bool.decide_or]
    refine wpAny_pure ⟨plainId_quiet PyProof.Rows.F.plain_set_update_loop _, rec (i + 1) _ (by omega) (walk.frame _ s1 _ _ st1 (Nat.le_succ _) fun b hb o eb => ?_) set3 fun s3 mv3 => ?_⟩
    · rw [but.2 b (fun z : b = S => out (z ▸ hb))]
      exact eb
    · refine go s3 (Moved.trans walk.gtrans ((mv.mono fun b hb => .tail _ hb).then_heap (Nat.le_succ _) fun b o hb eb => ?_) mv3)
      rw [but.2 b (fun z : b = S => hb (z ▸ List.mem_cons_self ..))]
      exact eb
end
section
variable {w : World} {prog : Program} {A : Around} {E : Value → Shared → Prop} {s : Shared}
set_option maxHeartbeats 3000000 in
theorem setD {l : Addr} {arr : Array Value} {zs : List Str} {Q : Value → Shared → Prop} (calm : A.handled = Option.none) (tup : s.heap.IsTuple l arr) (are : StrsAre arr.toList zs) (dist : zs.Nodup) (room : zs.length + 1 < scanBound)
    (go : ∀ (h2 : Heap) (tk : Nat), h2.SetOf (PySem.strKind prog w) s.heap.objs.size (fun k => decide (k ∈ zs)) zs.length → (∀ b o, b < s.heap.objs.size → s.heap.get? b = some o → h2.get? b = some o) → Q (.ref s.heap.objs.size) { s with heap := h2, toks := tk }) :
    wpAny (model prog w) A (call (Value.type "set") [Value.ref l]) Q E s := by
  have len : zs.length = arr.size := (StrsAre.len_eq are).symm.trans Array.length_toList
  obtain ⟨cls1, rest1, mro1⟩ := PySem.F.called_set.mro
  have made1 := PySem.F.called_set.made
  have sub1 := PySem.F.called_set.sub
  refine wpAny_call (codeAny_of_tree (wpAny_pure ⟨Code.quiet_builtin _ (by decide +kernel), codeAny_builtin PySem.F.entry_type_call ?_⟩))
  rw [Around.under_plain (weight_type_call_type "set" [Value.ref l] []) rfl]
  have not1 := PySem.F.called_set.notType
  have can1 := PySem.F.called_set.canCreate
  have call1 := PySem.F.typeCall_set_1 (.ref l)
  repeat any_goals (first | assumption | wp_step)
  refine codeAny_mono (code_set_new_1 (.ref l) (E := E) (Q₁ := fun obj st => ∃ b : Bool, obj = .ref s.heap.objs.size ∧ st = { s with heap := s.heap.push (freshSet b) }) fun b => ⟨b, rfl, rfl⟩) fun res st hres => ?_
  cases res with
  | error e => exact hres
  | ok fl =>
    cases fl with
    | ret obj =>
      obtain ⟨b, eo, es⟩ := hres
      subst eo es
      have atS : (s.heap.push (freshSet b)).get? s.heap.objs.size = some (freshSet b) := Heap.get?_push_size _ rfl
      have isS : Shared.TypeIs { s with heap := s.heap.push (freshSet b) } (.ref s.heap.objs.size) "set" := ⟨_, atS, rfl⟩
      have look1 := PySem.F.called_set.init.lookup
      have bind1 := PySem.F.called_set.init.bind (.ref s.heap.objs.size)
      repeat any_goals (first | assumption | wp_step)
      refine codeAny_mono (codeAny_call_builtin (R := wants (fun r st => r = .none ∧ ∃ h2 tk, st = { s with heap := h2, toks := tk } ∧ h2.SetOf (PySem.strKind prog w) s.heap.objs.size (fun k => decide (k ∈ zs)) zs.length ∧
          ∀ b o, b < s.heap.objs.size → s.heap.get? b = some o → h2.get? b = some o) E) PySem.F.called_set.init.plain PySem.F.entry_set_init (check_set_init_1 isS ?_)) fun res2 st2 hres2 => ?_
      · obtain ⟨⟨ocls, odic, odat, oslo⟩, at0, ec, nn, ed⟩ := tup
        simp only at ec ed
        subst ec ed
        have at1 := Heap.get?_push_of_some (freshSet b) at0
        have nosub1 := PySem.F.sub_tuple_set
        have nosub2 := PySem.F.sub_tuple_frozenset
        have nodict : (Value.type "tuple" == Value.type "dict") = false := by decide
        have tup1 : (s.heap.push (freshSet b)).IsTuple l arr := ⟨_, at1, rfl, nn, rfl⟩
        unfold Builtin.«set.__init__»
        unfold noKeywords Builtin.Frozenset.updateFrom
        generalize hold : pyIter = PIter
        wp_walk
        subst hold
        refine wpAny_pyIter_tuple tup1 (wpAny_bind (wpAny_runValue ?_))
        have lt0 : l < s.heap.objs.size := Heap.lt_size at0
        have calm3 : A.in1.in1.in1.handled = Option.none := by simp [calm]
        have neI : l ≠ (s.heap.push (freshSet b)).objs.size := by
          rw [Heap.size_push]
          exact fun z => Nat.lt_irrefl _ (Nat.lt_trans (z ▸ lt0 : s.heap.objs.size + 1 < s.heap.objs.size) (Nat.lt_succ_self _))
        have outS : s.heap.objs.size ∉ [(s.heap.push (freshSet b)).objs.size, l] := by
          rw [Heap.size_push]
          simp only [List.mem_cons, List.not_mem_nil, or_false]
          exact fun z => z.elim (fun y => absurd y (Nat.ne_of_lt (Nat.lt_succ_self _))) fun y => absurd y (Nat.ne_of_gt lt0)
        refine loopD ((Walks.tuple calm3 _ l neI arr).toS) outS dist len (by omega) (fun i v hv => SS.strs_at are i v (by rw [Array.getElem?_toList]; exact hv)) arr.size 0 _ (Nat.zero_add _) ⟨⟨_, Heap.get?_push_size _ rfl, rfl, rfl⟩, tup1.push _⟩ ?_ ?_
        · exact SetOf_congr ((setObjOf_fresh (knd := PySem.strKind prog w) b).setOf (Heap.get?_push_of_some _ atS) (by unfold scanBound; omega)) (fun k => by simp) rfl
        · intro s3 mv has
          obtain ⟨h3, g3, d3, t3, os3⟩ := s3
          obtain rfl : g3 = s.gens := mv.gens
          obtain rfl : d3 = s.drawn := mv.drawn
          obtain rfl : os3 = s.os := mv.os
          refine wpAny_pure (wpAny_pure ⟨rfl, h3, t3, rfl, by rw [len]; exact has, fun c o hc ec => ?_⟩)
          refine mv.heap c o ?_ (Heap.get?_push_of_some _ (Heap.get?_push_of_some _ ec))
          rw [Heap.size_push]
          simp only [List.mem_cons, List.not_mem_nil, or_false]
          exact fun z => z.elim (fun y => absurd y (Nat.ne_of_lt hc)) fun y => absurd y (Nat.ne_of_lt (Nat.lt_succ_of_lt hc))
      · cases res2 with
        | error e => exact hres2
        | ok fl2 =>
          cases fl2 with
          | ret r =>
            obtain ⟨er, h2, tk, e2, has, keep⟩ := hres2
            subst er e2
            repeat any_goals (first | assumption | wp_step)
            exact go _ _ has keep
          | _ => exact hres2.elim
    | _ => exact hres.elim
end
open L2
def tLenSetT (K : PySem.W.Frag) (ta : TE) : TE := fun σ H Q => ta σ H fun x H1 => ∃ (l : Addr) (zs : List Str), x = .ref l ∧ SqT K H1 l (zs.map V.str) ∧ zs.Nodup ∧ zs.length ≤ 1000 ∧ Q (.int (zs.length : Nat)) H1
section
variable {X : Cx}
theorem pe_lenSetT {K : PySem.W.Frag} (hK : X.K = K) {a : Expr} {ta : TE} {p p2 q pos : Pos} (calm : X.calm = true) (g1 : Gl X "len") (m1 : X.mg "len" = Option.none) (g2 : Gl X "set") (m2 : X.mg "set" = Option.none) (arg : PE X a ta)
    (one : starEach [a] X.env = (false, eval a X.env) :: starEach [] X.env := by rfl) : PE X (.Call (.Name "len" p) [.Call (.Name "set" p2) [a] [] q] [] pos) (tLenSetT K ta) := by
  subst hK
  refine ⟨fun pins s σ H Q inv hyp => Call_ (ld_blt inv g1 m1 boot_len ?_)⟩
  refine callWith_builtin1 (args_cons (Call_ (ld_blt inv g2 m2 boot_set ?_)) rfl) rfl rfl
  refine callWith_type1 (args_cons (thn (arg.run pins s σ H _ inv hyp) fun v s1 ⟨x, H1, inv1, rel, more⟩ => args_nil ?_) one) one rfl
  obtain ⟨l, zs, ex, seq, dist, small, fin⟩ := more
  subst ex
  cases rel
  obtain ⟨its, rv, plain, _⟩ := inv1.tuple seq
  refine setD (inv1.ok.hd calm) plain (by simpa using strsAre_of rv) dist (by unfold scanBound; omega) fun h2 tk has keep => args_nil ?_
  obtain ⟨o, es, ep, t, at1, exact1, dat, _, _, _, fits, cnt⟩ := has
  have inv2 : Inv X pins σ H1 { s1 with heap := h2, toks := tk } := inv1.kept fun b o eb => keep b o (Heap.lt_size eb) eb
  exact call_len_set at1 exact1 dat fits (by rw [cnt]; omega) ⟨.int (zs.length : Nat), H1, inv2.tok _, ⟨_, by rw [cnt]⟩, fin⟩
end
end My
namespace My
open PyProof.Rows PySem.Spec PySem L2
/-! ### t[::-1], t a tuple -/
section
variable {w : World} {prog : Program} {A : Around} {E : Value → Shared → Prop} {s : Shared}
theorem adjust_rev (n : Nat) : Builtin.Slice.sliceAdjust none none (-1) (n : Int) = ((n : Int) - 1, -1) := rfl
theorem places_rev (n : Nat) : Builtin.Slice.slicePlaces ((n : Int) - 1) (-1) (-1) = n := by
  unfold Builtin.Slice.slicePlaces; rw [if_neg (by decide)]
  split <;> simp <;> omega
theorem fm_congr {α β : Type} {f g : α → Option β} : ∀ {l : List α}, (∀ x ∈ l, f x = g x) → l.filterMap f = l.filterMap g
  | [], _ => rfl
  | x :: l, h => by rw [List.filterMap_cons, List.filterMap_cons, h x (List.mem_cons_self ..), fm_congr fun y hy => h y (List.mem_cons_of_mem _ hy)]
theorem pick_rev (xs : Array Value) : ((List.range xs.size).filterMap fun (k : Nat) => xs[((xs.size : Int) - 1 + (k : Int) * -1).toNat]?).toArray = xs.toList.reverse.toArray := by
  have all := PySem.W.krv_all xs.toList.reverse.toArray
  rw [List.size_toArray, List.length_reverse, Array.length_toList] at all
  refine congrArg List.toArray (Eq.trans (fm_congr fun k hk => ?_) all)
  have lt := List.mem_range.mp hk
  have r : xs.toList.reverse.toArray[k]? = xs.toList.reverse[k]? := by simp
  rw [show ((xs.size : Int) - 1 + (k : Int) * -1).toNat = xs.size - 1 - k by omega, r, List.getElem?_reverse (by rw [Array.length_toList]; exact lt), Array.length_toList, Array.getElem?_toList]
theorem applied_rev {sl : Addr} {u : Tok} {n : Nat} {Q : Int × Int × Nat → Shared → Prop} (sli : s.heap.IsSliceOf sl .none .none (.int (-1) u)) (go : Q ((n : Int) - 1, -1, n) s) : wpAny (model prog w) A (Builtin.Slice.sliceApplied (.ref sl) (pure (n : Int))) Q E s := by
  obtain ⟨o, at1, cls1, dat1⟩ := sli
  unfold Builtin.Slice.sliceApplied
  unfold Builtin.Slice.sliceFields
  refine wpAny_bind (wpAny_bind (wpAny_field at1 dat1 (x := .none) rfl (wpAny_bind (wpAny_field at1 dat1 (x := .none) rfl (wpAny_bind (wpAny_field at1 dat1 (x := .int (-1) u) rfl (wpAny_pure ?_)))))))
  refine wpAny_bind (slicePart_int ?_)
  show wpAny _ _ (if ((-1 : Int) == 0) = true then _ else _) _ _ s
  rw [if_neg (by decide)]
  refine wpAny_bind (slicePart_none (wpAny_bind (slicePart_none (wpAny_bind (wpAny_pure ?_)))))
  have e : (match Builtin.Slice.sliceAdjust none none (-1) (n : Int) with | (lo, hi) => (lo, (-1 : Int), Builtin.Slice.slicePlaces lo hi (-1))) = ((n : Int) - 1, -1, n) := by
    rw [adjust_rev]
    show ((n : Int) - 1, (-1 : Int), Builtin.Slice.slicePlaces ((n : Int) - 1) (-1) (-1)) = _
    rw [places_rev]
  have go2 := go
  rw [← e] at go2
  exact wpAny_pure go2
set_option maxHeartbeats 1600000 in
theorem item_rev {t sl : Addr} {arr : Array Value} {u : Tok} {Q : Value → Shared → Prop} (tup : IsTup s.heap t arr) (sli : s.heap.IsSliceOf sl .none .none (.int (-1) u)) (small : arr.size ≤ sizeLine)
    (go : Q (.ref s.heap.objs.size) { s with heap := s.heap.push { cls := .type "tuple", data := .seq arr.toList.reverse.toArray } }) : wpAny (model prog w) A (getItem (.ref t) (.ref sl)) Q E s := by
  have fits : sizeOk (.seq arr.toList.reverse.toArray) := by
    show arr.toList.reverse.toArray.size ≤ sizeLine
    rw [List.size_toArray, List.length_reverse, Array.length_toList]
    exact small
  have isS : s.TypeIs (.ref sl) "slice" := by
    obtain ⟨o, at1, cls1, _⟩ := id sli
    exact ⟨o, at1, cls1⟩
  unfold getItem
  try (with_reducible refine wpAny_holding ?_)
  first | (refine wpAny_bind (wpAny_pure ?_)) | skip
  refine wpAny_bind (wpAny_sequenceKey tup.typeIs (by decide) (wpAny_bind (wpAny_callSpecial?_slot (name := Str.ofString "__getitem__") tup.typeIs PyProof.Rows.slot_tuple_getitem
    (wpAny_call_entry PyProof.Rows.slot_tuple_getitem tup.typeIs entry_tuple_getitem ?_ (args_tuple_getitem _ _)))))
  show wpAny _ _ (Builtin.Tuple.tupleItemsOf (Value.ref t) >>= _) _ _ s
  refine wpAny_bind (tupleItemsOf_ tup (wpAny_bind (wpAny_typeOf isS ?_)))
  rw [if_pos (by decide)]
  refine wpAny_bind (applied_rev sli ?_)
  have no : ¬ ((((arr.size : Int) - 1 == 0) && ((-1 : Int) == 1) && (arr.size == arr.size)) = true) := by
    rw [show ((-1 : Int) == 1) = false from rfl, Bool.and_false, Bool.false_and]
    exact Bool.false_ne_true
  show wpAny _ _ (if ((((arr.size : Int) - 1 == 0) && ((-1 : Int) == 1) && (arr.size == arr.size)) = true) then _ else _) _ _ s
  rw [if_neg no, pick_rev]
  first | exact wpAny_bind (m := Builtin.Tuple.tupleExact _) (wpAny_newObj_type (wpAny_pure ⟨_, rfl, wpAny_pure go⟩) fits) | exact wpAny_bind (m := Builtin.Tuple.tupleExact _) (wpAny_newObj_type (wpAny_bind (wpAny_pure (wpAny_pure ⟨_, rfl, wpAny_pure go⟩))) fits) | exact wpAny_bind (wpAny_bind (m := Builtin.Tuple.tupleExact _) (wpAny_newObj_type (wpAny_pure (wpAny_pure ⟨_, rfl, wpAny_pure go⟩)) fits)) | exact wpAny_bind (wpAny_bind (m := Builtin.Tuple.tupleExact _) (wpAny_newObj_type (wpAny_pure ⟨_, rfl, wpAny_pure go⟩) fits))
end
def tRevT (K : PySem.W.Frag) (te : TE) : TE := fun σ H Q => te σ H fun x H1 => ∃ a xs, x = .ref a ∧ SqT K H1 a xs ∧ ∀ p, H1 p = Option.none → Q (.ref p) (upd H1 p (.tup xs.reverse))
theorem pe_revT {X : Cx} {K : PySem.W.Frag} (hK : X.K = K) {e : Expr} {te : TE} {k : Nat} {p1 p2 p3 pos : Pos} (he : PE X e te) : PE X (.Subscript e (.Slice Option.none Option.none (some (.UnaryOp .USub (.Constant (.int 1) k p1) p2)) p3) pos) (tRevT K te) := by
  subst hK
  refine ⟨fun pins s σ H Q inv hyp => Subscript_ (thn (he.run pins s σ H _ inv hyp) fun v s1 ⟨x, H1, inv1, rel, a, xs, ex, seq, go⟩ => ?_)⟩
  subst ex
  cases rel
  have step : PO X (some (.UnaryOp .USub (.Constant (.int 1) k p1) p2)) (tPart (tUn (rU fun i => .int (-i)) (tC (.int 1)))) := po_some (pe_un un_neg pe_int)
  refine wpAny_Slice (thn (po_none.run pins s1 σ H1 (fun o J => o = Option.none ∧ J = H1) inv1 ⟨rfl, rfl⟩) fun vl s2 ⟨l, J1, inv2, pl, el, e1⟩ => ?_)
  subst el e1
  refine thn (po_none.run pins s2 σ J1 (fun o J => o = Option.none ∧ J = J1) inv2 ⟨rfl, rfl⟩) fun vu s3 ⟨l2, J2, inv3, pu, eu, e2⟩ => ?_
  subst eu e2
  refine thn (step.run pins s3 σ J2 (fun o J => o = some (-1) ∧ J = J2) inv3 ⟨1, rfl, -1, rfl, rfl, rfl⟩) fun vs s4 ⟨o, J3, inv4, ps, eo, e3⟩ => ?_
  subst eo e3
  obtain ⟨tk, ek⟩ : ∃ t, vs = Value.int (-1) t := by
    cases ps
    exact ⟨_, rfl⟩
  have el : vl = Value.none := by
    cases pl
    rfl
  have eu : vu = Value.none := by
    cases pu
    rfl
  subst ek el eu
  have inv5 : L2.Inv X pins σ J3 { s4 with heap := s4.heap.push { cls := .type "slice", data := .fields #[Value.none, Value.none, Value.int (-1) tk] } } := inv4.kept (t' := s4.toks) fun b ob q => Heap.get?_push_of_some _ q
  obtain ⟨its, rv, tup, small⟩ := inv5.tuple seq
  show wpAny (model X.prog X.w) X.A (subscriptTail e (.Slice Option.none Option.none (some (.UnaryOp .USub (.Constant (.int 1) k p1) p2)) p3) (.ref a) (.ref s4.heap.objs.size)) (EP X pins σ Q) X.xe { s4 with heap := s4.heap.push { cls := .type "slice", data := .fields #[Value.none, Value.none, Value.int (-1) tk] } }
  refine tail_any (ops := [.ref a, .ref s4.heap.objs.size]) tup.typeIs PyProof.Rows.slot_tuple_getitem.lookup (item_rev tup (Heap.IsSliceOf.new _ Value.none Value.none (Value.int (-1) tk)) (by rw [List.size_toArray, ← rv.length]; exact small) ?_) (by with_unfolding_all rfl)
  refine ⟨.ref _, _, inv5.laid (t' := s4.toks) (o := .tup xs.reverse) (fun b ob q => Heap.get?_push_of_some _ q) (Nat.le_refl _) ⟨by rw [List.length_reverse]; exact small, _, rv.reverse, IsTup.new _ _⟩, rfl, go _ (inv5.hok.fresh (Nat.le_refl _))⟩
/-! ### o.m(p1=.., p2=..): a method, its arguments by name, in their order -/
structure MetN (P : Program) (w : World) (K : PySem.W.Frag) (mg : Str → Option Value) (base : Heap) (k : Nat) (C : Addr) (m : Str) (sp : Sp) (ks : List Str) (gV : List V → List V → List V) : Prop where
  ex : ∃ (f : Addr) (fd : FuncData) (ps : List Str) (g : List Value → List Value → List Value), Cls K C ∧ Meth K C m f ∧ FnOk P w K mg base C8.CX0 k f fd ps sp ∧ KBn K fd ps 1 ks g gV
def tMethN (C : Addr) (m : Str) (nk : Nat) (sp : Sp) (gV : List V → List V → List V) (ta : TE) (tk : TA) : TE := fun σ H Q => ta σ H fun x H1 => ∃ a dx fs, x = .ref a ∧ H1 a = some (.ins C dx fs) ∧ fs.lookup m = Option.none ∧
  tk σ H1 fun zs H2 => zs.length = nk ∧ sp (gV [V.ref a] zs) H2 Q C8.E0
def kwGm {α : Type} (us ws : List α) : List α := match us, ws with
  | [a], [x, y] => [a, x, y]
  | _, _ => []
theorem kwm_of {K : PySem.W.Frag} {x qual : Str} {params : Arguments} {body : List Stmt} {scope : Scope} {kws : List (Str × V)} {f : Addr} {fd : FuncData} {p0 p1 p2 : Str} (F : FunD K x qual params body scope [] kws f fd)
    (h : ∀ (kV doc pm : Value) (an : Option Addr) (cdv ct : Value) (a u v : Value), bindArgs (PySem.W.fnOf x qual params body scope .none kV doc pm an cdv ct) ⟨[a], [(p1, u), (p2, v)]⟩ = pure [(p0, a), (p1, u), (p2, v)]) : KBn K fd [p0, p1, p2] 1 [p1, p2] kwGm kwGm := by
  obtain ⟨oc, od, dV, kV, doc, pm, an, cdv, ct, osl, efd, lk, hcd, hD, hK⟩ := F.ex
  subst efd
  rcases hD with ⟨_, ed⟩ | ⟨e, _⟩
  · subst ed
    refine ⟨fun s us ws _ l1 l2 => ?_, fun {vs us zs ws} r1 r2 => ?_⟩
    · match us, ws, l1, l2 with
      | [a], [u, v], _, _ => exact .of_eq (h kV doc pm an cdv ct a u v)
    · match vs, us, zs, ws, r1, r2 with
      | [], _, _, _, .nil, _ => exact .nil
      | [_], _, [], _, .cons _ .nil, .nil => exact .nil
      | [_], _, [_], _, .cons _ .nil, .cons _ .nil => exact .nil
      | [_], _, [_, _], _, .cons a .nil, .cons b (.cons c .nil) => exact .cons a (.cons b (.cons c .nil))
      | [_], _, _ :: _ :: _ :: _, _, .cons _ .nil, .cons _ (.cons _ (.cons _ _)) => exact .nil
      | _ :: _ :: _, _, _, _, .cons _ (.cons _ _), _ => exact .nil
  · exact absurd rfl e
theorem pe_mtN {X : Cx} {k j : Nat} {C : Addr} {m : Str} {sp : Sp} {ks : List Str} {gV : List V → List V → List V} {o : Expr} {ta : TE} {tk : TA} {kws : List Keyword} {apos pos : Pos} {pl : Sem Bool} (c : MetN X.prog X.w X.K X.mg X.base k C m sp ks gV) (hr : Room j X.A) (hk : k ≤ j) (he : PE X o ta) (hkw : PK X kws tk)
    (hall : (backToKw pos (keywordEach kws X.env)).all (·.1.isSome) = true := by rfl) (hks : (backToKw pos (keywordEach kws X.env)).filterMap (·.1) = ks := by rfl)
    (hpl : ((backTo pos (starEach [] X.env)).any (·.1) || (backToKw pos (keywordEach kws X.env)).any (·.1.isNone)) = false := by rfl)
    (ht : eval (.Call (.Attribute o m apos) [] kws pos) X.env = (do
      let ov ← eval o X.env
      standAt apos.atName
      let (f, first) ← holding [ov] (getMethod ov m (pl))
      callWith pos f first (backTo pos (starEach [] X.env)) (backToKw pos (keywordEach kws X.env))) := by rfl) : PE X (.Call (.Attribute o m apos) [] kws pos) (tMethN C m ks.length sp gV ta tk) := by
  obtain ⟨f, fd, ps, g, cl, hm, F, hb⟩ := c.ex
  refine ⟨fun pins s σ H Q inv hyp => PySem.W.methodCall_KW (pl := pl) (thn (he.run pins s σ H _ inv hyp) fun u s1 ⟨x, H1, inv1, rx, a, dx, fs, ex, ea, lk, more⟩ => ?_) ht⟩
  subst ex
  cases rx
  refine getmeth_ok inv1 ea cl hm lk ?_
  refine PySem.W.callWith_KW0 (first := [Value.ref a]) (h₀ := X.base) inv.ok.mod.kin hm.kp hall (thn (hkw.run pos pins s1 σ H1 _ inv1 more) fun ws s2 ⟨zs, H2, inv2, rz, len, fin⟩ => ⟨inv2.kIn, ?_⟩) hpl
  rw [hks]
  have pass : Passes C8.CX0 X C8.E0 := C8.pass0
  have rel := hb.rel (vs := [V.ref a]) (us := [Value.ref a]) (.cons rfl .nil) rz
  refine wpAny_call (codeAny_mono (F.run X.A X.stack s2 H2 ⟨[Value.ref a], ks.zip ws⟩ (g [Value.ref a] ws) (gV [V.ref a] zs) Q C8.E0 (hr.mono hk) inv2.env0 (hb.to s2 [Value.ref a] ws inv2.kIn rfl (rz.length.symm.trans len)) rel fin) fun res s3 hres => ?_)
  cases res with
  | error e => exact pass pins σ H2 s2 e s3 inv2 hres
  | ok fl =>
    cases fl with
    | ret u => exact inv2.after hres
    | _ => exact False.elim hres
/-! ### C(k=.., ..): an instance, all arguments by name -/
theorem pe_mkK {X : Cx} {k j : Nat} {x : Str} {C : Addr} {sp : Sp} {ks : List Str} {gV : List V → List V → List V} {p pos : Pos} {kws : List Keyword} {tk : TA} (c : MakN X.prog X.w X.K X.mg X.base k x C sp 0 ks gV) (hr : Room j X.A) (hk : k + 1 ≤ j) (hg : Gl X x) (hkw : PK X kws tk)
    (hall : ((backToKw pos (keywordEach kws X.env)).all (·.1.isSome)) = true := by rfl) (hks : (backToKw pos (keywordEach kws X.env)).filterMap (·.1) = ks := by rfl) (hdb : (x == ("__debug__" : Str)) = false := by decide)
    (hpl : ((backTo pos (starEach [] X.env)).any (·.1) || (backToKw pos (keywordEach kws X.env)).any (·.1.isNone)) = false := by rfl) : PE X (.Call (.Name x p) [] kws pos) (tMakeK C 0 ks.length sp gV C8.E0 tNil tk) := by
  obtain ⟨f, fd, ps, g, M, F, hm, hb⟩ := c.ex
  exact pe_makeK0 M F (hr.mono hk) hg hm hb C8.pass0 hkw hall hks hdb hpl
/-! ### + of tuples and parts of them, over a K of its own -/
theorem catTK {X : Cx} {K : PySem.W.Frag} (h : X.K = K) : OpR X (binaryOp .Add) (rCatT K) := by subst h; exact op_catT
theorem slTK {X : Cx} {K : PySem.W.Frag} (h : X.K = K) : SlR X (rSlT K) := by subst h; exact sl_tup
end My
namespace My
open PyProof.Rows PySem.Spec PySem L2
section
variable {X : Cx} {K : PySem.W.Frag} {o e : Expr} {to te : TE} {apos pos : Pos}
/-! ### sep.join(xs) -/
def rJoin (K : PySem.W.Frag) : V → List V → Hp → VK → Prop := fun x xs H Q => ∃ a p, ∃ ys : List Str, x = .str a ∧ xs = [.ref p] ∧ (SqL K H p (ys.map V.str) ∨ SqT K H p (ys.map V.str)) ∧ (ys.map (·.length)).sum + ys.length * a.length ≤ 16777216 ∧ Q (.str (Txt.join a ys)) H
theorem pe_joinK (h : X.K = K) (ho : PE X o to) (he : PE X e te) (hs : starEach [e] X.env = [(false, eval e X.env)] := by rfl) (hbase : attributeBase o "join" X.env (eval o X.env) = eval o X.env := by rfl) (hline : (apos.endLine == pos.line) = true := by rfl) :
    PE X (.Call (.Attribute o "join" apos) [e] [] pos) (tM1 (rJoin K) to te) := by
  subst h
  exact pe_join ho he hs hbase hline
end
end My
namespace My
open PyProof.Rows PySem.Spec PySem L2
section
variable {X : Cx} {K : PySem.W.Frag}
/-! ### xs[i], xs a list or a tuple -/
def rIxB (K : PySem.W.Frag) : R2 := fun x y H Q => rIxL K x y H Q ∨ rIxT K x y H Q
theorem ix_bothK (h : X.K = K) : IxR X (rIxB K) := by
  subst h
  intro value slice pins s σ H x y v u Q I rx ry hw hs
  rcases hw with hw | hw
  · exact ix_list value slice pins s σ H x y v u Q I rx ry hw hs
  · exact ix_tup value slice pins s σ H x y v u Q I rx ry hw hs
end
end My
namespace My
open PyProof.Rows PySem.Spec PySem L2
/-! ### f(a=..): the only argument by name -/
def kwG1 {α : Type} (us ws : List α) : List α := match us, ws with
  | [], [x] => [x]
  | _, _ => []
structure CalK1 (P : Program) (w : World) (K : PySem.W.Frag) (mg : Str → Option Value) (base : Heap) (k : Nat) (x : Str) (sp : Sp) (p1 : Str) : Prop where
  ex : ∃ (f : Addr) (fd : FuncData), FnOk P w K mg base C8.CX0 k f fd [p1] sp ∧ mg x = some (.ref f) ∧ PySem.W.keepIn K (.ref f) = true ∧ KBinds K fd [p1] [p1] kwG1 kwG1
theorem kw1_of {K : PySem.W.Frag} {x qual : Str} {params : Arguments} {body : List Stmt} {scope : Scope} {kws : List (Str × V)} {f : Addr} {fd : FuncData} {p1 : Str} (F : FunD K x qual params body scope [] kws f fd)
    (h : ∀ (kV doc pm : Value) (an : Option Addr) (cdv ct : Value) (u : Value), bindArgs (PySem.W.fnOf x qual params body scope .none kV doc pm an cdv ct) ⟨[], [(p1, u)]⟩ = pure [(p1, u)]) : KBinds K fd [p1] [p1] kwG1 kwG1 := by
  obtain ⟨oc, od, dV, kV, doc, pm, an, cdv, ct, osl, efd, lk, hcd, hdv, hK⟩ := F.ex
  subst efd
  rcases hdv with ⟨_, edv⟩ | ⟨e, _⟩
  · subst edv
    refine ⟨fun s us ws _ len => ?_, fun {vs us zs ws} r1 r2 => ?_⟩
    · match us, ws, len with
      | [], [u], _ => exact .of_eq (h kV doc pm an cdv ct u)
    · match vs, us, zs, ws, r1, r2 with
      | [], _, [], _, .nil, .nil => exact .nil
      | [], _, [_], _, .nil, .cons a .nil => exact .cons a .nil
      | [], _, _ :: _ :: _, _, .nil, .cons _ (.cons _ _) => exact .nil
      | _ :: _, _, _, _, .cons _ _, _ => exact .nil
  · exact absurd rfl e
theorem pe_kw1 {X : Cx} {k j : Nat} {x p1 : Str} {sp : Sp} {p pos : Pos} {kws : List Keyword} {tk : TA} (c : CalK1 X.prog X.w X.K X.mg X.base k x sp p1) (hr : Room j X.A) (hk : k ≤ j) (hg : Gl X x) (hkw : PK X kws tk)
    (hall : (backToKw pos (keywordEach kws X.env)).all (·.1.isSome) = true := by rfl) (hks : (backToKw pos (keywordEach kws X.env)).filterMap (·.1) = [p1] := by rfl) (hdb : (x == ("__debug__" : Str)) = false := by decide)
    (hpl : ((backTo pos (starEach [] X.env)).any (·.1) || (backToKw pos (keywordEach kws X.env)).any (·.1.isNone)) = false := by rfl) : PE X (.Call (.Name x p) [] kws pos) (tCallK sp kwG1 C8.E0 tNil tk) := by
  obtain ⟨f, fd, F, hm, kp, hb⟩ := c.ex
  refine ⟨fun pins s σ H Q inv hyp => ?_⟩
  refine wpAny_Call_Name_kw (ld_glob inv hg hm ?_ hdb)
  refine PySem.W.callWith_KW0 (h₀ := X.base) inv.ok.mod.kin kp hall (thn (hkw.run pos pins s σ H _ inv hyp) fun ws s2 ⟨zs, H2, inv2, rz, q2⟩ => ⟨inv2.kIn, ?_⟩) hpl
  rw [hks]
  exact run_fnk (us := []) F (hr.mono hk) hb C8.pass0 inv2 .nil rz q2
end My
namespace My
open PyProof.Rows PySem.Spec PySem L2
/-! ### for i, x in enumerate(t, start=k), t a tuple -/
/-- the tuple at a, each item in a new pair, counted from k on -/
def IteT (K : PySem.W.Frag) (a : Addr) (k : Int) : It :=
  ⟨fun i H => ∃ (xs : List V) (x : V), SqT K H a xs ∧ xs[i]? = some x,
   fun i H v H' => ∃ T x, v = .ref T ∧ H T = Option.none ∧ H' = upd H T (.tup [.int (k + ((i : Nat) : Int)), x]) ∧ ∀ xs, SqT K H a xs → xs[i]? = some x,
   fun i H => ∃ xs : List V, SqT K H a xs ∧ xs.length ≤ i⟩
theorem enumT_end {prog : Program} {w : World} {A : Around} {E : Value → Shared → Prop} {s : Shared} {e it a : Addr} {c : Int} {i : Nat} {items : Array Value} {old : Value} {Q : Option Value → Shared → Prop} (calm : A.handled = Option.none) (isE : IsEnum s.heap e it c old)
    (isI : s.heap.IsTupleIter it a i) (tupIs : s.heap.IsTuple a items) (over : items[i]? = Option.none) (go : ∀ h', Heap.ExtBut it s.heap h' → Q Option.none { s with heap := h' }) : wpAny (model prog w) A (pyNext (.ref e)) Q E s := by
  have typ : s.TypeIs (.ref e) "enumerate" := ⟨_, isE, rfl⟩
  unfold pyNext
  refine wpAny_bind (wpAny_attempt (wpAny_callSpecial?_slot (name := Str.ofString "__next__") typ F.slot_enumerate_next (wpAny_call_entry F.slot_enumerate_next typ F.entry_enumerate_next ?_ (F.args_enumerate_next_1 _))))
  show wpAny _ _ (field (Value.ref e) 2 >>= _) _ _ _
  refine wpAny_bind (wpAny_field isE rfl (x := .ref it) rfl (wpAny_bind (wpAny_nextOf_tuple_end calm isI tupIs over fun h' x ext raised => ?_)))
  obtain ⟨ob, at0, cls0⟩ := raised
  exact wpAny_bind (wpAny_isInstance (T := "StopIteration") (b := true) ⟨ob, at0, cls0⟩ isSubtype_stop (wpAny_pure (go _ ext)))
theorem turn_enumT {P : Program} {w : World} {K : PySem.W.Frag} {elts : List Expr} {kk : Nat} {tpos : Pos} (a e it : Addr) (k : Int) :
    Turn P w K (.Tuple elts kk tpos) (IteT K a k) [e, it] e (fun i h => (∃ old, IsEnum h e it (k + ((i : Nat) : Int)) old) ∧ h.IsTupleIter it a i ∧ e ≠ it ∧ a ≠ it ∧ e ≠ a) where
  mem := List.mem_cons_self ..
  obj := fun i h st b hb => by
    obtain ⟨⟨old, isE⟩, ⟨ob, atI, clsI, datI⟩, _⟩ := st
    rcases (by simpa using hb : b = e ∨ b = it) with z | z
    · subst z; exact ⟨_, isE, fun v bad => nomatch bad⟩
    · subst z; exact ⟨ob, atI, fun v bad => by rw [datI] at bad; cases bad⟩
  keep := fun i h h' st kp => let ⟨⟨old, isE⟩, isI, ne⟩ := st; ⟨⟨old, kp e (by simp) _ isE⟩, isI.at fun ob at0 => kp it (by simp) ob at0, ne⟩
  item := by
    intro X eP eW eK calm i pins s σ H E inv fpo st going
    subst eP eW eK
    obtain ⟨⟨old, isE⟩, isI, nei, nai, nea⟩ := st
    obtain ⟨xs, x, seq, at1⟩ := going
    obtain ⟨its, rv, tupIs, small⟩ := inv.tuple seq
    obtain ⟨u, atU, relU⟩ := rv.get at1
    have eLt : e < s.heap.objs.size := Heap.lt_size isE
    have iLt : it < s.heap.objs.size := by obtain ⟨_, at0, _⟩ := isI; exact Heap.lt_size at0
    have tupIs2 : s.heap.IsTuple a its.toArray := tupIs
    have lt1 : i < its.toArray.size := by
      have := (List.getElem?_eq_some_iff.mp atU).1
      simpa using this
    refine wpAny_pyNext_enum_itemC (Draws.tuple (A := X.A.in1) (show X.A.in1.handled = Option.none from inv.ok.hd calm) it a nai its.toArray) isE ⟨isI, tupIs2⟩ lt1 nei (by simp; exact ⟨nei, nea⟩) fun x1 h' tk drew out' st' atT size' rest => ?_
    have ex : x1 = u := by
      have e1 : its.toArray[i]? = some x1 := drew
      rw [List.getElem?_toArray, atU] at e1
      exact (Option.some.inj e1).symm
    subst ex
    refine ⟨_, rfl, wpAny_letOwnedTupleGo_enum (s := { s with heap := h', toks := tk + 1 }) out' fun h2 isE2 same2 => ?_⟩
    have atT2 : h2.get? s.heap.objs.size = some { cls := .type "tuple", data := .seq #[.int (k + ((i : Nat) : Int)) tk, x1] } := (same2.2 _ (Nat.ne_of_gt eLt)).trans atT
    have fresh1 : ObjOk X.prog X.w (upd H s.heap.objs.size (.tup [.int (k + ((i : Nat) : Int)), x])) h2 s.heap.objs.size (.tup [.int (k + ((i : Nat) : Int)), x]) :=
      ⟨by show 2 ≤ sizeLine; decide, [.int (k + ((i : Nat) : Int)) tk, x1], .cons ⟨_, rfl⟩ (.cons relU .nil), ⟨_, atT2, rfl, _, rfl⟩⟩
    have inv1 : Inv X pins σ (upd H s.heap.objs.size (.tup [.int (k + ((i : Nat) : Int)), x])) { s with heap := h2, toks := tk + 1 } :=
      inv.turnedNew (ch := [e, it]) (fun b ob nb at0 => (same2.2 b (fun z => nb (by simp [z]))).trans (rest b ob (fun z => nb (by simp [z])) (fun z => nb (by simp [z])) at0)) fpo (Nat.le_refl _) fresh1
    refine ⟨.ref s.heap.objs.size, _, inv1, rfl, ⟨_, x, rfl, inv.hok.fresh (Nat.le_refl _), rfl, fun ys sq => by rw [inv.tuple_inj sq seq]; exact at1⟩, ⟨⟨x1, ?_⟩, st'.1.at fun ob at0 => (same2.2 it (Ne.symm nei)).trans at0, nei, nai, nea⟩, fun b hb => ?_⟩
    · have e1 : k + (((i + 1 : Nat)) : Int) = k + (i : Int) + 1 := by omega
      rw [e1]
      exact isE2
    · have lt2 : b < s.heap.objs.size := by
        rcases (by simpa using hb : b = e ∨ b = it) with z | z
        · subst z; exact eLt
        · subst z; exact iLt
      rw [upd_ne (Nat.ne_of_lt lt2)]
      exact (fpo b hb).1
  done := by
    intro X eP eW eK calm i pins s σ H E inv fpo st stops
    subst eP eW eK
    obtain ⟨⟨old, isE⟩, isI, nei, nai, nea⟩ := st
    obtain ⟨xs, seq, over⟩ := stops
    obtain ⟨its, rv, tupIs, small⟩ := inv.tuple seq
    have len := rv.length
    refine enumT_end (inv.ok.hd calm) isE isI (show s.heap.IsTuple a its.toArray from tupIs) (by simp; omega) fun h' same => ⟨rfl, ?_⟩
    obtain ⟨f0, f1, f2, f3, f4, f5⟩ := fpo it (by simp)
    exact inv.turned (t' := s.toks) (fun b ob nb at0 => same b ob nb at0) f0 f1 f3 f4 f5
  self := fun A i s Q E st hyp => let ⟨⟨_, isE⟩, _⟩ := st; wpAny_pyIter_enum isE hyp
/-- a call of a built-in class, the last arguments by name -/
theorem callTyKw {M : Model} {A : Around} {E : Value → Shared → Prop} {s : Shared} {env : Env} {pos : Pos} {T : String} {e : Expr} {rest : List Expr} {kws : List Keyword} {Q : Value → Shared → Prop}
    (hyp : wpAny M A (spliced (backTo pos (starEach (e :: rest) env))) (fun vs s1 => wpAny M A (evalAll ((backToKw pos (keywordEach kws env)).map (·.2))) (fun us s2 => wpAny M A (call (.type T) vs (((backToKw pos (keywordEach kws env)).filterMap (·.1)).zip us)) Q E s2) E s1) E s)
    (first : backTo pos (starEach (e :: rest) env) = (false, eval e env) :: backTo pos (starEach rest env)) (plain : (backTo pos (starEach (e :: rest) env)).any (·.1) = false)
    (named : (backToKw pos (keywordEach kws env)).all (·.1.isSome) = true) (noStars : (backToKw pos (keywordEach kws env)).any (·.1.isNone) = false) :
    wpAny M A (callWith pos (.type T) [] (backTo pos (starEach (e :: rest) env)) (backToKw pos (keywordEach kws env))) Q E s := by
  have args : wpAny M A (evalArgs (.type T) true (backTo pos (starEach (e :: rest) env)) (backToKw pos (keywordEach kws env))) (fun a s1 => wpAny M A (call (.type T) ([] ++ a.pos) a.kw) Q E s1) E s := by
    rw [first] at hyp ⊢
    exact evalArgs_kwB named hyp
  unfold callWith
  refine wpAny_bind (wpAny_holding (wpAny_mono args (fun a s1 h1 => wpAny_bind (wpAny_standAt ?_)) fun _ _ bad => bad))
  simp only [plain, noStars, Bool.or_false]
  exact wpAny_bind (wpAny_pure (wpAny_bind (wpAny_mono h1 (fun r s2 h2 => wpAny_bind (wpAny_holding (wpAny_point (wpAny_pure h2)))) fun _ _ bad => bad)))
/-- enumerate(t, start=k) -/
def iEnumT (K : PySem.W.Frag) (ta tk : TA) : TI := fun σ H R => ta σ H fun vs H1 => tk σ H1 fun zs H2 => ∃ a xs k, vs = [.ref a] ∧ zs = [.int k] ∧ -(2 ^ 63) ≤ k ∧ k < 2 ^ 63 ∧ SqT K H2 a xs ∧ R (IteT K a k) H2
theorem pi_enumT {X : Cx} {K : PySem.W.Frag} {e : Expr} {ta tk : TA} {p pos tpos : Pos} {elts : List Expr} {kk : Nat} {kws : List Keyword} (h : X.K = K) (hg : Gl X "enumerate") (hm : X.mg "enumerate" = Option.none) (ha : PA X [e] ta) (hk : PK X kws tk)
    (he : backTo pos (starEach [e] X.env) = (false, eval e X.env) :: backTo pos (starEach [] X.env) := by rfl) (hpl : (backTo pos (starEach [e] X.env)).any (·.1) = false := by rfl)
    (hall : (backToKw pos (keywordEach kws X.env)).all (·.1.isSome) = true := by rfl) (hnone : (backToKw pos (keywordEach kws X.env)).any (·.1.isNone) = false := by rfl) (hks : (backToKw pos (keywordEach kws X.env)).filterMap (·.1) = [Str.ofString "start"] := by rfl) :
    PI X (.Tuple elts kk tpos) (.Call (.Name "enumerate" p) [e] kws pos) (iEnumT K ta tk) := by
  subst h
  refine ⟨fun pins s σ H R inv hyp => ?_⟩
  refine wpAny_Call_Name_kw (ld_blt inv hg hm boot_enumerate ?_)
  refine callTyKw (thn (ha.run pos pins s σ H _ inv hyp) fun us s1 ⟨vs, H1, inv1, r1, q1⟩ => thn (hk.run pos pins s1 σ H1 _ inv1 q1) fun ws s2 ⟨zs, H2, inv2, r2, q2⟩ => ?_) he hpl hall hnone
  rw [hks]
  obtain ⟨a, xs, k, ev, ez, k0, k1, seq, go⟩ := q2
  subst ev ez
  cases r1 with
  | cons ra rr =>
    cases rr
    cases ra
    cases r2 with
    | cons rk rr =>
      cases rr
      obtain ⟨tk1, ek⟩ := rk
      subst ek
      obtain ⟨its, rv, tupIs, small⟩ := inv2.tuple seq
      have tup2 : s2.heap.IsTuple a its.toArray := tupIs
      have aLt : a < s2.heap.objs.size := by obtain ⟨_, at0, _⟩ := tup2; exact Heap.lt_size at0
      refine enum_begins_start (begins_tuple a its.toArray) tup2 k0 k1 fun h' isE atI size' rest => wpAny_pyIter_enum isE ?_
      have inv3 : Inv X pins σ H2 { s2 with heap := h' } := inv2.kept (t' := s2.toks) rest
      refine ⟨s2.heap.objs.size + 1, [s2.heap.objs.size + 1, s2.heap.objs.size], _, _, H2, rfl, inv3, turn_enumT a (s2.heap.objs.size + 1) s2.heap.objs.size k, ⟨⟨.none, ?_⟩, ⟨_, atI, rfl, rfl⟩, Nat.succ_ne_self _, Nat.ne_of_lt aLt, Nat.ne_of_gt (Nat.lt_succ_of_lt aLt)⟩, fun b hb => ?_, go⟩
      · have e0 : k + ((0 : Nat) : Int) = k := by omega
        rw [e0]
        exact isE
      · have le1 : s2.heap.objs.size ≤ b := by
          rcases (by simpa using hb : b = s2.heap.objs.size + 1 ∨ b = s2.heap.objs.size) with z | z
          · rw [z]; exact Nat.le_add_right _ 1
          · rw [z]; exact Nat.le_refl _
        exact inv2.fpOk le1 (inv2.hok.fresh le1)
theorem walk_enumT {K : PySem.W.Frag} {a : Addr} {xs : List V} {k : Int} : Walk (IteT K a k) xs.length (fun H => SqT K H a xs) (YPair (fun i => some (.int (k + ((i : Nat) : Int)))) (fun i => xs[i]?)) := by
  refine ⟨fun i _ lt seq => ⟨xs, xs[i], seq, by simp [lt]⟩, fun _ seq => ⟨xs, seq, Nat.le_refl _⟩, fun i H v H' _ seq drew => ?_⟩
  obtain ⟨T, x, e1, e2, e3, at1⟩ := drew
  exact ⟨T, .int (k + ((i : Nat) : Int)), x, e1, e2, e3, rfl, at1 xs seq⟩
theorem len_anyK {X : Cx} {K : PySem.W.Frag} (h : X.K = K) : CallR X (.builtin "len") (fun xs H Q => ∃ x n, xs = [x] ∧ LenV K x H n ∧ Q (.int n) H) := by
  subst h
  exact call_len
/-! ### what isinstance asks of an instance; == by an own __eq__ -/
def insB (K : PySem.W.Frag) (C : Addr) : Bool := He.eqO (PySem.W.findIn K (.ref C) "__class__") (some (some (.builtin "object.__class__"))) && (He.eqO (PySem.W.specialIn K (.builtin "object.__class__") "__get__") (some (some (.builtin "getset_descriptor.__get__"))) &&
  (decide (PySem.W.takesIn K (.builtin "object.__class__") = some true) && decide (PySem.W.mroIn K C (.type "object") = some true)))
theorem insB_ty {K : PySem.W.Frag} {C : Addr} (ok : insB K C = true) (cl : Cls K C) {H : Hp} {a dx : Addr} {fs : List (Str × V)} (e : H a = some (.ins C dx fs)) : TyX K H (.ref a) (.ref C) := by
  obtain ⟨c1, ok⟩ := He.ba ok
  obtain ⟨c2, ok⟩ := He.ba ok
  obtain ⟨c3, c4⟩ := He.ba ok
  exact .base (.ins e cl (He.eqO_ok c1) (He.eqO_ok c2) (of_decide_eq_true c3) (of_decide_eq_true c4))
theorem kit_own {K : PySem.W.Frag} {C : Addr} : PySem.W.kitOne K (.ref C) (.ref C) = some true := by
  unfold PySem.W.kitOne
  exact if_pos (by simp)
theorem op_eqIns {X : Cx} {k j : Nat} {C : Addr} {R : Addr → Addr → Hp → Prop} (c : C8.Met X.prog X.w X.K X.mg X.base k C "__eq__" (spEq R) []) (room : Room j X.A) (hk : k ≤ j) : OpR X (compareOp .Eq) (rEqG (DIns C R)) := by
  obtain ⟨f, fd, ps, ds, cl, me, F, b, d⟩ := c.ex
  cases d
  exact op_eqG (rcG_ins (E := C8.E0) F me.at_ me.fn b C8.pass0) (room.mono hk)
theorem list_indexK {X : Cx} {K : PySem.W.Frag} (h : X.K = K) : MtR X "list.index" (rIndex K) := by subst h; exact mt_index
/-! ### dicts of the top: the Hook, and what their items are -/
abbrev AlK : Type := He.AlD × Bool × List (Option (List (Option (Str × Int))))
def tabsOf (ts : List He.Tab) (K : PySem.W.Frag) : List (Option (List (Option (Str × Int)))) := ts.map fun t => He.dicW K (t.1 K)
def tabsDue (ts : List He.Tab) (w : World) : List (Option (List (Option (Str × Int)))) := ts.map fun t => some (He.keysIn w.params t.2)
def obsDG3 (n : Nat) (fa : List He.Fa) (fn : List He.DefD) (ex : PySem.W.Frag → Bool) (ts : List He.Tab) (g : Addr → Option Obj) : AlK := (fun K => (He.obsD fa fn K, ex K, tabsOf ts K)) (He.frG g (He.asD g n))
def hookD3 (n : Nat) (fa : List He.Fa) (fn : List He.DefD) (ex : PySem.W.Frag → Bool) (ts : List He.Tab) : PySem.W.Hook where
  α := AlK
  obs := fun s => obsDG3 n fa fn ex ts s.heap.get?
  val := fun w => (He.valD fn, true, tabsDue ts w)
  says := fun w h => ∃ K : PySem.W.Frag, K.In h ∧ (He.SaysD fa fn K ∧ ex K = true) ∧ tabsOf ts K = tabsDue ts w
  of := fun _ _ e => ⟨_, He.frG_in, ⟨congrArg (fun z : AlK => z.1) e, congrArg (fun z : AlK => z.2.1) e⟩, congrArg (fun z : AlK => z.2.2) e⟩
  keeps := fun _ _ _ ⟨F, inF, both⟩ more => ⟨F, PySem.W.Frag.In.keeps inF more, both⟩
theorem obsDG3_eq {n : Nat} {fa : List He.Fa} {fn : List He.DefD} {ex : PySem.W.Frag → Bool} {ts : List He.Tab} {g : Addr → Option Obj} {s : Shared} (h : ∀ a, g a = s.heap.get? a) : obsDG3 n fa fn ex ts g = (hookD3 n fa fn ex ts).obs s := by
  have look : g = s.heap.get? := funext fun a => h a
  rw [look]
  rfl
theorem tab_ix {ts : List He.Tab} {K : PySem.W.Frag} {w : World} (h : tabsOf ts K = tabsDue ts w) (i : Nat) {t : He.Tab} (e : ts[i]? = some t) : ∃ es n, KDict K w (t.1 K) es n := by
  have e2 : (tabsOf ts K)[i]? = (tabsDue ts w)[i]? := by rw [h]
  unfold tabsOf tabsDue at e2
  rw [List.getElem?_map, List.getElem?_map, e] at e2
  exact He.dicW_ok (Option.some.inj e2)
def rInKD (K : PySem.W.Frag) (d : Addr) : R2 := fun x y H Q => ∃ (z : Str) (r : Option Value), x = .str z ∧ y = .ref d ∧ PySem.W.nsIn K d z = some r ∧ Q (.bl r.isSome) H
theorem op_inKD {X : Cx} {K : PySem.W.Frag} {w : World} {d : Addr} (h : X.K = K) (hw : X.w = w) (D : ∃ es n, KDict K w d es n) : OpR X (compareOp .In) (rInKD K d) := by
  subst h hw
  obtain ⟨es, n, D⟩ := D
  exact op_in_kd D
theorem ix_kdictK {X : Cx} {K : PySem.W.Frag} {w : World} (h : X.K = K) (hw : X.w = w) : IxR X (rIxD K w) := by
  subst h hw
  exact ix_kdict
theorem kdct_of {K : PySem.W.Frag} {w : World} {d : Addr} {z : Str} {u : Value} {v : V} (D : ∃ es n, KDict K w d es n) (e : PySem.W.nsIn K d z = some (some u)) (q : RelV v u) : KDct K w d z v := by
  obtain ⟨es, n, D⟩ := D
  exact ⟨es, n, u, D.at_, D.lit, e, q⟩
/-! ### f(a=.., b=..): both arguments by name, as they stand -/
def kwI {α : Type} (us ws : List α) : List α := match us, ws with
  | [], [x, y] => [x, y]
  | _, _ => []
structure CalKI (P : Program) (w : World) (K : PySem.W.Frag) (mg : Str → Option Value) (base : Heap) (k : Nat) (x : Str) (sp : Sp) (p1 p2 : Str) : Prop where
  ex : ∃ (f : Addr) (fd : FuncData), FnOk P w K mg base C8.CX0 k f fd [p1, p2] sp ∧ mg x = some (.ref f) ∧ PySem.W.keepIn K (.ref f) = true ∧ KBinds K fd [p1, p2] [p1, p2] kwI kwI
theorem kwi_of {K : PySem.W.Frag} {x qual : Str} {params : Arguments} {body : List Stmt} {scope : Scope} {kws : List (Str × V)} {f : Addr} {fd : FuncData} {p1 p2 : Str} (F : FunD K x qual params body scope [] kws f fd)
    (turn : ∀ (kV doc pm : Value) (an : Option Addr) (cdv ct : Value) (u v : Value), bindArgs (PySem.W.fnOf x qual params body scope .none kV doc pm an cdv ct) ⟨[], [(p1, u), (p2, v)]⟩ = pure [(p1, u), (p2, v)]) : KBinds K fd [p1, p2] [p1, p2] kwI kwI := by
  obtain ⟨oc, od, dV, kV, doc, pm, an, cdv, ct, osl, isF, lk, hcd, dflt, hK⟩ := F.ex
  subst isF
  rcases dflt with ⟨_, no⟩ | ⟨e, _⟩
  · subst no
    refine ⟨fun s us ws X hl => ?_, fun {vs us zs ws} r1 r2 => ?_⟩
    · match us, ws, hl with
      | [], [u, v], _ => exact .of_eq (turn kV doc pm an cdv ct u v)
    · cases r1 with
      | cons a r1 => exact .nil
      | nil =>
        match zs, ws, r2 with
        | [], [], .nil => exact .nil
        | [_], [_], .cons a .nil => exact .nil
        | [_, _], [_, _], .cons a (.cons b .nil) => exact .cons a (.cons b .nil)
        | _ :: _ :: _ :: _, _ :: _ :: _ :: _, .cons _ (.cons _ (.cons _ _)) => exact .nil
  · exact absurd rfl e
theorem pe_kwi {X : Cx} {k j : Nat} {x p1 p2 : Str} {sp : Sp} {p pos : Pos} {kws : List Keyword} {tk : TA} (c : CalKI X.prog X.w X.K X.mg X.base k x sp p1 p2) (room : Room j X.A) (hk : k ≤ j) (hg : Gl X x) (hkw : PK X kws tk)
    (hall : (backToKw pos (keywordEach kws X.env)).all (·.1.isSome) = true := by rfl) (hks : (backToKw pos (keywordEach kws X.env)).filterMap (·.1) = [p1, p2] := by rfl) (hdb : (x == ("__debug__" : Str)) = false := by decide)
    (hpl : ((backTo pos (starEach [] X.env)).any (·.1) || (backToKw pos (keywordEach kws X.env)).any (·.1.isNone)) = false := by rfl) : PE X (.Call (.Name x p) [] kws pos) (tCallK sp kwI C8.E0 tNil tk) := by
  obtain ⟨f, fd, F, hm, kp, binds⟩ := c.ex
  refine ⟨fun pins s σ H Q I todo => wpAny_Call_Name_kw (ld_glob I hg hm ?_ hdb)⟩
  refine PySem.W.callWith_KW0 (h₀ := X.base) I.ok.mod.kin kp hall (thn (hkw.run pos pins s σ H _ I todo) fun ws s2 ⟨zs, H2, I2, rz, q2⟩ => ⟨I2.kIn, ?_⟩) hpl
  rw [hks]
  exact run_fnk (us := []) F (room.mono hk) binds C8.pass0 I2 .nil rz q2
end My
namespace My
open PySem PySem.Spec PyProof.Rows L2
/-! ### x in o, len(o) by own methods -/
section
variable {X : Cx} {k j : Nat} {C : Addr} {sp : Sp}
def rInOwn (C : Addr) (sp : Sp) : R2 := fun x y H Q => ∃ a dx fs, y = .ref a ∧ H a = some (.ins C dx fs) ∧ sp [.ref a, x] H (fun v H' => ∃ b, v = .bl b ∧ Q (.bl b) H') (fun _ _ _ => False)
theorem op_inOwn (c : C8.Met X.prog X.w X.K X.mg X.base k C "__contains__" sp []) (room : Room j X.A) (hk : k ≤ j) : OpR X (compareOp .In) (rInOwn C sp) := by
  intro pins s σ H x y v u Q I rx ry hq
  obtain ⟨a, dx, fs, ey, ha, hsp⟩ := hq
  subst ey
  cases ry
  obtain ⟨f, fd, ps, ds, cl, me, F, b, d⟩ := c.ex
  cases d
  obtain ⟨mA, J, _⟩ := ins_get I.hok ha
  obtain ⟨od, J, _⟩ := J.look
  obtain ⟨m, hF⟩ := I.fr
  have hl := F.len _ _ _ _ hsp
  refine PySem.W.in_K hF I.ok.mod.kin J me.at_ me.fn ?_
  refine wpAny_call (codeAny_mono (F.run X.A X.stack s H ⟨[.ref a, v], []⟩ [.ref a, v] [.ref a, x] _ (fun _ _ _ => False) (room.mono hk) I.env0 (by
    have := b s [.ref a, v] I.kIn (by simpa using hl)
    simpa using this) (.cons rfl (.cons rx .nil)) hsp) fun r s' hr => ?_)
  cases r with
  | error e => exact C8.pass0 (E := fun _ _ _ => False) pins σ H s e s' I hr
  | ok fl =>
    cases fl with
    | ret w =>
      obtain ⟨z, H', I', rz, bb, ez, q⟩ := I.after hr
      subst ez
      cases rz
      exact wpAny_truthy_bool ⟨.bl bb, H', I', rfl, q⟩
    | next => exact False.elim hr
    | brk => exact False.elim hr
    | cont => exact False.elim hr
def rLenOwn (C : Addr) (sp : Sp) : List V → Hp → VK → Prop := fun ws H Q => ∃ a dx fs, ws = [.ref a] ∧ H a = some (.ins C dx fs) ∧ sp [.ref a] H (fun v H' => ∃ n : Int, v = .int n ∧ 0 ≤ n ∧ n < 2 ^ 62 ∧ Q (.int n) H') (fun _ _ _ => False)
theorem len_own (c : C8.Met X.prog X.w X.K X.mg X.base k C "__len__" sp []) (room : Room j X.A) (hk : k + 1 ≤ j) : CallR X (.builtin "len") (rLenOwn C sp) := by
  intro pins s σ H ws us Q I rx hq
  obtain ⟨a, dx, fs, ey, ha, hsp⟩ := hq
  subst ey
  obtain ⟨u, eu, ru⟩ := vals1 rx
  subst eu
  cases ru
  obtain ⟨f, fd, ps, ds, cl, me, F, b, d⟩ := c.ex
  cases d
  obtain ⟨mA, J, _⟩ := ins_get I.hok ha
  obtain ⟨od, J, _⟩ := J.look
  obtain ⟨m, hF⟩ := I.fr
  have hl := F.len _ _ _ _ hsp
  refine PySem.W.len_K hF I.ok.mod.kin J me.at_ me.fn ?_
  refine wpAny_call (codeAny_mono (F.run X.A.in1 X.stack s H ⟨[.ref a], []⟩ [.ref a] [.ref a] _ (fun _ _ _ => False) (room.mono hk).in1 I.env0.in1 (by
    have := b s [.ref a] I.kIn (by simpa using hl)
    simpa using this) (.cons rfl .nil) hsp) fun r s' hr => ?_)
  cases r with
  | error e => exact C8.pass0 (E := fun _ _ _ => False) pins σ H s e s' I hr
  | ok fl =>
    cases fl with
    | ret w =>
      obtain ⟨z, H', I', rz, n, ez, n0, n1, q⟩ := I.after hr
      subst ez
      obtain ⟨t, et⟩ := rz
      subst et
      exact ⟨⟨n0, by omega⟩, .int n, H', I'.tok _, ⟨_, rfl⟩, q⟩
    | next => exact False.elim hr
    | brk => exact False.elim hr
    | cont => exact False.elim hr
end
/-! ### properties: what the head says, the rule -/
def gAd (K : PySem.W.Frag) (p : Str × Str) : Addr := match PySem.W.findIn K (.ref (He.ga K p.1)) p.2 with
  | some (some (.ref a)) => (match PySem.W.recIn K a "property" with
    | some (.ref g :: _) => g
    | _ => 0)
  | _ => 0
def propB (K : PySem.W.Frag) (p : Str × Str) : Bool := match PySem.W.findIn K (.ref (He.ga K p.1)) p.2 with
  | some (some (.ref a)) => (match PySem.W.recIn K a "property" with
    | some (.ref g :: _) => He.eqO (PySem.W.specialIn K (.ref a) "__get__") (some (some (.builtin "property.__get__"))) && decide (PySem.W.takesIn K (.ref a) = some true)
    | _ => false)
  | _ => false
theorem propB_ok {K : PySem.W.Frag} {p : Str × Str} (h : propB K p = true) : ∃ a, PropOf K (He.ga K p.1) p.2 a (gAd K p) := by
  unfold propB at h
  unfold gAd
  split at h
  · rename_i a e1
    split at h
    · rename_i g rest e2
      obtain ⟨h1, h2⟩ := He.ba h
      exact ⟨a, e1, He.eqO_ok h1, of_decide_eq_true h2, rest, by rw [e2]⟩
    · cases h
  · cases h
def fnWA (K : PySem.W.Frag) (a : Addr) : He.FnW := match K.lookup a with
  | some ⟨_, _, .func fd, _⟩ => some (fd.name, fd.qualname, fd.params, fd.body, fd.scope, fd.globals, fd.closure, fd.builtins)
  | _ => none
/-- a getter: its class, its name; the def as in DefD (where it stands does not matter) -/
abbrev GetD : Type := (Str × Str) × He.DefD
def GetD.ok (K : PySem.W.Frag) (g : GetD) : Bool := propB K g.1 && (PySem.W.keepIn K (.ref (gAd K g.1)) && (match K.lookup (gAd K g.1) with
  | some ⟨_, _, .func fd, _⟩ => PySem.W.codeIn K fd.code g.2.qual && (He.dflB K fd.defaults (g.2.dvs K) && He.kwdB K fd.kwdefaults (g.2.kws K))
  | _ => false))
theorem GetD.funD {K : PySem.W.Frag} {g : GetD} (e : fnWA K (gAd K g.1) = g.2.val) (c : GetD.ok K g = true) : ∃ fd, FunD K g.2.name g.2.qual g.2.params g.2.body g.2.scope (g.2.dvs K) (g.2.kws K) (gAd K g.1) fd := by
  obtain ⟨_, c⟩ := He.ba c
  obtain ⟨kp, c2⟩ := He.ba c
  unfold fnWA at e
  cases q : K.lookup (gAd K g.1) with
  | none =>
    rw [q] at c2
    cases c2
  | some o =>
    obtain ⟨oc, od, dt, osl⟩ := o
    rw [q] at c2 e
    cases dt with
    | func fd =>
      obtain ⟨n1, n2, n3, n4, n5, n6, n7, n8, n9, n10, n11, n12, n13, n14, n15⟩ := fd
      have e2 : (some (n1, n2, n3, n4, n5, n6, n7, n15) : He.FnW) = some (g.2.name, g.2.qual, g.2.params, .stmts g.2.body, g.2.scope, mainGlobals, [], builtinsNs) := e
      simp only [Option.some.injEq, Prod.mk.injEq] at e2
      obtain ⟨h1, h2, h3, h4, h5, h6, h7, h8⟩ := e2
      subst h1 h2 h3 h4 h5 h6 h7 h8
      have c3 : (PySem.W.codeIn K n13 g.2.qual && (He.dflB K n8 (g.2.dvs K) && He.kwdB K n9 (g.2.kws K))) = true := c2
      obtain ⟨k1, k2⟩ := He.ba c3
      obtain ⟨k3, k4⟩ := He.ba k2
      exact ⟨_, ⟨oc, od, n8, n9, n10, n11, n12, n13, n14, osl, rfl, q, k1, He.dflB_ok k3, He.kwdB_ok k4⟩, kp⟩
    | _ => cases c2
/-- the Hook: facts, defs, one more Bool, dicts of the top, getters -/
abbrev AlG : Type := He.AlD × Bool × List (Option (List (Option (Str × Int)))) × List He.FnW
def getsOf (gs : List GetD) (K : PySem.W.Frag) : List He.FnW := gs.map fun g => fnWA K (gAd K g.1)
def getsDue (gs : List GetD) : List He.FnW := gs.map fun g => g.2.val
def getsB (gs : List GetD) (K : PySem.W.Frag) : Bool := gs.all fun g => GetD.ok K g
def obsDG4 (n : Nat) (fa : List He.Fa) (fn : List He.DefD) (ex : PySem.W.Frag → Bool) (ts : List He.Tab) (gs : List GetD) (g : Addr → Option Obj) : AlG := (fun K => (He.obsD fa fn K, ex K && getsB gs K, tabsOf ts K, getsOf gs K)) (He.frG g (He.asD g n))
def hookD4 (n : Nat) (fa : List He.Fa) (fn : List He.DefD) (ex : PySem.W.Frag → Bool) (ts : List He.Tab) (gs : List GetD) : PySem.W.Hook where
  α := AlG
  obs := fun s => obsDG4 n fa fn ex ts gs s.heap.get?
  val := fun w => (He.valD fn, true, tabsDue ts w, getsDue gs)
  says := fun w h => ∃ K : PySem.W.Frag, K.In h ∧ (He.SaysD fa fn K ∧ ex K = true) ∧ (tabsOf ts K = tabsDue ts w ∧ getsB gs K = true ∧ getsOf gs K = getsDue gs)
  of := fun _ _ e => by
    have h1 := He.ba (congrArg (fun z : AlG => z.2.1) e)
    exact ⟨_, He.frG_in, ⟨congrArg (fun z : AlG => z.1) e, h1.1⟩, congrArg (fun z : AlG => z.2.2.1) e, h1.2, congrArg (fun z : AlG => z.2.2.2) e⟩
  keeps := fun _ _ _ ⟨F, inF, both⟩ more => ⟨F, PySem.W.Frag.In.keeps inF more, both⟩
theorem obsDG4_eq {n : Nat} {fa : List He.Fa} {fn : List He.DefD} {ex : PySem.W.Frag → Bool} {ts : List He.Tab} {gs : List GetD} {g : Addr → Option Obj} {s : Shared} (h : ∀ a, g a = s.heap.get? a) : obsDG4 n fa fn ex ts gs g = (hookD4 n fa fn ex ts gs).obs s := by
  have look : g = s.heap.get? := funext fun a => h a
  rw [look]
  rfl
theorem get_ix {gs : List GetD} {K : PySem.W.Frag} (b : getsB gs K = true) (h : getsOf gs K = getsDue gs) (i : Nat) {g : GetD} (e : gs[i]? = some g) :
    (∃ a, PropOf K (He.ga K g.1.1) g.1.2 a (gAd K g.1)) ∧ ∃ fd, FunD K g.2.name g.2.qual g.2.params g.2.body g.2.scope (g.2.dvs K) (g.2.kws K) (gAd K g.1) fd := by
  have c := List.all_eq_true.mp b g (List.mem_of_getElem? e)
  have e2 : (getsOf gs K)[i]? = (getsDue gs)[i]? := by rw [h]
  unfold getsOf getsDue at e2
  rw [List.getElem?_map, List.getElem?_map, e] at e2
  exact ⟨propB_ok (He.ba c).1, GetD.funD (Option.some.inj e2) c⟩
/-- a property: its getter's promise -/
structure Prp (P : Program) (w : World) (K : PySem.W.Frag) (mg : Str → Option Value) (base : Heap) (k : Nat) (C : Addr) (f : Str) (sp : Sp) : Prop where
  ex : ∃ (p g : Addr) (fd : FuncData) (ps : List Str), Cls K C ∧ PropOf K C f p g ∧ FnOk P w K mg base C8.CX0 k g fd ps sp ∧ Binds K fd ps []
theorem pe_prp {X : Cx} {k j : Nat} {C : Addr} {f : Str} {sp : Sp} {e : Expr} {te : TE} {pos : Pos} (c : Prp X.prog X.w X.K X.mg X.base k C f sp) (room : Room j X.A) (hk : k + 1 ≤ j) (he : PE X e te)
    (hab : attributeBase e f X.env (eval e X.env) = eval e X.env := by rfl) : PE X (.Attribute e f pos) (tProp C sp [] C8.E0 te) := by
  obtain ⟨p, g, fd, ps, cl, pr, F, b⟩ := c.ex
  exact pe_prop he cl pr F (room.mono hk) b .nil C8.pass0 hab
end My
namespace My
open PyProof.Rows PySem.Spec PySem
/-! ### min of a list of tuples of ints: a comparison that leans on what stands -/
section
variable {prog : Program} {w : World} {A : Around} {R : Result → Shared → Prop} {it S : Addr} {fp wr : List Addr} {num : Nat} {P : Nat → Value → Prop} {St : Nat → Heap → Prop} {C : Heap → Prop} {bt : Nat → Nat → Bool}
def CmpAt (prog : Program) (w : World) (A : Around) (C : Heap → Prop) (P : Nat → Value → Prop) (bt : Nat → Nat → Bool) : Prop :=
  ∀ (i j : Nat) (x y : Value) (s : Shared) (Q : Value → Shared → Prop) (E : Value → Shared → Prop), C s.heap → P i x → P j y → Q (.bool (bt i j)) s → wpAny (model prog w) A (richCompare .Lt x y) Q E s
theorem min_turns (walk : Walks prog w A.in1 it fp wr num P St) (stands : ∀ i h, St i h → C h) (less : CmpAt prog w A.in1 C P bt) (out : S ∉ fp) (left : Nat) :
    ∀ (j : Nat) (s : Shared) (best : Value) (c : Nat), j + 1 + left = num → St (j + 1) s.heap → P (argBest bt j) best → s.heap.get? S = some { cls := .type "list", dict := none, data := .seq #[best, best] c, slots := #[] } →
    (∀ v h' tk, P (argBest bt (num - 1)) v → (∀ b o, b ≠ S → b ∉ wr → s.heap.get? b = some o → h'.get? b = some o) → R (.ok (.ret v)) { s with heap := h', toks := tk }) →
    codeAny (model prog w) A (.builtin "min.loop" ⟨[.ref it, .none, .ref S], []⟩) R s := by
  have apart : S ∉ wr := fun z => out (walk.sub _ z)
  have nm : (toString "min" ++ toString ".loop" : String) = "min.loop" := by decide
  induction left with
  | zero =>
    intro j s best c e st pb hS go
    obtain rfl : j + 1 = num := e
    refine codeAny_builtin F.entry_min_loop ?_
    rw [Around.under_plainId F.plain_min_loop _]
    refine wpAny_bind (m := seqItems? (.ref S)) (wpAny_seqItems hS rfl ?_)
    refine wpAny_bind (m := tryCatch (pyNext (.ref it)) _) (wpAny_tryCatch (walk.done s _ _ st fun h2 tk keep => ?_))
    have hS2 := keep S _ apart hS
    refine wpAny_bind (m := updateSeq S (fun _ => #[])) ?_
    refine wpAny_updateSeq hS2 rfl (wpAny_bind (wpAny_letGo (wpAny_pure ?_)))
    exact go best _ _ pb fun b o nb nw eb => (Heap.get?_update_other _ _ (fun z : S = b => nb z.symm)).trans (keep b o nw eb)
  | succ left rec =>
    intro j s best c e st pb hS go
    have lt : j + 1 < num := by omega
    refine codeAny_builtin F.entry_min_loop ?_
    rw [Around.under_plainId F.plain_min_loop _]
    refine wpAny_bind (m := seqItems? (.ref S)) (wpAny_seqItems hS rfl ?_)
    refine wpAny_bind (m := tryCatch (pyNext (.ref it)) _) (wpAny_tryCatch (walk.item (j + 1) s _ _ lt st fun v h2 tk pv st2 keep => ?_))
    have hS2 := keep S _ apart hS
    show wpAny _ A.in1 (tryCatch (holding [v, v] (richCompare .Lt v best >>= _)) _ >>= _) _ _ _
    refine wpAny_bind (wpAny_tryCatch (wpAny_holding (wpAny_bind (less (j + 1) (argBest bt j) v best _ _ _ (stands _ _ st2) pv pb ?_))))
    refine wpAny_bind (wpAny_holding (wpAny_truthy_bool ?_))
    refine wpAny_bind (wpAny_letGo (wpAny_pure ?_))
    cases eb : bt (j + 1) (argBest bt j) with
    | true =>
      simp only [if_true]
      refine wpAny_bind ?_
      refine wpAny_updateSeq hS2 rfl (wpAny_bind (wpAny_letGo ?_))
      rw [nm]
      refine wpAny_pure ⟨plainId_quiet F.plain_min_loop _, rec (j + 1) _ v _ (by omega) (walk.frame _ _ _ st2 fun b hb o ob => ?_) (by simp only [argBest, eb, if_true]; exact pv) (Heap.get?_update_self _ hS2 rfl) fun x h3 tk3 px keep3 => ?_⟩
      · exact (Heap.get?_update_other _ _ (fun z : S = b => out (z ▸ hb))).trans ob
      · exact go x h3 tk3 px fun b o nb nw ob => keep3 b o nb nw ((Heap.get?_update_other _ _ (fun z : S = b => nb z.symm)).trans (keep b o nw ob))
    | false =>
      simp only [Bool.false_eq_true, if_false]
      refine wpAny_bind (wpAny_letGo ?_)
      rw [nm]
      refine wpAny_pure ⟨plainId_quiet F.plain_min_loop _, rec (j + 1) _ best c (by omega) st2 (by simp only [argBest, eb, Bool.false_eq_true, if_false]; exact pb) hS2 fun x h3 tk3 px keep3 => ?_⟩
      exact go x h3 tk3 px fun b o nb nw ob => keep3 b o nb nw (keep b o nw ob)
theorem min_first (walk : Walks prog w A.in1 it fp wr num P St) (stands : ∀ i h, St i h → C h) (less : CmpAt prog w A.in1 C P bt) (out : S ∉ fp) (some1 : 0 < num) {s : Shared} {c : Nat} (st : St 0 s.heap) (hS : s.heap.get? S = some { cls := .type "list", dict := none, data := .seq #[] c, slots := #[] })
    (go : ∀ v h' tk, P (argBest bt (num - 1)) v → (∀ b o, b ≠ S → b ∉ wr → s.heap.get? b = some o → h'.get? b = some o) → R (.ok (.ret v)) { s with heap := h', toks := tk }) :
    codeAny (model prog w) A (.builtin "min.loop" ⟨[.ref it, .none, .ref S], []⟩) R s := by
  have apart : S ∉ wr := fun z => out (walk.sub _ z)
  have nm : (toString "min" ++ toString ".loop" : String) = "min.loop" := by decide
  refine codeAny_builtin F.entry_min_loop ?_
  rw [Around.under_plainId F.plain_min_loop _]
  refine wpAny_bind (m := seqItems? (.ref S)) (wpAny_seqItems hS rfl ?_)
  refine wpAny_bind (m := tryCatch (pyNext (.ref it)) _) (wpAny_tryCatch (walk.item 0 s _ _ some1 st fun v h2 tk pv st2 keep => ?_))
  have hS2 := keep S _ apart hS
  show wpAny _ A.in1 (updateSeq S (fun _ => #[v, v]) >>= _) _ _ _
  refine wpAny_bind ?_
  refine wpAny_updateSeq hS2 rfl ?_
  rw [nm]
  refine wpAny_pure ⟨plainId_quiet F.plain_min_loop _, min_turns walk stands less out (num - 1) 0 _ v _ (by omega) (walk.frame _ _ _ st2 fun b hb o ob => ?_) pv (Heap.get?_update_self _ hS2 rfl) fun x h3 tk3 px keep3 => ?_⟩
  · exact (Heap.get?_update_other _ _ (fun z : S = b => out (z ▸ hb))).trans ob
  · exact go x h3 tk3 px fun b o nb nw ob => keep3 b o nb nw ((Heap.get?_update_other _ _ (fun z : S = b => nb z.symm)).trans (keep b o nw ob))
end
section
variable {prog : Program} {w : World} {A : Around} {E : Value → Shared → Prop} {s : Shared}
/-- min of a list of references to tuples of ints that stand -/
theorem min_tups {l : Addr} {as : List Addr} {nss : Nat → List Int} {Q : Value → Shared → Prop} (calm : A.handled = none) (room : A.in1.units < cLine) (isL : s.heap.IsList l (as.map Value.ref).toArray) (full : 0 < as.length)
    (tups : ∀ i a, as[i]? = some a → ∃ its : Array Value, s.heap.IsTuple a its ∧ IntsAre its.toList (nss i))
    (go : ∀ h' tk a, as[argBest (fun i j => HT.lexLt (nss i) (nss j)) (as.length - 1)]? = some a → (∀ b o, s.heap.get? b = some o → h'.get? b = some o) → Q (.ref a) { s with heap := h', toks := tk }) :
    wpAny (model prog w) A (call (.builtin "min") [.ref l]) Q E s := by
  have nm : (toString "min" ++ toString ".loop" : String) = "min.loop" := by decide
  refine call_function_tree F.kind_min F.plain_min F.entry_min (F.args_min1 _) ?_
  refine wpAny_bind (m := Builtin.Builtins.bindParams "min" ["key", "default"] 0 ⟨[], []⟩) (wpAny_of_eq (a := [Option.none, Option.none]) (by rfl) ?_)
  refine wpAny_bind (wpAny_pure ?_)
  refine wpAny_bind (wpAny_pyIter_list isL ?_)
  have lLt : l < s.heap.objs.size := by obtain ⟨_, e, _⟩ := isL; exact Heap.lt_size e
  have walk0 := Walks.list (prog := prog) (w := w) (A := A.in1) (show A.in1.handled = none from calm) s.heap.objs.size l (Nat.ne_of_lt lLt) (as.map Value.ref).toArray
  let C : Heap → Prop := fun h => ∀ i a, as[i]? = some a → ∃ its : Array Value, h.IsTuple a its ∧ IntsAre its.toList (nss i)
  have live : ∀ a ∈ as, a < s.heap.objs.size := fun a ha => by
    obtain ⟨i, e⟩ := List.mem_iff_getElem?.mp ha
    obtain ⟨its, ⟨_, q, _⟩, _⟩ := tups i a e
    exact Heap.lt_size q
  have keepC : ∀ h h' : Heap, C h → (∀ a ∈ as, ∀ o, h.get? a = some o → h'.get? a = some o) → C h' := fun h h' c k i a e => by
    obtain ⟨its, q, r⟩ := c i a e
    exact ⟨its, q.at fun o eo => k a (List.mem_of_getElem? e) o eo, r⟩
  have walk : Walks prog w A.in1 s.heap.objs.size ([s.heap.objs.size, l] ++ as) [s.heap.objs.size] (as.map Value.ref).toArray.size (fun i v => (as.map Value.ref).toArray[i]? = some v) (fun i h => (h.IsListIter s.heap.objs.size l i ∧ h.IsList l (as.map Value.ref).toArray) ∧ C h) := {
    sub := fun b hb => List.mem_append_left _ (walk0.sub b hb)
    frame := fun i h h' st k => ⟨walk0.frame i h h' st.1 fun b hb => k b (List.mem_append_left _ hb), keepC h h' st.2 fun a ha => k a (List.mem_append_right _ ha)⟩
    item := fun i s1 Q1 E1 lt st hQ => walk0.item i s1 Q1 E1 lt st.1 fun v h' tk pv st2 k => hQ v h' tk pv ⟨st2, keepC _ _ st.2 fun a ha o eo => k a o (fun z => Nat.lt_irrefl _ (by have := live a ha; rw [List.mem_singleton.mp z] at this; exact this)) eo⟩ k
    done := fun s1 Q1 E1 st hQ => walk0.done s1 Q1 E1 st.1 hQ
    self := fun i s1 Q1 E1 st hQ => walk0.self i s1 Q1 E1 st.1 hQ }
  refine wpAny_bind (wpAny_newObj_type ?_)
  rw [nm]
  have size1 : (s.heap.push { cls := .type "list_iterator", data := .fields #[.ref l, .int 0 0] }).objs.size = s.heap.objs.size + 1 := Heap.size_push ..
  refine wpAny_pure ⟨plainId_quiet F.plain_min_loop _, min_first (A := A) (C := C) (s := { s with heap := (s.heap.push { cls := .type "list_iterator", data := .fields #[.ref l, .int 0 0] }).push { cls := .type "list", data := .seq #[] } }) (bt := fun i j => HT.lexLt (nss i) (nss j)) walk (fun i h st => st.2) (fun i j x y s1 Q1 E1 c px py q => ?_) (S := (s.heap.push { cls := .type "list_iterator", data := .fields #[.ref l, .int 0 0] }).objs.size) ?_ (by simpa using full) ?_ (Heap.get?_push_size _ rfl) fun v h' tk pv k => ?_⟩
  · have ex : ∃ a, as[i]? = some a ∧ x = .ref a := by
      have p2 : (as.map Value.ref).toArray[i]? = some x := px
      rw [List.getElem?_toArray, List.getElem?_map] at p2
      obtain ⟨a, e, r⟩ := Option.map_eq_some_iff.mp p2
      exact ⟨a, e, r.symm⟩
    have ey : ∃ a, as[j]? = some a ∧ y = .ref a := by
      have p2 : (as.map Value.ref).toArray[j]? = some y := py
      rw [List.getElem?_toArray, List.getElem?_map] at p2
      obtain ⟨a, e, r⟩ := Option.map_eq_some_iff.mp p2
      exact ⟨a, e, r.symm⟩
    obtain ⟨a, ea, rfl⟩ := ex
    obtain ⟨b, eb, rfl⟩ := ey
    obtain ⟨t1, p1, q1⟩ := c i a ea
    obtain ⟨t2, p2, q2⟩ := c j b eb
    exact HT.lt_tupInts p1 p2 q1 q2 room q
  · rw [size1]
    intro z
    rcases List.mem_append.mp z with z | z
    · simp only [List.mem_cons, List.not_mem_nil, or_false] at z
      rcases z with z | z
      · exact absurd z (Nat.succ_ne_self _)
      · rw [← z] at lLt
        exact absurd lLt (Nat.not_lt.mpr (Nat.le_succ _))
    · exact absurd (live _ z) (Nat.not_lt.mpr (Nat.le_succ _))
  · refine walk.frame 0 _ _ ⟨⟨⟨_, Heap.get?_push_size _ rfl, rfl, rfl⟩, isL.push _⟩, ?_⟩ fun b _ o e => Heap.get?_push_of_some _ e
    exact keepC s.heap _ tups fun a ha o e => Heap.get?_push_of_some _ e
  · have p2 : (as.map Value.ref).toArray[argBest (fun i j => HT.lexLt (nss i) (nss j)) ((as.map Value.ref).toArray.size - 1)]? = some v := pv
    rw [List.size_toArray, List.length_map, List.getElem?_toArray, List.getElem?_map] at p2
    obtain ⟨a, ea, rfl⟩ := Option.map_eq_some_iff.mp p2
    refine go h' tk a ea fun b o e => k b o ?_ ?_ (Heap.get?_push_of_some _ (Heap.get?_push_of_some _ e))
    · have lt := Heap.lt_size e
      rw [size1]
      exact Nat.ne_of_lt (Nat.lt_succ_of_lt lt)
    · have lt := Heap.lt_size e
      intro z
      rw [List.mem_singleton.mp z] at lt
      exact Nat.lt_irrefl _ lt
end
end My
namespace My
open PySem PySem.Spec PyProof.Rows L2
/-! ### the rule: min of a list of pairs -/
def rMinT (K : PySem.W.Frag) : List V → Hp → VK → Prop := fun vs H Q => ∃ (l : Addr) (as : List Addr) (nss : List (List Int)), vs = [.ref l] ∧ SqL K H l (as.map V.ref) ∧ Paired (fun a ns => SqT K H a (ns.map V.int)) as nss ∧ 0 < nss.length ∧
  ∀ a m, m < nss.length → as[m]? = some a → m = argBest (fun i j => HT.lexLt (nss.getD i []) (nss.getD j [])) (nss.length - 1) → Q (.ref a) H
theorem min_tupsK {X : Cx} {K : PySem.W.Frag} (e0 : X.K = K) (calm : X.calm = true) (hu : X.A.units + 64 < cLine) : CallR X (.builtin "min") (rMinT K) := by
  subst e0
  intro pins s σ H vs us Q I r h
  obtain ⟨l, as, nss, rfl, hl, ht, hne, q⟩ := h
  obtain ⟨its, rv, isL, fits⟩ := I.list hl
  rw [Vals.ref1 r]
  clear fits
  have eits : its = as.map Value.ref := by
    clear q ht hl isL
    induction as generalizing its with
    | nil => cases rv; rfl
    | cons a as ih =>
      cases rv with
      | cons r1 r2 =>
        cases r1
        exact congrArg _ (ih _ r2)
  subst eits
  have len : as.length = nss.length := ht.length
  refine min_tups (nss := fun i => nss.getD i []) (I.ok.hd calm) (by show X.A.units + 1 < cLine; omega) isL.isList (by omega) (fun i a ea => ?_) fun h' tk a ea keep => ?_
  · have hi : i < nss.length := by rw [← len]; exact (List.getElem?_eq_some_iff.mp ea).1
    obtain ⟨a2, ea2, hs⟩ : ∃ a2, as[i]? = some a2 ∧ SqT X.K H a2 ((nss.getD i []).map V.int) := by
      have key : ∀ {as : List Addr} {nss : List (List Int)} (i : Nat), Paired (fun a ns => SqT X.K H a (ns.map V.int)) as nss → i < nss.length → ∃ a2, as[i]? = some a2 ∧ SqT X.K H a2 ((nss.getD i []).map V.int) := by
        intro as nss i p
        induction p generalizing i with
        | nil => intro hi; cases hi
        | cons r t ih =>
          intro hi
          cases i with
          | zero => exact ⟨_, rfl, r⟩
          | succ i => exact ih i (Nat.lt_of_succ_lt_succ hi)
      exact key i ht hi
    rw [ea] at ea2
    cases ea2
    obtain ⟨it2, r2, isT, _⟩ := I.tuple hs
    exact ⟨it2.toArray, isT, intsAre_of r2⟩
  · have hm := (List.getElem?_eq_some_iff.mp ea).1
    rw [len] at ea hm
    exact ⟨.ref a, H, I.kept (t' := tk) keep, rfl, q a _ (by omega) ea rfl⟩
end My
namespace My
open PySem PySem.Spec PyProof.Rows L2
theorem sumK {X : Cx} {K : PySem.W.Frag} (h : X.K = K) (calm : X.calm = true) : CallR X (.builtin "sum") (rSum K) := by subst h; exact cr_sum calm
end My
namespace My
/-! ### a run that is looked at piece by piece -/
theorem map_two {α β γ : Type} {o : Option α} {f : α → β} {g : α → γ} {b : β} {c : γ} (h1 : o.map f = some b) (h2 : o.map g = some c) : o.map (fun s => (f s, g s)) = some (b, c) := by
  cases o with
  | none => cases h1
  | some s =>
    have e1 : f s = b := Option.some.inj h1
    have e2 : g s = c := Option.some.inj h2
    show some (f s, g s) = _
    rw [e1, e2]
end My
set_option maxHeartbeats 4000000
namespace My
open PySem PySem.W PySem.Calls PyProof.Rows PySem.HandSPX
/-! ### an own exception whose __init__ says super().__init__(text), then self.f = p -/
def siA (p : Str) (p1 p2 : Pos) : Arguments := { posonlyargs := [], args := [{ arg := "self", annotation := none, pos := p1 }, { arg := p, annotation := none, pos := p2 }], vararg := none, kwonlyargs := [], kw_defaults := [], kwarg := none, defaults := [] }
def siB (f p txt : Str) (q0 q1 q2 q3 q4 q5 q6 q7 q8 q9 : Pos) : List Stmt :=
  [.Expr (.Call (.Attribute (.Call (.Name "super" q0) [] [] q1) "__init__" q2) [.Constant (.str txt) 0 q3] [] q4) q5, .Assign [.Attribute (.Name "self" q6) f q7] (.Name p q8) q9]
def siS (p : Str) : Scope := { kind := .function, names := [(PySem.Str.ofString "self", .local), (p, .local), (PySem.Str.ofString "__class__", .free), (PySem.Str.ofString "super", .globalImplicit)], isGenerator := false, isCoroutine := false, more := [] }
/-- what the written part says of the class at C and of its __init__, at fI -/
structure SupTxt (prog : Program) (K : Frag) (mg : Str → Option Value) (cn f p : Str) (C fI : Addr) : Prop where
  gC : mg cn = some (.ref C)
  cls : ∃ nm q N bs bm sn sub ab col dd k0 k1 k2 k3 k5, K.lookup C = some (excClassObj nm q C N bs bm true sn sub ab col dd k0 k1 k2 k3 k5 "ValueError.__new__") ∧ refsVE bm = true
  sup : ks_superIn K C C "__init__" = some (some (.builtin "ValueError.__init__"))
  sa : findIn K (.ref C) "__setattr__" = some (some (.builtin "object.__setattr__"))
  noN : findIn K (.ref C) f = some none
  iC : findIn K (.ref C) "__init__" = some (some (.ref fI))
  tC : typeIn K (.ref fI) = some (.type "function")
  kC : keepIn K (.ref C) = true
  exC : subIn K (.ref C) (.type "BaseException") = some true
  veC : subIn K (.ref C) (.type "ValueError") = some true
  tyC : typeIn K (.ref C) = some (.type "type")
  mroC : mroIn K C (.ref C) = some true
  opq : nsIn K cStatics "thirdparty.any" = some none
  noS : nsIn K mainGlobals "super" = some none
  top : (prog.main.scope.names.lookup ("super" : Str)).isSome = false
  nep : (("self" : Str) == p) = false ∧ (p == ("__debug__" : Str)) = false ∧ (("super" : Str) == p) = false ∧ (("__class__" : Str) == p) = false
  fn : ∃ (txt : Str) (oc : Value) (od : Option Addr) (doc pm : Value) (an : Option Addr) (cda : Addr) (ct : Value) (osl : Array (Option Value)) (cc : Addr) (p1 p2 q0 q1 q2 q3 q4 q5 q6 q7 q8 q9 : Pos) (qual : Str),
    K.lookup fI = some ⟨oc, od, .func (ksFn "__init__" qual (siA p p1 p2) (siB f p txt q0 q1 q2 q3 q4 q5 q6 q7 q8 q9) (siS p) .none .none doc pm an (.ref cda) ct cc), osl⟩ ∧ codeIn K (.ref cda) qual = true ∧ (q2.endLine == q4.line) = true ∧
    (∃ cl cld csl, K.lookup cc = some ⟨cl, cld, .cell (some (.ref C)), csl⟩) ∧ (∃ ccl cdd ccs vs file tf, K.lookup cda = some ⟨ccl, cdd, .fields vs, ccs⟩ ∧ vs[2]? = some (.str file tf) ∧ ((prog.main.file : Str) == file) = true)
/-- what __init__ leaves of a fresh exception at x -/
structure InitEnd (f : Str) (h h' : Heap) (x C dx t1 : Addr) (v : Value) : Prop where
  keep : ∀ b o, b ≠ x → h.get? b = some o → h'.get? b = some o
  obj : h'.get? x = some { cls := .ref C, dict := some dx, data := .fields #[.ref t1, .none, .none, .none, .bool false, .none] }
  dbig : h.objs.size ≤ dx
  dne : dx ≠ x
  ns : h'.Ns1 dx (fun y => if y = f then some v else none)
section
variable {prog : Program} {w : World} {A : Around} {E : Value → Shared → Prop} {h : Heap} {g : Array GenState} {d : Drawn} {t : Nat} {os : OsState}
variable {nm q : Str} {C N : Addr} {bs bm : List Value} {hdct : Bool} {sn : List Str} {sub : List Value} {ab : Bool} {col : Option Bool} {dd : Option Addr} {k0 k1 k2 k3 k5 : Option Value}
/-- the bound ValueError.__init__ is called: the exception's args are laid anew -/
theorem call_mw {u e t0 : Addr} {rest : List Value} {Q : Value → Shared → Prop}
    (hC : h.get? C = some (excClassObj nm q C N bs bm hdct sn sub ab col dd k0 k1 k2 k3 k5 "ValueError.__new__")) (he : h.get? e = some (excO C t0)) (hu : h.get? u = some (kxs_mw "ValueError.__init__" e)) (hrest : rest.length ≤ sizeLine)
    (hq : ∀ h' t1, (∀ b o, b ≠ e → h.get? b = some o → h'.get? b = some o) → h'.get? e = some (excO C t1) → Q .none ⟨h', g, d, t, os⟩) :
    wpAny (model prog w) A (call (.ref u) rest) Q E ⟨h, g, d, t, os⟩ := by
  refine wpAny_call (codeAny_of_tree ?_)
  show wpAny _ A.in1 (callAny (.ref u) ⟨rest, []⟩) _ _ _
  simp only [callAny]
  refine wpAny_bind (wpAny_load hu ?_)
  simp only [kxs_mw, show (Value.type "method-wrapper" == Value.type "method" || Value.type "method-wrapper" == Value.type "builtin_function_or_method" || Value.type "method-wrapper" == Value.type "method-wrapper") = true by decide, if_true]
  refine KFB.if_so (by decide) ?_
  refine wpAny_bind (check_bound_init F.excBase_ValueError.toExcCallFacts hC he rfl ?_)
  refine wpAny_bind (wpAny_pure (wpAny_pure ?_))
  refine ⟨plainId_quiet F.excBase_ValueError.init.plain _, codeAny_builtin F.excBase_ValueError.initEntry ?_⟩
  exact exc_init_tree (cls := .ref C) (t0 := t0) (dv := none) (c2 := .none) (c3 := .none) (b4 := .bool false) he hrest fun h' k e' _ => hq h' _ k e'
end
theorem callWith_one {M : Model} {A : Around} {E : Value → Shared → Prop} {s : Shared} {i : String} {u x : Addr} {txt : Str} {p pos : Pos} {env : Env} {Q : Value → Shared → Prop} (hu : s.heap.get? u = some (kxs_mw i x))
    (h : wpAny M A (call (.ref u) [.str txt s.toks]) Q E { s with toks := s.toks + 1 }) : wpAny M A (callWith pos (.ref u) [] (backTo pos (starEach [.Constant (.str txt) 0 p] env)) []) Q E s := by
  refine kxs_callWith (i := i) (x := x) rfl ?_
  refine evalArgs_plain ?_
  exact args_cons (Constant_str (args_nil ⟨hu, h⟩))
section
variable {prog : Program} {w : World} {A : Around} {E : Value → Shared → Prop} {R : Result → Shared → Prop} {s : Shared} {K : Frag} {mg mb : Str → Option Value} {cn f p : Str} {C fI : Addr}
theorem sup_init (T : SupTxt prog K mg cn f p C fI) {x t0 : Addr} {v : Value} (X : K.In s.heap) (hlim : s.heap.NoLimit) (hg : s.heap.Ns mainGlobals mg) (hb : s.heap.Ns builtinsNs mb) (hs : mb "super" = some (.type "super")) (hx : s.heap.get? x = some (excO C t0)) (hnx : K.lookup x = none) (hroom : A.depth < recursionLimit)
    (hbd : ∀ (s : Shared) (doc pm : Value) (an : Option Addr) (cdv ct : Value) (cc : Addr) (p1 p2 : Pos) (b : List Stmt) (qual : Str) (u1 u2 : Value), BindsTo s (ksFn "__init__" qual (siA p p1 p2) b (siS p) .none .none doc pm an cdv ct cc) ⟨[u1, u2], []⟩ [("self", u1), (p, u2)])
    (hq : ∀ h' tk dx t1, InitEnd f s.heap h' x C dx t1 v → R (.ok (.ret .none)) { s with heap := h', toks := tk }) :
    codeAny (model prog w) A (.call (.ref fI) ⟨[.ref x, v], []⟩) R s := by
  obtain ⟨txt, oc, od, doc, pm, an, cda, ct, osl, cc, p1, p2, q0, q1, q2, q3, q4, q5, q6, q7, q8, q9, qual, ho, hcd, hln, ⟨cl, cld, csl, hcell⟩, ⟨ccl, cdd, ccs, cvs, file, tf, hcode, hvs, hfile⟩⟩ := T.fn
  obtain ⟨nm, q, N, bs, bm, sn, sub, ab, col, dd, k0, k1, k2, k3, k5, hC, hbm⟩ := T.cls
  have hcl : clsIn K C = some { name := nm, bases := bs, mro := .ref C :: bm, ns := N, qualname := q, hasDict := true, slotNames := sn, subclasses := sub, abstract := ab, collection := col, hasDel := false } := by unfold clsIn; rw [hC] <;> rfl
  have nps : (p == ("self" : Str)) = false := by
    have := T.nep.1
    cases e : (p == ("self" : Str)) with
    | false => rfl
    | true =>
      have e2 := eq_of_beq e
      rw [e2] at this
      simp at this
  have lk : ∀ {y : Str}, y = p → (siS p).names.lookup y = some .local := fun {y} e => by
    rw [e]
    show (match p == PySem.Str.ofString "self" with | true => some NameKind.local | false => List.lookup p [(p, NameKind.local), (PySem.Str.ofString "__class__", .free), (PySem.Str.ofString "super", .globalImplicit)]) = _
    rw [nps]
    show (match p == p with | true => some NameKind.local | false => _) = _
    rw [beq_self_eq_true]
  refine ks_codeAny_call_defAt (fd := ksFn "__init__" qual (siA p p1 p2) (siB f p txt q0 q1 q2 q3 q4 q5 q6 q7 q8 q9) (siS p) .none .none doc pm an (.ref cda) ct cc) (binds := [("self", .ref x), (p, v)]) hroom (X _ _ ho) rfl hlim (codeRec_of X hcd) rfl (hbd _ _ _ _ _ _ _ _ _ _ _ _ _) ?_ ?_ (fun h₁ hn k => ?_) rfl rfl rfl
  · intro y hy
    simp only [siS, List.mem_cons, List.not_mem_nil, or_false] at hy
    rcases hy with rfl | rfl | rfl | rfl <;> (intro z; cases z)
  · intro y hy
    simp only [List.mem_cons, List.not_mem_nil, or_false] at hy
    rcases hy with rfl | rfl
    · rfl
    · exact lk rfl
  have X₁ : K.In h₁ := X.keeps k
  have hx₁ := k _ _ hx
  have hC₁ := X₁ _ _ hC
  have hn1 : (fun y => ([("self", Value.ref x), (p, v)] : List (Str × Value)).reverse.lookup y) "self" = some (.ref x) := by
    show (match ("self" : Str) == p with | true => some v | false => some (Value.ref x)) = _
    rw [T.nep.1]
  have hn2 : (fun y => ([("self", Value.ref x), (p, v)] : List (Str × Value)).reverse.lookup y) p = some v := by
    show (match p == p with | true => some v | false => _) = _
    rw [beq_self_eq_true]
  have hks : (siS p).names.lookup ("super" : Str) = some .globalImplicit := by
    show (match ("super" : Str) == p with | true => some NameKind.local | false => some NameKind.globalImplicit) = _
    rw [T.nep.2.2.1]
  have hkc : (siS p).names.lookup ("__class__" : Str) = some .free := by
    show (match ("__class__" : Str) == p with | true => some NameKind.local | false => some NameKind.free) = _
    rw [T.nep.2.2.2]
  unfold siB
  have hE : ∀ (env : Env), eval (.Call (.Attribute (.Call (.Name "super" q0) [] [] q1) "__init__" q2) [.Constant (.str txt) 0 q3] [] q4) env = (do
      let ov ← attributeBase (.Call (.Name "super" q0) [] [] q1) "__init__" env (eval (.Call (.Name "super" q0) [] [] q1) env)
      standAt q2.atName
      let (f, first) ← holding [ov] (getMethod ov "__init__" (do return (← importBound (.Call (.Name "super" q0) [] [] q1) env).getD true))
      callWith q4 f first (backTo q4 (starEach [.Constant (.str txt) 0 q3] env)) []) := fun env => by
    rw [arm_eval_Call]
    unfold methodCall methodCallPos
    rw [hln]
    rfl
  refine ks_wpAt_execs_cons (ks_wpAt_Expr_any (ks_wpAt_MethodCall ?_ (hE _)))
  refine ks_wpAt_super_base (env := ksEnv qual (siS p) s.heap.objs.size fI (.ref cda) cc) hks hkc rfl rfl (X₁ _ _ ho) rfl rfl rfl (X₁ _ _ hcode) rfl hvs hfile T.top ?_
  refine ks_loadName_global rfl hks (loadGlobal_builtin (env := ksEnv qual (siS p) s.heap.objs.size fI (.ref cda) cc) (hg.keeps k) (mg_none_of X hg T.noS) (hb.keeps k) hs ⟨rfl, ?_⟩)
  refine wpAny_loadName_free rfl hkc rfl ⟨_, X₁ _ _ hcell, rfl⟩ ?_
  refine wpAny_loadName_local rfl rfl hn hn1 ?_
  refine ks_wpAny_isType_cls hC₁ rfl ⟨rfl, ?_⟩
  refine ks_wpAny_call_super hC₁ rfl hx₁ rfl (fun c e => by cases e) (looks_mroIn X₁ T.mroC) (fun h₂ e₂ k₂ => ?_)
  have X₂ : K.In h₂ := X₁.keeps k₂
  have hx₂ := k₂ _ _ hx₁
  have I₂ : InstAt h₂ x (excO C t0) C none := ⟨hx₂, rfl, rfl, trivial⟩
  have hsup := T.sup
  unfold ks_superIn at hsup
  rw [hcl] at hsup
  refine kxs_getMethod kxs_ValueError e₂ (looks_opaque X₂ T.opq) (l₀ := .ref C :: bm) (fun A Q E s k q => wpAny_bind ((looks_clsIn X₂ hcl) A _ E s k (wpAny_pure q))) rfl X₂ hsup (I₂.type.andThen (looks_subIn X₂ T.veC)) (fun z => ?_) rfl ?_
  · rw [← z, hnx] at hC; cases hC
  refine callWith_one (i := "ValueError.__init__") (x := x) ?_ ?_
  · exact Heap.get?_push_at rfl rfl
  have up3 : ∀ b o, h₂.get? b = some o → (h₂.push (kxs_mw "ValueError.__init__" x)).get? b = some o := fun b o e => Heap.get?_push_of_some _ e
  refine call_mw (X₂.keeps up3 _ _ hC) (up3 _ _ hx₂) (Heap.get?_push_at rfl rfl) (by rw [sizeLine_eq]; exact (by decide : 1 ≤ 16777216)) (fun h₃ t1 k₃ hx₃ => ?_)
  have nx : ∀ {b : Addr} {o : Obj}, K.lookup b = some o → b ≠ x := fun e z => by rw [z, hnx] at e; cases e
  have kk : ∀ b o, b ≠ x → h₁.get? b = some o → h₃.get? b = some o := fun b o hb e => k₃ b o hb (up3 _ _ (k₂ _ _ e))
  have X₃ : K.In h₃ := fun b o e => kk b o (nx e) (X₁ b o e)
  have xL : s.heap.objs.size ≠ x := Nat.ne_of_gt (Heap.lt_size hx)
  have hn₃ := hn.at (h' := h₃) fun o e => kk _ o xL e
  show _root_.PySem.wpAt _ _ _ (execs [_] _) _ _ _
  refine ks_wpAt_execs_cons (ks_wpAt_Assign_Attr ?_)
  refine wpAt_of_wpAny (wpAny_Name ?_ T.nep.2.1)
  refine wpAny_loadName_local rfl (lk rfl) hn₃ hn2 ?_
  refine wpAny_Name ?_ rfl
  refine wpAny_loadName_local rfl rfl hn₃ hn1 ?_
  refine set_plain X₃ (ox := excO C t1) (od := none) ⟨hx₃, rfl, rfl, trivial⟩ T.sa ?_
  refine exc_osa X₃ hx₃ hcl (show refsVE (.ref C :: bm) = true from hbm) rfl T.noN (fun h₄ tk₄ dx k₄ dn dne hx₄ hn₄ => ?_)
  show _root_.PySem.wpAt _ _ _ (execs [] _) _ _ _
  refine wpAt_of_wpAny (wpAny_execs_nil ?_)
  have old : ∀ b o, b ≠ x → s.heap.get? b = some o → h₄.get? b = some o := fun b o hb e => k₄ b o hb (kk b o hb (k b o e))
  have big : s.heap.objs.size ≤ dx := by
    obtain ⟨oL, _, _, e, _⟩ := hn₃
    exact Nat.le_of_lt (Nat.lt_of_lt_of_le (Heap.lt_size e) dn)
  exact hq h₄ tk₄ dx t1 ⟨old, hx₄, big, dne, hn₄⟩

/-- such an exception, made -/
structure OwnMade (f : Str) (h h' : Heap) (e C d : Addr) (v : Value) : Prop where
  keep : ∀ b o, h.get? b = some o → h'.get? b = some o
  new : h.objs.size ≤ e
  obj : ∃ oe vs, h'.get? e = some oe ∧ oe.cls = .ref C ∧ oe.dict = some d ∧ oe.data = .fields vs ∧ vs[1]? = some .none
  dbig : h.objs.size ≤ d
  dne : d ≠ e
  ns : h'.Ns1 d (fun y => if y = f then some v else none)
theorem one_size (v : Value) : [v].length ≤ sizeLine := by
  rw [sizeLine_eq]
  exact (by decide : 1 ≤ 16777216)
theorem sup_made (T : SupTxt prog K mg cn f p C fI) {v : Value} (X : K.In s.heap) (hlim : s.heap.NoLimit) (hg : s.heap.Ns mainGlobals mg) (hb : s.heap.Ns builtinsNs mb) (hs : mb "super" = some (.type "super")) (hroom : A.depth + 1 < recursionLimit)
    (hbd : ∀ (s : Shared) (doc pm : Value) (an : Option Addr) (cdv ct : Value) (cc : Addr) (p1 p2 : Pos) (b : List Stmt) (qual : Str) (u1 u2 : Value), BindsTo s (ksFn "__init__" qual (siA p p1 p2) b (siS p) .none .none doc pm an cdv ct cc) ⟨[u1, u2], []⟩ [("self", u1), (p, u2)])
    (hq : ∀ h' tk e d, OwnMade f s.heap h' e C d v → R (.ok (.ret (.ref e))) { s with heap := h', toks := tk }) :
    codeAny (model prog w) A (.call (.ref C) ⟨[v], []⟩) R s := by
  obtain ⟨nm, q, N, bs, bm, sn, sub, ab, col, dd, k0, k1, k2, k3, k5, hC, hbm⟩ := T.cls
  obtain ⟨hp, g, dr, tk, os⟩ := s
  have k : ∀ b o, hp.get? b = some o → ((hp.push (kdv_tup [v])).push (excO C hp.objs.size)).get? b = some o := fun b o e => Heap.get?_push_of_some _ (Heap.get?_push_of_some _ e)
  have hget : ((hp.push (kdv_tup [v])).push (excO C hp.objs.size)).get? (hp.objs.size + 1) = some (excO C hp.objs.size) := by heap_get
  have hnx : K.lookup (hp.objs.size + 1) = none := by
    cases e : K.lookup (hp.objs.size + 1) with
    | none => rfl
    | some o =>
      have z : hp.get? (hp.objs.size + 1) = some o := X _ _ e
      exact absurd (Nat.lt_of_succ_lt (Heap.lt_size z)) (Nat.lt_irrefl _)
  refine call_own F.excBase_ValueError (fun X => refsVE_contains X bm hbm) (X _ _ hC) (looks_findIn X T.iC) (fun self => bind_fn X self T.tC) (one_size v) ?_
  refine sup_init (s := ⟨(hp.push (kdv_tup [v])).push (excO C hp.objs.size), g, dr, tk, os⟩) T (X.keeps k) (hlim.keeps k) (hg.keeps k) (hb.keeps k) hs hget hnx ?_ hbd fun h' tk' dx t1 ⟨k', hx, dn, dne, hns⟩ => ?_
  · show A.depth + 1 < recursionLimit
    exact hroom
  · have old : ∀ b o, hp.get? b = some o → h'.get? b = some o := fun b o e => k' b o (Nat.ne_of_lt (Nat.lt_succ_of_lt (Heap.lt_size e))) (k b o e)
    have z : hp.objs.size + 1 + 1 ≤ dx := by
      first
        | (simpa only [Heap.size_push] using dn)
        | exact dn
        | (have q := dn; rw [Heap.size_push, Heap.size_push] at q; exact q)
    exact ⟨rfl, hq h' tk' (hp.objs.size + 1) dx ⟨old, Nat.le_succ _, ⟨_, _, hx, rfl, rfl, rfl, rfl⟩, Nat.le_trans (Nat.le_trans (Nat.le_succ _) (Nat.le_succ _)) z, dne, hns⟩⟩
end
end My
namespace My
open PySem PySem.Spec PyProof.Rows L2
theorem relO_one {f : Str} {v : V} {v' : Value} (r : RelV v v') (g : Str) : RelO (List.lookup g [(f, v)]) (if g = f then some v' else none) := by
  by_cases hw : g = f
  · subst hw
    rw [if_pos rfl]
    have q : List.lookup g [(g, v)] = some v := by simp [List.lookup]
    rw [q]
    exact r
  · rw [if_neg hw]
    have qw : (g == f) = false := by simpa using hw
    have q2 : List.lookup g [(f, v)] = none := by simp [List.lookup, qw]
    rw [q2]
    trivial
section
variable {X : Cx} {C fI : Addr} {cn f p : Str}
/-- cn(e) -/
def tMkS (C : Addr) (f : Str) (ta : TA) : L2.St → Hp → XK → Prop := fun σ H Q => ta σ H fun vs H1 => ∃ v, vs = [v] ∧ ∀ d, H1 d = none → Q (.ref C) (some d) (upd H1 d (.xd [(f, v)]))
theorem pmk_sup {a : Expr} {ta : TA} {p0 pos : Pos} {k : Nat} (T : SupTxt X.prog X.K X.mg cn f p C fI) (hr : Room k X.A)
    (hbd : ∀ (s : Shared) (doc pm : Value) (an : Option Addr) (cdv ct : Value) (cc : Addr) (p1 p2 : Pos) (b : List Stmt) (qual : Str) (u1 u2 : Value), BindsTo s (PySem.W.ksFn "__init__" qual (siA p p1 p2) b (siS p) .none .none doc pm an cdv ct cc) ⟨[u1, u2], []⟩ [("self", u1), (p, u2)])
    (hg : Gl X cn) (ha : PA X [a] ta) (hdb : (cn == ("__debug__" : Str)) = false := by decide)
    (he : starEach (a :: []) X.env = (false, eval a X.env) :: starEach [] X.env := by rfl) (hpl : (backTo pos (starEach [] X.env)).any (·.1) = false := by rfl) :
    PMk X (.Call (.Name cn p0) [a] [] pos) (tMkS C f ta) := by
  intro pins s σ H Q I h
  refine wpAny_Call_Name_kw (ld_glob I hg T.gC ?_ hdb)
  refine PySem.W.callWith_K (h₀ := X.base) I.ok.mod.kin T.kC (thn (ha.run pos pins s σ H _ I h) fun us s1 hh => ?_) he hpl
  obtain ⟨vs, H1, I1, r1, v, ev, q1⟩ := hh
  subst ev
  refine ⟨I1.kIn, ?_⟩
  cases r1 with
  | cons rv rn =>
    rename_i v' us'
    cases rn
    show wpAny _ _ (call (.ref C) [v']) _ _ _
    have hlim := I1.nolimit
    obtain ⟨mb, hb1, hb2⟩ := I1.mod.blt
    have hgl : s1.heap.Ns mainGlobals X.mg := I1.mod.glob.keeps I1.bk
    have hbl : s1.heap.Ns builtinsNs mb := hb1.keeps I1.bk
    obtain ⟨hp, g, dr, tk, os⟩ := s1
    refine wpAny_call (sup_made (mb := mb) T I1.kIn hlim hgl hbl ((hb2 "super" (by decide)).trans rfl) (by have := hr.dp; omega) hbd fun h' tk' e d M => ?_)
    show MkP X pins σ Q (.ref e) ⟨h', g, dr, tk', os⟩
    obtain ⟨oe, fv, hoe, hc, hd, hdat, h1⟩ := M.obj
    have hns := M.ns
    obtain ⟨G', g1, g2⟩ := restrict h' fun b => decide (b ≠ e)
    have gk : ∀ b, b ≠ e → G'.get? b = h'.get? b := fun b hb => g1 b (decide_eq_true hb)
    have ge : G'.get? e = none := g2 e (by simp)
    have old : ∀ b o, hp.get? b = some o → G'.get? b = some o := fun b o q => (gk b (Nat.ne_of_lt (Nat.lt_of_lt_of_le (Heap.lt_size q) M.new))).trans (M.keep b o q)
    have ob : ObjOk X.prog X.w (upd H1 d (.xd [(f, v)])) G' d (.xd [(f, v)]) :=
      ⟨_, hns.at (fun o q => (gk d M.dne).trans q), fun g => relO_one rv g⟩
    have J : Inv X pins σ (upd H1 d (.xd [(f, v)])) ⟨G', g, dr, tk', os⟩ := I1.laid (t' := tk') old M.dbig ob
    refine ⟨e, oe, fv, ⟨G', g, dr, tk', os⟩, _, .ref C, some d, rfl, J, fun b o q => ?_, ge, hoe, ⟨hc, hd⟩, hdat, h1, ?_, rfl, I1.bare, raises_own T.exC T.tyC, q1 d (I1.hok.fresh M.dbig)⟩
    · by_cases hb : b = e
      · have q' : G'.get? b = some o := q
        rw [hb, ge] at q'; cases q'
      · exact (gk b hb).symm.trans q
    · rw [upd_ne (Ne.symm M.dne)]
      exact I1.hok.fresh M.new
end
/-! ### try with several clauses, with and without a name -/
abbrev Cl : Type := Value × Option Nat × (Addr → Value → Option Addr → TS)
def endS (D : Ends) (i : Nat) : Ends := { nx := fun σ' H' => D.nx (σ'.set i none) H', rt := D.rt, bk := fun σ' H' => D.bk (σ'.set i none) H', ct := fun σ' H' => D.ct (σ'.set i none) H' }
def wCls (K : PySem.W.Frag) (Wout : WX) (D : Ends) : List Cl → WX
  | [] => Wout
  | (c, none, ts) :: r => fun cls d σ H => ∃ b, PySem.W.exmOne K cls c = some b ∧ (b = true → ∀ a, H a = none → ts a cls d D σ H) ∧ (b = false → wCls K Wout D r cls d σ H)
  | (c, some i, ts) :: r => fun cls d σ H => ∃ b, PySem.W.exmOne K cls c = some b ∧ (b = true → ∀ a, H a = none → ts a cls d (endS D i) (σ.set i (some (.ref a))) H) ∧ (b = false → wCls K Wout D r cls d σ H)
inductive HdsA (X : Cx) : List ExceptHandler → List Cl → Prop
  | nil : HdsA X [] []
  | cons {x : Str} {c : Value} {ts : Addr → Value → Option Addr → TS} {b₀ : Stmt} {suite : List Stmt} {np pos' : Pos} {hds : List ExceptHandler} {l : List Cl} (hc : Names X x c)
      (hsu : ∀ (a : Addr) (oe : Obj) (cls : Value) (d : Option Addr) (pn : List (Addr × Obj)), Zc cls d oe → (∃ vs, oe.data = .fields vs) → PSs (X.suite a ((a, oe) :: pn)) (b₀ :: suite) (ts a cls d)) (r : HdsA X hds l) :
      HdsA X (.ExceptHandler (some (.Name x np)) none (b₀ :: suite) pos' :: hds) ((c, none, ts) :: l)
  | consA {x n : Str} {c : Value} {i : Nat} {ts : Addr → Value → Option Addr → TS} {b₀ : Stmt} {suite : List Stmt} {np pos' : Pos} {hds : List ExceptHandler} {l : List Cl} (hN : X.N.Nodup) (hi : X.N[i]? = some n) (hln : X.env.kindOf n = some .local) (hc : Names X x c)
      (hsu : ∀ (a : Addr) (oe : Obj) (cls : Value) (d : Option Addr) (pn : List (Addr × Obj)), Zc cls d oe → (∃ vs, oe.data = .fields vs) → PSs (X.suite a ((a, oe) :: pn)) (b₀ :: suite) (ts a cls d)) (r : HdsA X hds l) :
      HdsA X (.ExceptHandler (some (.Name x np)) (some n) (b₀ :: suite) pos' :: hds) ((c, some i, ts) :: l)
section
variable {X : Cx} {body : List Stmt} {h₀ : ExceptHandler} {hds : List ExceptHandler} {l : List Cl} {pos : Pos} {tb : WX → TS} {Wout : WX}
theorem ps_try (hs : X.stack = X.env :: X.outer) (hf : X.env.frame = some X.env.locals) (tk : Takes X Wout)
    (hb : ∀ (W : WX) (pn : List (Addr × Obj)) (xe : Value → Shared → Prop), Takes (X.tr pn xe) W → PassesOwn (model X.prog X.w) X.A X.env xe → PSs (X.tr pn xe) body (tb W))
    (hh : HdsA X (h₀ :: hds) l) : PS X (.Try body (h₀ :: hds) [] [] pos) (fun D σ H => tb (wCls X.K Wout D l) D σ H) := by
  refine ⟨fun pins s σ H D I h => ?_⟩
  have ok := I.ok
  have hfr : X.A.frames = some (X.env :: X.outer) := by rw [ok.frames, hs]
  refine wpAny_Try_except ?_
  refine wpAny_mono ((hb (wCls X.K Wout D l) (X.pn ++ pins) (fun e s₁ => wpAny (model X.prog X.w) X.A (noteFrame e X.env) (fun _ s₂ => wpAny (model X.prog X.w) X.A (setFlight e none) (fun _ s₃ =>
    wpAny (model X.prog X.w) X.A (handleBy e X.env (h₀ :: hds)) (SP X pins D) X.xe s₃) X.xe s₂) X.xe s₁) (fun u s' xx => ?_) PassesOwn.looking).run [] s σ H D (I.toTry _) h) (fun f s1 hsp => ?_) (fun e s1 he => he)
  · obtain ⟨a, B, sI, pins', σ', H', cls, d, rfl, J', nb, up, sky, na, os, ag, w⟩ := xx
    have J : Inv X pins σ' H' sI := J'.ofTry ok
    have sky' : Sky B (X.env :: X.outer) a (Zc cls d) X.env.locals s'.heap := by rw [← hs]; exact sky
    show wpAny (model X.prog X.w) X.A (noteFrame (.ref a) X.env) _ _ _
    refine Sky.land Zc.steady hfr hf sky' fun h3 fl3 up3 => ?_
    have J3 : Inv X pins σ' H' { s' with heap := h3 } := J.landed nb fl3.1 (up.trans up3) os ag
    obtain ⟨oe3, vs3, he3, hz3, hd3⟩ := fl3.there
    have notFr : ∀ {h : Heap} {o : Obj} {vs : Array Value}, h.FunFrames B (X.env :: X.outer) → h.get? a = some o → o.data = .fields vs → a ∉ frs (X.env :: X.outer) := fun {h o vs} ff e dd hm => by
      obtain ⟨_, o', e', hnf⟩ := ff.mem hm
      rw [e] at e'; cases e'
      exact hnf _ dd
    have nfr := notFr fl3.2.2.1 he3 hd3
    have nL : a ≠ X.env.locals := fun z => nfr (List.mem_filterMap.mpr ⟨X.env, List.mem_cons_self, by rw [hf, z]⟩)
    have nF : a ∉ X.fs := fun hm => by
      obtain ⟨e, he, q⟩ := List.mem_filterMap.mp hm
      exact nfr (List.mem_filterMap.mpr ⟨e, List.mem_cons_of_mem _ he, q⟩)
    have S3 := J3.suite he3 hd3 na nL nF
    have go : ∀ {hds' : List ExceptHandler} {l' : List Cl}, HdsA X hds' l' → wCls X.K Wout D l' cls d σ' H' →
        wpAny (model X.prog X.w) X.A (handleBy (.ref a) X.env hds') (SP X pins D) X.xe { s' with heap := h3 } := by
      intro hds' l' hk
      induction hk with
      | nil =>
        intro w
        refine wpAny_handleBy_nil ?_
        obtain ⟨k1, k2, k3, oe, vs, T, oT, ts', he, hz, hd, h1, hr⟩ := id fl3
        unfold PySem.passOn
        refine wpAny_bind (wpAny_field he hd h1 ?_)
        rw [if_neg (show ¬ ((Value.ref T == Value.none) = true) from by simp)]
        have fin : wpAny (model X.prog X.w) X.A (setFlight (.ref a) X.env.frame) (fun _ s4 => wpAny (model X.prog X.w) X.A (throw (.ref a) : Sem Flow) (SP X pins D) X.xe s4) X.xe { s' with heap := h3 } := by
          rw [hf]
          refine HandSPX.setFlight_upZ fl3 fun h4 hh4 up4 => wpAny_throw (tk _ _ ?_)
          exact ⟨a, B, sI, pins, σ', H', cls, d, rfl, J, nb, (up.trans up3).trans up4, .inr (.inr (by rw [hs]; exact hh4)), na, os, ag, w⟩
        first
          | exact wpAny_bind (wpAny_pure (wpAny_bind fin))
          | exact wpAny_bind fin
      | @cons x c ts b₀ suite np pos' hds2 l2 hc hsu r ih =>
        intro w
        obtain ⟨b, hb1, hyes, hno⟩ := w
        refine wpAny_handleBy_cons (codeAny_handlers_test ?_) (by intro q; cases q)
        have LT : PySem.W.Looks (model X.prog X.w) h3 (typeOf (.ref a)) cls := fun A Q E s k q => wpAny_typeOf_ref (k _ _ he3) (by rw [hz3.1]; exact q)
        have LM := PySem.W.exm_one (M := model X.prog X.w) (J3.kIn) LT hb1
        have test : ∀ {Q : Value → Shared → Prop} {E : Value → Shared → Prop}, Q c { s' with heap := h3 } → wpAny (model X.prog X.w) (X.A.mark (some (.ref a))) (eval (.Name x np) X.env) Q E { s' with heap := h3 } := fun {Q E} q => by
          obtain ⟨hg, hdbg, hm | ⟨hm, hv, hnn⟩⟩ := hc
          · exact ld_glob (X := X.suite a ((a, oe3) :: (X.pn ++ pins))) S3 hg hm q hdbg
          · exact ld_blt (X := X.suite a ((a, oe3) :: (X.pn ++ pins))) S3 hg hm hv q hnn hdbg
        refine test (LM.here ?_)
        cases b with
        | true =>
          refine codeAny_handlers_suite ?_
          refine HandSPX.lands_againZ fl3 fun h4 fl4 up4 => ?_
          have J4 : Inv X pins σ' H' { s' with heap := h4 } := J.landed nb fl4.1 ((up.trans up3).trans up4) os ag
          obtain ⟨oe4, vs4, he4, hz4, hd4⟩ := fl4.there
          have S4 := J4.suite he4 hd4 na nL nF
          refine wpAny_mono ((hsu a oe4 cls d (X.pn ++ pins) hz4 ⟨_, hd4⟩).run [] _ _ H' _ S4 (hyes rfl a na)) (fun f s6 hsp => ?_) (fun _ _ z => False.elim z)
          cases f with
          | next =>
            obtain ⟨σ6, H6, S6, q6⟩ := hsp
            exact ⟨_, _, S6.unsuite ok, q6⟩
          | brk =>
            obtain ⟨σ6, H6, S6, q6⟩ := hsp
            exact ⟨_, _, S6.unsuite ok, q6⟩
          | cont =>
            obtain ⟨σ6, H6, S6, q6⟩ := hsp
            exact ⟨_, _, S6.unsuite ok, q6⟩
          | ret u =>
            obtain ⟨v6, σ6, H6, S6, r6, q6⟩ := hsp
            exact ⟨_, _, _, S6.unsuite ok, r6, q6⟩
        | false =>
          show wpAny _ X.A (handleBy (.ref a) X.env hds2) _ _ _
          exact ih (hno rfl)
      | @consA x n c i ts b₀ suite np pos' hds2 l2 hN hi hln hc hsu r ih =>
        intro w
        have hloc : Loc X.env.scope n := .inl hln
        obtain ⟨b, hb1, hyes, hno⟩ := w
        refine wpAny_handleBy_cons (codeAny_handlers_test ?_) (by intro q; cases q)
        have LT : PySem.W.Looks (model X.prog X.w) h3 (typeOf (.ref a)) cls := fun A Q E s k q => wpAny_typeOf_ref (k _ _ he3) (by rw [hz3.1]; exact q)
        have LM := PySem.W.exm_one (M := model X.prog X.w) (J3.kIn) LT hb1
        have test : ∀ {Q : Value → Shared → Prop} {E : Value → Shared → Prop}, Q c { s' with heap := h3 } → wpAny (model X.prog X.w) (X.A.mark (some (.ref a))) (eval (.Name x np) X.env) Q E { s' with heap := h3 } := fun {Q E} q => by
          obtain ⟨hg, hdbg, hm | ⟨hm, hv, hnn⟩⟩ := hc
          · exact ld_glob (X := X.suite a ((a, oe3) :: (X.pn ++ pins))) S3 hg hm q hdbg
          · exact ld_blt (X := X.suite a ((a, oe3) :: (X.pn ++ pins))) S3 hg hm hv q hnn hdbg
        refine test (LM.here ?_)
        cases b with
        | true =>
          refine codeAny_handlers_suite_as ?_
          refine HandSPX.lands_againZ fl3 fun h4 fl4 up4 => ?_
          have J4 : Inv X pins σ' H' { s' with heap := h4 } := J.landed nb fl4.1 ((up.trans up3).trans up4) os ag
          obtain ⟨oe4, vs4, he4, hz4, hd4⟩ := fl4.there
          have S4 := J4.suite he4 hd4 na nL nF
          refine store_ok (X := X.suite a ((a, oe4) :: (X.pn ++ pins))) (v := .ref a) S4 hN hi hloc rfl (fun s5 S5 => ?_) (.inr hln)
          refine wpAny_mono ((hsu a oe4 cls d (X.pn ++ pins) hz4 ⟨_, hd4⟩).run [] s5 _ H' _ S5 (hyes rfl a na)) (fun f s6 hsp => ?_) (fun _ _ z => False.elim z)
          have end_ : ∀ {σ6 : L2.St} {H6 : Hp} {Q : Shared → Prop}, Inv (X.suite a ((a, oe4) :: (X.pn ++ pins))) [] σ6 H6 s6 → (∀ s7, Inv X pins (σ6.set i none) H6 s7 → Q s7) →
              wpAny (model X.prog X.w) X.A (do bindName X.env n .none; unbindBehindTheSuite X.env n pos') (fun _ s7 => Q s7) X.xe s6 := fun {σ6 H6 Q} S6 hq => gone_ok (S6.unsuite ok) hN hi hln hq
          cases f with
          | next =>
            obtain ⟨σ6, H6, S6, q6⟩ := hsp
            exact end_ S6 fun s7 J7 => ⟨_, _, J7, q6⟩
          | brk =>
            obtain ⟨σ6, H6, S6, q6⟩ := hsp
            exact end_ S6 fun s7 J7 => ⟨_, _, J7, q6⟩
          | cont =>
            obtain ⟨σ6, H6, S6, q6⟩ := hsp
            exact end_ S6 fun s7 J7 => ⟨_, _, J7, q6⟩
          | ret u =>
            obtain ⟨v6, σ6, H6, S6, r6, q6⟩ := hsp
            exact end_ S6 fun s7 J7 => ⟨_, _, _, J7, r6, q6⟩
        | false =>
          show wpAny _ X.A (handleBy (.ref a) X.env hds2) _ _ _
          exact ih (hno rfl)
    exact go hh w
  · cases f with
    | next =>
      obtain ⟨σ', H', J', q⟩ := hsp
      exact wpAny_execs_nil ⟨σ', H', J'.ofTry ok, q⟩
    | brk =>
      obtain ⟨σ', H', J', q⟩ := hsp
      exact ⟨σ', H', J'.ofTry ok, q⟩
    | cont =>
      obtain ⟨σ', H', J', q⟩ := hsp
      exact ⟨σ', H', J'.ofTry ok, q⟩
    | ret u =>
      obtain ⟨v, σ', H', J', r, q⟩ := hsp
      exact ⟨v, σ', H', J'.ofTry ok, r, q⟩
end
end My
set_option maxHeartbeats 2000000
namespace My
open PySem PySem.Spec PyProof.Rows L2
/-! ### defs that may raise -/
structure CalX (P : Program) (w : World) (K : PySem.W.Frag) (mg : Str → Option Value) (base : Heap) (k : Nat) (x : Str) (sp : Sp) (dvs : List V) : Prop where
  ex : ∃ (f : Addr) (fd : FuncData) (ps : List Str) (ds : List Value), FnOk P w K mg base (L2.CX P w) k f fd ps sp ∧ mg x = some (.ref f) ∧ PySem.W.keepIn K (.ref f) = true ∧ Binds K fd ps ds ∧ Vals dvs ds
structure MetX (P : Program) (w : World) (K : PySem.W.Frag) (mg : Str → Option Value) (base : Heap) (k : Nat) (C : Addr) (m : Str) (sp : Sp) (dvs : List V) : Prop where
  ex : ∃ (f : Addr) (fd : FuncData) (ps : List Str) (ds : List Value), Cls K C ∧ Meth K C m f ∧ FnOk P w K mg base (L2.CX P w) k f fd ps sp ∧ Binds K fd ps ds ∧ Vals dvs ds
structure MakX (P : Program) (w : World) (K : PySem.W.Frag) (mg : Str → Option Value) (base : Heap) (k : Nat) (x : Str) (C : Addr) (sp : Sp) (dvs : List V) : Prop where
  ex : ∃ (f : Addr) (fd : FuncData) (ps : List Str) (ds : List Value), Mk K C f ∧ FnOk P w K mg base (L2.CX P w) k f fd ps sp ∧ mg x = some (.ref C) ∧ Binds K fd ps ds ∧ Vals dvs ds
section
variable {X : Cx} {k j : Nat} {C f : Addr} {fd : FuncData} {ps : List Str} {ds : List Value} {x m : Str} {sp : Sp} {dvs : List V} {p pos apos : Pos} {e o : Expr} {es : List Expr} {ta : TE} {t : TA} {W : WX}
/-- readings: what is raised is wished for at the caller's slots -/
def tCallX (sp : Sp) (dvs : List V) (W : WX) (t : TA) : TE := fun σ H Q => t σ H fun vs H1 => sp (vs ++ dvs) H1 Q (WE W σ)
def tMethX (C : Addr) (m : Str) (sp : Sp) (dvs : List V) (W : WX) (ta : TE) (t : TA) : TE := fun σ H Q => ta σ H fun x H1 => ∃ a dx fs, x = .ref a ∧ H1 a = some (.ins C dx fs) ∧ fs.lookup m = none ∧
  t σ H1 fun vs H2 => sp (x :: (vs ++ dvs)) H2 Q (WE W σ)
def tMakeX (C : Addr) (sp : Sp) (dvs : List V) (W : WX) (t : TA) : TE := fun σ H Q => t σ H fun vs H1 => ∀ x dx, H1 x = none → H1 dx = none → dx ≠ x →
  sp (.ref x :: (vs ++ dvs)) (upd (upd H1 dx (.own x)) x (.ins C dx [])) (fun v H2 => v = .non ∧ Q (.ref x) H2) (WE W σ)
theorem pe_cX (c : CalX X.prog X.w X.K X.mg X.base k x sp dvs) (hr : Room j X.A) (hk : k ≤ j) (hg : Gl X x) (tk : Takes X W) (ha : PA X (e :: es) t)
    (hdb : (x == ("__debug__" : Str)) = false := by decide) (he : starEach (e :: es) X.env = (false, eval e X.env) :: starEach es X.env := by rfl) (hpl : (backTo pos (starEach es X.env)).any (·.1) = false := by rfl) :
    PE X (.Call (.Name x p) (e :: es) [] pos) (tCallX sp dvs W t) := by
  obtain ⟨f, fd, ps, ds, F, hm, kp, b, d⟩ := c.ex
  exact pe_callSD F (hr.mono hk) hg hm kp b d (fun σ => passAt tk σ) ha hdb he hpl
theorem pe_c0X (c : CalX X.prog X.w X.K X.mg X.base k x sp dvs) (hr : Room j X.A) (hk : k ≤ j) (hg : Gl X x) (tk : Takes X W) (hdb : (x == ("__debug__" : Str)) = false := by decide) :
    PE X (.Call (.Name x p) [] [] pos) (tCallX sp dvs W tNil) := by
  obtain ⟨f, fd, ps, ds, F, hm, kp, b, d⟩ := c.ex
  refine ⟨fun pins s σ H Q I h => ?_⟩
  refine wpAny_Call_Name_kw (ld_glob I hg hm ?_ hdb)
  exact PySem.W.callWith_K0 I.kIn kp (run_fnSD (E := WE W) (us := []) F (hr.mono hk) b d (passAt tk σ) I .nil h)
theorem pe_mtX {pl : Sem Bool} (c : MetX X.prog X.w X.K X.mg X.base k C m sp dvs) (hr : Room j X.A) (hk : k ≤ j) (tk : Takes X W) (he : PE X o ta) (ha : PA X (e :: es) t)
    (hst : starEach (e :: es) X.env = (false, eval e X.env) :: starEach es X.env := by rfl) (hpl : (backTo pos (starEach es X.env)).any (·.1) = false := by rfl)
    (ht : eval (.Call (.Attribute o m apos) (e :: es) [] pos) X.env = (do
      let ov ← eval o X.env
      standAt apos.atName
      let (f, first) ← holding [ov] (getMethod ov m pl)
      callWith pos f first (backTo pos (starEach (e :: es) X.env)) (backToKw pos (keywordEach [] X.env))) := by rfl) :
    PE X (.Call (.Attribute o m apos) (e :: es) [] pos) (tMethX C m sp dvs W ta t) := by
  obtain ⟨f, fd, ps, ds, c, hm, F, b, d⟩ := c.ex
  refine ⟨fun pins s σ H Q I h => ?_⟩
  refine PySem.W.methodCall_KW (pl := pl) (thn (he.run pins s σ H _ I h) fun u s1 ⟨x, H1, I1, rx, a, dx, fs, ex, ea, l, q⟩ => ?_) ht
  subst ex
  obtain rfl : u = Value.ref a := rx
  refine getmeth_ok I1 ea c hm l ?_
  refine PySem.W.callWith_K (first := [.ref a]) (h₀ := X.base) I.ok.mod.kin hm.kp (thn (ha.run pos pins s1 σ H1 _ I1 q) fun us s2 ⟨vs, H2, I2, r, q2⟩ => ⟨I2.kIn, ?_⟩) hst hpl
  exact run_fnSD (E := WE W) (us := .ref a :: us) (vs := .ref a :: vs) F (hr.mono hk) b d (passAt tk σ) I2 (.cons rfl r) q2
theorem pe_mt0X {pl : Sem Bool} (c : MetX X.prog X.w X.K X.mg X.base k C m sp dvs) (hr : Room j X.A) (hk : k ≤ j) (tk : Takes X W) (he : PE X o ta)
    (ht : eval (.Call (.Attribute o m apos) [] [] pos) X.env = (do
      let ov ← eval o X.env
      standAt apos.atName
      let (f, first) ← holding [ov] (getMethod ov m pl)
      callWith pos f first (backTo pos (starEach [] X.env)) (backToKw pos (keywordEach [] X.env))) := by rfl) :
    PE X (.Call (.Attribute o m apos) [] [] pos) (tMethX C m sp dvs W ta tNil) := by
  obtain ⟨f, fd, ps, ds, c, hm, F, b, d⟩ := c.ex
  refine ⟨fun pins s σ H Q I h => ?_⟩
  refine PySem.W.methodCall_KW (pl := pl) (thn (he.run pins s σ H _ I h) fun u s1 ⟨x, H1, I1, rx, a, dx, fs, ex, ea, l, q⟩ => ?_) ht
  subst ex
  obtain rfl : u = Value.ref a := rx
  refine getmeth_ok I1 ea c hm l ?_
  exact PySem.W.callWith_K0 (first := [.ref a]) I1.kIn hm.kp (run_fnSD (E := WE W) (us := [.ref a]) (vs := [.ref a]) F (hr.mono hk) b d (passAt tk σ) I1 (.cons rfl .nil) q)
theorem run_makeX {pins : List (Addr × Obj)} {σ : L2.St} {H : Hp} {s : Shared} {Q : VK} {us : List Value} {vs : List V} {E : XK} {CX : CXT} (M : Mk X.K C f) (F : FnOk X.prog X.w X.K X.mg X.base CX k f fd ps sp) (hr : Room (k + 1) X.A) (hb : Binds X.K fd ps ds) (hd : Vals dvs ds)
    (hx : PassesAt CX X σ E) (I : Inv X pins σ H s) (r : Vals vs us)
    (h : ∀ x dx, H x = none → H dx = none → dx ≠ x → sp (.ref x :: (vs ++ dvs)) (upd (upd H dx (.own x)) x (.ins C dx [])) (fun v H2 => v = .non ∧ Q (.ref x) H2) E) :
    wpAny (model X.prog X.w) X.A (call (.ref C) us) (EP X pins σ Q) X.xe s := by
  have hq := h (s.heap.objs.size + 1) s.heap.objs.size (I.hok.fresh (Nat.le_succ _)) (I.hok.fresh (Nat.le_refl _)) (Nat.ne_of_lt (Nat.lt_succ_self _))
  have I2 := Inv.made (C := C) I
  have r2 : Vals (V.ref (s.heap.objs.size + 1) :: (vs ++ dvs)) (Value.ref (s.heap.objs.size + 1) :: (us ++ ds)) := .cons rfl (r.append hd)
  have hl : (Value.ref (s.heap.objs.size + 1) :: us ++ ds).length = ps.length := by
    have e := r2.length
    rw [F.len _ _ _ _ hq] at e
    exact e.symm
  refine wpAny_call (make_map (f := f) I.kIn M.makes M.init (beq_iff_eq.mp M.fn) (codeAny_mono (F.run _ X.stack _ _ ⟨Value.ref (s.heap.objs.size + 1) :: us, []⟩ (Value.ref (s.heap.objs.size + 1) :: (us ++ ds)) _ _ E (hr.make C us [])
    (I2.env0.make C us []) (hb _ (Value.ref (s.heap.objs.size + 1) :: us) I2.kIn hl) r2 hq) fun r s' hq' => ?_))
  cases r with
  | error e => exact hx pins _ _ e s' I2 hq'
  | ok fl =>
    cases fl with
    | ret u =>
      obtain ⟨v, H', I3, rv, ev, q3⟩ := I2.after hq'
      subst ev
      exact ⟨rv, ⟨V.ref (s.heap.objs.size + 1), H', I3, rfl, q3⟩⟩
    | next => exact False.elim hq'
    | brk => exact False.elim hq'
    | cont => exact False.elim hq'
theorem pe_mkX (c : MakX X.prog X.w X.K X.mg X.base k x C sp dvs) (hr : Room j X.A) (hk : k + 1 ≤ j) (hg : Gl X x) (tk : Takes X W) (ha : PA X (e :: es) t)
    (hdb : (x == ("__debug__" : Str)) = false := by decide) (he : starEach (e :: es) X.env = (false, eval e X.env) :: starEach es X.env := by rfl) (hpl : (backTo pos (starEach es X.env)).any (·.1) = false := by rfl) :
    PE X (.Call (.Name x p) (e :: es) [] pos) (tMakeX C sp dvs W t) := by
  obtain ⟨f, fd, ps, ds, M, F, hm, b, d⟩ := c.ex
  refine ⟨fun pins s σ H Q I h => ?_⟩
  refine wpAny_Call_Name_kw (ld_glob I hg hm ?_ hdb)
  refine PySem.W.callWith_K (h₀ := X.base) I.ok.mod.kin M.kp (thn (ha.run pos pins s σ H _ I h) fun us s1 ⟨vs, H1, I1, r, q⟩ => ⟨I1.kIn, ?_⟩) he hpl
  exact run_makeX (E := WE W σ) M F (hr.mono hk) b d (passAt tk σ) I1 r q
end
/-! ### what the head says of own errors with a field -/
/-- class, field, parameter, text, the places in the text, the file -/
structure ExD where
  cn : Str
  f : Str
  p : Str
  txt : Str
  qual : Str
  pA : Pos × Pos
  pB : Pos × Pos × Pos × Pos × Pos × Pos × Pos × Pos × Pos × Pos
def ExD.body (d : ExD) : List Stmt := siB d.f d.p d.txt d.pB.1 d.pB.2.1 d.pB.2.2.1 d.pB.2.2.2.1 d.pB.2.2.2.2.1 d.pB.2.2.2.2.2.1 d.pB.2.2.2.2.2.2.1 d.pB.2.2.2.2.2.2.2.1 d.pB.2.2.2.2.2.2.2.2.1 d.pB.2.2.2.2.2.2.2.2.2
abbrev FnE : Type := Option (Str × Str × Arguments × FuncBody × Scope × Addr × List Str × Addr × Value × Value)
def fnE (K : PySem.W.Frag) (d : ExD) : FnE := match K.lookup (He.ma K (He.ga K d.cn) "__init__") with
  | some ⟨_, _, .func fd, _⟩ => some (fd.name, fd.qualname, fd.params, fd.body, fd.scope, fd.globals, fd.closure.map (·.1), fd.builtins, fd.defaults, fd.kwdefaults)
  | _ => none
def ExD.val (d : ExD) : FnE := some ("__init__", d.qual, siA d.p d.pA.1 d.pA.2, .stmts d.body, siS d.p, mainGlobals, ["__class__"], builtinsNs, .none, .none)
def cellB (K : PySem.W.Frag) (C : Addr) (cl : List (Str × Addr)) : Bool := match cl with
  | [(_, cc)] => (match K.lookup cc with
    | some ⟨_, _, .cell (some (.ref D)), _⟩ => decide (D = C)
    | _ => false)
  | _ => false
def fileB (K : PySem.W.Frag) (file : Str) (cd : Value) : Bool := match cd with
  | .ref c => (match K.lookup c with
    | some ⟨_, _, .fields vs, _⟩ => (match vs[2]? with
      | some (Value.str x _) => file == x
      | _ => false)
    | _ => false)
  | _ => false
def clsE (K : PySem.W.Frag) (C : Addr) : Bool := match K.lookup C with
  | some ⟨.type ty, _, .cls cd, sl⟩ => (match cd.mro, sl.toList with
    | .ref c :: bm, [_, _, _, _, some (.builtin n), _] => decide (c = C) && PySem.HandSPX.refsVE bm && decide (n = "ValueError.__new__") && cd.hasDict && !cd.hasDel && decide (ty = "type")
    | _, _ => false)
  | _ => false
def ExD.ok (K : PySem.W.Frag) (file : Str) (d : ExD) : Bool :=
  clsE K (He.ga K d.cn) && (decide (PySem.W.ks_superIn K (He.ga K d.cn) (He.ga K d.cn) "__init__" = some (some (.builtin "ValueError.__init__"))) && (decide (PySem.W.findIn K (.ref (He.ga K d.cn)) "__setattr__" = some (some (.builtin "object.__setattr__"))) &&
  (decide (PySem.W.findIn K (.ref (He.ga K d.cn)) d.f = some none) && (decide (PySem.W.findIn K (.ref (He.ga K d.cn)) "__init__" = some (some (.ref (He.ma K (He.ga K d.cn) "__init__")))) && (decide (PySem.W.typeIn K (.ref (He.ma K (He.ga K d.cn) "__init__")) = some (.type "function")) &&
  (PySem.W.keepIn K (.ref (He.ga K d.cn)) && (decide (PySem.W.subIn K (.ref (He.ga K d.cn)) (.type "BaseException") = some true) && (decide (PySem.W.subIn K (.ref (He.ga K d.cn)) (.type "ValueError") = some true) && (decide (PySem.W.typeIn K (.ref (He.ga K d.cn)) = some (.type "type")) &&
  (decide (PySem.W.mroIn K (He.ga K d.cn) (.ref (He.ga K d.cn)) = some true) && (decide (PySem.W.nsIn K cStatics "thirdparty.any" = some none) && (decide (PySem.W.nsIn K mainGlobals "super" = some none) && (decide (PySem.W.nsIn K mainGlobals d.cn = some (some (.ref (He.ga K d.cn)))) &&
  (L2.xfB K (He.ga K d.cn) && (match K.lookup (He.ma K (He.ga K d.cn) "__init__") with
    | some ⟨_, _, .func fd, _⟩ => PySem.W.codeIn K fd.code d.qual && (cellB K (He.ga K d.cn) fd.closure && fileB K file fd.code)
    | _ => false)))))))))))))))
theorem clsE_ok {K : PySem.W.Frag} {C : Addr} (h : clsE K C = true) : ∃ nm q N bs bm sn sub ab col dd k0 k1 k2 k3 k5, K.lookup C = some (excClassObj nm q C N bs bm true sn sub ab col dd k0 k1 k2 k3 k5 "ValueError.__new__") ∧ PySem.HandSPX.refsVE bm = true := by
  unfold clsE at h
  split at h
  · rename_i ty od cd sl e
    split at h
    · rename_i c bm k0 k1 k2 k3 n k5 hm hs
      simp only [Bool.and_eq_true, decide_eq_true_eq, Bool.not_eq_true'] at h
      obtain ⟨⟨⟨⟨⟨rfl, h2⟩, rfl⟩, h4⟩, h5⟩, rfl⟩ := h
      obtain ⟨nm, bs, mro, ns, qn, hd, sn, sub, ab, col, del⟩ := cd
      dsimp only at hm h4 h5
      subst hm h4 h5
      have hsl : sl = #[k0, k1, k2, k3, some (.builtin "ValueError.__new__"), k5] := by
        obtain ⟨l⟩ := sl
        simp only at hs
        rw [hs]
      subst hsl
      exact ⟨nm, qn, ns, bs, bm, sn, sub, ab, col, od, k0, k1, k2, k3, k5, e, h2⟩
    · cases h
  · cases h
theorem cellB_ok {K : PySem.W.Frag} {C : Addr} {cl : List (Str × Addr)} (h : cellB K C cl = true) : ∃ n cc, cl = [(n, cc)] ∧ ∃ a b c, K.lookup cc = some ⟨a, b, .cell (some (.ref C)), c⟩ := by
  unfold cellB at h
  split at h
  · rename_i n cc
    split at h
    · rename_i a b D c e
      have := of_decide_eq_true h
      subst this
      exact ⟨n, cc, rfl, _, _, _, e⟩
    · cases h
  · cases h
theorem fileB_ok {K : PySem.W.Frag} {file : Str} {cd : Value} (h : fileB K file cd = true) : ∃ c, cd = .ref c ∧ ∃ (ccl : Value) (cdd : Option Addr) (ccs : Array (Option Value)) (vs : Array Value) (x : Str) (tf : Tok), K.lookup c = some ⟨ccl, cdd, .fields vs, ccs⟩ ∧ vs[2]? = some (.str x tf) ∧ (file == x) = true := by
  unfold fileB at h
  split at h
  · rename_i c
    split at h
    · rename_i a b vs d e
      split at h
      · rename_i x tf e2
        exact ⟨c, rfl, _, _, _, _, _, _, e, e2, h⟩
      · cases h
    · cases h
  · cases h
def ExD.nepB (d : ExD) : Bool := (("self" : Str) == d.p) == false && ((d.p == ("__debug__" : Str)) == false && ((("super" : Str) == d.p) == false && ((("__class__" : Str) == d.p) == false && (d.pB.2.2.1.endLine == d.pB.2.2.2.2.1.line))))
theorem ExD.sup {P : Program} {K : PySem.W.Frag} {mg : Str → Option Value} {h : Heap} {d : ExD} (X : K.In h) (G : h.Ns mainGlobals mg) (c : d.ok K P.main.file = true) (e : fnE K d = d.val) (top : (P.main.scope.names.lookup ("super" : Str)).isSome = false) (n : d.nepB = true) :
    SupTxt P K mg d.cn d.f d.p (He.ga K d.cn) (He.ma K (He.ga K d.cn) "__init__") ∧ L2.XfC K (He.ga K d.cn) := by
  unfold ExD.ok at c
  obtain ⟨c1, c⟩ := He.ba c
  obtain ⟨c2, c⟩ := He.ba c
  obtain ⟨c3, c⟩ := He.ba c
  obtain ⟨c4, c⟩ := He.ba c
  obtain ⟨c5, c⟩ := He.ba c
  obtain ⟨c6, c⟩ := He.ba c
  obtain ⟨c7, c⟩ := He.ba c
  obtain ⟨c8, c⟩ := He.ba c
  obtain ⟨c9, c⟩ := He.ba c
  obtain ⟨c10, c⟩ := He.ba c
  obtain ⟨c11, c⟩ := He.ba c
  obtain ⟨c12, c⟩ := He.ba c
  obtain ⟨c13, c⟩ := He.ba c
  obtain ⟨c14, c⟩ := He.ba c
  obtain ⟨c15, c⟩ := He.ba c
  obtain ⟨n1, n⟩ := He.ba (show _ = true from n)
  obtain ⟨n2, n⟩ := He.ba n
  obtain ⟨n3, n⟩ := He.ba n
  obtain ⟨n4, n5⟩ := He.ba n
  refine ⟨⟨PySem.W.mg_of X G (of_decide_eq_true c14), clsE_ok c1, of_decide_eq_true c2, of_decide_eq_true c3, of_decide_eq_true c4, of_decide_eq_true c5, of_decide_eq_true c6, c7, of_decide_eq_true c8, of_decide_eq_true c9, of_decide_eq_true c10, of_decide_eq_true c11, of_decide_eq_true c12, of_decide_eq_true c13, top, ⟨eq_of_beq n1, eq_of_beq n2, eq_of_beq n3, eq_of_beq n4⟩, ?_⟩, L2.xfB_ok c15⟩
  unfold fnE at e
  cases q : K.lookup (He.ma K (He.ga K d.cn) "__init__") with
  | none => rw [q] at c; cases c
  | some o =>
    obtain ⟨oc, od, dt, osl⟩ := o
    rw [q] at c e
    cases dt with
    | func fd =>
      obtain ⟨a1, a2, a3, a4, a5, a6, a7, a8, a9, a10, a11, a12, a13, a14, a15⟩ := fd
      have e2 : (some (a1, a2, a3, a4, a5, a6, a7.map (·.1), a15, a8, a9) : FnE) = (some ("__init__", d.qual, siA d.p d.pA.1 d.pA.2, .stmts d.body, siS d.p, mainGlobals, ["__class__"], builtinsNs, .none, .none) : FnE) := e
      simp only [Option.some.injEq, Prod.mk.injEq] at e2
      obtain ⟨h1, h2, h3, h4, h5, h6, h7, h8, h9, h10⟩ := e2
      subst h1 h2 h3 h4 h5 h6 h8 h9 h10
      have c' : (PySem.W.codeIn K a13 d.qual && (cellB K (He.ga K d.cn) a7 && fileB K P.main.file a13)) = true := c
      obtain ⟨k1, k2⟩ := He.ba c'
      obtain ⟨k3, k4⟩ := He.ba k2
      obtain ⟨nn, cc, rfl, hc⟩ := cellB_ok k3
      obtain ⟨ca, rfl, hf⟩ := fileB_ok k4
      have enn : nn = "__class__" := by
        have h7' : [nn] = [("__class__" : Str)] := h7
        exact (List.cons.inj h7').1
      subst enn
      exact ⟨d.txt, oc, od, a10, a11, a12, ca, a14, osl, cc, d.pA.1, d.pA.2, d.pB.1, d.pB.2.1, d.pB.2.2.1, d.pB.2.2.2.1, d.pB.2.2.2.2.1, d.pB.2.2.2.2.2.1, d.pB.2.2.2.2.2.2.1, d.pB.2.2.2.2.2.2.2.1, d.pB.2.2.2.2.2.2.2.2.1, d.pB.2.2.2.2.2.2.2.2.2, d.qual, rfl, k1, n5, hc, hf⟩
    | _ => cases c
/-! ### the Hook: facts, defs, one more Bool, dicts of the top, getters, own errors with a field -/
def asX (g : Addr → Option Obj) (n : Nat) : List Addr := cStatics :: He.asD g n
abbrev AlX : Type := He.AlD × Bool × List (Option (List (Option (Str × Int)))) × List He.FnW × List FnE
def obsX (file : Str) (fa : List He.Fa) (fn : List He.DefD) (ex : PySem.W.Frag → Bool) (ts : List He.Tab) (gs : List GetD) (es : List ExD) (K : PySem.W.Frag) : AlX := (He.obsD fa fn K, ex K && (getsB gs K && es.all fun d => d.ok K file), tabsOf ts K, getsOf gs K, es.map (fnE K))
def dueX (fn : List He.DefD) (ts : List He.Tab) (gs : List GetD) (es : List ExD) (w : World) : AlX := (He.valD fn, true, tabsDue ts w, getsDue gs, es.map ExD.val)
def obsXG (n : Nat) (file : Str) (fa : List He.Fa) (fn : List He.DefD) (ex : PySem.W.Frag → Bool) (ts : List He.Tab) (gs : List GetD) (es : List ExD) (g : Addr → Option Obj) : AlX := obsX file fa fn ex ts gs es (He.frG g (asX g n))
structure SaysX (file : Str) (fa : List He.Fa) (fn : List He.DefD) (ex : PySem.W.Frag → Bool) (ts : List He.Tab) (gs : List GetD) (es : List ExD) (w : World) (K : PySem.W.Frag) : Prop where
  c : He.SaysD fa fn K
  e : ex K = true
  tb : tabsOf ts K = tabsDue ts w
  gb : getsB gs K = true
  ge : getsOf gs K = getsDue gs
  eb : (es.all fun d => d.ok K file) = true
  ee : es.map (fnE K) = es.map ExD.val
def hookX (n : Nat) (file : Str) (fa : List He.Fa) (fn : List He.DefD) (ex : PySem.W.Frag → Bool) (ts : List He.Tab) (gs : List GetD) (es : List ExD) : PySem.W.Hook where
  α := AlX
  obs := fun s => obsXG n file fa fn ex ts gs es s.heap.get?
  val := fun w => dueX fn ts gs es w
  says := fun w h => ∃ K : PySem.W.Frag, K.In h ∧ SaysX file fa fn ex ts gs es w K
  of := fun _ _ e => by
    have h1 := He.ba (congrArg (fun z : AlX => z.2.1) e)
    have h2 := He.ba h1.2
    exact ⟨_, He.frG_in, congrArg (fun z : AlX => z.1) e, h1.1, congrArg (fun z : AlX => z.2.2.1) e, h2.1, congrArg (fun z : AlX => z.2.2.2.1) e, h2.2, congrArg (fun z : AlX => z.2.2.2.2) e⟩
  keeps := fun _ _ _ ⟨F, inF, both⟩ more => ⟨F, PySem.W.Frag.In.keeps inF more, both⟩
theorem obsXG_eq {n : Nat} {file : Str} {fa : List He.Fa} {fn : List He.DefD} {ex : PySem.W.Frag → Bool} {ts : List He.Tab} {gs : List GetD} {es : List ExD} {g : Addr → Option Obj} {s : Shared} (h : ∀ a, g a = s.heap.get? a) : obsXG n file fa fn ex ts gs es g = (hookX n file fa fn ex ts gs es).obs s := by
  have look : g = s.heap.get? := funext fun a => h a
  rw [look]
  rfl
theorem ex_ix {file : Str} {es : List ExD} {K : PySem.W.Frag} (b : (es.all fun d => d.ok K file) = true) (h : es.map (fnE K) = es.map ExD.val) (i : Nat) {d : ExD} (e : es[i]? = some d) : d.ok K file = true ∧ fnE K d = d.val := by
  have c := List.all_eq_true.mp b d (List.mem_of_getElem? e)
  have e2 : (es.map (fnE K))[i]? = (es.map ExD.val)[i]? := by rw [h]
  rw [List.getElem?_map, List.getElem?_map, e] at e2
  exact ⟨c, Option.some.inj e2⟩
end My
set_option maxHeartbeats 2000000
namespace My
open PySem PySem.Spec PyProof.Rows L2
/-- one of two readings -/
def rOr (r1 r2 : R2) : R2 := fun x y H Q => r1 x y H Q ∨ r2 x y H Q
theorem op_orE {X : Cx} {f : Value → Value → Sem Value} {r1 r2 : R2} (h1 : OpR X f r1) (h2 : OpR X f r2) : OpR X f (rOr r1 r2) := fun pins s σ H x y v u Q I rx ry h => by
  rcases h with h | h
  · exact h1 pins s σ H x y v u Q I rx ry h
  · exact h2 pins s σ H x y v u Q I rx ry h
/-- C(e, *es), C's __init__ may raise -/
theorem pe_mkS2X {X : Cx} {k j : Nat} {x : Str} {C : Addr} {sp : Sp} {dvs : List V} {p pos : Pos} {e : Expr} {es : List Expr} {t : TA} {W : WX} (c : MakX X.prog X.w X.K X.mg X.base k x C sp dvs) (hr : Room j X.A) (hk : k + 1 ≤ j) (hg : Gl X x) (tk : Takes X W) (ha : PA X (e :: es) t) (hdb : (x == ("__debug__" : Str)) = false := by decide)
    (he : starEach (e :: es) X.env = (false, eval e X.env) :: starEach es X.env := by rfl) (hst : (backTo pos (starEach es X.env)).any (·.1) = true := by rfl) : PE X (.Call (.Name x p) (e :: es) [] pos) (tMakeX C sp dvs W t) := by
  obtain ⟨f, fd, ps, ds, M, F, hm, b, d⟩ := c.ex
  refine ⟨fun pins s σ H Q I h => ?_⟩
  refine wpAny_Call_Name_kw (ld_glob I hg hm ?_ hdb)
  refine PySem.W.callWith_S2 (h₀ := X.base) I.ok.mod.kin M.kp (thn (ha.run pos pins s σ H _ I h) fun us s1 ⟨vs, H1, I1, r, q⟩ => ⟨I1.kIn, ?_⟩) he hst
  exact run_makeX (E := WE W σ) M F (hr.mono hk) b d (passAt tk σ) I1 r q
end My
set_option maxHeartbeats 2000000
namespace My
open PySem PySem.Spec PyProof.Rows L2
/-- == by an own __eq__, whatever it answers; y may be of any kind -/
def rEqO (K : PySem.W.Frag) (C : Addr) (sp : Sp) : R2 := fun x y H Q => ∃ (a dx : Addr) (fs : List (Str × V)) (tb : Value), x = .ref a ∧ H a = some (.ins C dx fs) ∧ TyX K H y tb ∧ PySem.W.notFirst K C tb = true ∧ sp [x, y] H (fun v H' => (∃ r, v = .bl r) ∧ Q v H') C8.E0
theorem op_eqO {X : Cx} {k j : Nat} {K : PySem.W.Frag} {C : Addr} {sp : Sp} (c : C8.Met X.prog X.w X.K X.mg X.base k C "__eq__" sp []) (hK : X.K = K) (room : Room j X.A) (hk : k ≤ j) : OpR X (compareOp .Eq) (rEqO K C sp) := by
  subst hK
  obtain ⟨f, fd, ps, ds, cl, me, F, hb, d⟩ := c.ex
  cases d
  intro pins s σ H x y v u Q I rx ry h
  obtain ⟨a, dx, fs, tb, rfl, ha, ty, nf, hsp⟩ := h
  cases rx
  obtain ⟨mA, J, _⟩ := ins_get I.hok ha
  obtain ⟨od, J, _⟩ := J.look
  obtain ⟨P, Z, hP, _⟩ := kit_of I ry ty
  have J' := Z.ty (model X.prog X.w) s.heap I.kIn hP
  obtain ⟨m, hF⟩ := I.fr
  have room' := room.mono hk
  show wpAny (model X.prog X.w) X.A (richCompare .Eq (.ref a) u) (EP X pins σ Q) X.xe s
  refine PySem.W.cmp_K (op := .Eq) (tb := tb) (room'.units0) hF I.ok.mod.kin J J' nf me.at_ me.fn ?_
  have hl := F.len _ _ _ _ hsp
  have r2 : Vals [V.ref a, y] [Value.ref a, u] := .cons rfl (.cons ry .nil)
  refine wpAny_call (codeAny_mono (F.run X.A X.stack s H ⟨[.ref a, u], []⟩ [.ref a, u] [.ref a, y] _ C8.E0 room' I.env0 (by
    have := hb s [.ref a, u] I.kIn (by simpa using hl)
    simpa using this) r2 hsp) fun r s' hq => ?_)
  cases r with
  | error e => exact C8.pass0 (E := C8.E0) pins σ H s e s' I hq
  | ok fl =>
    cases fl with
    | ret w =>
      obtain ⟨z, H', I', rz, ⟨r, hr⟩, q⟩ := I.after hq
      subst hr
      cases rz
      exact ⟨.bl r, H', I', rfl, q⟩
    | next => exact False.elim hq
    | brk => exact False.elim hq
    | cont => exact False.elim hq
end My
namespace My
open PyProof.Rows PySem.Spec PySem
/-! ### len(set(t)), t a tuple of texts, some of them perhaps more than once -/
/-- how many different ones there are among the first -/
def dct (zs : List Str) : Nat → Nat
  | 0 => 0
  | i + 1 => if zs.getD i Str.empty ∈ zs.take i then dct zs i else dct zs i + 1
theorem dct_le (zs : List Str) : ∀ i, dct zs i ≤ i
  | 0 => Nat.le_refl _
  | i + 1 => by
    have := dct_le zs i
    unfold dct
    split <;> omega
theorem dct_all {zs : List Str} : ∀ i, i ≤ zs.length → (dct zs i = i ↔ (zs.take i).Nodup)
  | 0, _ => ⟨fun _ => List.nodup_nil, fun _ => rfl⟩
  | i + 1, h => by
    have ih := dct_all (zs := zs) i (by omega)
    have le := dct_le zs i
    have en := take_next (zs := zs) (i := i) (by omega)
    unfold dct
    rw [en]
    by_cases c : zs.getD i Str.empty ∈ zs.take i
    · rw [if_pos c]
      refine ⟨fun e => absurd e (by omega), fun nd => ?_⟩
      rw [List.nodup_append] at nd
      exact absurd rfl (nd.2.2 _ c _ (List.mem_singleton.mpr rfl))
    · rw [if_neg c]
      refine ⟨fun e => ?_, fun nd => ?_⟩
      · rw [List.nodup_append]
        refine ⟨ih.mp (by omega), List.nodup_cons.mpr ⟨List.not_mem_nil, List.nodup_nil⟩, fun x hx y hy e => ?_⟩
        rw [List.mem_singleton.mp hy] at e
        exact c (e ▸ hx)
      · rw [List.nodup_append] at nd
        have := ih.mpr nd.1
        omega
theorem dct_nd {zs : List Str} : dct zs zs.length = zs.length ↔ zs.Nodup := by
  have h := dct_all (zs := zs) zs.length (Nat.le_refl _)
  rwa [List.take_length] at h
section
variable {w : World} {prog : Program} {A : Around} {R : Result → Shared → Prop} {I : Addr} {fp wr : List Addr} {G : Array GenState → Array GenState → Prop} {n : Nat} {P : Nat → Value → Prop} {St : Nat → Shared → Prop}
theorem loopE (walk : WalksS prog w A.in1 I fp wr G n P St) {S : Addr} (out : S ∉ fp) {zs : List Str} (len : zs.length = n) (room : n + 1 < scanBound)
    (what : ∀ i v, P i v → ∃ t, v = .str (zs.getD i Str.empty) t) (left : Nat) : ∀ (i : Nat) (s : Shared), i + left = n → St i s →
      s.heap.SetOf (PySem.strKind prog w) S (fun k => decide (k ∈ zs.take i)) (dct zs i) →
      (∀ s', Moved (S :: wr) G s s' → s'.heap.SetOf (PySem.strKind prog w) S (fun k => decide (k ∈ zs)) (dct zs n) → R (.ok (.ret .none)) s') →
      codeAny (model prog w) A (Code.builtin "set.update.loop" ⟨[.ref S, .ref I], []⟩) R s := by
  have apart : S ∉ wr := fun z => out (walk.sub S z)
  have keepS : ∀ (s s' : Shared) (T : Str → Bool) (m : Nat), Moved wr G s s' → s.heap.SetOf (PySem.strKind prog w) S T m → s'.heap.SetOf (PySem.strKind prog w) S T m :=
    fun s s' T m mv ⟨o, es, ep, t, at1, more⟩ => ⟨o, es, ep, t, mv.heap S o apart at1, more⟩
  induction left with
  | zero =>
    intro i s e st has go
    obtain rfl : i = n := e
    refine codeAny_builtin (PyProof.Rows.F.entry_set_update_loop) ?_
    rw [Around.under_plainId PyProof.Rows.F.plain_set_update_loop]
    refine wpAny_bind (walk.done s _ _ st fun s1 mv => wpAny_pure (go s1 (mv.mono fun b hb => .tail _ hb) ?_))
    have h1 := keepS _ _ _ _ mv has
    rw [List.take_of_length_le (Nat.le_of_eq len)] at h1
    exact h1
  | succ left rec =>
    intro i s e st has go
    have lt : i < n := by omega
    refine codeAny_builtin (PyProof.Rows.F.entry_set_update_loop) ?_
    rw [Around.under_plainId PyProof.Rows.F.plain_set_update_loop]
    refine wpAny_bind (walk.item i s _ _ lt st fun v s1 pv st1 mv => ?_)
    obtain ⟨t, ev⟩ := what i v pv
    subst ev
    have h1 := keepS _ _ _ _ mv has
    refine wpAny_bind (wpAny_holding (wpAny_holding (wpAny_bind ((PySem.strKind prog w).pyHash (k := zs.getD i Str.empty) (strKind_is _ _ _ _) ?_))))
    refine wpAny_setAddHashed_of (knd := PySem.strKind prog w) (s := { s1 with toks := s1.toks + 1 }) (strKind_is _ _ _ _) rfl h1 (by have := dct_le zs i; omega) fun h2 but set2 => ?_
    have set3 : h2.SetOf (PySem.strKind prog w) S (fun k => decide (k ∈ zs.take (i + 1))) (dct zs (i + 1)) := by
      refine SetOf_congr set2 (fun k => ?_) (by show (if decide (zs.getD i Str.empty ∈ zs.take i) = true then _ else _) = (if zs.getD i Str.empty ∈ zs.take i then _ else _); by_cases c : zs.getD i Str.empty ∈ zs.take i <;> simp [c])
      rw [take_next (show i < zs.length by omega)]
      simp only [List.mem_append, List.mem_singleton, Bool.decide_or]
    refine wpAny_pure ⟨plainId_quiet PyProof.Rows.F.plain_set_update_loop _, rec (i + 1) _ (by omega) (walk.frame _ s1 _ _ st1 (Nat.le_succ _) fun b hb o eb => ?_) set3 fun s3 mv3 => ?_⟩
    · rw [but.2 b (fun z : b = S => out (z ▸ hb))]
      exact eb
    · refine go s3 (Moved.trans walk.gtrans ((mv.mono fun b hb => .tail _ hb).then_heap (Nat.le_succ _) fun b o hb eb => ?_) mv3)
      rw [but.2 b (fun z : b = S => hb (z ▸ List.mem_cons_self ..))]
      exact eb
end
section
variable {w : World} {prog : Program} {A : Around} {E : Value → Shared → Prop} {s : Shared}
set_option maxHeartbeats 3000000 in
theorem setE {l : Addr} {arr : Array Value} {zs : List Str} {Q : Value → Shared → Prop} (calm : A.handled = Option.none) (tup : s.heap.IsTuple l arr) (are : StrsAre arr.toList zs) (room : zs.length + 1 < scanBound)
    (go : ∀ (h2 : Heap) (tk : Nat), h2.SetOf (PySem.strKind prog w) s.heap.objs.size (fun k => decide (k ∈ zs)) (dct zs zs.length) → (∀ b o, b < s.heap.objs.size → s.heap.get? b = some o → h2.get? b = some o) → Q (.ref s.heap.objs.size) { s with heap := h2, toks := tk }) :
    wpAny (model prog w) A (call (Value.type "set") [Value.ref l]) Q E s := by
  have len : zs.length = arr.size := (StrsAre.len_eq are).symm.trans Array.length_toList
  obtain ⟨cls1, rest1, mro1⟩ := PySem.F.called_set.mro
  have made1 := PySem.F.called_set.made
  have sub1 := PySem.F.called_set.sub
  refine wpAny_call (codeAny_of_tree (wpAny_pure ⟨Code.quiet_builtin _ (by decide +kernel), codeAny_builtin PySem.F.entry_type_call ?_⟩))
  rw [Around.under_plain (weight_type_call_type "set" [Value.ref l] []) rfl]
  have not1 := PySem.F.called_set.notType
  have can1 := PySem.F.called_set.canCreate
  have call1 := PySem.F.typeCall_set_1 (.ref l)
  repeat any_goals (first | assumption | wp_step)
  refine codeAny_mono (code_set_new_1 (.ref l) (E := E) (Q₁ := fun obj st => ∃ b : Bool, obj = .ref s.heap.objs.size ∧ st = { s with heap := s.heap.push (freshSet b) }) fun b => ⟨b, rfl, rfl⟩) fun res st hres => ?_
  cases res with
  | error e => exact hres
  | ok fl =>
    cases fl with
    | ret obj =>
      obtain ⟨b, eo, es⟩ := hres
      subst eo es
      have atS : (s.heap.push (freshSet b)).get? s.heap.objs.size = some (freshSet b) := Heap.get?_push_size _ rfl
      have isS : Shared.TypeIs { s with heap := s.heap.push (freshSet b) } (.ref s.heap.objs.size) "set" := ⟨_, atS, rfl⟩
      have look1 := PySem.F.called_set.init.lookup
      have bind1 := PySem.F.called_set.init.bind (.ref s.heap.objs.size)
      repeat any_goals (first | assumption | wp_step)
      refine codeAny_mono (codeAny_call_builtin (R := wants (fun r st => r = .none ∧ ∃ h2 tk, st = { s with heap := h2, toks := tk } ∧ h2.SetOf (PySem.strKind prog w) s.heap.objs.size (fun k => decide (k ∈ zs)) (dct zs zs.length) ∧
          ∀ b o, b < s.heap.objs.size → s.heap.get? b = some o → h2.get? b = some o) E) PySem.F.called_set.init.plain PySem.F.entry_set_init (check_set_init_1 isS ?_)) fun res2 st2 hres2 => ?_
      · obtain ⟨⟨ocls, odic, odat, oslo⟩, at0, ec, nn, ed⟩ := tup
        simp only at ec ed
        subst ec ed
        have at1 := Heap.get?_push_of_some (freshSet b) at0
        have nosub1 := PySem.F.sub_tuple_set
        have nosub2 := PySem.F.sub_tuple_frozenset
        have nodict : (Value.type "tuple" == Value.type "dict") = false := by decide
        have tup1 : (s.heap.push (freshSet b)).IsTuple l arr := ⟨_, at1, rfl, nn, rfl⟩
        unfold Builtin.«set.__init__»
        unfold noKeywords Builtin.Frozenset.updateFrom
        generalize hold : pyIter = PIter
        wp_walk
        subst hold
        refine wpAny_pyIter_tuple tup1 (wpAny_bind (wpAny_runValue ?_))
        have lt0 : l < s.heap.objs.size := Heap.lt_size at0
        have calm3 : A.in1.in1.in1.handled = Option.none := by simp [calm]
        have neI : l ≠ (s.heap.push (freshSet b)).objs.size := by
          rw [Heap.size_push]
          exact fun z => Nat.lt_irrefl _ (Nat.lt_trans (z ▸ lt0 : s.heap.objs.size + 1 < s.heap.objs.size) (Nat.lt_succ_self _))
        have outS : s.heap.objs.size ∉ [(s.heap.push (freshSet b)).objs.size, l] := by
          rw [Heap.size_push]
          simp only [List.mem_cons, List.not_mem_nil, or_false]
          exact fun z => z.elim (fun y => absurd y (Nat.ne_of_lt (Nat.lt_succ_self _))) fun y => absurd y (Nat.ne_of_gt lt0)
        refine loopE ((Walks.tuple calm3 _ l neI arr).toS) outS len (by omega) (fun i v hv => SS.strs_at are i v (by rw [Array.getElem?_toList]; exact hv)) arr.size 0 _ (Nat.zero_add _) ⟨⟨_, Heap.get?_push_size _ rfl, rfl, rfl⟩, tup1.push _⟩ ?_ ?_
        · exact SetOf_congr ((setObjOf_fresh (knd := PySem.strKind prog w) b).setOf (Heap.get?_push_of_some _ atS) (by unfold scanBound; omega)) (fun k => by simp) rfl
        · intro s3 mv has
          obtain ⟨h3, g3, d3, t3, os3⟩ := s3
          obtain rfl : g3 = s.gens := mv.gens
          obtain rfl : d3 = s.drawn := mv.drawn
          obtain rfl : os3 = s.os := mv.os
          refine wpAny_pure (wpAny_pure ⟨rfl, h3, t3, rfl, by rw [len]; exact has, fun c o hc ec => ?_⟩)
          refine mv.heap c o ?_ (Heap.get?_push_of_some _ (Heap.get?_push_of_some _ ec))
          rw [Heap.size_push]
          simp only [List.mem_cons, List.not_mem_nil, or_false]
          exact fun z => z.elim (fun y => absurd y (Nat.ne_of_lt hc)) fun y => absurd y (Nat.ne_of_lt (Nat.lt_succ_of_lt hc))
      · cases res2 with
        | error e => exact hres2
        | ok fl2 =>
          cases fl2 with
          | ret r =>
            obtain ⟨er, h2, tk, e2, has, keep⟩ := hres2
            subst er e2
            repeat any_goals (first | assumption | wp_step)
            exact go _ _ has keep
          | _ => exact hres2.elim
    | _ => exact hres.elim
end
open L2
def tLenSetE (K : PySem.W.Frag) (ta : TE) : TE := fun σ H Q => ta σ H fun x H1 => ∃ (l : Addr) (zs : List Str), x = .ref l ∧ SqT K H1 l (zs.map V.str) ∧ zs.length ≤ 1000 ∧ Q (.int (dct zs zs.length : Nat)) H1
section
variable {X : Cx}
theorem pe_lenSetE {K : PySem.W.Frag} (hK : X.K = K) {a : Expr} {ta : TE} {p p2 q pos : Pos} (calm : X.calm = true) (g1 : Gl X "len") (m1 : X.mg "len" = Option.none) (g2 : Gl X "set") (m2 : X.mg "set" = Option.none) (arg : PE X a ta)
    (one : starEach [a] X.env = (false, eval a X.env) :: starEach [] X.env := by rfl) : PE X (.Call (.Name "len" p) [.Call (.Name "set" p2) [a] [] q] [] pos) (tLenSetE K ta) := by
  subst hK
  refine ⟨fun pins s σ H Q inv hyp => Call_ (ld_blt inv g1 m1 boot_len ?_)⟩
  refine callWith_builtin1 (args_cons (Call_ (ld_blt inv g2 m2 boot_set ?_)) rfl) rfl rfl
  refine callWith_type1 (args_cons (thn (arg.run pins s σ H _ inv hyp) fun v s1 ⟨x, H1, inv1, rel, more⟩ => args_nil ?_) one) one rfl
  obtain ⟨l, zs, ex, seq, small, fin⟩ := more
  subst ex
  cases rel
  obtain ⟨its, rv, plain, _⟩ := inv1.tuple seq
  refine setE (inv1.ok.hd calm) plain (by simpa using strsAre_of rv) (by unfold scanBound; omega) fun h2 tk has keep => args_nil ?_
  obtain ⟨o, es, ep, t, at1, exact1, dat, _, _, _, fits, cnt⟩ := has
  have inv2 : Inv X pins σ H1 { s1 with heap := h2, toks := tk } := inv1.kept fun b o eb => keep b o (Heap.lt_size eb) eb
  have le := dct_le zs zs.length
  exact call_len_set at1 exact1 dat fits (by rw [cnt]; omega) ⟨.int (dct zs zs.length : Nat), H1, inv2.tok _, ⟨_, by rw [cnt]⟩, fin⟩
end
end My
set_option maxHeartbeats 2000000
namespace My
open PySem PySem.Spec PyProof.Rows L2
/-! ### != by an own __eq__: object.__ne__ asks it -/
theorem slot_one : Slot "object" "__ne__" "object.__ne__" :=
  Slot.of (T := "object") (name := "__ne__") (owner := "object") (n := "__ne__") (by rw [typeLookup_type, builtinLookup_eq_fast]; kernel_rfl) (by decide +kernel) (by decide +kernel) (by decide +kernel)
    (.inl (by decide +kernel)) (by rw [isSubtype_type]; kernel_rfl)
section
variable {prog : Program} {w : World} {A : Around} {E : Value → Shared → Prop} {s : Shared} {K : PySem.W.Frag} {x C L f : Addr} {h₀ : Heap} {m : Str → Option Value} {ox : Obj} {od : Option Obj} {name : Str} {b tb : Value}
theorem ifBound_B {M : Model} {id : String} {args : List Value} {Q : Option Value → Shared → Prop} (X : K.In s.heap) (I : PySem.W.InstAt s.heap x ox C od) (hs : PySem.W.findIn K (.ref C) name = some (some (.builtin id))) (hb : ∀ self, bindSpecial (.builtin id) self = pure (.builtin id, [self]))
    (h : wpAny M A (call (.builtin id) (.ref x :: args)) (fun v => Q (some v)) E s) : wpAny M A (callSpecialIfBound? (.ref x) name args) Q E s := by
  simp only [callSpecialIfBound?, bindSpecialIfBound?]
  refine wpAny_holding (wpAny_bind (wpAny_bind (wpAny_bind (I.type.here ((PySem.W.looks_findIn X hs).here ?_)))))
  simp only [hb]
  refine wpAny_bind (wpAny_askSetting (wpAny_ite ?_))
  have fin : wpAny M A (call (.builtin id) ([.ref x] ++ args) >>= fun v => pure (some v)) Q E s := wpAny_bind (wpAny_mono h (fun v s' h' => wpAny_pure h') fun _ _ h' => h')
  split
  · exact wpAny_bind (wpAny_pure (wpAny_pure fin))
  · exact wpAny_tryCatch (wpAny_bind (wpAny_pure (wpAny_pure fin)))
/-- the own == tells True or False -/
def EqBack (Q : Bool → Shared → Prop) (v : Value) (s' : Shared) : Prop := ∃ r : Bool, v = .bool r ∧ Q r s'
theorem try_eq {Q : Bool → Shared → Prop} (X : K.In s.heap) (I : PySem.W.InstAt s.heap x ox C od) (hs : PySem.W.findIn K (.ref C) "__eq__" = some (some (.ref f))) (hf : PySem.W.isFn K (.ref f) = true)
    (h : wpAny (model prog w) A (call (.ref f) [.ref x, b]) (EqBack Q) E s) : wpAny (model prog w) A (tryCompare (.ref x) "__eq__" b) (fun r s' => ∃ k : Bool, r = some (.bool k) ∧ Q k s') E s := by
  unfold tryCompare
  refine wpAny_bind (PySem.W.ifBound_K X I hs hf (wpAny_mono h (fun v s' hv => ?_) fun _ _ e => e))
  obtain ⟨r, rfl, q⟩ := hv
  exact wpAny_pure ⟨r, rfl, q⟩
theorem try_ne {Q : Bool → Shared → Prop} (hu : A.units + 1 < cLine) (X : K.In s.heap) (I : PySem.W.InstAt s.heap x ox C od) (hs : PySem.W.findIn K (.ref C) "__eq__" = some (some (.ref f))) (hf : PySem.W.isFn K (.ref f) = true)
    (hn : PySem.W.findIn K (.ref C) "__ne__" = some (some (.builtin "object.__ne__"))) (hi : PySem.W.mroIn K C (.type "object") = some true)
    (h : wpAny (model prog w) A.in1 (call (.ref f) [.ref x, b]) (EqBack Q) E s) : wpAny (model prog w) A (tryCompare (.ref x) "__ne__" b) (fun r s' => ∃ k : Bool, r = some (.bool (!k)) ∧ Q k s') E s := by
  simp only [tryCompare]
  have inst : PySem.W.Looks (model prog w) s.heap (isInstance (.ref x) (.type "object")) true := I.type.andThen (PySem.W.looks_mroIn X hi)
  refine wpAny_bind (ifBound_B X I hn slot_one.bind (wpAny_call (codeAny_call_builtin slot_one.plain PySem.F.cmpEntry_ne (PySem.W.check_slot PySem.F.cmpKind_ne PySem.F.cmpSplit_ne inst (PySem.F.cmpArgs_ne _ _) ?_))))
  have hu1 : A.in1.units < cLine := hu
  have h2 := PySem.W.ifBound_K (name := "__eq__") (args := [b]) (Q := fun r s' => ∃ k : Bool, r = some (.bool k) ∧ Q k s') X I hs hf (wpAny_mono h (fun v s' hv => by
    obtain ⟨r, rfl, q⟩ := hv
    exact ⟨r, rfl, q⟩) fun _ _ e => e)
  unfold Builtin.«object.__ne__»
  repeat (first | with_reducible refine wpAny_cRoomFor hu1 ?_ | with_reducible refine wpAny_bind (wpAny_mono h2 ?_ ?_) | wp_step)
  · rintro _ s1 ⟨r, rfl, q⟩
    refine wpAny_bind (wpAny_truthy_bool ?_)
    exact wpAny_pure (wpAny_pure ⟨r, rfl, q⟩)
  · exact fun _ _ e => e
/-- what richCompare makes of an own == (neg: of !=), the instance on the left -/
theorem rc_own {op : CmpOp} {neg : Bool} {Q : Value → Shared → Prop} {Q0 : Bool → Shared → Prop} (hop : (op = .Eq ∧ neg = false) ∨ (op = .NotEq ∧ neg = true)) (hu : A.units + 1 < cLine) (X : K.In s.heap) (I : PySem.W.InstAt s.heap x ox C od) (hb : PySem.W.Looks (model prog w) s.heap (typeOf b) tb) (hnf : PySem.W.notFirst K C tb = true)
    (hs : PySem.W.findIn K (.ref C) "__eq__" = some (some (.ref f))) (hf : PySem.W.isFn K (.ref f) = true) (hn : PySem.W.findIn K (.ref C) "__ne__" = some (some (.builtin "object.__ne__"))) (hi : PySem.W.mroIn K C (.type "object") = some true)
    (h : ∀ A', A' = A ∨ A' = A.in1 → wpAny (model prog w) A' (call (.ref f) [.ref x, b]) (EqBack Q0) E s) (hq : ∀ k s', Q0 k s' → Q (.bool (xor neg k)) s') : wpAny (model prog w) A (richCompare op (.ref x) b) Q E s := by
  have one : wpAny (model prog w) A (tryCompare (.ref x) (cmpInfo op).2.1 b) (fun r s' => ∃ v, r = some v ∧ Q v s') E s := by
    rcases hop with ⟨rfl, rfl⟩ | ⟨rfl, rfl⟩
    · refine wpAny_mono (try_eq X I hs hf (h _ (.inl rfl))) (fun r s' z => ?_) fun _ _ e => e
      obtain ⟨k, rfl, q⟩ := z
      have := hq k s' q
      rw [Bool.false_xor] at this
      exact ⟨_, rfl, this⟩
    · refine wpAny_mono (try_ne hu X I hs hf hn hi (h _ (.inr rfl))) (fun r s' z => ?_) fun _ _ e => e
      obtain ⟨k, rfl, q⟩ := z
      have := hq k s' q
      rw [Bool.true_xor] at this
      exact ⟨_, rfl, this⟩
  unfold richCompare
  simp only [oneThing_ref]
  refine wpAny_holding (wpAny_bind (wpAny_cRoomFor (Nat.lt_of_succ_lt hu) ?_))
  refine wpAny_bind (I.type.here (wpAny_bind (hb.here ?_)))
  split
  · rename_i q
    have e : PySem.W.subIn K tb (.ref C) = some false := by
      rcases Bool.or_eq_true_iff.mp hnf with e | e
      · rw [beq_iff_eq.mp e] at q; simp at q
      · exact beq_iff_eq.mp e
    refine wpAny_bind ((PySem.W.looks_subIn X e).here ?_)
    simp only [Bool.false_eq_true, if_false]
    refine wpAny_bind (wpAny_mono one (fun r s' z => ?_) fun _ _ e => e)
    obtain ⟨v, rfl, hq⟩ := z
    exact wpAny_pure hq
  · refine wpAny_bind (wpAny_pure ?_)
    simp only [Bool.false_eq_true, if_false]
    refine wpAny_bind (wpAny_mono one (fun r s' z => ?_) fun _ _ e => e)
    obtain ⟨v, rfl, hq⟩ := z
    exact wpAny_pure hq
/-- the same, the instance on the right, the left one declines -/
theorem rc_ownR {op : CmpOp} {neg : Bool} {a ta : Value} {Q : Value → Shared → Prop} {Q0 : Bool → Shared → Prop} (hop : (op = .Eq ∧ neg = false) ∨ (op = .NotEq ∧ neg = true)) (hu : A.units + 1 < cLine) (X : K.In s.heap) (I : PySem.W.InstAt s.heap x ox C od) (ha : PySem.W.Looks (model prog w) s.heap (typeOf a) ta) (hne : (ta != .ref C) = true) (hsub : PySem.W.subIn K (.ref C) ta = some false)
    (hone : oneThing? op a (.ref x) = Option.none) (hd : ∀ R : Option Value → Shared → Prop, (∀ tk, R Option.none { s with toks := tk }) → wpAny (model prog w) A (tryCompare a (cmpInfo op).2.1 (.ref x)) R E s)
    (hs : PySem.W.findIn K (.ref C) "__eq__" = some (some (.ref f))) (hf : PySem.W.isFn K (.ref f) = true) (hn : PySem.W.findIn K (.ref C) "__ne__" = some (some (.builtin "object.__ne__"))) (hi : PySem.W.mroIn K C (.type "object") = some true)
    (h : ∀ A' tk, A' = A ∨ A' = A.in1 → wpAny (model prog w) A' (call (.ref f) [.ref x, a]) (EqBack Q0) E { s with toks := tk }) (hq : ∀ k s', Q0 k s' → Q (.bool (xor neg k)) s') : wpAny (model prog w) A (richCompare op a (.ref x)) Q E s := by
  have one : ∀ tk, wpAny (model prog w) A (tryCompare (.ref x) (cmpInfo op).2.2 a) (fun r s' => ∃ v, r = some v ∧ Q v s') E { s with toks := tk } := fun tk => by
    rcases hop with ⟨rfl, rfl⟩ | ⟨rfl, rfl⟩
    · refine wpAny_mono (try_eq (s := { s with toks := tk }) X I hs hf (h _ tk (.inl rfl))) (fun r s' z => ?_) fun _ _ e => e
      obtain ⟨k, rfl, q⟩ := z
      have := hq k s' q
      rw [Bool.false_xor] at this
      exact ⟨_, rfl, this⟩
    · refine wpAny_mono (try_ne (s := { s with toks := tk }) hu X I hs hf hn hi (h _ tk (.inr rfl))) (fun r s' z => ?_) fun _ _ e => e
      obtain ⟨k, rfl, q⟩ := z
      have := hq k s' q
      rw [Bool.true_xor] at this
      exact ⟨_, rfl, this⟩
  unfold richCompare
  simp only [hone]
  refine wpAny_holding (wpAny_bind (wpAny_cRoomFor (Nat.lt_of_succ_lt hu) ?_))
  refine wpAny_bind (ha.here (wpAny_bind (I.type.here ?_)))
  rw [if_pos hne]
  refine wpAny_bind ((PySem.W.looks_subIn X hsub).here ?_)
  simp only [Bool.false_eq_true, if_false]
  refine wpAny_bind (hd _ fun tk => ?_)
  simp only [Bool.not_false, if_true]
  refine wpAny_bind (wpAny_mono (one tk) (fun r s' z => ?_) fun _ _ e => e)
  obtain ⟨v, rfl, hq⟩ := z
  exact wpAny_pure hq
end
end My
set_option maxHeartbeats 2000000
namespace My
open PySem PySem.Spec PyProof.Rows L2
section
variable {prog : Program} {w : World} {A : Around} {E : Value → Shared → Prop} {s : Shared} {x : Addr} {C : Value} {d : Option Addr} {data : Data} {sl : Array (Option Value)}
/-- a left operand of a builtin kind declines an instance -/
def Declines (prog : Program) (w : World) (A : Around) (E : Value → Shared → Prop) (s : Shared) (a : Value) (name : Str) (x : Addr) : Prop :=
  ∀ R : Option Value → Shared → Prop, (∀ tk, R Option.none { s with toks := tk }) → wpAny (model prog w) A (tryCompare a name (.ref x)) R E s
theorem dec_of {T : String} {a : Value} (name : Str) {id : String} {B : Builtin} (hT : s.TypeIs a T) (slot : Slot T name id) (entry : entryFor table id = some B) (args : ∀ a b, argsOk id ⟨[a, b], []⟩)
    (hB : ∀ Q : Fin → Shared → Prop, (∀ tk, Q (.done (.ret .notImplemented)) { s with toks := tk }) → wpAny (model prog w) A.in1 (B ⟨[a, .ref x], []⟩) Q (fun e s' => E e s') s) : Declines prog w A E s a name x := fun R h =>
  PySem.wpAny_tryCompare_declines hT slot (GQ.call_here slot hT entry (args _ _) (hB _ fun tk => ⟨rfl, h tk⟩))
theorem none_eq : Declines prog w A E s .none "__eq__" x := dec_of _ (typeIs_none s) PySem.F.slot_NoneType_eq PySem.F.entry_NoneType_eq PySem.F.args_NoneType_eq_2 fun Q h => by
  obtain ⟨hp, g, d, tk, os⟩ := s
  wp_walk
  exact h tk
theorem none_ne : Declines prog w A E s .none "__ne__" x := dec_of _ (typeIs_none s) PySem.F.slot_NoneType_ne PySem.F.entry_NoneType_ne PySem.F.args_NoneType_ne_2 fun Q h => by
  obtain ⟨hp, g, d, tk, os⟩ := s
  wp_walk
  exact h tk
theorem int_eq {i : Int} {t : Tok} (hx : s.heap.get? x = some ⟨C, d, .plain, sl⟩) : Declines prog w A E s (.int i t) "__eq__" x := dec_of _ (typeIs_int s i t) PySem.F.slot_int_eq PySem.F.entry_int_eq PySem.F.args_int_eq_2 fun Q h => by
  obtain ⟨hp, g, d, tk, os⟩ := s
  wp_walk using wpAny_load hx
  exact h _
theorem int_ne {i : Int} {t : Tok} (hx : s.heap.get? x = some ⟨C, d, .plain, sl⟩) : Declines prog w A E s (.int i t) "__ne__" x := dec_of _ (typeIs_int s i t) PySem.F.slot_int_ne PySem.F.entry_int_ne PySem.F.args_int_ne_2 fun Q h => by
  obtain ⟨hp, g, d, tk, os⟩ := s
  wp_walk using wpAny_load hx
  exact h _
theorem bool_eq {b : Bool} (hx : s.heap.get? x = some ⟨C, d, .plain, sl⟩) : Declines prog w A E s (.bool b) "__eq__" x := dec_of _ (PySem.typeIs_bool s b) PySem.F.slot_bool_eq PySem.F.entry_int_eq PySem.F.args_int_eq_2 fun Q h => by
  obtain ⟨hp, g, d, tk, os⟩ := s
  wp_walk using wpAny_load hx
  exact h _
theorem bool_ne {b : Bool} (hx : s.heap.get? x = some ⟨C, d, .plain, sl⟩) : Declines prog w A E s (.bool b) "__ne__" x := dec_of _ (PySem.typeIs_bool s b) PySem.F.slot_bool_ne PySem.F.entry_int_ne PySem.F.args_int_ne_2 fun Q h => by
  obtain ⟨hp, g, d, tk, os⟩ := s
  wp_walk using wpAny_load hx
  exact h _
theorem str_eq {b : Str} {t : Tok} (hx : s.heap.get? x = some ⟨C, d, .plain, sl⟩) : Declines prog w A E s (.str b t) "__eq__" x := dec_of _ (typeIs_str s b t) PySem.F.slot_str_eq PySem.F.entry_str_eq PySem.F.args_str_eq_2 fun Q h => by
  obtain ⟨hp, g, d, tk, os⟩ := s
  wp_walk using wpAny_load hx
  exact h _
theorem str_ne {b : Str} {t : Tok} (hx : s.heap.get? x = some ⟨C, d, .plain, sl⟩) : Declines prog w A E s (.str b t) "__ne__" x := dec_of _ (typeIs_str s b t) PySem.F.slot_str_ne PySem.F.entry_str_ne PySem.F.args_str_ne_2 fun Q h => by
  obtain ⟨hp, g, d, tk, os⟩ := s
  wp_walk using wpAny_load hx
  exact h _
theorem list_eq {l : Addr} {o : Obj} (hl : s.heap.get? l = some o) (ho : o.cls = .type "list") (hx : s.heap.get? x = some ⟨C, d, .plain, sl⟩) (hs : PySem.W.Looks (model prog w) s.heap (isSubtype C (.type "list")) false) : Declines prog w A E s (.ref l) "__eq__" x := dec_of _ ⟨o, hl, ho⟩ PySem.F.slot_list_eq PySem.F.entry_list_eq PySem.F.args_list_eq_2 fun Q h => by
  obtain ⟨hp, g, d, tk, os⟩ := s
  wp_walk using wpAny_load hx, wpAny_loadPart' hx
  refine hs.here ?_
  wp_walk
  exact h _
theorem list_ne {l : Addr} {o : Obj} (hl : s.heap.get? l = some o) (ho : o.cls = .type "list") (hx : s.heap.get? x = some ⟨C, d, .plain, sl⟩) (hs : PySem.W.Looks (model prog w) s.heap (isSubtype C (.type "list")) false) : Declines prog w A E s (.ref l) "__ne__" x := dec_of _ ⟨o, hl, ho⟩ PySem.F.slot_list_ne PySem.F.entry_list_ne PySem.F.args_list_ne_2 fun Q h => by
  obtain ⟨hp, g, d, tk, os⟩ := s
  wp_walk using wpAny_load hx, wpAny_loadPart' hx
  refine hs.here ?_
  wp_walk
  exact h _
theorem tuple_eq {l : Addr} {o : Obj} (hl : s.heap.get? l = some o) (ho : o.cls = .type "tuple") (hx : s.heap.get? x = some ⟨C, d, .plain, sl⟩) (hs : PySem.W.Looks (model prog w) s.heap (isSubtype C (.type "tuple")) false) : Declines prog w A E s (.ref l) "__eq__" x := dec_of _ ⟨o, hl, ho⟩ PySem.F.slot_tuple_eq PySem.F.entry_tuple_eq PySem.F.args_tuple_eq_2 fun Q h => by
  obtain ⟨hp, g, d, tk, os⟩ := s
  wp_walk using wpAny_load hx, wpAny_loadPart' hx
  refine hs.here ?_
  wp_walk
  exact h _
theorem tuple_ne {l : Addr} {o : Obj} (hl : s.heap.get? l = some o) (ho : o.cls = .type "tuple") (hx : s.heap.get? x = some ⟨C, d, .plain, sl⟩) (hs : PySem.W.Looks (model prog w) s.heap (isSubtype C (.type "tuple")) false) : Declines prog w A E s (.ref l) "__ne__" x := dec_of _ ⟨o, hl, ho⟩ PySem.F.slot_tuple_ne PySem.F.entry_tuple_ne PySem.F.args_tuple_ne_2 fun Q h => by
  obtain ⟨hp, g, d, tk, os⟩ := s
  wp_walk using wpAny_load hx, wpAny_loadPart' hx
  refine hs.here ?_
  wp_walk
  exact h _
theorem dict_eq {l : Addr} {o : Obj} (hl : s.heap.get? l = some o) (ho : o.cls = .type "dict") (hx : s.heap.get? x = some ⟨C, d, .plain, sl⟩) (hs : PySem.W.Looks (model prog w) s.heap (isSubtype C (.type "dict")) false) : Declines prog w A E s (.ref l) "__eq__" x := dec_of _ ⟨o, hl, ho⟩ PySem.F.slot_dict_eq PySem.F.entry_dict_eq PySem.F.args_dict_eq_2 fun Q h => by
  obtain ⟨hp, g, d, tk, os⟩ := s
  wp_walk using wpAny_load hx, wpAny_loadPart' hx
  refine hs.here ?_
  wp_walk
  exact h _
theorem dict_ne {l : Addr} {o : Obj} (hl : s.heap.get? l = some o) (ho : o.cls = .type "dict") (hx : s.heap.get? x = some ⟨C, d, .plain, sl⟩) (hs : PySem.W.Looks (model prog w) s.heap (isSubtype C (.type "dict")) false) : Declines prog w A E s (.ref l) "__ne__" x := dec_of _ ⟨o, hl, ho⟩ PySem.F.slot_dict_ne PySem.F.entry_dict_ne PySem.F.args_dict_ne_2 fun Q h => by
  obtain ⟨hp, g, d, tk, os⟩ := s
  wp_walk using wpAny_load hx, wpAny_loadPart' hx
  refine hs.here ?_
  wp_walk
  exact h _
end
end My
set_option maxHeartbeats 2000000
namespace My
open PySem PySem.Spec PyProof.Rows L2
/-- what is asked of a class with an own == and none of its own != -/
def cmpB (K : PySem.W.Frag) (C : Addr) : Bool := He.eqO (PySem.W.findIn K (.ref C) "__ne__") (some (some (.builtin "object.__ne__"))) && (decide (PySem.W.mroIn K C (.type "object") = some true) &&
  (["NoneType", "int", "bool", "str", "list", "tuple", "dict"].all fun T => decide (PySem.W.subIn K (.ref C) (.type T) = some false) && decide (PySem.W.kitOne K (.type T) (.ref C) = some false)))
/-- values of the kinds that decline an instance -/
inductive DecV (K : PySem.W.Frag) (H : Hp) : V → String → Prop
  | non : DecV K H .non "NoneType"
  | int (i : Int) : DecV K H (.int i) "int"
  | bl (b : Bool) : DecV K H (.bl b) "bool"
  | str (b : Str) : DecV K H (.str b) "str"
  | lst {a : Addr} {xs : List V} (h : SqL K H a xs) : DecV K H (.ref a) "list"
  | tup {a : Addr} {xs : List V} (h : SqT K H a xs) : DecV K H (.ref a) "tuple"
  | dK {a : Addr} (h : H a = some (.dK [])) : DecV K H (.ref a) "dict"
theorem DecV.mem {K : PySem.W.Frag} {H : Hp} {x : V} {T : String} (h : DecV K H x T) : T ∈ ["NoneType", "int", "bool", "str", "list", "tuple", "dict"] := by
  cases h <;> decide
theorem DecV.ty {K : PySem.W.Frag} {H : Hp} {x : V} {T : String} (h : DecV K H x T) : TyX K H x (.type T) := by
  cases h with
  | non => exact .base .non
  | int i => exact .base (.int i)
  | bl b => exact .base (.bl b)
  | str b => exact .base (.str b)
  | lst h => exact tyx_lst h
  | tup h => exact tyx_tup h
  | dK h => exact .base (.dK h)
theorem dk_cls {X : Cx} {pins : List (Addr × Obj)} {σ : L2.St} {H : Hp} {s : Shared} {a : Addr} (I : Inv X pins σ H s) (h : H a = some (.dK [])) : ∃ o, s.heap.get? a = some o ∧ o.cls = .type "dict" := by
  have t : tyV X.K "dict" (V.ref a) H := .inr (.inr (.inl ⟨rfl, .inl ⟨_, h⟩⟩))
  have r : RelV (V.ref a) (Value.ref a) := rfl
  exact (tyV_is I r t).1
/-- == and != by an own __eq__, the instance on either side -/
def rOwn (K : PySem.W.Frag) (C : Addr) (sp : Sp) (neg : Bool) : R2 := fun x y H Q =>
  (∃ (a dx : Addr) (fs : List (Str × V)) (tb : Value), x = .ref a ∧ H a = some (.ins C dx fs) ∧ TyX K H y tb ∧ PySem.W.notFirst K C tb = true ∧ sp [x, y] H (fun v H' => ∃ r, v = .bl r ∧ Q (.bl (xor neg r)) H') C8.E0) ∨
  (∃ (b dx : Addr) (fs : List (Str × V)) (T : String), y = .ref b ∧ H b = some (.ins C dx fs) ∧ DecV K H x T ∧ sp [y, x] H (fun v H' => ∃ r, v = .bl r ∧ Q (.bl (xor neg r)) H') C8.E0)
theorem op_own {X : Cx} {k j : Nat} {K : PySem.W.Frag} {C : Addr} {sp : Sp} {op : CmpOp} {neg : Bool} (hop : (op = .Eq ∧ neg = false) ∨ (op = .NotEq ∧ neg = true)) (c : C8.Met X.prog X.w X.K X.mg X.base k C "__eq__" sp []) (hK : X.K = K) (cb : cmpB K C = true) (room : Room j X.A) (hk : k + 1 ≤ j) : OpR X (compareOp op) (rOwn K C sp neg) := by
  subst hK
  obtain ⟨c1, cb⟩ := He.ba cb
  obtain ⟨c2, c3⟩ := He.ba cb
  have hne := He.eqO_ok c1
  have hob := of_decide_eq_true c2
  obtain ⟨f, fd, ps, ds, cl, me, F, hb, d⟩ := c.ex
  cases d
  have rm := room.mono hk
  have hu : X.A.units + 1 < cLine := by have := rm.un; omega
  have call : ∀ (A' : Around) (pins : List (Addr × Obj)) (s : Shared) (σ : L2.St) (H : Hp) (y : V) (u : Value) (a : Addr) (Q : VK), A' = X.A ∨ A' = X.A.in1 → Inv X pins σ H s → RelV y u → sp [.ref a, y] H (fun v H' => ∃ r, v = .bl r ∧ Q (.bl (xor neg r)) H') C8.E0 →
      wpAny (model X.prog X.w) A' (call (.ref f) [.ref a, u]) (EqBack fun r s' => ∃ H', Inv X pins σ H' s' ∧ Q (.bl (xor neg r)) H') X.xe s := fun A' pins s σ H y u a Q hA I ry hsp => by
    have room' : Room k A' := by
      rcases hA with rfl | rfl
      · exact rm.mono (Nat.le_succ _)
      · exact rm.in1
    have e0 : Env0 X.prog X.w X.K X.mg X.base A' X.stack s H := by
      have e := I.env0
      rcases hA with rfl | rfl
      · exact e
      · exact ⟨e.frames, e.mod, e.bs, e.bsz, e.funs, e.frf, e.hok, e.bare⟩
    have hl := F.len _ _ _ _ hsp
    have r2 : Vals [V.ref a, y] [Value.ref a, u] := .cons rfl (.cons ry .nil)
    refine wpAny_call (codeAny_mono (F.run A' X.stack s H ⟨[.ref a, u], []⟩ [.ref a, u] [.ref a, y] _ C8.E0 room' e0 (by
      have := hb s [.ref a, u] I.kIn (by simpa using hl)
      simpa using this) r2 hsp) fun r s' hq => ?_)
    cases r with
    | error e => exact C8.pass0 (E := C8.E0) pins σ H s e s' I hq
    | ok fl =>
      cases fl with
      | ret w =>
        obtain ⟨z, H', I', rz, r, ez, q⟩ := I.after hq
        subst ez
        cases rz
        exact ⟨r, rfl, H', I', q⟩
      | next => exact False.elim hq
      | brk => exact False.elim hq
      | cont => exact False.elim hq
  intro pins s σ H x y v u Q I rx ry h
  have goal : wpAny (model X.prog X.w) X.A (richCompare op v u) (EP X pins σ Q) X.xe s := by
    rcases h with ⟨a, dx, fs, tb, rfl, ha, ty, nf, hsp⟩ | ⟨b, dx, fs, T, rfl, hb', dv, hsp⟩
    · cases rx
      obtain ⟨mA, J, _⟩ := ins_get I.hok ha
      obtain ⟨od, J, _⟩ := J.look
      obtain ⟨P, Z, hP, _⟩ := kit_of I ry ty
      refine rc_own hop hu I.kIn J (Z.ty (model X.prog X.w) s.heap I.kIn hP) nf me.at_ me.fn hne hob (fun A' hA => call A' pins s σ H y u a Q hA I ry hsp) fun k' s' q => ?_
      obtain ⟨H', I', q⟩ := q
      exact ⟨.bl (xor neg k'), H', I', rfl, q⟩
    · cases ry
      obtain ⟨mA, J, _⟩ := ins_get I.hok hb'
      obtain ⟨od, J, _⟩ := J.look
      obtain ⟨P, Z, hP, _⟩ := kit_of I rx dv.ty
      have cT := List.all_eq_true.mp c3 T dv.mem
      obtain ⟨cT1, cT2⟩ := He.ba cT
      have hsub := of_decide_eq_true cT1
      have lk := PySem.W.looks_subIn (M := model X.prog X.w) I.kIn hsub
      have hx := J.at_
      refine rc_ownR hop hu I.kIn J (Z.ty (model X.prog X.w) s.heap I.kIn hP) (by simp) hsub ?_ ?_ me.at_ me.fn hne hob (fun A' tk hA => call A' pins _ σ H x v b Q hA (I.tok tk) rx hsp) fun k' s' q => ?_
      · cases v <;> rfl
      · have hxI := hx
        rcases hop with ⟨rfl, _⟩ | ⟨rfl, _⟩
        · cases dv with
          | non => cases rx; exact none_eq
          | int i => obtain ⟨t, rfl⟩ := rx; exact int_eq hx
          | bl i => cases rx; exact bool_eq hx
          | str i => obtain ⟨t, rfl⟩ := rx; exact str_eq hx
          | lst h => cases rx; obtain ⟨its, _, ⟨o, n, e, ec, _⟩, _⟩ := I.list h; exact list_eq e ec hx lk
          | tup h => cases rx; obtain ⟨its, _, ⟨o, e, ec, _⟩, _⟩ := I.tuple h; exact tuple_eq e ec hx lk
          | dK h => cases rx; obtain ⟨o, e, ec⟩ := dk_cls I h; exact dict_eq e ec hx lk
        · cases dv with
          | non => cases rx; exact none_ne
          | int i => obtain ⟨t, rfl⟩ := rx; exact int_ne hx
          | bl i => cases rx; exact bool_ne hx
          | str i => obtain ⟨t, rfl⟩ := rx; exact str_ne hx
          | lst h => cases rx; obtain ⟨its, _, ⟨o, n, e, ec, _⟩, _⟩ := I.list h; exact list_ne e ec hx lk
          | tup h => cases rx; obtain ⟨its, _, ⟨o, e, ec, _⟩, _⟩ := I.tuple h; exact tuple_ne e ec hx lk
          | dK h => cases rx; obtain ⟨o, e, ec⟩ := dk_cls I h; exact dict_ne e ec hx lk
      · obtain ⟨H', I', q⟩ := q
        exact ⟨.bl (xor neg k'), H', I', rfl, q⟩
  rcases hop with ⟨rfl, _⟩ | ⟨rfl, _⟩ <;> exact goal
end My
set_option maxHeartbeats 0
namespace K04
open PySem PySem.Spec PyProof.Rows L2
def top (i : Nat) : Stmt := PySem.Challenge.pw_lockerwall_k04_equal_books.main.body.getD i (.Pass ⟨0, 0, 0, 0⟩)
abbrev s_is_integer_within : Stmt := top 1
abbrev N_is_integer_within : List Str := ["value", "low", "high"]
theorem sc_is_integer_within : FnScope N_is_integer_within ["value", "low", "high"] (defScope s_is_integer_within) := C8.fnScope_by (by decide +kernel)
def d_is_integer_within : He.DefD := ⟨("is_integer_within", none), "is_integer_within", "is_integer_within", defArgs s_is_integer_within, defBody s_is_integer_within, defScope s_is_integer_within, [], []⟩
abbrev s_is_word : Stmt := top 2
abbrev N_is_word : List Str := ["value", "words"]
theorem sc_is_word : FnScope N_is_word ["value", "words"] (defScope s_is_word) := C8.fnScope_by (by decide +kernel)
def d_is_word : He.DefD := ⟨("is_word", none), "is_word", "is_word", defArgs s_is_word, defBody s_is_word, defScope s_is_word, [], []⟩
abbrev s_are_distinct_words : Stmt := top 3
abbrev N_are_distinct_words : List Str := ["value", "words", "item"]
theorem sc_are_distinct_words : FnScope N_are_distinct_words ["value", "words"] (defScope s_are_distinct_words) := C8.fnScope_by (by decide +kernel)
def d_are_distinct_words : He.DefD := ⟨("are_distinct_words", none), "are_distinct_words", "are_distinct_words", defArgs s_are_distinct_words, defBody s_are_distinct_words, defScope s_are_distinct_words, [], []⟩
abbrev s_is_rule : Stmt := top 15
abbrev N_is_rule : List Str := ["value", "action"]
theorem sc_is_rule : FnScope N_is_rule ["value"] (defScope s_is_rule) := C8.fnScope_by (by decide +kernel)
def d_is_rule : He.DefD := ⟨("is_rule", none), "is_rule", "is_rule", defArgs s_is_rule, defBody s_is_rule, defScope s_is_rule, [], []⟩
abbrev s_Book_init : Stmt := inClass (top 16) 0
abbrev N_Book_init : List Str := ["self", "days", "given", "laid", "left", "opened", "taken", "gone", "late", "power", "rules", "moment", "rule"]
theorem sc_Book_init : FnScope N_Book_init ["self", "days", "given", "laid", "left", "opened", "taken", "gone", "late", "power"] (defScope s_Book_init) := C8.fnScope_by (by decide +kernel)
def d_Book_init : He.DefD := ⟨("Book", some "__init__"), "__init__", "Book.__init__", defArgs s_Book_init, defBody s_Book_init, defScope s_Book_init, [.adr (He.dflAt ("Book", some "__init__") 0), .adr (He.dflAt ("Book", some "__init__") 1), .adr (He.dflAt ("Book", some "__init__") 2), .adr (He.dflAt ("Book", some "__init__") 3), .adr (He.dflAt ("Book", some "__init__") 4), .adr (He.dflAt ("Book", some "__init__") 5), .adr (He.dflAt ("Book", some "__init__") 6), .adr (He.dflAt ("Book", some "__init__") 7)], []⟩
abbrev s_Book_eq : Stmt := inClass (top 16) 1
abbrev N_Book_eq : List Str := ["self", "other"]
theorem sc_Book_eq : FnScope N_Book_eq ["self", "other"] (defScope s_Book_eq) := C8.fnScope_by (by decide +kernel)
def d_Book_eq : He.DefD := ⟨("Book", some "__eq__"), "__eq__", "Book.__eq__", defArgs s_Book_eq, defBody s_Book_eq, defScope s_Book_eq, [], []⟩
abbrev s_Book_days : Stmt := inClass (top 16) 2
abbrev N_Book_days : List Str := ["self"]
theorem sc_Book_days : FnScope N_Book_days ["self"] (defScope s_Book_days) := C8.fnScope_by (by decide +kernel)
def d_Book_days : He.DefD := ⟨("Book", some "days"), "days", "Book.days", defArgs s_Book_days, defBody s_Book_days, defScope s_Book_days, [], []⟩
abbrev s_Book_rule : Stmt := inClass (top 16) 3
abbrev N_Book_rule : List Str := ["self", "moment"]
theorem sc_Book_rule : FnScope N_Book_rule ["self", "moment"] (defScope s_Book_rule) := C8.fnScope_by (by decide +kernel)
def d_Book_rule : He.DefD := ⟨("Book", some "rule"), "rule", "Book.rule", defArgs s_Book_rule, defBody s_Book_rule, defScope s_Book_rule, [], []⟩
abbrev s_Book_rules : Stmt := inClass (top 16) 4
abbrev N_Book_rules : List Str := ["self"]
theorem sc_Book_rules : FnScope N_Book_rules ["self"] (defScope s_Book_rules) := C8.fnScope_by (by decide +kernel)
def d_Book_rules : He.DefD := ⟨("Book", some "rules"), "rules", "Book.rules", defArgs s_Book_rules, defBody s_Book_rules, defScope s_Book_rules, [], []⟩
abbrev s_Book_with_rule : Stmt := inClass (top 16) 5
abbrev N_Book_with_rule : List Str := ["self", "moment", "rule", "rules"]
theorem sc_Book_with_rule : FnScope N_Book_with_rule ["self", "moment", "rule"] (defScope s_Book_with_rule) := C8.fnScope_by (by decide +kernel)
def d_Book_with_rule : He.DefD := ⟨("Book", some "with_rule"), "with_rule", "Book.with_rule", defArgs s_Book_with_rule, defBody s_Book_with_rule, defScope s_Book_with_rule, [], []⟩
abbrev s_Book_with_days : Stmt := inClass (top 16) 6
abbrev N_Book_with_days : List Str := ["self", "days", "rules"]
theorem sc_Book_with_days : FnScope N_Book_with_days ["self", "days"] (defScope s_Book_with_days) := C8.fnScope_by (by decide +kernel)
def d_Book_with_days : He.DefD := ⟨("Book", some "with_days"), "with_days", "Book.with_days", defArgs s_Book_with_days, defBody s_Book_with_days, defScope s_Book_with_days, [], []⟩
abbrev s_Book_taking : Stmt := inClass (top 16) 7
abbrev N_Book_taking : List Str := ["self", "good", "moments", "rules", "moment"]
theorem sc_Book_taking : FnScope N_Book_taking ["self", "good", "moments"] (defScope s_Book_taking) := C8.fnScope_by (by decide +kernel)
def d_Book_taking : He.DefD := ⟨("Book", some "taking"), "taking", "Book.taking", defArgs s_Book_taking, defBody s_Book_taking, defScope s_Book_taking, [], []⟩
abbrev s_book_text : Stmt := top 18
abbrev N_book_text : List Str := ["book", "lines", "moment", "rule"]
theorem sc_book_text : FnScope N_book_text ["book"] (defScope s_book_text) := C8.fnScope_by (by decide +kernel)
def d_book_text : He.DefD := ⟨("book_text", none), "book_text", "book_text", defArgs s_book_text, defBody s_book_text, defScope s_book_text, [], []⟩
abbrev s_law_pot : Stmt := top 20
abbrev N_law_pot : List Str := ["script", "k", "cell"]
theorem sc_law_pot : FnScope N_law_pot ["script", "k"] (defScope s_law_pot) := C8.fnScope_by (by decide +kernel)
def d_law_pot : He.DefD := ⟨("_law_pot", none), "_law_pot", "_law_pot", defArgs s_law_pot, defBody s_law_pot, defScope s_law_pot, [], []⟩
abbrev s_law_dip : Stmt := top 21
abbrev N_law_dip : List Str := ["pot", "many", "found", "mixed"]
theorem sc_law_dip : FnScope N_law_dip ["pot", "many"] (defScope s_law_dip) := C8.fnScope_by (by decide +kernel)
def d_law_dip : He.DefD := ⟨("_law_dip", none), "_law_dip", "_law_dip", defArgs s_law_dip, defBody s_law_dip, defScope s_law_dip, [], []⟩
abbrev s_law_rule : Stmt := top 22
abbrev N_law_rule : List Str := ["pot", "some", "k"]
theorem sc_law_rule : FnScope N_law_rule ["pot"] (defScope s_law_rule) := C8.fnScope_by (by decide +kernel)
def d_law_rule : He.DefD := ⟨("_law_rule", none), "_law_rule", "_law_rule", defArgs s_law_rule, defBody s_law_rule, defScope s_law_rule, [], []⟩
abbrev s_law_plan : Stmt := top 23
abbrev N_law_plan : List Str := ["pot", "k"]
theorem sc_law_plan : FnScope N_law_plan ["pot"] (defScope s_law_plan) := C8.fnScope_by (by decide +kernel)
def d_law_plan : He.DefD := ⟨("_law_plan", none), "_law_plan", "_law_plan", defArgs s_law_plan, defBody s_law_plan, defScope s_law_plan, [], []⟩
abbrev s_law_moments : Stmt := top 24
abbrev N_law_moments : List Str := []
theorem sc_law_moments : FnScope N_law_moments [] (defScope s_law_moments) := C8.fnScope_by (by decide +kernel)
def d_law_moments : He.DefD := ⟨("_law_moments", none), "_law_moments", "_law_moments", defArgs s_law_moments, defBody s_law_moments, defScope s_law_moments, [], []⟩
abbrev s_law_book : Stmt := top 25
abbrev N_law_book : List Str := ["plan", "row"]
theorem sc_law_book : FnScope N_law_book ["plan"] (defScope s_law_book) := C8.fnScope_by (by decide +kernel)
def d_law_book : He.DefD := ⟨("_law_book", none), "_law_book", "_law_book", defArgs s_law_book, defBody s_law_book, defScope s_law_book, [], []⟩
abbrev s_law_made : Stmt := top 26
abbrev N_law_made : List Str := ["pot", "plan", "way", "row", "words", "book", "k", "spot", "one", "two"]
theorem sc_law_made : FnScope N_law_made ["pot", "plan"] (defScope s_law_made) := C8.fnScope_by (by decide +kernel)
def d_law_made : He.DefD := ⟨("_law_made", none), "_law_made", "_law_made", defArgs s_law_made, defBody s_law_made, defScope s_law_made, [], []⟩
abbrev s_law_alike : Stmt := top 27
abbrev N_law_alike : List Str := ["found", "due", "k"]
theorem sc_law_alike : FnScope N_law_alike ["found", "due"] (defScope s_law_alike) := C8.fnScope_by (by decide +kernel)
def d_law_alike : He.DefD := ⟨("_law_alike", none), "_law_alike", "_law_alike", defArgs s_law_alike, defBody s_law_alike, defScope s_law_alike, [], []⟩
abbrev s_law_near_rule : Stmt := top 28
abbrev N_law_near_rule : List Str := ["pot", "row", "way", "spot", "some", "two"]
theorem sc_law_near_rule : FnScope N_law_near_rule ["pot", "row"] (defScope s_law_near_rule) := C8.fnScope_by (by decide +kernel)
def d_law_near_rule : He.DefD := ⟨("_law_near_rule", none), "_law_near_rule", "_law_near_rule", defArgs s_law_near_rule, defBody s_law_near_rule, defScope s_law_near_rule, [], []⟩
abbrev s_law_near : Stmt := top 29
abbrev N_law_near : List Str := ["pot", "plan", "way", "spot", "other", "number", "row", "turned"]
theorem sc_law_near : FnScope N_law_near ["pot", "plan"] (defScope s_law_near) := C8.fnScope_by (by decide +kernel)
def d_law_near : He.DefD := ⟨("_law_near", none), "_law_near", "_law_near", defArgs s_law_near, defBody s_law_near, defScope s_law_near, [], []⟩
abbrev s_law_same : Stmt := top 30
abbrev N_law_same : List Str := ["one", "other", "due"]
theorem sc_law_same : FnScope N_law_same ["one", "other", "due"] (defScope s_law_same) := C8.fnScope_by (by decide +kernel)
def d_law_same : He.DefD := ⟨("_law_same", none), "_law_same", "_law_same", defArgs s_law_same, defBody s_law_same, defScope s_law_same, [], []⟩
abbrev s_law_right : Stmt := top 31
abbrev N_law_right : List Str := ["pot", "plan", "book", "again", "other", "near", "some", "turn", "thing"]
theorem sc_law_right : FnScope N_law_right ["pot"] (defScope s_law_right) := C8.fnScope_by (by decide +kernel)
def d_law_right : He.DefD := ⟨("_law_right", none), "_law_right", "_law_right", defArgs s_law_right, defBody s_law_right, defScope s_law_right, [], []⟩
abbrev s_law : Stmt := top 32
abbrev N_law : List Str := ["script", "k"]
theorem sc_law : FnScope N_law ["script"] (defScope s_law) := C8.fnScope_by (by decide +kernel)
def d_law : He.DefD := ⟨("law", none), "law", "law", defArgs s_law, defBody s_law, defScope s_law, [], []⟩
def fa0 : List He.Fa := [.glo "is_integer_within", .glo "is_word", .glo "are_distinct_words", .glo "is_rule", .glo "book_text", .glo "_law_pot", .glo "_law_dip", .glo "_law_rule", .glo "_law_plan", .glo "_law_moments", .glo "_law_book", .glo "_law_made", .glo "_law_alike", .glo "_law_near_rule", .glo "_law_near", .glo "_law_same", .glo "_law_right", .glo "law", .glo "Book", .glo "WallError"]
def fa1 : List He.Fa := [.glo "NoDays", .glo "NoMoments", .glo "NoRule", .glo "NoMoment", .glo "ACTIONS", .glo "MOMENTS", .int "MOST_ACTIONS" 6, .int "MOST_DAYS" 30, .free "len", .free "abs", .free "max", .free "min", .free "isinstance", .free "all", .free "zip", .free "super", .free "ValueError", .free "int", .free "str", .free "bool"]
def fa2 : List He.Fa := [.free "list", .free "tuple", .free "set", .free "range", .cls "Book", .noat "Book" "_days", .noat "Book" "_rules", .meth "Book" "__eq__", .meth "Book" "days", .meth "Book" "rule", .meth "Book" "rules", .meth "Book" "with_rule", .meth "Book" "with_days", .meth "Book" "taking", .mkr "Book"]
def fa : List He.Fa := fa0 ++ fa1 ++ fa2
def fn0 : List He.DefD := [d_is_integer_within, d_is_word, d_are_distinct_words, d_is_rule, d_Book_init, d_Book_eq, d_Book_days, d_Book_rule, d_Book_rules, d_Book_with_rule, d_Book_with_days, d_Book_taking, d_book_text, d_law_pot, d_law_dip, d_law_rule, d_law_plan, d_law_moments, d_law_book, d_law_made]
def fn1 : List He.DefD := [d_law_alike, d_law_near_rule, d_law_near, d_law_same, d_law_right, d_law]
def fn : List He.DefD := fn0 ++ fn1
def exl (K : PySem.W.Frag) : List Bool := [My.tupAt K (He.ga K "ACTIONS") [.str "free", .str "full", .str "off", .str "code", .str "void", .str "look", .str "lock"], My.tupAt K (He.ga K "MOMENTS") [.str "given", .str "laid", .str "left", .str "opened", .str "taken", .str "gone", .str "late", .str "power"], My.tupAt K (He.dflAt ("Book", some "__init__") 0 K) [], My.tupAt K (He.dflAt ("Book", some "__init__") 1 K) [], My.tupAt K (He.dflAt ("Book", some "__init__") 2 K) [], My.tupAt K (He.dflAt ("Book", some "__init__") 3 K) [], My.tupAt K (He.dflAt ("Book", some "__init__") 4 K) [], My.tupAt K (He.dflAt ("Book", some "__init__") 5 K) [], My.tupAt K (He.dflAt ("Book", some "__init__") 6 K) [], My.tupAt K (He.dflAt ("Book", some "__init__") 7 K) [], My.insB K (He.ga K "Book"), My.cmpB K (He.ga K "Book")]
def ex (K : PySem.W.Frag) : Bool := (exl K).all id
structure Txt (K : PySem.W.Frag) (mg : Str → Option Value) : Prop where
  ex : ∃ h : Heap, K.In h ∧ h.Ns mainGlobals mg ∧ He.SaysD fa fn K ∧ ex K = true
section
variable {K : PySem.W.Frag} {mg : Str → Option Value}
theorem Txt.g_is_integer_within (T : Txt K mg) : mg "is_integer_within" = some (.ref (He.ga K "is_integer_within")) := by
  obtain ⟨h, X, G, c, _⟩ := T.ex
  exact He.glo_ok X G (c.fact 0 rfl)
theorem Txt.g_is_word (T : Txt K mg) : mg "is_word" = some (.ref (He.ga K "is_word")) := by
  obtain ⟨h, X, G, c, _⟩ := T.ex
  exact He.glo_ok X G (c.fact 1 rfl)
theorem Txt.g_are_distinct_words (T : Txt K mg) : mg "are_distinct_words" = some (.ref (He.ga K "are_distinct_words")) := by
  obtain ⟨h, X, G, c, _⟩ := T.ex
  exact He.glo_ok X G (c.fact 2 rfl)
theorem Txt.g_is_rule (T : Txt K mg) : mg "is_rule" = some (.ref (He.ga K "is_rule")) := by
  obtain ⟨h, X, G, c, _⟩ := T.ex
  exact He.glo_ok X G (c.fact 3 rfl)
theorem Txt.g_book_text (T : Txt K mg) : mg "book_text" = some (.ref (He.ga K "book_text")) := by
  obtain ⟨h, X, G, c, _⟩ := T.ex
  exact He.glo_ok X G (c.fact 4 rfl)
theorem Txt.g_law_pot (T : Txt K mg) : mg "_law_pot" = some (.ref (He.ga K "_law_pot")) := by
  obtain ⟨h, X, G, c, _⟩ := T.ex
  exact He.glo_ok X G (c.fact 5 rfl)
theorem Txt.g_law_dip (T : Txt K mg) : mg "_law_dip" = some (.ref (He.ga K "_law_dip")) := by
  obtain ⟨h, X, G, c, _⟩ := T.ex
  exact He.glo_ok X G (c.fact 6 rfl)
theorem Txt.g_law_rule (T : Txt K mg) : mg "_law_rule" = some (.ref (He.ga K "_law_rule")) := by
  obtain ⟨h, X, G, c, _⟩ := T.ex
  exact He.glo_ok X G (c.fact 7 rfl)
theorem Txt.g_law_plan (T : Txt K mg) : mg "_law_plan" = some (.ref (He.ga K "_law_plan")) := by
  obtain ⟨h, X, G, c, _⟩ := T.ex
  exact He.glo_ok X G (c.fact 8 rfl)
theorem Txt.g_law_moments (T : Txt K mg) : mg "_law_moments" = some (.ref (He.ga K "_law_moments")) := by
  obtain ⟨h, X, G, c, _⟩ := T.ex
  exact He.glo_ok X G (c.fact 9 rfl)
theorem Txt.g_law_book (T : Txt K mg) : mg "_law_book" = some (.ref (He.ga K "_law_book")) := by
  obtain ⟨h, X, G, c, _⟩ := T.ex
  exact He.glo_ok X G (c.fact 10 rfl)
theorem Txt.g_law_made (T : Txt K mg) : mg "_law_made" = some (.ref (He.ga K "_law_made")) := by
  obtain ⟨h, X, G, c, _⟩ := T.ex
  exact He.glo_ok X G (c.fact 11 rfl)
theorem Txt.g_law_alike (T : Txt K mg) : mg "_law_alike" = some (.ref (He.ga K "_law_alike")) := by
  obtain ⟨h, X, G, c, _⟩ := T.ex
  exact He.glo_ok X G (c.fact 12 rfl)
theorem Txt.g_law_near_rule (T : Txt K mg) : mg "_law_near_rule" = some (.ref (He.ga K "_law_near_rule")) := by
  obtain ⟨h, X, G, c, _⟩ := T.ex
  exact He.glo_ok X G (c.fact 13 rfl)
theorem Txt.g_law_near (T : Txt K mg) : mg "_law_near" = some (.ref (He.ga K "_law_near")) := by
  obtain ⟨h, X, G, c, _⟩ := T.ex
  exact He.glo_ok X G (c.fact 14 rfl)
theorem Txt.g_law_same (T : Txt K mg) : mg "_law_same" = some (.ref (He.ga K "_law_same")) := by
  obtain ⟨h, X, G, c, _⟩ := T.ex
  exact He.glo_ok X G (c.fact 15 rfl)
theorem Txt.g_law_right (T : Txt K mg) : mg "_law_right" = some (.ref (He.ga K "_law_right")) := by
  obtain ⟨h, X, G, c, _⟩ := T.ex
  exact He.glo_ok X G (c.fact 16 rfl)
theorem Txt.g_law (T : Txt K mg) : mg "law" = some (.ref (He.ga K "law")) := by
  obtain ⟨h, X, G, c, _⟩ := T.ex
  exact He.glo_ok X G (c.fact 17 rfl)
theorem Txt.g_Book (T : Txt K mg) : mg "Book" = some (.ref (He.ga K "Book")) := by
  obtain ⟨h, X, G, c, _⟩ := T.ex
  exact He.glo_ok X G (c.fact 18 rfl)
theorem Txt.g_WallError (T : Txt K mg) : mg "WallError" = some (.ref (He.ga K "WallError")) := by
  obtain ⟨h, X, G, c, _⟩ := T.ex
  exact He.glo_ok X G (c.fact 19 rfl)
theorem Txt.g_NoDays (T : Txt K mg) : mg "NoDays" = some (.ref (He.ga K "NoDays")) := by
  obtain ⟨h, X, G, c, _⟩ := T.ex
  exact He.glo_ok X G (c.fact 20 rfl)
theorem Txt.g_NoMoments (T : Txt K mg) : mg "NoMoments" = some (.ref (He.ga K "NoMoments")) := by
  obtain ⟨h, X, G, c, _⟩ := T.ex
  exact He.glo_ok X G (c.fact 21 rfl)
theorem Txt.g_NoRule (T : Txt K mg) : mg "NoRule" = some (.ref (He.ga K "NoRule")) := by
  obtain ⟨h, X, G, c, _⟩ := T.ex
  exact He.glo_ok X G (c.fact 22 rfl)
theorem Txt.g_NoMoment (T : Txt K mg) : mg "NoMoment" = some (.ref (He.ga K "NoMoment")) := by
  obtain ⟨h, X, G, c, _⟩ := T.ex
  exact He.glo_ok X G (c.fact 23 rfl)
theorem Txt.g_ACTIONS (T : Txt K mg) : mg "ACTIONS" = some (.ref (He.ga K "ACTIONS")) := by
  obtain ⟨h, X, G, c, _⟩ := T.ex
  exact He.glo_ok X G (c.fact 24 rfl)
theorem Txt.g_MOMENTS (T : Txt K mg) : mg "MOMENTS" = some (.ref (He.ga K "MOMENTS")) := by
  obtain ⟨h, X, G, c, _⟩ := T.ex
  exact He.glo_ok X G (c.fact 25 rfl)
theorem Txt.g_MOST_ACTIONS (T : Txt K mg) : ∃ t, mg "MOST_ACTIONS" = some (.int 6 t) := by
  obtain ⟨h, X, G, c, _⟩ := T.ex
  exact He.int_ok X G (c.fact 26 rfl)
theorem Txt.g_MOST_DAYS (T : Txt K mg) : ∃ t, mg "MOST_DAYS" = some (.int 30 t) := by
  obtain ⟨h, X, G, c, _⟩ := T.ex
  exact He.int_ok X G (c.fact 27 rfl)
theorem Txt.len (T : Txt K mg) : mg "len" = none := by
  obtain ⟨h, X, G, c, _⟩ := T.ex
  exact He.free_ok X G (c.fact 28 rfl)
theorem Txt.abs (T : Txt K mg) : mg "abs" = none := by
  obtain ⟨h, X, G, c, _⟩ := T.ex
  exact He.free_ok X G (c.fact 29 rfl)
theorem Txt.max (T : Txt K mg) : mg "max" = none := by
  obtain ⟨h, X, G, c, _⟩ := T.ex
  exact He.free_ok X G (c.fact 30 rfl)
theorem Txt.min (T : Txt K mg) : mg "min" = none := by
  obtain ⟨h, X, G, c, _⟩ := T.ex
  exact He.free_ok X G (c.fact 31 rfl)
theorem Txt.isinstance (T : Txt K mg) : mg "isinstance" = none := by
  obtain ⟨h, X, G, c, _⟩ := T.ex
  exact He.free_ok X G (c.fact 32 rfl)
theorem Txt.all (T : Txt K mg) : mg "all" = none := by
  obtain ⟨h, X, G, c, _⟩ := T.ex
  exact He.free_ok X G (c.fact 33 rfl)
theorem Txt.zip (T : Txt K mg) : mg "zip" = none := by
  obtain ⟨h, X, G, c, _⟩ := T.ex
  exact He.free_ok X G (c.fact 34 rfl)
theorem Txt.super (T : Txt K mg) : mg "super" = none := by
  obtain ⟨h, X, G, c, _⟩ := T.ex
  exact He.free_ok X G (c.fact 35 rfl)
theorem Txt.ValueError (T : Txt K mg) : mg "ValueError" = none := by
  obtain ⟨h, X, G, c, _⟩ := T.ex
  exact He.free_ok X G (c.fact 36 rfl)
theorem Txt.int (T : Txt K mg) : mg "int" = none := by
  obtain ⟨h, X, G, c, _⟩ := T.ex
  exact He.free_ok X G (c.fact 37 rfl)
theorem Txt.str (T : Txt K mg) : mg "str" = none := by
  obtain ⟨h, X, G, c, _⟩ := T.ex
  exact He.free_ok X G (c.fact 38 rfl)
theorem Txt.bool (T : Txt K mg) : mg "bool" = none := by
  obtain ⟨h, X, G, c, _⟩ := T.ex
  exact He.free_ok X G (c.fact 39 rfl)
theorem Txt.list (T : Txt K mg) : mg "list" = none := by
  obtain ⟨h, X, G, c, _⟩ := T.ex
  exact He.free_ok X G (c.fact 40 rfl)
theorem Txt.tuple (T : Txt K mg) : mg "tuple" = none := by
  obtain ⟨h, X, G, c, _⟩ := T.ex
  exact He.free_ok X G (c.fact 41 rfl)
theorem Txt.set (T : Txt K mg) : mg "set" = none := by
  obtain ⟨h, X, G, c, _⟩ := T.ex
  exact He.free_ok X G (c.fact 42 rfl)
theorem Txt.range (T : Txt K mg) : mg "range" = none := by
  obtain ⟨h, X, G, c, _⟩ := T.ex
  exact He.free_ok X G (c.fact 43 rfl)
theorem Txt.cl_Book (T : Txt K mg) : Cls K (He.ga K "Book") := by
  obtain ⟨h, X, G, c, _⟩ := T.ex
  exact He.cls_ok (c.fact 44 rfl)
theorem Txt.no_Book__days (T : Txt K mg) : NoAttr K (He.ga K "Book") "_days" := by
  obtain ⟨h, X, G, c, _⟩ := T.ex
  exact He.noat_ok (c.fact 45 rfl)
theorem Txt.no_Book__rules (T : Txt K mg) : NoAttr K (He.ga K "Book") "_rules" := by
  obtain ⟨h, X, G, c, _⟩ := T.ex
  exact He.noat_ok (c.fact 46 rfl)
theorem Txt.m_Book_eq (T : Txt K mg) : Meth K (He.ga K "Book") "__eq__" (He.ma K (He.ga K "Book") "__eq__") := by
  obtain ⟨h, X, G, c, _⟩ := T.ex
  exact He.meth_ok (c.fact 47 rfl)
theorem Txt.m_Book_days (T : Txt K mg) : Meth K (He.ga K "Book") "days" (He.ma K (He.ga K "Book") "days") := by
  obtain ⟨h, X, G, c, _⟩ := T.ex
  exact He.meth_ok (c.fact 48 rfl)
theorem Txt.m_Book_rule (T : Txt K mg) : Meth K (He.ga K "Book") "rule" (He.ma K (He.ga K "Book") "rule") := by
  obtain ⟨h, X, G, c, _⟩ := T.ex
  exact He.meth_ok (c.fact 49 rfl)
theorem Txt.m_Book_rules (T : Txt K mg) : Meth K (He.ga K "Book") "rules" (He.ma K (He.ga K "Book") "rules") := by
  obtain ⟨h, X, G, c, _⟩ := T.ex
  exact He.meth_ok (c.fact 50 rfl)
theorem Txt.m_Book_with_rule (T : Txt K mg) : Meth K (He.ga K "Book") "with_rule" (He.ma K (He.ga K "Book") "with_rule") := by
  obtain ⟨h, X, G, c, _⟩ := T.ex
  exact He.meth_ok (c.fact 51 rfl)
theorem Txt.m_Book_with_days (T : Txt K mg) : Meth K (He.ga K "Book") "with_days" (He.ma K (He.ga K "Book") "with_days") := by
  obtain ⟨h, X, G, c, _⟩ := T.ex
  exact He.meth_ok (c.fact 52 rfl)
theorem Txt.m_Book_taking (T : Txt K mg) : Meth K (He.ga K "Book") "taking" (He.ma K (He.ga K "Book") "taking") := by
  obtain ⟨h, X, G, c, _⟩ := T.ex
  exact He.meth_ok (c.fact 53 rfl)
theorem Txt.mk_Book (T : Txt K mg) : Mk K (He.ga K "Book") (He.ma K (He.ga K "Book") "__init__") := by
  obtain ⟨h, X, G, c, _⟩ := T.ex
  exact He.mkr_ok (c.fact 54 rfl)
theorem Txt.tup_ACTIONS (T : Txt K mg) : ∀ H, SqT K H (He.ga K "ACTIONS") [.str "free", .str "full", .str "off", .str "code", .str "void", .str "look", .str "lock"] := by
  obtain ⟨h, X, G, c, e⟩ := T.ex
  exact fun H => My.tupAt_ok (My.all_ix e 0 rfl) H
theorem Txt.ty_ACTIONS (T : Txt K mg) : ∀ H, tyV K "tuple" (.ref (He.ga K "ACTIONS")) H := by
  obtain ⟨h, X, G, c, e⟩ := T.ex
  exact fun H => My.tupAt_ty (My.all_ix e 0 rfl) H
theorem Txt.tup_MOMENTS (T : Txt K mg) : ∀ H, SqT K H (He.ga K "MOMENTS") [.str "given", .str "laid", .str "left", .str "opened", .str "taken", .str "gone", .str "late", .str "power"] := by
  obtain ⟨h, X, G, c, e⟩ := T.ex
  exact fun H => My.tupAt_ok (My.all_ix e 1 rfl) H
theorem Txt.ty_MOMENTS (T : Txt K mg) : ∀ H, tyV K "tuple" (.ref (He.ga K "MOMENTS")) H := by
  obtain ⟨h, X, G, c, e⟩ := T.ex
  exact fun H => My.tupAt_ty (My.all_ix e 1 rfl) H
theorem Txt.dfl_Book_init_0 (T : Txt K mg) : ∀ H, SqT K H (He.dflAt ("Book", some "__init__") 0 K) [] := by
  obtain ⟨h, X, G, c, e⟩ := T.ex
  exact fun H => My.tupAt_ok (My.all_ix e 2 rfl) H
theorem Txt.dfl_Book_init_1 (T : Txt K mg) : ∀ H, SqT K H (He.dflAt ("Book", some "__init__") 1 K) [] := by
  obtain ⟨h, X, G, c, e⟩ := T.ex
  exact fun H => My.tupAt_ok (My.all_ix e 3 rfl) H
theorem Txt.dfl_Book_init_2 (T : Txt K mg) : ∀ H, SqT K H (He.dflAt ("Book", some "__init__") 2 K) [] := by
  obtain ⟨h, X, G, c, e⟩ := T.ex
  exact fun H => My.tupAt_ok (My.all_ix e 4 rfl) H
theorem Txt.dfl_Book_init_3 (T : Txt K mg) : ∀ H, SqT K H (He.dflAt ("Book", some "__init__") 3 K) [] := by
  obtain ⟨h, X, G, c, e⟩ := T.ex
  exact fun H => My.tupAt_ok (My.all_ix e 5 rfl) H
theorem Txt.dfl_Book_init_4 (T : Txt K mg) : ∀ H, SqT K H (He.dflAt ("Book", some "__init__") 4 K) [] := by
  obtain ⟨h, X, G, c, e⟩ := T.ex
  exact fun H => My.tupAt_ok (My.all_ix e 6 rfl) H
theorem Txt.dfl_Book_init_5 (T : Txt K mg) : ∀ H, SqT K H (He.dflAt ("Book", some "__init__") 5 K) [] := by
  obtain ⟨h, X, G, c, e⟩ := T.ex
  exact fun H => My.tupAt_ok (My.all_ix e 7 rfl) H
theorem Txt.dfl_Book_init_6 (T : Txt K mg) : ∀ H, SqT K H (He.dflAt ("Book", some "__init__") 6 K) [] := by
  obtain ⟨h, X, G, c, e⟩ := T.ex
  exact fun H => My.tupAt_ok (My.all_ix e 8 rfl) H
theorem Txt.dfl_Book_init_7 (T : Txt K mg) : ∀ H, SqT K H (He.dflAt ("Book", some "__init__") 7 K) [] := by
  obtain ⟨h, X, G, c, e⟩ := T.ex
  exact fun H => My.tupAt_ok (My.all_ix e 9 rfl) H
theorem Txt.insB_Book (T : Txt K mg) : My.insB K (He.ga K "Book") = true := by
  obtain ⟨h, X, G, c, e⟩ := T.ex
  exact My.all_ix e 10 rfl
theorem Txt.cmpB_Book (T : Txt K mg) : My.cmpB K (He.ga K "Book") = true := by
  obtain ⟨h, X, G, c, e⟩ := T.ex
  exact My.all_ix e 11 rfl
theorem Txt.f_is_integer_within (T : Txt K mg) : ∃ fd, FunD K d_is_integer_within.name d_is_integer_within.qual d_is_integer_within.params d_is_integer_within.body d_is_integer_within.scope (d_is_integer_within.dvs K) (d_is_integer_within.kws K) (He.fAd K d_is_integer_within.at_) fd := by
  obtain ⟨h, X, G, c, e⟩ := T.ex
  exact c.def_ 0 rfl
theorem Txt.f_is_word (T : Txt K mg) : ∃ fd, FunD K d_is_word.name d_is_word.qual d_is_word.params d_is_word.body d_is_word.scope (d_is_word.dvs K) (d_is_word.kws K) (He.fAd K d_is_word.at_) fd := by
  obtain ⟨h, X, G, c, e⟩ := T.ex
  exact c.def_ 1 rfl
theorem Txt.f_are_distinct_words (T : Txt K mg) : ∃ fd, FunD K d_are_distinct_words.name d_are_distinct_words.qual d_are_distinct_words.params d_are_distinct_words.body d_are_distinct_words.scope (d_are_distinct_words.dvs K) (d_are_distinct_words.kws K) (He.fAd K d_are_distinct_words.at_) fd := by
  obtain ⟨h, X, G, c, e⟩ := T.ex
  exact c.def_ 2 rfl
theorem Txt.f_is_rule (T : Txt K mg) : ∃ fd, FunD K d_is_rule.name d_is_rule.qual d_is_rule.params d_is_rule.body d_is_rule.scope (d_is_rule.dvs K) (d_is_rule.kws K) (He.fAd K d_is_rule.at_) fd := by
  obtain ⟨h, X, G, c, e⟩ := T.ex
  exact c.def_ 3 rfl
theorem Txt.f_Book_init (T : Txt K mg) : ∃ fd, FunD K d_Book_init.name d_Book_init.qual d_Book_init.params d_Book_init.body d_Book_init.scope (d_Book_init.dvs K) (d_Book_init.kws K) (He.fAd K d_Book_init.at_) fd := by
  obtain ⟨h, X, G, c, e⟩ := T.ex
  exact c.def_ 4 rfl
theorem Txt.f_Book_eq (T : Txt K mg) : ∃ fd, FunD K d_Book_eq.name d_Book_eq.qual d_Book_eq.params d_Book_eq.body d_Book_eq.scope (d_Book_eq.dvs K) (d_Book_eq.kws K) (He.fAd K d_Book_eq.at_) fd := by
  obtain ⟨h, X, G, c, e⟩ := T.ex
  exact c.def_ 5 rfl
theorem Txt.f_Book_days (T : Txt K mg) : ∃ fd, FunD K d_Book_days.name d_Book_days.qual d_Book_days.params d_Book_days.body d_Book_days.scope (d_Book_days.dvs K) (d_Book_days.kws K) (He.fAd K d_Book_days.at_) fd := by
  obtain ⟨h, X, G, c, e⟩ := T.ex
  exact c.def_ 6 rfl
theorem Txt.f_Book_rule (T : Txt K mg) : ∃ fd, FunD K d_Book_rule.name d_Book_rule.qual d_Book_rule.params d_Book_rule.body d_Book_rule.scope (d_Book_rule.dvs K) (d_Book_rule.kws K) (He.fAd K d_Book_rule.at_) fd := by
  obtain ⟨h, X, G, c, e⟩ := T.ex
  exact c.def_ 7 rfl
theorem Txt.f_Book_rules (T : Txt K mg) : ∃ fd, FunD K d_Book_rules.name d_Book_rules.qual d_Book_rules.params d_Book_rules.body d_Book_rules.scope (d_Book_rules.dvs K) (d_Book_rules.kws K) (He.fAd K d_Book_rules.at_) fd := by
  obtain ⟨h, X, G, c, e⟩ := T.ex
  exact c.def_ 8 rfl
theorem Txt.f_Book_with_rule (T : Txt K mg) : ∃ fd, FunD K d_Book_with_rule.name d_Book_with_rule.qual d_Book_with_rule.params d_Book_with_rule.body d_Book_with_rule.scope (d_Book_with_rule.dvs K) (d_Book_with_rule.kws K) (He.fAd K d_Book_with_rule.at_) fd := by
  obtain ⟨h, X, G, c, e⟩ := T.ex
  exact c.def_ 9 rfl
theorem Txt.f_Book_with_days (T : Txt K mg) : ∃ fd, FunD K d_Book_with_days.name d_Book_with_days.qual d_Book_with_days.params d_Book_with_days.body d_Book_with_days.scope (d_Book_with_days.dvs K) (d_Book_with_days.kws K) (He.fAd K d_Book_with_days.at_) fd := by
  obtain ⟨h, X, G, c, e⟩ := T.ex
  exact c.def_ 10 rfl
theorem Txt.f_Book_taking (T : Txt K mg) : ∃ fd, FunD K d_Book_taking.name d_Book_taking.qual d_Book_taking.params d_Book_taking.body d_Book_taking.scope (d_Book_taking.dvs K) (d_Book_taking.kws K) (He.fAd K d_Book_taking.at_) fd := by
  obtain ⟨h, X, G, c, e⟩ := T.ex
  exact c.def_ 11 rfl
theorem Txt.f_book_text (T : Txt K mg) : ∃ fd, FunD K d_book_text.name d_book_text.qual d_book_text.params d_book_text.body d_book_text.scope (d_book_text.dvs K) (d_book_text.kws K) (He.fAd K d_book_text.at_) fd := by
  obtain ⟨h, X, G, c, e⟩ := T.ex
  exact c.def_ 12 rfl
theorem Txt.f_law_pot (T : Txt K mg) : ∃ fd, FunD K d_law_pot.name d_law_pot.qual d_law_pot.params d_law_pot.body d_law_pot.scope (d_law_pot.dvs K) (d_law_pot.kws K) (He.fAd K d_law_pot.at_) fd := by
  obtain ⟨h, X, G, c, e⟩ := T.ex
  exact c.def_ 13 rfl
theorem Txt.f_law_dip (T : Txt K mg) : ∃ fd, FunD K d_law_dip.name d_law_dip.qual d_law_dip.params d_law_dip.body d_law_dip.scope (d_law_dip.dvs K) (d_law_dip.kws K) (He.fAd K d_law_dip.at_) fd := by
  obtain ⟨h, X, G, c, e⟩ := T.ex
  exact c.def_ 14 rfl
theorem Txt.f_law_rule (T : Txt K mg) : ∃ fd, FunD K d_law_rule.name d_law_rule.qual d_law_rule.params d_law_rule.body d_law_rule.scope (d_law_rule.dvs K) (d_law_rule.kws K) (He.fAd K d_law_rule.at_) fd := by
  obtain ⟨h, X, G, c, e⟩ := T.ex
  exact c.def_ 15 rfl
theorem Txt.f_law_plan (T : Txt K mg) : ∃ fd, FunD K d_law_plan.name d_law_plan.qual d_law_plan.params d_law_plan.body d_law_plan.scope (d_law_plan.dvs K) (d_law_plan.kws K) (He.fAd K d_law_plan.at_) fd := by
  obtain ⟨h, X, G, c, e⟩ := T.ex
  exact c.def_ 16 rfl
theorem Txt.f_law_moments (T : Txt K mg) : ∃ fd, FunD K d_law_moments.name d_law_moments.qual d_law_moments.params d_law_moments.body d_law_moments.scope (d_law_moments.dvs K) (d_law_moments.kws K) (He.fAd K d_law_moments.at_) fd := by
  obtain ⟨h, X, G, c, e⟩ := T.ex
  exact c.def_ 17 rfl
theorem Txt.f_law_book (T : Txt K mg) : ∃ fd, FunD K d_law_book.name d_law_book.qual d_law_book.params d_law_book.body d_law_book.scope (d_law_book.dvs K) (d_law_book.kws K) (He.fAd K d_law_book.at_) fd := by
  obtain ⟨h, X, G, c, e⟩ := T.ex
  exact c.def_ 18 rfl
theorem Txt.f_law_made (T : Txt K mg) : ∃ fd, FunD K d_law_made.name d_law_made.qual d_law_made.params d_law_made.body d_law_made.scope (d_law_made.dvs K) (d_law_made.kws K) (He.fAd K d_law_made.at_) fd := by
  obtain ⟨h, X, G, c, e⟩ := T.ex
  exact c.def_ 19 rfl
theorem Txt.f_law_alike (T : Txt K mg) : ∃ fd, FunD K d_law_alike.name d_law_alike.qual d_law_alike.params d_law_alike.body d_law_alike.scope (d_law_alike.dvs K) (d_law_alike.kws K) (He.fAd K d_law_alike.at_) fd := by
  obtain ⟨h, X, G, c, e⟩ := T.ex
  exact c.def_ 20 rfl
theorem Txt.f_law_near_rule (T : Txt K mg) : ∃ fd, FunD K d_law_near_rule.name d_law_near_rule.qual d_law_near_rule.params d_law_near_rule.body d_law_near_rule.scope (d_law_near_rule.dvs K) (d_law_near_rule.kws K) (He.fAd K d_law_near_rule.at_) fd := by
  obtain ⟨h, X, G, c, e⟩ := T.ex
  exact c.def_ 21 rfl
theorem Txt.f_law_near (T : Txt K mg) : ∃ fd, FunD K d_law_near.name d_law_near.qual d_law_near.params d_law_near.body d_law_near.scope (d_law_near.dvs K) (d_law_near.kws K) (He.fAd K d_law_near.at_) fd := by
  obtain ⟨h, X, G, c, e⟩ := T.ex
  exact c.def_ 22 rfl
theorem Txt.f_law_same (T : Txt K mg) : ∃ fd, FunD K d_law_same.name d_law_same.qual d_law_same.params d_law_same.body d_law_same.scope (d_law_same.dvs K) (d_law_same.kws K) (He.fAd K d_law_same.at_) fd := by
  obtain ⟨h, X, G, c, e⟩ := T.ex
  exact c.def_ 23 rfl
theorem Txt.f_law_right (T : Txt K mg) : ∃ fd, FunD K d_law_right.name d_law_right.qual d_law_right.params d_law_right.body d_law_right.scope (d_law_right.dvs K) (d_law_right.kws K) (He.fAd K d_law_right.at_) fd := by
  obtain ⟨h, X, G, c, e⟩ := T.ex
  exact c.def_ 24 rfl
theorem Txt.f_law (T : Txt K mg) : ∃ fd, FunD K d_law.name d_law.qual d_law.params d_law.body d_law.scope (d_law.dvs K) (d_law.kws K) (He.fAd K d_law.at_) fd := by
  obtain ⟨h, X, G, c, e⟩ := T.ex
  exact c.def_ 25 rfl
end
end K04


namespace K04
open PySem PySem.Spec PyProof.Rows L2
abbrev R : PySem.W.OpenRow := PySem.W.OpenLaw.row PySem.Challenge.rw_lockerwall_k04_equal_books
abbrev hk : PySem.W.Hook := My.hookD2 5 fa fn ex
def ob (s : PySem.W.SharedT) : My.AlE := My.obsDG2 5 fa fn ex (HandSHeadRun.getT s)
theorem ob_eq (s : PySem.W.SharedT) : ob s = hk.obs s.abs := My.obsDG2_eq (HandSHeadRun.getT_eq s)
def loose : List PySem.Str := (["is_integer_within", "is_word", "are_distinct_words", "WallError", "NoDays", "NoMoments", "NoRule", "NoMoment", "is_rule", "Book", "book_text", "_law_pot", "_law_dip", "_law_rule", "_law_plan", "_law_moments", "_law_book", "_law_made", "_law_alike", "_law_near_rule", "_law_near", "_law_same", "_law_right", "ACTIONS", "MOMENTS", "MOST_ACTIONS", "MOST_DAYS"] : List PySem.Str)
theorem run (w : World) : HandSHeadRun.RunEq R (PySem.W.view R.prog [32]) hk ob 9000 loose w := by
  intro os
  kernel_rfl
end K04

set_option maxHeartbeats 200000
namespace K04
open PySem PySem.Spec PyProof.Rows L2
section
variable {P : Program} {w : World} {K : PySem.W.Frag} {mg : Str → Option Value} {base : Heap}
/-! ### checks -/
def sp_is_integer_within (K : PySem.W.Frag) : Sp := fun vs H Q _ => ∃ n lo hi : Int, vs = [.int n, .int lo, .int hi] ∧ Q (.bl (decide (lo ≤ n) && decide (n ≤ hi))) H
set_option maxHeartbeats 2000000 in
theorem ok_is_integer_within (T : Txt K mg) {fd : FuncData} (F : FunD K d_is_integer_within.name d_is_integer_within.qual d_is_integer_within.params d_is_integer_within.body d_is_integer_within.scope (d_is_integer_within.dvs K) (d_is_integer_within.kws K) (He.fAd K d_is_integer_within.at_) fd) : FnOk P w K mg base C8.CX0 1 (He.fAd K d_is_integer_within.at_) fd ["value", "low", "high"] (sp_is_integer_within K) := by
  refine F.ok sc_is_integer_within (fun vs H Q E h => ?_) (fun cdv A outer s H vs Q E hr h => ?_)
  · obtain ⟨n, lo, hi, rfl, _⟩ := h
    rfl
  · have hu := L2.hu_of hr
    obtain ⟨n, lo, hi, rfl, q⟩ := h
    refine ⟨_, (PSs.nox ((pss_one (ps_ret (pe_and (pe_callB (My.isiK (K := K) rfl) (by rfl) T.isinstance (by decide +kernel) (pa_cons (pv 0) (pa_cons (pe_bltn (v := .ty "int") (u := .type "int") rfl T.int (by decide +kernel) rfl) pa_nil))) (pe_and (pe_not (pe_callB (My.isiK (K := K) rfl) (by rfl) T.isinstance (by decide +kernel) (pa_cons (pv 0) (pa_cons (pe_bltn (v := .ty "bool") (u := .type "bool") rfl T.bool (by decide +kernel) rfl) pa_nil)))) (pe_one (pe_chain op_le op_le (pv 1) (pv 0) (pv 2))))))))), ?_⟩
    refine ⟨_, rfl, _, _, _, _, _, rfl, .ty "int", .base (.int n), L2.kit_ty (by decide +kernel), true, rfl, ?_⟩
    refine L2.iteT ?_
    refine ⟨_, rfl, _, _, _, _, _, rfl, .ty "bool", .base (.int n), L2.kit_ty (by decide +kernel), false, rfl, true, rfl, ?_⟩
    refine L2.iteT ?_
    refine ⟨_, rfl, _, rfl, _, _, rfl, rfl, _, rfl, ?_⟩
    refine L2.ite2 (fun c => ?_) (fun c => ?_)
    · refine ⟨_, rfl, _, _, rfl, rfl, ?_⟩
      rw [c] at q
      exact q
    · have e : decide (lo ≤ n) = false := by simpa using c
      rw [e] at q
      exact q
theorem c_is_integer_within (T : Txt K mg) : C8.Cal P w K mg base 1 "is_integer_within" (sp_is_integer_within K) [] := by
  obtain ⟨fd, F⟩ := T.f_is_integer_within
  exact ⟨_, fd, _, _, ok_is_integer_within T F, T.g_is_integer_within, F.kp, F.bindsN (fun _ _ _ _ _ _ us hl => match us, hl with | [_, _, _], _ => rfl), .nil⟩
def sp_is_truth (K : PySem.W.Frag) : Sp := fun vs H Q _ => ∃ b : Bool, vs = [.bl b] ∧ Q (.bl true) H
def sp_is_word (K : PySem.W.Frag) : Sp := fun vs H Q _ => ∃ (x : Str) (a : Addr) (ws : List Str), vs = [.str x, .ref a] ∧ SqT K H a (ws.map V.str) ∧ Q (.bl (decide (x ∈ ws))) H
set_option maxHeartbeats 2000000 in
theorem ok_is_word (T : Txt K mg) {fd : FuncData} (F : FunD K d_is_word.name d_is_word.qual d_is_word.params d_is_word.body d_is_word.scope (d_is_word.dvs K) (d_is_word.kws K) (He.fAd K d_is_word.at_) fd) : FnOk P w K mg base C8.CX0 1 (He.fAd K d_is_word.at_) fd ["value", "words"] (sp_is_word K) := by
  refine F.ok sc_is_word (fun vs H Q E h => ?_) (fun cdv A outer s H vs Q E hr h => ?_)
  · obtain ⟨x, a, ws, rfl, _⟩ := h
    rfl
  · have hu := L2.hu_of hr
    obtain ⟨x, a, ws, rfl, hS, q⟩ := h
    refine ⟨_, (PSs.nox ((pss_one (ps_ret (pe_and (pe_callB (My.isiK (K := K) rfl) (by rfl) T.isinstance (by decide +kernel) (pa_cons (pv 0) (pa_cons (pe_bltn (v := .ty "str") (u := .type "str") rfl T.str (by decide +kernel) rfl) pa_nil))) (pe_one (pe_cmpR (My.in_seqK (K := K) rfl) (pv 0) (pv 1) (by rfl)))))))), ?_⟩
    refine ⟨_, rfl, _, _, _, _, _, rfl, .ty "str", .base (.str x), L2.kit_ty (by decide +kernel), true, rfl, ?_⟩
    refine L2.iteT ?_
    refine ⟨_, rfl, _, rfl, a, _, rfl, .inr hS, rfl, My.all_flat_str ws, ?_⟩
    show Q (.bl (if false = true then _ else inV (.str x) (ws.map V.str))) H
    rw [if_neg Bool.false_ne_true, My.inV_str]
    exact q
theorem c_is_word (T : Txt K mg) : C8.Cal P w K mg base 1 "is_word" (sp_is_word K) [] := by
  obtain ⟨fd, F⟩ := T.f_is_word
  exact ⟨_, fd, _, _, ok_is_word T F, T.g_is_word, F.kp, F.bindsN (fun _ _ _ _ _ _ us hl => match us, hl with | [_, _], _ => rfl), .nil⟩
end
end K04

namespace K04
open PySem PySem.Spec PyProof.Rows L2 My
/-! ### books -/
abbrev acts : List Str := ["free", "full", "off", "code", "void", "look", "lock"]
abbrev moms : List Str := ["given", "laid", "left", "opened", "taken", "gone", "late", "power"]
abbrev RuleL := List Str
def GoodRule (r : RuleL) : Prop := r.length ≤ 6 ∧ ∀ x ∈ r, x ∈ acts
/-- a rule as it stands: a tuple of texts -/
def RuleAt (K : PySem.W.Frag) (H : Hp) (a : Addr) (r : RuleL) : Prop := SqT K H a (r.map V.str)
def bkf (d : Int) (t : Addr) : List (Str × V) := [("_days", V.int d), ("_rules", V.ref t)]
/-- a book of d days with these rules -/
def BookAt (K : PySem.W.Frag) (H : Hp) (b : Addr) (d : Int) (rs : List RuleL) : Prop := ∃ (dx t : Addr) (as : List Addr), H b = some (.ins (He.ga K "Book") dx (bkf d t)) ∧ SqT K H t (as.map V.ref) ∧ Paired (RuleAt K H) as rs ∧ rs.length = 8
theorem RuleAt.but {K : PySem.W.Frag} {xs : List Addr} {H H' : Hp} {a : Addr} {r : RuleL} (s : But xs H H') (n : a ∉ xs) (h : RuleAt K H a r) : RuleAt K H' a r := s.tup n h
theorem paired_map {α β : Type} {F G : α → β → Prop} : ∀ {l : List α} {m : List β}, (∀ a b, a ∈ l → F a b → G a b) → Paired F l m → Paired G l m
  | _, _, _, .nil => .nil
  | _, _, h, .cons r t => .cons (h _ _ (List.mem_cons_self ..) r) (paired_map (fun a b m => h a b (List.mem_cons_of_mem _ m)) t)
theorem paired_get {α β : Type} {F : α → β → Prop} : ∀ {l : List α} {m : List β} {i : Nat} {b : β}, Paired F l m → m[i]? = some b → ∃ a, l[i]? = some a ∧ F a b
  | _, _, _, _, .nil, e => by simp at e
  | _, _, 0, _, .cons r _, e => by simp at e; subst e; exact ⟨_, rfl, r⟩
  | _, _, i + 1, _, .cons _ t, e => by
    obtain ⟨a, h1, h2⟩ := paired_get t (by simpa using e)
    exact ⟨a, by simpa using h1, h2⟩
theorem BookAt.same {K : PySem.W.Frag} {H H' : Hp} {b : Addr} {d : Int} {rs : List RuleL} (s : Same H H') (h : BookAt K H b d rs) : BookAt K H' b d rs := by
  obtain ⟨dx, t, as, h1, h2, h3, h4⟩ := h
  exact ⟨dx, t, as, s _ _ h1, same_tup s h2, paired_map (fun a b _ r => same_tup s r) h3, h4⟩
section
variable {P : Program} {w : World} {K : PySem.W.Frag} {mg : Str → Option Value} {base : Heap}
def sp_is_rule (K : PySem.W.Frag) : Sp := fun vs H Q _ => ∃ (a : Addr) (r : RuleL), vs = [.ref a] ∧ RuleAt K H a r ∧ GoodRule r ∧ ∀ H', Same H H' → Q (.bl true) H'
set_option maxHeartbeats 2000000 in
theorem ok_is_rule (T : Txt K mg) {fd : FuncData} (F : FunD K d_is_rule.name d_is_rule.qual d_is_rule.params d_is_rule.body d_is_rule.scope (d_is_rule.dvs K) (d_is_rule.kws K) (He.fAd K d_is_rule.at_) fd) : FnOk P w K mg base C8.CX0 2 (He.fAd K d_is_rule.at_) fd ["value"] (sp_is_rule K) := by
  obtain ⟨t_MOST_ACTIONS, g_MOST_ACTIONS⟩ := T.g_MOST_ACTIONS
  have c_is_word := c_is_word (P := P) (w := w) (base := base) T
  refine F.ok sc_is_rule (fun vs H Q E h => ?_) (fun cdv A outer s H vs Q E hr h => ?_)
  · obtain ⟨a, r, rfl, _⟩ := h
    rfl
  · have hu := L2.hu_of hr
    obtain ⟨a, r, rfl, hS, hg, q⟩ := h
    refine ⟨_, (PSs.nox ((pss_cons (ps_if (PW.pt (pw_or (pt_not (pt_val (pe_callB (My.isiK (K := K) rfl) (by rfl) T.isinstance (by decide +kernel) (pa_cons (pv 0) (pa_cons (pe_bltn (v := .ty "tuple") (u := .type "tuple") rfl T.tuple (by decide +kernel) rfl) pa_nil))))) (pw_or1 (pt_cmpR op_gt (pe_callB (My.len_seqK (K := K) rfl) (by rfl) T.len (by decide +kernel) (pa_cons (pv 0) pa_nil)) (pe_glob (v := .int 6) rfl g_MOST_ACTIONS ⟨_, rfl⟩) (nomark _)))))
  (pss_one (ps_ret pe_bl))
  pss_nil)
  (pss_one (ps_ret (pe_callB (My.allK (K := K) rfl rfl) (by rfl) T.all (by decide +kernel) (pa_cons (pe_lc (own := [("action", 1)]) (g := (gName 1)) (tt := tYes) (by rfl) sc_is_rule.nd (My.pi_tupK (K := K) rfl (pv 0)) (blkOk_by (N := N_is_rule) (sc := defScope s_is_rule) (by decide +kernel)) (fun _ _ _ _ _ => (pg_name (i := 1) sc_is_rule.nd rfl (by first | exact Or.inl rfl | exact Or.inr rfl))) (fun _ _ _ _ _ => pts_nil) (fun _ _ _ _ _ => (C8.pe_c c_is_word hr (by decide) rfl (pa_cons (pv 1) (pa_cons (pe_glob (v := .ref (He.ga K "ACTIONS")) rfl T.g_ACTIONS rfl) pa_nil))))) pa_nil))))))), ?_⟩
    refine ⟨_, rfl, _, _, _, _, _, rfl, .ty "tuple", tyx_tup hS, L2.kit_ty (by decide +kernel), true, rfl, ?_⟩
    refine L2.iteF ?_
    refine ⟨_, rfl, a, _, rfl, .inr hS, _, _, rfl, rfl, _, rfl, ?_⟩
    have e : decide (((r.map V.str).length : Int) > 6) = false := decide_eq_false (by rw [List.length_map]; have := hg.1; omega)
    rw [e]
    refine L2.iteF ?_
    refine ⟨_, rfl, a, rfl, ⟨_, hS⟩, fun D hD => lc_tup (K := K) (a := a) (xs := r.map V.str) (fun i H' => Same H H' ∧ H' D = some (.lst ((List.replicate i true).map V.bl))) ⟨same_new hD, upd_same⟩ (fun i H' _ p => same_tup p.1 hS) ?_ ?_⟩
    · rintro i y H2 hi ⟨s2, hD2⟩
      obtain ⟨z, hz, rfl⟩ := map_get hi
      have hlt : i < r.length := (List.getElem?_eq_some_iff.mp hz).1
      have hm : z ∈ acts := hg.2 z (List.mem_of_getElem? hz)
      refine ⟨rfl, ?_⟩
      refine ⟨_, rfl, z, _, acts, rfl, T.tup_ACTIONS _, ?_⟩
      rw [decide_eq_true hm]
      refine ⟨_, hD2, ?_, same_upd s2 hD, ?_⟩
      · rw [List.length_map, List.length_replicate]
        have := hg.1
        exact Nat.lt_of_lt_of_le hlt (Nat.le_trans this (by decide))
      · rw [upd_same, List.replicate_succ', List.map_append]
        rfl
    · rintro H2 ⟨s2, hD2⟩
      refine ⟨D, _, rfl, SqL.of hD2, ?_⟩
      have e2 : (List.replicate (r.map V.str).length true).all id = true := List.all_eq_true.mpr fun x hx => (List.mem_replicate.mp hx).2
      rw [e2]
      exact q _ s2
theorem c_is_rule (T : Txt K mg) : C8.Cal P w K mg base 2 "is_rule" (sp_is_rule K) [] := by
  obtain ⟨fd, F⟩ := T.f_is_rule
  exact ⟨_, fd, _, _, ok_is_rule T F, T.g_is_rule, F.kp, F.bindsN (fun _ _ _ _ _ _ us hl => match us, hl with | [_], _ => rfl), .nil⟩
def sp_Book_init (K : PySem.W.Frag) : Sp := fun vs H Q _ => ∃ (p dx : Addr) (d : Int) (as : List Addr) (rs : List RuleL), vs = .ref p :: .int d :: as.map V.ref ∧ H p = some (.ins (He.ga K "Book") dx []) ∧ 1 ≤ d ∧ d ≤ 30 ∧
  Paired (RuleAt K H) as rs ∧ rs.length = 8 ∧ (∀ r ∈ rs, GoodRule r) ∧ ∀ H' t, But [p] H H' → H' p = some (.ins (He.ga K "Book") dx (bkf d t)) → H' t = some (.tup (as.map V.ref)) → Q .non H'
theorem len8 {α β : Type} {F : α → β → Prop} {as : List α} {rs : List β} (h : Paired F as rs) (e : rs.length = 8) : ∃ a0 a1 a2 a3 a4 a5 a6 a7, as = [a0, a1, a2, a3, a4, a5, a6, a7] := by
  have l : as.length = 8 := h.length.trans e
  match as, l with
  | [a0, a1, a2, a3, a4, a5, a6, a7], _ => exact ⟨a0, a1, a2, a3, a4, a5, a6, a7, rfl⟩
set_option maxHeartbeats 2000000 in
theorem ok_Book_init (T : Txt K mg) {fd : FuncData} (F : FunD K d_Book_init.name d_Book_init.qual d_Book_init.params d_Book_init.body d_Book_init.scope (d_Book_init.dvs K) (d_Book_init.kws K) (He.fAd K d_Book_init.at_) fd) : FnOk P w K mg base C8.CX0 3 (He.fAd K d_Book_init.at_) fd ["self", "days", "given", "laid", "left", "opened", "taken", "gone", "late", "power"] (sp_Book_init K) := by
  obtain ⟨t_MOST_DAYS, g_MOST_DAYS⟩ := T.g_MOST_DAYS
  have c_is_rule := c_is_rule (P := P) (w := w) (base := base) T
  have c_is_integer_within := c_is_integer_within (P := P) (w := w) (base := base) T
  refine F.ok sc_Book_init (fun vs H Q E h => ?_) (fun cdv A outer s H vs Q E hr h => ?_)
  · obtain ⟨p, dx, d, as, rs, rfl, _, _, _, h3, h4, _⟩ := h
    obtain ⟨a0, a1, a2, a3, a4, a5, a6, a7, rfl⟩ := len8 h3 h4
    rfl
  · have hu := L2.hu_of hr
    obtain ⟨p, dx, d, as, rs, rfl, hp, h1, h2, h3, h4, h5, q⟩ := h
    obtain ⟨a0, a1, a2, a3, a4, a5, a6, a7, rfl⟩ := len8 h3 h4
    refine ⟨_, (PSs.nox ((pss_cons (ps_if (pt_not (pt_val (C8.pe_c c_is_integer_within hr (by decide) rfl (pa_cons (pv 1) (pa_cons pe_int (pa_cons (pe_glob (v := .int 30) rfl g_MOST_DAYS ⟨_, rfl⟩) pa_nil))))))
  (pss_one ps_never)
  pss_nil)
  (pss_cons (ps_set (i := 10) sc_Book_init.nd rfl (by first | exact Or.inl rfl | exact Or.inr rfl) (pe_tup (pa_cons (pv 2) (pa_cons (pv 3) (pa_cons (pv 4) (pa_cons (pv 5) (pa_cons (pv 6) (pa_cons (pv 7) (pa_cons (pv 8) (pa_cons (pv 9) pa_nil))))))))))
  (pss_cons (ps_for PassesOwn.never rfl (RZ.pi_zipA (by rfl) T.zip (pa_cons (pe_glob (v := .ref (He.ga K "MOMENTS")) rfl T.g_MOMENTS rfl) (pa_cons (pv 10) pa_nil))) (My.pg_tupK (K := K) (n := 2) rfl rfl (pgs_cons (pg_name (i := 11) sc_Book_init.nd rfl (by first | exact Or.inl rfl | exact Or.inr rfl)) (pgs_cons (pg_name (i := 12) sc_Book_init.nd rfl (by first | exact Or.inl rfl | exact Or.inr rfl)) pgs_nil)))
  (pss_one (ps_if (pt_not (pt_val (C8.pe_c c_is_rule hr (by decide) rfl (pa_cons (pv 12) pa_nil))))
  (pss_one ps_never)
  pss_nil)))
  (pss_cons (ps_fld (pv 0) (pv 1) rfl)
  (pss_one (ps_fld (pv 0) (pv 10) rfl)))))))), ?_⟩
    refine ⟨_, rfl, d, 1, 30, rfl, true, by rw [decide_eq_true h1, decide_eq_true h2] <;> rfl, ?_⟩
    refine L2.iteF ?_
    refine ⟨_, rfl, _, rfl, _, rfl, _, rfl, _, rfl, _, rfl, _, rfl, _, rfl, by show 8 ≤ sizeLine; decide, fun t ht => ?_⟩
    have npt : p ≠ t := ne_of_none hp ht
    refine ⟨_, rfl, _, _, moms.map V.str, [V.ref a0, V.ref a1, V.ref a2, V.ref a3, V.ref a4, V.ref a5, V.ref a6, V.ref a7], rfl, .inr ⟨T.tup_MOMENTS _, SqT.of upd_same, ?_⟩⟩
    refine RZ.for_zipT (K := K) (xs := moms.map V.str) (ys := [V.ref a0, V.ref a1, V.ref a2, V.ref a3, V.ref a4, V.ref a5, V.ref a6, V.ref a7]) rfl (fun i σ H' => ∃ u v, σ = [some (.ref p), some (.int d), some (.ref a0), some (.ref a1), some (.ref a2), some (.ref a3), some (.ref a4), some (.ref a5), some (.ref a6), some (.ref a7), some (.ref t), u, v] ∧ Same (upd H t (.tup [V.ref a0, V.ref a1, V.ref a2, V.ref a3, V.ref a4, V.ref a5, V.ref a6, V.ref a7])) H')
      ⟨_, _, rfl, Same.refl _⟩ (fun i σ H' ⟨_, _, _, s⟩ => ⟨T.tup_MOMENTS _, same_tup s (SqT.of upd_same)⟩) ?_ ?_
    · rintro i x y T2 σ H2 hx hy ⟨u, v, rfl, s2⟩ hT2
      refine ⟨_, _, rfl, SqT.of upd_same, rfl, _, _, rfl, _, _, rfl, rfl, ?_⟩
      have hy' : ([a0, a1, a2, a3, a4, a5, a6, a7].map V.ref)[i]? = some y := hy
      obtain ⟨a, ha, rfl⟩ := map_get hy'
      obtain ⟨r, hr1, hr2⟩ : ∃ r, rs[i]? = some r ∧ RuleAt K H a r := by
        have hlt : i < rs.length := by rw [h4]; exact (List.getElem?_eq_some_iff.mp ha).1
        obtain ⟨b, hb, hR⟩ := paired_get h3 (List.getElem?_eq_getElem hlt)
        rw [ha] at hb
        cases hb
        exact ⟨_, List.getElem?_eq_getElem hlt, hR⟩
      have s3 : Same H (upd H2 T2 (.tup [x, .ref a])) := (same_new ht).trans (s2.trans (same_new hT2))
      refine ⟨_, rfl, a, r, rfl, same_tup s3 hr2, h5 r (List.mem_of_getElem? hr1), fun H3 s4 => ?_⟩
      refine ⟨true, rfl, L2.iteF ⟨_, _, rfl, s2.trans ((same_new hT2).trans s4)⟩⟩
    · rintro σ H2 ⟨u, v, rfl, s2⟩
      have hp2 : H2 p = some (.ins (He.ga K "Book") dx []) := s2 _ _ (by rw [upd_ne npt]; exact hp)
      have ht2 : H2 t = some (.tup [V.ref a0, V.ref a1, V.ref a2, V.ref a3, V.ref a4, V.ref a5, V.ref a6, V.ref a7]) := s2 _ _ upd_same
      refine ⟨_, rfl, _, rfl, p, _, dx, _, rfl, hp2, T.cl_Book, T.no_Book__days, (by show 0 < 1000; decide), ?_⟩
      refine ⟨_, rfl, _, rfl, p, _, dx, _, rfl, upd_same, T.cl_Book, T.no_Book__rules, (by show 1 < 1000; decide), ?_⟩
      refine q _ t ?_ upd_same ?_
      · exact (((But.of ((same_new ht).trans s2)).put (.inr (by simp))).put (.inr (by simp)))
      · rw [upd_ne npt.symm, upd_ne npt.symm]
        exact ht2
theorem c_Book_init (T : Txt K mg) : C8.Mak P w K mg base 3 "Book" (He.ga K "Book") (sp_Book_init K) [] := by
  obtain ⟨fd, F⟩ := T.f_Book_init
  obtain ⟨ds, rd, bd⟩ := F.binds1 (ps := ["self", "days", "given", "laid", "left", "opened", "taken", "gone", "late", "power"]) 10 8 (by intro z; cases z) rfl (fun T kV doc pm an cdv ct us its hl hi => match us, its, hl, hi with | [_, _, _, _, _, _, _, _, _, _], [_, _, _, _, _, _, _, _], _, _ => ⟨_, rfl, rfl⟩)
  exact ⟨_, fd, _, _, T.mk_Book, ok_Book_init T F, T.g_Book, bd, rd⟩
def sp_Book_days (K : PySem.W.Frag) : Sp := fun vs H Q _ => ∃ (b : Addr) (d : Int) (rs : List RuleL), vs = [.ref b] ∧ BookAt K H b d rs ∧ Q (.int d) H
set_option maxHeartbeats 2000000 in
theorem ok_Book_days (T : Txt K mg) {fd : FuncData} (F : FunD K d_Book_days.name d_Book_days.qual d_Book_days.params d_Book_days.body d_Book_days.scope (d_Book_days.dvs K) (d_Book_days.kws K) (He.fAd K d_Book_days.at_) fd) : FnOk P w K mg base C8.CX0 1 (He.fAd K d_Book_days.at_) fd ["self"] (sp_Book_days K) := by
  refine F.ok sc_Book_days (fun vs H Q E h => ?_) (fun cdv A outer s H vs Q E hr h => ?_)
  · obtain ⟨b, d, rs, rfl, _⟩ := h
    rfl
  · have hu := L2.hu_of hr
    obtain ⟨b, d, rs, rfl, ⟨dx, t, as, hb, _⟩, q⟩ := h
    refine ⟨_, (PSs.nox ((pss_one (ps_ret (My.pe_fldK (K := K) rfl (pv 0) rfl))))), ?_⟩
    exact ⟨_, rfl, b, _, dx, _, _, rfl, hb, T.cl_Book, T.no_Book__days, rfl, q⟩
theorem c_Book_days (T : Txt K mg) : C8.Met P w K mg base 1 (He.ga K "Book") "days" (sp_Book_days K) [] := by
  obtain ⟨fd, F⟩ := T.f_Book_days
  exact ⟨_, fd, _, _, T.cl_Book, T.m_Book_days, ok_Book_days T F, F.bindsN (fun _ _ _ _ _ _ us hl => match us, hl with | [_], _ => rfl), .nil⟩
/-- the rule of the i-th moment -/
def sp_Book_rule (K : PySem.W.Frag) : Sp := fun vs H Q _ => ∃ (H0 : Hp) (b : Addr) (d : Int) (rs : List RuleL) (m : Str) (i : Nat) (r : RuleL), vs = [.ref b, .str m] ∧ Same H0 H ∧ BookAt K H0 b d rs ∧ moms[i]? = some m ∧ rs[i]? = some r ∧ ∀ a, RuleAt K H0 a r → Q (.ref a) H
set_option maxHeartbeats 2000000 in
theorem ok_Book_rule (T : Txt K mg) {fd : FuncData} (F : FunD K d_Book_rule.name d_Book_rule.qual d_Book_rule.params d_Book_rule.body d_Book_rule.scope (d_Book_rule.dvs K) (d_Book_rule.kws K) (He.fAd K d_Book_rule.at_) fd) : FnOk P w K mg base C8.CX0 2 (He.fAd K d_Book_rule.at_) fd ["self", "moment"] (sp_Book_rule K) := by
  have c_is_word := c_is_word (P := P) (w := w) (base := base) T
  refine F.ok sc_Book_rule (fun vs H Q E h => ?_) (fun cdv A outer s H vs Q E hr h => ?_)
  · obtain ⟨H0, b, d, rs, m, i, r, rfl, _⟩ := h
    rfl
  · have hu := L2.hu_of hr
    obtain ⟨H0, b, d, rs, m, i, r, rfl, s0, ⟨dx, t, as, hb0, ht0, hrs, hl⟩, hm, hr1, q⟩ := h
    have hb := s0 _ _ hb0
    have ht := same_tup s0 ht0
    refine ⟨_, (PSs.nox ((pss_cons (ps_if (pt_not (pt_val (C8.pe_c c_is_word hr (by decide) rfl (pa_cons (pv 1) (pa_cons (pe_glob (v := .ref (He.ga K "MOMENTS")) rfl T.g_MOMENTS rfl) pa_nil)))))
  (pss_one ps_never)
  pss_nil)
  (pss_one (ps_ret (pe_ix (My.ix_tupK (K := K) rfl) (My.pe_fldK (K := K) rfl (pv 0) rfl) (My.pe_bmK (K := K) rfl PySem.F.plainAttrs_tuple PySem.F.slot_tuple_index PySem.F.type_tuple_index (My.tup_indexK (K := K) rfl) (pe_glob (v := .ref (He.ga K "MOMENTS")) rfl T.g_MOMENTS rfl) (pa_cons (pv 1) pa_nil)) (fun _ _ => rfl))))))), ?_⟩
    have hmem : m ∈ moms := List.mem_of_getElem? hm
    refine ⟨_, rfl, m, _, moms, rfl, T.tup_MOMENTS _, true, by rw [decide_eq_true hmem], ?_⟩
    refine L2.iteF ?_
    obtain ⟨a, ha, hR⟩ := paired_get hrs hr1
    have first : ∀ j, j < i → moms[j]? ≠ some m := by
      intro j hj e
      have hn : moms.Nodup := by decide +kernel
      exact absurd (L2.nd_ix hn e hm) (by omega)
    refine ⟨_, rfl, b, _, dx, _, _, rfl, hb, T.cl_Book, T.no_Book__rules, rfl, T.ty_MOMENTS _, _, rfl, _, moms, m, i, rfl, rfl, T.tup_MOMENTS _, hm, first, ?_⟩
    refine ⟨t, _, _, _, rfl, rfl, ht, atI_nat (by rw [List.getElem?_map, ha]; rfl), q a hR⟩
theorem c_Book_rule (T : Txt K mg) : C8.Met P w K mg base 2 (He.ga K "Book") "rule" (sp_Book_rule K) [] := by
  obtain ⟨fd, F⟩ := T.f_Book_rule
  exact ⟨_, fd, _, _, T.cl_Book, T.m_Book_rule, ok_Book_rule T F, F.bindsN (fun _ _ _ _ _ _ us hl => match us, hl with | [_, _], _ => rfl), .nil⟩
end
end K04

namespace K04
open PySem PySem.Spec PyProof.Rows L2 My
theorem lt_line {n : Nat} (h : n ≤ 1000000) : n < sizeLine := Nat.lt_of_le_of_lt h (by decide)
end K04

namespace K04
open PySem PySem.Spec PyProof.Rows L2 My
theorem take_more {α : Type} {l : List α} {i : Nat} {x : α} (h : l[i]? = some x) : l.take (i + 1) = l.take i ++ [x] := by
  rw [List.take_add_one, h]
  rfl
theorem paired_at {α β : Type} {F : α → β → Prop} : ∀ {l : List α} {m : List β} {i : Nat} {a : α}, Paired F l m → l[i]? = some a → ∃ b, m[i]? = some b ∧ F a b
  | _, _, _, _, .nil, e => by simp at e
  | _, _, 0, _, .cons r _, e => by simp at e; subst e; exact ⟨_, rfl, r⟩
  | _, _, i + 1, _, .cons _ t, e => by
    obtain ⟨a, h1, h2⟩ := paired_at t (by simpa using e)
    exact ⟨a, by simpa using h1, h2⟩
end K04

namespace K04
open PySem PySem.Spec PyProof.Rows L2 My
/-! ### what laws of books need, without boxes -/
def at_ (rs : List RuleL) (i : Nat) : RuleL := (rs[i]?).getD []
structure GoodB (rs : List RuleL) : Prop where
  len : rs.length = 8
  good : ∀ r ∈ rs, GoodRule r
theorem GoodB.get {rs : List RuleL} (h : GoodB rs) {i : Nat} (hi : i < 8) : rs[i]? = some (at_ rs i) := by
  have hl : i < rs.length := by rw [h.len]; exact hi
  unfold at_
  rw [List.getElem?_eq_getElem hl]
  rfl
theorem GoodB.six {rs : List RuleL} (h : GoodB rs) {i : Nat} (hi : i < 8) : (at_ rs i).length ≤ 6 := (h.good _ (List.mem_of_getElem? (h.get hi))).1
end K04

namespace K04
open PySem PySem.Spec PyProof.Rows L2 My StX
/-! ### books by another rule, books by name -/
section
variable {P : Program} {w : World} {K : PySem.W.Frag} {mg : Str → Option Value} {base : Heap}
theorem paired_set {α β : Type} {F : α → β → Prop} : ∀ {l : List α} {m : List β} {a : α} {b : β} (i : Nat), Paired F l m → F a b → Paired F (l.set i a) (m.set i b)
  | _, _, _, _, _, .nil, _ => .nil
  | _, _, _, _, 0, .cons _ t, h => .cons h t
  | _, _, _, _, i + 1, .cons r t, h => .cons r (paired_set i t h)
theorem ixN_nat {n i : Nat} (h : i < n) : ixN n (i : Int) = some i := by
  unfold ixN
  rw [if_pos (by omega), if_pos (by omega), Int.toNat_natCast]
def sp_Book_with_rule (K : PySem.W.Frag) : Sp := fun vs H Q _ => ∃ (b a : Addr) (d : Int) (rs : List RuleL) (m : Str) (i : Nat) (r : RuleL), vs = [.ref b, .str m, .ref a] ∧ BookAt K H b d rs ∧ moms[i]? = some m ∧ RuleAt K H a r ∧ GoodRule r ∧ (∀ r ∈ rs, GoodRule r) ∧ 1 ≤ d ∧ d ≤ 30 ∧
  ∀ H' p, H p = none → Same H H' → BookAt K H' p d (rs.set i r) → Q (.ref p) H'
set_option maxHeartbeats 2000000 in
theorem ok_Book_with_rule (T : Txt K mg) {fd : FuncData} (F : FunD K d_Book_with_rule.name d_Book_with_rule.qual d_Book_with_rule.params d_Book_with_rule.body d_Book_with_rule.scope (d_Book_with_rule.dvs K) (d_Book_with_rule.kws K) (He.fAd K d_Book_with_rule.at_) fd) : FnOk P w K mg base C8.CX0 5 (He.fAd K d_Book_with_rule.at_) fd ["self", "moment", "rule"] (sp_Book_with_rule K) := by
  have c_Book_init := c_Book_init (P := P) (w := w) (base := base) T
  have c_is_word := c_is_word (P := P) (w := w) (base := base) T
  refine F.ok sc_Book_with_rule (fun vs H Q E h => ?_) (fun cdv A outer s H vs Q E hr h => ?_)
  · obtain ⟨b, a, d, rs, m, i, r, rfl, _⟩ := h
    rfl
  · have hu := L2.hu_of hr
    obtain ⟨b, a, d, rs, m, i, r, rfl, ⟨dxb, t, as, hb, ht, hrs, hl⟩, hm, hR, hg, hgs, h1, h2, q⟩ := h
    refine ⟨_, (PSs.nox ((pss_cons (ps_if (pt_not (pt_val (C8.pe_c c_is_word hr (by decide) rfl (pa_cons (pv 1) (pa_cons (pe_glob (v := .ref (He.ga K "MOMENTS")) rfl T.g_MOMENTS rfl) pa_nil)))))
  (pss_one ps_never)
  pss_nil)
  (pss_cons (ps_set (i := 3) sc_Book_with_rule.nd rfl (by first | exact Or.inl rfl | exact Or.inr rfl) (pe_callTy (My.list_ofK (K := K) rfl) (by rfl) T.list (by decide +kernel) (pa_cons (My.pe_fldK (K := K) rfl (pv 0) rfl) pa_nil)))
  (pss_cons (ps_asg (pv 2) (pg_sub (pv 3) (My.pe_bmK (K := K) rfl PySem.F.plainAttrs_tuple PySem.F.slot_tuple_index PySem.F.type_tuple_index (My.tup_indexK (K := K) rfl) (pe_glob (v := .ref (He.ga K "MOMENTS")) rfl T.g_MOMENTS rfl) (pa_cons (pv 1) pa_nil)) set_list))
  (pss_one (ps_ret (My.pe_mkS2 c_Book_init hr (by decide) rfl (pa_cons (My.pe_fldK (K := K) rfl (pv 0) rfl) (My.pa_starK (K := K) rfl (pv 3) pa_nil)))))))))), ?_⟩
    have hmem : m ∈ moms := List.mem_of_getElem? hm
    have hi8 : i < 8 := (List.getElem?_eq_some_iff.mp hm).1
    refine ⟨_, rfl, m, _, moms, rfl, T.tup_MOMENTS _, true, by rw [decide_eq_true hmem], ?_⟩
    refine L2.iteF ?_
    have first : ∀ j, j < i → moms[j]? ≠ some m := by
      intro j hj e
      have hn : moms.Nodup := by decide +kernel
      exact absurd (L2.nd_ix hn e hm) (by omega)
    refine ⟨_, rfl, b, _, dxb, _, _, rfl, hb, T.cl_Book, T.no_Book__rules, rfl, t, _, rfl, .inr ht, fun l hl0 => ?_⟩
    have hal : as.length = 8 := hrs.length.trans hl
    have es : (as.map V.ref).set i (.ref a) = (as.set i a).map V.ref := by rw [List.map_set]
    refine ⟨_, rfl, _, rfl, T.ty_MOMENTS _, _, rfl, _, moms, m, i, rfl, rfl, T.tup_MOMENTS _, hm, first, l, _, _, i, rfl, rfl, upd_same, ixN_nat (by rw [List.length_map, hal]; exact hi8), ?_⟩
    rw [es]
    have s0 : Same H (upd (upd H l (.lst (as.map V.ref))) l (.lst ((as.set i a).map V.ref))) := same_upd (same_new hl0) hl0
    have hl3 : upd (upd H l (.lst (as.map V.ref))) l (.lst ((as.set i a).map V.ref)) l = some (.lst ((as.set i a).map V.ref)) := upd_same
    generalize upd (upd H l (.lst (as.map V.ref))) l (.lst ((as.set i a).map V.ref)) = H1 at s0 hl3
    refine ⟨_, rfl, b, _, dxb, _, _, rfl, s0 _ _ hb, T.cl_Book, T.no_Book__days, rfl, _, rfl, l, _, rfl, .inr (SqL.of hl3), ?_⟩
    intro x dx nx ndx nex
    have s1 : Same H1 (upd (upd H1 dx (.own x)) x (.ins (He.ga K "Book") dx [])) := (same_new ndx).trans (same_upd (Same.refl _) (by rw [upd_ne nex.symm]; exact nx))
    have s2 := s0.trans s1
    refine ⟨x, dx, d, as.set i a, rs.set i r, by rw [List.append_nil, List.append_nil], upd_same, h1, h2, paired_set i (paired_map (fun a r _ hr => same_tup s2 hr) hrs) (same_tup s2 hR), by rw [List.length_set]; exact hl, fun y hy => ?_, fun H' t2 bt hx ht2 => ⟨rfl, ?_⟩⟩
    · rcases List.mem_or_eq_of_mem_set hy with hy | hy
      · exact hgs y hy
      · rw [hy]; exact hg
    have s3 : Same H1 H' := fun c o e => bt c o (by simpa using ne_of_none e nx) (s1 _ _ e)
    have s4 := s0.trans s3
    exact q _ x (s0.free nx) s4 ⟨dx, t2, _, hx, SqT.of ht2, paired_set i (paired_map (fun a r _ hr => same_tup s4 hr) hrs) (same_tup s4 hR), by rw [List.length_set]; exact hl⟩
theorem c_Book_with_rule (T : Txt K mg) : C8.Met P w K mg base 5 (He.ga K "Book") "with_rule" (sp_Book_with_rule K) [] := by
  obtain ⟨fd, F⟩ := T.f_Book_with_rule
  exact ⟨_, fd, _, _, T.cl_Book, T.m_Book_with_rule, ok_Book_with_rule T F, F.bindsN (fun _ _ _ _ _ _ us hl => match us, hl with | [_, _, _], _ => rfl), .nil⟩
def gB {α : Type} (us its ws : List α) : List α := us ++ ws ++ its.drop 6
theorem kn_Book_init (T : Txt K mg) : My.MakN P w K mg base 3 "Book" (He.ga K "Book") (sp_Book_init K) 4 ["opened", "taken", "gone"] (fun vs zs => gB vs (d_Book_init.dvs K) zs) := by
  obtain ⟨fd, F⟩ := T.f_Book_init
  obtain ⟨its, hb⟩ := F.kbindsD (ps := ["self", "days", "given", "laid", "left", "opened", "taken", "gone", "late", "power"]) 5 ["opened", "taken", "gone"] (fun us its ws => gB us its ws) (by intro z; cases z)
    (fun r1 r2 r3 => (r1.append r3).append (My.vals_drop 6 r2))
    (fun T kV doc pm an cdv ct us its ws h1 h2 h3 => match us, its, ws, h1, h2, h3 with | [_, _, _, _, _], [_, _, _, _, _, _, _, _], [_, _, _], _, _, _ => ⟨_, rfl, rfl⟩)
  exact ⟨_, fd, _, _, T.mk_Book, ok_Book_init T F, T.g_Book, hb⟩
end
end K04

namespace K04
open PySem PySem.Spec PyProof.Rows L2 My
/-! ### springs: where a law's draws come from -/
/-- at a: a spring that was drawn from at most n times -/
def SpringAt (H : Hp) (a : Addr) (n : Nat) : Prop := ∃ w0 w1 w2 : Int, H a = some (.lst [.int w0, .int w1, .int w2]) ∧ w1.natAbs < 2 ^ 200 ∧ 0 ≤ w2 ∧ w2 ≤ (n : Int)
theorem SpringAt.mono {H : Hp} {a : Addr} {n m : Nat} (h : SpringAt H a n) (e : n ≤ m) : SpringAt H a m := by
  obtain ⟨w0, w1, w2, h1, h2, h3, h4⟩ := h
  exact ⟨w0, w1, w2, h1, h2, h3, by omega⟩
theorem pow_lt {x : Int} {k n : Nat} (h : x.natAbs < 2 ^ k) (hn : n ≠ 0) : (x ^ n).natAbs < 2 ^ (k * n) := by
  rw [Int.natAbs_pow, Nat.pow_mul]
  exact Nat.pow_lt_pow_left h hn
theorem two_le {a b x : Nat} (h : x < 2 ^ a) (e : a ≤ b) : x < 2 ^ b := Nat.lt_of_lt_of_le h (Nat.pow_le_pow_right (by decide) e)
theorem add_lt {x y : Int} {k : Nat} (h1 : x.natAbs < 2 ^ k) (h2 : y.natAbs < 2 ^ k) : (x + y).natAbs < 2 ^ (k + 1) := by
  have h3 := Int.natAbs_add_le x y
  have h4 : 2 ^ (k + 1) = 2 ^ k + 2 ^ k := by rw [Nat.pow_succ]; omega
  omega
theorem emod_lt2 {x m : Int} {k : Nat} (h0 : 0 < m) (h : m.natAbs < 2 ^ k) : (x % m).natAbs < 2 ^ k := by
  have h1 := Int.emod_nonneg x (show m ≠ 0 by omega)
  have h2 := Int.emod_lt_of_pos x h0
  omega
set_option exponentiation.threshold 20000 in
theorem powW {x j : Int} {k : Nat} (h : x.natAbs < 2 ^ k) (hk : k ≤ 10000) (h1 : 0 ≤ j) (h2 : j ≤ 100) : CPowW x j := ⟨h1, h2, two_le h hk⟩
theorem ten_pow {j : Int} (h1 : 0 ≤ j) (h2 : j ≤ 100) : CPowW 10 j := powW (k := 4) (by decide) (by decide) h1 h2
section
variable {P : Program} {w : World} {K : PySem.W.Frag} {mg : Str → Option Value} {base : Heap}
def sp_law_drop (K : PySem.W.Frag) : Sp := fun vs H Q _ => ∃ (a : Addr) (n : Nat) (many : Int), vs = [.ref a, .int many] ∧ SpringAt H a n ∧ n < 2 ^ 100 ∧ 0 < many ∧ many < 2 ^ 100 ∧
  ∀ H' k, But [a] H H' → SpringAt H' a (n + 1) → 0 ≤ k → k < many → Q (.int k) H'
def sp_law_spring (K : PySem.W.Frag) : Sp := fun vs H Q _ => ∃ (a : Addr) (ns : List Int) (k : Int), vs = [.ref a, .int k] ∧ SqL K H a (ns.map V.int) ∧ 0 ≤ k ∧ k < 100 ∧
  ∀ H' p, H p = none → Same H H' → SpringAt H' p 1 → Q (.ref p) H'
end
end K04

namespace K04
open PySem PySem.Spec PyProof.Rows L2 My
theorem SpringAt.put {H : Hp} {a b : Addr} {n : Nat} {o : HO} (h : SpringAt H a n) (ne : a ≠ b) : SpringAt (upd H b o) a n := by
  obtain ⟨w0, w1, w2, h1, h2⟩ := h
  exact ⟨w0, w1, w2, by rw [upd_ne ne]; exact h1, h2⟩
theorem SpringAt.same {H H' : Hp} {a : Addr} {n : Nat} (s : Same H H') (h : SpringAt H a n) : SpringAt H' a n := by
  obtain ⟨w0, w1, w2, h1, h2⟩ := h
  exact ⟨w0, w1, w2, s _ _ h1, h2⟩
/-- a list of other things stands apart from a spring -/
theorem SpringAt.ne {H : Hp} {a b : Addr} {n : Nat} {o : HO} (h : SpringAt H a n) (hb : H b = some o) (no : ∀ i r, o ≠ .lst (.int i :: r)) : a ≠ b := by
  obtain ⟨w0, w1, w2, h1, _⟩ := h
  exact ne_of h1 hb fun z => no _ _ z.symm
theorem strs_no (ws : List Str) (i : Int) (r : List V) : HO.lst (ws.map V.str) ≠ .lst (.int i :: r) := by
  intro z
  cases ws with
  | nil => cases z
  | cons x l => cases z
theorem refs_no (ws : List Addr) (i : Int) (r : List V) : HO.lst (ws.map V.ref) ≠ .lst (.int i :: r) := by
  intro z
  cases ws with
  | nil => cases z
  | cons x l => cases z
theorem tup_no (ws : List V) (i : Int) (r : List V) : HO.tup ws ≠ .lst (.int i :: r) := fun z => by cases z
/-- a tuple stands as it was behind a change of a spring -/
theorem But.tupS {K : PySem.W.Frag} {H H' : Hp} {a b : Addr} {n : Nat} {xs : List V} (s : But [a] H H') (h : SpringAt H a n) (t : SqT K H b xs) : SqT K H' b xs := by
  obtain ⟨w0, w1, w2, h1, _⟩ := h
  rcases t with (t | ⟨o, t⟩) | t
  · exact .inl (.inl (s _ _ (by simpa using (ne_of t h1 (fun z => by cases z))) t))
  · exact .inl (.inr ⟨o, s _ _ (by simpa using (ne_of t h1 (fun z => by cases z))) t⟩)
  · exact .inr t
theorem lstS {K : PySem.W.Frag} {H H' : Hp} {a b : Addr} {n : Nat} {xs : List V} (s : But [a] H H') (h : SpringAt H a n) (t : SqL K H b xs) (no : ∀ i r, HO.lst xs ≠ .lst (.int i :: r)) : SqL K H' b xs := by
  obtain ⟨w0, w1, w2, h1, _⟩ := h
  rcases t with (t | ⟨o, t⟩) | t
  · exact .inl (.inl (s _ _ (by simpa using (ne_of t h1 (fun z => no _ _ z))) t))
  · exact .inl (.inr ⟨o, s _ _ (by simpa using (ne_of t h1 (fun z => by cases z))) t⟩)
  · exact .inr t
end K04

namespace K04
open PySem PySem.Spec PyProof.Rows L2 My
/-! ### lists, tuples and pots -/
theorem rawS {H H' : Hp} {a b : Addr} {n : Nat} {o : HO} (s : But [a] H H') (h : SpringAt H a n) (t : H b = some o) (no : ∀ i r, o ≠ .lst (.int i :: r)) : H' b = some o := s _ _ (by simpa using (h.ne t no).symm) t
theorem tupU {K : PySem.W.Frag} {H : Hp} {D b : Addr} {l xs : List V} {o : HO} (h : H D = some (.lst l)) (t : SqT K H b xs) : SqT K (upd H D o) b xs := by
  rcases t with (t | ⟨o, t⟩) | t
  · exact .inl (.inl (by rw [upd_ne (ne_of t h (fun z => by cases z))]; exact t))
  · exact .inl (.inr ⟨o, by rw [upd_ne (ne_of t h (fun z => by cases z))]; exact t⟩)
  · exact .inr t
/-- a tuple stands where only a list changes -/
theorem tup_but {K : PySem.W.Frag} {H H' : Hp} {L b : Addr} {l xs : List V} (s : But [L] H H') (h : H L = some (.lst l)) (t : SqT K H b xs) : SqT K H' b xs := by
  rcases t with (t | ⟨o, t⟩) | t
  · exact .inl (.inl (s _ _ (by simpa using (ne_of t h (fun z => by cases z))) t))
  · exact .inl (.inr ⟨o, s _ _ (by simpa using (ne_of t h (fun z => by cases z))) t⟩)
  · exact .inr t
theorem paired_app {α β : Type} {F : α → β → Prop} : ∀ {l : List α} {m : List β} {l2 : List α} {m2 : List β}, Paired F l m → Paired F l2 m2 → Paired F (l ++ l2) (m ++ m2)
  | _, _, _, _, .nil, h => h
  | _, _, _, _, .cons r t, h => .cons r (paired_app t h)
theorem paired_take {α β : Type} {F : α → β → Prop} : ∀ {l : List α} {m : List β} (n : Nat), Paired F l m → Paired F (l.take n) (m.take n)
  | _, _, 0, _ => .nil
  | _, _, _ + 1, .nil => .nil
  | _, _, n + 1, .cons r t => .cons r (paired_take n t)
theorem paired_drop {α β : Type} {F : α → β → Prop} : ∀ {l : List α} {m : List β} (n : Nat), Paired F l m → Paired F (l.drop n) (m.drop n)
  | _, _, 0, h => h
  | _, _, _ + 1, .nil => .nil
  | _, _, n + 1, .cons _ t => paired_drop n t
theorem paired_flat {α β : Type} {F : α → β → Prop} {l : List α} {m : List β} (h : Paired F l m) : ∀ n : Nat, Paired F (List.replicate n l).flatten (List.replicate n m).flatten
  | 0 => .nil
  | n + 1 => by
    rw [List.replicate_succ, List.replicate_succ, List.flatten_cons, List.flatten_cons]
    exact paired_app h (paired_flat h n)
theorem paired_rev {α β : Type} {F : α → β → Prop} : ∀ {l : List α} {m : List β}, Paired F l m → Paired F l.reverse m.reverse
  | _, _, .nil => .nil
  | _, _, .cons r t => by
    rw [List.reverse_cons, List.reverse_cons]
    exact paired_app (paired_rev t) (.cons r .nil)
end K04

namespace K04
open PySem PySem.Spec PyProof.Rows L2 My
/-! ### pots: where a law's draws come from -/
section
variable {P : Program} {w : World} {K : PySem.W.Frag} {mg : Str → Option Value} {base : Heap}
def sp_law_dip (K : PySem.W.Frag) : Sp := fun vs H Q _ => ∃ (a : Addr) (n : Nat) (many : Int), vs = [.ref a, .int many] ∧ SpringAt H a n ∧ n < 2 ^ 100 ∧ 0 < many ∧ many < 2 ^ 200 ∧
  ∀ H' k, But [a] H H' → SpringAt H' a (n + 1) → 0 ≤ k → k < many → Q (.int k) H'
set_option maxHeartbeats 2000000 in
theorem ok_law_dip (T : Txt K mg) {fd : FuncData} (F : FunD K d_law_dip.name d_law_dip.qual d_law_dip.params d_law_dip.body d_law_dip.scope (d_law_dip.dvs K) (d_law_dip.kws K) (He.fAd K d_law_dip.at_) fd) : FnOk P w K mg base C8.CX0 1 (He.fAd K d_law_dip.at_) fd ["pot", "many"] (sp_law_dip K) := by
  refine F.ok sc_law_dip (fun vs H Q E h => ?_) (fun cdv A outer s H vs Q E hr h => ?_)
  · obtain ⟨a, n, many, rfl, _⟩ := h
    rfl
  · have hu := L2.hu_of hr
    obtain ⟨a, n, many, rfl, ⟨w0, w1, w2, ha, hw1, hw2, hw3⟩, hn, hm0, hm1, q⟩ := h
    refine ⟨_, (PSs.nox ((pss_cons (ps_if (pt_cmpR op_gt (pe_ix (My.ix_listK (K := K) rfl) (pv 0) pe_int (fun _ _ => rfl)) pe_int (nomark _))
  (pss_cons (ps_set (i := 2) sc_law_dip.nd rfl (by first | exact Or.inl rfl | exact Or.inr rfl) (pe_op op_mod (pe_callTy call_int1 (by rfl) T.int (by decide +kernel) (pa_cons (pe_ix (My.ix_listK (K := K) rfl) (pv 0) pe_int (fun _ _ => rfl)) pa_nil)) (pv 1)))
  (pss_cons (ps_asg (pe_op op_fdivW (pe_ix (My.ix_listK (K := K) rfl) (pv 0) pe_int (fun _ _ => rfl)) (pv 1)) (pg_sub (pv 0) pe_int set_list))
  (pss_one (ps_ret (pv 2)))))
  pss_nil)
  (pss_cons (ps_asg (pe_op op_add (pe_ix (My.ix_listK (K := K) rfl) (pv 0) pe_int (fun _ _ => rfl)) pe_int) (pg_sub (pv 0) pe_int set_list))
  (pss_cons (ps_set (i := 3) sc_law_dip.nd rfl (by first | exact Or.inl rfl | exact Or.inr rfl) (pe_op op_mod (pe_callTy call_int1 (by rfl) T.int (by decide +kernel) (pa_cons (pe_op My.op_powW (pe_op op_add (pe_ix (My.ix_listK (K := K) rfl) (pv 0) pe_int (fun _ _ => rfl)) (pe_op op_mulW pe_int (pe_ix (My.ix_listK (K := K) rfl) (pv 0) pe_int (fun _ _ => rfl)))) pe_int) pa_nil)) (pe_op op_add (pe_op My.op_powW pe_int pe_int) pe_int)))
  (pss_cons (ps_set (i := 3) sc_law_dip.nd rfl (by first | exact Or.inl rfl | exact Or.inr rfl) (pe_op op_mod (pe_callTy call_int1 (by rfl) T.int (by decide +kernel) (pa_cons (pe_op My.op_powW (pe_op op_add (pv 3) (pe_op op_mulW pe_int (pe_ix (My.ix_listK (K := K) rfl) (pv 0) pe_int (fun _ _ => rfl)))) pe_int) pa_nil)) (pe_op op_add (pe_op My.op_powW pe_int pe_int) pe_int)))
  (pss_one (ps_ret (pe_op op_mod (pe_callTy call_int1 (by rfl) T.int (by decide +kernel) (pa_cons (pe_op op_fdivW (pv 3) (pe_op My.op_powW pe_int pe_int)) pa_nil)) (pv 1)))))))))), ?_⟩
    have hmW : CDivW w0 many := wide_div (b := 200) hm0 (by omega) (by decide) (by decide)
    refine ⟨_, rfl, a, _, _, _, rfl, rfl, SqL.of ha, rfl, _, _, rfl, rfl, _, rfl, ?_⟩
    refine L2.ite2 (fun c => ?_) (fun c => ?_)
    · refine ⟨_, rfl, a, _, _, _, rfl, rfl, SqL.of ha, rfl, .inl ⟨_, rfl, _, rfl, _, _, rfl, rfl, hm0, ?_⟩⟩
      refine ⟨_, rfl, a, _, _, _, rfl, rfl, SqL.of ha, rfl, _, rfl, _, _, rfl, rfl, hmW, _, rfl, a, _, 0, 0, rfl, rfl, ha, rfl, ?_⟩
      refine ⟨_, rfl, q _ _ ((But.refl _ _).put (.inr (by simp))) ⟨_, w1, w2, upd_same, hw1, hw2, by omega⟩ (Int.emod_nonneg _ (by omega)) (Int.emod_lt_of_pos _ hm0)⟩
    · have b2 : (w2 + 1).natAbs < 2 ^ 101 := by
        have : (2 : Nat) ^ 101 = 2 ^ 100 + 2 ^ 100 := by decide
        omega
      have m1 : (86028121 : Int).natAbs < 2 ^ 40 := by decide
      have m2 : (179424673 : Int).natAbs < 2 ^ 40 := by decide
      have m41 : (0 : Int) < 10 ^ (41 : Int).toNat + 9 := by decide
      have m39 : (0 : Int) < 10 ^ (39 : Int).toNat + 57 := by decide
      have q1 : (86028121 * (w2 + 1)).natAbs < 2 ^ 200 := by
        have : (2 : Nat) ^ 200 > 86028121 * 2 ^ 101 := by decide
        omega
      have q2 : (179424673 * (w2 + 1)).natAbs < 2 ^ 200 := by
        have : (2 : Nat) ^ 200 > 179424673 * 2 ^ 101 := by decide
        omega
      have c1 : CMulW 86028121 (w2 + 1) := wide_mul m1 b2 (by decide) (by decide) (by decide)
      have c2 : CMulW 179424673 (w2 + 1) := wide_mul m2 b2 (by decide) (by decide) (by decide)
      refine ⟨_, rfl, a, _, _, _, rfl, rfl, SqL.of ha, rfl, _, _, rfl, rfl, _, rfl, a, _, 2, 2, rfl, rfl, ha, rfl, ?_⟩
      have ha2 : upd H a (.lst [.int w0, .int w1, .int (w2 + 1)]) a = some (.lst [.int w0, .int w1, .int (w2 + 1)]) := upd_same
      refine ⟨_, rfl, a, _, _, _, rfl, rfl, SqL.of ha2, rfl, ?_⟩
      refine ⟨_, rfl, a, _, _, _, rfl, rfl, SqL.of ha2, rfl, _, _, rfl, rfl, c1, _, _, rfl, rfl, ?_⟩
      refine ⟨_, _, rfl, rfl, powW (add_lt hw1 q1) (by decide) (by decide) (by decide), .inl ⟨_, rfl, ?_⟩⟩
      refine ⟨_, _, rfl, rfl, ten_pow (by decide) (by decide), _, _, rfl, rfl, _, _, rfl, rfl, m41, ?_⟩
      have e1 := emod_lt2 (x := (w1 + 86028121 * (w2 + 1)) ^ (3 : Int).toNat) (m := 10 ^ (41 : Int).toNat + 9) (k := 200) (by decide) (by decide)
      refine ⟨_, rfl, ?_⟩
      refine ⟨_, rfl, a, _, _, _, rfl, rfl, SqL.of ha2, rfl, _, _, rfl, rfl, c2, _, _, rfl, rfl, ?_⟩
      refine ⟨_, _, rfl, rfl, powW (add_lt e1 q2) (by decide) (by decide) (by decide), .inl ⟨_, rfl, ?_⟩⟩
      refine ⟨_, _, rfl, rfl, ten_pow (by decide) (by decide), _, _, rfl, rfl, _, _, rfl, rfl, m39, ?_⟩
      refine ⟨_, rfl, _, _, rfl, rfl, ten_pow (by decide) (by decide), _, _, rfl, rfl, wide_div (b := 100) (by decide) (by decide) (by decide) (by decide), .inl ⟨_, rfl, ?_⟩⟩
      refine ⟨_, rfl, _, _, rfl, rfl, hm0, ?_⟩
      exact q _ _ ((But.refl _ _).put (.inr (by simp))) ⟨_, w1, w2 + 1, upd_same, hw1, by omega, by omega⟩ (Int.emod_nonneg _ (by omega)) (Int.emod_lt_of_pos _ hm0)
theorem c_law_dip (T : Txt K mg) : C8.Cal P w K mg base 1 "_law_dip" (sp_law_dip K) [] := by
  obtain ⟨fd, F⟩ := T.f_law_dip
  exact ⟨_, fd, _, _, ok_law_dip T F, T.g_law_dip, F.kp, F.bindsN (fun _ _ _ _ _ _ us hl => match us, hl with | [_, _], _ => rfl), .nil⟩
def sp_law_pot (K : PySem.W.Frag) : Sp := fun vs H Q _ => ∃ (a : Addr) (ns : List Int) (k : Int), vs = [.ref a, .int k] ∧ SqL K H a (ns.map V.int) ∧ 0 ≤ k ∧ k < 100 ∧
  ∀ H' p, H p = none → Same H H' → SpringAt H' p 0 → Q (.ref p) H'
set_option maxHeartbeats 2000000 in
theorem ok_law_pot (T : Txt K mg) {fd : FuncData} (F : FunD K d_law_pot.name d_law_pot.qual d_law_pot.params d_law_pot.body d_law_pot.scope (d_law_pot.dvs K) (d_law_pot.kws K) (He.fAd K d_law_pot.at_) fd) : FnOk P w K mg base C8.CX0 1 (He.fAd K d_law_pot.at_) fd ["script", "k"] (sp_law_pot K) := by
  refine F.ok sc_law_pot (fun vs H Q E h => ?_) (fun cdv A outer s H vs Q E hr h => ?_)
  · obtain ⟨a, ns, k, rfl, _⟩ := h
    rfl
  · have hu := L2.hu_of hr
    obtain ⟨a, ns, k, rfl, hS, hk0, hk1, q⟩ := h
    refine ⟨_, (PSs.nox ((pss_cons (ps_set (i := 2) sc_law_pot.nd rfl (by first | exact Or.inl rfl | exact Or.inr rfl) pe_int)
  (pss_cons (ps_if (pt_cmpR op_lt (pv 1) (pe_callB (My.len_seqK (K := K) rfl) (by rfl) T.len (by decide +kernel) (pa_cons (pv 0) pa_nil)) (nomark _))
  (pss_one (ps_set (i := 2) sc_law_pot.nd rfl (by first | exact Or.inl rfl | exact Or.inr rfl) (pe_callB call_abs (by rfl) T.abs (by decide +kernel) (pa_cons (pe_callTy call_int1 (by rfl) T.int (by decide +kernel) (pa_cons (pe_ix (My.ix_listK (K := K) rfl) (pv 0) (pv 1) (fun _ _ => rfl)) pa_nil)) pa_nil))))
  pss_nil)
  (pss_one (ps_ret (pe_lst (pa_cons (pe_callB (call_max2 rfl) (by rfl) T.max (by decide +kernel) (pa_cons pe_int (pa_cons (pe_op op_sub (pv 2) (pe_op My.op_powW pe_int pe_int)) pa_nil))) (pa_cons (pe_op op_add (pe_op op_mod (pe_callTy call_int1 (by rfl) T.int (by decide +kernel) (pa_cons (pv 2) pa_nil)) (pe_op op_add (pe_op My.op_powW pe_int pe_int) pe_int)) (pe_op op_mulW pe_int (pv 1))) (pa_cons pe_int pa_nil)))))))))), ?_⟩
    have fin : ∀ cell : Int, (∀ p, H p = none → ∀ w0, Q (.ref p) (upd H p (.lst [.int w0, .int (cell % (10 ^ (33 : Int).toNat + 33) + 524309 * k), .int 0]))) := by
      intro cell p hp w0
      refine q _ p hp (same_new hp) ⟨_, _, _, upd_same, ?_, by decide, by decide⟩
      have e1 := emod_lt2 (x := cell) (m := 10 ^ (33 : Int).toNat + 33) (k := 120) (by decide) (by decide)
      have e2 : (524309 * k).natAbs < 2 ^ 120 := by
        have : (2 : Nat) ^ 120 > 300000000 := by decide
        omega
      exact two_le (add_lt e1 e2) (by decide)
    have m33 : (0 : Int) < 10 ^ (33 : Int).toNat + 33 := by decide
    have mk : CMulW 524309 k := by
      refine wide_mul (a := 40) (b := 40) (by decide) ?_ (by decide) (by decide) (by decide)
      have : (2 : Nat) ^ 40 > 1000 := by decide
      omega
    have rest : ∀ cell : Int, tRet
            (tLst
              (tCons
                (tCB (fun xs H Q => ∃ i j, xs = [V.int i, V.int j] ∧ Q (V.int (if j > i then j else i)) H)
                  (tCons (tC (V.int 0))
                    (tCons
                      (tOp (rI0 fun i j => V.int (i - j)) (tVar 2)
                        (tOp (rI CPowW fun i j => V.int (i ^ j.toNat)) (tC (V.int 10)) (tC (V.int 18))))
                      tNil)))
                (tCons
                  (tOp (rI0 fun i j => V.int (i + j))
                    (tOp (rI (fun x j => 0 < j) fun i j => V.int (i % j))
                      (tCB
                        (fun xs H Q =>
                          (∃ i, xs = [V.int i] ∧ Q (V.int i) H) ∨
                            ∃ k, xs = [V.bl k] ∧ Q (V.int (if k = true then 1 else 0)) H)
                        (tCons (tVar 2) tNil))
                      (tOp (rI0 fun i j => V.int (i + j))
                        (tOp (rI CPowW fun i j => V.int (i ^ j.toNat)) (tC (V.int 10)) (tC (V.int 33))) (tC (V.int 33))))
                    (tOp (rI CMulW fun i j => V.int (i * j)) (tC (V.int 524309)) (tVar 1)))
                  (tCons (tC (V.int 0)) tNil)))) { nx := fun x H' => Q V.non H', rt := Q } [some (.ref a), some (.int k), some (.int cell)] H := by
      intro cell
      refine ⟨_, rfl, _, _, rfl, rfl, ten_pow (by decide) (by decide), _, _, rfl, rfl, _, _, rfl, ?_⟩
      refine ⟨_, rfl, .inl ⟨_, rfl, _, _, rfl, rfl, ten_pow (by decide) (by decide), _, _, rfl, rfl, _, _, rfl, rfl, m33, ?_⟩⟩
      exact ⟨_, rfl, _, _, rfl, rfl, mk, _, _, rfl, rfl, by show 3 ≤ sizeLine; decide, fun p hp => fin _ p hp _⟩
    refine ⟨_, rfl, _, rfl, a, _, rfl, .inl hS, _, _, rfl, rfl, _, rfl, ?_⟩
    rw [List.length_map]
    refine L2.ite2 (fun c => ?_) (fun c => ?_)
    · have hlt : k < (ns.length : Int) := of_decide_eq_true c
      obtain ⟨j, rfl⟩ : ∃ j : Nat, k = (j : Int) := ⟨k.toNat, by omega⟩
      have hj : j < ns.length := by omega
      refine ⟨_, rfl, _, rfl, a, _, _, _, rfl, rfl, hS, atI_nat (by rw [List.getElem?_map, List.getElem?_eq_getElem hj]; rfl), .inl ⟨_, rfl, ?_⟩⟩
      refine ⟨_, rfl, ?_⟩
      exact rest _
    · exact rest 0
theorem c_law_pot (T : Txt K mg) : C8.Cal P w K mg base 1 "_law_pot" (sp_law_pot K) [] := by
  obtain ⟨fd, F⟩ := T.f_law_pot
  exact ⟨_, fd, _, _, ok_law_pot T F, T.g_law_pot, F.kp, F.bindsN (fun _ _ _ _ _ _ us hl => match us, hl with | [_, _], _ => rfl), .nil⟩
end
end K04

namespace K04
open PySem PySem.Spec PyProof.Rows L2 My
/-! ### alike: two values that lay the same data -/
def Sized : Nat → PyData → Prop
  | 0, _ => False
  | n + 1, .list ds => ds.length ≤ 100000 ∧ ∀ e ∈ ds, Sized n e
  | n + 1, .tuple ds => ds.length ≤ 100000 ∧ ∀ e ∈ ds, Sized n e
  | _ + 1, .dict _ => False
  | _ + 1, _ => True
theorem dpall_len {K : PySem.W.Frag} {H : Hp} : ∀ {xs : List V} {ds : List PyData}, DpAll K H xs ds → xs.length = ds.length
  | _, _, .nil => rfl
  | _, _, .cons _ t => congrArg (· + 1) (dpall_len t)
theorem dpall_at {K : PySem.W.Frag} {H : Hp} : ∀ {xs : List V} {ds : List PyData} {i : Nat} {d : PyData}, DpAll K H xs ds → ds[i]? = some d → ∃ v, xs[i]? = some v ∧ Dp K H v d
  | _, _, 0, _, .cons h _, e => ⟨_, rfl, by cases e; exact h⟩
  | _, _, i + 1, _, .cons _ t, e => dpall_at (i := i) t e
mutual
theorem dp_same {K : PySem.W.Frag} {H H' : Hp} (s : Same H H') : ∀ {v : V} {d : PyData}, Dp K H v d → Dp K H' v d
  | _, _, .non => .non
  | _, _, .bl b => .bl b
  | _, _, .int i => .int i
  | _, _, .str x => .str x
  | _, _, .lst h t => .lst (s.seq h) (dpall_same s t)
  | _, _, .tup h t => .tup (same_tup s h) (dpall_same s t)
theorem dpall_same {K : PySem.W.Frag} {H H' : Hp} (s : Same H H') : ∀ {vs : List V} {ds : List PyData}, DpAll K H vs ds → DpAll K H' vs ds
  | _, _, .nil => .nil
  | _, _, .cons h t => .cons (dp_same s h) (dpall_same s t)
end
def FlatV (v : V) : Prop := v = .non ∨ (∃ b, v = .bl b) ∨ (∃ i, v = .int i) ∨ ∃ s, v = .str s
/-- alike: the same flat value, the same empty dict, lists and tuples of such -/
def AlkF (K : PySem.W.Frag) (H : Hp) : Nat → V → V → Prop
  | 0, _, _ => False
  | n + 1, x, y => (x = y ∧ FlatV x) ∨ (∃ a, x = .ref a ∧ y = .ref a ∧ H a = some (.dK [])) ∨ (∃ a b xs ys, x = .ref a ∧ y = .ref b ∧ ((SqL K H a xs ∧ SqL K H b ys) ∨ (SqT K H a xs ∧ SqT K H b ys)) ∧ xs.length = ys.length ∧ xs.length ≤ 100000 ∧ ∀ (i : Nat) (u v : V), xs[i]? = some u → ys[i]? = some v → AlkF K H n u v)
theorem AlkF.same {K : PySem.W.Frag} {H H' : Hp} (s : Same H H') : ∀ {n : Nat} {x y : V}, AlkF K H n x y → AlkF K H' n x y
  | 0, _, _, h => False.elim h
  | n + 1, _, _, h => by
    rcases h with h | ⟨a, e1, e2, h⟩ | ⟨a, b, xs, ys, e1, e2, h, h1, h2, h3⟩
    · exact .inl h
    · exact .inr (.inl ⟨a, e1, e2, s _ _ h⟩)
    · refine .inr (.inr ⟨a, b, xs, ys, e1, e2, ?_, h1, h2, fun i u v hu hv => AlkF.same s (h3 i u v hu hv)⟩)
      rcases h with ⟨p, q⟩ | ⟨p, q⟩
      · exact .inl ⟨s.seq p, s.seq q⟩
      · exact .inr ⟨same_tup s p, same_tup s q⟩
theorem dpall_get {K : PySem.W.Frag} {H : Hp} : ∀ {xs : List V} {ds : List PyData} {i : Nat} {v : V}, DpAll K H xs ds → xs[i]? = some v → ∃ d, ds[i]? = some d ∧ Dp K H v d
  | _, _, 0, _, .cons h _, e => ⟨_, rfl, by cases e; exact h⟩
  | _, _, i + 1, _, .cons _ t, e => dpall_get (i := i) t e
theorem AlkF.dat {K : PySem.W.Frag} {H : Hp} : ∀ {n : Nat} {x y : V} {d : PyData}, Dp K H x d → Dp K H y d → Sized n d → AlkF K H n x y
  | 0, _, _, d, _, _, z => False.elim (by cases d <;> exact z)
  | n + 1, x, y, d, hx, hy, z => by
    cases d with
    | none => cases hx; cases hy; exact .inl ⟨rfl, .inl rfl⟩
    | bool b => cases hx; cases hy; exact .inl ⟨rfl, .inr (.inl ⟨_, rfl⟩)⟩
    | int b => cases hx; cases hy; exact .inl ⟨rfl, .inr (.inr (.inl ⟨_, rfl⟩))⟩
    | str b => cases hx; cases hy; exact .inl ⟨rfl, .inr (.inr (.inr ⟨_, rfl⟩))⟩
    | dict kvs => exact absurd z (fun z => z)
    | list ds =>
      cases hx with
      | @lst a xs _ hS hA =>
      cases hy with
      | @lst b ys _ hT hB =>
      refine .inr (.inr ⟨a, b, xs, ys, rfl, rfl, .inl ⟨hS, hT⟩, (dpall_len hA).trans (dpall_len hB).symm, by rw [dpall_len hA]; exact z.1, fun i u v hu hv => ?_⟩)
      obtain ⟨d1, e1, p1⟩ := dpall_get hA hu
      obtain ⟨d2, e2, p2⟩ := dpall_get hB hv
      rw [e1] at e2
      cases e2
      exact AlkF.dat p1 p2 (z.2 _ (List.mem_of_getElem? e1))
    | tuple ds =>
      cases hx with
      | @tup a xs _ hS hA =>
      cases hy with
      | @tup b ys _ hT hB =>
      refine .inr (.inr ⟨a, b, xs, ys, rfl, rfl, .inr ⟨hS, hT⟩, (dpall_len hA).trans (dpall_len hB).symm, by rw [dpall_len hA]; exact z.1, fun i u v hu hv => ?_⟩)
      obtain ⟨d1, e1, p1⟩ := dpall_get hA hu
      obtain ⟨d2, e2, p2⟩ := dpall_get hB hv
      rw [e1] at e2
      cases e2
      exact AlkF.dat p1 p2 (z.2 _ (List.mem_of_getElem? e1))
theorem AlkF.mono {K : PySem.W.Frag} {H : Hp} : ∀ {n m : Nat} {x y : V}, n ≤ m → AlkF K H n x y → AlkF K H m x y
  | 0, _, _, _, _, h => False.elim h
  | n + 1, 0, _, _, e, _ => absurd e (by omega)
  | n + 1, m + 1, _, _, e, h => by
    rcases h with h | ⟨a, e1, e2, h⟩ | ⟨a, b, xs, ys, e1, e2, h, h1, h2, h3⟩
    · exact .inl h
    · exact .inr (.inl ⟨a, e1, e2, h⟩)
    · exact .inr (.inr ⟨a, b, xs, ys, e1, e2, h, h1, h2, fun i u v hu hv => AlkF.mono (Nat.le_of_succ_le_succ e) (h3 i u v hu hv)⟩)
theorem AlkF.flat {K : PySem.W.Frag} {H : Hp} {n : Nat} {x : V} (h : FlatV x) : AlkF K H (n + 1) x x := .inl ⟨rfl, h⟩
theorem AlkF.tup2 {K : PySem.W.Frag} {H : Hp} {n : Nat} {a b : Addr} {x1 x2 y1 y2 : V} (ha : SqT K H a [x1, x2]) (hb : SqT K H b [y1, y2]) (h1 : AlkF K H n x1 y1) (h2 : AlkF K H n x2 y2) : AlkF K H (n + 1) (.ref a) (.ref b) :=
  .inr (.inr ⟨a, b, _, _, rfl, rfl, .inr ⟨ha, hb⟩, rfl, (by show 2 ≤ 100000; decide), fun i u v hu hv => by
    match i, hu, hv with
    | 0, hu, hv => cases hu; cases hv; exact h1
    | 1, hu, hv => cases hu; cases hv; exact h2⟩)
section
variable {P : Program} {w : World} {K : PySem.W.Frag} {mg : Str → Option Value} {base : Heap}
def spr_law_alike (K : PySem.W.Frag) (n : Nat) : Sp := fun vs H Q _ => ∃ (x y : V), vs = [x, y] ∧ AlkF K H n x y ∧ ∀ H', Same H H' → Q (.bl true) H'
theorem no_law_alike (K : PySem.W.Frag) {vs : List V} {H : Hp} {Q : VK} {E : XK} : ¬ spr_law_alike K 0 vs H Q E := fun ⟨_, _, _, h, _⟩ => h
def sp_law_alike (K : PySem.W.Frag) : Sp := spr_law_alike K 5
set_option maxHeartbeats 2000000 in
theorem okr_law_alike (T : Txt K mg) {rn : Nat} (c_law_alike : C8.Cal P w K mg base rn "_law_alike" (spr_law_alike K rn) []) {fd : FuncData} (F : FunD K d_law_alike.name d_law_alike.qual d_law_alike.params d_law_alike.body d_law_alike.scope (d_law_alike.dvs K) (d_law_alike.kws K) (He.fAd K d_law_alike.at_) fd) : FnOk P w K mg base C8.CX0 (rn + 1) (He.fAd K d_law_alike.at_) fd ["found", "due"] (spr_law_alike K (rn + 1)) := by
  refine F.ok sc_law_alike (fun vs H Q E h => ?_) (fun cdv A outer s H vs Q E hr h => ?_)
  · obtain ⟨x, y, rfl, _⟩ := h
    rfl
  · have hu := L2.hu_of hr
    obtain ⟨x, y, rfl, hz, q⟩ := h
    refine ⟨_, (PSs.nox ((pss_cons (ps_if (PW.pt (pw_or (pt_cmpR op_ne (pe_callB (My.isiK (K := K) rfl) (by rfl) T.isinstance (by decide +kernel) (pa_cons (pv 0) (pa_cons (pe_bltn (v := .ty "tuple") (u := .type "tuple") rfl T.tuple (by decide +kernel) rfl) pa_nil))) (pe_callB (My.isiK (K := K) rfl) (by rfl) T.isinstance (by decide +kernel) (pa_cons (pv 1) (pa_cons (pe_bltn (v := .ty "tuple") (u := .type "tuple") rfl T.tuple (by decide +kernel) rfl) pa_nil))) (nomark _)) (pw_or1 (pt_cmpR op_ne (pe_callB (My.isiK (K := K) rfl) (by rfl) T.isinstance (by decide +kernel) (pa_cons (pv 0) (pa_cons (pe_bltn (v := .ty "list") (u := .type "list") rfl T.list (by decide +kernel) rfl) pa_nil))) (pe_callB (My.isiK (K := K) rfl) (by rfl) T.isinstance (by decide +kernel) (pa_cons (pv 1) (pa_cons (pe_bltn (v := .ty "list") (u := .type "list") rfl T.list (by decide +kernel) rfl) pa_nil))) (nomark _)))))
  (pss_one (ps_ret pe_bl))
  pss_nil)
  (pss_cons (ps_if (pt_val (pe_callB (My.isiTK (K := K) rfl) (by rfl) T.isinstance (by decide +kernel) (pa_cons (pv 1) (pa_cons (pe_tup (pa_cons (pe_bltn (v := .ty "tuple") (u := .type "tuple") rfl T.tuple (by decide +kernel) rfl) (pa_cons (pe_bltn (v := .ty "list") (u := .type "list") rfl T.list (by decide +kernel) rfl) pa_nil))) pa_nil))))
  (pss_cons (ps_if (pt_cmpR op_ne (pe_callB (My.len_seqK (K := K) rfl) (by rfl) T.len (by decide +kernel) (pa_cons (pv 0) pa_nil)) (pe_callB (My.len_seqK (K := K) rfl) (by rfl) T.len (by decide +kernel) (pa_cons (pv 1) pa_nil)) (nomark _))
  (pss_one (ps_ret pe_bl))
  pss_nil)
  (pss_one (ps_ret (pe_cmpR (My.eqDK (K := K) rfl hr.units) (pe_lc (own := [("k", 2)]) (g := (gName 2)) (by rfl) sc_law_alike.nd (pi_range1 (by rfl) T.range (pa_cons (pe_callB (My.len_seqK (K := K) rfl) (by rfl) T.len (by decide +kernel) (pa_cons (pv 1) pa_nil)) pa_nil)) (blkOk_by (N := N_law_alike) (sc := defScope s_law_alike) (by decide +kernel)) (fun _ _ _ _ _ => (pg_name (i := 2) sc_law_alike.nd rfl (by first | exact Or.inl rfl | exact Or.inr rfl))) (fun _ _ _ _ _ => (pts_one (pt_not (pt_val (C8.pe_c c_law_alike hr (Nat.le_refl _) rfl (pa_cons (pe_ix (My.ix_bothK (K := K) rfl) (pv 0) (pv 2) (fun _ _ => rfl)) (pa_cons (pe_ix (My.ix_bothK (K := K) rfl) (pv 1) (pv 2) (fun _ _ => rfl)) pa_nil))))))) (fun _ _ _ _ _ => (pv 2))) (pe_lst pa_nil) (nomark _)))))
  pss_nil)
  (pss_cons (ps_if (PW.pt (pw_or (pt_cmpR op_ne (pe_callB (My.isiK (K := K) rfl) (by rfl) T.isinstance (by decide +kernel) (pa_cons (pv 0) (pa_cons (pe_bltn (v := .ty "bool") (u := .type "bool") rfl T.bool (by decide +kernel) rfl) pa_nil))) (pe_callB (My.isiK (K := K) rfl) (by rfl) T.isinstance (by decide +kernel) (pa_cons (pv 1) (pa_cons (pe_bltn (v := .ty "bool") (u := .type "bool") rfl T.bool (by decide +kernel) rfl) pa_nil))) (nomark _)) (pw_or1 (pt_cmpR op_ne (pe_callB (My.isiK (K := K) rfl) (by rfl) T.isinstance (by decide +kernel) (pa_cons (pv 0) (pa_cons (pe_bltn (v := .ty "str") (u := .type "str") rfl T.str (by decide +kernel) rfl) pa_nil))) (pe_callB (My.isiK (K := K) rfl) (by rfl) T.isinstance (by decide +kernel) (pa_cons (pv 1) (pa_cons (pe_bltn (v := .ty "str") (u := .type "str") rfl T.str (by decide +kernel) rfl) pa_nil))) (nomark _)))))
  (pss_one (ps_ret pe_bl))
  pss_nil)
  (pss_one (ps_ret (pe_cmpR (My.op_orE op_eq (op_eq_dictA (Nat.lt_of_le_of_lt (Nat.le_add_right _ 64) hr.units))) (pv 0) (pv 1) (nomark _))))))))), ?_⟩
    have flat : ∀ (v : V) (t : String) (b1 b2 : Bool), x = v → y = v → (∀ HH, Same H HH → TyX K HH v (.type t)) → PySem.W.kitOne K (.type t) (.type "tuple") = some false → PySem.W.kitOne K (.type t) (.type "list") = some false → PySem.W.kitAny K (.type t) [.type "tuple", .type "list"] = some false → PySem.W.kitOne K (.type t) (.type "bool") = some b1 → PySem.W.kitOne K (.type t) (.type "str") = some b2 → (∀ HH, Same H HH → (∀ H2, Same HH H2 → Q (.bl true) H2) → rOr rEq rEqDA v v HH Q) →
        tSeq
        (tIfS
          (tOr
            (tTest
              (tOp rNe (tCB (rIsi K) (tCons (tVar 0) (tCons (tC (V.ty "tuple")) tNil)))
                (tCB (rIsi K) (tCons (tVar 1) (tCons (tC (V.ty "tuple")) tNil)))))
            (tTest
              (tOp rNe (tCB (rIsi K) (tCons (tVar 0) (tCons (tC (V.ty "list")) tNil)))
                (tCB (rIsi K) (tCons (tVar 1) (tCons (tC (V.ty "list")) tNil))))))
          (tRet (tC (V.bl false))) tNext)
        (tSeq
          (tIfS
            (tB
              (tCB (rIsiT K)
                (tCons (tVar 1) (tCons (tTup (tCons (tC (V.ty "tuple")) (tCons (tC (V.ty "list")) tNil))) tNil))))
            (tSeq
              (tIfS (tTest (tOp rNe (tCB (rLenQ K) (tCons (tVar 0) tNil)) (tCB (rLenQ K) (tCons (tVar 1) tNil))))
                (tRet (tC (V.bl false))) tNext)
              (tRet
                (tOp (rEqD K)
                  (tLc (iRng1 (tCons (tCB (rLenQ K) (tCons (tVar 1) tNil)) tNil)) (gName 2)
                    (tNot
                      (tB
                        (tCall (spr_law_alike K rn) [] C8.E0
                          (tCons (tOp (rIxB K) (tVar 0) (tVar 2)) (tCons (tOp (rIxB K) (tVar 1) (tVar 2)) tNil)))))
                    (tVar 2) (List.map (fun x => x.snd) [("k", 2)]))
                  (tLst tNil))))
            tNext)
          (tSeq
            (tIfS
              (tOr
                (tTest
                  (tOp rNe (tCB (rIsi K) (tCons (tVar 0) (tCons (tC (V.ty "bool")) tNil)))
                    (tCB (rIsi K) (tCons (tVar 1) (tCons (tC (V.ty "bool")) tNil)))))
                (tTest
                  (tOp rNe (tCB (rIsi K) (tCons (tVar 0) (tCons (tC (V.ty "str")) tNil)))
                    (tCB (rIsi K) (tCons (tVar 1) (tCons (tC (V.ty "str")) tNil))))))
              (tRet (tC (V.bl false))) tNext)
            (tRet (tOp (rOr rEq rEqDA) (tVar 0) (tVar 1)))))
        { nx := fun x H' => Q V.non H', rt := Q } (L2.start N_law_alike [x, y]) H := by
      intro v t b1 b2 ex ey ty k1 k2 k3 k4 k5 sc
      subst ex
      subst ey
      refine ⟨_, rfl, _, _, _, _, _, rfl, .ty "tuple", ty _ (Same.refl _), k1, _, rfl, _, _, _, _, _, rfl, .ty "tuple", ty _ (Same.refl _), k1, rfl, _, rfl, ?_⟩
      refine ⟨_, rfl, _, _, _, _, _, rfl, .ty "list", ty _ (Same.refl _), k2, _, rfl, _, _, _, _, _, rfl, .ty "list", ty _ (Same.refl _), k2, rfl, _, rfl, ?_⟩
      refine ⟨_, rfl, by show 2 ≤ sizeLine; decide, fun tt htt => ⟨_, tt, _, _, _, _, rfl, upd_same, .cons (.ty _) (.cons (.ty _) .nil), ty _ (same_new htt), k3, false, rfl, ?_⟩⟩
      refine ⟨_, rfl, _, _, _, _, _, rfl, .ty "bool", ty _ (same_new htt), k4, _, rfl, _, _, _, _, _, rfl, .ty "bool", ty _ (same_new htt), k4, rfl, _, rfl, ?_⟩
      rw [decide_eq_true (show V.bl b1 = V.bl b1 from rfl)]
      refine ⟨_, rfl, _, _, _, _, _, rfl, .ty "str", ty _ (same_new htt), k5, _, rfl, _, _, _, _, _, rfl, .ty "str", ty _ (same_new htt), k5, rfl, _, rfl, ?_⟩
      rw [decide_eq_true (show V.bl b2 = V.bl b2 from rfl)]
      exact ⟨_, rfl, _, rfl, sc _ (same_new htt) fun H2 s2 => q _ ((same_new htt).trans s2)⟩
    have kA : ∀ t : String, PySem.W.kitOne K (.type t) (.type "tuple") = some false → PySem.W.kitOne K (.type t) (.type "list") = some false → PySem.W.kitAny K (.type t) [.type "tuple", .type "list"] = some false := fun t k1 k2 => kitAny_cons k1 (fun _ => kitAny_cons k2 (fun _ => kitAny_nil) (fun z => by cases z)) (fun z => by cases z)
    have kz : ∀ (p : Prop), some true = some false → p := fun p z => by cases z
    have seq : ∀ (H1 : Hp) (a b : Addr) (xs ys : List V), Same H H1 → (SqL K H1 a xs ∨ SqT K H1 a xs) → (SqL K H1 b ys ∨ SqT K H1 b ys) → xs.length = ys.length → xs.length ≤ 100000 → (∀ (i : Nat) (u v : V), xs[i]? = some u → ys[i]? = some v → AlkF K H rn u v) →
        tOp (rEqD K)
                  (tLc (iRng1 (tCons (tCB (rLenQ K) (tCons (tVar 1) tNil)) tNil)) (gName 2)
                    (tNot
                      (tB
                        (tCall (spr_law_alike K rn) [] C8.E0
                          (tCons (tOp (rIxB K) (tVar 0) (tVar 2)) (tCons (tOp (rIxB K) (tVar 1) (tVar 2)) tNil)))))
                    (tVar 2) (List.map (fun x => x.snd) [("k", 2)]))
                  (tLst tNil) [some (.ref a), some (.ref b), none] H1 Q := by
      intro H1 a b xs ys s1 hS hT hxy hl hd
      refine ⟨_, rfl, b, ys, rfl, hT, ((ys.length : Nat) : Int), rfl, by omega, by omega, fun D hD => ?_⟩
      refine lc_range (lo := 0) (n := ((ys.length : Nat) : Int).toNat) (fun i H' => Same H1 H' ∧ H' D = some (.lst [])) ⟨same_new hD, upd_same⟩ ?_ ?_
      · rintro i H2 hi ⟨s2, hD2⟩
        have hi2 : i < ys.length := by omega
        obtain ⟨v1, hv1⟩ : ∃ v1, xs[i]? = some v1 := ⟨_, List.getElem?_eq_getElem (show i < xs.length by omega)⟩
        obtain ⟨v2, hv2⟩ : ∃ v2, ys[i]? = some v2 := ⟨_, List.getElem?_eq_getElem hi2⟩
        have ss := s1.trans s2
        refine ⟨rfl, ?_⟩
        have e0 : (0 : Int) + (i : Int) = (i : Int) := by omega
        have ix : ∀ {c : Addr} {zs : List V} {v : V} {Q2 : VK}, (SqL K H1 c zs ∨ SqT K H1 c zs) → zs[i]? = some v → Q2 v H2 → rIxB K (.ref c) (.int (0 + (i : Int))) H2 Q2 := fun {c zs v Q2} hc hv q2 => by
          rcases hc with hc | hc
          · exact .inl ⟨c, zs, (i : Int), v, rfl, by rw [e0], s2.seq hc, atI_nat hv, q2⟩
          · exact .inr ⟨c, zs, (i : Int), v, rfl, by rw [e0], same_tup s2 hc, atI_nat hv, q2⟩
        refine ⟨_, rfl, _, rfl, ix hS hv1 ⟨_, rfl, _, rfl, ix hT hv2 ⟨v1, v2, rfl, (hd i _ _ hv1 hv2).same ss, fun H3 s3 => ?_⟩⟩⟩
        exact ⟨true, rfl, s2.trans s3, s3 _ _ hD2⟩
      · rintro H2 ⟨s2, hD2⟩
        refine ⟨Nat.zero_le _, fun e he => ?_⟩
        refine ⟨.list [], .list [], .lst (SqL.of (by rw [upd_ne (ne_of_none hD2 he)]; exact hD2)) .nil, .lst (SqL.of upd_same) .nil, by decide +kernel, by decide +kernel, ?_⟩
        exact q _ ((s1.trans s2).trans (same_new he))
    rcases hz with ⟨rfl, hf⟩ | ⟨a, rfl, rfl, ha⟩ | ⟨a, b, xs, ys, rfl, rfl, hab, hxy, hl, hd⟩
    · have sq : ∀ {v : V}, scal v v = true → ∀ HH, Same H HH → (∀ H2, Same HH H2 → Q (.bl true) H2) → rOr rEq rEqDA v v HH Q := fun {v} sc HH _ qq => .inl ⟨sc, by rw [decide_eq_true rfl]; exact qq _ (Same.refl _)⟩
      rcases hf with rfl | ⟨b, rfl⟩ | ⟨b, rfl⟩ | ⟨b, rfl⟩
      · exact flat .non "NoneType" false false rfl rfl (fun _ _ => .base .non) (L2.kit_ty (by decide +kernel)) (L2.kit_ty (by decide +kernel)) (kA _ (L2.kit_ty (by decide +kernel)) (L2.kit_ty (by decide +kernel))) (L2.kit_ty (by decide +kernel)) (L2.kit_ty (by decide +kernel)) (sq rfl)
      · exact flat (.bl b) "bool" true false rfl rfl (fun _ _ => .base (.bl b)) (L2.kit_ty (by decide +kernel)) (L2.kit_ty (by decide +kernel)) (kA _ (L2.kit_ty (by decide +kernel)) (L2.kit_ty (by decide +kernel))) (L2.kit_ty (by decide +kernel)) (L2.kit_ty (by decide +kernel)) (sq rfl)
      · exact flat (.int b) "int" false false rfl rfl (fun _ _ => .base (.int b)) (L2.kit_ty (by decide +kernel)) (L2.kit_ty (by decide +kernel)) (kA _ (L2.kit_ty (by decide +kernel)) (L2.kit_ty (by decide +kernel))) (L2.kit_ty (by decide +kernel)) (L2.kit_ty (by decide +kernel)) (sq rfl)
      · exact flat (.str b) "str" false true rfl rfl (fun _ _ => .base (.str b)) (L2.kit_ty (by decide +kernel)) (L2.kit_ty (by decide +kernel)) (kA _ (L2.kit_ty (by decide +kernel)) (L2.kit_ty (by decide +kernel))) (L2.kit_ty (by decide +kernel)) (L2.kit_ty (by decide +kernel)) (sq rfl)
    · exact flat (.ref a) "dict" false false rfl rfl (fun HH s => .base (.dK (s _ _ ha))) (L2.kit_ty (by decide +kernel)) (L2.kit_ty (by decide +kernel)) (kA _ (L2.kit_ty (by decide +kernel)) (L2.kit_ty (by decide +kernel))) (L2.kit_ty (by decide +kernel)) (L2.kit_ty (by decide +kernel)) (fun HH s qq => .inr ⟨a, a, [], [], rfl, rfl, s _ _ ha, s _ _ ha, rfl, fun p hp => (by cases hp), qq _ (Same.refl _)⟩)
    rcases hab with ⟨hS, hT⟩ | ⟨hS, hT⟩
    · refine ⟨_, rfl, _, _, _, _, false, rfl, .ty "tuple", tyx_lst hS, (L2.kit_ty (by decide +kernel)), _, rfl, _, _, _, _, false, rfl, .ty "tuple", tyx_lst hT, (L2.kit_ty (by decide +kernel)), rfl, _, rfl, ?_⟩
      refine ⟨_, rfl, _, _, _, _, true, rfl, .ty "list", tyx_lst hS, (L2.kit_ty (by decide +kernel)), _, rfl, _, _, _, _, true, rfl, .ty "list", tyx_lst hT, (L2.kit_ty (by decide +kernel)), rfl, _, rfl, ?_⟩
      refine ⟨_, rfl, by show 2 ≤ sizeLine; decide, fun tt htt => ⟨_, tt, _, _, _, _, rfl, upd_same, .cons (.ty _) (.cons (.ty _) .nil), tyx_lst ((same_new htt).seq hT), kitAny_cons (b := false) (r := true) (L2.kit_ty (by decide +kernel)) (fun _ => kitAny_cons (b := true) (L2.kit_ty (by decide +kernel)) (fun z => by cases z) (fun _ => rfl)) (fun z => by cases z), true, rfl, ?_⟩⟩
      have s1 := same_new (o := .tup [V.ty "tuple", .ty "list"]) htt
      refine ⟨_, rfl, a, _, rfl, .inl (s1.seq hS), _, rfl, b, _, rfl, .inl (s1.seq hT), rfl, _, rfl, ?_⟩
      rw [hxy, decide_eq_true rfl]
      exact seq _ a b xs ys s1 (.inl (s1.seq hS)) (.inl (s1.seq hT)) hxy hl hd
    · refine ⟨_, rfl, _, _, _, _, true, rfl, .ty "tuple", tyx_tup hS, (L2.kit_ty (by decide +kernel)), _, rfl, _, _, _, _, true, rfl, .ty "tuple", tyx_tup hT, (L2.kit_ty (by decide +kernel)), rfl, _, rfl, ?_⟩
      refine ⟨_, rfl, _, _, _, _, false, rfl, .ty "list", tyx_tup hS, (L2.kit_ty (by decide +kernel)), _, rfl, _, _, _, _, false, rfl, .ty "list", tyx_tup hT, (L2.kit_ty (by decide +kernel)), rfl, _, rfl, ?_⟩
      refine ⟨_, rfl, by show 2 ≤ sizeLine; decide, fun tt htt => ⟨_, tt, _, _, _, _, rfl, upd_same, .cons (.ty _) (.cons (.ty _) .nil), tyx_tup (same_tup (same_new htt) hT), kitAny_cons (b := true) (L2.kit_ty (by decide +kernel)) (fun z => by cases z) (fun _ => rfl), true, rfl, ?_⟩⟩
      have s1 := same_new (o := .tup [V.ty "tuple", .ty "list"]) htt
      refine ⟨_, rfl, a, _, rfl, .inr (same_tup s1 hS), _, rfl, b, _, rfl, .inr (same_tup s1 hT), rfl, _, rfl, ?_⟩
      rw [hxy, decide_eq_true rfl]
      exact seq _ a b xs ys s1 (.inr (same_tup s1 hS)) (.inr (same_tup s1 hT)) hxy hl hd
theorem cr_law_alike (T : Txt K mg) : ∀ rn : Nat, C8.Cal P w K mg base rn "_law_alike" (spr_law_alike K rn) []
  | 0 => by
    obtain ⟨fd, F⟩ := T.f_law_alike
    exact ⟨_, fd, ["found", "due"], _, ⟨fun vs H Q E h => absurd h (no_law_alike K), fun A outer s H args us vs Q E _ _ _ _ h => absurd h (no_law_alike K)⟩, T.g_law_alike, F.kp, F.bindsN (fun _ _ _ _ _ _ us hl => match us, hl with | [_, _], _ => rfl), .nil⟩
  | rn + 1 => by
    obtain ⟨fd, F⟩ := T.f_law_alike
    exact ⟨_, fd, _, _, okr_law_alike T (cr_law_alike T rn) F, T.g_law_alike, F.kp, F.bindsN (fun _ _ _ _ _ _ us hl => match us, hl with | [_, _], _ => rfl), .nil⟩
theorem c_law_alike (T : Txt K mg) : C8.Cal P w K mg base 5 "_law_alike" (sp_law_alike K) [] := cr_law_alike T 5
end
end K04

namespace K04
open PySem PySem.Spec PyProof.Rows L2 My
/-! ### data (as k20/P16) -/
theorem dp_flatInts (K : PySem.W.Frag) (H : Hp) : ∀ l : List Int, DpAll K H (l.map V.int) (l.map PyData.int)
  | [] => .nil
  | a :: l => .cons (.int a) (dp_flatInts K H l)
theorem lay_ints : ∀ l : List Int, PyData.canLayAll0 (l.map PyData.int) = true
  | [] => rfl
  | a :: l => by
    show (true && PyData.canLayAll0 (l.map PyData.int)) = true
    rw [lay_ints l]
    rfl
theorem dep_ints : ∀ l : List Int, PyData.depthAll (l.map PyData.int) = 0
  | [] => rfl
  | a :: l => by
    show max 0 (PyData.depthAll (l.map PyData.int)) = 0
    rw [dep_ints l]
    rfl
/-- data that may be compared: laid out, of small depth -/
structure Sm (n : Nat) (d : PyData) : Prop where
  lay : d.canLay0 = true
  dep : d.depth ≤ n
theorem Sm.shaped {n : Nat} {d : PyData} (h : Sm n d) (e : n ≤ 64) : SeqAt.shaped d = true := Bool.and_eq_true_iff.mpr ⟨h.lay, decide_eq_true (Nat.le_trans h.dep e)⟩
theorem Sm.refl {n : Nat} {d : PyData} (h : Sm n d) : PyData.eqv d d = true := SeqAt.eqv_refl d h.lay
theorem sm_int (i : Int) : Sm 0 (.int i) := ⟨rfl, Nat.le_refl _⟩
theorem sm_bool (i : Bool) : Sm 0 (.bool i) := ⟨rfl, Nat.le_refl _⟩
theorem sm_none : Sm 0 .none := ⟨rfl, Nat.le_refl _⟩
theorem lay_all : ∀ {ds : List PyData} {n : Nat}, (∀ d ∈ ds, Sm n d) → PyData.canLayAll0 ds = true ∧ PyData.depthAll ds ≤ n
  | [], n, _ => ⟨rfl, Nat.zero_le _⟩
  | d :: ds, n, h => by
    obtain ⟨h1, h2⟩ := lay_all (ds := ds) fun x hx => h x (List.mem_cons_of_mem _ hx)
    have h3 := h d (List.mem_cons_self ..)
    refine ⟨Bool.and_eq_true_iff.mpr ⟨h3.lay, h1⟩, ?_⟩
    show max d.depth (PyData.depthAll ds) ≤ n
    exact Nat.max_le.mpr ⟨h3.dep, h2⟩
theorem sm_list {ds : List PyData} {n : Nat} (h : ∀ d ∈ ds, Sm n d) : Sm (n + 1) (.list ds) := ⟨(lay_all h).1, Nat.succ_le_succ (lay_all h).2⟩
theorem sm_tuple {ds : List PyData} {n : Nat} (h : ∀ d ∈ ds, Sm n d) : Sm (n + 1) (.tuple ds) := ⟨(lay_all h).1, Nat.succ_le_succ (lay_all h).2⟩
theorem Sm.mono {n m : Nat} {d : PyData} (h : Sm n d) (e : n ≤ m) : Sm m d := ⟨h.lay, Nat.le_trans h.dep e⟩
theorem sm_ints (l : List Int) : Sm 1 (.list (l.map PyData.int)) := sm_list fun d hd => by
  obtain ⟨i, _, rfl⟩ := List.mem_map.mp hd
  exact sm_int i
theorem sok {x : Str} (h : PyData.canLay0 (.str x) = true) : Sm 0 (.str x) := ⟨h, Nat.le_refl _⟩
theorem nilD {K : PySem.W.Frag} {H : Hp} {a : Addr} (h : H a = some (.lst [])) : Dp K H (.ref a) (.list []) := .lst (SqL.of h) .nil
theorem sm_nil : Sm 1 (.list []) := sm_list fun d hd => by cases hd
end K04

namespace K04
open PySem PySem.Spec PyProof.Rows L2 My
/-! ### numbers and lengths of texts -/
def numS (p : Int) : Str := Str.ofString (toString p)
theorem len_tl (x : Str) : x.length = (TL.tl x).length := by
  show x.cps.size = _
  rw [← Array.length_toList]
theorem len_of (s : String) : (Str.ofString s).length = s.length := by
  rw [len_tl, TL.tl_ofString, List.length_map, String.length_toList]
theorem num_len {p : Int} (h : 1 ≤ p ∧ p ≤ 1000000000) : (numS p).length ≤ 11 := by
  unfold numS
  rw [len_of]
  exact int_text_length_le10 (k := 10) (by decide) (by have : (10 : Nat) ^ 10 = 10000000000 := by decide
                                                       omega)
theorem num_log {p : Int} (h : 1 ≤ p ∧ p ≤ 1000000000) : p.natAbs.log2 < 1920 := by
  have h1 : p.natAbs < 2 ^ 40 := by
    have : (2 : Nat) ^ 40 > 1000000000 := by decide
    omega
  have : p.natAbs.log2 < 40 := (Nat.log2_lt (by omega)).mpr h1
  omega
theorem app_len {x y : Str} (a b : Nat) (h1 : x.length ≤ a) (h2 : y.length ≤ b) : (x ++ y).length ≤ a + b := by
  rw [len_tl] at *
  rw [TL.tl_append, List.length_append]
  omega
theorem cat_ok {x y : Str} (a b : Nat) (h1 : x.length ≤ a) (h2 : y.length ≤ b) (h : a + b ≤ 1000000 := by decide) : x.length + y.length ≤ sizeLine := Nat.le_of_lt (lt_line (by omega))
end K04

namespace K04
open PySem PySem.Spec PyProof.Rows L2 My StX
section
variable {P : Program} {w : World} {K : PySem.W.Frag} {mg : Str → Option Value} {base : Heap}
def sp_are_distinct_words (K : PySem.W.Frag) : Sp := fun vs H Q _ => ∃ (a b : Addr) (zs ws : List Str), vs = [.ref a, .ref b] ∧ SqT K H a (zs.map V.str) ∧ SqT K H b (ws.map V.str) ∧ zs.Nodup ∧ zs.length ≤ 100 ∧ (∀ z ∈ zs, z ∈ ws) ∧ ∀ H', Same H H' → Q (.bl true) H'
set_option maxHeartbeats 2000000 in
theorem ok_are_distinct_words (T : Txt K mg) {fd : FuncData} (F : FunD K d_are_distinct_words.name d_are_distinct_words.qual d_are_distinct_words.params d_are_distinct_words.body d_are_distinct_words.scope (d_are_distinct_words.dvs K) (d_are_distinct_words.kws K) (He.fAd K d_are_distinct_words.at_) fd) : FnOk P w K mg base C8.CX0 2 (He.fAd K d_are_distinct_words.at_) fd ["value", "words"] (sp_are_distinct_words K) := by
  have c_is_word := c_is_word (P := P) (w := w) (base := base) T
  refine F.ok sc_are_distinct_words (fun vs H Q E h => ?_) (fun cdv A outer s H vs Q E hr h => ?_)
  · obtain ⟨a, b, zs, ws, rfl, _⟩ := h
    rfl
  · have hu := L2.hu_of hr
    obtain ⟨a, b, zs, ws, rfl, hz, hw, hd, hl, hm, q⟩ := h
    refine ⟨_, (PSs.nox ((pss_cons (ps_if (PW.pt (pw_or (pt_not (pt_val (pe_callB (My.isiK (K := K) rfl) (by rfl) T.isinstance (by decide +kernel) (pa_cons (pv 0) (pa_cons (pe_bltn (v := .ty "tuple") (u := .type "tuple") rfl T.tuple (by decide +kernel) rfl) pa_nil))))) (pw_or1 (pt_not (pt_val (pe_callB (My.allK (K := K) rfl rfl) (by rfl) T.all (by decide +kernel) (pa_cons (pe_lc (own := [("item", 2)]) (g := (gName 2)) (tt := tYes) (by rfl) sc_are_distinct_words.nd (My.pi_tupK (K := K) rfl (pv 0)) (blkOk_by (N := N_are_distinct_words) (sc := defScope s_are_distinct_words) (by decide +kernel)) (fun _ _ _ _ _ => (pg_name (i := 2) sc_are_distinct_words.nd rfl (by first | exact Or.inl rfl | exact Or.inr rfl))) (fun _ _ _ _ _ => pts_nil) (fun _ _ _ _ _ => (C8.pe_c c_is_word hr (by decide) rfl (pa_cons (pv 2) (pa_cons (pv 1) pa_nil))))) pa_nil)))))))
  (pss_one (ps_ret pe_bl))
  pss_nil)
  (pss_one (ps_ret (pe_cmpR op_eq (My.pe_lenSetT (K := K) rfl (by rfl) (by rfl) T.len (by rfl) T.set (pv 0)) (pe_callB (My.len_seqK (K := K) rfl) (by rfl) T.len (by decide +kernel) (pa_cons (pv 0) pa_nil)) (nomark _))))))), ?_⟩
    refine ⟨_, rfl, _, _, _, _, _, rfl, .ty "tuple", tyx_tup hz, L2.kit_ty (by decide +kernel), true, rfl, ?_⟩
    refine L2.iteF ?_
    refine ⟨_, rfl, a, rfl, ⟨_, hz⟩, fun D hD => lc_tup (K := K) (a := a) (xs := zs.map V.str) (fun i H' => Same H H' ∧ H' D = some (.lst ((List.replicate i true).map V.bl))) ⟨same_new hD, upd_same⟩ (fun i H' _ p => same_tup p.1 hz) ?_ ?_⟩
    · rintro i y H2 hi ⟨s2, hD2⟩
      obtain ⟨z, hzz, rfl⟩ := map_get hi
      have hlt : i < zs.length := (List.getElem?_eq_some_iff.mp hzz).1
      have hmz : z ∈ ws := hm z (List.mem_of_getElem? hzz)
      refine ⟨rfl, ?_⟩
      refine ⟨_, rfl, _, rfl, z, b, ws, rfl, same_tup s2 hw, ?_⟩
      rw [decide_eq_true hmz]
      refine ⟨_, hD2, ?_, same_upd s2 hD, ?_⟩
      · rw [List.length_map, List.length_replicate]
        exact lt_line (by omega)
      · rw [upd_same, List.replicate_succ', List.map_append]
        rfl
    · rintro H2 ⟨s2, hD2⟩
      refine ⟨D, _, rfl, SqL.of hD2, ?_⟩
      have e2 : (List.replicate (zs.map V.str).length true).all id = true := List.all_eq_true.mpr fun x hx => (List.mem_replicate.mp hx).2
      rw [e2]
      refine ⟨_, rfl, L2.iteF ?_⟩
      refine ⟨_, rfl, a, zs, rfl, same_tup s2 hz, hd, by omega, ?_⟩
      refine ⟨_, rfl, a, _, rfl, .inr (same_tup s2 hz), rfl, ?_⟩
      rw [List.length_map, decide_eq_true rfl]
      exact q _ s2
theorem c_are_distinct_words (T : Txt K mg) : C8.Cal P w K mg base 2 "are_distinct_words" (sp_are_distinct_words K) [] := by
  obtain ⟨fd, F⟩ := T.f_are_distinct_words
  exact ⟨_, fd, _, _, ok_are_distinct_words T F, T.g_are_distinct_words, F.kp, F.bindsN (fun _ _ _ _ _ _ us hl => match us, hl with | [_, _], _ => rfl), .nil⟩
def takeR (zs : List Str) (rs gs : List RuleL) : List RuleL := (List.range 8).map fun i => if moms.getD i Str.empty ∈ zs then at_ gs i else at_ rs i
def sp_Book_taking (K : PySem.W.Frag) : Sp := fun vs H Q _ => ∃ (s g m : Addr) (d d2 : Int) (rs gs : List RuleL) (zs : List Str), vs = [.ref s, .ref g, .ref m] ∧ BookAt K H s d rs ∧ BookAt K H g d2 gs ∧ GoodB rs ∧ GoodB gs ∧ SqT K H m (zs.map V.str) ∧ zs.Nodup ∧ zs.length ≤ 100 ∧ (∀ z ∈ zs, z ∈ moms) ∧ 1 ≤ d ∧ d ≤ 30 ∧
  ∀ H' p, H p = none → Same H H' → BookAt K H' p d (takeR zs rs gs) → Q (.ref p) H'
set_option maxHeartbeats 2000000 in
theorem ok_Book_taking (T : Txt K mg) {fd : FuncData} (F : FunD K d_Book_taking.name d_Book_taking.qual d_Book_taking.params d_Book_taking.body d_Book_taking.scope (d_Book_taking.dvs K) (d_Book_taking.kws K) (He.fAd K d_Book_taking.at_) fd) : FnOk P w K mg base C8.CX0 5 (He.fAd K d_Book_taking.at_) fd ["self", "good", "moments"] (sp_Book_taking K) := by
  have c_Book_init := c_Book_init (P := P) (w := w) (base := base) T
  have c_Book_rule := c_Book_rule (P := P) (w := w) (base := base) T
  have c_are_distinct_words := c_are_distinct_words (P := P) (w := w) (base := base) T
  refine F.ok sc_Book_taking (fun vs H Q E h => ?_) (fun cdv A outer s H vs Q E hr h => ?_)
  · obtain ⟨s, g, m, d, d2, rs, gs, zs, rfl, _⟩ := h
    rfl
  · have hu := L2.hu_of hr
    obtain ⟨s1, g, m, d, d2, rs, gs, zs, rfl, hs, hg, gr, gg, hm, hd, hl, hmm, h1, h2, q⟩ := h
    refine ⟨_, (PSs.nox ((pss_cons (ps_if (pt_not (pt_val (C8.pe_c c_are_distinct_words hr (by decide) rfl (pa_cons (pv 2) (pa_cons (pe_glob (v := .ref (He.ga K "MOMENTS")) rfl T.g_MOMENTS rfl) pa_nil)))))
  (pss_one ps_never)
  pss_nil)
  (pss_cons (ps_setLc (i := 3) (own := [("moment", 4)]) (g := (gName 4)) (tt := tYes) (by rfl) sc_Book_taking.nd rfl rfl (sw_true rfl rfl rfl (by decide +kernel)) (My.pi_tupK (K := K) rfl (pe_glob (v := .ref (He.ga K "MOMENTS")) rfl T.g_MOMENTS rfl)) (blkOk_by (N := N_Book_taking) (sc := defScope s_Book_taking) (by decide +kernel)) (fun _ _ _ _ _ => (pg_name (i := 4) sc_Book_taking.nd rfl (by first | exact Or.inl rfl | exact Or.inr rfl))) (fun _ _ _ _ _ => pts_nil) (fun _ _ _ _ _ => (pe_ifExp (pt_cmpR (My.in_seqK (K := K) rfl) (pv 4) (pv 2) (by rfl)) (C8.pe_mt c_Book_rule hr (by decide) (pv 1) (pa_cons (pv 4) pa_nil)) (C8.pe_mt c_Book_rule hr (by decide) (pv 0) (pa_cons (pv 4) pa_nil)))))
  (pss_one (ps_ret (My.pe_mkS2 c_Book_init hr (by decide) rfl (pa_cons (My.pe_fldK (K := K) rfl (pv 0) rfl) (My.pa_starK (K := K) rfl (pv 3) pa_nil))))))))), ?_⟩
    refine ⟨_, rfl, m, He.ga K "MOMENTS", zs, moms, rfl, hm, T.tup_MOMENTS _, hd, hl, hmm, fun H1 s2 => ⟨_, rfl, L2.iteF ?_⟩⟩
    have hs1 := hs.same s2
    have hg1 := hg.same s2
    have hm1 := same_tup s2 hm
    refine ⟨_, rfl, ⟨_, T.tup_MOMENTS _⟩, fun D hD => ?_⟩
    refine lc_tup (K := K) (xs := moms.map V.str) (fun i H' => Same H1 H' ∧ ∃ us : List Addr, H' D = some (.lst (us.map V.ref)) ∧ Paired (RuleAt K H') us ((takeR zs rs gs).take i)) ⟨same_new hD, [], upd_same, .nil⟩ (fun i H' _ p => T.tup_MOMENTS _) ?_ ?_
    · rintro i y H2 hi ⟨s3, us, hD2, hu⟩
      obtain ⟨z, hz, rfl⟩ := map_get hi
      have hi8 : i < 8 := (List.getElem?_eq_some_iff.mp hz).1
      have hul : us.length ≤ 8 := by
        rw [hu.length, List.length_take]
        unfold takeR
        rw [List.length_map, List.length_range]
        omega
      have hs2 := hs1.same s3
      have hg2 := hg1.same s3
      have hrow : (takeR zs rs gs)[i]? = some (if z ∈ zs then at_ gs i else at_ rs i) := by
        unfold takeR
        have eg : moms.getD i Str.empty = z := by
          rw [List.getD_eq_getElem?_getD, hz]
          rfl
        rw [List.getElem?_map, List.getElem?_range hi8]
        show some (if moms.getD i Str.empty ∈ zs then at_ gs i else at_ rs i) = _
        rw [eg]
      have add : ∀ a, RuleAt K H2 a (if z ∈ zs then at_ gs i else at_ rs i) → ∃ acc, H2 D = some (.lst acc) ∧ acc.length < sizeLine ∧ Same H1 (upd H2 D (.lst (acc ++ [V.ref a]))) ∧ ∃ us : List Addr, upd H2 D (.lst (acc ++ [V.ref a])) D = some (.lst (us.map V.ref)) ∧ Paired (RuleAt K (upd H2 D (.lst (acc ++ [V.ref a])))) us ((takeR zs rs gs).take (i + 1)) := fun a ha => by
        refine ⟨_, hD2, by rw [List.length_map]; exact lt_line (by omega), same_upd s3 hD, us ++ [a], by rw [upd_same, List.map_append]; rfl, ?_⟩
        rw [take_more hrow]
        exact Paired.snoc (paired_map (fun _ _ _ hh => tupU hD2 hh) hu) (tupU hD2 ha)
      refine ⟨rfl, ?_⟩
      refine ⟨_, rfl, _, rfl, m, _, rfl, .inr (same_tup s3 hm1), rfl, My.all_flat_str zs, _, rfl, ?_⟩
      have e0 : (if false = true then !(inV (.str z) (zs.map V.str)) else inV (.str z) (zs.map V.str)) = decide (z ∈ zs) := by rw [if_neg Bool.false_ne_true, My.inV_str]
      rw [e0]
      refine L2.ite2 (fun c => ?_) (fun c => ?_)
      · have c2 : z ∈ zs := of_decide_eq_true c
        rw [if_pos c2] at add
        obtain ⟨dxg, tg, ag, hgb, _⟩ := id hg2
        refine ⟨_, rfl, g, _, _, rfl, hgb, rfl, _, rfl, H2, g, d2, gs, z, i, at_ gs i, rfl, Same.refl _, hg2, hz, gg.get hi8, fun a ha => add a ha⟩
      · have c2 : z ∉ zs := fun e => c (decide_eq_true e)
        rw [if_neg c2] at add
        obtain ⟨dxs, ts, as, hsb, _⟩ := id hs2
        refine ⟨_, rfl, s1, _, _, rfl, hsb, rfl, _, rfl, H2, s1, d, rs, z, i, at_ rs i, rfl, Same.refl _, hs2, hz, gr.get hi8, fun a ha => add a ha⟩
    · rintro H2 ⟨s3, us, hD2, hu⟩
      have htl : (takeR zs rs gs).length = 8 := by
        unfold takeR
        rw [List.length_map, List.length_range]
      rw [List.take_of_length_le (by rw [htl]; exact Nat.le_refl _)] at hu
      have hs2 := hs1.same s3
      have tgood : ∀ r ∈ takeR zs rs gs, GoodRule r := fun r hr => by
        unfold takeR at hr
        obtain ⟨i, hi, rfl⟩ := List.mem_map.mp hr
        have hi8 := List.mem_range.mp hi
        split
        · exact gg.good _ (List.mem_of_getElem? (gg.get hi8))
        · exact gr.good _ (List.mem_of_getElem? (gr.get hi8))
      obtain ⟨dxb, t, as, hb, ht, hrs, hl8⟩ := id hs2
      refine ⟨_, rfl, s1, _, dxb, _, _, rfl, hb, T.cl_Book, T.no_Book__days, rfl, _, rfl, D, _, rfl, .inr (SqL.of hD2), ?_⟩
      intro x dx nx ndx nex
      have z1 : Same H2 (upd (upd H2 dx (.own x)) x (.ins (He.ga K "Book") dx [])) := (same_new ndx).trans (same_upd (Same.refl _) (by rw [upd_ne nex.symm]; exact nx))
      have z2 := s2.trans s3
      refine ⟨x, dx, d, us, takeR zs rs gs, by rw [List.append_nil, List.append_nil], upd_same, h1, h2, paired_map (fun a r _ hr => same_tup z1 hr) hu, htl, tgood, fun H' t2 bt hx ht2 => ⟨rfl, ?_⟩⟩
      have z3 : Same H2 H' := fun c o e => bt c o (by simpa using ne_of_none e nx) (z1 _ _ e)
      exact q _ x (z2.free nx) (z2.trans z3) ⟨dx, t2, _, hx, SqT.of ht2, paired_map (fun a r _ hr => same_tup z3 hr) hu, htl⟩
theorem c_Book_taking (T : Txt K mg) : C8.Met P w K mg base 5 (He.ga K "Book") "taking" (sp_Book_taking K) [] := by
  obtain ⟨fd, F⟩ := T.f_Book_taking
  exact ⟨_, fd, _, _, T.cl_Book, T.m_Book_taking, ok_Book_taking T F, F.bindsN (fun _ _ _ _ _ _ us hl => match us, hl with | [_, _, _], _ => rfl), .nil⟩
def sp_Book_with_days (K : PySem.W.Frag) : Sp := fun vs H Q _ => ∃ (s : Addr) (d d2 : Int) (rs : List RuleL), vs = [.ref s, .int d2] ∧ BookAt K H s d rs ∧ GoodB rs ∧ 1 ≤ d2 ∧ d2 ≤ 30 ∧
  ∀ H' p, H p = none → Same H H' → BookAt K H' p d2 rs → Q (.ref p) H'
set_option maxHeartbeats 2000000 in
theorem ok_Book_with_days (T : Txt K mg) {fd : FuncData} (F : FunD K d_Book_with_days.name d_Book_with_days.qual d_Book_with_days.params d_Book_with_days.body d_Book_with_days.scope (d_Book_with_days.dvs K) (d_Book_with_days.kws K) (He.fAd K d_Book_with_days.at_) fd) : FnOk P w K mg base C8.CX0 5 (He.fAd K d_Book_with_days.at_) fd ["self", "days"] (sp_Book_with_days K) := by
  have c_Book_init := c_Book_init (P := P) (w := w) (base := base) T
  refine F.ok sc_Book_with_days (fun vs H Q E h => ?_) (fun cdv A outer s H vs Q E hr h => ?_)
  · obtain ⟨s, d, d2, rs, rfl, _⟩ := h
    rfl
  · have hu := L2.hu_of hr
    obtain ⟨s1, d, d2, rs, rfl, hs, gr, h1, h2, q⟩ := h
    refine ⟨_, (PSs.nox ((pss_cons (ps_set (i := 2) sc_Book_with_days.nd rfl (by first | exact Or.inl rfl | exact Or.inr rfl) (My.pe_fldK (K := K) rfl (pv 0) rfl))
  (pss_one (ps_ret (My.pe_mkS2 c_Book_init hr (by decide) rfl (pa_cons (pv 1) (My.pa_starK (K := K) rfl (pv 2) pa_nil)))))))), ?_⟩
    obtain ⟨dxb, t, as, hb, ht, hrs, hl⟩ := id hs
    refine ⟨_, rfl, s1, _, dxb, _, _, rfl, hb, T.cl_Book, T.no_Book__rules, rfl, ?_⟩
    refine ⟨_, rfl, _, rfl, t, _, rfl, .inl ht, ?_⟩
    intro x dx nx ndx nex
    have z1 : Same H (upd (upd H dx (.own x)) x (.ins (He.ga K "Book") dx [])) := (same_new ndx).trans (same_upd (Same.refl _) (by rw [upd_ne nex.symm]; exact nx))
    refine ⟨x, dx, d2, as, rs, by rw [List.append_nil, List.append_nil], upd_same, h1, h2, paired_map (fun a r _ hr => same_tup z1 hr) hrs, hl, gr.good, fun H' t2 bt hx ht2 => ⟨rfl, ?_⟩⟩
    have z3 : Same H H' := fun c o e => bt c o (by simpa using ne_of_none e nx) (z1 _ _ e)
    exact q _ x nx z3 ⟨dx, t2, _, hx, SqT.of ht2, paired_map (fun a r _ hr => same_tup z3 hr) hrs, hl⟩
theorem c_Book_with_days (T : Txt K mg) : C8.Met P w K mg base 5 (He.ga K "Book") "with_days" (sp_Book_with_days K) [] := by
  obtain ⟨fd, F⟩ := T.f_Book_with_days
  exact ⟨_, fd, _, _, T.cl_Book, T.m_Book_with_days, ok_Book_with_days T F, F.bindsN (fun _ _ _ _ _ _ us hl => match us, hl with | [_, _], _ => rfl), .nil⟩
end
end K04

namespace K04
open PySem PySem.Spec PyProof.Rows L2 My StX
section
variable {P : Program} {w : World} {K : PySem.W.Frag} {mg : Str → Option Value} {base : Heap}
def gK5 {α : Type} (us its ws : List α) : List α := us ++ ws.drop 4 ++ its.take 4 ++ (ws.take 4).reverse
set_option maxHeartbeats 4000000 in
theorem kn_Book_init_power_late_gone_taken_days (T : Txt K mg) : My.MakN P w K mg base 3 "Book" (He.ga K "Book") (sp_Book_init K) 0 ["power", "late", "gone", "taken", "days"] (fun vs zs => gK5 vs (d_Book_init.dvs K) zs) := by
  obtain ⟨fd, F⟩ := T.f_Book_init
  obtain ⟨its, hb⟩ := F.kbindsD (ps := ["self", "days", "given", "laid", "left", "opened", "taken", "gone", "late", "power"]) 1 ["power", "late", "gone", "taken", "days"] (fun us its ws => gK5 us its ws) (by intro z; cases z)
    (fun r1 r2 r3 => ((r1.append (My.vals_drop 4 r3)).append (r2.take 4)).append (r3.take 4).reverse)
    (fun T kV doc pm an cdv ct us its ws h1 h2 h3 => match us, its, ws, h1, h2, h3 with | [_], [_, _, _, _, _, _, _, _], [_, _, _, _, _], _, _, _ => ⟨_, rfl, rfl⟩)
  exact ⟨_, fd, _, _, T.mk_Book, ok_Book_init T F, T.g_Book, hb⟩
def gK1 {α : Type} (us its ws : List α) : List α := us ++ its.take 1 ++ ws ++ its.drop 2
set_option maxHeartbeats 4000000 in
theorem kn_Book_init_laid (T : Txt K mg) : My.MakN P w K mg base 3 "Book" (He.ga K "Book") (sp_Book_init K) 1 ["laid"] (fun vs zs => gK1 vs (d_Book_init.dvs K) zs) := by
  obtain ⟨fd, F⟩ := T.f_Book_init
  obtain ⟨its, hb⟩ := F.kbindsD (ps := ["self", "days", "given", "laid", "left", "opened", "taken", "gone", "late", "power"]) 2 ["laid"] (fun us its ws => gK1 us its ws) (by intro z; cases z)
    (fun r1 r2 r3 => ((r1.append (r2.take 1)).append r3).append (My.vals_drop 2 r2))
    (fun T kV doc pm an cdv ct us its ws h1 h2 h3 => match us, its, ws, h1, h2, h3 with | [_, _], [_, _, _, _, _, _, _, _], [_], _, _, _ => ⟨_, rfl, rfl⟩)
  exact ⟨_, fd, _, _, T.mk_Book, ok_Book_init T F, T.g_Book, hb⟩
def gK0 {α : Type} (us its ws : List α) : List α := us ++ ws ++ its
set_option maxHeartbeats 4000000 in
theorem kn_Book_init_none (T : Txt K mg) : My.MakN P w K mg base 3 "Book" (He.ga K "Book") (sp_Book_init K) 1 [] (fun vs zs => gK0 vs (d_Book_init.dvs K) zs) := by
  obtain ⟨fd, F⟩ := T.f_Book_init
  obtain ⟨its, hb⟩ := F.kbindsD (ps := ["self", "days", "given", "laid", "left", "opened", "taken", "gone", "late", "power"]) 2 [] (fun us its ws => gK0 us its ws) (by intro z; cases z)
    (fun r1 r2 r3 => (r1.append r3).append r2)
    (fun T kV doc pm an cdv ct us its ws h1 h2 h3 => match us, its, ws, h1, h2, h3 with | [_, _], [_, _, _, _, _, _, _, _], [], _, _, _ => ⟨_, rfl, rfl⟩)
  exact ⟨_, fd, _, _, T.mk_Book, ok_Book_init T F, T.g_Book, hb⟩
theorem mn_Book_taking (T : Txt K mg) : My.MetN P w K mg base 5 (He.ga K "Book") "taking" (sp_Book_taking K) ["good", "moments"] My.kwGm := by
  obtain ⟨fd, F⟩ := T.f_Book_taking
  exact ⟨_, fd, _, _, T.cl_Book, T.m_Book_taking, ok_Book_taking T F, My.kwm_of F fun _ _ _ _ _ _ _ _ _ => rfl⟩
theorem takeR_by {zs : List Str} {rs gs : List RuleL} (c : List Bool) (hc : ((List.range 8).map fun i => decide (moms.getD i Str.empty ∈ zs)) = c) : takeR zs rs gs = (List.range 8).map fun i => if c.getD i false = true then at_ gs i else at_ rs i := by
  subst hc
  unfold takeR
  refine List.map_congr_left fun i hi => ?_
  have h8 := List.mem_range.mp hi
  rw [List.getD_eq_getElem?_getD (l := (List.range 8).map fun i => decide (moms.getD i Str.empty ∈ zs)), List.getElem?_map, List.getElem?_range h8]
  show (if moms.getD i Str.empty ∈ zs then at_ gs i else at_ rs i) = if decide (moms.getD i Str.empty ∈ zs) = true then at_ gs i else at_ rs i
  by_cases h : moms.getD i Str.empty ∈ zs
  · rw [if_pos h, if_pos (show decide (moms.getD i Str.empty ∈ zs) = true from decide_eq_true h)]
  · rw [if_neg h, if_neg (show ¬ decide (moms.getD i Str.empty ∈ zs) = true from fun e => h (of_decide_eq_true e))]
theorem take_a {a0 a1 a2 a3 r0 r1 r2 r3 r4 r5 r6 r7 : RuleL} : takeR (moms.take 4) [a0, a1, a2, a3, r4, r5, r6, r7] [r0, r1, r2, r3, r4, r5, r6, r7] = [r0, r1, r2, r3, r4, r5, r6, r7] := by
  rw [takeR_by [true, true, true, true, false, false, false, false] (by decide +kernel)]
  rfl
theorem take_b {a0 a1 a2 a3 a4 a5 a6 a7 r0 r1 r2 r3 r4 r5 r6 r7 : RuleL} : takeR moms.reverse [a0, a1, a2, a3, a4, a5, a6, a7] [r0, r1, r2, r3, r4, r5, r6, r7] = [r0, r1, r2, r3, r4, r5, r6, r7] := by
  rw [takeR_by [true, true, true, true, true, true, true, true] (by decide +kernel)]
  rfl
theorem take_c {a0 a2 a3 a4 a5 a6 a7 r0 r1 r2 r3 r4 r5 r6 r7 : RuleL} : takeR (moms.take 1 ++ moms.drop 2) [a0, r1, a2, a3, a4, a5, a6, a7] [r0, r1, r2, r3, r4, r5, r6, r7] = [r0, r1, r2, r3, r4, r5, r6, r7] := by
  rw [takeR_by [true, false, true, true, true, true, true, true] (by decide +kernel)]
  rfl
end
end K04

namespace K04
open PySem PySem.Spec PyProof.Rows L2 My StX
/-! ### parts, sums and repeats of tuples, whatever object they are -/
theorem cut_to {xs : List V} {c : Nat} : cutV xs none (some (c : Int)) = xs.take c := by
  unfold cutV
  rw [HT.sIx_nat, HT.sIx_none, List.drop_zero, Nat.sub_zero]
  by_cases h : c ≤ xs.length
  · rw [Nat.min_eq_left h]
  · rw [Nat.min_eq_right (by omega), List.take_of_length_le (Nat.le_refl _), List.take_of_length_le (by omega)]
theorem cut_from {xs : List V} {c : Nat} : cutV xs (some (c : Int)) none = xs.drop c := by
  unfold cutV
  rw [HT.sIx_nat, HT.sIx_none]
  by_cases h : c ≤ xs.length
  · rw [Nat.min_eq_left h]
    exact List.take_of_length_le (by rw [List.length_drop]; exact Nat.le_refl _)
  · rw [Nat.min_eq_right (by omega), List.drop_length, List.drop_of_length_le (by omega), List.take_nil]
section
variable {K : PySem.W.Frag} {H : Hp} {t u : Addr} {xs ys : List V} {Q : VK} {σ : L2.St}
theorem slA_cut {lo hi : Option Int} (h : SqT K H t xs) (q : ∀ m H7, Same H H7 → SqT K H7 m (cutV xs lo hi) → Q (.ref m) H7) : rSlA K (.ref t) lo hi H Q := by
  refine ⟨t, xs, rfl, h, fun z => ?_, fun _ m hm => q m _ (same_new hm) (SqT.of upd_same)⟩
  have e : cutV xs lo hi = xs := by
    unfold cutV
    rw [z.1, z.2, Nat.sub_zero, List.drop_zero, List.take_length]
  exact q t H (Same.refl _) (by rw [e]; exact h)
theorem slA_from {i : Nat} (h : SqT K H t xs) (q : ∀ m H7, Same H H7 → SqT K H7 m (xs.drop i) → Q (.ref m) H7) : tNoPart σ H fun v H3 => rSlA K (.ref t) (some (i : Int)) v H3 Q :=
  slA_cut (lo := some (i : Int)) (hi := none) h (by rw [cut_from]; exact q)
theorem slA_to {i : Nat} (h : SqT K H t xs) (q : ∀ m H7, Same H H7 → SqT K H7 m (xs.take i) → Q (.ref m) H7) : rSlA K (.ref t) none (some (i : Int)) H Q :=
  slA_cut (lo := none) (hi := some (i : Int)) h (by rw [cut_to]; exact q)
theorem catA_of (h : SqT K H t xs) (h2 : SqT K H u ys) (hl : xs.length + ys.length ≤ sizeLine) (q : ∀ m H7, Same H H7 → SqT K H7 m (xs ++ ys) → Q (.ref m) H7) : rCatA K (.ref t) (.ref u) H Q := by
  refine ⟨t, u, xs, ys, rfl, rfl, h, h2, hl, fun e => ?_, fun _ e => ?_, fun _ _ m hm => q m _ (same_new hm) (SqT.of upd_same)⟩
  · exact q u H (Same.refl _) (by rw [e]; exact h2)
  · exact q t H (Same.refl _) (by rw [e, List.append_nil]; exact h)
theorem repA_of {k : Nat} (h : SqT K H t xs) (hne : xs ≠ []) (hk : k ≤ 1000) (hl : xs.length ≤ 1000) (q : ∀ m H7, Same H H7 → SqT K H7 m (List.replicate k xs).flatten → Q (.ref m) H7) : rRepA K (.ref t) (.int (k : Int)) H Q := by
  refine ⟨t, (k : Int), xs, rfl, rfl, h, hne, by omega, by omega, hl, fun e => ?_, fun _ m hm => ?_⟩
  · obtain rfl : k = 1 := by omega
    exact q t H (Same.refl _) (by
      have e1 : (List.replicate 1 xs).flatten = xs := by
        show xs ++ [] = xs
        rw [List.append_nil]
      rw [e1]; exact h)
  · refine q m _ (same_new hm) ?_
    have e : (k : Int).toNat = k := Int.toNat_natCast k
    have := SqT.of (K := K) (upd_same (H := H) (a := m) (o := .tup (List.replicate (k : Int).toNat xs).flatten))
    rw [e] at this ⊢
    exact this
end
theorem repA_of2 {K : PySem.W.Frag} {H : Hp} {t : Addr} {xs : List V} {Q : VK} {v : Int} {k : Nat} (e : v = (k : Int)) (h : SqT K H t xs) (hne : xs ≠ []) (hk : k ≤ 1000) (hl : xs.length ≤ 1000) (q : ∀ m H7, Same H H7 → SqT K H7 m (List.replicate k xs).flatten → Q (.ref m) H7) : rRepA K (.ref t) (.int v) H Q := by
  subst e
  exact repA_of h hne hk hl q
theorem repA_c {K : PySem.W.Frag} {H : Hp} {t : Addr} {xs : List V} {Q : VK} {σ : L2.St} {v : Int} {k : Nat} (e : v = (k : Int)) (h : SqT K H t xs) (hne : xs ≠ []) (hk : k ≤ 1000) (hl : xs.length ≤ 1000) (q : ∀ m H7, Same H H7 → SqT K H7 m (List.replicate k xs).flatten → Q (.ref m) H7) : tC (.int v) σ H fun y H2 => rRepA K (.ref t) y H2 Q := repA_of2 e h hne hk hl q
theorem flat_one {α : Type} (x : α) : ∀ k : Nat, (List.replicate k [x]).flatten = List.replicate k x
  | 0 => rfl
  | k + 1 => by
    rw [List.replicate_succ, List.replicate_succ, List.flatten_cons, flat_one x k]
    rfl
theorem paired_rep {α β : Type} {F : α → β → Prop} {a : α} {b : β} (h : F a b) : ∀ m : Nat, Paired F (List.replicate m a) (List.replicate m b)
  | 0 => .nil
  | m + 1 => by
    rw [List.replicate_succ, List.replicate_succ]
    exact .cons h (paired_rep h m)
end K04

namespace K04
open PySem PySem.Spec PyProof.Rows L2 My StX
theorem len8r {rs : List RuleL} (e : rs.length = 8) : ∃ r0 r1 r2 r3 r4 r5 r6 r7, rs = [r0, r1, r2, r3, r4, r5, r6, r7] := by
  match rs, e with
  | [r0, r1, r2, r3, r4, r5, r6, r7], _ => exact ⟨r0, r1, r2, r3, r4, r5, r6, r7, rfl⟩
/-- days and rules as a pair -/
def PlanAt (K : PySem.W.Frag) (H : Hp) (p : Addr) (d : Int) (rs : List RuleL) : Prop := ∃ (t : Addr) (as : List Addr), SqT K H p [.int d, .ref t] ∧ SqT K H t (as.map V.ref) ∧ Paired (RuleAt K H) as rs
theorem PlanAt.same {K : PySem.W.Frag} {H H' : Hp} {p : Addr} {d : Int} {rs : List RuleL} (s : Same H H') (h : PlanAt K H p d rs) : PlanAt K H' p d rs := by
  obtain ⟨t, as, h1, h2, h3⟩ := h
  exact ⟨t, as, same_tup s h1, same_tup s h2, paired_map (fun _ _ _ x => same_tup s x) h3⟩
theorem PlanAt.draw {K : PySem.W.Frag} {H H' : Hp} {a p : Addr} {n : Nat} {d : Int} {rs : List RuleL} (b : But [a] H H') (s : SpringAt H a n) (h : PlanAt K H p d rs) : PlanAt K H' p d rs := by
  obtain ⟨t, as, h1, h2, h3⟩ := h
  exact ⟨t, as, But.tupS b s h1, But.tupS b s h2, paired_map (fun _ _ _ x => But.tupS b s x) h3⟩
theorem PlanAt.putL {K : PySem.W.Frag} {H : Hp} {D p : Addr} {l : List V} {o : HO} {d : Int} {rs : List RuleL} (hD : H D = some (.lst l)) (h : PlanAt K H p d rs) : PlanAt K (upd H D o) p d rs := by
  obtain ⟨t, as, h1, h2, h3⟩ := h
  exact ⟨t, as, tupU hD h1, tupU hD h2, paired_map (fun _ _ _ x => tupU hD x) h3⟩
theorem BookAt.draw {K : PySem.W.Frag} {H H' : Hp} {a b : Addr} {n : Nat} {d : Int} {rs : List RuleL} (s : But [a] H H') (h : SpringAt H a n) (t : BookAt K H b d rs) : BookAt K H' b d rs := by
  obtain ⟨dx, u, qs, q1, q2, q3, q4⟩ := t
  exact ⟨dx, u, qs, rawS s h q1 (fun _ _ z => by cases z), But.tupS s h q2, paired_map (fun x y _ hx => But.tupS s h hx) q3, q4⟩
theorem BookAt.putL {K : PySem.W.Frag} {H : Hp} {D b : Addr} {l : List V} {o : HO} {d : Int} {rs : List RuleL} (hD : H D = some (.lst l)) (t : BookAt K H b d rs) : BookAt K (upd H D o) b d rs := by
  obtain ⟨dx, u, qs, q1, q2, q3, q4⟩ := t
  exact ⟨dx, u, qs, (upd_ne (ne_of q1 hD (fun z => by cases z))).trans q1, tupU hD q2, paired_map (fun x y _ hx => tupU hD hx) q3, q4⟩
theorem made_one {r0 r1 r2 r3 r4 r5 r6 r7 : RuleL} : ∀ {i : Nat}, i < 9 → takeR (moms.drop i).reverse ([r0, r1, r2, r3, r4, r5, r6, r7].take i ++ List.replicate (8 - i) []) (List.replicate i (["off"] : RuleL) ++ [r0, r1, r2, r3, r4, r5, r6, r7].drop i) = [r0, r1, r2, r3, r4, r5, r6, r7]
  | 0, _ => by rw [takeR_by [true, true, true, true, true, true, true, true] (by decide +kernel)]; rfl
  | 1, _ => by rw [takeR_by [false, true, true, true, true, true, true, true] (by decide +kernel)]; rfl
  | 2, _ => by rw [takeR_by [false, false, true, true, true, true, true, true] (by decide +kernel)]; rfl
  | 3, _ => by rw [takeR_by [false, false, false, true, true, true, true, true] (by decide +kernel)]; rfl
  | 4, _ => by rw [takeR_by [false, false, false, false, true, true, true, true] (by decide +kernel)]; rfl
  | 5, _ => by rw [takeR_by [false, false, false, false, false, true, true, true] (by decide +kernel)]; rfl
  | 6, _ => by rw [takeR_by [false, false, false, false, false, false, true, true] (by decide +kernel)]; rfl
  | 7, _ => by rw [takeR_by [false, false, false, false, false, false, false, true] (by decide +kernel)]; rfl
  | 8, _ => by rw [takeR_by [false, false, false, false, false, false, false, false] (by decide +kernel)]; rfl
  | _ + 9, h => absurd h (by omega)
theorem good_nil : GoodRule [] := ⟨Nat.zero_le _, fun x hx => by cases hx⟩
theorem good_off : GoodRule ["off"] := ⟨by decide, fun x hx => by rw [List.mem_singleton.mp hx]; exact of_decide_eq_true (by decide +kernel)⟩
theorem set_next {rs : List RuleL} {i : Nat} {r : RuleL} (hl : rs.length = 8) (hi : i < 8) (hr : rs[i]? = some r) : (rs.take i ++ List.replicate (8 - i) []).set i r = rs.take (i + 1) ++ List.replicate (8 - (i + 1)) [] := by
  have e : 8 - i = (8 - (i + 1)) + 1 := by omega
  rw [e, List.replicate_succ, List.set_append, if_neg (by rw [List.length_take]; omega), take_more hr, List.length_take, Nat.min_eq_left (by omega), Nat.sub_self, List.append_assoc]
  rfl
section
variable {P : Program} {w : World} {K : PySem.W.Frag} {mg : Str → Option Value} {base : Heap}
def sp_law_rule (K : PySem.W.Frag) : Sp := fun vs H Q _ => ∃ (a : Addr) (n : Nat), vs = [.ref a] ∧ SpringAt H a n ∧ n ≤ 50000 ∧ ∀ H' p r, But [a] H H' → SpringAt H' a (n + 7) → RuleAt K H' p r → GoodRule r → Q (.ref p) H'
set_option maxHeartbeats 2000000 in
theorem ok_law_rule (T : Txt K mg) {fd : FuncData} (F : FunD K d_law_rule.name d_law_rule.qual d_law_rule.params d_law_rule.body d_law_rule.scope (d_law_rule.dvs K) (d_law_rule.kws K) (He.fAd K d_law_rule.at_) fd) : FnOk P w K mg base C8.CX0 2 (He.fAd K d_law_rule.at_) fd ["pot"] (sp_law_rule K) := by
  have c_law_dip := c_law_dip (P := P) (w := w) (base := base) T
  refine F.ok sc_law_rule (fun vs H Q E h => ?_) (fun cdv A outer s H vs Q E hr h => ?_)
  · obtain ⟨a, n, rfl, _⟩ := h
    rfl
  · have hu := L2.hu_of hr
    obtain ⟨a, n, rfl, hs, hn, q⟩ := h
    refine ⟨_, (PSs.nox ((pss_cons (ps_set (i := 1) sc_law_rule.nd rfl (by first | exact Or.inl rfl | exact Or.inr rfl) (pe_lst (pa_cons pe_str (pa_cons pe_str (pa_cons pe_str (pa_cons pe_str (pa_cons pe_str (pa_cons pe_str (pa_cons pe_str pa_nil)))))))))
  (pss_one (ps_ret (pe_callTy (My.tuple_ofK (K := K) rfl) (by rfl) T.tuple (by decide +kernel) (pa_cons (pe_lc (own := [("k", 2)]) (g := (gName 2)) (tt := tYes) (by rfl) sc_law_rule.nd (pi_range1 (by rfl) T.range (pa_cons (C8.pe_c c_law_dip hr (by decide) rfl (pa_cons (pv 0) (pa_cons pe_int pa_nil))) pa_nil)) (blkOk_by (N := N_law_rule) (sc := defScope s_law_rule) (by decide +kernel)) (fun _ _ _ _ _ => (pg_name (i := 2) sc_law_rule.nd rfl (by first | exact Or.inl rfl | exact Or.inr rfl))) (fun _ _ _ _ _ => pts_nil) (fun _ _ _ _ _ => (pe_ix (My.ix_listK (K := K) rfl) (pv 1) (C8.pe_c c_law_dip hr (by decide) rfl (pa_cons (pv 0) (pa_cons pe_int pa_nil))) (fun _ _ => rfl)))) pa_nil))))))), ?_⟩
    refine ⟨by show 7 ≤ sizeLine; decide, fun b hb => ?_⟩
    have lt100 : ∀ m : Nat, m ≤ 60000 → m < 2 ^ 100 := fun m h => Nat.lt_of_le_of_lt h (by decide)
    have yb := same_new (o := .lst (acts.map V.str)) hb
    have nb : b ∉ [a] := fun z => by
      obtain ⟨_, _, _, e, _⟩ := hs
      rw [List.mem_singleton.mp z, e] at hb
      cases hb
    have hb1 : upd H b (.lst (acts.map V.str)) b = some (.lst (acts.map V.str)) := upd_same
    refine ⟨_, rfl, a, n, 7, rfl, hs.same yb, lt100 _ (by omega), by decide, by decide, fun H1 k b1 s1 k0 k1 => ⟨k, rfl, by omega, by omega, fun D hD => ?_⟩⟩
    have b01 := (But.of yb : But [a] H _).trans b1
    have hb2 := b1 _ _ nb hb1
    have yD := same_new (o := .lst []) hD
    have naD : a ≠ D := by
      obtain ⟨_, _, _, e, _⟩ := s1
      exact ne_of_none e hD
    have hHD : H D = none := b01.none (by simpa using naD.symm) hD
    have nbD : b ≠ D := ne_of_none hb2 hD
    refine lc_range (lo := 0) (n := k.toNat) (fun i H' => ∃ r : RuleL, r.length = i ∧ But [a] H H' ∧ SpringAt H' a (n + 1 + i) ∧ H' D = some (.lst (r.map V.str)) ∧ H' b = some (.lst (acts.map V.str)) ∧ ∀ x ∈ r, x ∈ acts) ⟨[], rfl, b01.put (.inl hHD), s1.put naD, upd_same, (upd_ne nbD).trans hb2, fun x hx => by cases hx⟩ ?_ ?_
    · rintro i H2 hi ⟨r, hl2, b2, s2, hD2, hb3, hr2⟩
      refine ⟨rfl, ?_⟩
      refine ⟨_, rfl, _, rfl, a, n + 1 + i, 7, rfl, s2, lt100 _ (by omega), by decide, by decide, fun H3 j b3 s3 j0 j1 => ?_⟩
      obtain ⟨m, hm, rfl⟩ : ∃ m : Nat, m < 7 ∧ j = (m : Int) := ⟨j.toNat, by omega, by omega⟩
      obtain ⟨x, hx⟩ : ∃ x, acts[m]? = some x := ⟨_, List.getElem?_eq_getElem (show m < acts.length from hm)⟩
      have hb4 := b3 _ _ nb hb3
      have hD3 := b3 _ _ (by simpa using naD.symm) hD2
      refine ⟨b, _, _, .str x, rfl, rfl, SqL.of hb4, atI_nat (by rw [List.getElem?_map, hx]; rfl), _, hD3, ?_, r ++ [x], by rw [List.length_append, hl2]; rfl, (b2.trans b3).put (.inl hHD), s3.put naD, by rw [upd_same, List.map_append]; rfl, (upd_ne nbD).trans hb4, fun z hz => ?_⟩
      · rw [List.length_map, hl2]
        exact lt_line (by omega)
      · rcases List.mem_append.mp hz with hz | hz
        · exact hr2 z hz
        · rw [List.mem_singleton.mp hz]; exact List.mem_of_getElem? hx
    · rintro H2 ⟨r, hl2, b2, s2, hD2, hb3, hr2⟩
      refine ⟨D, _, rfl, .inl ⟨SqL.of hD2, fun t ht => ?_⟩⟩
      have yt := same_new (o := .tup (r.map V.str)) ht
      exact q _ t r (b2.trans (But.of yt)) ((s2.same yt).mono (by omega)) (SqT.of upd_same) ⟨by omega, hr2⟩
theorem c_law_rule (T : Txt K mg) : C8.Cal P w K mg base 2 "_law_rule" (sp_law_rule K) [] := by
  obtain ⟨fd, F⟩ := T.f_law_rule
  exact ⟨_, fd, _, _, ok_law_rule T F, T.g_law_rule, F.kp, F.bindsN (fun _ _ _ _ _ _ us hl => match us, hl with | [_], _ => rfl), .nil⟩
def sp_law_plan (K : PySem.W.Frag) : Sp := fun vs H Q _ => ∃ (a : Addr) (n : Nat), vs = [.ref a] ∧ SpringAt H a n ∧ n ≤ 40000 ∧ ∀ H' p d rs, But [a] H H' → SpringAt H' a (n + 60) → PlanAt K H' p d rs → GoodB rs → 1 ≤ d → d ≤ 30 → Q (.ref p) H'
set_option maxHeartbeats 2000000 in
theorem ok_law_plan (T : Txt K mg) {fd : FuncData} (F : FunD K d_law_plan.name d_law_plan.qual d_law_plan.params d_law_plan.body d_law_plan.scope (d_law_plan.dvs K) (d_law_plan.kws K) (He.fAd K d_law_plan.at_) fd) : FnOk P w K mg base C8.CX0 3 (He.fAd K d_law_plan.at_) fd ["pot"] (sp_law_plan K) := by
  have c_law_rule := c_law_rule (P := P) (w := w) (base := base) T
  have c_law_dip := c_law_dip (P := P) (w := w) (base := base) T
  refine F.ok sc_law_plan (fun vs H Q E h => ?_) (fun cdv A outer s H vs Q E hr h => ?_)
  · obtain ⟨a, n, rfl, _⟩ := h
    rfl
  · have hu := L2.hu_of hr
    obtain ⟨a, n, rfl, hs, hn, q⟩ := h
    refine ⟨_, (PSs.nox ((pss_one (ps_ret (pe_tup (pa_cons (pe_op op_add pe_int (C8.pe_c c_law_dip hr (by decide) rfl (pa_cons (pv 0) (pa_cons pe_int pa_nil)))) (pa_cons (pe_callTy (My.tuple_ofK (K := K) rfl) (by rfl) T.tuple (by decide +kernel) (pa_cons (pe_lc (own := [("k", 1)]) (g := (gName 1)) (tt := tYes) (by rfl) sc_law_plan.nd (pi_range1 (by rfl) T.range (pa_cons pe_int pa_nil)) (blkOk_by (N := N_law_plan) (sc := defScope s_law_plan) (by decide +kernel)) (fun _ _ _ _ _ => (pg_name (i := 1) sc_law_plan.nd rfl (by first | exact Or.inl rfl | exact Or.inr rfl))) (fun _ _ _ _ _ => pts_nil) (fun _ _ _ _ _ => (C8.pe_c c_law_rule hr (by decide) rfl (pa_cons (pv 0) pa_nil)))) pa_nil)) pa_nil))))))), ?_⟩
    have lt100 : ∀ m : Nat, m ≤ 60000 → m < 2 ^ 100 := fun m h => Nat.lt_of_le_of_lt h (by decide)
    refine ⟨_, rfl, a, n, 30, rfl, hs, lt100 _ (by omega), by decide, by decide, fun H1 k b1 s1 k0 k1 => ⟨_, _, rfl, rfl, 8, rfl, by decide, by decide, fun D hD => ?_⟩⟩
    have yD := same_new (o := .lst []) hD
    have naD : a ≠ D := by
      obtain ⟨_, _, _, e, _⟩ := s1
      exact ne_of_none e hD
    have hHD : H D = none := b1.none (by simpa using naD.symm) hD
    refine lc_range (lo := 0) (n := (8 : Int).toNat) (fun i H' => ∃ (as : List Addr) (rs : List RuleL), rs.length = i ∧ But [a] H H' ∧ SpringAt H' a (n + 1 + 7 * i) ∧ H' D = some (.lst (as.map V.ref)) ∧ Paired (RuleAt K H') as rs ∧ ∀ r ∈ rs, GoodRule r) ⟨[], [], rfl, b1.put (.inl hHD), s1.put naD, upd_same, .nil, fun x hx => by cases hx⟩ ?_ ?_
    · rintro i H2 hi ⟨as, rs, hl2, b2, s2, hD2, hp2, hr2⟩
      have hi8 : i < 8 := hi
      refine ⟨rfl, ?_⟩
      refine ⟨_, rfl, a, _, rfl, s2, by omega, fun H3 p r b3 s3 hr hgr => ?_⟩
      have hD3 := b3 _ _ (by simpa using naD.symm) hD2
      refine ⟨_, hD3, ?_, as ++ [p], rs ++ [r], by rw [List.length_append, hl2]; rfl, (b2.trans b3).put (.inl hHD), ((s3.put naD).mono (by omega)), by rw [upd_same, List.map_append]; rfl, paired_app (paired_map (fun _ _ _ x => tupU hD3 (But.tupS b3 s2 x)) hp2) (.cons (tupU hD3 hr) .nil), fun z hz => ?_⟩
      · rw [List.length_map, hp2.length, hl2]
        exact lt_line (by omega)
      · rcases List.mem_append.mp hz with hz | hz
        · exact hr2 z hz
        · rw [List.mem_singleton.mp hz]; exact hgr
    · rintro H2 ⟨as, rs, hl2, b2, s2, hD2, hp2, hr2⟩
      refine ⟨D, _, rfl, .inl ⟨SqL.of hD2, fun t ht => ?_⟩⟩
      have yt := same_new (o := .tup (as.map V.ref)) ht
      refine ⟨by show 2 ≤ sizeLine; decide, fun p hp => ?_⟩
      have yp := same_new (o := .tup [.int (1 + k), .ref t]) hp
      have yy := yt.trans yp
      exact q _ p (1 + k) rs (b2.trans (But.of yy)) ((s2.same yy).mono (by show n + 1 + 7 * 8 ≤ n + 60; omega)) ⟨t, as, SqT.of upd_same, SqT.of (yp _ _ upd_same), paired_map (fun _ _ _ x => same_tup yy x) hp2⟩ ⟨hl2, hr2⟩ (by omega) (by omega)
theorem c_law_plan (T : Txt K mg) : C8.Cal P w K mg base 3 "_law_plan" (sp_law_plan K) [] := by
  obtain ⟨fd, F⟩ := T.f_law_plan
  exact ⟨_, fd, _, _, ok_law_plan T F, T.g_law_plan, F.kp, F.bindsN (fun _ _ _ _ _ _ us hl => match us, hl with | [_], _ => rfl), .nil⟩
def sp_law_moments (K : PySem.W.Frag) : Sp := fun vs H Q _ => vs = [] ∧ ∀ t, H t = none → Q (.ref t) (upd H t (.lst (moms.map V.str)))
set_option maxHeartbeats 2000000 in
theorem ok_law_moments (T : Txt K mg) {fd : FuncData} (F : FunD K d_law_moments.name d_law_moments.qual d_law_moments.params d_law_moments.body d_law_moments.scope (d_law_moments.dvs K) (d_law_moments.kws K) (He.fAd K d_law_moments.at_) fd) : FnOk P w K mg base C8.CX0 1 (He.fAd K d_law_moments.at_) fd [] (sp_law_moments K) := by
  refine F.ok sc_law_moments (fun vs H Q E h => ?_) (fun cdv A outer s H vs Q E hr h => ?_)
  · obtain ⟨rfl, _⟩ := h
    rfl
  · have hu := L2.hu_of hr
    obtain ⟨rfl, q⟩ := h
    refine ⟨_, (PSs.nox ((pss_one (ps_ret (pe_lst (pa_cons pe_str (pa_cons pe_str (pa_cons pe_str (pa_cons pe_str (pa_cons pe_str (pa_cons pe_str (pa_cons pe_str (pa_cons pe_str pa_nil))))))))))))), ?_⟩
    exact ⟨by show 8 ≤ sizeLine; decide, fun t ht => q t ht⟩
theorem c_law_moments (T : Txt K mg) : C8.Cal P w K mg base 1 "_law_moments" (sp_law_moments K) [] := by
  obtain ⟨fd, F⟩ := T.f_law_moments
  exact ⟨_, fd, _, _, ok_law_moments T F, T.g_law_moments, F.kp, F.bindsN (fun _ _ _ _ _ _ us hl => match us, hl with | [], _ => rfl), .nil⟩
def sp_law_book (K : PySem.W.Frag) : Sp := fun vs H Q _ => ∃ (p : Addr) (d : Int) (rs : List RuleL), vs = [.ref p] ∧ PlanAt K H p d rs ∧ GoodB rs ∧ 1 ≤ d ∧ d ≤ 30 ∧ ∀ H' b, H b = none → Same H H' → BookAt K H' b d rs → Q (.ref b) H'
set_option maxHeartbeats 2000000 in
theorem ok_law_book (T : Txt K mg) {fd : FuncData} (F : FunD K d_law_book.name d_law_book.qual d_law_book.params d_law_book.body d_law_book.scope (d_law_book.dvs K) (d_law_book.kws K) (He.fAd K d_law_book.at_) fd) : FnOk P w K mg base C8.CX0 5 (He.fAd K d_law_book.at_) fd ["plan"] (sp_law_book K) := by
  have c_Book_init := c_Book_init (P := P) (w := w) (base := base) T
  refine F.ok sc_law_book (fun vs H Q E h => ?_) (fun cdv A outer s H vs Q E hr h => ?_)
  · obtain ⟨p, d, rs, rfl, _⟩ := h
    rfl
  · have hu := L2.hu_of hr
    obtain ⟨p, d, rs, rfl, hp, hg, h1, h2, q⟩ := h
    refine ⟨_, (PSs.nox ((pss_cons (ps_set (i := 1) sc_law_book.nd rfl (by first | exact Or.inl rfl | exact Or.inr rfl) (pe_ix (My.ix_tupK (K := K) rfl) (pv 0) pe_int (fun _ _ => rfl)))
  (pss_one (ps_ret (C8.pe_mk c_Book_init hr (by decide) rfl (pa_cons (pe_ix (My.ix_tupK (K := K) rfl) (pv 0) pe_int (fun _ _ => rfl)) (pa_cons (pe_ix (My.ix_tupK (K := K) rfl) (pv 1) pe_int (fun _ _ => rfl)) (pa_cons (pe_ix (My.ix_tupK (K := K) rfl) (pv 1) pe_int (fun _ _ => rfl)) (pa_cons (pe_ix (My.ix_tupK (K := K) rfl) (pv 1) pe_int (fun _ _ => rfl)) (pa_cons (pe_ix (My.ix_tupK (K := K) rfl) (pv 1) pe_int (fun _ _ => rfl)) (pa_cons (pe_ix (My.ix_tupK (K := K) rfl) (pv 1) pe_int (fun _ _ => rfl)) (pa_cons (pe_ix (My.ix_tupK (K := K) rfl) (pv 1) pe_int (fun _ _ => rfl)) (pa_cons (pe_ix (My.ix_tupK (K := K) rfl) (pv 1) pe_int (fun _ _ => rfl)) (pa_cons (pe_ix (My.ix_tupK (K := K) rfl) (pv 1) pe_int (fun _ _ => rfl)) pa_nil))))))))))))))), ?_⟩
    obtain ⟨t, as, hp1, ht1, h3⟩ := hp
    obtain ⟨a0, a1, a2, a3, a4, a5, a6, a7, rfl⟩ := len8 h3 hg.len
    refine ⟨_, rfl, p, _, 1, _, rfl, rfl, hp1, rfl, ?_⟩
    refine ⟨_, rfl, p, _, 0, _, rfl, rfl, hp1, rfl, ?_⟩
    iterate 8 refine ⟨_, rfl, t, _, _, _, rfl, rfl, ht1, rfl, ?_⟩
    intro x dx nx ndx nex
    have s0 : Same H (upd (upd H dx (.own x)) x (.ins (He.ga K "Book") dx [])) := (same_new ndx).trans (same_upd (Same.refl _) (by rw [upd_ne nex.symm]; exact nx))
    refine ⟨x, dx, d, _, rs, rfl, upd_same, h1, h2, paired_map (fun a r _ hr => same_tup s0 hr) h3, hg.len, hg.good, fun H' t2 bt hx ht => ⟨rfl, ?_⟩⟩
    have s1 : Same H H' := fun c o e => bt c o (by simpa using ne_of_none e nx) (s0 _ _ e)
    exact q _ x nx s1 ⟨dx, t2, _, hx, SqT.of ht, paired_map (fun a r _ hr => same_tup s1 hr) h3, hg.len⟩
theorem c_law_book (T : Txt K mg) : C8.Cal P w K mg base 5 "_law_book" (sp_law_book K) [] := by
  obtain ⟨fd, F⟩ := T.f_law_book
  exact ⟨_, fd, _, _, ok_law_book T F, T.g_law_book, F.kp, F.bindsN (fun _ _ _ _ _ _ us hl => match us, hl with | [_], _ => rfl), .nil⟩
def sp_law_made (K : PySem.W.Frag) : Sp := fun vs H Q _ => ∃ (a p : Addr) (n : Nat) (d : Int) (rs : List RuleL), vs = [.ref a, .ref p] ∧ SpringAt H a n ∧ n ≤ 30000 ∧ PlanAt K H p d rs ∧ GoodB rs ∧ 1 ≤ d ∧ d ≤ 30 ∧ ∀ H' b, But [a] H H' → SpringAt H' a (n + 10) → BookAt K H' b d rs → Q (.ref b) H'
set_option maxHeartbeats 2000000 in
theorem ok_law_made (T : Txt K mg) {fd : FuncData} (F : FunD K d_law_made.name d_law_made.qual d_law_made.params d_law_made.body d_law_made.scope (d_law_made.dvs K) (d_law_made.kws K) (He.fAd K d_law_made.at_) fd) : FnOk P w K mg base C8.CX0 6 (He.fAd K d_law_made.at_) fd ["pot", "plan"] (sp_law_made K) := by
  have c_law_book := c_law_book (P := P) (w := w) (base := base) T
  have c_Book_with_days := c_Book_with_days (P := P) (w := w) (base := base) T
  have c_law_dip := c_law_dip (P := P) (w := w) (base := base) T
  have c_Book_taking := c_Book_taking (P := P) (w := w) (base := base) T
  have c_Book_with_rule := c_Book_with_rule (P := P) (w := w) (base := base) T
  have kn_Book_init_none := kn_Book_init_none (P := P) (w := w) (base := base) T
  have c_law_moments := c_law_moments (P := P) (w := w) (base := base) T
  refine F.ok sc_law_made (fun vs H Q E h => ?_) (fun cdv A outer s H vs Q E hr h => ?_)
  · obtain ⟨a, p, n, d, rs, rfl, _⟩ := h
    rfl
  · have hu := L2.hu_of hr
    obtain ⟨a, p, n, d, rs, rfl, hs, hn, hp, hg, h1, h2, q⟩ := h
    refine ⟨_, (PSs.nox ((pss_cons (ps_par3 (i := 2) (j := 3) (l := 4) (by rfl) sc_law_made.nd rfl rfl rfl (by decide) (by decide) (by decide) rfl rfl rfl (pa_cons (C8.pe_c c_law_dip hr (by decide) rfl (pa_cons (pv 0) (pa_cons pe_int pa_nil))) (pa_cons (pe_ix (My.ix_tupK (K := K) rfl) (pv 1) pe_int (fun _ _ => rfl)) (pa_cons (My.pe_c0 c_law_moments hr (by decide) rfl) pa_nil))) (by rfl))
  (pss_cons (ps_if (pt_cmpR op_eq (pv 2) pe_int (nomark _))
  (pss_cons (ps_set (i := 5) sc_law_made.nd rfl (by first | exact Or.inl rfl | exact Or.inr rfl) (My.pe_mkN kn_Book_init_none hr (by decide) rfl (pa_cons (pe_ix (My.ix_tupK (K := K) rfl) (pv 1) pe_int (fun _ _ => rfl)) pa_nil) pk_nil))
  (pss_cons (ps_for PassesOwn.never rfl (pi_range1 (by rfl) T.range (pa_cons pe_int pa_nil)) (pg_name (i := 6) sc_law_made.nd rfl (by first | exact Or.inl rfl | exact Or.inr rfl))
  (pss_one (ps_set (i := 5) sc_law_made.nd rfl (by first | exact Or.inl rfl | exact Or.inr rfl) (C8.pe_mt c_Book_with_rule hr (by decide) (pv 5) (pa_cons (pe_ix (My.ix_listK (K := K) rfl) (pv 4) (pv 6) (fun _ _ => rfl)) (pa_cons (pe_ix (My.ix_tupK (K := K) rfl) (pv 3) (pv 6) (fun _ _ => rfl)) pa_nil))))))
  (pss_one (ps_ret (pv 5)))))
  pss_nil)
  (pss_cons (ps_if (pt_cmpR op_eq (pv 2) pe_int (nomark _))
  (pss_cons (ps_set (i := 7) sc_law_made.nd rfl (by first | exact Or.inl rfl | exact Or.inr rfl) (C8.pe_c c_law_dip hr (by decide) rfl (pa_cons (pv 0) (pa_cons pe_int pa_nil))))
  (pss_cons (ps_set (i := 8) sc_law_made.nd rfl (by first | exact Or.inl rfl | exact Or.inr rfl) (C8.pe_c c_law_book hr (by decide) rfl (pa_cons (pe_tup (pa_cons (pe_ix (My.ix_tupK (K := K) rfl) (pv 1) pe_int (fun _ _ => rfl)) (pa_cons (pe_op (My.catAK (K := K) rfl) (pe_slice (My.sl_tupAK (K := K) rfl) (pv 3) po_none (po_some (pv 7))) (pe_op (My.repAK (K := K) rfl) (pe_tup (pa_cons (pe_tup pa_nil) pa_nil)) (pe_op op_sub pe_int (pv 7)))) pa_nil))) pa_nil)))
  (pss_cons (ps_set (i := 9) sc_law_made.nd rfl (by first | exact Or.inl rfl | exact Or.inr rfl) (C8.pe_c c_law_book hr (by decide) rfl (pa_cons (pe_tup (pa_cons (pe_op op_add pe_int (C8.pe_c c_law_dip hr (by decide) rfl (pa_cons (pv 0) (pa_cons pe_int pa_nil)))) (pa_cons (pe_op (My.catAK (K := K) rfl) (pe_op (My.repAK (K := K) rfl) (pe_tup (pa_cons (pe_tup (pa_cons pe_str pa_nil)) pa_nil)) (pv 7)) (pe_slice (My.sl_tupAK (K := K) rfl) (pv 3) (po_some (pv 7)) po_none)) pa_nil))) pa_nil)))
  (pss_one (ps_ret (C8.pe_mt c_Book_taking hr (by decide) (pv 8) (pa_cons (pv 9) (pa_cons (pe_callTy (My.tuple_ofK (K := K) rfl) (by rfl) T.tuple (by decide +kernel) (pa_cons (My.pe_revLK (K := K) rfl (pe_slice (My.sl_listK (K := K) rfl) (pv 4) (po_some (pv 7)) po_none)) pa_nil)) pa_nil))))))))
  pss_nil)
  (pss_cons (ps_if (pt_cmpR op_eq (pv 2) pe_int (nomark _))
  (pss_one (ps_ret (C8.pe_mt c_Book_with_days hr (by decide) (C8.pe_c c_law_book hr (by decide) rfl (pa_cons (pe_tup (pa_cons (pe_op op_add pe_int (C8.pe_c c_law_dip hr (by decide) rfl (pa_cons (pv 0) (pa_cons pe_int pa_nil)))) (pa_cons (pv 3) pa_nil))) pa_nil)) (pa_cons (pe_ix (My.ix_tupK (K := K) rfl) (pv 1) pe_int (fun _ _ => rfl)) pa_nil))))
  pss_nil)
  (pss_one (ps_ret (C8.pe_c c_law_book hr (by decide) rfl (pa_cons (pv 1) pa_nil)))))))))), ?_⟩
    have lt100 : ∀ m : Nat, m ≤ 60000 → m < 2 ^ 100 := fun m h => Nat.lt_of_le_of_lt h (by decide)
    refine ⟨_, rfl, a, n, 4, rfl, hs, lt100 _ (by omega), by decide, by decide, fun H1 way b1 s1 w0 w1 => ?_⟩
    have hp1 := hp.draw b1 hs
    obtain ⟨t, as, hp2, ht2, h3⟩ := id hp1
    refine ⟨_, rfl, p, _, 1, _, rfl, rfl, hp2, rfl, rfl, fun wl hwl => ⟨_, _, _, rfl, ?_⟩⟩
    have yw := same_new (o := .lst (moms.map V.str)) hwl
    have hw1 : upd H1 wl (.lst (moms.map V.str)) wl = some (.lst (moms.map V.str)) := upd_same
    have hp3 := hp1.same yw
    have hp2 := same_tup yw hp2
    have ht2 := same_tup yw ht2
    have h3 := paired_map (fun _ _ _ x => same_tup yw x) h3
    have s2 := s1.same yw
    have b2 := b1.trans (But.of yw)
    show Ends.nx _ [some (.ref a), some (.ref p), some (.int way), some (.ref t), some (.ref wl), none, none, none, none, none] (upd H1 wl (.lst (moms.map V.str)))
    generalize upd H1 wl (.lst (moms.map V.str)) = H2 at hw1 hp3 hp2 ht2 h3 s2 b2
    refine ⟨_, rfl, rfl, _, rfl, L2.ite2 (fun c => ?_) (fun _ => ?_)⟩
    · clear c
      refine ⟨_, rfl, p, _, 0, _, rfl, rfl, hp2, rfl, rfl, rfl, ?_⟩
      intro x dx nx ndx nex
      have t0 : Same H2 (upd (upd H2 dx (.own x)) x (.ins (He.ga K "Book") dx [])) := (same_new ndx).trans (same_upd (Same.refl _) (by rw [upd_ne nex.symm]; exact nx))
      have pre : ∀ HH : Hp, Paired (RuleAt K HH) [He.dflAt ("Book", some "__init__") 0 K, He.dflAt ("Book", some "__init__") 1 K, He.dflAt ("Book", some "__init__") 2 K, He.dflAt ("Book", some "__init__") 3 K, He.dflAt ("Book", some "__init__") 4 K, He.dflAt ("Book", some "__init__") 5 K, He.dflAt ("Book", some "__init__") 6 K, He.dflAt ("Book", some "__init__") 7 K] [[], [], [], [], [], [], [], []] := fun HH =>
        .cons (T.dfl_Book_init_0 _) (.cons (T.dfl_Book_init_1 _) (.cons (T.dfl_Book_init_2 _) (.cons (T.dfl_Book_init_3 _) (.cons (T.dfl_Book_init_4 _) (.cons (T.dfl_Book_init_5 _) (.cons (T.dfl_Book_init_6 _) (.cons (T.dfl_Book_init_7 _) .nil)))))))
      refine ⟨x, dx, d, _, [[], [], [], [], [], [], [], []], rfl, upd_same, h1, h2, pre _, rfl, fun r hr => by rw [List.eq_of_mem_replicate (n := 8) (a := ([] : RuleL)) hr]; exact good_nil, fun H3 t2 bt hx ht => ⟨rfl, ?_⟩⟩
      have t1 : Same H2 H3 := fun c o e => bt c o (by simpa using ne_of_none e nx) (t0 _ _ e)
      have hM : BookAt K H3 x d [[], [], [], [], [], [], [], []] := ⟨dx, t2, _, hx, SqT.of ht, pre _, rfl⟩
      refine ⟨8, rfl, by decide, by decide, ?_⟩
      refine for_range (n := (8 : Int).toNat) (fun i σ H' => ∃ (b : Addr) (o6 : Option V), σ = [some (.ref a), some (.ref p), some (.int way), some (.ref t), some (.ref wl), some (.ref b), o6, none, none, none] ∧ Same H2 H' ∧ BookAt K H' b d (rs.take i ++ List.replicate (8 - i) [])) ⟨x, none, rfl, t1, hM⟩ ?_ ?_
      · rintro i σ H4 hi ⟨b, o6, rfl, s4, hB⟩
        have hi8 : i < 8 := hi
        have hr := hg.get hi8
        obtain ⟨ai, hai, hra⟩ := paired_get h3 hr
        obtain ⟨m, hm⟩ : ∃ m, moms[i]? = some m := ⟨_, List.getElem?_eq_getElem (show i < moms.length from hi8)⟩
        have e0 : (0 : Int) + (i : Int) = (i : Int) := by omega
        obtain ⟨dxb, tb, ab, hbb, _⟩ := id hB
        have gb : ∀ r ∈ rs.take i ++ List.replicate (8 - i) [], GoodRule r := fun r hr => by
          rcases List.mem_append.mp hr with z | z
          · exact hg.good _ (List.mem_of_mem_take z)
          · rw [List.eq_of_mem_replicate z]; exact good_nil
        refine ⟨_, rfl, b, dxb, _, rfl, hbb, rfl, _, rfl, _, rfl, wl, _, _, _, rfl, rfl, SqL.of (s4 _ _ hw1), by rw [e0]; exact atI_nat (by rw [List.getElem?_map, hm]; rfl), _, rfl, _, rfl, t, _, _, _, rfl, rfl, same_tup s4 ht2, by rw [e0]; exact atI_nat (by rw [List.getElem?_map, hai]; rfl), ?_⟩
        refine ⟨b, ai, d, _, m, i, at_ rs i, rfl, hB, hm, same_tup s4 hra, hg.good _ (List.mem_of_getElem? hr), gb, h1, h2, fun H5 b5 _ s5 hB5 => ?_⟩
        rw [set_next hg.len hi8 hr] at hB5
        exact ⟨b5, _, rfl, s4.trans s5, hB5⟩
      · rintro σ H4 ⟨b, o6, rfl, s4, hB⟩
        have e8 : rs.take 8 ++ List.replicate (8 - 8) [] = rs := by
          rw [List.take_of_length_le (by rw [hg.len]; exact Nat.le_refl _)]
          exact List.append_nil _
        have hB8 : BookAt K H4 b d (rs.take 8 ++ List.replicate (8 - 8) []) := hB
        rw [e8] at hB8
        exact ⟨_, rfl, q _ b (b2.trans (But.of s4)) ((s2.same s4).mono (by omega)) hB8⟩
    refine ⟨_, rfl, rfl, _, rfl, L2.ite2 (fun c => ?_) (fun _ => ?_)⟩
    · clear c
      refine ⟨_, rfl, a, n + 1, 9, rfl, s2, lt100 _ (by omega), by decide, by decide, fun H3 spot b3 s3 k0 k1 => ?_⟩
      obtain ⟨i, hi, rfl⟩ : ∃ i : Nat, i < 9 ∧ spot = (i : Int) := ⟨spot.toNat, by omega, by omega⟩
      have hp3 := But.tupS b3 s2 hp2
      have ht3 := But.tupS b3 s2 ht2
      have h33 := paired_map (fun _ _ _ x => But.tupS b3 s2 x) h3
      have hw3 := rawS b3 s2 hw1 (strs_no _)
      have b03 := b2.trans b3
      show Ends.nx _ [some (.ref a), some (.ref p), some (.int way), some (.ref t), some (.ref wl), none, none, some (.int (i : Int)), none, none] H3
      refine ⟨_, rfl, p, _, 0, _, rfl, rfl, hp3, rfl, _, rfl, _, rfl, _, rfl, ?_⟩
      refine slA_to ht3 fun m1 H4 z4 hm1 => ?_
      refine ⟨Nat.zero_le _, fun e he => ⟨by show 1 ≤ sizeLine; decide, fun g hg' => ⟨_, rfl, _, _, rfl, rfl, ?_⟩⟩⟩
      have ye := same_new (o := .tup []) he
      have yg := same_new (o := .tup [V.ref e]) hg'
      have re : RuleAt K (upd (upd H4 e (.tup [])) g (.tup [.ref e])) e [] := SqT.of (yg _ _ upd_same)
      have e8 : (8 : Int) - (i : Int) = ((8 - i : Nat) : Int) := by omega
      refine repA_of2 e8 (SqT.of upd_same) (fun z => by cases z) (by omega) (by show 1 ≤ 1000; decide) fun m2 H5 z5 hm2 => ?_
      have f1 : (List.replicate (8 - i) [V.ref e]).flatten = (List.replicate (8 - i) e).map V.ref := by rw [flat_one, List.map_replicate]
      rw [f1] at hm2
      have zz := (ye.trans yg).trans z5
      have hm1b := same_tup zz hm1
      have al8 : as.length = 8 := h3.length.trans hg.len
      refine catA_of hm1b hm2 ?_ fun m3 H6 z6 hm3 => ?_
      · rw [List.length_take, List.length_map, List.length_map, List.length_replicate]
        exact Nat.le_of_lt (lt_line (by omega))
      have z46 := zz.trans z6
      have z36 := z4.trans z46
      have e3 : (as.map V.ref).take i ++ (List.replicate (8 - i) e).map V.ref = (as.take i ++ List.replicate (8 - i) e).map V.ref := by rw [List.map_append, List.map_take]
      rw [e3] at hm3
      refine ⟨by show 2 ≤ sizeLine; decide, fun pl hpl => ?_⟩
      have yp := same_new (o := .tup [.int d, .ref m3]) hpl
      have g1 : GoodB (rs.take i ++ List.replicate (8 - i) []) := ⟨by rw [List.length_append, List.length_take, List.length_replicate, hg.len]; omega, fun r hr => by
        rcases List.mem_append.mp hr with z | z
        · exact hg.good _ (List.mem_of_mem_take z)
        · rw [List.eq_of_mem_replicate z]; exact good_nil⟩
      have pa1 : PlanAt K (upd H6 pl (.tup [.int d, .ref m3])) pl d (rs.take i ++ List.replicate (8 - i) []) :=
        ⟨m3, _, SqT.of upd_same, same_tup yp hm3, paired_app (paired_take i (paired_map (fun _ _ _ x => same_tup (z36.trans yp) x) h33)) (paired_rep (show RuleAt K _ e [] from same_tup yp (same_tup z6 (same_tup z5 re))) _)⟩
      have z37 := z36.trans yp
      have s7 := s3.same z37
      refine ⟨pl, d, _, rfl, pa1, g1, h1, h2, fun H8 bo hbo z8 hBo => ?_⟩
      have s8 := s7.same z8
      have z38 := z37.trans z8
      show Ends.nx _ [some (.ref a), some (.ref p), some (.int way), some (.ref t), some (.ref wl), none, none, some (.int (i : Int)), some (.ref bo), none] H8
      refine ⟨_, rfl, a, n + 2, 30, rfl, s8, lt100 _ (by omega), by decide, by decide, fun H9 k b9 s9 kk0 kk1 => ⟨_, _, rfl, rfl, ?_⟩⟩
      refine ⟨by show 1 ≤ sizeLine; decide, fun e2 he2 => ⟨by show 1 ≤ sizeLine; decide, fun g2 hg2 => ?_⟩⟩
      have ye2 := same_new (o := .tup [V.str "off"]) he2
      have yg2 := same_new (o := .tup [V.ref e2]) hg2
      have re2 : RuleAt K (upd (upd H9 e2 (.tup [.str "off"])) g2 (.tup [.ref e2])) e2 ["off"] := SqT.of (yg2 _ _ upd_same)
      refine ⟨_, rfl, ?_⟩
      refine repA_of (SqT.of upd_same) (fun z => by cases z) (by omega) (by show 1 ≤ 1000; decide) fun m4 H10 z10 hm4 => ?_
      have f2 : (List.replicate i [V.ref e2]).flatten = (List.replicate i e2).map V.ref := by rw [flat_one, List.map_replicate]
      rw [f2] at hm4
      have z910 := (ye2.trans yg2).trans z10
      have ht10 := same_tup z910 (But.tupS b9 s8 (same_tup z38 ht3))
      refine ⟨_, rfl, _, rfl, _, rfl, ?_⟩
      refine slA_from ht10 fun m5 H11 z11 hm5 => ?_
      refine catA_of (same_tup z11 hm4) hm5 ?_ fun m6 H12 z12 hm6 => ?_
      · rw [List.length_drop, List.length_map, List.length_map, List.length_replicate]
        exact Nat.le_of_lt (lt_line (by omega))
      have e4 : (List.replicate i e2).map V.ref ++ (as.map V.ref).drop i = (List.replicate i e2 ++ as.drop i).map V.ref := by rw [List.map_append, List.map_drop]
      rw [e4] at hm6
      refine ⟨by show 2 ≤ sizeLine; decide, fun pl2 hpl2 => ?_⟩
      have yp2 := same_new (o := .tup [.int (1 + k), .ref m6]) hpl2
      have z912 := (z910.trans z11).trans z12
      have z913 := z912.trans yp2
      have g2' : GoodB (List.replicate i (["off"] : RuleL) ++ rs.drop i) := ⟨by rw [List.length_append, List.length_drop, List.length_replicate, hg.len]; omega, fun r hr => by
        rcases List.mem_append.mp hr with z | z
        · rw [List.eq_of_mem_replicate z]; exact good_off
        · exact hg.good _ (List.mem_of_mem_drop z)⟩
      have h9 : Paired (RuleAt K H9) as rs := paired_map (fun _ _ _ x => But.tupS b9 s8 (same_tup z38 x)) h33
      have pa2 : PlanAt K (upd H12 pl2 (.tup [.int (1 + k), .ref m6])) pl2 (1 + k) (List.replicate i (["off"] : RuleL) ++ rs.drop i) :=
        ⟨m6, _, SqT.of upd_same, same_tup yp2 hm6, paired_app (paired_rep (show RuleAt K _ e2 ["off"] from same_tup yp2 (same_tup z12 (same_tup z11 (same_tup z10 re2)))) _) (paired_drop i (paired_map (fun _ _ _ x => same_tup z913 x) h9))⟩
      refine ⟨pl2, 1 + k, _, rfl, pa2, g2', by omega, by omega, fun H14 bt hbt z14 hBt => ?_⟩
      have hBo9 : BookAt K H9 bo d (rs.take i ++ List.replicate (8 - i) []) := by
        obtain ⟨dx, u, qs, q1, q2, q3, q4⟩ := hBo
        exact ⟨dx, u, qs, rawS b9 s8 q1 (fun _ _ z => by cases z), But.tupS b9 s8 q2, paired_map (fun x y _ hx => But.tupS b9 s8 hx) q3, q4⟩
      have z914 := z913.trans z14
      have hBo14 := hBo9.same z914
      have hw14 := z914 _ _ (rawS b9 s8 (z38 _ _ hw3) (strs_no _))
      show Ends.nx _ [some (.ref a), some (.ref p), some (.int way), some (.ref t), some (.ref wl), none, none, some (.int (i : Int)), some (.ref bo), some (.ref bt)] H14
      obtain ⟨dxo, _, _, hbo1, _⟩ := id hBo14
      refine ⟨_, rfl, bo, dxo, _, rfl, hbo1, rfl, _, rfl, _, rfl, _, rfl, _, rfl, wl, _, rfl, SqL.of hw14, fun q1 hq1 => ?_⟩
      have y1 := same_new (o := .lst (cutV (moms.map V.str) (some (i : Int)) none)) hq1
      refine ⟨q1, _, rfl, SqL.of upd_same, fun q2 hq2 => ?_⟩
      have y2 := same_new (o := .lst (cutV (moms.map V.str) (some (i : Int)) none).reverse) hq2
      refine ⟨q2, _, rfl, .inl ⟨SqL.of upd_same, fun m7 hm7 => ?_⟩⟩
      have y3 := same_new (o := .tup (cutV (moms.map V.str) (some (i : Int)) none).reverse) hm7
      have yy := (y1.trans y2).trans y3
      have em : (cutV (moms.map V.str) (some (i : Int)) none).reverse = ((moms.drop i).reverse).map V.str := by rw [cut_from, List.map_reverse, List.map_drop]
      refine ⟨bo, bt, m7, d, 1 + k, _, _, (moms.drop i).reverse, rfl, hBo14.same yy, hBt.same yy, g1, g2', by rw [← em]; exact SqT.of upd_same, (List.reverse_perm _).nodup_iff.mpr ((List.drop_sublist i moms).nodup (by decide +kernel)), by rw [List.length_reverse, List.length_drop]; exact Nat.le_trans (Nat.sub_le _ _) (by decide), fun z hz => List.mem_of_mem_drop (List.mem_reverse.mp hz), h1, h2, fun H16 bf hbf z16 hBf => ?_⟩
      obtain ⟨r0, r1, r2, r3, r4, r5, r6, r7, erb⟩ := len8r hg.len
      have ef : takeR (moms.drop i).reverse (rs.take i ++ List.replicate (8 - i) []) (List.replicate i (["off"] : RuleL) ++ rs.drop i) = rs := by rw [erb]; exact made_one hi
      rw [ef] at hBf
      have s9' := s9.same ((z914.trans yy).trans z16)
      exact q _ bf (((b03.trans (But.of z38)).trans b9).trans (But.of ((z914.trans yy).trans z16))) (s9'.mono (by omega)) hBf
    refine ⟨_, rfl, rfl, _, rfl, L2.ite2 (fun c => ?_) (fun _ => ?_)⟩
    · clear c
      refine ⟨_, rfl, a, n + 1, 30, rfl, s2, lt100 _ (by omega), by decide, by decide, fun H3 k b3 s3 k0 k1 => ⟨_, _, rfl, rfl, _, rfl, by show 2 ≤ sizeLine; decide, fun m hm => ?_⟩⟩
      have ym := same_new (o := .tup [.int (1 + k), .ref t]) hm
      have ht3 := same_tup ym (But.tupS b3 s2 ht2)
      have hp3 := same_tup ym (But.tupS b3 s2 hp2)
      have h33 := paired_map (fun _ _ _ x => same_tup ym (But.tupS b3 s2 x)) h3
      refine ⟨m, 1 + k, rs, rfl, ⟨t, as, SqT.of upd_same, ht3, h33⟩, hg, by omega, by omega, fun H5 b hb s5 hB => ?_⟩
      obtain ⟨dxb, tb, ab, hbb, _⟩ := id hB
      refine ⟨b, dxb, _, rfl, hbb, rfl, _, rfl, p, _, 0, _, rfl, rfl, same_tup s5 hp3, rfl, ?_⟩
      refine ⟨b, 1 + k, d, rs, rfl, hB, hg, h1, h2, fun H6 b2' hb2 s6 hB2 => ?_⟩
      have ss := (ym.trans s5).trans s6
      exact q _ b2' ((b2.trans b3).trans (But.of ss)) ((s3.same ss).mono (by omega)) hB2
    refine ⟨_, rfl, p, d, rs, rfl, hp3, hg, h1, h2, fun H3 b hb s3 hB => ?_⟩
    exact q _ b (b2.trans (But.of s3)) ((s2.same s3).mono (by omega)) hB
theorem c_law_made (T : Txt K mg) : C8.Cal P w K mg base 6 "_law_made" (sp_law_made K) [] := by
  obtain ⟨fd, F⟩ := T.f_law_made
  exact ⟨_, fd, _, _, ok_law_made T F, T.g_law_made, F.kp, F.bindsN (fun _ _ _ _ _ _ us hl => match us, hl with | [_, _], _ => rfl), .nil⟩
end
end K04

namespace K04
open PySem PySem.Spec PyProof.Rows L2 My StX
/-! ### the text of a book -/
def lineS (m : Str) (r : RuleL) : Str := Txt.join " " ((m ++ ":") :: r)
def linesN (n : Nat) (rs : List RuleL) : List Str := (List.range n).map fun i => lineS (moms.getD i Str.empty) (at_ rs i)
def linesS (d : Int) (rs : List RuleL) : List Str := ("days " ++ numS d) :: linesN 8 rs
def bookS (d : Int) (rs : List RuleL) : Str := Txt.join "\n" (linesS d rs)
theorem linesN_more (n : Nat) (rs : List RuleL) : linesN (n + 1) rs = linesN n rs ++ [lineS (moms.getD n Str.empty) (at_ rs n)] := by
  unfold linesN
  rw [List.range_succ, List.map_append]
  rfl
theorem joinL_len (a : List Nat) : ∀ ys : List (List Nat), (TL.joinL a ys).length ≤ (ys.map (·.length)).sum + ys.length * a.length
  | [] => Nat.zero_le _
  | [y] => by
    show y.length ≤ y.length + 0 + 1 * a.length
    omega
  | y :: z :: r => by
    have ih := joinL_len a (z :: r)
    show (y ++ (a ++ TL.joinL a (z :: r))).length ≤ y.length + ((z :: r).map (·.length)).sum + ((z :: r).length + 1) * a.length
    rw [List.length_append, List.length_append, Nat.add_mul]
    omega
theorem join_len (a : Str) (ys : List Str) : (Txt.join a ys).length ≤ (ys.map (·.length)).sum + ys.length * a.length := by
  have e : (ys.map TL.tl).map (·.length) = ys.map (·.length) := by
    rw [List.map_map]
    exact List.map_congr_left fun x _ => (len_tl x).symm
  have h := joinL_len (TL.tl a) (ys.map TL.tl)
  rw [e, List.length_map, ← len_tl] at h
  rw [len_tl, TL.join_eq, TL.tl_join]
  exact h
theorem act_len : ∀ x ∈ acts, x.length ≤ 4 := by decide +kernel
theorem mom_len (i : Nat) : (moms.getD i Str.empty).length ≤ 6 := by
  have h : ∀ x ∈ moms, x.length ≤ 6 := by decide +kernel
  rw [List.getD_eq_getElem?_getD]
  cases e : moms[i]? with
  | none => exact Nat.zero_le _
  | some x => exact h x (List.mem_of_getElem? e)
theorem rule_sum : ∀ {r : RuleL}, (∀ x ∈ r, x ∈ acts) → (r.map (·.length)).sum ≤ 4 * r.length
  | [], _ => Nat.le_refl _
  | x :: r, h => by
    have h1 := act_len x (h x (List.mem_cons_self ..))
    have h2 := rule_sum (r := r) fun y hy => h y (List.mem_cons_of_mem _ hy)
    show x.length + (r.map (·.length)).sum ≤ 4 * (r.length + 1)
    omega
theorem colon_len {m : Str} (h : m.length ≤ 6) : (m ++ ":").length ≤ 7 := app_len 6 1 h (by decide +kernel)
theorem line_pre {m : Str} {r : RuleL} (hm : m.length ≤ 6) (hr : GoodRule r) : (((m ++ ":") :: r).map (·.length)).sum + ((m ++ ":") :: r).length * (" " : Str).length ≤ 40 := by
  have h1 := colon_len hm
  have h2 := rule_sum hr.2
  have h3 := hr.1
  have e : (" " : Str).length = 1 := by decide +kernel
  rw [e]
  show (m ++ ":").length + (r.map (·.length)).sum + (r.length + 1) * 1 ≤ 40
  omega
theorem lineS_len {m : Str} {r : RuleL} (hm : m.length ≤ 6) (hr : GoodRule r) : (lineS m r).length ≤ 40 := Nat.le_trans (join_len _ _) (line_pre hm hr)
theorem linesN_sum {rs : List RuleL} (hg : GoodB rs) : ∀ n : Nat, n ≤ 8 → ((linesN n rs).map (·.length)).sum ≤ 40 * n
  | 0, _ => Nat.le_refl _
  | n + 1, h => by
    have h1 := linesN_sum hg n (by omega)
    have h2 := lineS_len (mom_len n) (hg.good _ (List.mem_of_getElem? (hg.get (i := n) (by omega))))
    rw [linesN_more, List.map_append, List.sum_append]
    show _ + ((lineS (moms.getD n Str.empty) (at_ rs n)).length + 0) ≤ _
    omega
theorem linesN_len (n : Nat) (rs : List RuleL) : (linesN n rs).length = n := by
  unfold linesN
  rw [List.length_map, List.length_range]
theorem days_len {d : Int} (h1 : 1 ≤ d) (h2 : d ≤ 30) : ("days " ++ numS d).length ≤ 16 := app_len 5 11 (by decide +kernel) (num_len ⟨h1, by omega⟩)
theorem book_pre {d : Int} {rs : List RuleL} (hg : GoodB rs) (h1 : 1 ≤ d) (h2 : d ≤ 30) : ((linesS d rs).map (·.length)).sum + (linesS d rs).length * ("\n" : Str).length ≤ 16777216 := by
  have e : ("\n" : Str).length = 1 := by decide +kernel
  have a := days_len h1 h2
  have b := linesN_sum hg 8 (by decide)
  have c := linesN_len 8 rs
  rw [e]
  show ("days " ++ numS d).length + ((linesN 8 rs).map (·.length)).sum + ((linesN 8 rs).length + 1) * 1 ≤ _
  omega
section
variable {P : Program} {w : World} {K : PySem.W.Frag} {mg : Str → Option Value} {base : Heap}
def sp_Book_rules (K : PySem.W.Frag) : Sp := fun vs H Q _ => ∃ (b : Addr) (d : Int) (rs : List RuleL), vs = [.ref b] ∧ BookAt K H b d rs ∧ ∀ t as, SqT K H t (as.map V.ref) → Paired (RuleAt K H) as rs → Q (.ref t) H
set_option maxHeartbeats 2000000 in
theorem ok_Book_rules (T : Txt K mg) {fd : FuncData} (F : FunD K d_Book_rules.name d_Book_rules.qual d_Book_rules.params d_Book_rules.body d_Book_rules.scope (d_Book_rules.dvs K) (d_Book_rules.kws K) (He.fAd K d_Book_rules.at_) fd) : FnOk P w K mg base C8.CX0 1 (He.fAd K d_Book_rules.at_) fd ["self"] (sp_Book_rules K) := by
  refine F.ok sc_Book_rules (fun vs H Q E h => ?_) (fun cdv A outer s H vs Q E hr h => ?_)
  · obtain ⟨b, d, rs, rfl, _⟩ := h
    rfl
  · have hu := L2.hu_of hr
    obtain ⟨b, d, rs, rfl, ⟨dx, t, as, hb, ht, h3, _⟩, q⟩ := h
    refine ⟨_, (PSs.nox ((pss_one (ps_ret (My.pe_fldK (K := K) rfl (pv 0) rfl))))), ?_⟩
    exact ⟨_, rfl, b, _, dx, _, _, rfl, hb, T.cl_Book, T.no_Book__rules, rfl, q t as ht h3⟩
theorem c_Book_rules (T : Txt K mg) : C8.Met P w K mg base 1 (He.ga K "Book") "rules" (sp_Book_rules K) [] := by
  obtain ⟨fd, F⟩ := T.f_Book_rules
  exact ⟨_, fd, _, _, T.cl_Book, T.m_Book_rules, ok_Book_rules T F, F.bindsN (fun _ _ _ _ _ _ us hl => match us, hl with | [_], _ => rfl), .nil⟩
def sp_book_text (K : PySem.W.Frag) : Sp := fun vs H Q _ => ∃ (b : Addr) (d : Int) (rs : List RuleL), vs = [.ref b] ∧ BookAt K H b d rs ∧ GoodB rs ∧ 1 ≤ d ∧ d ≤ 30 ∧ ∀ H', Same H H' → Q (.str (bookS d rs)) H'
set_option maxHeartbeats 2000000 in
theorem ok_book_text (T : Txt K mg) {fd : FuncData} (F : FunD K d_book_text.name d_book_text.qual d_book_text.params d_book_text.body d_book_text.scope (d_book_text.dvs K) (d_book_text.kws K) (He.fAd K d_book_text.at_) fd) : FnOk P w K mg base C8.CX0 2 (He.fAd K d_book_text.at_) fd ["book"] (sp_book_text K) := by
  have c_Book_rules := c_Book_rules (P := P) (w := w) (base := base) T
  have c_Book_days := c_Book_days (P := P) (w := w) (base := base) T
  refine F.ok sc_book_text (fun vs H Q E h => ?_) (fun cdv A outer s H vs Q E hr h => ?_)
  · obtain ⟨b, d, rs, rfl, _⟩ := h
    rfl
  · have hu := L2.hu_of hr
    obtain ⟨b, d, rs, rfl, hB, hg, h1, h2, q⟩ := h
    refine ⟨_, (PSs.nox ((pss_cons (ps_set (i := 1) sc_book_text.nd rfl (by first | exact Or.inl rfl | exact Or.inr rfl) (pe_lst (pa_cons (pe_op op_add_str pe_str (pe_callTy call_str_int (by rfl) T.str (by decide +kernel) (pa_cons (C8.pe_mt0 c_Book_days hr (by decide) (pv 0)) pa_nil))) pa_nil)))
  (pss_cons (ps_for PassesOwn.never rfl (RZ.pi_zipA (by rfl) T.zip (pa_cons (pe_glob (v := .ref (He.ga K "MOMENTS")) rfl T.g_MOMENTS rfl) (pa_cons (C8.pe_mt0 c_Book_rules hr (by decide) (pv 0)) pa_nil))) (My.pg_tupK (K := K) (n := 2) rfl rfl (pgs_cons (pg_name (i := 2) sc_book_text.nd rfl (by first | exact Or.inl rfl | exact Or.inr rfl)) (pgs_cons (pg_name (i := 3) sc_book_text.nd rfl (by first | exact Or.inl rfl | exact Or.inr rfl)) pgs_nil)))
  (pss_one (ps_expr (My.pe_bmK (K := K) rfl PySem.F.plainAttrs_list PySem.F.slot_list_append PySem.F.type_list_append mt_append (pv 1) (pa_cons (My.pe_joinK (K := K) rfl pe_str (pe_lst (pa_cons (pe_op op_add_str (pv 2) pe_str) (My.pa_starK (K := K) rfl (pv 3) pa_nil)))) pa_nil)))))
  (pss_one (ps_ret (My.pe_joinK (K := K) rfl pe_str (pv 1)))))))), ?_⟩
    obtain ⟨dx, _, _, hb, _⟩ := id hB
    have hd := num_len (p := d) ⟨h1, by omega⟩
    refine ⟨_, rfl, b, dx, _, rfl, hb, rfl, b, d, rs, rfl, hB, d, rfl, num_log ⟨h1, by omega⟩, ?_⟩
    refine ⟨_, _, rfl, rfl, cat_ok 5 11 (by decide +kernel) hd, by show 1 ≤ sizeLine; decide, fun L hL => ?_⟩
    have yL := same_new (o := .lst [.str ("days " ++ Str.ofString (toString d))]) hL
    have hB1 := hB.same yL
    refine ⟨_, rfl, b, dx, _, rfl, yL _ _ hb, rfl, b, d, rs, rfl, hB1, fun t as ht h3 => ?_⟩
    have al8 : as.length = 8 := h3.length.trans hg.len
    have mem : ∀ {i : Nat} {x : Str}, moms[i]? = some x → moms.getD i Str.empty = x := fun e => by rw [List.getD_eq_getElem?_getD, e]; rfl
    have hL1 : upd H L (.lst [.str ("days " ++ Str.ofString (toString d))]) L = some (.lst [.str ("days " ++ numS d)]) := upd_same
    generalize upd H L (.lst [.str ("days " ++ Str.ofString (toString d))]) = H1 at ht h3 yL hB1 hL1
    refine ⟨_, _, moms.map V.str, as.map V.ref, rfl, .inr ⟨T.tup_MOMENTS _, ht, ?_⟩⟩
    refine RZ.for_zipT (K := K) (xs := moms.map V.str) (ys := as.map V.ref) (by rw [List.length_map, List.length_map, al8]; rfl) (fun i σ H' => ∃ u v, σ = [some (.ref b), some (.ref L), u, v] ∧ But [L] H1 H' ∧ Same H H' ∧ H' L = some (.lst ((("days " ++ numS d) :: linesN i rs).map V.str)))
      ⟨_, _, rfl, But.refl _ _, yL, hL1⟩ (fun i σ H' ⟨_, _, _, s, _⟩ => ⟨T.tup_MOMENTS _, tup_but s hL1 ht⟩) ?_ ?_
    · rintro i x y T2 σ H2 hx hy ⟨u, v, rfl, b2, s2, hL2⟩ hT2
      obtain ⟨m, hm, rfl⟩ := map_get hx
      obtain ⟨a, ha, rfl⟩ := map_get hy
      have hi8 : i < 8 := by
        have := (List.getElem?_eq_some_iff.mp ha).1
        omega
      obtain ⟨r, hr, hra⟩ := paired_at h3 ha
      have er := hg.get hi8
      rw [hr] at er
      have er := Option.some.inj er
      have gr := hg.good _ (List.mem_of_getElem? hr)
      have ml : m.length ≤ 6 := by rw [← mem hm]; exact mom_len i
      have yT := same_new (o := .tup [.str m, .ref a]) hT2
      have ra : RuleAt K (upd H2 T2 (.tup [.str m, .ref a])) a r := same_tup yT (tup_but b2 hL1 hra)
      refine ⟨_, _, rfl, SqT.of upd_same, rfl, _, _, rfl, _, _, rfl, rfl, ?_⟩
      refine ⟨_, rfl, .inl ⟨rfl, _, SqL.of (yT _ _ hL2)⟩, ⟨_, rfl⟩, _, rfl, _, _, rfl, rfl, cat_ok 6 1 ml (by decide +kernel), _, rfl, a, _, rfl, .inl ra, ?_⟩
      have en : (r.map V.str ++ ([] : List V)) = r.map V.str := List.append_nil _
      refine ⟨by
        show (V.str (m ++ ":") :: (r.map V.str ++ [])).length ≤ sizeLine
        rw [en, List.length_cons, List.length_map]
        have := gr.1
        exact Nat.le_of_lt (lt_line (by omega)), fun q1 hq1 => ?_⟩
      have yq := same_new (o := .lst (V.str (m ++ ":") :: (r.map V.str ++ []))) hq1
      refine ⟨" ", q1, (m ++ ":") :: r, rfl, rfl, .inl (SqL.of ?_), Nat.le_trans (line_pre ml gr) (by decide), ?_⟩
      · rw [upd_same, en]
        rfl
      refine ⟨L, _, _, rfl, rfl, yq _ _ (yT _ _ hL2), ?_, ?_⟩
      · rw [List.length_map, List.length_cons, linesN_len]
        exact lt_line (by omega)
      have z := yT.trans yq
      have hHL : H L = none := hL
      refine ⟨_, _, rfl, (b2.trans (But.of z)).put (.inr (by simp)), same_upd (s2.trans z) hHL, ?_⟩
      rw [upd_same, linesN_more, mem hm, ← er]
      show _ = some (HO.lst ((("days " ++ numS d) :: (linesN i rs ++ [lineS m r])).map V.str))
      rw [← List.cons_append, List.map_append]
      rfl
    · rintro σ H2 ⟨u, v, rfl, b2, s2, hL2⟩
      refine ⟨⟨_, rfl⟩, _, rfl, "\n", L, linesS d rs, rfl, rfl, .inl (SqL.of hL2), book_pre hg h1 h2, q _ s2⟩
theorem c_book_text (T : Txt K mg) : C8.Cal P w K mg base 2 "book_text" (sp_book_text K) [] := by
  obtain ⟨fd, F⟩ := T.f_book_text
  exact ⟨_, fd, _, _, ok_book_text T F, T.g_book_text, F.kp, F.bindsN (fun _ _ _ _ _ _ us hl => match us, hl with | [_], _ => rfl), .nil⟩
theorem k_book_text (T : Txt K mg) : My.CalK1 P w K mg base 2 "book_text" (sp_book_text K) "book" := by
  obtain ⟨fd, F⟩ := T.f_book_text
  exact ⟨_, fd, ok_book_text T F, T.g_book_text, F.kp, My.kw1_of F (fun _ _ _ _ _ _ _ => rfl)⟩
end
end K04

namespace K04
open PySem PySem.Spec PyProof.Rows L2 My StX
/-! ### rules as data -/
def ruleD (r : RuleL) : PyData := .tuple (r.map PyData.str)
def rulesD (rs : List RuleL) : PyData := .tuple (rs.map ruleD)
theorem dp_words {K : PySem.W.Frag} {H : Hp} : ∀ ws : List Str, DpAll K H (ws.map V.str) (ws.map PyData.str)
  | [] => .nil
  | x :: l => .cons (.str x) (dp_words l)
theorem dp_rule {K : PySem.W.Frag} {H : Hp} {a : Addr} {r : RuleL} (h : RuleAt K H a r) : Dp K H (.ref a) (ruleD r) := .tup h (dp_words r)
theorem dp_ruleL {K : PySem.W.Frag} {H : Hp} : ∀ {as : List Addr} {rs : List RuleL}, Paired (RuleAt K H) as rs → DpAll K H (as.map V.ref) (rs.map ruleD)
  | _, _, .nil => .nil
  | _, _, .cons r t => .cons (dp_rule r) (dp_ruleL t)
theorem dp_rules {K : PySem.W.Frag} {H : Hp} {t : Addr} {as : List Addr} {rs : List RuleL} (h : SqT K H t (as.map V.ref)) (h3 : Paired (RuleAt K H) as rs) : Dp K H (.ref t) (rulesD rs) := .tup h (dp_ruleL h3)
theorem act_lay : ∀ x ∈ acts, PyData.canLay0 (.str x) = true := by
  intro x hx
  simp only [acts, List.mem_cons, List.not_mem_nil, or_false] at hx
  rcases hx with rfl | rfl | rfl | rfl | rfl | rfl | rfl <;> decide +kernel
theorem sm_rule {r : RuleL} (h : GoodRule r) : Sm 1 (ruleD r) := sm_tuple fun d hd => by
  obtain ⟨x, hx, rfl⟩ := List.mem_map.mp hd
  exact sok (act_lay x (h.2 x hx))
theorem sm_rules {rs : List RuleL} (h : GoodB rs) : Sm 2 (rulesD rs) := sm_tuple fun d hd => by
  obtain ⟨r, hr, rfl⟩ := List.mem_map.mp hd
  exact sm_rule (h.good r hr)
end K04

namespace K04
open PySem PySem.Spec PyProof.Rows L2 My
/-! ### a list is, or is not, the empty one: its items are not looked at -/
def rNeE (K : PySem.W.Frag) : R2 := fun x y H Q => ∃ a b xs, x = .ref a ∧ y = .ref b ∧ SqL K H a xs ∧ H b = some (.lst []) ∧ Q (.bl (!xs.isEmpty)) H
theorem op_neE {X : Cx} {K : PySem.W.Frag} (e : X.K = K) (hu : X.A.units + 64 < cLine) : OpR X (compareOp .NotEq) (rNeE K) := by
  subst e
  intro pins s σ H x y v u Q I rx ry h
  obtain ⟨a, b, xs, rfl, rfl, hx, hy, q⟩ := h
  cases xs with
  | nil =>
    refine op_neD hu pins s σ H _ _ v u Q I rx ry ⟨.list [], .list [], .lst hx .nil, .lst (SqL.of hy) .nil, by decide +kernel, by decide +kernel, ?_⟩
    exact q
  | cons z zs =>
    cases (show v = Value.ref a from rx)
    cases (show u = Value.ref b from ry)
    obtain ⟨us, r1, p1, _⟩ := I.list hx
    obtain ⟨ws, r2, p2, _⟩ := I.list (SqL.of hy)
    refine PySem.SeqAt.RcNeAt.lists_lengths p1.isList p2.isList ?_ (by omega) _ _ _ _ ⟨.bl true, H, I, rfl, q⟩
    have e1 := r1.length
    have e2 := r2.length
    simp only [List.length_cons, List.length_nil] at e1 e2
    simp only [bne_iff_ne, ne_eq, List.size_toArray]
    omega
end K04

namespace K04
open PySem PySem.Spec PyProof.Rows L2 My StX
/-! ### what is no list stands -/
def KT (H H' : Hp) : Prop := ∀ b o, (∀ l, o ≠ HO.lst l) → H b = some o → H' b = some o
theorem KT.refl (H : Hp) : KT H H := fun _ _ _ h => h
theorem KT.trans {H H1 H2 : Hp} (a : KT H H1) (b : KT H1 H2) : KT H H2 := fun c o n h => b c o n (a c o n h)
theorem KT.of {H H' : Hp} (s : Same H H') : KT H H' := fun c o _ h => s c o h
theorem KT.set {H : Hp} {a : Addr} {l : List V} {o : HO} (h : H a = some (.lst l)) : KT H (upd H a o) := fun b u n e => by
  rw [upd_ne (fun z => by rw [z, h] at e; cases e; exact n l rfl)]
  exact e
theorem KT.draw {H H' : Hp} {a : Addr} {n : Nat} (b : But [a] H H') (s : SpringAt H a n) : KT H H' := fun c o no h => by
  refine b c o ?_ h
  obtain ⟨_, _, _, e, _⟩ := s
  intro z
  rw [List.mem_singleton.mp z, e] at h
  cases h
  exact no _ rfl
theorem KT.tup {K : PySem.W.Frag} {H H' : Hp} {b : Addr} {xs : List V} (k : KT H H') (t : SqT K H b xs) : SqT K H' b xs := by
  rcases t with (t | ⟨o, t⟩) | t
  · exact .inl (.inl (k _ _ (fun _ z => by cases z) t))
  · exact .inl (.inr ⟨o, k _ _ (fun _ z => by cases z) t⟩)
  · exact .inr t
theorem KT.rules {K : PySem.W.Frag} {H H' : Hp} {qs : List Addr} {rb : List RuleL} (k : KT H H') (h : Paired (RuleAt K H) qs rb) : Paired (RuleAt K H') qs rb := paired_map (fun _ _ _ x => k.tup x) h
theorem KT.book {K : PySem.W.Frag} {H H' : Hp} {b : Addr} {d : Int} {rs : List RuleL} (k : KT H H') (h : BookAt K H b d rs) : BookAt K H' b d rs := by
  obtain ⟨dx, t, as, h1, h2, h3, h4⟩ := h
  exact ⟨dx, t, as, k _ _ (fun _ z => by cases z) h1, k.tup h2, k.rules h3, h4⟩
theorem KT.plan {K : PySem.W.Frag} {H H' : Hp} {p : Addr} {d : Int} {rs : List RuleL} (k : KT H H') (h : PlanAt K H p d rs) : PlanAt K H' p d rs := by
  obtain ⟨t, as, h1, h2, h3⟩ := h
  exact ⟨t, as, k.tup h1, k.tup h2, k.rules h3⟩
/-! ### books and plans on the shelf -/
abbrev PlnL := Int × List RuleL
def PlnOk (x : PlnL) : Prop := 1 ≤ x.1 ∧ x.1 ≤ 30 ∧ GoodB x.2
def BkAt (K : PySem.W.Frag) (H : Hp) (b : Addr) (x : PlnL) : Prop := BookAt K H b x.1 x.2
def PlAt (K : PySem.W.Frag) (H : Hp) (p : Addr) (x : PlnL) : Prop := PlanAt K H p x.1 x.2
def planD (x : PlnL) : PyData := .tuple [.int x.1, rulesD x.2]
theorem dp_plan {K : PySem.W.Frag} {H : Hp} {p : Addr} {x : PlnL} (h : PlAt K H p x) : Dp K H (.ref p) (planD x) := by
  obtain ⟨t, as, h1, h2, h3⟩ := h
  exact .tup h1 (.cons (.int _) (.cons (dp_rules h2 h3) .nil))
theorem sz_rules {rs : List RuleL} (h : GoodB rs) {n : Nat} : Sized (n + 3) (rulesD rs) := by
  refine ⟨by rw [List.length_map, h.len]; decide, fun d hd => ?_⟩
  obtain ⟨r, hr, rfl⟩ := List.mem_map.mp hd
  refine ⟨by rw [List.length_map]; have := (h.good r hr).1; omega, fun e he => ?_⟩
  obtain ⟨x, _, rfl⟩ := List.mem_map.mp he
  exact trivial
section
variable {P : Program} {w : World} {K : PySem.W.Frag} {mg : Str → Option Value} {base : Heap}
def sp_law_stands (K : PySem.W.Frag) : Sp := fun vs H Q _ => ∃ (b p : Addr) (x : PlnL), vs = [.ref b, .ref p] ∧ BkAt K H b x ∧ PlAt K H p x ∧ PlnOk x ∧ ∀ H', Same H H' → Q (.bl true) H'
end
end K04

namespace K04
open PySem PySem.Spec PyProof.Rows L2 My StX
theorem eqv_strs : ∀ r r' : List Str, PyData.eqvAll (r.map PyData.str) (r'.map PyData.str) = decide (r = r')
  | [], [] => rfl
  | [], _ :: _ => rfl
  | _ :: _, [] => rfl
  | a :: r, b :: r' => by
    show (PyData.eqv (.str a) (.str b) && PyData.eqvAll (r.map PyData.str) (r'.map PyData.str)) = _
    rw [eqv_strs r r']
    show ((a == b) && decide (r = r')) = _
    by_cases e : a = b
    · subst e
      simp
    · simp [e]
theorem eqv_ruleL : ∀ rs rs' : List RuleL, PyData.eqvAll (rs.map ruleD) (rs'.map ruleD) = decide (rs = rs')
  | [], [] => rfl
  | [], _ :: _ => rfl
  | _ :: _, [] => rfl
  | a :: r, b :: r' => by
    show (PyData.eqv (ruleD a) (ruleD b) && PyData.eqvAll (r.map ruleD) (r'.map ruleD)) = _
    rw [eqv_ruleL r r']
    show (PyData.eqvAll (a.map PyData.str) (b.map PyData.str) && decide (r = r')) = _
    rw [eqv_strs a b]
    by_cases e : a = b
    · subst e
      simp
    · simp [e]
theorem eqv_plan (x y : PlnL) : PyData.eqv (planD x) (planD y) = (decide (x.1 = y.1) && decide (x.2 = y.2)) := by
  show (PyData.eqv (.int x.1) (.int y.1) && (PyData.eqv (rulesD x.2) (rulesD y.2) && true)) = _
  rw [Bool.and_true]
  show (PyData.eqv (.int x.1) (.int y.1) && PyData.eqvAll (x.2.map ruleD) (y.2.map ruleD)) = _
  rw [eqv_ruleL]
  show ((x.1 == y.1) && decide (x.2 = y.2)) = _
  rfl
theorem sm_plan {x : PlnL} (h : PlnOk x) : Sm 3 (planD x) := sm_tuple fun d hd => by
  rcases List.mem_cons.mp hd with e | hd
  · rw [e]; exact (sm_int _).mono (by decide)
  rcases List.mem_cons.mp hd with e | hd
  · rw [e]; exact sm_rules h.2.2
  · cases hd
theorem dec_kit {K : PySem.W.Frag} {C : Addr} {H : Hp} {v : V} {T : String} (cb : cmpB K C = true) (h : DecV K H v T) : PySem.W.kitOne K (.type T) (.ref C) = some false := by
  obtain ⟨_, cb⟩ := He.ba cb
  obtain ⟨_, c3⟩ := He.ba cb
  obtain ⟨_, c4⟩ := He.ba (List.all_eq_true.mp c3 T h.mem)
  exact of_decide_eq_true c4
/-- what a book is asked to be equal to -/
def EqTo (K : PySem.W.Frag) (H : Hp) (x : PlnL) (v : V) (d : Bool) : Prop := (∃ b2 y, v = .ref b2 ∧ BkAt K H b2 y ∧ PlnOk y ∧ d = (decide (x.1 = y.1) && decide (x.2 = y.2))) ∨ (d = false ∧ ∃ T, DecV K H v T)
section
variable {P : Program} {w : World} {K : PySem.W.Frag} {mg : Str → Option Value} {base : Heap}
def sp_Book_eq (K : PySem.W.Frag) : Sp := fun vs H Q _ => ∃ (a : Addr) (v : V) (x : PlnL) (d : Bool), vs = [.ref a, v] ∧ BkAt K H a x ∧ PlnOk x ∧ EqTo K H x v d ∧ Q (.bl d) H
set_option maxHeartbeats 2000000 in
theorem ok_Book_eq (T : Txt K mg) {fd : FuncData} (F : FunD K d_Book_eq.name d_Book_eq.qual d_Book_eq.params d_Book_eq.body d_Book_eq.scope (d_Book_eq.dvs K) (d_Book_eq.kws K) (He.fAd K d_Book_eq.at_) fd) : FnOk P w K mg base C8.CX0 1 (He.fAd K d_Book_eq.at_) fd ["self", "other"] (sp_Book_eq K) := by
  refine F.ok sc_Book_eq (fun vs H Q E h => ?_) (fun cdv A outer s H vs Q E hr h => ?_)
  · obtain ⟨a, v, x, e, rfl, _⟩ := h
    rfl
  · have hu := L2.hu_of hr
    obtain ⟨a, v, ⟨d, rs⟩, e, rfl, ha, ⟨_, _, hg⟩, hc, q⟩ := h
    refine ⟨_, (PSs.nox ((pss_one (ps_ret (pe_and (pe_callB (My.isiK (K := K) rfl) (by rfl) T.isinstance (by decide +kernel) (pa_cons (pv 1) (pa_cons (pe_glob (v := .ref (He.ga K "Book")) rfl T.g_Book rfl) pa_nil))) (pe_and (pe_cmpR op_eq (My.pe_fldK (K := K) rfl (pv 0) rfl) (My.pe_fldK (K := K) rfl (pv 1) rfl) (nomark _)) (pe_one (pe_cmpR (My.eqDK (K := K) rfl hr.units) (My.pe_fldK (K := K) rfl (pv 0) rfl) (My.pe_fldK (K := K) rfl (pv 1) rfl) (nomark _))))))))), ?_⟩
    obtain ⟨dx, t, as, hx, ht, h3, h8⟩ := id ha
    rcases hc with ⟨b, ⟨d', rs'⟩, rfl, hb, ⟨_, _, hg'⟩, rfl⟩ | ⟨rfl, T', dv⟩
    · obtain ⟨dy, t', as', hy, ht', h3', h8'⟩ := id hb
      refine ⟨_, rfl, _, _, _, .ref (He.ga K (Str.ofString "Book")), true, rfl, .own _, insB_ty T.insB_Book T.cl_Book hy, kit_own, ⟨true, rfl, ?_⟩⟩
      refine ⟨_, rfl, a, _, dx, _, _, rfl, hx, T.cl_Book, T.no_Book__days, rfl, _, rfl, b, _, dy, _, _, rfl, hy, T.cl_Book, T.no_Book__days, rfl, rfl, _, rfl, ?_⟩
      have q : Q (.bl (decide (d = d') && decide (rs = rs'))) H := q
      by_cases c : d = d'
      · subst c
        rw [decide_eq_true (show V.int d = V.int d from rfl), if_pos rfl]
        refine ⟨_, rfl, a, _, dx, _, _, rfl, hx, T.cl_Book, T.no_Book__rules, rfl, _, rfl, b, _, dy, _, _, rfl, hy, T.cl_Book, T.no_Book__rules, rfl, rulesD rs, rulesD rs', dp_rules ht h3, dp_rules ht' h3', (sm_rules hg).shaped (by decide), (sm_rules hg').shaped (by decide), ?_⟩
        have e : PyData.eqv (rulesD rs) (rulesD rs') = decide (rs = rs') := eqv_ruleL rs rs'
        rw [e]
        rw [decide_eq_true rfl, Bool.true_and] at q
        exact q
      · have ne : ¬ (V.int d = V.int d') := fun e => c (by injection e)
        rw [decide_eq_false ne, if_neg Bool.false_ne_true]
        rw [decide_eq_false c, Bool.false_and] at q
        exact q
    · refine ⟨_, rfl, _, _, _, .ref (He.ga K (Str.ofString "Book")), false, rfl, .own _, dv.ty, dec_kit T.cmpB_Book dv, ⟨false, rfl, ?_⟩⟩
      exact q
theorem c_Book_eq (T : Txt K mg) : C8.Met P w K mg base 1 (He.ga K "Book") "__eq__" (sp_Book_eq K) [] := by
  obtain ⟨fd, F⟩ := T.f_Book_eq
  exact ⟨_, fd, _, _, T.cl_Book, T.m_Book_eq, ok_Book_eq T F, F.bindsN (fun _ _ _ _ _ _ us hl => match us, hl with | [_, _], _ => rfl), .nil⟩
end
end K04

namespace K04
open PySem PySem.Spec PyProof.Rows L2 My StX
section
variable {P : Program} {w : World} {K : PySem.W.Frag} {mg : Str → Option Value} {base : Heap}
theorem dec_nf {C : Addr} {H : Hp} {v : V} {T : String} (cb : cmpB K C = true) (h : DecV K H v T) : PySem.W.notFirst K C (.type T) = true := by
  have e := dec_kit cb h
  unfold PySem.W.kitOne at e
  rw [if_neg (by simp)] at e
  unfold PySem.W.kitCls at e
  dsimp only at e
  split at e
  · unfold PySem.W.notFirst
    rw [e]
    simp
  · cases e
theorem own_l (T : Txt K mg) {H : Hp} {b : Addr} {v : V} {x : PlnL} {d neg : Bool} {Q : VK} (hb : BkAt K H b x) (ok : PlnOk x) (hc : EqTo K H x v d) (q : Q (.bl (xor neg d)) H) : rOwn K (He.ga K "Book") (sp_Book_eq K) neg (.ref b) v H Q := by
  obtain ⟨dx, _, _, hx, _⟩ := id hb
  rcases id hc with ⟨b2, y, rfl, hb2, _, _⟩ | ⟨_, T', dv⟩
  · obtain ⟨dy, _, _, hy, _⟩ := id hb2
    exact .inl ⟨b, dx, _, _, rfl, hx, insB_ty T.insB_Book T.cl_Book hy, (by unfold PySem.W.notFirst; simp), b, _, x, d, rfl, hb, ok, hc, d, rfl, q⟩
  · exact .inl ⟨b, dx, _, _, rfl, hx, dv.ty, dec_nf T.cmpB_Book dv, b, v, x, d, rfl, hb, ok, hc, d, rfl, q⟩
theorem own_r (T : Txt K mg) {H : Hp} {b : Addr} {v : V} {x : PlnL} {d neg : Bool} {Q : VK} (hb : BkAt K H b x) (ok : PlnOk x) (hc : EqTo K H x v d) (q : Q (.bl (xor neg d)) H) : rOwn K (He.ga K "Book") (sp_Book_eq K) neg v (.ref b) H Q := by
  rcases id hc with ⟨b2, y, rfl, hb2, ok2, rfl⟩ | ⟨_, T', dv⟩
  · refine own_l T hb2 ok2 (.inl ⟨b, x, rfl, hb, ok, rfl⟩) ?_
    rw [show (decide (y.1 = x.1) && decide (y.2 = x.2)) = (decide (x.1 = y.1) && decide (x.2 = y.2)) from by rw [decide_eq_decide.mpr (⟨Eq.symm, Eq.symm⟩ : y.1 = x.1 ↔ x.1 = y.1), decide_eq_decide.mpr (⟨Eq.symm, Eq.symm⟩ : y.2 = x.2 ↔ x.2 = y.2)]]
    exact q
  · obtain ⟨dx, _, _, hx, _⟩ := id hb
    exact .inr ⟨b, dx, _, T', rfl, hx, dv, b, v, x, d, rfl, hb, ok, hc, d, rfl, q⟩
theorem EqTo.same {H H' : Hp} {x : PlnL} {v : V} {d : Bool} (s : Same H H') (h : EqTo K H x v d) : EqTo K H' x v d := by
  rcases h with ⟨b2, y, e, hb2, ok2, ed⟩ | ⟨ed, T', dv⟩
  · exact .inl ⟨b2, y, e, BookAt.same s hb2, ok2, ed⟩
  · refine .inr ⟨ed, T', ?_⟩
    cases dv with
    | non => exact .non
    | int i => exact .int i
    | bl i => exact .bl i
    | str i => exact .str i
    | lst h => exact .lst (s.seq h)
    | tup h => exact .tup (same_tup s h)
    | dK h => exact .dK (s _ _ h)
def sp_law_same (K : PySem.W.Frag) : Sp := fun vs H Q _ => ∃ (b : Addr) (v : V) (d : Bool) (x : PlnL), vs = [.ref b, v, .bl d] ∧ BkAt K H b x ∧ PlnOk x ∧ EqTo K H x v d ∧ ∀ H', Same H H' → Q (.bl true) H'
set_option maxHeartbeats 2000000 in
theorem ok_law_same (T : Txt K mg) {fd : FuncData} (F : FunD K d_law_same.name d_law_same.qual d_law_same.params d_law_same.body d_law_same.scope (d_law_same.dvs K) (d_law_same.kws K) (He.fAd K d_law_same.at_) fd) : FnOk P w K mg base C8.CX0 6 (He.fAd K d_law_same.at_) fd ["one", "other", "due"] (sp_law_same K) := by
  have c_law_alike := c_law_alike (P := P) (w := w) (base := base) T
  refine F.ok sc_law_same (fun vs H Q E h => ?_) (fun cdv A outer s H vs Q E hr h => ?_)
  · obtain ⟨b, v, d, x, rfl, _⟩ := h
    rfl
  · have hu := L2.hu_of hr
    obtain ⟨b, v, d, x, rfl, hb, ok, hc, q⟩ := h
    refine ⟨_, (PSs.nox ((pss_cons (ps_if (pt_not (pt_val (C8.pe_c c_law_alike hr (by decide) rfl (pa_cons (pe_lst (pa_cons (pe_cmpR (My.op_own (K := K) (neg := false) (.inl ⟨rfl, rfl⟩) (c_Book_eq (P := P) (w := w) (K := K) (base := base) T) rfl T.cmpB_Book hr (by decide)) (pv 0) (pv 1) (nomark _)) (pa_cons (pe_cmpR (My.op_own (K := K) (neg := false) (.inl ⟨rfl, rfl⟩) (c_Book_eq (P := P) (w := w) (K := K) (base := base) T) rfl T.cmpB_Book hr (by decide)) (pv 1) (pv 0) (nomark _)) pa_nil))) (pa_cons (pe_lst (pa_cons (pv 2) (pa_cons (pv 2) pa_nil))) pa_nil)))))
  (pss_one (ps_ret pe_bl))
  pss_nil)
  (pss_one (ps_ret (C8.pe_c c_law_alike hr (by decide) rfl (pa_cons (pe_lst (pa_cons (pe_cmpR (My.op_own (K := K) (neg := true) (.inr ⟨rfl, rfl⟩) (c_Book_eq (P := P) (w := w) (K := K) (base := base) T) rfl T.cmpB_Book hr (by decide)) (pv 0) (pv 1) (nomark _)) (pa_cons (pe_cmpR (My.op_own (K := K) (neg := true) (.inr ⟨rfl, rfl⟩) (c_Book_eq (P := P) (w := w) (K := K) (base := base) T) rfl T.cmpB_Book hr (by decide)) (pv 1) (pv 0) (nomark _)) pa_nil))) (pa_cons (pe_lst (pa_cons (pe_not (pv 2)) (pa_cons (pe_not (pv 2)) pa_nil))) pa_nil)))))))), ?_⟩
    have alk : ∀ (H1 : Hp) (l1 l2 : Addr) (z : Bool), H1 l1 = some (.lst [.bl z, .bl z]) → H1 l2 = some (.lst [.bl z, .bl z]) → AlkF K H1 5 (.ref l1) (.ref l2) := fun H1 l1 l2 z h1 h2 =>
      AlkF.dat (d := .list [.bool z, .bool z]) (.lst (SqL.of h1) (.cons (.bl _) (.cons (.bl _) .nil))) (.lst (SqL.of h2) (.cons (.bl _) (.cons (.bl _) .nil))) ⟨by show 2 ≤ 100000; decide, fun e he => by
        rcases List.mem_cons.mp he with z | he
        · rw [z]; exact trivial
        rcases List.mem_cons.mp he with z | he
        · rw [z]; exact trivial
        · cases he⟩
    refine ⟨_, rfl, _, rfl, own_l T hb ok hc ⟨_, rfl, _, rfl, own_r T hb ok hc ⟨by show 2 ≤ sizeLine; decide, fun l1 n1 => ?_⟩⟩⟩
    rw [Bool.false_xor]
    have y1 := same_new (o := .lst [V.bl d, .bl d]) n1
    refine ⟨_, rfl, _, rfl, by show 2 ≤ sizeLine; decide, fun l2 n2 => ?_⟩
    have y2 := same_new (o := .lst [V.bl d, .bl d]) n2
    refine ⟨_, _, rfl, alk _ _ _ d (y2 _ _ upd_same) upd_same, fun H3 s3 => ⟨true, rfl, L2.iteF ?_⟩⟩
    have s03 := y1.trans (y2.trans s3)
    have hb3 : BkAt K H3 b x := BookAt.same s03 hb
    have hc3 := hc.same s03
    refine ⟨_, rfl, _, rfl, own_l T hb3 ok hc3 ⟨_, rfl, _, rfl, own_r T hb3 ok hc3 ⟨by show 2 ≤ sizeLine; decide, fun l3 n3 => ?_⟩⟩⟩
    rw [Bool.true_xor]
    have y3 := same_new (o := .lst [V.bl (!d), .bl (!d)]) n3
    refine ⟨_, rfl, _, rfl, _, rfl, _, rfl, by show 2 ≤ sizeLine; decide, fun l4 n4 => ?_⟩
    have y4 := same_new (o := .lst [V.bl (!d), .bl (!d)]) n4
    exact ⟨_, _, rfl, alk _ _ _ (!d) (y4 _ _ upd_same) upd_same, fun H5 s5 => q _ (s03.trans (y3.trans (y4.trans s5)))⟩
theorem c_law_same (T : Txt K mg) : C8.Cal P w K mg base 6 "_law_same" (sp_law_same K) [] := by
  obtain ⟨fd, F⟩ := T.f_law_same
  exact ⟨_, fd, _, _, ok_law_same T F, T.g_law_same, F.kp, F.bindsN (fun _ _ _ _ _ _ us hl => match us, hl with | [_, _, _], _ => rfl), .nil⟩
end
end K04

namespace K04
open PySem PySem.Spec PyProof.Rows L2 My StX
theorem slA_fromV {K : PySem.W.Frag} {H : Hp} {t : Addr} {xs : List V} {Q : VK} {σ : L2.St} {i : Nat} {v : Int} (e : v = (i : Int)) (h : SqT K H t xs) (q : ∀ m H7, Same H H7 → SqT K H7 m (xs.drop i) → Q (.ref m) H7) : tNoPart σ H fun y H3 => rSlA K (.ref t) (some v) y H3 Q := by
  subst e
  exact slA_from h q
theorem cut_mid {xs : List V} {c d : Nat} : cutV xs (some (c : Int)) (some (d : Int)) = (xs.take d).drop c := by
  unfold cutV
  rw [HT.sIx_nat, HT.sIx_nat]
  by_cases h2 : d ≤ xs.length
  · rw [Nat.min_eq_left h2]
    by_cases h : c ≤ xs.length
    · rw [Nat.min_eq_left h, List.drop_take]
    · rw [Nat.min_eq_right (by omega), List.drop_length, List.take_nil, List.drop_of_length_le (by rw [List.length_take]; omega)]
  · rw [Nat.min_eq_right (a := d) (by omega), List.take_of_length_le (l := xs) (by omega)]
    by_cases h : c ≤ xs.length
    · rw [Nat.min_eq_left h, List.take_of_length_le (by rw [List.length_drop]; omega)]
    · rw [Nat.min_eq_right (by omega), List.drop_length, List.take_nil, List.drop_of_length_le (by omega)]
theorem slA_mid {K : PySem.W.Frag} {H : Hp} {t : Addr} {xs : List V} {Q : VK} {i j : Nat} {v : Int} (e : v = (j : Int)) (h : SqT K H t xs) (q : ∀ m H7, Same H H7 → SqT K H7 m ((xs.take j).drop i) → Q (.ref m) H7) : rSlA K (.ref t) (some (i : Int)) (some v) H Q := by
  subst e
  exact slA_cut (lo := some (i : Int)) (hi := some (j : Int)) h (by rw [cut_mid]; exact q)
theorem good_app {r s : RuleL} (h : r.length + s.length ≤ 6) (g1 : ∀ x ∈ r, x ∈ acts) (g2 : ∀ x ∈ s, x ∈ acts) : GoodRule (r ++ s) := ⟨by rw [List.length_append]; exact h, fun x hx => by
  rcases List.mem_append.mp hx with z | z
  · exact g1 x z
  · exact g2 x z⟩
theorem RuleAt.from_ {K : PySem.W.Frag} {H : Hp} {t : Addr} {r : RuleL} {Q : VK} {σ : L2.St} {i : Nat} {v : Int} (e : v = (i : Int)) (h : RuleAt K H t r) (q : ∀ m H7, Same H H7 → RuleAt K H7 m (r.drop i) → Q (.ref m) H7) : tNoPart σ H fun y H3 => rSlA K (.ref t) (some v) y H3 Q :=
  slA_fromV e h fun m H7 s hm => q m H7 s (by rw [← List.map_drop] at hm; exact hm)
theorem RuleAt.to_ {K : PySem.W.Frag} {H : Hp} {t : Addr} {r : RuleL} {Q : VK} {i : Nat} {v : Int} (e : v = (i : Int)) (h : RuleAt K H t r) (q : ∀ m H7, Same H H7 → RuleAt K H7 m (r.take i) → Q (.ref m) H7) : rSlA K (.ref t) none (some v) H Q := by
  subst e
  exact slA_to h fun m H7 s hm => q m H7 s (by rw [← List.map_take] at hm; exact hm)
theorem RuleAt.cat {K : PySem.W.Frag} {H : Hp} {t u : Addr} {r s : RuleL} {Q : VK} (h : RuleAt K H t r) (h2 : RuleAt K H u s) (hl : r.length + s.length ≤ 100) (q : ∀ m H7, Same H H7 → RuleAt K H7 m (r ++ s) → Q (.ref m) H7) : rCatA K (.ref t) (.ref u) H Q :=
  catA_of h h2 (by rw [List.length_map, List.length_map]; exact Nat.le_trans hl (by decide)) fun m H7 z hm => q m H7 z (by rw [← List.map_append] at hm; exact hm)
section
variable {P : Program} {w : World} {K : PySem.W.Frag} {mg : Str → Option Value} {base : Heap}
def sp_law_near_rule (K : PySem.W.Frag) : Sp := fun vs H Q _ => ∃ (a t : Addr) (n : Nat) (r : RuleL), vs = [.ref a, .ref t] ∧ SpringAt H a n ∧ n ≤ 20000 ∧ RuleAt K H t r ∧ GoodRule r ∧ ∀ H' p r', But [a] H H' → SpringAt H' a (n + 10) → RuleAt K H' p r' → GoodRule r' → Q (.ref p) H'
set_option maxHeartbeats 2000000 in
theorem ok_law_near_rule (T : Txt K mg) {fd : FuncData} (F : FunD K d_law_near_rule.name d_law_near_rule.qual d_law_near_rule.params d_law_near_rule.body d_law_near_rule.scope (d_law_near_rule.dvs K) (d_law_near_rule.kws K) (He.fAd K d_law_near_rule.at_) fd) : FnOk P w K mg base C8.CX0 2 (He.fAd K d_law_near_rule.at_) fd ["pot", "row"] (sp_law_near_rule K) := by
  have c_law_dip := c_law_dip (P := P) (w := w) (base := base) T
  refine F.ok sc_law_near_rule (fun vs H Q E h => ?_) (fun cdv A outer s H vs Q E hr h => ?_)
  · obtain ⟨a, t, n, r, rfl, _⟩ := h
    rfl
  · have hu := L2.hu_of hr
    obtain ⟨a, t, n, r, rfl, hs, hn, ht, hg, k⟩ := h
    refine ⟨_, (PSs.nox ((pss_cons (ps_par (i := 2) (j := 3) (by rfl) sc_law_near_rule.nd rfl rfl (by decide) rfl rfl (pa_cons (C8.pe_c c_law_dip hr (by decide) rfl (pa_cons (pv 0) (pa_cons pe_int pa_nil))) (pa_cons (C8.pe_c c_law_dip hr (by decide) rfl (pa_cons (pv 0) (pa_cons (pe_op op_add (pe_callB (My.len_seqK (K := K) rfl) (by rfl) T.len (by decide +kernel) (pa_cons (pv 1) pa_nil)) pe_int) pa_nil))) pa_nil)) (by rfl))
  (pss_cons (ps_set (i := 4) sc_law_near_rule.nd rfl (by first | exact Or.inl rfl | exact Or.inr rfl) (pe_lst (pa_cons pe_str (pa_cons pe_str (pa_cons pe_str (pa_cons pe_str (pa_cons pe_str (pa_cons pe_str (pa_cons pe_str pa_nil)))))))))
  (pss_cons (ps_if (pt_cmpR op_eq (pv 2) pe_int (nomark _))
  (pss_one (ps_ret (pe_op (My.catAK (K := K) rfl) (pe_slice (My.sl_tupAK (K := K) rfl) (pv 1) po_none (po_some (pv 3))) (pe_slice (My.sl_tupAK (K := K) rfl) (pv 1) (po_some (pe_op op_add (pv 3) pe_int)) po_none))))
  pss_nil)
  (pss_cons (ps_if (pt_cmpR op_eq (pv 2) pe_int (nomark _))
  (pss_one (ps_ret (pe_ifExp (pt_cmpR op_lt (pv 3) (pe_callB (My.len_seqK (K := K) rfl) (by rfl) T.len (by decide +kernel) (pa_cons (pv 1) pa_nil)) (nomark _)) (pe_op (My.catAK (K := K) rfl) (pe_op (My.catAK (K := K) rfl) (pe_slice (My.sl_tupAK (K := K) rfl) (pv 1) po_none (po_some (pv 3))) (pe_tup (pa_cons (pe_ix (My.ix_listK (K := K) rfl) (pv 4) (C8.pe_c c_law_dip hr (by decide) rfl (pa_cons (pv 0) (pa_cons pe_int pa_nil))) (fun _ _ => rfl)) pa_nil))) (pe_slice (My.sl_tupAK (K := K) rfl) (pv 1) (po_some (pe_op op_add (pv 3) pe_int)) po_none)) (pv 1))))
  pss_nil)
  (pss_cons (ps_if (PW.pt (pw_and (pt_cmpR op_eq (pv 2) pe_int (nomark _)) (pw_and1 (pt_cmpR op_lt (pe_callB (My.len_seqK (K := K) rfl) (by rfl) T.len (by decide +kernel) (pa_cons (pv 1) pa_nil)) pe_int (nomark _)))))
  (pss_one (ps_ret (pe_op (My.catAK (K := K) rfl) (pe_op (My.catAK (K := K) rfl) (pe_slice (My.sl_tupAK (K := K) rfl) (pv 1) po_none (po_some (pv 3))) (pe_tup (pa_cons (pe_ix (My.ix_listK (K := K) rfl) (pv 4) (C8.pe_c c_law_dip hr (by decide) rfl (pa_cons (pv 0) (pa_cons pe_int pa_nil))) (fun _ _ => rfl)) pa_nil))) (pe_slice (My.sl_tupAK (K := K) rfl) (pv 1) (po_some (pv 3)) po_none))))
  pss_nil)
  (pss_cons (ps_if (PW.pt (pw_and (pt_cmpR op_eq (pv 2) pe_int (nomark _)) (pw_and1 (pt_cmpR op_lt (pe_callB (My.len_seqK (K := K) rfl) (by rfl) T.len (by decide +kernel) (pa_cons (pv 1) pa_nil)) pe_int (nomark _)))))
  (pss_one (ps_ret (pe_op (My.catAK (K := K) rfl) (pe_slice (My.sl_tupAK (K := K) rfl) (pv 1) po_none (po_some (pv 3))) (pe_slice (My.sl_tupAK (K := K) rfl) (pv 1) (po_some (pe_callB (call_max2 rfl) (by rfl) T.max (by decide +kernel) (pa_cons pe_int (pa_cons (pe_op op_sub (pv 3) pe_int) pa_nil)))) po_none))))
  pss_nil)
  (pss_cons (ps_set (i := 5) sc_law_near_rule.nd rfl (by first | exact Or.inl rfl | exact Or.inr rfl) (pe_slice (My.sl_tupAK (K := K) rfl) (pv 1) (po_some (pv 3)) (po_some (pe_op op_add (pv 3) pe_int))))
  (pss_one (ps_ret (pe_op (My.catAK (K := K) rfl) (pe_op (My.catAK (K := K) rfl) (pe_op (My.catAK (K := K) rfl) (pe_slice (My.sl_tupAK (K := K) rfl) (pv 1) po_none (po_some (pv 3))) (pe_slice (My.sl_tupAK (K := K) rfl) (pv 5) (po_some pe_int) po_none)) (pe_slice (My.sl_tupAK (K := K) rfl) (pv 5) po_none (po_some pe_int))) (pe_slice (My.sl_tupAK (K := K) rfl) (pv 1) (po_some (pe_op op_add (pv 3) pe_int)) po_none))))))))))))), ?_⟩
    have lt100 : ∀ m : Nat, m ≤ 60000 → m < 2 ^ 100 := fun m h => Nat.lt_of_le_of_lt h (by decide)
    refine ⟨_, rfl, a, n, 5, rfl, hs, lt100 _ (by omega), by decide, by decide, fun H1 way b1 s1 w0 w1 => ?_⟩
    have ht1 : RuleAt K H1 t r := But.tupS b1 hs ht
    have hr6 := hg.1
    refine ⟨_, rfl, _, rfl, t, _, rfl, .inr ht1, _, _, rfl, rfl, ?_⟩
    refine ⟨a, n + 1, ((r.map V.str).length : Int) + 1, rfl, s1, lt100 _ (by omega), by rw [List.length_map]; omega, by rw [List.length_map]; exact Int.lt_of_le_of_lt (b := 7) (by omega) (by decide), fun H2 spot b2 s2 k0 k1 => ⟨_, _, rfl, ?_⟩⟩
    have ht2 : RuleAt K H2 t r := But.tupS b2 s1 ht1
    rw [List.length_map] at k1
    obtain ⟨i, hi, rfl⟩ : ∃ i : Nat, i ≤ r.length ∧ spot = (i : Int) := ⟨spot.toNat, by omega, by omega⟩
    refine ⟨by show 7 ≤ sizeLine; decide, fun sl nsl => ?_⟩
    have ysl := same_new (o := .lst (acts.map V.str)) nsl
    have hsl : upd H2 sl (.lst (acts.map V.str)) sl = some (.lst (acts.map V.str)) := upd_same
    have ht3 : RuleAt K (upd H2 sl (.lst (acts.map V.str))) t r := same_tup ysl ht2
    have s3 := s2.same ysl
    have b3 := (b1.trans b2).trans (But.of ysl)
    show Ends.nx _ _ (upd H2 sl (.lst (acts.map V.str)))
    generalize upd H2 sl (.lst (acts.map V.str)) = H3 at hsl ht3 s3 b3
    have fin : ∀ H' p r', But [a] H3 H' → SpringAt H' a (n + 3) → RuleAt K H' p r' → GoodRule r' → Q (.ref p) H' := fun H' p r' b s h g => k H' p r' (b3.trans b) (s.mono (by omega)) h g
    have fin0 : ∀ H' p r', Same H3 H' → RuleAt K H' p r' → GoodRule r' → Q (.ref p) H' := fun H' p r' z h g => fin H' p r' (But.of z) ((s3.same z).mono (by omega)) h g
    have one : ∀ (H4 : Hp) (Q4 : VK), Same H3 H4 → (∀ H5 p x, But [a] H4 H5 → SpringAt H5 a (n + 3) → x ∈ acts → RuleAt K H5 p [x] → Q4 (.ref p) H5) →
        tTup (tCons (tOp (rIxL K) (tVar 4) (tCall (sp_law_dip K) [] C8.E0 (tCons (tVar 0) (tCons (tC (V.int 7)) tNil)))) tNil) [some (.ref a), some (.ref t), some (.int way), some (.int (i : Int)), some (.ref sl), none] H4 Q4 := by
      intro H4 Q4 z4 q4
      have s4 := s3.same z4
      refine ⟨_, rfl, _, rfl, a, n + 1 + 1, 7, rfl, s4, lt100 _ (by omega), by decide, by decide, fun H5 k b5 s5 k0 k1 => ?_⟩
      obtain ⟨m, hm, rfl⟩ : ∃ m : Nat, m < 7 ∧ k = (m : Int) := ⟨k.toNat, by omega, by omega⟩
      obtain ⟨x, hx⟩ : ∃ x, acts[m]? = some x := ⟨_, List.getElem?_eq_getElem (show m < acts.length from hm)⟩
      have hsl5 := rawS b5 s4 (z4 _ _ hsl) (strs_no acts)
      refine ⟨sl, _, _, .str x, rfl, rfl, SqL.of hsl5, atI_nat (by rw [List.getElem?_map, hx]; rfl), by show 1 ≤ sizeLine; decide, fun p hp => ?_⟩
      have yp := same_new (o := .tup [V.str x]) hp
      exact q4 _ p x (b5.trans (But.of yp)) (s5.same yp) (List.mem_of_getElem? hx) (SqT.of upd_same)
    have gt : ∀ x ∈ r.take i, x ∈ acts := fun x hx => hg.2 x (List.mem_of_mem_take hx)
    have gd : ∀ j, ∀ x ∈ r.drop j, x ∈ acts := fun j x hx => hg.2 x (List.mem_of_mem_drop hx)
    have lt_ : (r.take i).length = i := by rw [List.length_take]; omega
    have ld : ∀ j, (r.drop j).length = r.length - j := fun j => List.length_drop
    refine ⟨_, rfl, rfl, _, rfl, L2.ite2 (fun c => ?_) (fun _ => ?_)⟩
    · clear c
      refine ⟨_, rfl, _, rfl, _, rfl, RuleAt.to_ rfl ht3 fun m1 H4 z4 hm1 => ?_⟩
      refine ⟨_, rfl, _, rfl, _, _, rfl, rfl, _, rfl, RuleAt.from_ (i := i + 1) (by omega) (same_tup z4 ht3) fun m2 H5 z5 hm2 => ?_⟩
      exact RuleAt.cat (same_tup z5 hm1) hm2 (by rw [lt_, ld]; omega) fun m H6 z6 hm => fin0 _ _ _ ((z4.trans z5).trans z6) hm (good_app (by rw [lt_, ld]; omega) gt (gd _))
    refine ⟨_, rfl, rfl, _, rfl, L2.ite2 (fun c => ?_) (fun _ => ?_)⟩
    · clear c
      refine ⟨_, rfl, _, rfl, t, _, rfl, .inr ht3, _, _, rfl, rfl, _, rfl, L2.ite2 (fun c => ?_) (fun _ => ?_)⟩
      · have c : i < r.length := by
          rw [List.length_map] at c
          have := of_decide_eq_true c
          omega
        refine ⟨_, rfl, _, rfl, _, rfl, RuleAt.to_ rfl ht3 fun m1 H4 z4 hm1 => ?_⟩
        refine one _ _ z4 fun H5 p x b5 s5 hx hp => ?_
        have hm15 : RuleAt K H5 m1 (r.take i) := But.tupS b5 (s3.same z4) hm1
        refine RuleAt.cat hm15 hp (by rw [lt_]; show i + 1 ≤ 100; omega) fun m2 H6 z6 hm2 => ?_
        have ht6 : RuleAt K H6 t r := same_tup z6 (But.tupS b5 (s3.same z4) (same_tup z4 ht3))
        refine ⟨_, rfl, _, rfl, _, _, rfl, rfl, _, rfl, RuleAt.from_ (i := i + 1) (by omega) ht6 fun m3 H7 z7 hm3 => ?_⟩
        refine RuleAt.cat (same_tup z7 hm2) hm3 (by rw [List.length_append, lt_, ld]; show i + 1 + _ ≤ 100; omega) fun m H8 z8 hm => ?_
        refine fin _ _ _ (((But.of z4).trans b5).trans (But.of ((z6.trans z7).trans z8))) (s5.same ((z6.trans z7).trans z8)) hm (good_app (by rw [List.length_append, lt_, ld]; show i + 1 + _ ≤ 6; omega) (fun y hy => ?_) (gd _))
        rcases List.mem_append.mp hy with z | z
        · exact gt y z
        · rw [List.mem_singleton.mp z]; exact hx
      · exact ⟨_, rfl, fin0 _ _ _ (Same.refl _) ht3 hg⟩
    have way4 : tSeq (tAsg (tSl (rSlA K) (tVar 1) (tPart (tVar 3)) (tPart (tOp (rI0 fun i j => V.int (i + j)) (tVar 3) (tC (V.int 2))))) (gName 5))
        (tRet (tOp (rCatA K) (tOp (rCatA K) (tOp (rCatA K) (tSl (rSlA K) (tVar 1) tNoPart (tPart (tVar 3))) (tSl (rSlA K) (tVar 5) (tPart (tC (V.int 1))) tNoPart)) (tSl (rSlA K) (tVar 5) tNoPart (tPart (tC (V.int 1))))) (tSl (rSlA K) (tVar 1) (tPart (tOp (rI0 fun i j => V.int (i + j)) (tVar 3) (tC (V.int 2)))) tNoPart)))
        { nx := fun x H' => Q V.non H', rt := Q } [some (.ref a), some (.ref t), some (.int way), some (.int (i : Int)), some (.ref sl), none] H3 := by
      refine ⟨_, rfl, _, rfl, _, rfl, _, rfl, _, _, rfl, rfl, _, rfl, slA_mid (j := i + 2) (by omega) ht3 fun m0 H4 z4 hm0 => ?_⟩
      have hm0 : RuleAt K H4 m0 ((r.take (i + 2)).drop i) := by
        show SqT K H4 m0 (((r.take (i + 2)).drop i).map V.str)
        rw [List.map_drop, List.map_take]
        exact hm0
      have l0 : ((r.take (i + 2)).drop i).length ≤ r.length - i := by rw [List.length_drop, List.length_take]; omega
      have l1 : ((r.take (i + 2)).drop i).length ≤ 2 := by rw [List.length_drop, List.length_take]; omega
      have l2 : ((r.take (i + 2)).drop i).length + (r.length - (i + 2)) = r.length - i := by rw [List.length_drop, List.length_take]; omega
      have g0 : ∀ x ∈ (r.take (i + 2)).drop i, x ∈ acts := fun x hx => hg.2 x (List.mem_of_mem_take (List.mem_of_mem_drop hx))
      generalize (r.take (i + 2)).drop i = u at hm0 l0 l1 l2 g0
      refine ⟨_, rfl, _, rfl, _, rfl, RuleAt.to_ rfl (same_tup z4 ht3) fun m1 H5 z5 hm1 => ?_⟩
      refine ⟨_, rfl, _, rfl, RuleAt.from_ (i := 1) rfl (same_tup z5 hm0) fun m2 H6 z6 hm2 => ?_⟩
      refine RuleAt.cat (same_tup z6 hm1) hm2 (by rw [lt_, List.length_drop]; omega) fun m3 H7 z7 hm3 => ?_
      refine ⟨_, rfl, _, rfl, RuleAt.to_ (i := 1) rfl (same_tup z7 (same_tup z6 (same_tup z5 hm0))) fun m4 H8 z8 hm4 => ?_⟩
      refine RuleAt.cat (same_tup z8 hm3) hm4 (by rw [List.length_append, lt_, List.length_drop, List.length_take]; omega) fun m5 H9 z9 hm5 => ?_
      have z39 := z4.trans (z5.trans (z6.trans (z7.trans (z8.trans z9))))
      refine ⟨_, rfl, _, rfl, _, _, rfl, rfl, _, rfl, RuleAt.from_ (i := i + 2) (by omega) (same_tup z39 ht3) fun m6 H10 z10 hm6 => ?_⟩
      refine RuleAt.cat (same_tup z10 hm5) hm6 (by rw [List.length_append, List.length_append, lt_, ld, List.length_drop, List.length_take]; omega) fun m H11 z11 hm => ?_
      refine fin0 _ _ _ (z39.trans (z10.trans z11)) hm (good_app (by rw [List.length_append, List.length_append, lt_, ld, List.length_drop, List.length_take]; omega) (fun y hy => ?_) (gd _))
      rcases List.mem_append.mp hy with z | z
      · rcases List.mem_append.mp z with z | z
        · exact gt y z
        · exact g0 y (List.mem_of_mem_drop z)
      · exact g0 y (List.mem_of_mem_take z)
    have way3 : tSeq (tIfS (tAnd (tTest (tOp rEq (tVar 2) (tC (V.int 3)))) (tTest (tOp (rI0 fun i j => V.bl (decide (i < j))) (tCB (rLenQ K) (tCons (tVar 1) tNil)) (tC (V.int 6)))))
          (tRet (tOp (rCatA K) (tSl (rSlA K) (tVar 1) tNoPart (tPart (tVar 3))) (tSl (rSlA K) (tVar 1) (tPart (tCB (fun xs H Q => ∃ i j, xs = [V.int i, V.int j] ∧ Q (V.int (if j > i then j else i)) H) (tCons (tC (V.int 0)) (tCons (tOp (rI0 fun i j => V.int (i - j)) (tVar 3) (tC (V.int 1))) tNil)))) tNoPart))) tNext)
        (tSeq (tAsg (tSl (rSlA K) (tVar 1) (tPart (tVar 3)) (tPart (tOp (rI0 fun i j => V.int (i + j)) (tVar 3) (tC (V.int 2))))) (gName 5))
          (tRet (tOp (rCatA K) (tOp (rCatA K) (tOp (rCatA K) (tSl (rSlA K) (tVar 1) tNoPart (tPart (tVar 3))) (tSl (rSlA K) (tVar 5) (tPart (tC (V.int 1))) tNoPart)) (tSl (rSlA K) (tVar 5) tNoPart (tPart (tC (V.int 1))))) (tSl (rSlA K) (tVar 1) (tPart (tOp (rI0 fun i j => V.int (i + j)) (tVar 3) (tC (V.int 2)))) tNoPart))))
        { nx := fun x H' => Q V.non H', rt := Q } [some (.ref a), some (.ref t), some (.int way), some (.int (i : Int)), some (.ref sl), none] H3 := by
      refine ⟨_, rfl, rfl, _, rfl, ?_⟩
      refine L2.ite2 (fun _ => ?_) (fun _ => L2.iteF way4)
      refine ⟨_, rfl, t, _, rfl, .inr ht3, _, _, rfl, rfl, _, rfl, L2.ite2 (fun c => ?_) (fun _ => way4)⟩
      have c : r.length < 6 := by
        rw [List.length_map] at c
        have := of_decide_eq_true c
        omega
      refine ⟨_, rfl, _, rfl, _, rfl, RuleAt.to_ rfl ht3 fun m1 H4 z4 hm1 => ?_⟩
      refine ⟨_, rfl, _, rfl, _, _, rfl, rfl, _, _, rfl, _, rfl, RuleAt.from_ (i := i - 1) (by split <;> omega) (same_tup z4 ht3) fun m2 H5 z5 hm2 => ?_⟩
      exact RuleAt.cat (same_tup z5 hm1) hm2 (by rw [lt_, ld]; omega) fun m H6 z6 hm => fin0 _ _ _ ((z4.trans z5).trans z6) hm (good_app (by rw [lt_, ld]; omega) gt (gd _))
    refine ⟨_, rfl, rfl, _, rfl, ?_⟩
    refine L2.ite2 (fun _ => ?_) (fun _ => L2.iteF way3)
    refine ⟨_, rfl, t, _, rfl, .inr ht3, _, _, rfl, rfl, _, rfl, L2.ite2 (fun c => ?_) (fun _ => way3)⟩
    have c : r.length < 6 := by
      rw [List.length_map] at c
      have := of_decide_eq_true c
      omega
    refine ⟨_, rfl, _, rfl, _, rfl, RuleAt.to_ rfl ht3 fun m1 H4 z4 hm1 => ?_⟩
    refine one _ _ z4 fun H5 p x b5 s5 hx hp => ?_
    have hm15 : RuleAt K H5 m1 (r.take i) := But.tupS b5 (s3.same z4) hm1
    refine RuleAt.cat hm15 hp (by rw [lt_]; show i + 1 ≤ 100; omega) fun m2 H6 z6 hm2 => ?_
    have ht6 : RuleAt K H6 t r := same_tup z6 (But.tupS b5 (s3.same z4) (same_tup z4 ht3))
    refine ⟨_, rfl, _, rfl, _, rfl, RuleAt.from_ (i := i) rfl ht6 fun m3 H7 z7 hm3 => ?_⟩
    refine RuleAt.cat (same_tup z7 hm2) hm3 (by rw [List.length_append, lt_, ld]; show i + 1 + _ ≤ 100; omega) fun m H8 z8 hm => ?_
    refine fin _ _ _ (((But.of z4).trans b5).trans (But.of ((z6.trans z7).trans z8))) (s5.same ((z6.trans z7).trans z8)) hm (good_app (by rw [List.length_append, lt_, ld]; show i + 1 + _ ≤ 6; omega) (fun y hy => ?_) (gd _))
    rcases List.mem_append.mp hy with z | z
    · exact gt y z
    · rw [List.mem_singleton.mp z]; exact hx
theorem c_law_near_rule (T : Txt K mg) : C8.Cal P w K mg base 2 "_law_near_rule" (sp_law_near_rule K) [] := by
  obtain ⟨fd, F⟩ := T.f_law_near_rule
  exact ⟨_, fd, _, _, ok_law_near_rule T F, T.g_law_near_rule, F.kp, F.bindsN (fun _ _ _ _ _ _ us hl => match us, hl with | [_, _], _ => rfl), .nil⟩
end
end K04

namespace K04
open PySem PySem.Spec PyProof.Rows L2 My StX
section
variable {P : Program} {w : World} {K : PySem.W.Frag} {mg : Str → Option Value} {base : Heap}
def sp_law_near (K : PySem.W.Frag) : Sp := fun vs H Q _ => ∃ (a p : Addr) (n : Nat) (x : PlnL), vs = [.ref a, .ref p] ∧ SpringAt H a n ∧ n ≤ 10000 ∧ PlAt K H p x ∧ PlnOk x ∧ ∀ H' p' x', But [a] H H' → SpringAt H' a (n + 20) → PlAt K H' p' x' → PlnOk x' → Q (.ref p') H'
set_option maxHeartbeats 2000000 in
theorem ok_law_near (T : Txt K mg) {fd : FuncData} (F : FunD K d_law_near.name d_law_near.qual d_law_near.params d_law_near.body d_law_near.scope (d_law_near.dvs K) (d_law_near.kws K) (He.fAd K d_law_near.at_) fd) : FnOk P w K mg base C8.CX0 3 (He.fAd K d_law_near.at_) fd ["pot", "plan"] (sp_law_near K) := by
  have c_law_near_rule := c_law_near_rule (P := P) (w := w) (base := base) T
  have c_law_dip := c_law_dip (P := P) (w := w) (base := base) T
  refine F.ok sc_law_near (fun vs H Q E h => ?_) (fun cdv A outer s H vs Q E hr h => ?_)
  · obtain ⟨a, p, n, x, rfl, _⟩ := h
    rfl
  · have hu := L2.hu_of hr
    obtain ⟨a, p, n, ⟨d, rs⟩, rfl, hs, hn, hp, ⟨hd1, hd2, hg⟩, k⟩ := h
    refine ⟨_, (PSs.nox ((pss_cons (ps_par3 (i := 2) (j := 3) (l := 4) (by rfl) sc_law_near.nd rfl rfl rfl (by decide) (by decide) (by decide) rfl rfl rfl (pa_cons (C8.pe_c c_law_dip hr (by decide) rfl (pa_cons (pv 0) (pa_cons pe_int pa_nil))) (pa_cons (C8.pe_c c_law_dip hr (by decide) rfl (pa_cons (pv 0) (pa_cons pe_int pa_nil))) (pa_cons (C8.pe_c c_law_dip hr (by decide) rfl (pa_cons (pv 0) (pa_cons pe_int pa_nil))) pa_nil))) (by rfl))
  (pss_cons (ps_asg (pv 1) (My.pg_tupK (K := K) (n := 2) rfl rfl (pgs_cons (pg_name (i := 5) sc_law_near.nd rfl (by first | exact Or.inl rfl | exact Or.inr rfl)) (pgs_cons (pg_name (i := 6) sc_law_near.nd rfl (by first | exact Or.inl rfl | exact Or.inr rfl)) pgs_nil))))
  (pss_cons (ps_if (pt_cmpR op_eq (pv 2) pe_int (nomark _))
  (pss_one (ps_ret (pe_tup (pa_cons (pe_op op_add pe_int (pe_op op_mod (pv 5) pe_int)) (pa_cons (pv 6) pa_nil)))))
  pss_nil)
  (pss_cons (ps_if (pt_cmpR op_eq (pv 2) pe_int (nomark _))
  (pss_cons (ps_set (i := 7) sc_law_near.nd rfl (by first | exact Or.inl rfl | exact Or.inr rfl) (pe_callTy (My.list_ofK (K := K) rfl) (by rfl) T.list (by decide +kernel) (pa_cons (pv 6) pa_nil)))
  (pss_cons (ps_asg (pe_tup (pa_cons (pe_ix (My.ix_tupK (K := K) rfl) (pv 6) (pv 4) (fun _ _ => rfl)) (pa_cons (pe_ix (My.ix_tupK (K := K) rfl) (pv 6) (pv 3) (fun _ _ => rfl)) pa_nil))) (My.pg_tupK (K := K) (n := 2) rfl rfl (pgs_cons (pg_sub (pv 7) (pv 3) set_list) (pgs_cons (pg_sub (pv 7) (pv 4) set_list) pgs_nil))))
  (pss_one (ps_ret (pe_tup (pa_cons (pv 5) (pa_cons (pe_callTy (My.tuple_ofK (K := K) rfl) (by rfl) T.tuple (by decide +kernel) (pa_cons (pv 7) pa_nil)) pa_nil)))))))
  pss_nil)
  (pss_cons (ps_if (pt_cmpR op_eq (pv 2) pe_int (nomark _))
  (pss_one (ps_ret (pe_tup (pa_cons (pv 5) (pa_cons (pe_op (My.catAK (K := K) rfl) (pe_op (My.catAK (K := K) rfl) (pe_slice (My.sl_tupAK (K := K) rfl) (pv 6) po_none (po_some (pv 3))) (pe_tup (pa_cons (pe_ix (My.ix_tupK (K := K) rfl) (pv 6) (pv 4) (fun _ _ => rfl)) pa_nil))) (pe_slice (My.sl_tupAK (K := K) rfl) (pv 6) (po_some (pe_op op_add (pv 3) pe_int)) po_none)) pa_nil)))))
  pss_nil)
  (pss_cons (ps_if (pt_cmpR op_eq (pv 2) pe_int (nomark _))
  (pss_one (ps_ret (pe_tup (pa_cons (pv 5) (pa_cons (pv 6) pa_nil)))))
  pss_nil)
  (pss_one (ps_ret (pe_tup (pa_cons (pv 5) (pa_cons (pe_op (My.catAK (K := K) rfl) (pe_op (My.catAK (K := K) rfl) (pe_slice (My.sl_tupAK (K := K) rfl) (pv 6) po_none (po_some (pv 3))) (pe_tup (pa_cons (C8.pe_c c_law_near_rule hr (by decide) rfl (pa_cons (pv 0) (pa_cons (pe_ix (My.ix_tupK (K := K) rfl) (pv 6) (pv 3) (fun _ _ => rfl)) pa_nil))) pa_nil))) (pe_slice (My.sl_tupAK (K := K) rfl) (pv 6) (po_some (pe_op op_add (pv 3) pe_int)) po_none)) pa_nil))))))))))))), ?_⟩
    have lt100 : ∀ m : Nat, m ≤ 60000 → m < 2 ^ 100 := fun m h => Nat.lt_of_le_of_lt h (by decide)
    refine ⟨_, rfl, a, n, 6, rfl, hs, lt100 _ (by omega), by decide, by decide, fun H1 way b1 s1 w0 w1 => ?_⟩
    refine ⟨_, rfl, a, n + 1, 8, rfl, s1, lt100 _ (by omega), by decide, by decide, fun H2 spot b2 s2 k0 k1 => ?_⟩
    refine ⟨_, rfl, a, n + 1 + 1, 8, rfl, s2, lt100 _ (by omega), by decide, by decide, fun H3 other b3 s3 j0 j1 => ?_⟩
    obtain ⟨i, hi, rfl⟩ : ∃ i : Nat, i < 8 ∧ spot = (i : Int) := ⟨spot.toNat, by omega, by omega⟩
    obtain ⟨j, hj, rfl⟩ : ∃ j : Nat, j < 8 ∧ other = (j : Int) := ⟨other.toNat, by omega, by omega⟩
    have hp3 : PlanAt K H3 p d rs := ((hp.draw b1 hs).draw b2 s1).draw b3 s2
    have b03 := (b1.trans b2).trans b3
    obtain ⟨t, as, hp1, ht1, h3⟩ := id hp3
    have al8 : as.length = 8 := h3.length.trans hg.len
    refine ⟨_, _, _, rfl, ?_⟩
    refine ⟨_, rfl, p, _, rfl, hp1, rfl, _, _, rfl, ?_⟩
    refine ⟨_, _, rfl, rfl, ?_⟩
    have fin0 : ∀ H' p' x', Same H3 H' → PlAt K H' p' x' → PlnOk x' → Q (.ref p') H' := fun H' p' x' z h g => k H' p' x' (b03.trans (But.of z)) ((s3.same z).mono (by omega)) h g
    have ri := hg.get hi
    have rj := hg.get hj
    obtain ⟨ai, hai, hRi⟩ := paired_get h3 ri
    obtain ⟨aj, haj, hRj⟩ := paired_get h3 rj
    have gi := hg.good _ (List.mem_of_getElem? ri)
    have gj := hg.good _ (List.mem_of_getElem? rj)
    have vi : (as.map V.ref)[i]? = some (.ref ai) := by rw [List.getElem?_map, hai]; rfl
    have vj : (as.map V.ref)[j]? = some (.ref aj) := by rw [List.getElem?_map, haj]; rfl
    have okp : ∀ {r : RuleL}, GoodRule r → PlnOk (d, rs.take i ++ [r] ++ rs.drop (i + 1)) := fun {r} gq => ⟨hd1, hd2, by
        rw [List.length_append, List.length_append, List.length_take, List.length_drop, hg.len]
        show min i 8 + 1 + (8 - (i + 1)) = 8
        omega, fun y hy => by
        rcases List.mem_append.mp hy with z | z
        · rcases List.mem_append.mp z with z | z
          · exact hg.good _ (List.mem_of_mem_take z)
          · rw [List.mem_singleton.mp z]; exact gq
        · exact hg.good _ (List.mem_of_mem_drop z)⟩
    have tak : (as.map V.ref).take i = (as.take i).map V.ref := by rw [List.map_take]
    have drp : (as.map V.ref).drop (i + 1) = (as.drop (i + 1)).map V.ref := by rw [List.map_drop]
    refine ⟨_, rfl, rfl, _, rfl, L2.ite2 (fun c => ?_) (fun _ => ?_)⟩
    · clear c
      refine ⟨_, rfl, _, _, rfl, rfl, (show (0 : Int) < 30 by decide), _, _, rfl, rfl, _, rfl, by show 2 ≤ sizeLine; decide, fun q nq => ?_⟩
      have yq := same_new (o := .tup [V.int (1 + d % 30), .ref t]) nq
      exact fin0 _ q (1 + d % 30, rs) yq ⟨t, as, SqT.of upd_same, same_tup yq ht1, KT.rules (KT.of yq) h3⟩ ⟨by show 1 ≤ 1 + d % 30; omega, by show 1 + d % 30 ≤ 30; omega, hg⟩
    refine ⟨_, rfl, rfl, _, rfl, L2.ite2 (fun c => ?_) (fun _ => ?_)⟩
    · clear c
      refine ⟨_, rfl, t, _, rfl, .inr ht1, fun L nL => ?_⟩
      have yL := same_new (o := .lst (as.map V.ref)) nL
      have hL := upd_same (H := H3) (a := L) (o := .lst (as.map V.ref))
      have ht2 := same_tup yL ht1
      have h32 := KT.rules (KT.of yL) h3
      refine ⟨_, rfl, _, rfl, t, _, _, _, rfl, rfl, ht2, atI_nat vj, _, rfl, _, rfl, t, _, _, _, rfl, rfl, ht2, atI_nat vi, by show 2 ≤ sizeLine; decide, fun tt ntt => ?_⟩
      have yt := same_new (o := .tup [V.ref aj, .ref ai]) ntt
      have htt := upd_same (H := upd H3 L (.lst (as.map V.ref))) (a := tt) (o := .tup [V.ref aj, .ref ai])
      have hL2 := yt _ _ hL
      have hH3L : H3 L = none := nL
      have z2 := yL.trans yt
      dsimp only
      generalize upd (upd H3 L (.lst (as.map V.ref))) tt (.tup [V.ref aj, .ref ai]) = H4 at htt hL2 z2
      refine ⟨tt, _, rfl, SqT.of htt, rfl, _, _, rfl, _, rfl, _, rfl, L, _, _, i, rfl, rfl, hL2, ixN_nat (by rw [List.length_map]; omega), ?_⟩
      refine ⟨_, _, rfl, _, rfl, _, rfl, L, _, _, j, rfl, rfl, upd_same, ixN_nat (by rw [List.length_set, List.length_map]; omega), rfl, ?_⟩
      have e2 : ((as.map V.ref).set i (.ref aj)).set j (.ref ai) = ((as.set i aj).set j ai).map V.ref := by rw [List.map_set, List.map_set]
      rw [e2]
      have z5 : Same H3 (upd (upd H4 L (.lst ((as.map V.ref).set i (.ref aj)))) L (.lst (((as.set i aj).set j ai).map V.ref))) := same_upd (same_upd z2 hH3L) hH3L
      have hL5 := upd_same (H := upd H4 L (.lst ((as.map V.ref).set i (.ref aj)))) (a := L) (o := .lst (((as.set i aj).set j ai).map V.ref))
      generalize upd (upd H4 L (.lst ((as.map V.ref).set i (.ref aj)))) L (.lst (((as.set i aj).set j ai).map V.ref)) = H5 at z5 hL5
      refine ⟨_, rfl, _, rfl, L, _, rfl, .inl ⟨SqL.of hL5, fun m nm => ⟨by show 2 ≤ sizeLine; decide, fun q nq => ?_⟩⟩⟩
      have ym := same_new (o := .tup (((as.set i aj).set j ai).map V.ref)) nm
      have yq := same_new (o := .tup [V.int d, .ref m]) nq
      have z7 := z5.trans (ym.trans yq)
      refine fin0 _ q (d, (rs.set i (at_ rs j)).set j (at_ rs i)) z7 ⟨m, (as.set i aj).set j ai, SqT.of upd_same, SqT.of (yq _ _ upd_same), paired_set j (paired_set i (KT.rules (KT.of z7) h3) (KT.tup (KT.of z7) hRj)) (KT.tup (KT.of z7) hRi)⟩ ⟨hd1, hd2, by rw [List.length_set, List.length_set, hg.len], fun y hy => ?_⟩
      rcases List.mem_or_eq_of_mem_set hy with z | z
      · rcases List.mem_or_eq_of_mem_set z with z | z
        · exact hg.good _ z
        · rw [z]; exact gj
      · rw [z]; exact gi
    refine ⟨_, rfl, rfl, _, rfl, L2.ite2 (fun c => ?_) (fun _ => ?_)⟩
    · clear c
      refine ⟨_, rfl, _, rfl, _, rfl, _, rfl, slA_to ht1 fun m1 H4 z4 hm1 => ?_⟩
      refine ⟨_, rfl, _, rfl, t, _, _, _, rfl, rfl, same_tup z4 ht1, atI_nat vj, by show 1 ≤ sizeLine; decide, fun g ng => ?_⟩
      have yg := same_new (o := .tup [V.ref aj]) ng
      refine catA_of (same_tup yg hm1) (SqT.of upd_same) (by rw [List.length_take, List.length_map]; show min i _ + 1 ≤ sizeLine; exact Nat.le_of_lt (lt_line (by omega))) fun m2 H5 z5 hm2 => ?_
      have z35 := z4.trans (yg.trans z5)
      refine ⟨_, rfl, _, rfl, _, _, rfl, rfl, _, rfl, slA_fromV (i := i + 1) (by omega) (same_tup z35 ht1) fun m3 H6 z6 hm3 => ?_⟩
      refine catA_of (same_tup z6 hm2) hm3 (by rw [List.length_append, List.length_take, List.length_drop, List.length_map]; show min i _ + 1 + _ ≤ sizeLine; exact Nat.le_of_lt (lt_line (by omega))) fun m4 H7 z7 hm4 => ?_
      refine ⟨by show 2 ≤ sizeLine; decide, fun q nq => ?_⟩
      have yq := same_new (o := .tup [V.int d, .ref m4]) nq
      have z37 := z35.trans (z6.trans (z7.trans yq))
      have h37 := KT.rules (KT.of z37) h3
      refine fin0 _ q (d, rs.take i ++ [at_ rs j] ++ rs.drop (i + 1)) z37 ⟨m4, as.take i ++ [aj] ++ as.drop (i + 1), SqT.of upd_same, ?_, paired_app (paired_app (paired_take i h37) (.cons (KT.tup (KT.of z37) hRj) .nil)) (paired_drop (i + 1) h37)⟩ (okp gj)
      rw [List.map_append, List.map_append, ← tak, ← drp]
      exact same_tup yq hm4
    refine ⟨_, rfl, rfl, _, rfl, L2.ite2 (fun c => ?_) (fun _ => ?_)⟩
    · clear c
      refine ⟨_, rfl, _, rfl, by show 2 ≤ sizeLine; decide, fun q nq => ?_⟩
      have yq := same_new (o := .tup [V.int d, .ref t]) nq
      exact fin0 _ q (d, rs) yq ⟨t, as, SqT.of upd_same, same_tup yq ht1, KT.rules (KT.of yq) h3⟩ ⟨hd1, hd2, hg⟩
    refine ⟨_, rfl, _, rfl, _, rfl, _, rfl, slA_to ht1 fun m1 H4 z4 hm1 => ?_⟩
    refine ⟨_, rfl, _, rfl, _, rfl, t, _, _, _, rfl, rfl, same_tup z4 ht1, atI_nat vi, ?_⟩
    have s4 := s3.same z4
    refine ⟨a, ai, n + 1 + 1 + 1, at_ rs i, rfl, s4, by omega, same_tup z4 hRi, gi, fun H5 pr r' b5 s5 hpr gpr => ?_⟩
    refine ⟨by show 1 ≤ sizeLine; decide, fun g ng => ?_⟩
    have yg := same_new (o := .tup [V.ref pr]) ng
    have hm15 := same_tup yg (But.tupS b5 s4 hm1)
    refine catA_of hm15 (SqT.of upd_same) (by rw [List.length_take, List.length_map]; show min i _ + 1 ≤ sizeLine; exact Nat.le_of_lt (lt_line (by omega))) fun m2 H6 z6 hm2 => ?_
    have z56 := yg.trans z6
    have ht6 := same_tup z56 (But.tupS b5 s4 (same_tup z4 ht1))
    refine ⟨_, rfl, _, rfl, _, _, rfl, rfl, _, rfl, slA_fromV (i := i + 1) (by omega) ht6 fun m3 H7 z7 hm3 => ?_⟩
    refine catA_of (same_tup z7 hm2) hm3 (by rw [List.length_append, List.length_take, List.length_drop, List.length_map]; show min i _ + 1 + _ ≤ sizeLine; exact Nat.le_of_lt (lt_line (by omega))) fun m4 H8 z8 hm4 => ?_
    refine ⟨by show 2 ≤ sizeLine; decide, fun q nq => ?_⟩
    have yq := same_new (o := .tup [V.int d, .ref m4]) nq
    have z58 := z56.trans (z7.trans (z8.trans yq))
    have k8 : KT H3 _ := (KT.of z4).trans ((KT.draw b5 s4).trans (KT.of z58))
    have h38 := KT.rules k8 h3
    refine k _ q (d, rs.take i ++ [r'] ++ rs.drop (i + 1)) (b03.trans ((But.of z4).trans (b5.trans (But.of z58)))) ((s5.same z58).mono (by omega)) ⟨m4, as.take i ++ [pr] ++ as.drop (i + 1), SqT.of upd_same, ?_, paired_app (paired_app (paired_take i h38) (.cons (same_tup z58 hpr) .nil)) (paired_drop (i + 1) h38)⟩ (okp gpr)
    rw [List.map_append, List.map_append, ← tak, ← drp]
    exact same_tup yq hm4
theorem c_law_near (T : Txt K mg) : C8.Cal P w K mg base 3 "_law_near" (sp_law_near K) [] := by
  obtain ⟨fd, F⟩ := T.f_law_near
  exact ⟨_, fd, _, _, ok_law_near T F, T.g_law_near, F.kp, F.bindsN (fun _ _ _ _ _ _ us hl => match us, hl with | [_, _], _ => rfl), .nil⟩
end
end K04

namespace K04
open PySem PySem.Spec PyProof.Rows L2 My StX
section
variable {P : Program} {w : World} {K : PySem.W.Frag} {mg : Str → Option Value} {base : Heap}
theorem decv_same {K : PySem.W.Frag} {H H' : Hp} {v : V} {T : String} (s : Same H H') (dv : DecV K H v T) : DecV K H' v T := by
  cases dv with
  | non => exact .non
  | int i => exact .int i
  | bl i => exact .bl i
  | str i => exact .str i
  | lst h => exact .lst (s.seq h)
  | tup h => exact .tup (same_tup s h)
  | dK h => exact .dK (s _ _ h)
def sp_law_right (K : PySem.W.Frag) : Sp := fun vs H Q _ => ∃ (a : Addr) (n : Nat), vs = [.ref a] ∧ SpringAt H a n ∧ n ≤ 10 ∧ ∀ H', But [a] H H' → Q (.bl true) H'
set_option maxHeartbeats 2000000 in
theorem ok_law_right (T : Txt K mg) {fd : FuncData} (F : FunD K d_law_right.name d_law_right.qual d_law_right.params d_law_right.body d_law_right.scope (d_law_right.dvs K) (d_law_right.kws K) (He.fAd K d_law_right.at_) fd) : FnOk P w K mg base C8.CX0 7 (He.fAd K d_law_right.at_) fd ["pot"] (sp_law_right K) := by
  have c_Book_days := c_Book_days (P := P) (w := w) (base := base) T
  have c_Book_rules := c_Book_rules (P := P) (w := w) (base := base) T
  have c_law_same := c_law_same (P := P) (w := w) (base := base) T
  have c_book_text := c_book_text (P := P) (w := w) (base := base) T
  have c_law_made := c_law_made (P := P) (w := w) (base := base) T
  have c_law_near := c_law_near (P := P) (w := w) (base := base) T
  have c_law_book := c_law_book (P := P) (w := w) (base := base) T
  have c_law_plan := c_law_plan (P := P) (w := w) (base := base) T
  refine F.ok sc_law_right (fun vs H Q E h => ?_) (fun cdv A outer s H vs Q E hr h => ?_)
  · obtain ⟨a, n, rfl, _⟩ := h
    rfl
  · have hu := L2.hu_of hr
    obtain ⟨a, n, rfl, hs, hn, q⟩ := h
    refine ⟨_, (PSs.nox ((pss_cons (ps_set (i := 1) sc_law_right.nd rfl (by first | exact Or.inl rfl | exact Or.inr rfl) (C8.pe_c c_law_plan hr (by decide) rfl (pa_cons (pv 0) pa_nil)))
  (pss_cons (ps_asg (pe_tup (pa_cons (C8.pe_c c_law_book hr (by decide) rfl (pa_cons (pv 1) pa_nil)) (pa_cons (C8.pe_c c_law_made hr (by decide) rfl (pa_cons (pv 0) (pa_cons (pv 1) pa_nil))) pa_nil))) (My.pg_tupK (K := K) (n := 2) rfl rfl (pgs_cons (pg_name (i := 2) sc_law_right.nd rfl (by first | exact Or.inl rfl | exact Or.inr rfl)) (pgs_cons (pg_name (i := 3) sc_law_right.nd rfl (by first | exact Or.inl rfl | exact Or.inr rfl)) pgs_nil))))
  (pss_cons (ps_set (i := 4) sc_law_right.nd rfl (by first | exact Or.inl rfl | exact Or.inr rfl) (C8.pe_c c_law_near hr (by decide) rfl (pa_cons (pv 0) (pa_cons (pv 1) pa_nil))))
  (pss_cons (ps_set (i := 5) sc_law_right.nd rfl (by first | exact Or.inl rfl | exact Or.inr rfl) (C8.pe_c c_law_made hr (by decide) rfl (pa_cons (pv 0) (pa_cons (pv 4) pa_nil))))
  (pss_cons (ps_set (i := 6) sc_law_right.nd rfl (by first | exact Or.inl rfl | exact Or.inr rfl) (pe_lst (pa_cons pe_non (pa_cons (pe_ix (My.ix_tupK (K := K) rfl) (pv 1) pe_int (fun _ _ => rfl)) (pa_cons (pe_ix (My.ix_tupK (K := K) rfl) (pv 1) pe_int (fun _ _ => rfl)) (pa_cons (pv 1) (pa_cons (pe_callTy (My.list_ofK (K := K) rfl) (by rfl) T.list (by decide +kernel) (pa_cons (pe_ix (My.ix_tupK (K := K) rfl) (pv 1) pe_int (fun _ _ => rfl)) pa_nil)) (pa_cons (C8.pe_c c_book_text hr (by decide) rfl (pa_cons (pv 2) pa_nil)) (pa_cons pe_bl (pa_cons (pe_lst pa_nil) (pa_cons (pe_tup pa_nil) (pa_cons pe_str (pa_cons pe_dnewK pa_nil)))))))))))))
  (pss_cons (ps_for PassesOwn.never rfl (pi_range1 (by rfl) T.range (pa_cons pe_int pa_nil)) (pg_name (i := 7) sc_law_right.nd rfl (by first | exact Or.inl rfl | exact Or.inr rfl))
  (pss_cons (ps_if (PW.pt (pw_or (pt_not (pt_val (C8.pe_c c_law_same hr (by decide) rfl (pa_cons (pv 2) (pa_cons (pv 5) (pa_cons (pe_cmpR (My.eqDK (K := K) rfl hr.units) (pv 1) (pv 4) (nomark _)) pa_nil)))))) (pw_or1 (pt_not (pt_val (C8.pe_c c_law_same hr (by decide) rfl (pa_cons (pv 2) (pa_cons (pv 3) (pa_cons pe_bl pa_nil)))))))))
  (pss_one (ps_ret pe_bl))
  pss_nil)
  (pss_one (ps_if (pt_cmpR (op_neE (K := K) rfl hr.units) (pe_lc (own := [("thing", 8)]) (g := (gName 8)) (by rfl) sc_law_right.nd (My.pi_listK (K := K) rfl (pv 6)) (blkOk_by (N := N_law_right) (sc := defScope s_law_right) (by decide +kernel)) (fun _ _ _ _ _ => (pg_name (i := 8) sc_law_right.nd rfl (by first | exact Or.inl rfl | exact Or.inr rfl))) (fun _ _ _ _ _ => (pts_one (pt_not (pt_val (C8.pe_c c_law_same hr (by decide) rfl (pa_cons (pv 2) (pa_cons (pv 8) (pa_cons pe_bl pa_nil)))))))) (fun _ _ _ _ _ => (pv 8))) (pe_lst pa_nil) (nomark _))
  (pss_one (ps_ret pe_bl))
  pss_nil))))
  (pss_one (ps_ret (pe_and (pe_cmpR (My.eqDK (K := K) rfl hr.units) (C8.pe_mt0 c_Book_rules hr (by decide) (pv 2)) (pe_ix (My.ix_tupK (K := K) rfl) (pv 1) pe_int (fun _ _ => rfl)) (nomark _)) (pe_and (pe_cmpR (My.eqDK (K := K) rfl hr.units) (C8.pe_mt0 c_Book_rules hr (by decide) (pv 5)) (pe_ix (My.ix_tupK (K := K) rfl) (pv 4) pe_int (fun _ _ => rfl)) (nomark _)) (pe_one (pe_cmpR op_eq (C8.pe_mt0 c_Book_days hr (by decide) (pv 5)) (pe_ix (My.ix_tupK (K := K) rfl) (pv 4) pe_int (fun _ _ => rfl)) (nomark _))))))))))))))), ?_⟩
    have lt100 : ∀ m : Nat, m ≤ 60000 → m < 2 ^ 100 := fun m h => Nat.lt_of_le_of_lt h (by decide)
    refine ⟨_, rfl, a, n, rfl, hs, by omega, fun H1 p d rs b1 s1 hp hg h1 h2 => ?_⟩
    have ok : PlnOk (d, rs) := ⟨h1, h2, hg⟩
    refine ⟨_, rfl, p, d, rs, rfl, hp, hg, h1, h2, fun H2 b nb z2 hb => ?_⟩
    have s2 := s1.same z2
    refine ⟨_, rfl, _, rfl, a, p, _, d, rs, rfl, s2, by omega, hp.same z2, hg, h1, h2, fun H3 c b3 s3 hc => ⟨by show 2 ≤ sizeLine; decide, fun tt ntt => ?_⟩⟩
    have yt := same_new (o := .tup [V.ref b, .ref c]) ntt
    refine ⟨tt, _, rfl, SqT.of upd_same, rfl, _, _, rfl, _, _, rfl, rfl, ?_⟩
    have s3 := s3.same yt
    have hb3 : BkAt K _ b (d, rs) := (hb.draw b3 s2).same yt
    have hc3 : BkAt K _ c (d, rs) := hc.same yt
    have hp3 : PlAt K _ p (d, rs) := ((hp.same z2).draw b3 s2).same yt
    have b13 := (b1.trans (But.of z2)).trans (b3.trans (But.of yt))
    dsimp only
    generalize upd H3 tt (.tup [V.ref b, .ref c]) = H4 at s3 hb3 hc3 hp3 b13
    refine ⟨_, rfl, _, rfl, a, p, _, (d, rs), rfl, s3, by omega, hp3, ok, fun H5 o y b5 s5 ho oky => ?_⟩
    have hb5 : BkAt K _ b (d, rs) := BookAt.draw b5 s3 hb3
    have hc5 : BkAt K _ c (d, rs) := BookAt.draw b5 s3 hc3
    have hp5 : PlAt K _ p (d, rs) := PlanAt.draw b5 s3 hp3
    refine ⟨_, rfl, _, rfl, a, o, _, y.1, y.2, rfl, s5, by omega, ho, oky.2.2, oky.1, oky.2.1, fun H6 e b6 s6 he => ?_⟩
    have hb6 : BkAt K _ b (d, rs) := BookAt.draw b6 s5 hb5
    have hc6 : BkAt K _ c (d, rs) := BookAt.draw b6 s5 hc5
    have hp6 : PlAt K _ p (d, rs) := PlanAt.draw b6 s5 hp5
    have ho6 : PlAt K _ o y := PlanAt.draw b6 s5 ho
    have he6 : BkAt K _ e y := he
    have b16 := (b13.trans b5).trans b6
    obtain ⟨t, as, hp1, ht1, h3⟩ := id hp6
    refine ⟨_, rfl, p, _, 0, _, rfl, rfl, hp1, rfl, ?_⟩
    refine ⟨_, rfl, p, _, 1, _, rfl, rfl, hp1, rfl, ?_⟩
    refine ⟨_, rfl, _, rfl, p, _, 1, _, rfl, rfl, hp1, rfl, t, _, rfl, .inr ht1, fun l nl => ?_⟩
    have yl := same_new (o := .lst (as.map V.ref)) nl
    refine ⟨_, rfl, b, d, rs, rfl, BookAt.same yl hb6, hg, h1, h2, fun H8 z8 => ?_⟩
    refine ⟨Nat.zero_le _, fun e1 ne1 => ⟨Nat.zero_le _, fun e2 ne2 e3 ne3 => ⟨by show 11 ≤ sizeLine; decide, fun L nL => ?_⟩⟩⟩
    have y1 := same_new (o := .lst []) ne1
    have y2 := same_new (o := .tup []) ne2
    have y3 := same_new (o := .dK []) ne3
    have yL := same_new (o := .lst ([.non, .int d, .ref t, .ref p, .ref l, .str (bookS d rs), .bl true, .ref e1, .ref e2, .str "", .ref e3] : List V)) nL
    have zA := yl.trans (z8.trans (y1.trans (y2.trans (y3.trans yL))))
    have f1 := (y2.trans (y3.trans yL)) _ _ (upd_same (H := H8) (a := e1) (o := .lst []))
    have f2 := (y3.trans yL) _ _ (upd_same (H := upd H8 e1 (.lst [])) (a := e2) (o := .tup []))
    have f3 := yL _ _ (upd_same (H := upd (upd H8 e1 (.lst [])) e2 (.tup [])) (a := e3) (o := .dK []))
    have fl := (z8.trans (y1.trans (y2.trans (y3.trans yL)))) _ _ (upd_same (H := H6) (a := l) (o := .lst (as.map V.ref)))
    have fL := upd_same (H := upd (upd (upd H8 e1 (.lst [])) e2 (.tup [])) e3 (.dK [])) (a := L) (o := .lst ([.non, .int d, .ref t, .ref p, .ref l, .str (bookS d rs), .bl true, .ref e1, .ref e2, .str "", .ref e3] : List V))
    show Ends.nx _ [some (.ref a), some (.ref p), some (.ref b), some (.ref c), some (.ref o), some (.ref e), some (.ref L), none, none] (upd (upd (upd (upd H8 e1 (.lst [])) e2 (.tup [])) e3 (.dK [])) L (.lst ([.non, .int d, .ref t, .ref p, .ref l, .str (bookS d rs), .bl true, .ref e1, .ref e2, .str "", .ref e3] : List V)))
    generalize upd (upd (upd (upd H8 e1 (.lst [])) e2 (.tup [])) e3 (.dK [])) L (.lst ([.non, .int d, .ref t, .ref p, .ref l, .str (bookS d rs), .bl true, .ref e1, .ref e2, .str "", .ref e3] : List V)) = H9 at zA f1 f2 f3 fl fL
    have hb9 : BkAt K H9 b (d, rs) := BookAt.same zA hb6
    have hc9 : BkAt K H9 c (d, rs) := BookAt.same zA hc6
    have hp9 : PlAt K H9 p (d, rs) := PlanAt.same zA hp6
    have ho9 : PlAt K H9 o y := PlanAt.same zA ho6
    have he9 : BkAt K H9 e y := BookAt.same zA he6
    have b19 := b16.trans (But.of zA)
    have all : ∀ v ∈ ([.non, .int d, .ref t, .ref p, .ref l, .str (bookS d rs), .bl true, .ref e1, .ref e2, .str "", .ref e3] : List V), ∃ T', DecV K H9 v T' := fun v hv => by
      simp only [List.mem_cons, List.not_mem_nil, or_false] at hv
      rcases hv with rfl | rfl | rfl | rfl | rfl | rfl | rfl | rfl | rfl | rfl | rfl
      · exact ⟨_, .non⟩
      · exact ⟨_, .int _⟩
      · exact ⟨_, .tup (same_tup zA ht1)⟩
      · exact ⟨_, .tup (same_tup zA hp1)⟩
      · exact ⟨_, .lst (SqL.of fl)⟩
      · exact ⟨_, .str _⟩
      · exact ⟨_, .bl _⟩
      · exact ⟨_, .lst (SqL.of f1)⟩
      · exact ⟨_, .tup (SqT.of f2)⟩
      · exact ⟨_, .str _⟩
      · exact ⟨_, .dK f3⟩
    generalize ([.non, .int d, .ref t, .ref p, .ref l, .str (bookS d rs), .bl true, .ref e1, .ref e2, .str "", .ref e3] : List V) = xs at fL all
    refine ⟨2, rfl, by decide, by decide, ?_⟩
    refine for_range (n := (2 : Int).toNat) (fun i σ H' => ∃ (o7 o8 : Option V), σ = [some (.ref a), some (.ref p), some (.ref b), some (.ref c), some (.ref o), some (.ref e), some (.ref L), o7, o8] ∧ Same H9 H') ⟨_, _, rfl, Same.refl _⟩ ?_ ?_
    · rintro i σ H2 hi ⟨o7, o8, rfl, s2⟩
      refine ⟨_, rfl, _, rfl, _, rfl, _, rfl, _, _, dp_plan (PlanAt.same s2 hp9), dp_plan (PlanAt.same s2 ho9), (sm_plan ok).shaped (by decide), (sm_plan oky).shaped (by decide), ?_⟩
      refine ⟨b, .ref e, _, (d, rs), rfl, BookAt.same s2 hb9, ok, .inl ⟨e, y, rfl, BookAt.same s2 he9, oky, eqv_plan (d, rs) y⟩, fun H3 s3 => ⟨true, rfl, ?_⟩⟩
      refine L2.iteF ?_
      refine ⟨_, rfl, _, rfl, b, .ref c, true, (d, rs), rfl, BookAt.same (s2.trans s3) hb9, ok, .inl ⟨c, (d, rs), rfl, BookAt.same (s2.trans s3) hc9, ok, by simp⟩, fun H4 s4 => ⟨true, rfl, L2.iteF ?_⟩⟩
      have z4 := s2.trans (s3.trans s4)
      refine ⟨_, rfl, L, rfl, ⟨xs, SqL.of (z4 _ _ fL)⟩, fun D hD => ?_⟩
      have yD := same_new (o := .lst []) hD
      refine lc_list (K := K) (a := L) (xs := xs) (fun i H' => Same H9 H' ∧ H' D = some (.lst [])) ⟨z4.trans yD, upd_same⟩ (fun i H' _ z => SqL.of (z.1 _ _ fL)) ?_ ?_
      · rintro i v H5 hv ⟨z5, hD5⟩
        obtain ⟨T', dv⟩ := all v (List.mem_of_getElem? hv)
        refine ⟨rfl, ?_⟩
        refine ⟨_, rfl, _, rfl, b, v, false, (d, rs), rfl, BookAt.same z5 hb9, ok, .inr ⟨rfl, T', decv_same z5 dv⟩, fun H6 s6 => ⟨true, rfl, L2.iteF ⟨z5.trans s6, s6 _ _ hD5⟩⟩⟩
      · rintro H5 ⟨z5, hD5⟩
        refine ⟨Nat.zero_le _, fun M nM => ?_⟩
        have yM := same_new (o := .lst []) nM
        refine ⟨D, M, [], rfl, rfl, SqL.of (yM _ _ hD5), upd_same, false, rfl, L2.iteF ?_⟩
        exact ⟨_, _, rfl, z5.trans yM⟩
    · rintro σ H2 ⟨o7, o8, rfl, s2⟩
      obtain ⟨tp, ap, hq1, hq2, hq3⟩ := id (PlanAt.same s2 hp9)
      obtain ⟨to, ao, ho1, ho2, ho3⟩ := id (PlanAt.same s2 ho9)
      have hb2 := BookAt.same s2 hb9
      have he2 := BookAt.same s2 he9
      obtain ⟨dxb, _, _, hbb, _⟩ := id hb2
      obtain ⟨dxe, _, _, hee, _⟩ := id he2
      refine ⟨_, rfl, b, dxb, _, rfl, hbb, rfl, b, d, rs, rfl, hb2, fun u1 as1 hu1 ha1 => ?_⟩
      refine ⟨_, rfl, p, _, 1, _, rfl, rfl, hq1, rfl, _, _, dp_rules hu1 ha1, dp_rules hq2 hq3, (sm_rules hg).shaped (by decide), (sm_rules hg).shaped (by decide), ?_⟩
      rw [(sm_rules hg).refl]
      refine ⟨true, rfl, L2.iteT ?_⟩
      refine ⟨_, rfl, e, dxe, _, rfl, hee, rfl, e, y.1, y.2, rfl, he2, fun u2 as2 hu2 ha2 => ?_⟩
      refine ⟨_, rfl, o, _, 1, _, rfl, rfl, ho1, rfl, _, _, dp_rules hu2 ha2, dp_rules ho2 ho3, (sm_rules oky.2.2).shaped (by decide), (sm_rules oky.2.2).shaped (by decide), ?_⟩
      rw [(sm_rules oky.2.2).refl]
      refine ⟨true, rfl, L2.iteT ?_⟩
      refine ⟨_, rfl, e, dxe, _, rfl, hee, rfl, e, y.1, y.2, rfl, he2, _, rfl, o, _, 0, _, rfl, rfl, ho1, rfl, rfl, ?_⟩
      rw [decide_eq_true (show V.int y.1 = V.int y.1 from rfl)]
      exact q _ (b19.trans (But.of s2))
theorem c_law_right (T : Txt K mg) : C8.Cal P w K mg base 7 "_law_right" (sp_law_right K) [] := by
  obtain ⟨fd, F⟩ := T.f_law_right
  exact ⟨_, fd, _, _, ok_law_right T F, T.g_law_right, F.kp, F.bindsN (fun _ _ _ _ _ _ us hl => match us, hl with | [_], _ => rfl), .nil⟩
def sp_law (K : PySem.W.Frag) : Sp := fun vs H Q _ => ∃ (a : Addr) (ns : List Int), vs = [.ref a] ∧ SqL K H a (ns.map V.int) ∧ ns.length ≤ 63 ∧ ∀ H', Q (.bl true) H'
set_option maxHeartbeats 2000000 in
theorem ok_law (T : Txt K mg) {fd : FuncData} (F : FunD K d_law.name d_law.qual d_law.params d_law.body d_law.scope (d_law.dvs K) (d_law.kws K) (He.fAd K d_law.at_) fd) : FnOk P w K mg base C8.CX0 8 (He.fAd K d_law.at_) fd ["script"] (sp_law K) := by
  have c_law_right := c_law_right (P := P) (w := w) (base := base) T
  have c_law_pot := c_law_pot (P := P) (w := w) (base := base) T
  refine F.ok sc_law (fun vs H Q E h => ?_) (fun cdv A outer s H vs Q E hr h => ?_)
  · obtain ⟨a, ns, rfl, _⟩ := h
    rfl
  · have hu := L2.hu_of hr
    obtain ⟨a, ns, rfl, hS, hl, q⟩ := h
    refine ⟨_, (PSs.nox ((pss_cons (ps_for PassesOwn.never rfl (pi_range1 (by rfl) T.range (pa_cons (pe_callB (call_max2 rfl) (by rfl) T.max (by decide +kernel) (pa_cons pe_int (pa_cons (pe_callB (call_min2 rfl) (by rfl) T.min (by decide +kernel) (pa_cons pe_int (pa_cons (pe_callB (My.len_seqK (K := K) rfl) (by rfl) T.len (by decide +kernel) (pa_cons (pv 0) pa_nil)) pa_nil))) pa_nil))) pa_nil)) (pg_name (i := 1) sc_law.nd rfl (by first | exact Or.inl rfl | exact Or.inr rfl))
  (pss_one (ps_if (pt_not (pt_val (C8.pe_c c_law_right hr (by decide) rfl (pa_cons (C8.pe_c c_law_pot hr (by decide) rfl (pa_cons (pv 0) (pa_cons (pv 1) pa_nil))) pa_nil))))
  (pss_one (ps_ret pe_bl))
  pss_nil)))
  (pss_one (ps_ret pe_bl))))), ?_⟩
    obtain ⟨m, hm, hm1, hm2⟩ : ∃ m : Nat, (if (if (((ns.map V.int).length : Nat) : Int) < 6 then (((ns.map V.int).length : Nat) : Int) else 6) > 1 then (if (((ns.map V.int).length : Nat) : Int) < 6 then (((ns.map V.int).length : Nat) : Int) else 6) else 1) = (m : Int) ∧ 1 ≤ m ∧ m ≤ 6 := by
      rw [List.length_map]
      split <;> split <;> first | exact ⟨ns.length, by omega, by omega, by omega⟩ | exact ⟨1, by omega, by omega, by omega⟩ | exact ⟨6, by omega, by omega, by omega⟩
    refine ⟨_, rfl, a, _, rfl, .inl hS, _, _, rfl, _, _, rfl, (m : Int), (by rw [hm]), by omega, by omega, ?_⟩
    refine for_range (n := (m : Int).toNat) (fun i σ H' => ∃ o, σ = [some (.ref a), o] ∧ Same H H') ⟨_, rfl, Same.refl _⟩ ?_ ?_
    · rintro i σ H2 hi ⟨o, rfl, s2⟩
      refine ⟨_, rfl, _, rfl, a, ns, _, rfl, s2.seq hS, by omega, by omega, fun H3 p hp s3 hsp => ?_⟩
      refine ⟨p, 0, rfl, hsp, by decide, fun H4 b4 => ⟨true, rfl, _, rfl, fun c o e => ?_⟩⟩
      have e2 := s2 _ _ e
      exact b4 _ _ (fun z => by rw [List.mem_singleton.mp z, hp] at e2; cases e2) (s3 _ _ e2)
    · rintro σ H2 ⟨o, rfl, s2⟩
      exact q _
theorem c_law (T : Txt K mg) : C8.Cal P w K mg base 8 "law" (sp_law K) [] := by
  obtain ⟨fd, F⟩ := T.f_law
  exact ⟨_, fd, _, _, ok_law T F, T.g_law, F.kp, F.bindsN (fun _ _ _ _ _ _ us hl => match us, hl with | [_], _ => rfl), .nil⟩
end
end K04

namespace K04
open PySem PySem.Spec PyProof.Rows L2 My
abbrev spLaw (K : PySem.W.Frag) : Sp := sp_law K
theorem law_end {P : Program} {w : World} {K : PySem.W.Frag} {mg : Str → Option Value} {fa : Addr} (T : Txt K mg) (hmg : mg ("law" : Str) = some (.ref fa)) :
    ∃ fd, (∀ (s : Shared) (u : Value), BindsTo s fd ⟨[u], []⟩ [("script", u)]) ∧ ∀ base : Heap, K.In base → base.Ns mainGlobals mg → FnOk P w K mg base L2.CX0 8 fa fd ["script"] (spLaw K) := by
  obtain ⟨fd, F⟩ := T.f_law
  have e : fa = He.fAd K d_law.at_ := by
    have h := T.g_law
    rw [hmg] at h
    exact Value.ref.inj (Option.some.inj h)
  subst e
  exact ⟨fd, fun s u => F.bindsA (ps := ["script"]) (fun _ _ _ _ _ _ us hl => match us, hl with | [_], _ => rfl) s [u] rfl, fun base _ _ => ok_law T F⟩
end K04

open PySem PySem.W PySem.Calls PyProof.Rows in
set_option maxRecDepth 100000 in
set_option maxHeartbeats 0 in
theorem PySem.Challenge.cw_lockerwall_k04_equal_books_holds : PySem.Challenge.rw_lockerwall_k04_equal_books.Holds := by
  w_on; o_law
  refine HandSHeadRun.head_any (r := OpenLaw.row PySem.Challenge.rw_lockerwall_k04_equal_books) (q := view (OpenLaw.row PySem.Challenge.rw_lockerwall_k04_equal_books).prog [32]) (H := K04.hk) (ob := K04.ob) (M := 9000) (loose := K04.loose) (d := HandSHeadRun.topDef (OpenLaw.row PySem.Challenge.rw_lockerwall_k04_equal_books).prog 32) (kwd := []) K04.ob_eq
    (by kernel_rfl) (fun s => by kernel_rfl) K04.run (by kernel_rfl) (by kernel_rfl) (by kernel_rfl) (by rfl) (by first | assumption | decide +kernel) (by decide +kernel) ⟨rfl, rfl, rfl, rfl, rfl, by decide +kernel⟩ ?hw ?hc
  case hw => w_witness2
  case hc =>
    refine L2.walk_ofE (l := PySem.Challenge.rw_lockerwall_k04_equal_books) (n := 63) (k := 8) (x := "script") (CX := L2.CX0) rfl (by decide) (by kernel_rfl) ⟨rfl, by decide, by decide⟩ ?F (fun _ _ _ _ z => z)
    intro w mg fa h Y G hmg0
    obtain ⟨K, KX, c, e⟩ := Y
    have hmg : mg ("law" : PySem.Str) = some (.ref fa) := by
      have e : (HandSHeadRun.topDef (OpenLaw.row PySem.Challenge.rw_lockerwall_k04_equal_books).prog 32).name = ("law" : PySem.Str) := by kernel_rfl
      rw [← e]
      exact hmg0
    obtain ⟨fd, hb, hF⟩ := K04.law_end (P := (PySem.Challenge.rw_lockerwall_k04_equal_books).prog) (w := w) ⟨h, KX, G, c, e⟩ hmg
    exact ⟨K, fd, K04.spLaw K, KX, hb, fun H a ns hl hO hS => ⟨a, ns, rfl, hS, hl, fun _ => rfl⟩, hF⟩

