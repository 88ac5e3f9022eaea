import PyProof.Rows.All
import Wide.All
import OpenK.AllK
import Wide.FinOn
import HandS.ForMost
import PyProof.ReprRoads
import HandS.FStrTup
import HandS.Strs
import HandS.SetFor
import HandS.Zip
import HandS.ForExc
import HandS.IsInst
import HandS.Evl
import HandS.Conv
import HandS.Flow
import HandS.Style
import HandS.Sort
import HandS.Walk
import HandS.Codes
import HandS.StrMore
import HandS.TupAny
import HandS.Defaults
import KE.KEqSeq
import HandS.WideBits
import HandS.ExcInit
import KE.KExcInit
import KE.KExcSuper
import KE.KSuper
import KE.KSuperObj
import HandS.Words
import HandS.WordsExc
import HandS.Exc
import HandS.ExcIs
import HandS.ExcField
import KE.KExcIs
import HandS.More
import PyProof.SetRoads
import HandS.Deep
import PyProof.StrBlock2
import KE.GoesNew
import KE.SortData
import PyProof.Rows.StrCase
import PyProof.Rows.ReprOcc
import PyProof.FitsInt
import HandS.FStr
import HandS.RaiseMore
import HandS.ExcOwn
import HandS.CallSlots
import PySem.Challenge.RW_potround_k03_colours_washes_and_ready_ho
set_option Elab.async false
set_option linter.all false
set_option maxRecDepth 100000
namespace Pot
open PySem PySem.Spec PyProof.Rows L2
/-! ### defs that are called where no text of a thing is under way -/
structure FnG (P : Program) (w : World) (K : PySem.W.Frag) (mg : Str → Option Value) (base : Heap) (k : Nat) (f : Addr) (fd : FuncData) (ps : List Str) (sp : Sp) : Prop where
  many : ∀ vs H Q E, sp vs H Q E → vs.length = ps.length
  does : ∀ (A : Around) (outer : List Env) (s : Shared) (H : Hp) (args : Args) (us : List Value) (vs : List V) (Q : VK), A.guards = some [] → Room k A → Env0 P w K mg base A outer s H →
    BindsTo s fd args (ps.zip us) → Vals vs us → sp vs H Q E0 → codeAny (model P w) A (.call (.ref f) args) (CR CX0 outer P w H s Q E0) s
section
variable {P : Program} {w : World} {K : PySem.W.Frag} {mg : Str → Option Value} {base : Heap}
theorem FnG.of {k : Nat} {f : Addr} {fd : FuncData} {ps : List Str} {sp : Sp} (F : FnOk P w K mg base CX0 k f fd ps sp) : FnG P w K mg base k f fd ps sp :=
  ⟨F.len, fun A outer s H args us vs Q _ hr e hb r h => F.run A outer s H args us vs Q E0 hr e hb r h⟩
theorem okG {x qual : Str} {st : Stmt} {f : Addr} {fd : FuncData} {N ps : List Str} {k : Nat} {sp : Sp} (F : Fun K x qual st f fd) (S : FnScope N ps (defScope st)) (many : ∀ vs H Q E, sp vs H Q E → vs.length = ps.length)
    (body : ∀ (cdv : Value) (A : Around) (outer : List Env) (s : Shared) (H : Hp) (vs : List V) (Q : VK), A.guards = some [] → Room k (A.deeper (envOfC qual (defScope st) s.heap.objs.size f cdv)) → sp vs H Q E0 →
      ∃ t, PSs (cxOf CX0 P w K mg base N qual (defScope st) f cdv A outer s H E0).nox (defBody st) t ∧ t { nx := fun _ H' => Q .non H', rt := Q } (start N vs) H) : FnG P w K mg base (k + 1) f fd ps sp := by
  obtain ⟨oc, od, kV, doc, pm, an, cdv, ct, osl, rfl, at_, code⟩ := F.ex
  refine ⟨many, fun A outer s H args us vs Q gd room e0 bind rel want => ?_⟩
  have kin : K.In s.heap := e0.mod.kin.keeps fun b o e => (e0.bs b o e).1
  have nolim : s.heap.NoLimit := e0.mod.nolimit.keeps fun b o e => (e0.bs b o e).1
  refine codeAny_call_function room.depth (kin _ _ at_) rfl S.co S.gen rfl (PySem.W.codeRec_of kin code) (bind _ _ _ _ (wpAny_newFunctionEnv_cells S.kind (fun y hy => ?_) fun env he s1 x => ?_))
  · obtain ⟨n, v⟩ := y
    exact (S.par n (List.of_mem_zip hy).1).imp id fun q => ⟨q, PySem.W.cellsFrom_some _ _ _ (.inl q)⟩
  · subst he
    obtain ⟨t, ht, hq⟩ := body cdv A outer s H vs Q gd (room.deeper _) want
    have I : Inv (cxOf CX0 P w K mg base N qual (defScope st) f cdv A outer s H E0) [] (start N vs) H s1 := inv_start S room.hd e0 (many _ _ _ _ want) rel x
    refine ⟨nolim.keeps x.toInCall.keep, codeAny_func (wpAny_mono (ht.nox.run [] s1 (start N vs) H _ I hq) (fun fl s' hs => ?_) fun _ _ z => z)⟩
    cases fl with
    | ret u =>
      obtain ⟨v, σ', H', J, rv, q⟩ := hs
      exact ⟨v, H', J.os, J.bare, J.base, J.hok, rv, q⟩
    | next =>
      obtain ⟨σ', H', J, q⟩ := hs
      exact ⟨V.non, H', J.os, J.bare, J.base, J.hok, rfl, q⟩
    | brk => obtain ⟨_, _, _, q⟩ := hs; exact q.elim
    | cont => obtain ⟨_, _, _, q⟩ := hs; exact q.elim
/-! calls -/
/-- a def that may be called by its name where no text is under way -/
def ClG (P : Program) (w : World) (K : PySem.W.Frag) (mg : Str → Option Value) (base : Heap) (k : Nat) (x : Str) (ds : List V) (sp : Sp) : Prop :=
  ∃ (f : Addr) (fd : FuncData) (ps : List Str) (dus : List Value), FnG P w K mg base k f fd ps sp ∧ mg x = some (.ref f) ∧ PySem.W.keepIn K (.ref f) = true ∧ Binds K fd ps dus ∧ Vals ds dus
theorem pe_clG {X : Cx} {k j : Nat} {x : Str} {ds : List V} {sp : Sp} {e : Expr} {es : List Expr} {t : TA} {p pos : Pos} (c : ClG X.prog X.w X.K X.mg X.base k x ds sp) (hr : Room j X.A) (gd : X.A.guards = some []) (hk : k ≤ j) (hg : Gl X x) (ha : PA X (e :: es) t)
    (hdb : (x == ("__debug__" : Str)) = false := by decide) (he : starEach (e :: es) X.env = (false, eval e X.env) :: starEach es X.env := by rfl) (hpl : (backTo pos (starEach es X.env)).any (·.1) = false := by rfl) :
    PE X (.Call (.Name x p) (e :: es) [] pos) (tCall sp ds E0 t) := by
  obtain ⟨f, fd, ps, dus, G, named, kept, binds, dv⟩ := c
  refine ⟨fun pins s σ H Q I h => wpAny_Call_Name_kw (ld_glob I hg named (PySem.W.callWith_K (h₀ := X.base) I.ok.mod.kin kept (thn (ha.run pos pins s σ H _ I h) fun us s1 hh => ?_) he hpl) hdb)⟩
  obtain ⟨vs, H1, I1, r, q⟩ := hh
  refine ⟨I1.kIn, ?_⟩
  have rel := r.append dv
  have n : (us ++ dus).length = ps.length := rel.length ▸ G.many _ _ _ _ q
  refine wpAny_call (codeAny_mono (G.does X.A X.stack s1 H1 ⟨us, []⟩ (us ++ dus) (vs ++ ds) Q gd (hr.mono hk) I1.env0 (binds s1 us I1.kIn n) rel q) fun res s' hq => ?_)
  rcases res with _ | fl
  case error => exact (show False from hq).elim
  cases fl <;> first | exact I1.after hq | exact (show False from hq).elim
/-! the law's own call -/
theorem law_callG {mb : Str → Option Value} {k : Nat} {fa a : Addr} {fd : FuncData} {x : Str} {sp : Sp} {s : Shared} {vs : List Value} {ns : List Int} (kin : K.In s.heap) (glob : s.heap.Ns mainGlobals mg) (blt : s.heap.Ns builtinsNs mb)
    (boot : ∀ y : Str, y ≠ "__name__" → mb y = bootBuiltins y) (lim : s.heap.NoLimit) (gens : s.gens = #[]) (obj : s.heap.get? a = some { cls := .type "list", data := .seq vs.toArray }) (whole : IntsAre vs ns) (small : ns.length ≤ sizeLine) (room : Room k callerA)
    (F : ∀ base : Heap, K.In base → base.Ns mainGlobals mg → FnG P w K mg base k fa fd [x] sp) (bind : ∀ (s : Shared) (u : Value), BindsTo s fd ⟨[u], []⟩ [(x, u)])
    (want : ∀ H : Hp, Only H → SqL K H a (ns.map V.int) → sp [.ref a] H (fun v _ => v = .bl true) E0) :
    codeAny (model P w) callerA (.call (.ref fa) ⟨[.ref a], []⟩) (fun r s' => r = .ok (.ret (.bool true)) ∧ OldK s.heap s'.heap ∧ s'.os = s.os ∧ AllBare s'.gens) s := by
  have rv := vals_ints whole
  have nv := whole.length
  -- which heap is told: the script, locked, where it isn't one of the written part
  obtain ⟨H, only, seq, fine, alone, apart⟩ : ∃ H : Hp, Only H ∧ SqL K H a (ns.map V.int) ∧ HOk P w H s.heap ∧ (∀ b u, H b = some u → b = a) ∧ (∀ u, H a = some u → K.lookup a = none) := by
    cases lk : K.lookup a with
    | some o =>
      have same := kin a o lk
      rw [obj] at same
      cases same
      exact ⟨fun _ => none, fun _ => .inl rfl, .inr ⟨_, vs.toArray, _, lk, rfl, rfl, rfl, by rw [List.size_toArray, nv]; exact small, by simpa using rv⟩, (fun b u z => nomatch (show (none : Option HO) = some u from z)), (fun b u z => nomatch (show (none : Option HO) = some u from z)), fun u z => nomatch (show (none : Option HO) = some u from z)⟩
    | none =>
      have hit : ∀ b u, (if b = a then some (HO.frz { cls := .type "list", data := .seq vs.toArray } (.lst (ns.map V.int))) else none) = some u → b = a ∧ u = .frz { cls := .type "list", data := .seq vs.toArray } (.lst (ns.map V.int)) := fun b u z => by
        split at z
        · cases z; exact ⟨‹_›, rfl⟩
        · cases z
      refine ⟨fun b => if b = a then some (.frz { cls := .type "list", data := .seq vs.toArray } (.lst (ns.map V.int))) else none, fun b => ?_, .inl (.inr ⟨_, if_pos rfl⟩), fun b u z => ?_, fun b u z => (hit b u z).1, fun _ _ => rfl⟩
      · by_cases hb : b = a
        · exact .inr ⟨_, _, if_pos hb⟩
        · exact .inl (if_neg hb)
      · obtain ⟨rfl, rfl⟩ := hit b u z
        exact ⟨obj, by rw [List.length_map]; exact small, vs, _, rv, obj⟩
  have hid : ∀ {b : Addr} {o : Obj}, s.heap.get? b = some o → (b = a → H a = none) → (hidT s.heap H).get? b = some o := fun {b o} e n => hidT_get e (by
    cases q : H b with
    | none => rfl
    | some u =>
      have e2 := alone b u q
      subst e2
      rw [n rfl] at q
      cases q)
  have kinB : K.In (hidT s.heap H) := fun b o e => hid (kin b o e) fun z => by
    subst z
    cases q : H b with
    | none => rfl
    | some u => rw [apart u q] at e; cases e
  have ns_ : ∀ {b : Addr} {m : Str → Option Value}, s.heap.Ns b m → (hidT s.heap H).Ns b m := fun {b m} h => by
    obtain ⟨o, es, ep, e, d, r⟩ := h
    refine ⟨o, es, ep, hid e fun z => ?_, d, r⟩
    subst z
    rw [obj] at e
    cases e
    exact nomatch (show Data.seq vs.toArray _ = Data.dict es ep from d)
  have md : Mod K mg (hidT s.heap H) := ⟨kinB, ns_ glob, ⟨mb, ns_ blt, boot⟩, by obtain ⟨mc, h1, h2⟩ := lim; exact ⟨mc, ns_ h1, h2⟩⟩
  have e0 : Env0 P w K mg (hidT s.heap H) callerA [] s H := ⟨rfl, md, fun b o e => of_hidT e, Nat.le_of_eq (hidT_size _ _), trivial, (fun b hb => nomatch (show b ∈ ([] : List Addr) from hb)), fine, .of_eq gens⟩
  refine codeAny_mono ((F _ kinB (ns_ glob)).does callerA [] s H ⟨[.ref a], []⟩ [.ref a] [.ref a] _ rfl room e0 (bind s (.ref a)) (.cons rfl .nil) (want H only seq)) fun res s' h => ?_
  rcases res with _ | fl
  case error => exact (show False from h).elim
  cases fl <;> first | exact (show False from h).elim | skip
  obtain ⟨v, H', os, bare, un, fine', rel, q⟩ := h
  cases (show v = .bl true from q)
  cases (show _ = Value.bool true from rel)
  refine ⟨rfl, OldK.of_keep fun b o e => ?_, os, bare⟩
  cases q : H b with
  | none => exact un.keep b o e q (fun z => nomatch (show b ∈ ([] : List Addr) from z)) (fun z => nomatch z)
  | some u =>
    rcases only b with z | ⟨ob, xs, z⟩
    · rw [q] at z; cases z
    · obtain ⟨e1, _⟩ := fine b _ z
      obtain ⟨e2, _⟩ := fine' b _ (un.frzs b ob _ z)
      rw [e] at e1; cases e1
      exact e2
end
theorem walkG {l : PySem.W.OpenLaw} {n k : Nat} {q : Program} {loose : List Str} {XP : (Str → Option Value) → Heap → Prop} {YP : World → Heap → Prop} {d : DefRec} {K : Params → PySem.W.Frag} {sp : World → Sp} {x : Str}
    (most : l.most = some n) (fits : n ≤ sizeLine) (plain : d.params.defaults = []) (room : Room k callerA) (part : ∀ (w : World) (h : Heap), YP w h → (K w.params).In h)
    (F : ∀ (w : World) (mg : Str → Option Value) (fa : Addr) (h : Heap), (K w.params).In h → h.Ns mainGlobals mg → mg d.name = some (.ref fa) →
      ∃ fd : FuncData, (∀ (s : Shared) (u : Value), BindsTo s fd ⟨[u], []⟩ [(x, u)]) ∧ ∀ base : Heap, (K w.params).In base → base.Ns mainGlobals mg → FnG l.prog w (K w.params) mg base k fa fd [x] (sp w))
    (want : ∀ (w : World) (H : Hp) (a : Addr) (ns : List Int), ns.length ≤ n → Only H → SqL (K w.params) H a (ns.map V.int) → sp w [.ref a] H (fun v _ => v = .bl true) E0) :
    PySem.W.WalkO q loose XP YP l.row.toRowW d [] (fun f vs => PySem.call f vs) := by
  refine Att.attach_call most plain fun w s₀ s₁ mg mb fa o pm cd doc a vs ns G Y _ _ _ named obj whole len gens => ?_
  obtain ⟨fd, bind, hF⟩ := F w mg fa _ (part w _ Y) G.T.g named
  exact law_callG (part w _ Y) G.T.g G.T.b G.T.builtins G.T.nolimit gens obj whole (Nat.le_trans len fits) room hF bind fun H only seq => want w H a ns len only seq
end Pot

namespace Pot
open PySem PySem.Spec PyProof.Rows L2
/-! ### repr of what is made of numbers, texts, truths, None, lists and tuples -/
section
variable {K : PySem.W.Frag}
mutual
theorem dp_noDict {H : Hp} : ∀ {v : V} {d : PyData}, Dp K H v d → d.hasDict = false
  | _, _, .non => rfl
  | _, _, .bl _ => rfl
  | _, _, .int _ => rfl
  | _, _, .str _ => rfl
  | _, _, .lst _ a => dpAll_noDict a
  | _, _, .tup _ a => dpAll_noDict a
theorem dpAll_noDict {H : Hp} : ∀ {vs : List V} {ds : List PyData}, DpAll K H vs ds → PyData.hasDictAll ds = false
  | _, _, .nil => rfl
  | _, _, .cons h t => by
    show (PyData.hasDict _ || PyData.hasDictAll _) = false
    rw [dp_noDict h, dpAll_noDict t]
    rfl
end
/-- how long its text may be, told roughly -/
def costAll : List PyData → Nat
  | [] => 0
  | x :: xs => cost x + 2 + costAll xs
where cost : PyData → Nat
  | .none => 4
  | .bool _ => 5
  | .int _ => 1921
  | .str x => 10 * x.length + 2
  | .list xs => costAll xs + 3
  | .tuple xs => costAll xs + 3
  | .dict _ => 0
/-- what repr is asked of here: its texts of plain signs -/
def fineAll : List PyData → Prop
  | [] => True
  | x :: xs => fine x ∧ fineAll xs
where fine : PyData → Prop
  | .none => True
  | .bool _ => True
  | .int i => i.natAbs.log2 < 1920
  | .str x => ∀ c ∈ x.cps.toList, c < 16 ^ 8
  | .list xs => fineAll xs
  | .tuple xs => fineAll xs
  | .dict _ => False
theorem from_len : ∀ (ts : List Str) (k : Nat) (acc : Str), (textFrom k acc ts).length ≤ acc.length + piled ts
  | [], k, acc => by rw [piled_nil]; exact Nat.le_refl _
  | t :: r, k, acc => by
    have ih := from_len r (k + 1)
    rw [piled_cons]
    unfold textFrom
    refine Nat.le_trans (ih _) ?_
    rw [strLen_append]
    split
    · rw [strLen_append]
      have e : (", " : Str).length = 2 := by decide +kernel
      omega
    · rw [strLen_append]
      have e : ("" : Str).length = 0 := by decide +kernel
      omega
theorem list_len (ts : List Str) : (listText ts).length ≤ piled ts + 2 := by
  unfold listText
  rw [strLen_append]
  have h := from_len ts 0 "["
  have e1 : ("[" : Str).length = 1 := by decide +kernel
  have e2 : ("]" : Str).length = 1 := by decide +kernel
  omega
mutual
theorem shown_len : ∀ d : PyData, fineAll.fine d → d.shown.length ≤ costAll.cost d
  | .none, _ => by decide +kernel
  | .bool b, _ => by cases b <;> decide +kernel
  | .int i, h => PyProof.Rows.int_text_len_1921 h
  | .str x, h => StrLaws.reprText_len x h
  | .list xs, h => Nat.le_trans (list_len _) (Nat.add_le_add (piled_len xs h) (by decide))
  | .tuple xs, h => Nat.le_trans (fmt_text _) (Nat.add_le_add (piled_len xs h) (by decide))
  | .dict _, h => h.elim
theorem piled_len : ∀ ds : List PyData, fineAll ds → piled (PyData.shownAll ds) ≤ costAll ds
  | [], _ => Nat.le_refl _
  | x :: xs, h => by
    have h1 := shown_len x h.1
    have h2 := piled_len xs h.2
    show piled (x.shown :: PyData.shownAll xs) ≤ costAll.cost x + 2 + costAll xs
    rw [piled_cons]
    omega
end
mutual
theorem fine_show : ∀ d : PyData, fineAll.fine d → d.showable = true
  | .none, _ => rfl
  | .bool _, _ => rfl
  | .int i, h => decide_eq_true h
  | .str _, _ => rfl
  | .list xs, h => fineAll_show xs h
  | .tuple xs, h => fineAll_show xs h
  | .dict _, h => h.elim
theorem fineAll_show : ∀ ds : List PyData, fineAll ds → PyData.showableAll ds = true
  | [], _ => rfl
  | x :: xs, h => by
    show (PyData.showable x && PyData.showableAll xs) = true
    rw [fine_show x h.1, fineAll_show xs h.2]
    rfl
end
end
section
variable {X : Cx}
def rRepr (K : PySem.W.Frag) : List V → Hp → VK → Prop := fun xs H Q => ∃ (a : Addr) (d : PyData), xs = [V.ref a] ∧ Dp K H (.ref a) d ∧ fineAll.fine d ∧ d.depth ≤ 60 ∧ costAll.cost d ≤ 16777216 ∧ Q (.str d.shown) H
theorem cr_repr (gd : X.A.guards = some []) (hu : X.A.units + 64 < cLine) : CallR X (.builtin "repr") (rRepr X.K) := by
  intro pins s σ H vs us Q I r h
  obtain ⟨a, d, rfl, dp, sh, dep, sz, q⟩ := h
  rw [Vals.ref1 r]
  obtain ⟨as, rd⟩ := Dp.reads I d (.ref a) (.ref a) dp rfl
  refine repr_of_reads' rd (fine_show d sh) (fun z => ?_) gd (by omega) (fun _ _ e => e) (fun h' u tk k => ⟨.str d.shown, H, I.kept k, ⟨u, rfl⟩, q⟩) (Nat.le_trans (shown_len d sh) (by rw [sizeLine_eq]; exact sz))
  rw [dp_noDict dp] at z
  cases z
end
end Pot

namespace Pot
open PySem PySem.Spec PyProof.Rows L2 PySem.W PySem.Calls
/-! ### set(xs) of a list of ints -/
/-- the object that set() makes first -/
abbrev emptySet (w : World) : Obj := { cls := .type "set", dict := none, data := .set #[] 0 (.fresh 0 0 (!w.params.followText "set-order")) }
section
variable {P : Program} {w : World} {A : Around} {E : Value → Shared → Prop} {s : Shared}
/-- what is wanted behind the filling -/
def Filled (w : World) (s : Shared) (ns : List Int) (s' : Shared) : Prop := ∃ h' tk c, s' = { s with heap := h', toks := tk } ∧ SetR w h' s.heap.objs.size (fun j => decide (j ∈ ns)) c ∧ c ≤ ns.length ∧ ∀ b o, s.heap.get? b = some o → h'.get? b = some o
set_option maxHeartbeats 4000000 in
theorem call_set_li {l : Addr} {items : Array Value} (ns : List Int) {Q : Value → Shared → Prop} (hh : A.handled = none) (hl : s.heap.IsList l items) (hit : IntsAre items.toList ns) (hb : ns.length + 1 < scanBound)
    (hq : ∀ s', Filled w s ns s' → Q (.ref s.heap.objs.size) s') : wpAny (model P w) A (call (.type "set") [.ref l]) Q E s := by
  have size : items.size = ns.length := by
    rw [← Array.length_toList]; exact IntsAre.length hit
  have made := F.called_set.made
  have below := F.called_set.sub
  obtain ⟨_, _, chain⟩ := F.called_set.mro
  have nt := F.called_set.notType
  have cc := F.called_set.canCreate
  have ck := F.typeCall_set_1 (.ref l)
  refine wpAny_call (codeAny_of_tree (show wpAny _ _ (callAny (.type "set") _) _ _ _ from wpAny_pure ⟨Code.quiet_builtin _ (by decide +kernel), codeAny_builtin F.entry_type_call ?_⟩))
  rw [Around.under_plain (weight_type_call_type "set" [.ref l] []) rfl]
  repeat (any_goals (first | assumption | wp_step))
  refine codeAny_mono (code_set_led1 (.ref l) (E := E) (Q₁ := fun obj z => obj = .ref s.heap.objs.size ∧ z = { s with heap := s.heap.push (emptySet w) }) ⟨rfl, rfl⟩) fun r z hr => ?_
  rcases r with _ | fl
  case error => exact hr
  cases fl <;> first | exact hr.elim | skip
  obtain ⟨rfl, rfl⟩ := hr
  have at0 : (s.heap.push (emptySet w)).get? s.heap.objs.size = some (emptySet w) := Heap.get?_push_size _ rfl
  have ty0 : Shared.TypeIs { s with heap := s.heap.push (emptySet w) } (.ref s.heap.objs.size) "set" := ⟨_, at0, rfl⟩
  have li := F.called_set.init.lookup
  have bi := F.called_set.init.bind (.ref s.heap.objs.size)
  repeat (any_goals (first | assumption | wp_step))
  refine codeAny_mono (codeAny_call_builtin (R := wants (fun r z => r = .none ∧ Filled w s ns z) E) F.called_set.init.plain F.entry_set_init (check_set_init_1 ty0 ?_)) fun r z hz => ?_
  · obtain ⟨⟨_, od, _, os⟩, hol, hcl, nl, hdl⟩ := hl
    simp only at hcl hdl
    subst hcl
    subst hdl
    have keep : (s.heap.push (emptySet w)).get? l = some { cls := .type "list", dict := od, data := .seq items nl, slots := os } := Heap.get?_push_of_some _ hol
    have s1 := F.sub_list_set
    have s2 := F.sub_list_frozenset
    have s3 : (Value.type "list" == Value.type "dict") = false := by decide
    have isl : (s.heap.push (emptySet w)).IsList l items := ⟨_, keep, rfl, nl, rfl⟩
    unfold Builtin.«set.__init__» noKeywords Builtin.Frozenset.updateFrom
    generalize hPI : pyIter = PI
    wp_walk
    subst hPI
    refine wpAny_pyIter_list isl (wpAny_bind (wpAny_runValue ?_))
    have lt : l < s.heap.objs.size := Heap.lt_size hol
    have sz : (s.heap.push (emptySet w)).objs.size = s.heap.objs.size + 1 := Heap.size_push ..
    have ne1 : l ≠ (s.heap.push (emptySet w)).objs.size := by rw [sz]; exact Nat.ne_of_lt (Nat.lt_succ_of_lt lt)
    have ne2 : s.heap.objs.size ∉ [(s.heap.push (emptySet w)).objs.size, l] := by
      rw [sz]
      intro z
      rcases List.mem_cons.mp z with z | z
      · exact absurd z (Nat.ne_of_lt (Nat.lt_succ_self _))
      · exact absurd (List.mem_singleton.mp z) (Nat.ne_of_gt lt)
    have each : ∀ (i : Nat) (v : Value), items[i]? = some v → ∃ k t, ns[i]? = some k ∧ v = .int k t := fun i v hv => by
      have hi : i < ns.length := size ▸ (Array.getElem?_eq_some_iff.mp hv).1
      obtain ⟨t, e⟩ := IntsAre.int_at hit i v (by rw [Array.getElem?_toList]; exact hv)
      exact ⟨ns[i], t, List.getElem?_eq_getElem hi, by rw [e, List.getD_eq_getElem?_getD, List.getElem?_eq_getElem hi]; rfl⟩
    refine set_update_ints ((Walks.list (show A.in1.in1.in1.handled = none by simp [hh]) _ l ne1 items).toS) s.heap.objs.size ne2 ns size hb each (items.size - 0) 0 _ (by omega) (Nat.zero_le _) ⟨⟨_, Heap.get?_push_size _ rfl, rfl, rfl⟩, isl.push _⟩ ⟨0, Nat.le_refl 0, setR_new_at (Heap.get?_push_of_some _ at0)⟩ fun s' c hm hc hS => ?_
    obtain ⟨h', g, d, tk, o⟩ := s'
    cases (show g = s.gens from hm.gens)
    cases (show d = s.drawn from hm.drawn)
    cases (show o = s.os from hm.os)
    refine (show wpAny _ _ _ _ _ _ from wpAny_pure (show wpAny _ _ (ret Value.none) _ _ _ from wpAny_pure ⟨rfl, h', tk, c, rfl, hS, size ▸ hc, fun b o e => ?_⟩))
    have hb0 : b < s.heap.objs.size := Heap.lt_size e
    refine hm.heap b o (fun z => ?_) (Heap.get?_push_of_some _ (Heap.get?_push_of_some _ e))
    rcases List.mem_cons.mp z with z | z
    · exact absurd z (Nat.ne_of_lt hb0)
    · exact absurd ((List.mem_singleton.mp z).trans sz) (Nat.ne_of_lt (Nat.lt_succ_of_lt hb0))
  · rcases r with _ | fl
    case error => exact hz
    cases fl <;> first | exact hz.elim | skip
    obtain ⟨rfl, f⟩ := hz
    obtain ⟨h', tk, c, rfl, hS, hc, k⟩ := id f
    repeat (any_goals (first | assumption | wp_step))
    exact hq _ ⟨_, _, _, rfl, hS, hc, k⟩
end
section
variable {X : Cx}
/-- set(xs), at most 60 ints: a set of just these -/
def rSetLi (K : PySem.W.Frag) (w : World) : List V → Hp → VK → Prop := fun xs H Q => ∃ (a : Addr) (ns : List Int), xs = [V.ref a] ∧ SqL K H a (ns.map V.int) ∧ ns.length ≤ 1000 ∧
  ∀ (p : Addr) (c : Nat), H p = none → c ≤ ns.length → Q (.ref p) (upd H p (SetO w p (fun k => decide (k ∈ ns)) c))
theorem cr_setLi (hc : X.calm = true) : CallR X (.type "set") (rSetLi X.K X.w) := by
  intro pins s σ H vs us Q I r h
  obtain ⟨a, ns, rfl, hS, hl, q⟩ := h
  rw [Vals.ref1 r]
  obtain ⟨its, rv, pl, hz⟩ := I.list hS
  refine call_set_li ns (I.ok.hd hc) pl.isList (by simpa using Vals.ints rv) (by unfold scanBound; omega) fun s' f => ?_
  obtain ⟨h', tk, c, rfl, R, hcn, k⟩ := f
  have hn : H s.heap.objs.size = none := I.hok.fresh (Nat.le_refl _)
  have J : Inv X pins σ (upd H s.heap.objs.size (SetO X.w s.heap.objs.size (fun k => decide (k ∈ ns)) c)) { s with heap := h', toks := tk } := I.laid (t' := tk) k (Nat.le_refl _) (setO_new R)
  exact ⟨.ref s.heap.objs.size, _, J, rfl, q _ _ hn hcn⟩
end
end Pot

/-! The rules whose readings name the written part, with it as a letter of its own. -/
namespace Pot
open PySem PySem.Spec PyProof.Rows L2
section
variable {X : Cx} {K : PySem.W.Frag}
theorem kx_list (h : X.K = K := by rfl) : IxR X (rIxL K) := h ▸ ix_list
theorem kx_tup (h : X.K = K := by rfl) : IxR X (rIxT K) := h ▸ ix_tup
theorem kl_list (h : X.K = K := by rfl) : SlR X (rSlL K) := h ▸ sl_list
theorem kl_tup (h : X.K = K := by rfl) : SlR X (rSlA K) := h ▸ sl_tupA
theorem ko_in (h : X.K = K := by rfl) : OpR X (compareOp .In) (rIn K false) := h ▸ op_in_seq
theorem ko_eq (hu : X.A.units + 64 < cLine) (h : X.K = K := by rfl) : OpR X (compareOp .Eq) (rEqD K) := h ▸ op_eqD hu
theorem ko_ne (hu : X.A.units + 64 < cLine) (h : X.K = K := by rfl) : OpR X (compareOp .NotEq) (rNeD K) := h ▸ op_neD hu
def rLen (K : PySem.W.Frag) : List V → Hp → VK → Prop := fun xs H Q => ∃ x n, xs = [x] ∧ LenV K x H n ∧ Q (.int n) H
theorem kc_len (h : X.K = K := by rfl) : CallR X (.builtin "len") (rLen K) := by subst h; exact call_len
def rListOf (K : PySem.W.Frag) : List V → Hp → VK → Prop := fun xs H Q => ∃ p ys, xs = [.ref p] ∧ (SqL K H p ys ∨ SqT K H p ys) ∧ ∀ l, H l = none → Q (.ref l) (upd H l (.lst ys))
theorem kc_list (h : X.K = K := by rfl) : CallR X (.type "list") (rListOf K) := by subst h; exact call_list_of
def rTupleOf (K : PySem.W.Frag) : List V → Hp → VK → Prop := fun xs H Q => ∃ p ys, xs = [.ref p] ∧ ((SqL K H p ys ∧ ∀ l, H l = none → Q (.ref l) (upd H l (.tup ys))) ∨ (SqT K H p ys ∧ Q (.ref p) H))
theorem kc_tuple (h : X.K = K := by rfl) : CallR X (.type "tuple") (rTupleOf K) := by subst h; exact call_tuple_of
theorem kc_sum (hc : X.calm = true := by rfl) (h : X.K = K := by rfl) : CallR X (.builtin "sum") (rSum K) := h ▸ cr_sum hc
theorem kc_all (hc : X.calm = true := by rfl) (h : X.K = K := by rfl) : CallR X (.builtin "all") (rAll K) := h ▸ cr_all hc
theorem kc_any (hc : X.calm = true := by rfl) (h : X.K = K := by rfl) : CallR X (.builtin "any") (rAny K) := h ▸ cr_any hc
theorem kc_sorted (h : X.K = K := by rfl) : CallR X (.builtin "sorted") (rSorted K) := h ▸ cr_sorted
theorem kc_sortedS (h : X.K = K := by rfl) : CallR X (.builtin "sorted") (rSortedS K) := h ▸ cr_sortedS
theorem kc_isi (h : X.K = K := by rfl) : CallR X (.builtin "isinstance") (rIsi K) := h ▸ call_isi
theorem kc_isiT (h : X.K = K := by rfl) : CallR X (.builtin "isinstance") (rIsiT K) := h ▸ call_isiT
theorem kc_repr (gd : X.A.guards = some []) (hu : X.A.units + 64 < cLine) (h : X.K = K := by rfl) : CallR X (.builtin "repr") (rRepr K) := h ▸ cr_repr gd hu
theorem kc_setLi {w : World} (hc : X.calm = true := by rfl) (h : X.K = K := by rfl) (hw : X.w = w := by rfl) : CallR X (.type "set") (rSetLi K w) := by subst h; subst hw; exact cr_setLi hc
theorem kc_sortedSet {w : World} (hc : X.calm = true := by rfl) (hw : X.w = w := by rfl) : CallR X (.builtin "sorted") (rSortedSet w) := hw ▸ cr_sortedSet hc
theorem ki_list {tg l : Expr} {tl : TE} (hl : PE X l tl) (h : X.K = K := by rfl) : PI X tg l (iList K tl) := h ▸ pi_list hl
theorem ki_tup {tg l : Expr} {tl : TE} (hl : PE X l tl) (h : X.K = K := by rfl) : PI X tg l (iTup K tl) := h ▸ pi_tup hl
theorem ki_zip {e e2 : Expr} {ta : TA} {p pos tpos : Pos} {elts : List Expr} {kk : Nat} (hg : Gl X "zip") (hm : X.mg "zip" = none) (ha : PA X [e, e2] ta) (hs : starEach [e, e2] X.env = (false, eval e X.env) :: starEach [e2] X.env := by rfl)
    (hpl : (backTo pos (starEach [e2] X.env)).any (·.1) = false := by rfl) (h : X.K = K := by rfl) : PI X (.Tuple elts kk tpos) (.Call (.Name "zip" p) [e, e2] [] pos) (RZ.iZipA K ta) := h ▸ RZ.pi_zipA hg hm ha hs hpl
theorem ki_enum {e : Expr} {ta : TA} {p pos tpos : Pos} {elts : List Expr} {kk : Nat} (hg : Gl X "enumerate") (hm : X.mg "enumerate" = none) (ha : PA X [e] ta) (hs : starEach [e] X.env = [(false, eval e X.env)] := by rfl) (h : X.K = K := by rfl)
    : PI X (.Tuple elts kk tpos) (.Call (.Name "enumerate" p) [e] [] pos) (iEnum K ta) := h ▸ pi_enum hg hm ha hs
theorem kg_tup {pos : Pos} {es : List Expr} {k : Nat} {t : TGs} {n : Nat} (h : PGs X es t) (hc : X.calm = true := by rfl) (hn : (assignEach es X.env).length = n := by rfl) (hst : (assignEach es X.env).findIdx? (·.1) = none := by rfl) (hk : X.K = K := by rfl) : PG X (.Tuple es k pos) (gTup K n t) := hk ▸ pg_tup hc h hn hst
def tTru (K : PySem.W.Frag) (ta : TE) : TT := fun σ H Q => ta σ H fun x H' => ∃ k, TruV K x H' k ∧ Q k H'
theorem kt_truth {a : Expr} {ta : TE} (ha : PE X a ta) (he : ∀ whole, isTrue a X.env whole = (do let v ← whole; standAt a.pos; holding [v] (truthy v)) := by intro _; rfl) (h : X.K = K := by rfl) : PT X a (tTru K ta) := by subst h; exact pt_truth ha he
def rJoin (K : PySem.W.Frag) : V → List V → Hp → VK → Prop := fun x xs H Q => ∃ a p, ∃ ys : List Str, x = .str a ∧ xs = [.ref p] ∧ (SqL K H p (ys.map V.str) ∨ SqT K H p (ys.map V.str)) ∧ (ys.map (·.length)).sum + ys.length * a.length ≤ 16777216 ∧ Q (.str (Txt.join a ys)) H
theorem ke_join {o e : Expr} {to te : TE} {apos pos : Pos} (ho : PE X o to) (he : PE X e te) (hs : starEach [e] X.env = [(false, eval e X.env)] := by rfl) (hbase : attributeBase o "join" X.env (eval o X.env) = eval o X.env := by rfl) (hline : (apos.endLine == pos.line) = true := by rfl) (h : X.K = K := by rfl) :
    PE X (.Call (.Attribute o "join" apos) [e] [] pos) (tM1 (rJoin K) to te) := by subst h; exact pe_join ho he hs hbase hline
theorem pss_never {st : List Stmt} : PSs X st (fun _ _ _ => False) := ⟨fun _ _ _ _ _ _ h => h.elim⟩
theorem ps_never {st : Stmt} : PS X st (fun _ _ _ => False) := ⟨fun _ _ _ _ _ _ h => h.elim⟩
theorem pe_never {e : Expr} : PE X e (fun _ _ _ => False) := ⟨fun _ _ _ _ _ _ h => h.elim⟩
theorem tYes_at {σ : L2.St} {H : Hp} {Q : Bool → Hp → Prop} (h : Q true H) : tYes σ H Q := h
end
end Pot

namespace Pot
open PySem PySem.Spec PyProof.Rows L2
/-- built-in names that the module gives no other meaning -/
structure Txt (mg : Str → Option Value) : Prop where
  len : mg "len" = none
  divmod : mg "divmod" = none
  range : mg "range" = none
  sum : mg "sum" = none
  all : mg "all" = none
  any : mg "any" = none
  isinstance : mg "isinstance" = none
  str : mg "str" = none
  int : mg "int" = none
  list : mg "list" = none
  tuple : mg "tuple" = none
  bool : mg "bool" = none
  zip : mg "zip" = none
  set : mg "set" = none
  sorted : mg "sorted" = none
  enumerate : mg "enumerate" = none
  repr : mg "repr" = none
  min : mg "min" = none
  max : mg "max" = none
  abs : mg "abs" = none
/-- a def that may be called by its name: what it keeps, at which level -/
def Cl (P : Program) (w : World) (K : PySem.W.Frag) (mg : Str → Option Value) (base : Heap) (k : Nat) (x : Str) (sp : Sp) : Prop :=
  ∃ (f : Addr) (fd : FuncData) (ps : List Str), FnOk P w K mg base CX0 k f fd ps sp ∧ mg x = some (.ref f) ∧ PySem.W.keepIn K (.ref f) = true ∧ Binds K fd ps []
theorem pe_cl {X : Cx} {k j : Nat} {x : Str} {sp : Sp} {e : Expr} {es : List Expr} {t : TA} {p pos : Pos} (c : Cl X.prog X.w X.K X.mg X.base k x sp) (hr : Room j X.A) (hk : k ≤ j) (hg : Gl X x) (ha : PA X (e :: es) t) (hdb : (x == ("__debug__" : Str)) = false := by decide)
    (he : starEach (e :: es) X.env = (false, eval e X.env) :: starEach es X.env := by rfl) (hpl : (backTo pos (starEach es X.env)).any (·.1) = false := by rfl) : PE X (.Call (.Name x p) (e :: es) [] pos) (tCall sp [] E0 t) := by
  obtain ⟨f, fd, ps, G, hm, kp, b⟩ := c
  exact pe_call G (hr.mono hk) hg hm kp b .nil pass0 ha hdb he hpl
/-! ### the drawing state -/
def dS (c : Addr) (t : Int) : List (Key × V) := [(Sum.inr "cells", .ref c), (Sum.inr "turn", .int t)]
/-- at d stands a state of the law: its cells at c, its turn at most n -/
def StAt (H : Hp) (d c : Addr) (n : Nat) : Prop := d ≠ c ∧ ∃ (xs : List Int) (t : Int),
  H d = some (.dK (dS c t)) ∧ H c = some (.lst (xs.map V.int)) ∧ xs ≠ [] ∧ xs.length ≤ 63 ∧ 0 ≤ t ∧ t ≤ n
/-- all that was tracked stands, but d and c -/
def Kp (d c : Addr) (H H' : Hp) : Prop := ∀ b o, b ≠ d → b ≠ c → H b = some o → H' b = some o
theorem Kp.refl (d c : Addr) (H : Hp) : Kp d c H H := fun _ _ _ _ e => e
theorem Kp.trans {d c : Addr} {H H1 H2 : Hp} (a : Kp d c H H1) (b : Kp d c H1 H2) : Kp d c H H2 := fun x o h1 h2 e => b x o h1 h2 (a x o h1 h2 e)
theorem Kp.of {d c : Addr} {H H' : Hp} (s : Same H H') : Kp d c H H' := fun x o _ _ e => s x o e
theorem same_upd {H : Hp} {p : Addr} {o : HO} (h : H p = none) : Same H (upd H p o) := fun b x e => by
  rw [upd_ne (ne_of_none e h)]
  exact e
theorem same_put {H H' : Hp} {p : Addr} {o : HO} (s : Same H H') (h : H p = none) : Same H (upd H' p o) := fun b x e => by
  rw [upd_ne (ne_of_none e h)]
  exact s b x e
theorem kp_put {d c : Addr} {H H' : Hp} {p : Addr} {o : HO} (s : Kp d c H H') (h : H p = none) : Kp d c H (upd H' p o) := fun b x h1 h2 e => by
  rw [upd_ne (ne_of_none e h)]
  exact s b x h1 h2 e
theorem StAt.mono {H : Hp} {d c : Addr} {n m : Nat} (h : StAt H d c n) (k : n ≤ m) : StAt H d c m := by
  obtain ⟨h0, xs, t, h1, h2, h3, h4, h5, h6⟩ := h
  exact ⟨h0, xs, t, h1, h2, h3, h4, h5, by omega⟩
theorem StAt.same {H H' : Hp} {d c : Addr} {n : Nat} (h : StAt H d c n) (s : Same H H') : StAt H' d c n := by
  obtain ⟨h0, xs, t, h1, h2, h3, h4, h5, h6⟩ := h
  exact ⟨h0, xs, t, s _ _ h1, s _ _ h2, h3, h4, h5, h6⟩
theorem Kp.free {d c : Addr} {H H' : Hp} {n : Nat} {l : Addr} (k : Kp d c H H') (s : StAt H' d c n) (h : H' l = none) : H l = none := by
  obtain ⟨_, xs, t, h1, h2, _⟩ := s
  have n1 : l ≠ d := (ne_of_none h1 h).symm
  have n2 : l ≠ c := (ne_of_none h2 h).symm
  cases e : H l with
  | none => rfl
  | some o =>
    rw [k l o n1 n2 e] at h
    cases h
theorem StAt.ne1 {H : Hp} {d c : Addr} {n : Nat} {l : Addr} (s : StAt H d c n) (h : H l = none) : d ≠ l := by
  obtain ⟨_, xs, t, h1, h2, _⟩ := s
  exact ne_of_none h1 h
theorem StAt.ne2 {H : Hp} {d c : Addr} {n : Nat} {l : Addr} (s : StAt H d c n) (h : H l = none) : c ≠ l := by
  obtain ⟨_, xs, t, h1, h2, _⟩ := s
  exact ne_of_none h2 h
theorem StAt.put {H : Hp} {d c : Addr} {n : Nat} {l : Addr} {o : HO} (s : StAt H d c n) (n1 : d ≠ l) (n2 : c ≠ l) : StAt (upd H l o) d c n := by
  obtain ⟨h0, xs, t, h1, h2, h3, h4, h5, h6⟩ := s
  exact ⟨h0, xs, t, by rw [upd_ne n1]; exact h1, by rw [upd_ne n2]; exact h2, h3, h4, h5, h6⟩
theorem val_turn (c : Addr) (t : Int) : valV (dS c t) (Sum.inr "turn") = some (.int t) := by
  have e : ¬ ((Sum.inr (Str.ofString "cells") : Key) = Sum.inr (Str.ofString "turn")) := by decide +kernel
  unfold dS; rw [valV_neg e, valV_pos rfl]
theorem val_cells (c : Addr) (t : Int) : valV (dS c t) (Sum.inr "cells") = some (.ref c) := by
  unfold dS; rw [valV_pos rfl]
theorem put_turn (c : Addr) (t u : Int) : putK (dS c t) (Sum.inr "turn") (.int u) = dS c u := by
  have e : ¬ ((Sum.inr (Str.ofString "cells") : Key) = Sum.inr (Str.ofString "turn")) := by decide +kernel
  unfold putK dS
  simp [e]

theorem dget_turn {H : Hp} {d c : Addr} {t : Int} (h : H d = some (.dK (dS c t))) : DGet H d (.str "turn") (some (.int t)) := by
  rw [← val_turn c t]; exact DGet.k (k := Sum.inr "turn") h
theorem dget_cells {H : Hp} {d c : Addr} {t : Int} (h : H d = some (.dK (dS c t))) : DGet H d (.str "cells") (some (.ref c)) := by
  rw [← val_cells c t]; exact DGet.k (k := Sum.inr "cells") h
theorem dput_turn {H : Hp} {d c : Addr} {t : Int} (u : Int) (h : H d = some (.dK (dS c t))) : DPut H d (.str "turn") (.int u) (upd H d (.dK (dS c u))) := by
  rw [← put_turn c t u]; exact DPut.k (k := Sum.inr "turn") h (by show 2 < sizeLine; decide)
theorem ge18 (x : Int) : (decide ((10 : Int) ^ (18 : Int).toNat ≤ x) = true) ↔ 1000000000000000000 ≤ x := by
  have e : (10 : Int) ^ (18 : Int).toNat = 1000000000000000000 := by decide
  rw [e, decide_eq_true_eq]
theorem cmul_mod (a b : Int) {m : Int} (h0 : 0 < m) (h1 : m < 2 ^ 64) : CMul (a % m) b := by
  have p := Int.emod_nonneg a (show m ≠ 0 by omega)
  have q := Int.emod_lt_of_pos a h0
  exact .inl ⟨by omega, by omega⟩
theorem mod_at {xs : List Int} {u : Int} (hx : xs ≠ []) : ∃ (j : Nat) (y : Int), u % ((xs.map V.int).length : Int) = (j : Int) ∧ j < xs.length ∧ xs[j]? = some y := by
  have h0 : 0 < xs.length := List.length_pos_iff.mpr hx
  rw [List.length_map]
  have a := Int.emod_nonneg u (show (xs.length : Int) ≠ 0 by omega)
  have b := Int.emod_lt_of_pos u (show (0 : Int) < (xs.length : Int) by omega)
  refine ⟨(u % (xs.length : Int)).toNat, xs[(u % (xs.length : Int)).toNat]'(by omega), by omega, by omega, ?_⟩
  exact List.getElem?_eq_getElem _

section
variable {K : PySem.W.Frag}
theorem cut63 {xs : List V} (h : xs.length ≤ 63) : cutV xs none (some 63) = xs := by
  unfold cutV
  rw [HT.sIx_none, show HT.sIx xs.length xs.length (some 63) = min 63 xs.length from HT.sIx_nat xs.length xs.length 63, Nat.min_eq_right h]
  simp
theorem dp_ints {H : Hp} (ns : List Int) : DpAll K H (ns.map V.int) (ns.map PyData.int) := by
  induction ns with
  | nil => exact .nil
  | cons n r ih => exact .cons (.int n) ih
theorem same_tup {H H' : Hp} {a : Addr} {xs : List V} (e : Same H H') (h : SqT K H a xs) : SqT K H' a xs := by
  rcases h with (h | ⟨o, h⟩) | h
  · exact .inl (.inl (e _ _ h))
  · exact .inl (.inr ⟨o, e _ _ h⟩)
  · exact .inr h
mutual
theorem dp_same {H H' : Hp} (s : Same H H') : ∀ {v : V} {d : PyData}, Dp K H v d → Dp K H' v d
  | _, _, .non => .non
  | _, _, .bl b => .bl b
  | _, _, .int i => .int i
  | _, _, .str x => .str x
  | _, _, .lst h a => .lst (s.seq h) (dpAll_same s a)
  | _, _, .tup h a => .tup (same_tup s h) (dpAll_same s a)
theorem dpAll_same {H H' : Hp} (s : Same H H') : ∀ {vs : List V} {ds : List PyData}, DpAll K H vs ds → DpAll K H' vs ds
  | _, _, .nil => .nil
  | _, _, .cons h t => .cons (dp_same s h) (dpAll_same s t)
end
theorem dpAll_len {H : Hp} : ∀ {vs : List V} {ds : List PyData}, DpAll K H vs ds → vs.length = ds.length
  | _, _, .nil => rfl
  | _, _, .cons _ t => by rw [List.length_cons, List.length_cons, dpAll_len t]
theorem dpAll_at {H : Hp} : ∀ {vs : List V} {ds : List PyData} {i : Nat} {v : V}, DpAll K H vs ds → vs[i]? = some v → ∃ d, ds[i]? = some d ∧ Dp K H v d
  | _, _, _, _, .nil, h => by simp at h
  | _, _, 0, _, .cons h _, e => ⟨_, rfl, by cases e; exact h⟩
  | _, _, i + 1, _, .cons _ t, e => dpAll_at (i := i) t e
theorem depth_at : ∀ {ds : List PyData} {i : Nat} {d : PyData}, ds[i]? = some d → d.depth ≤ PyData.depthAll ds
  | [], _, _, h => by simp at h
  | x :: r, 0, d, h => by cases h; unfold PyData.depthAll; exact Nat.le_max_left ..
  | x :: r, i + 1, d, h => by
    have := depth_at (ds := r) (i := i) (d := d) h
    unfold PyData.depthAll
    exact Nat.le_trans this (Nat.le_max_right ..)
theorem tyx_list {H : Hp} {a : Addr} {xs : List V} (h : SqL K H a xs) : TyX K H (.ref a) (.type "list") := by
  rcases h with (h | ⟨o, h⟩) | ⟨o, its, n, h1, h2, _⟩
  · exact .base (.lst h)
  · exact .base (.frz h)
  · exact .kList h1 h2
theorem tyx_tup {H : Hp} {a : Addr} {xs : List V} (h : SqT K H a xs) : TyX K H (.ref a) (.type "tuple") := by
  rcases h with (h | ⟨o, h⟩) | ⟨o, its, n, h1, h2, _⟩
  · exact .base (.tup h)
  · exact .fTuple h
  · exact .kTuple h1 h2
theorem walk_zipT {a b : Addr} {xs ys : List V} {n : Nat} (hn : n = min xs.length ys.length) : Walk (RZ.ItzT K a b) n (fun H => SqT K H a xs ∧ SqT K H b ys) (YPair (fun i => xs[i]?) (fun i => ys[i]?)) := by
  subst hn
  refine ⟨fun i _ hi q => ?_, fun _ q => ⟨xs, ys, q.1, q.2, by omega⟩, fun i H v H' _ q y => ?_⟩
  · exact ⟨xs, ys, xs[i]'(by omega), ys[i]'(by omega), q.1, q.2, List.getElem?_eq_getElem _, List.getElem?_eq_getElem _⟩
  · obtain ⟨T, x, z, e1, e2, e3, e4, e5⟩ := y
    exact ⟨T, x, z, e1, e2, e3, e4 xs q.1, e5 ys q.2⟩
/-- the longest list within -/
def widAll : List PyData → Nat
  | [] => 0
  | x :: xs => max (wid x) (widAll xs)
where wid : PyData → Nat
  | .list xs => max xs.length (widAll xs)
  | .tuple xs => max xs.length (widAll xs)
  | _ => 0
theorem wid_at : ∀ {ds : List PyData} {i : Nat} {d : PyData}, ds[i]? = some d → widAll.wid d ≤ widAll ds
  | [], _, _, h => by simp at h
  | x :: r, 0, d, h => by cases h; unfold widAll; exact Nat.le_max_left ..
  | x :: r, i + 1, d, h => by
    have := wid_at (ds := r) (i := i) (d := d) h
    unfold widAll
    exact Nat.le_trans this (Nat.le_max_right ..)
theorem depth_ints (ns : List Int) : (PyData.list (ns.map PyData.int)).depth = 1 := by
  have h : ∀ l : List Int, PyData.depthAll (l.map PyData.int) = 0 := by
    intro l
    induction l with
    | nil => rfl
    | cons x r ih =>
      show max 0 (PyData.depthAll (r.map PyData.int)) = 0
      rw [ih]
      rfl
  show PyData.depthAll (ns.map PyData.int) + 1 = 1
  rw [h]
theorem wid_ints (ns : List Int) : widAll.wid (PyData.list (ns.map PyData.int)) = ns.length := by
  have h : ∀ l : List Int, widAll (l.map PyData.int) = 0 := by
    intro l
    induction l with
    | nil => rfl
    | cons x r ih =>
      show max 0 (widAll (r.map PyData.int)) = 0
      rw [ih]
      rfl
  show max (ns.map PyData.int).length (widAll (ns.map PyData.int)) = ns.length
  rw [h, List.length_map, Nat.max_zero]
theorem flat_ints (ns : List Int) : (ns.map V.int).all flatV = true := by
  rw [List.all_eq_true]
  intro x hx
  obtain ⟨k, _, rfl⟩ := List.mem_map.mp hx
  rfl
end
section
variable {P : Program} {w : World} {K : PySem.W.Frag} {mg : Str → Option Value} {base : Heap}
/-- a def with values that may be left out -/
abbrev FunV (K : PySem.W.Frag) (x : Str) (st : Stmt) (dvs : List V) (f : Addr) (fd : FuncData) : Prop := FunD K x x (defArgs st) (defBody st) (defScope st) dvs [] f fd
theorem okD {x : Str} {st : Stmt} {dvs : List V} {f : Addr} {fd : FuncData} {N ps : List Str} {k : Nat} {sp : Sp} (F : FunV K x st dvs f fd) (S : FnScope N ps (defScope st)) (len : ∀ vs H Q E, sp vs H Q E → vs.length = ps.length)
    (body : ∀ (cdv : Value) (A : Around) (outer : List Env) (s : Shared) (H : Hp) (vs : List V) (Q : VK) (E : XK), Room k (A.deeper (envOfC x (defScope st) s.heap.objs.size f cdv)) → sp vs H Q E →
      ∃ t, PSs (cxOf CX0 P w K mg base N x (defScope st) f cdv A outer s H E).nox (defBody st) t ∧ t { nx := fun _ H' => Q .non H', rt := Q } (start N vs) H) : FnOk P w K mg base CX0 (k + 1) f fd ps sp :=
  FunD.ok F S len fun cdv A outer s H vs Q E hr h => by
    obtain ⟨t, ht, hq⟩ := body cdv A outer s H vs Q E hr h
    exact ⟨t, ht.nox, hq⟩
/-- a def that may be called by its name, the values ds being left out -/
def ClD (P : Program) (w : World) (K : PySem.W.Frag) (mg : Str → Option Value) (base : Heap) (k : Nat) (x : Str) (ds : List V) (sp : Sp) : Prop :=
  ∃ (f : Addr) (fd : FuncData) (ps : List Str) (dus : List Value), FnOk P w K mg base CX0 k f fd ps sp ∧ mg x = some (.ref f) ∧ PySem.W.keepIn K (.ref f) = true ∧ Binds K fd ps dus ∧ Vals ds dus
theorem pe_cd {X : Cx} {k j : Nat} {x : Str} {ds : List V} {sp : Sp} {e : Expr} {es : List Expr} {t : TA} {p pos : Pos} (c : ClD X.prog X.w X.K X.mg X.base k x ds sp) (hr : Room j X.A) (hk : k ≤ j) (hg : Gl X x) (ha : PA X (e :: es) t) (hdb : (x == ("__debug__" : Str)) = false := by decide)
    (he : starEach (e :: es) X.env = (false, eval e X.env) :: starEach es X.env := by rfl) (hpl : (backTo pos (starEach es X.env)).any (·.1) = false := by rfl) : PE X (.Call (.Name x p) (e :: es) [] pos) (tCall sp ds E0 t) := by
  obtain ⟨f, fd, ps, dus, G, hm, kp, b, dv⟩ := c
  exact pe_call G (hr.mono hk) hg hm kp b dv pass0 ha hdb he hpl
theorem Cl.mono {k j : Nat} {x : Str} {sp : Sp} (c : Cl P w K mg base k x sp) (h : k ≤ j) : Cl P w K mg base j x sp := by
  obtain ⟨f, fd, ps, G, r⟩ := c
  exact ⟨f, fd, ps, G.mono h, r⟩
end
end Pot

namespace Pot
open PySem PySem.Spec PyProof.Rows L2
/-! ### palettes as data -/
abbrev Col := Str × Int × Int × Int
abbrev Wsh := Str × Str × Option Int
def colD (c : Col) : PyData := .tuple [.str c.1, .int c.2.1, .int c.2.2.1, .int c.2.2.2]
def optD : Option Int → PyData
  | none => .none
  | some i => .int i
def washD (r : Wsh) : PyData := .tuple [.str r.1, .str r.2.1, optD r.2.2]
def palD (cs : List Col) (ws : List Wsh) : PyData := .tuple [.tuple (cs.map colD), .tuple (ws.map washD)]
def optV : Option Int → V
  | none => .non
  | some i => .int i
def namV : Option Str → V
  | none => .non
  | some z => .str z
/-- the washing between two: the first row that tells -/
def washF (ws : List Wsh) (a : Option Str) (b : Str) : Option Int := match ws with
  | [] => some 0
  | r :: ws => if some r.1 = a ∧ r.2.1 = b then r.2.2 else washF ws a b
/-- the washing of a row -/
def sumF (ws : List Wsh) : Option Str → List Str → Int → Option Int
  | _, [], h => some h
  | a, b :: r, h => match washF ws a b with
    | none => none
    | some k => sumF ws (some b) r (h + k)
section
variable {K : PySem.W.Frag} {H : Hp}
theorem dp_tup {v : V} {ds : List PyData} (h : Dp K H v (.tuple ds)) : ∃ a xs, v = .ref a ∧ SqT K H a xs ∧ DpAll K H xs ds := by
  cases h with
  | tup h a => exact ⟨_, _, rfl, h, a⟩
theorem dp_lst {v : V} {ds : List PyData} (h : Dp K H v (.list ds)) : ∃ a xs, v = .ref a ∧ SqL K H a xs ∧ DpAll K H xs ds := by
  cases h with
  | lst h a => exact ⟨_, _, rfl, h, a⟩
theorem dp_str {v : V} {z : Str} (h : Dp K H v (.str z)) : v = .str z := by cases h; rfl
theorem dp_int {v : V} {z : Int} (h : Dp K H v (.int z)) : v = .int z := by cases h; rfl
theorem dp_opt {v : V} : ∀ {z : Option Int}, Dp K H v (optD z) → v = optV z
  | none, h => by cases h; rfl
  | some i, h => by cases h; rfl
theorem opt_dp : ∀ (z : Option Int), Dp K H (optV z) (optD z)
  | none => .non
  | some i => .int i
theorem dp_two {xs : List V} {d e : PyData} (h : DpAll K H xs [d, e]) : ∃ x y, xs = [x, y] ∧ Dp K H x d ∧ Dp K H y e := by
  cases h with
  | cons h1 t => cases t with
    | cons h2 t => cases t; exact ⟨_, _, rfl, h1, h2⟩
theorem dp_three {xs : List V} {d e f : PyData} (h : DpAll K H xs [d, e, f]) : ∃ x y z, xs = [x, y, z] ∧ Dp K H x d ∧ Dp K H y e ∧ Dp K H z f := by
  cases h with
  | cons h1 t => obtain ⟨y, z, rfl, h2, h3⟩ := dp_two t; exact ⟨_, _, _, rfl, h1, h2, h3⟩
theorem dp_four {xs : List V} {d e f g : PyData} (h : DpAll K H xs [d, e, f, g]) : ∃ x y z u, xs = [x, y, z, u] ∧ Dp K H x d ∧ Dp K H y e ∧ Dp K H z f ∧ Dp K H u g := by
  cases h with
  | cons h1 t => obtain ⟨y, z, u, rfl, h2, h3, h4⟩ := dp_three t; exact ⟨_, _, _, _, rfl, h1, h2, h3, h4⟩
/-- a colour's tuple -/
theorem col_dp {v : V} {c : Col} (h : Dp K H v (colD c)) : ∃ a, v = .ref a ∧ SqT K H a [.str c.1, .int c.2.1, .int c.2.2.1, .int c.2.2.2] := by
  obtain ⟨a, xs, rfl, hs, ha⟩ := dp_tup h
  obtain ⟨x, y, z, u, rfl, h1, h2, h3, h4⟩ := dp_four ha
  rw [dp_str h1, dp_int h2, dp_int h3, dp_int h4] at hs
  exact ⟨a, rfl, hs⟩
theorem wash_dp {v : V} {r : Wsh} (h : Dp K H v (washD r)) : ∃ a, v = .ref a ∧ SqT K H a [.str r.1, .str r.2.1, optV r.2.2] := by
  obtain ⟨a, xs, rfl, hs, ha⟩ := dp_tup h
  obtain ⟨x, y, z, rfl, h1, h2, h3⟩ := dp_three ha
  rw [dp_str h1, dp_str h2, dp_opt h3] at hs
  exact ⟨a, rfl, hs⟩
/-- a palette in the heap -/
theorem pal_dp {v : V} {cs : List Col} {ws : List Wsh} (h : Dp K H v (palD cs ws)) :
    ∃ p c w xs ys, v = .ref p ∧ SqT K H p [.ref c, .ref w] ∧ SqT K H c xs ∧ DpAll K H xs (cs.map colD) ∧ SqT K H w ys ∧ DpAll K H ys (ws.map washD) := by
  obtain ⟨p, zs, rfl, hp, hz⟩ := dp_tup h
  obtain ⟨x, y, rfl, h1, h2⟩ := dp_two hz
  obtain ⟨c, xs, rfl, hc, hx⟩ := dp_tup h1
  obtain ⟨w, ys, rfl, hw, hy⟩ := dp_tup h2
  exact ⟨p, c, w, xs, ys, rfl, hp, hc, hx, hw, hy⟩
theorem dpAll_map_at {α : Type} {f : α → PyData} {xs : List V} {l : List α} {i : Nat} {x : V} (h : DpAll K H xs (l.map f)) (e : xs[i]? = some x) : ∃ y, l[i]? = some y ∧ Dp K H x (f y) := by
  obtain ⟨d, g, p⟩ := dpAll_at h e
  rw [List.getElem?_map] at g
  obtain ⟨y, hy, rfl⟩ := Option.map_eq_some_iff.mp g
  exact ⟨y, hy, p⟩
theorem dpAll_map_len {α : Type} {f : α → PyData} {xs : List V} {l : List α} (h : DpAll K H xs (l.map f)) : xs.length = l.length := by
  rw [dpAll_len h, List.length_map]
end
theorem decS {a b : Str} : decide (V.str a = V.str b) = decide (a = b) := by
  by_cases h : a = b
  · subst h; rw [decide_eq_true rfl, decide_eq_true rfl]
  · rw [decide_eq_false h, decide_eq_false fun z => h (V.str.inj z)]
/-- behind rows that don't tell -/
theorem washF_skip {a : Option Str} {b : Str} : ∀ {ws : List Wsh} {i : Nat}, (∀ j r, j < i → ws[j]? = some r → ¬ (some r.1 = a ∧ r.2.1 = b)) → washF ws a b = washF (ws.drop i) a b
  | ws, 0, _ => rfl
  | [], i + 1, _ => rfl
  | r :: ws, i + 1, h => by
    show (if some r.1 = a ∧ r.2.1 = b then r.2.2 else washF ws a b) = washF (ws.drop i) a b
    rw [if_neg (h 0 r (Nat.succ_pos _) rfl)]
    exact washF_skip (a := a) (b := b) (ws := ws) (i := i) fun j q hj e => h (j + 1) q (Nat.succ_lt_succ hj) e
theorem washF_at {a : Option Str} {b : Str} {ws : List Wsh} {i : Nat} {r : Wsh} (h : ∀ j r, j < i → ws[j]? = some r → ¬ (some r.1 = a ∧ r.2.1 = b)) (e : ws[i]? = some r) (hr : some r.1 = a ∧ r.2.1 = b) : washF ws a b = r.2.2 := by
  rw [washF_skip h, List.drop_eq_getElem_cons (List.getElem?_eq_some_iff.mp e).1, (List.getElem?_eq_some_iff.mp e).2]
  unfold washF
  rw [if_pos hr]
theorem washF_none {a : Option Str} {b : Str} {ws : List Wsh} (h : ∀ j r, j < ws.length → ws[j]? = some r → ¬ (some r.1 = a ∧ r.2.1 = b)) : washF ws a b = some 0 := by
  rw [washF_skip h, List.drop_length]
  rfl
/-! ### data without lists stays while the law draws -/
def noLAll : List PyData → Prop
  | [] => True
  | x :: xs => noL x ∧ noLAll xs
where noL : PyData → Prop
  | .list _ => False
  | .dict _ => False
  | .tuple xs => noLAll xs
  | _ => True
section
variable {K : PySem.W.Frag}
theorem kp_tup {d c : Addr} {H H' : Hp} {n : Nat} {a : Addr} {xs : List V} (st : StAt H d c n) (k : Kp d c H H') (h : SqT K H a xs) : SqT K H' a xs := by
  obtain ⟨_, ys, t, h1, h2, _⟩ := st
  have go : ∀ o, (H a = some (.tup xs) ∨ H a = some (.frz o (.tup xs))) → a ≠ d ∧ a ≠ c := fun o e => by
    constructor
    · intro z; subst z; rw [h1] at e; rcases e with e | e <;> cases e
    · intro z; subst z; rw [h2] at e; rcases e with e | e <;> cases e
  rcases h with (h | ⟨o, h⟩) | h
  · have g := go ⟨.none, none, .fields #[], #[]⟩ (.inl h); exact .inl (.inl (k _ _ g.1 g.2 h))
  · have g := go o (.inr h); exact .inl (.inr ⟨o, k _ _ g.1 g.2 h⟩)
  · exact .inr h
mutual
theorem dp_kp {d c : Addr} {H H' : Hp} {n : Nat} (st : StAt H d c n) (k : Kp d c H H') : ∀ {v : V} {e : PyData}, noLAll.noL e → Dp K H v e → Dp K H' v e
  | _, _, _, .non => .non
  | _, _, _, .bl b => .bl b
  | _, _, _, .int i => .int i
  | _, _, _, .str x => .str x
  | _, _, h, .lst _ _ => h.elim
  | _, _, h, .tup s a => .tup (kp_tup st k s) (dpAll_kp st k h a)
theorem dpAll_kp {d c : Addr} {H H' : Hp} {n : Nat} (st : StAt H d c n) (k : Kp d c H H') : ∀ {vs : List V} {es : List PyData}, noLAll es → DpAll K H vs es → DpAll K H' vs es
  | _, _, _, .nil => .nil
  | _, _, h, .cons x t => .cons (dp_kp st k h.1 x) (dpAll_kp st k h.2 t)
end
mutual
theorem dp_go {H H' : Hp} (go : ∀ a us, SqT K H a us → SqT K H' a us) : ∀ {v : V} {e : PyData}, noLAll.noL e → Dp K H v e → Dp K H' v e
  | _, _, _, .non => .non
  | _, _, _, .bl b => .bl b
  | _, _, _, .int i => .int i
  | _, _, _, .str x => .str x
  | _, _, h, .lst _ _ => h.elim
  | _, _, h, .tup s a => .tup (go _ _ s) (dpAll_go go h a)
theorem dpAll_go {H H' : Hp} (go : ∀ a us, SqT K H a us → SqT K H' a us) : ∀ {vs : List V} {es : List PyData}, noLAll es → DpAll K H vs es → DpAll K H' vs es
  | _, _, _, .nil => .nil
  | _, _, h, .cons x t => .cons (dp_go go h.1 x) (dpAll_go go h.2 t)
end
theorem noL_map {α : Type} {f : α → PyData} (h : ∀ x, noLAll.noL (f x)) : ∀ l : List α, noLAll (l.map f)
  | [] => trivial
  | x :: r => ⟨h x, noL_map h r⟩
theorem noL_col (c : Col) : noLAll.noL (colD c) := ⟨trivial, trivial, trivial, trivial, trivial⟩
theorem noL_wash (r : Wsh) : noLAll.noL (washD r) := ⟨trivial, trivial, by cases r.2.2 <;> trivial, trivial⟩
theorem noL_pal (cs : List Col) (ws : List Wsh) : noLAll.noL (palD cs ws) := ⟨noL_map noL_col cs, noL_map noL_wash ws, trivial⟩
theorem dpAll_app {H : Hp} : ∀ {xs ys : List V} {ds es : List PyData}, DpAll K H xs ds → DpAll K H ys es → DpAll K H (xs ++ ys) (ds ++ es)
  | _, _, _, _, .nil, h => h
  | _, _, _, _, .cons h t, h2 => .cons h (dpAll_app t h2)
end
/-! ### how long a palette's text may be -/
structure PalOk (cs : List Col) (ws : List Wsh) : Prop where
  nc : cs.length ≤ 20
  nw : ws.length ≤ 60
  cn : ∀ c ∈ cs, c.1.length ≤ 9 ∧ (∀ x ∈ c.1.cps.toList, x < 1114112) ∧ c.2.1.natAbs < 10000 ∧ c.2.2.1.natAbs < 10000 ∧ c.2.2.2.natAbs < 10000
  wn : ∀ r ∈ ws, (r.1.length ≤ 9 ∧ ∀ x ∈ r.1.cps.toList, x < 1114112) ∧ (r.2.1.length ≤ 9 ∧ ∀ x ∈ r.2.1.cps.toList, x < 1114112) ∧ ∀ i, r.2.2 = some i → i.natAbs < 10000
theorem PalOk.addC {cs : List Col} {ws : List Wsh} {c : Col} (h : PalOk cs ws) (n : cs.length < 20) (ok : c.1.length ≤ 9 ∧ (∀ x ∈ c.1.cps.toList, x < 1114112) ∧ c.2.1.natAbs < 10000 ∧ c.2.2.1.natAbs < 10000 ∧ c.2.2.2.natAbs < 10000) : PalOk (cs ++ [c]) ws :=
  ⟨by rw [List.length_append]; exact n, h.nw, fun x hx => (List.mem_append.mp hx).elim (h.cn x) fun z => by rw [List.mem_singleton.mp z]; exact ok, h.wn⟩
theorem PalOk.addW {cs : List Col} {ws : List Wsh} {r : Wsh} (h : PalOk cs ws) (n : ws.length < 60) (ok : (r.1.length ≤ 9 ∧ ∀ x ∈ r.1.cps.toList, x < 1114112) ∧ (r.2.1.length ≤ 9 ∧ ∀ x ∈ r.2.1.cps.toList, x < 1114112) ∧ ∀ i, r.2.2 = some i → i.natAbs < 10000) : PalOk cs (ws ++ [r]) :=
  ⟨h.nc, by rw [List.length_append]; exact n, h.cn, fun x hx => (List.mem_append.mp hx).elim (h.wn x) fun z => by rw [List.mem_singleton.mp z]; exact ok⟩
theorem log_small {i : Int} (h : i.natAbs < 10000) : i.natAbs.log2 < 1920 := by
  by_cases z : i.natAbs = 0
  · rw [z]; decide
  · have := (Nat.log2_lt z).mpr (show i.natAbs < 2 ^ 14 from Nat.lt_of_lt_of_le h (by decide))
    omega
theorem fineAll_map {α : Type} {f : α → PyData} : ∀ {l : List α}, (∀ x ∈ l, fineAll.fine (f x)) → fineAll (l.map f)
  | [], _ => trivial
  | x :: r, h => ⟨h x List.mem_cons_self, fineAll_map fun y hy => h y (List.mem_cons_of_mem _ hy)⟩
theorem costAll_map {α : Type} {f : α → PyData} {b : Nat} : ∀ {l : List α}, (∀ x ∈ l, costAll.cost (f x) ≤ b) → costAll (l.map f) ≤ l.length * (b + 2)
  | [], _ => Nat.zero_le _
  | x :: r, h => by
    have h1 := h x List.mem_cons_self
    have h2 := costAll_map (l := r) fun y hy => h y (List.mem_cons_of_mem _ hy)
    show costAll.cost (f x) + 2 + costAll (r.map f) ≤ (r.length + 1) * (b + 2)
    rw [Nat.succ_mul]
    omega
theorem depthAll_map {α : Type} {f : α → PyData} {b : Nat} : ∀ {l : List α}, (∀ x ∈ l, (f x).depth ≤ b) → PyData.depthAll (l.map f) ≤ b
  | [], _ => Nat.zero_le _
  | x :: r, h => by
    show max (f x).depth (PyData.depthAll (r.map f)) ≤ b
    exact Nat.max_le.mpr ⟨h x List.mem_cons_self, depthAll_map fun y hy => h y (List.mem_cons_of_mem _ hy)⟩
theorem fine_col {c : Col} (h : c.1.length ≤ 9 ∧ (∀ x ∈ c.1.cps.toList, x < 1114112) ∧ c.2.1.natAbs < 10000 ∧ c.2.2.1.natAbs < 10000 ∧ c.2.2.2.natAbs < 10000) : fineAll.fine (colD c) :=
  ⟨fun x hx => Nat.lt_trans (h.2.1 x hx) (by decide), log_small h.2.2.1, log_small h.2.2.2.1, log_small h.2.2.2.2, trivial⟩
theorem fine_opt {o : Option Int} (h : ∀ i, o = some i → i.natAbs < 10000) : fineAll.fine (optD o) := by
  cases o with
  | none => trivial
  | some i => exact log_small (h i rfl)
theorem pal_fine {cs : List Col} {ws : List Wsh} (h : PalOk cs ws) : fineAll.fine (palD cs ws) :=
  ⟨fineAll_map fun c hc => fine_col (h.cn c hc), fineAll_map fun r hr => ⟨fun x hx => Nat.lt_trans ((h.wn r hr).1.2 x hx) (by decide), fun x hx => Nat.lt_trans ((h.wn r hr).2.1.2 x hx) (by decide), fine_opt (h.wn r hr).2.2, trivial⟩, trivial⟩
theorem cost_opt (o : Option Int) : costAll.cost (optD o) ≤ 1921 := by
  cases o with
  | none => decide
  | some i => exact Nat.le_refl _
theorem pal_cost {cs : List Col} {ws : List Wsh} (h : PalOk cs ws) : costAll.cost (palD cs ws) ≤ 1000000 := by
  have h1 : costAll (cs.map colD) ≤ cs.length * (10000 + 2) := costAll_map fun c hc => by
    have := (h.cn c hc).1
    show (10 * c.1.length + 2) + 2 + (1921 + 2 + (1921 + 2 + (1921 + 2 + 0))) + 3 ≤ 10000
    omega
  have h2 : costAll (ws.map washD) ≤ ws.length * (10000 + 2) := costAll_map fun r hr => by
    have a := (h.wn r hr).1.1
    have b := (h.wn r hr).2.1.1
    have c := cost_opt r.2.2
    show (10 * r.1.length + 2) + 2 + ((10 * r.2.1.length + 2) + 2 + (costAll.cost (optD r.2.2) + 2 + 0)) + 3 ≤ 10000
    omega
  have h3 := Nat.mul_le_mul_right 10002 h.nc
  have h4 := Nat.mul_le_mul_right 10002 h.nw
  show (costAll (cs.map colD) + 3) + 2 + ((costAll (ws.map washD) + 3) + 2 + 0) + 3 ≤ 1000000
  omega
theorem depth_opt (o : Option Int) : (optD o).depth = 0 := by cases o <;> rfl
theorem pal_depth (cs : List Col) (ws : List Wsh) : (palD cs ws).depth ≤ 3 := by
  have h1 : PyData.depthAll (cs.map colD) ≤ 1 := depthAll_map fun c _ => by show 1 ≤ 1; decide
  have h2 : PyData.depthAll (ws.map washD) ≤ 1 := depthAll_map fun r _ => by
    show max 0 (max 0 (max (optD r.2.2).depth 0)) + 1 ≤ 1
    rw [depth_opt]
    decide
  show max (PyData.depthAll (cs.map colD) + 1) (max (PyData.depthAll (ws.map washD) + 1) 0) + 1 ≤ 3
  omega
end Pot

set_option maxHeartbeats 3900000
/-! own: exceptions whose __init__ says super().__init__(..), over any built-in base -/
namespace RSup
open PySem PySem.W PySem.Calls PyProof.Rows Builtin Builtin.ObjectAttr
section
variable {prog : Program} {w : World} {A : Around} {E : Value → Shared → Prop} {R : Result → Shared → Prop} {hp : Heap} {g : Array GenState} {d : Drawn} {t : Nat} {os : OsState} {B : String} {bmB : List Value}
theorem taker_none {K : Frag} {C : Addr} {name : Str} (h : findIn K (.ref C) name = some none) : takerIn K C name = some none := by
  unfold takerIn
  rw [h]; rfl
/-- the first field of an exception -/
theorem osa_first {K : Frag} {namew : Str} {tkw : Tok} {vw : Value} {xw C : Addr} {fvw : Array Value} {cdw : ClassData} (SF : StoreFacts B bmB "object.__setattr__" "object")
    (X : K.In heap) (stands : heap.get? xw = some { cls := .ref C, data := .fields fvw }) (isClass : clsIn K C = some cdw) (over : excOver K C bmB = true) (hasDict_ : cdw.hasDict = true) (unfound : findIn K (.ref C) namew = some none)
    (go : ∀ h'w tk'w dxw, (∀ bw ow, bw ≠ xw → heap.get? bw = some ow → h'w.get? bw = some ow) → heap.objs.size ≤ dxw → dxw ≠ xw → h'w.get? xw = some { cls := .ref C, dict := some dxw, data := .fields fvw } →
      h'w.Ns1 dxw (fun yw => if yw = namew then some vw else none) → R (.ok (.ret .none)) ⟨h'w, gw, dw, tk'w, osw⟩) :
    codeAny (model prog w) A (.call (.builtin "object.__setattr__") ⟨[.ref xw, .str namew tkw, vw], []⟩) R ⟨heap, gw, dw, tw, osw⟩ := by
  have I : InstAt heap xw { cls := .ref C, data := .fields fvw } C none := ⟨stands, rfl, rfl, trivial⟩
  have apart : xw ≠ heap.objs.size := Nat.ne_of_lt (Heap.lt_size stands)
  have looks : Looks (model prog w) heap (classData C) cdw := looks_clsIn X isClass
  refine osa_openX SF X I over (taker_none unfound) fun bbw => ?_
  show wpAny _ _ (storeInOwnDict (.ref xw) (.ref C) (.str namew tkw) namew vw bbw) _ _ _
  obtain ⟨nmw, bsw, mrow, nsw, qnw, hdw, snw, sbw, abw, colw, delw⟩ := cdw
  dsimp only at hasDict_
  subst hasDict_
  unfold storeInOwnDict
  unfold ownDictForStores
  repeat (first | with_reducible refine HandSPX.store_in_new ?_ ?_ | with_reducible refine wpAny_loadPart_at stands ?_ | with_reducible refine looks.at ?_ | wp_step)
  · exact ⟨_, #[], _, (Heap.get?_update_ne _ _ _ _ apart.symm).trans (Heap.get?_push_at rfl rfl), rfl, fun ew hew => absurd hew (by simp), fun _ => rfl⟩
  · intro h'w tk'w hn'w hsw
    have hx₁ : (heap.push { cls := .type "dict", data := .dict #[] }).get? xw = some { cls := .ref C, data := .fields fvw } := Heap.get?_push_of_some _ stands
    refine go h'w tk'w heap.objs.size (fun bw ow hbw how => ?_) (Nat.le_refl _) apart.symm ?_ hn'w
    · exact (hsw.2 bw (Nat.ne_of_lt (Heap.lt_size how))).trans ((Heap.get?_update_ne _ _ _ _ hbw).trans (Heap.get?_push_of_some _ how))
    · exact (hsw.2 xw apart).trans (Heap.get?_update_self _ hx₁ rfl)
/-- a further one -/
theorem osa_more {K : Frag} {namew : Str} {tkw : Tok} {vw : Value} {xw C dxw : Addr} {fvw : Array Value} {cdw : ClassData} {m0w : Str → Option Value} {nlw : List Str} (SF : StoreFacts B bmB "object.__setattr__" "object")
    (X : K.In heap) (stands : heap.get? xw = some { cls := .ref C, dict := some dxw, data := .fields fvw }) (keeps_ : heap.Ns1 dxw m0w) (hww : Within m0w nlw) (hzw : nlw.length ≤ 1000) (isClass : clsIn K C = some cdw) (over : excOver K C bmB = true) (hasDict_ : cdw.hasDict = true)
    (unfound : findIn K (.ref C) namew = some none)
    (go : ∀ h'w tk'w, (∀ bw ow, bw ≠ dxw → heap.get? bw = some ow → h'w.get? bw = some ow) → h'w.Ns1 dxw (fun yw => if yw = namew then some vw else m0w yw) → R (.ok (.ret .none)) ⟨h'w, gw, dw, tk'w, osw⟩) :
    codeAny (model prog w) A (.call (.builtin "object.__setattr__") ⟨[.ref xw, .str namew tkw, vw], []⟩) R ⟨heap, gw, dw, tw, osw⟩ := by
  obtain ⟨oDw, esDw, epDw, hoDw, hdDw, _⟩ := keeps_.count hww
  have I : InstAt heap xw { cls := .ref C, dict := some dxw, data := .fields fvw } C (some oDw) := ⟨stands, rfl, rfl, hoDw⟩
  have looks : Looks (model prog w) heap (classData C) cdw := looks_clsIn X isClass
  refine osa_openX SF X I over (taker_none unfound) fun bbw => ?_
  show wpAny _ _ (storeInOwnDict (.ref xw) (.ref C) (.str namew tkw) namew vw bbw) _ _ _
  obtain ⟨nmw, bsw, mrow, nsw, qnw, hdw, snw, sbw, abw, colw, delw⟩ := cdw
  dsimp only at hasDict_
  subst hasDict_
  unfold storeInOwnDict
  unfold ownDictForStores
  repeat (first | with_reducible refine OEX.store_in_old keeps_ hww hzw ?_ | with_reducible refine wpAny_loadPart_at stands ?_ | with_reducible refine looks.at ?_ | wp_step)
  intro h'w tk'w hn'w hsw
  exact go h'w tk'w (fun bw ow hbw how => (hsw.2 bw hbw).trans how) hn'w
end
end RSup
namespace RSup
open PySem PySem.Spec PyProof.Rows L2
/-- the class at C, over the built-in base with that newId and that mro -/
structure OexB (K : PySem.W.Frag) (C : Addr) (newId : String) (bmB : List Value) : Prop where
  cls : ∃ nm q N bs bm sn sub ab col dd k0 k1 k2 k3 k5, K.lookup C = some (excClassObj nm q C N bs bm true sn sub ab col dd k0 k1 k2 k3 k5 newId) ∧ PySem.W.excTail bmB bm = true
  sets : PySem.W.findIn K (.ref C) ("__setattr__" : Str) = some (some (Value.builtin "object.__setattr__"))
  excs : PySem.W.subIn K (.ref C) (Value.type "BaseException") = some true
  kind : PySem.W.typeIn K (.ref C) = some (Value.type "type")
  kept : PySem.W.keepIn K (Value.ref C) = true
theorem OexB.over {K : PySem.W.Frag} {C : Addr} {newId : String} {bmB : List Value} (T : OexB K C newId bmB) : PySem.W.excOver K C bmB = true := by
  obtain ⟨_, _, _, _, bm, _, _, _, _, _, _, _, _, _, _, hC, hbm⟩ := T.cls
  unfold PySem.W.excOver PySem.W.clsIn
  rw [hC]
  show (C == C && PySem.W.excTail bmB bm) = true
  rw [hbm, beq_self_eq_true]; rfl
theorem OexB.init {K : PySem.W.Frag} {C : Addr} {newId : String} {bmB : List Value} (T : OexB K C newId bmB) : PySem.W.excInitIn K C bmB newId = true := by
  obtain ⟨_, _, _, _, bm, _, _, _, _, _, _, _, _, _, _, hC, hbm⟩ := T.cls
  unfold PySem.W.excInitIn
  rw [hC]
  show (C == C && newId == newId && !false && PySem.W.excTail bmB bm) = true
  rw [hbm, beq_self_eq_true, beq_self_eq_true]; rfl
section
variable {X : Cx} {pins : List (Addr × Obj)} {σ : L2.St} {H : Hp} {s : Shared} {a C dx : Addr} {f : Str} {y : V} {u : Value} {fs : List (Str × V)} {Q : Unit → Shared → Prop} {E : Value → Shared → Prop} {A : Around} {B newId initId : String} {bmB : List Value}
/-- the first field of one that is being made -/
theorem ost_first (SF : StoreFacts B bmB "object.__setattr__" "object") (T : OexB X.K C newId bmB) (I : Inv X pins σ H s) (ew : H a = some (exo a C none)) (hnow : PySem.W.findIn X.K (.ref C) f = some none) (ryw : L2.RelV y u)
    (hw : ∀ dxw s', H dxw = none → dxw ≠ a → Inv X pins σ (upd (upd H dxw (exd dxw [(f, y)])) a (exo a C (some dxw))) s' → Q () s') : wpAny (model X.prog X.w) A (setAttr (.ref a) f u) Q E s := by
  obtain ⟨nmw, qw, N, bsw, bmw, snw, subw, abw, colw, ddw, k0w, k1w, k2w, k3w, k5w, hCw, hbmw⟩ := T.cls
  have hclw : PySem.W.clsIn X.K C = some { name := nmw, bases := bsw, mro := .ref C :: bmw, ns := N, qualname := qw, hasDict := true, slotNames := snw, subclasses := subw, abstract := abw, collection := colw, hasDel := false } := by unfold PySem.W.clsIn; rw [hCw] <;> rfl
  obtain ⟨t1w, how⟩ := exo_at I.hok ew
  obtain ⟨heap, gw, dw, tw, osw⟩ := s
  refine PySem.W.set_plain I.kIn (ox := { cls := .ref C, dict := none, data := .fields #[.ref t1w, .none, .none, .none, .bool false, .none] }) (od := none) ⟨how, rfl, rfl, trivial⟩ T.sets ?_
  refine osa_first SF I.kIn how hclw T.over rfl hnow (fun h'w tk'w dxw kw dnw dnew stands hnw => ?_)
  have hndw : H dxw = none := I.hok.fresh dnw
  have ndw : ∀ {bw : Addr} {ow : Obj}, heap.get? bw = some ow → bw ≠ dxw := fun {bw ow} qw => Nat.ne_of_lt (Nat.lt_of_lt_of_le (Heap.lt_size qw) dnw)
  have naw : ∀ {bw : Addr}, H bw = none → bw ≠ a := fun {bw} nw zw => by
    rw [zw, ew] at nw
    cases nw
  have Un1 : Un X.fs [] H (upd (upd H dxw (exd dxw [(f, y)])) a (exo a C (some dxw))) heap h'w := {
    keep := fun bw ow qw nw _ _ => kw bw ow (naw nw) qw
    slot := fun bw ow qw nw _ _ => ⟨ow.slots, kw bw ow (naw nw) qw⟩
    free := fun bw ow qw nw _ => by rw [upd_ne (naw nw), upd_ne (ndw qw)]; exact nw
    there := fun bw ow qw _ => by
      by_cases hb : bw = a
      · exact ⟨_, by rw [hb]; exact stands⟩
      · exact ⟨ow, kw bw ow hb qw⟩
    tups := fun bw xsw qw => by rw [upd_ne (at_ne ew qw exo_tup), upd_ne (ne_of_none qw hndw)]; exact qw
    frzs := fun bw ow vw qw => by rw [upd_ne (at_ne ew qw exo_frz), upd_ne (ne_of_none qw hndw)]; exact qw
    tbls := fun bw psw qw => ⟨#[], by rw [upd_ne (at_ne ew qw exo_tbl), upd_ne (ne_of_none qw hndw), qw]; simp⟩ }
  refine hw dxw _ hndw dnew (I.un (t' := tk'w) Un1 fun bw ow qw => ?_)
  by_cases hb : bw = a
  · subst hb
    rw [upd_same] at qw
    cases qw
    exact exo_ok stands
  · rw [upd_ne hb] at qw
    by_cases hdw : bw = dxw
    · subst hdw
      rw [upd_same] at qw
      cases qw
      exact exd_ok hnw (relO_put (fs := []) ryw fun gw => True.intro)
    · rw [upd_ne hdw] at qw
      exact (I.hok bw ow qw).stay (fun cw vw hcw zw => kw cw vw (by
          rcases hcw with hcw | hcw
          · rw [hcw]
            exact hb
          · exact at_ne ew hcw exo_own) zw)
        (fun cw hcw => by rw [upd_ne (at_ne ew hcw exo_own), upd_ne (ne_of_none hcw hndw)]; exact hcw) (fun cw xsw hcw => by rw [upd_ne (at_ne ew hcw exo_tup), upd_ne (ne_of_none hcw hndw)]; exact hcw)
/-- a further field -/
theorem ost_more (SF : StoreFacts B bmB "object.__setattr__" "object") (T : OexB X.K C newId bmB) (I : Inv X pins σ H s) (ew : H a = some (exo a C (some dxw))) (edw : H dxw = some (exd dxw fsw)) (hlw : fsw.length ≤ 900) (hnow : PySem.W.findIn X.K (.ref C) f = some none) (ryw : L2.RelV y u)
    (hw : ∀ s', Inv X pins σ (upd H dxw (exd dxw ((f, y) :: fsw))) s' → Q () s') : wpAny (model X.prog X.w) A (setAttr (.ref a) f u) Q E s := by
  obtain ⟨nmw, qw, N, bsw, bmw, snw, subw, abw, colw, ddw, k0w, k1w, k2w, k3w, k5w, hCw, hbmw⟩ := T.cls
  have hclw : PySem.W.clsIn X.K C = some { name := nmw, bases := bsw, mro := .ref C :: bmw, ns := N, qualname := qw, hasDict := true, slotNames := snw, subclasses := subw, abstract := abw, collection := colw, hasDel := false } := by unfold PySem.W.clsIn; rw [hCw] <;> rfl
  obtain ⟨t1w, how⟩ := exo_at I.hok ew
  obtain ⟨mAw, keeps_, relw⟩ := exd_at I.hok edw
  have hww := within_of relw
  obtain ⟨heap, gw, dw, tw, osw⟩ := s
  obtain ⟨oDw, _, _, hoDw, _, _⟩ := keeps_.count hww
  refine PySem.W.set_plain I.kIn (ox := { cls := .ref C, dict := some dxw, data := .fields #[.ref t1w, .none, .none, .none, .bool false, .none] }) (od := some oDw) ⟨how, rfl, rfl, hoDw⟩ T.sets ?_
  refine osa_more SF I.kIn how keeps_ hww (by rw [List.length_map]; omega) hclw T.over rfl hnow (fun h'w tk'w kw hnw => ?_)
  have hdw : ∃ ow, h'w.get? dxw = some ow := by
    obtain ⟨ow, _, _, e'w, _⟩ := hnw
    exact ⟨ow, e'w⟩
  exact hw _ (I.write (t' := tk'w) (x := dxw) (e := dxw) (o := exd dxw ((f, y) :: fsw)) (by rw [edw]; exact True.intro) (.inl rfl) kw hdw (exd_ok hnw (relO_put ryw relw)))
end
/-- self.f = e -/
def tOstB (K : PySem.W.Frag) (newId : String) (bmB : List Value) (f : Str) (to te : TE) : TS := fun D σ H => te σ H fun y H1 => to σ H1 fun x H2 => ∃ a C : Addr, x = .ref a ∧ OexB K C newId bmB ∧ PySem.W.findIn K (.ref C) f = some none ∧
  ((H2 a = some (exo a C none) ∧ ∀ d, H2 d = none → d ≠ a → D.nx σ (upd (upd H2 d (exd d [(f, y)])) a (exo a C (some d)))) ∨
    ∃ (d : Addr) (rs : List (Str × V)), H2 a = some (exo a C (some d)) ∧ H2 d = some (exd d rs) ∧ rs.length ≤ 900 ∧ D.nx σ (upd H2 d (exd d ((f, y) :: rs))))
section
variable {X : Cx} {o e : Expr} {to te : TE} {f : Str} {p' pos : Pos} {B newId : String} {bmB : List Value}
theorem ps_ostB (SF : StoreFacts B bmB "object.__setattr__" "object") (how : PE X o to) (hew : PE X e te) (hsw : swapsWith e (some (.Attribute o f p')) pos.line X.env = pure false := by rfl) : PS X (.Assign [.Attribute o f p'] e pos) (tOstB X.K newId bmB f to te) := by
  refine ⟨fun pins sw σ H D I hw => ?_⟩
  refine plainObj_wpAny_Assign_Attribute (thn (hew.run pins sw σ H _ I hw) fun vw s1w ⟨yw, H1, I1, r1w, q1w⟩ => thn (how.run pins s1w σ H1 _ I1 q1w) fun uw s2w ⟨xw, H2, I2, r2w, aw, C, exw, T, hnow, qw⟩ => ?_) hsw
  subst exw
  obtain rfl : uw = Value.ref aw := r2w
  rcases qw with ⟨ea, qw⟩ | ⟨dxw, fs, ea, ed, hl, qw⟩
  · exact ost_first SF T I2 ea hnow r1w fun dxw s'w nw new J => ⟨σ, _, J, qw dxw nw new⟩
  · exact ost_more SF T I2 ea ed hl hnow r1w fun s'w J => ⟨σ, _, J, qw⟩
end
/-! ### super().__init__(..) -/
section
variable {X : Cx} {pins : List (Addr × Obj)} {σ : L2.St} {H : Hp} {s : Shared} {a C u : Addr} {E : Value → Shared → Prop} {A : Around} {B newId i : String} {bmB : List Value}
/-- the bound __init__ called: nothing of it is told -/
theorem sup_call {usw : List Value} {Q : Value → Shared → Prop} (FB : ExcBaseFacts B newId i bmB) (T : OexB X.K C newId bmB) (I : Inv X ((u, PySem.W.kxs_mw i a) :: pins) σ H sw) (ew : H a = some (exo a C none)) (hlw : usw.length ≤ sizeLine) (hw : ∀ s', Inv X pins σ H s' → Q .none s') :
    wpAny (model X.prog X.w) A (call (.ref u) usw) Q E sw := by
  obtain ⟨nmw, qw, N, bsw, bmw, snw, subw, abw, colw, ddw, k0w, k1w, k2w, k3w, k5w, hCw, hbmw⟩ := T.cls
  obtain ⟨t1w, how⟩ := exo_at I.hok ew
  have huw := (I.pin (u, PySem.W.kxs_mw i a) (List.mem_append_right _ List.mem_cons_self)).1
  have I0 : Inv X pins σ H sw := I.pins_of fun pw heap => I.pin pw (List.mem_append_right _ (List.mem_cons_of_mem _ heap))
  have finw : ∀ h'w, (∀ b ow, b ≠ a → sw.heap.get? b = some ow → h'w.get? b = some ow) → (∃ t2w : Addr, h'w.get? a = some ({ cls := .ref C, dict := none, data := .fields #[.ref t2w, .none, .none, .none, .bool false, .none] } : Obj)) → Q .none { sw with heap := h'w } := fun h'w kw ⟨t2w, stands⟩ => by
    have J := I0.write (t' := sw.toks) (x := a) (e := a) (o := exo a C none) (h' := h'w) (by rw [ew]; exact True.intro) (.inl rfl) kw ⟨_, stands⟩ (exo_ok stands)
    have euw : upd H a (exo a C none) = H := by
      funext b
      by_cases hb : b = a
      · rw [hb, upd_same, ew]
      · rw [upd_ne hb]
    rw [euw] at J
    exact hw _ J
  have hCsw := I.kIn _ _ hCw
  obtain ⟨hasDict_, gw, dw, tkw, osw⟩ := sw
  refine wpAny_call ?_
  refine codeAny_of_tree ?_
  show wpAny _ A.in1 (callAny (.ref u) ⟨usw, []⟩) _ _ _
  simp only [callAny]
  refine wpAny_bind (wpAny_load huw ?_)
  simp only [PySem.W.kxs_mw, show (Value.type "method-wrapper" == Value.type "method" || Value.type "method-wrapper" == Value.type "builtin_function_or_method" || Value.type "method-wrapper" == Value.type "method-wrapper") = true by decide, if_true]
  refine (PySem.W.KFB.if_so (by decide +kernel) ?_)
  refine wpAny_bind (PySem.W.check_bound_init FB.toExcCallFacts hCsw how rfl ?_)
  refine wpAny_bind (wpAny_pure (wpAny_pure ⟨plainId_quiet FB.init.plain _, codeAny_builtin FB.initEntry ?_⟩))
  exact PySem.W.exc_init_tree (cls := .ref C) (t0 := t1w) (dv := none) (c2 := .none) (c3 := .none) (b4 := .bool false) how hlw fun h'w kw e'w _ => finw h'w kw ⟨_, e'w⟩
/-- what super() finds, of a def in the class at C -/
structure SupK (X : Cx) (C : Addr) (i : String) (B : String) (fd : FuncData) (ar : Arg) : Prop where
  kf : PySem.W.KxsFacts B i
  sup : PySem.W.ks_superIn X.K C C "__init__" = some (some (.builtin i))
  isB : PySem.W.subIn X.K (.ref C) (.type B) = some true
  self : PySem.W.mroIn X.K C (.ref C) = some true
  any : PySem.W.nsIn X.K cStatics "thirdparty.any" = some none
  mg : X.mg "super" = none
  fn : ∃ (f : Addr) (oc : Value) (od : Option Addr) (osl : Array (Option Value)), X.env.func = some f ∧ X.K.lookup f = some ⟨oc, od, .func fd, osl⟩
  first : (fd.params.posonlyargs ++ fd.params.args).head? = some ar
  code : ∃ (cda : Addr) (ccl : Value) (cdd : Option Addr) (vs : Array Value) (ccs : Array (Option Value)) (file : Str) (tf : Tok), X.env.code = .ref cda ∧ X.K.lookup cda = some ⟨ccl, cdd, .fields vs, ccs⟩ ∧ vs[2]? = some (.str file tf) ∧ ((X.prog.main.file : Str) == file) = true
  top : (X.prog.main.scope.names.lookup ("super" : Str)).isSome = false
  cell : ∃ (cc : Addr) (cl : Value) (cld : Option Addr) (csl : Array (Option Value)), X.env.cells.lookup ("__class__" : Str) = some cc ∧ X.K.lookup cc = some ⟨cl, cld, .cell (some (.ref C)), csl⟩
  ks : X.env.kindOf "super" = some .globalImplicit
  kc : X.env.kindOf "__class__" = some .free
  ka : X.env.kindOf ar.arg = some .local
  at0 : X.N[0]? = some ar.arg
  vis : Vis X.env.scope ar.arg
theorem sup_base {fdw : FuncData} {arw : Arg} {body : List Stmt} {p0w p1w : Pos} {whole : Sem Value} {Q : Value → Shared → Prop} (S : SupK X C i B fdw arw) (T : OexB X.K C newId bmB) (I : Inv X pins σ H sw) (hwσ : σ[0]? = some (some (.ref aw))) (ew : H aw = some (exo aw C none))
    (hw : ∀ sow h'w, h'w.get? sow = some (PySem.W.ks_superObj C aw C) → H sow = none → Inv X pins σ H { sw with heap := h'w } → Q (.ref sow) { sw with heap := h'w }) :
    PySem.wpAt (model X.prog X.w) X.A (.func body X.env) (attributeBase (.Call (.Name "super" p0w) [] [] p1w) "__init__" X.env whole) Q E sw := by
  obtain ⟨fw, ocw, odw, oslw, hfuw, hfw⟩ := S.fn
  obtain ⟨cdaw, cclw, cddw, vsw, ccsw, filew, tfw, hcow, hcodew, hvsw, hfilew⟩ := S.code
  obtain ⟨ccw, clw, cldw, cslw, hccw, hcellw⟩ := S.cell
  obtain ⟨t1w, how⟩ := exo_at I.hok ew
  obtain ⟨mw, keeps_, locw⟩ := I.loc
  obtain ⟨nmw, qw, N, bsw, bmw, snw, subw, abw, colw, ddw, k0w, k1w, k2w, k3w, k5w, hCw, hbmw⟩ := T.cls
  obtain ⟨v0w, rvw, lkw⟩ := locw 0 arw.arg (.ref aw) S.at0 hwσ S.vis
  have hvw : mw arw.arg = some (.ref aw) := by
    cases rvw
    rcases lkw with ⟨_, over⟩ | ⟨hk, _⟩
    · exact over
    · rw [S.ka] at hk
      rcases hk with zw | zw <;> cases zw
  have XK := I.kIn
  refine ks_wpAt_super_base (env := X.env) S.ks S.kc (by decide) hfuw (XK _ _ hfw) rfl S.first hcow (XK _ _ hcodew) rfl hvsw hfilew S.top ?_
  obtain ⟨mbw, b1w, b2w⟩ := I.mod.blt
  refine PySem.W.ks_loadName_global I.ok.kind S.ks (Calls.loadGlobal_builtin (by rw [I.ok.glob]; exact I.mod.glob.keeps I.bk) S.mg (by rw [I.ok.blt]; exact b1w.keeps I.bk) ((b2w _ (by decide)).trans (by decide +kernel : bootBuiltins "super" = some (.type "super"))) ⟨rfl, ?_⟩)
  refine wpAny_loadName_free I.ok.kind S.kc hccw ⟨_, XK _ _ hcellw, rfl⟩ ?_
  refine wpAny_loadName_local I.ok.kind S.ka keeps_ hvw ?_
  refine ks_wpAny_isType_cls (XK _ _ hCw) rfl ⟨rfl, ?_⟩
  obtain ⟨hasDict_, gw, dw, tkw, osw⟩ := sw
  refine ks_wpAny_call_super (XK _ _ hCw) rfl how rfl (fun cw zw => by cases zw) (PySem.W.looks_mroIn XK S.self) (fun h'w e'w kw => ?_)
  exact hw _ _ e'w (I.hok.fresh (Nat.le_refl _)) (I.kept (t' := tkw) kw)
theorem sup_row {fdw : FuncData} {arw : Arg} {body : List Stmt} {p0w p1w apos pos spos : Pos} {arg : Expr} {es : List Expr} {taw : TA} {plw : Sem Bool} {Qn : Hp → Prop} (FB : ExcBaseFacts B newId i bmB) (S : SupK X C i B fdw arw) (T : OexB X.K C newId bmB) (I : Inv X pins σ H sw) (hwσ : σ[0]? = some (some (.ref aw))) (ew : H aw = some (exo aw C none))
    (unfound : PA X (arg :: es) taw) (go : taw σ H fun vsw H1 => vsw.length ≤ 1000 ∧ H1 aw = some (exo aw C none) ∧ Qn H1)
    (hcw : eval (.Call (.Attribute (.Call (.Name "super" p0w) [] [] p1w) "__init__" apos) (arg :: es) [] pos) X.env = (do
      let ov ← attributeBase (.Call (.Name "super" p0w) [] [] p1w) "__init__" X.env (eval (.Call (.Name "super" p0w) [] [] p1w) X.env)
      standAt apos.atName
      let (fw, first) ← holding [ov] (getMethod ov "__init__" plw)
      callWith pos fw first (backTo pos (starEach (arg :: es) X.env)) []) := by rfl)
    (hew : starEach (arg :: es) X.env = (false, eval arg X.env) :: starEach es X.env := by rfl) (hplw : (backTo pos (starEach es X.env)).any (·.1) = false := by rfl)
    (hsw : swapsWith (.Call (.Attribute (.Call (.Name "super" p0w) [] [] p1w) "__init__" apos) (arg :: es) [] pos) none spos.line X.env = pure false := by rfl) :
    PySem.wpAt (model X.prog X.w) X.A (.func body X.env) (exec (.Expr (.Call (.Attribute (.Call (.Name "super" p0w) [] [] p1w) "__init__" apos) (arg :: es) [] pos) spos) X.env) (fun fw s'w => fw = .next ∧ ∃ H', Inv X pins σ H' s'w ∧ Qn H') X.xe sw := by
  refine ks_wpAt_Expr_any (ks_wpAt_MethodCall (pl := plw) (sup_base S T I hwσ ew fun sow h'w hsow nsow I1 => ?_) hcw) I.quiet hsw
  obtain ⟨nmw, qw, N, bsw, bmw, snw, subw, abw, colw, ddw, k0w, k1w, k2w, k3w, k5w, hCw, hbmw⟩ := T.cls
  obtain ⟨t1w, how⟩ := exo_at I1.hok ew
  have XK := I1.kIn
  have hclw : PySem.W.clsIn X.K C = some { name := nmw, bases := bsw, mro := .ref C :: bmw, ns := N, qualname := qw, hasDict := true, slotNames := snw, subclasses := subw, abstract := abw, collection := colw, hasDel := false } := by unfold PySem.W.clsIn; rw [hCw] <;> rfl
  have over := S.sup
  unfold PySem.W.ks_superIn at over
  rw [hclw] at over
  have IA : PySem.W.InstAt h'w aw { cls := .ref C, dict := none, data := .fields #[.ref t1w, .none, .none, .none, .bool false, .none] } C none := ⟨how, rfl, rfl, trivial⟩
  have hIw : PySem.W.Looks (model X.prog X.w) h'w (isInstance (.ref aw) (.type B)) true := IA.type.andThen (PySem.W.looks_subIn XK S.isB)
  have hxCw : aw ≠ C := PySem.W.ks_ne XK IA hclw
  obtain ⟨hasDict_, gw, dw, tkw, osw⟩ := sw
  refine PySem.W.kxs_getMethod S.kf hsow (PySem.W.looks_opaque XK S.any) (l₀ := .ref C :: bmw) (fun A Q E sw kw qw => wpAny_bind ((PySem.W.looks_clsIn XK hclw) A _ E sw kw (wpAny_pure qw))) rfl XK over hIw hxCw (by decide) ?_
  have huw : (h'w.push (PySem.W.kxs_mw i aw)).get? h'w.objs.size = some (PySem.W.kxs_mw i aw) := Heap.get?_push_size _ rfl
  have fuw := I1.fpOk (b := h'w.objs.size) (Nat.le_refl _) (I1.hok.fresh (Nat.le_refl _))
  have I2 : Inv X pins σ H ⟨h'w.push (PySem.W.kxs_mw i aw), gw, dw, tkw + 1, osw⟩ := I1.kept (t' := tkw + 1) fun bw ow zw => Heap.get?_push_of_some _ zw
  have I3 : Inv X ((h'w.objs.size, PySem.W.kxs_mw i aw) :: pins) σ H ⟨h'w.push (PySem.W.kxs_mw i aw), gw, dw, tkw + 1, osw⟩ := I2.pins_of fun pw heap => by
    rcases List.mem_cons.mp heap with rfl | heap
    · exact ⟨huw, fuw.1, fuw.2.1, fuw.2.2.1, fun vw zw => by cases zw⟩
    · exact I2.pin pw (List.mem_append_right _ heap)
  show wpAny _ _ (callWith pos (.ref h'w.objs.size) [] (backTo pos (starEach (arg :: es) X.env)) []) _ _ _
  rw [hew]
  refine PySem.W.kxs_callWith (i := i) (x := aw) (by show (false || (backTo pos (starEach es X.env)).any (·.1)) = false; rw [hplw]; rfl) ?_
  refine Calls.evalArgs_plain ?_
  have hrw := unfound.run pos ((h'w.objs.size, PySem.W.kxs_mw i aw) :: pins) _ σ H _ I3 go
  rw [hew] at hrw
  refine thn hrw fun usw s1w ⟨vsw, H1, J, rvw, hlw, e1w, qnw⟩ => ⟨(J.pin (h'w.objs.size, PySem.W.kxs_mw i aw) (List.mem_append_right _ List.mem_cons_self)).1, ?_⟩
  refine sup_call FB T J e1w ?_ fun s'w J' => ⟨rfl, H1, J', qnw⟩
  show usw.length ≤ sizeLine
  rw [← Paired.length rvw, sizeLine_eq]
  omega
end
/-! ### a def whose only free name is __class__ -/
def cxS (CX : CXT) (P : Program) (w : World) (K : PySem.W.Frag) (mg : Str → Option Value) (base : Heap) (N : List Str) (qual : Str) (scope : Scope) (f cda cc : Addr) (A : Around) (outer : List Env) (s : Shared) (H : Hp) (E : XK) : Cx where
  prog := P
  w := w
  K := K
  mg := mg
  base := base
  A := A.deeper (PySem.W.ksEnv qual scope s.heap.objs.size f (.ref cda) cc)
  N := N
  s_0 := s
  H_0 := H
  env := PySem.W.ksEnv qual scope s.heap.objs.size f (.ref cda) cc
  outer := outer
  stack := PySem.W.ksEnv qual scope s.heap.objs.size f (.ref cda) cc :: outer
  ex := []
  calm := true
  fn := fun _ => false
  pn := []
  xe := fun e s' => wpAny (model P w) (A.deeper (PySem.W.ksEnv qual scope s.heap.objs.size f (.ref cda) cc)) (leaving (PySem.W.ksEnv qual scope s.heap.objs.size f (.ref cda) cc) e) (fun _ s'' => CX outer H s E e s'') (fun e' s'' => CX outer H s E e' s'') s'
structure ScopeS (N ps : List Str) (sc : Scope) : Prop where
  kind : sc.kind = .function
  co : sc.isCoroutine = false
  gen : sc.isGenerator = false
  nd : N.Nodup
  pre : N.take ps.length = ps
  par : ∀ p ∈ ps, sc.names.lookup p = some NameKind.local
  nocell : ∀ n ∈ sc.names, n.2 ≠ NameKind.cell
  free : ∀ n ∈ sc.names, n.2 = NameKind.free → n.1 = ("__class__" : Str)
theorem lookup_nd {β : Type} {k : Str} {v : β} : ∀ {l : List (Str × β)}, (l.map (·.1)).Nodup → (k, v) ∈ l → l.lookup k = some v
  | [], _, h => (List.not_mem_nil h).elim
  | (k', v') :: l, nd, h => by
    obtain ⟨out, nd2⟩ := List.nodup_cons.mp nd
    rw [List.lookup_cons]
    rcases List.mem_cons.mp h with here | e
    · cases here
      rw [beq_self_eq_true]
    · have ne : (k == k') = false := by
        rw [beq_eq_false_iff_ne]
        intro z
        subst z
        exact out (List.mem_map.mpr ⟨_, e, rfl⟩)
      rw [ne]
      exact lookup_nd nd2 e
theorem inv_startS {CX : CXT} {P : Program} {ww : World} {K : PySem.W.Frag} {mg : Str → Option Value} {base : Heap} {N psw : List Str} {qual : Str} {scope : Scope} {fw cdaw ccw C : Addr} {A : Around} {outerw : List Env} {sw : Shared} {H : Hp} {E : XK} {usw : List Value} {vsw : List V} {h1w : Heap} {tkw : Nat} {clw : Value} {cldw : Option Addr} {cslw : Array (Option Value)}
    (S : ScopeS N psw scope) (hdw : A.handled = none) (e0w : Env0 P ww K mg base A outerw sw H) (hlw : vsw.length = psw.length) (rw : Vals vsw usw) (hccw : K.lookup ccw = some ⟨clw, cldw, .cell (some (.ref C)), cslw⟩)
    (nsw : h1w.Ns sw.heap.objs.size (fun xw => (psw.zip usw).reverse.lookup xw)) (hkw : ∀ bw ow, sw.heap.get? bw = some ow → h1w.get? bw = some ow) :
    Inv (cxS CX P ww K mg base N qual scope fw cdaw ccw A outerw sw H E) [] (start N vsw) H { sw with heap := h1w, toks := tkw } := by
  have hplw : psw.length ≤ N.length := by have := congrArg List.length S.pre; rw [List.length_take] at this; omega
  have noAw : ∀ bw : Addr, bw ∉ (cxS CX P ww K mg base N qual scope fw cdaw ccw A outerw sw H E).ex := fun bw zw => absurd (show bw ∈ ([] : List Addr) from zw) (by simp)
  have hcbw := e0w.mod.kin _ _ hccw
  have hcsw := e0w.bs _ _ hcbw
  have cell1w : ∀ {xw : Str} {cw : Addr}, (cxS CX P ww K mg base N qual scope fw cdaw ccw A outerw sw H E).env.cells.lookup xw = some cw → xw = ("__class__" : Str) ∧ cw = ccw := fun {xw cw} hw => by
    have hw : ([(("__class__" : Str), ccw)] : List (Str × Addr)).lookup xw = some cw := hw
    rw [List.lookup_cons] at hw
    cases ew : xw == ("__class__" : Str) with
    | true => rw [ew] at hw; exact ⟨beq_iff_eq.mp ew, (Option.some.inj hw).symm⟩
    | false => rw [ew] at hw; cases hw
  refine ⟨⟨e0w.mod, S.kind, rfl, rfl, Nat.le_refl _, fun yw zw cw h1w h2w => ?_, fun yw hyw => ?_, fun yw cw zw hw => ?_, fun _ => hdw, Around.frames_deeper e0w.frames, .inr ⟨rfl, rfl⟩, fun bw zw => absurd zw (noAw bw), e0w.bs, e0w.bsz, fun bw _ _ => noAw bw, fun bw zw => absurd zw (noAw bw), e0w.funs, e0w.frf⟩,
    rfl, e0w.bare, Un.kept hkw, ⟨_, nsw, fun iw yw vw h1w h2w h3w => ?_⟩, fun yw cw hw => ?_, e0w.hok.fresh (Nat.le_refl _), fun yw cw hw => ?_, fun pw heap => absurd (show pw ∈ ([] : List (Addr × Obj)) from heap) (by simp), e0w.hok.kept hkw, ?_⟩
  · rw [(cell1w h1w).1, (cell1w h2w).1]
  · have hyw : scope.names.lookup yw = some .cell ∨ scope.names.lookup yw = some .free := hyw
    rcases hyw with hyw | hyw
    · exact absurd rfl (S.nocell _ (PySem.mem_of_lookup hyw))
    · rw [show yw = ("__class__" : Str) from S.free _ (PySem.mem_of_lookup hyw) rfl]
      exact ⟨ccw, show ([(("__class__" : Str), ccw)] : List (Str × Addr)).lookup ("__class__" : Str) = some ccw by rw [List.lookup_cons, beq_self_eq_true]⟩
  · cases zw
  · have hiw : iw < vsw.length := by
      unfold L2.start at h2w
      by_cases hiw : iw < vsw.length
      · exact hiw
      · rw [List.getElem?_append_right (by simpa using hiw)] at h2w
        rw [List.getElem?_replicate] at h2w
        split at h2w <;> cases h2w
    have unfound : vsw[iw]? = some vw := by
      unfold L2.start at h2w
      rw [List.getElem?_append_left (by simpa using hiw), List.getElem?_map] at h2w
      cases ew : vsw[iw]? with
      | none => rw [ew] at h2w; cases h2w
      | some a => rw [ew] at h2w; cases h2w; rfl
    obtain ⟨uw, huw, rvw⟩ := rw.get unfound
    have heap : psw[iw]? = some yw := by
      rw [← S.pre, List.getElem?_take_of_lt (by omega)]; exact h1w
    have ndPw : psw.Nodup := by rw [← S.pre]; exact S.nd.sublist (List.take_sublist _ _)
    have lvw := Paired.length rw
    refine ⟨uw, rvw, .inl ⟨S.par yw (List.mem_of_getElem? heap), ?_⟩⟩
    refine lookup_nd ?_ (List.mem_reverse.mpr (List.mem_of_getElem? (i := iw) ?_))
    · rw [List.map_reverse, List.map_fst_zip (by omega)]
      exact (List.reverse_perm psw).nodup_iff.mpr ndPw
    · exact (List.getElem?_zip_eq_some (z := (yw, uw))).mpr ⟨heap, huw⟩
  · rw [(cell1w hw).2]
    exact ⟨_, _, hkw _ _ hcsw.1, rfl⟩
  · rw [(cell1w hw).2]
    exact hcsw.2
  · unfold L2.start
    show _ = N.length
    rw [List.length_append, List.length_replicate, List.length_map]
    omega
/-- a def whose first row is super().__init__(..) -/
theorem fn_sup {CX : CXT} {P : Program} {ww : World} {K : PySem.W.Frag} {mg : Str → Option Value} {base : Heap} {kw : Nat} {fw cdaw ccw C : Addr} {name qual : Str} {params : Arguments} {body : List Stmt} {scope : Scope} {kVw docw pmw ctw ocw : Value} {anw odw : Option Addr} {oslw : Array (Option Value)} {N psw : List Str} {sp : Sp} {clw : Value} {cldw : Option Addr} {cslw : Array (Option Value)}
    (lkw : K.lookup fw = some ⟨ocw, odw, .func (PySem.W.ksFn name qual params body scope .none kVw docw pmw anw (.ref cdaw) ctw ccw), oslw⟩) (isClass : PySem.W.codeIn K (.ref cdaw) qual = true) (hccw : K.lookup ccw = some ⟨clw, cldw, .cell (some (.ref C)), cslw⟩) (S : ScopeS N psw scope)
    (many : ∀ vsw H Q E, sp vsw H Q E → vsw.length = psw.length)
    (run : ∀ (A : Around) (outerw : List Env) (sw : Shared) (H : Hp) (vsw : List V) (Q : VK) (E : XK), Room kw (A.deeper (PySem.W.ksEnv qual scope sw.heap.objs.size fw (.ref cdaw) ccw)) → sp vsw H Q E →
      ∀ s1, Inv (cxS CX P ww K mg base N qual scope fw cdaw ccw A outerw sw H E) [] (L2.start N vsw) H s1 →
        PySem.wpAt (model P ww) (A.deeper (PySem.W.ksEnv qual scope sw.heap.objs.size fw (.ref cdaw) ccw)) (.func body (PySem.W.ksEnv qual scope sw.heap.objs.size fw (.ref cdaw) ccw)) (execs body (PySem.W.ksEnv qual scope sw.heap.objs.size fw (.ref cdaw) ccw))
          (SP (cxS CX P ww K mg base N qual scope fw cdaw ccw A outerw sw H E) [] { nx := fun _ H' => Q .non H', rt := Q }) (cxS CX P ww K mg base N qual scope fw cdaw ccw A outerw sw H E).xe s1) :
    FnOk P ww K mg base CX (kw + 1) fw (PySem.W.ksFn name qual params body scope .none kVw docw pmw anw (.ref cdaw) ctw ccw) psw sp := by
  refine ⟨many, fun A outerw sw H argsw usw vsw Q E hrw e0w hbw rw hspw => ?_⟩
  have hlw := many _ _ _ _ hspw
  have KX : K.In sw.heap := e0w.mod.kin.keeps fun bw ow ew => (e0w.bs bw ow ew).1
  have limw : sw.heap.NoLimit := e0w.mod.nolimit.keeps fun bw ow ew => (e0w.bs bw ow ew).1
  refine ks_codeAny_call_defAt (fd := PySem.W.ksFn name qual params body scope .none kVw docw pmw anw (.ref cdaw) ctw ccw) (body := body) (binds := psw.zip usw) hrw.depth (KX _ _ lkw) rfl limw (PySem.W.codeRec_of KX isClass) rfl hbw S.nocell (fun ⟨nw, vw⟩ hyw => S.par nw (List.of_mem_zip hyw).1) (fun h1w nsw hkw => ?_) S.co S.gen S.kind
  have I := inv_startS (CX := CX) (P := P) (ww := ww) (mg := mg) (qual := qual) (fw := fw) (cdaw := cdaw) (E := E) (tkw := sw.toks + (psw.zip usw).length) S hrw.hd e0w hlw rw hccw nsw hkw
  refine ks_wpAt_mono (run A outerw sw H vsw Q E (hrw.deeper _) hspw _ I) (fun flw s'w hsw => ?_) fun ew s'w hsw => hsw
  have finw : ∀ {σ' : L2.St} {H' : Hp} {vw : V} {uw : Value}, Inv (cxS CX P ww K mg base N qual scope fw cdaw ccw A outerw sw H E) [] σ' H' s'w → L2.RelV vw uw → Q vw H' → CE outerw P ww H sw Q uw s'w :=
    fun {σ' H' vw uw} J rvw qw => ⟨vw, H', J.os, J.bare, J.base, J.hok, rvw, qw⟩
  cases flw with
  | ret uw =>
    obtain ⟨vw, σ', H', J, rvw, qw⟩ := hsw
    exact finw J rvw qw
  | next =>
    obtain ⟨σ', H', J, qw⟩ := hsw
    exact finw (vw := V.non) (uw := Value.none) J rfl qw
  | brk =>
    obtain ⟨_, _, _, qw⟩ := hsw
    exact False.elim qw
  | cont =>
    obtain ⟨_, _, _, qw⟩ := hsw
    exact False.elim qw
/-- a def of a class that has super() in it, as it stands behind the top -/
structure FunS (P : Program) (K : PySem.W.Frag) (x qual : Str) (st : Stmt) (f C : Addr) (fd : FuncData) : Prop where
  ex : ∃ (cda cc : Addr) (oc : Value) (od : Option Addr) (kV doc pm : Value) (an : Option Addr) (ct : Value) (osl : Array (Option Value)) (cl : Value) (cld : Option Addr) (csl : Array (Option Value)) (ccl : Value) (cdd : Option Addr) (ws : Array Value) (ccs : Array (Option Value)) (file : Str) (tf : Tok),
    fd = PySem.W.ksFn x qual (defArgs st) (defBody st) (defScope st) .none kV doc pm an (.ref cda) ct cc ∧ K.lookup f = some ⟨oc, od, .func fd, osl⟩ ∧ PySem.W.codeIn K (.ref cda) qual = true ∧ K.lookup cc = some ⟨cl, cld, .cell (some (.ref C)), csl⟩ ∧
    K.lookup cda = some ⟨ccl, cdd, .fields ws, ccs⟩ ∧ ws[2]? = some (.str file tf) ∧ ((P.main.file : Str) == file) = true
/-- what of the class super() wants -/
structure SupC (P : Program) (K : PySem.W.Frag) (mg : Str → Option Value) (C : Addr) (i B : String) : Prop where
  kf : PySem.W.KxsFacts B i
  sup : PySem.W.ks_superIn K C C "__init__" = some (some (.builtin i))
  isB : PySem.W.subIn K (.ref C) (.type B) = some true
  self : PySem.W.mroIn K C (.ref C) = some true
  any : PySem.W.nsIn K cStatics "thirdparty.any" = some none
  mg : mg "super" = none
  top : (P.main.scope.names.lookup ("super" : Str)).isSome = false
theorem fn_supr {CX : CXT} {P : Program} {w : World} {K : PySem.W.Frag} {mg : Str → Option Value} {base : Heap} {k : Nat} {f C : Addr} {x qual : Str} {st : Stmt} {fd : FuncData} {N ps : List Str} {sp : Sp} {B newId i : String} {bmB : List Value} {ar : Arg} {p0 p1 apos pos spos : Pos} {arg : Expr} {es : List Expr} {rest : List Stmt}
    (F : FunS P K x qual st f C fd) (FB : ExcBaseFacts B newId i bmB) (T : OexB K C newId bmB) (U : SupC P K mg C i B) (S : ScopeS N ps (defScope st))
    (hb : defBody st = .Expr (.Call (.Attribute (.Call (.Name "super" p0) [] [] p1) "__init__" apos) (arg :: es) [] pos) spos :: rest)
    (hp : ((defArgs st).posonlyargs ++ (defArgs st).args).head? = some ar) (hks : (defScope st).names.lookup ("super" : Str) = some .globalImplicit) (hkc : (defScope st).names.lookup ("__class__" : Str) = some .free) (hka : (defScope st).names.lookup ar.arg = some .local) (h0 : N[0]? = some ar.arg)
    (many : ∀ vs H Q E, sp vs H Q E → vs.length = ps.length)
    (run : ∀ (cda cc : Addr) (A : Around) (outer : List Env) (s : Shared) (H : Hp) (vs : List V) (Q : VK) (E : XK), Room k (A.deeper (PySem.W.ksEnv qual (defScope st) s.heap.objs.size f (.ref cda) cc)) → sp vs H Q E →
      ∃ (a : Addr) (ta : TA) (tr : TS), (L2.start N vs)[0]? = some (some (.ref a)) ∧ H a = some (exo a C none) ∧ PA (cxS CX P w K mg base N qual (defScope st) f cda cc A outer s H E) (arg :: es) ta ∧ PSs (cxS CX P w K mg base N qual (defScope st) f cda cc A outer s H E) rest tr ∧
        ta (L2.start N vs) H fun ws H1 => ws.length ≤ 1000 ∧ H1 a = some (exo a C none) ∧ tr { nx := fun _ H' => Q .non H', rt := Q } (L2.start N vs) H1)
    (hc : ∀ env, ∃ pl : Sem Bool, eval (.Call (.Attribute (.Call (.Name "super" p0) [] [] p1) "__init__" apos) (arg :: es) [] pos) env = (do
      let ov ← attributeBase (.Call (.Name "super" p0) [] [] p1) "__init__" env (eval (.Call (.Name "super" p0) [] [] p1) env)
      standAt apos.atName
      let (m, first) ← holding [ov] (getMethod ov "__init__" pl)
      callWith pos m first (backTo pos (starEach (arg :: es) env)) []) := by intro _; exact ⟨_, rfl⟩)
    (he : ∀ env, starEach (arg :: es) env = (false, eval arg env) :: starEach es env := by intro _; rfl) (hpl : ∀ env, (backTo pos (starEach es env)).any (·.1) = false := by intro _; rfl) :
    FnOk P w K mg base CX (k + 1) f fd ps sp := by
  obtain ⟨cda, cc, oc, od, kV, doc, pm, an, ct, osl, cl, cld, csl, ccl, cdd, ws, ccs, file, tf, rfl, lk, hcd, hcc, hcode, hws, hfile⟩ := F.ex
  refine fn_sup lk hcd hcc S many fun A outer s H vs Q E hr hsp s1 I => ?_
  obtain ⟨a, ta, tr, hσ, e, ha, hrest, hq⟩ := run cda cc A outer s H vs Q E hr hsp
  rw [hb]
  obtain ⟨pl, hc⟩ := hc (cxS CX P w K mg base N qual (defScope st) f cda cc A outer s H E).env
  refine ks_wpAt_execs_cons (ks_wpAt_mono (sup_row (X := cxS CX P w K mg base N qual (defScope st) f cda cc A outer s H E) (arw := ar) (Qn := fun H1 => tr { nx := fun _ H' => Q .non H', rt := Q } (L2.start N vs) H1) FB
    { kf := U.kf, sup := U.sup, isB := U.isB, self := U.self, any := U.any, mg := U.mg, fn := ⟨f, oc, od, osl, rfl, lk⟩, first := hp, code := ⟨cda, ccl, cdd, ws, ccs, file, tf, rfl, hcode, hws, hfile⟩, top := U.top, cell := ⟨cc, cl, cld, csl, rfl, hcc⟩, ks := hks, kc := hkc, ka := hka, at0 := h0, vis := .inl hka }
    T I hσ e ha hq hc (he _) (hpl _) rfl) (fun fl s' hs => ?_) fun _ _ z => z)
  obtain ⟨rfl, H', J, q⟩ := hs
  exact PySem.wpAt_of_wpAny (hrest.run [] s' _ H' _ J q)
section
variable {X : Cx} {e : Expr} {es : List Expr} {ta : TA} {p pos : Pos}
theorem pmk_oexB {CX : CXT} {xw : Str} {C fIw : Addr} {kw : Nat} {fdw : FuncData} {psw : List Str} {sp : Sp} {dsw : List Value} {dvsw : List V} {B newIdw initIdw : String} {bmBw : List Value} (FB : ExcBaseFacts B newIdw initIdw bmBw) (T : OexB X.K C newIdw bmBw) (iCw : PySem.W.findIn X.K (.ref C) "__init__" = some (some (.ref fIw))) (tIw : PySem.W.typeIn X.K (.ref fIw) = some (.type "function"))
    (F1 : FnOk X.prog X.w X.K X.mg X.base CX kw fIw fdw psw sp) (hrw : Room (kw + 1) X.A) (hbw : Binds X.K fdw psw dsw) (hdw : Vals dvsw dsw) (stands : Passes CX X (fun _ _ _ => False)) (hgw : Gl X xw) (over : X.mg xw = some (.ref C)) (unfound : PA X (ew :: es) ta)
    (hdbw : (xw == ("__debug__" : Str)) = false := by decide) (hew : starEach (ew :: es) X.env = (false, eval ew X.env) :: starEach es X.env := by rfl) (hplw : (backTo pos (starEach es X.env)).any (·.1) = false := by rfl) :
    PMk X (.Call (.Name xw p) (ew :: es) [] pos) (tMkO C sp dvsw ta) := by
  intro pins s σ H Q I h
  obtain ⟨nmw, qw, N, bsw, bmw, snw, subw, abw, colw, ddw, k0w, k1w, k2w, k3w, k5w, hCw, hbmw⟩ := T.cls
  refine wpAny_Call_Name_kw (ld_glob I hgw over ?_ hdbw)
  refine PySem.W.callWith_K (h₀ := X.base) I.ok.mod.kin T.kept (thn (unfound.run pos pins s σ H _ I h) fun usw s1w ⟨vsw, H1, I1, r1w, hzw, q1w⟩ => ⟨I1.kIn, ?_⟩) hew hplw
  show wpAny _ _ (call (.ref C) usw) _ _ _
  obtain ⟨heap, gw, drw, tkw, osw⟩ := s1w
  have hszw : heap.objs.size ≤ heap.objs.size + 1 := Nat.le_succ _
  have hnw : H1 (heap.objs.size + 1) = none := I1.hok.fresh hszw
  have go := q1w (heap.objs.size + 1) hnw
  have kkw : ∀ bw ow, heap.get? bw = some ow → ((heap.push (PySem.W.kdv_tup usw)).push (PySem.HandSPX.excO C heap.objs.size)).get? bw = some ow := fun bw ow ew => Heap.get?_push_of_some _ (Heap.get?_push_of_some _ ew)
  have hgetw : ((heap.push (PySem.W.kdv_tup usw)).push (PySem.HandSPX.excO C heap.objs.size)).get? (heap.objs.size + 1) = some (PySem.HandSPX.excO C heap.objs.size) := by heap_get
  have I2 : Inv X pins σ (upd H1 (heap.objs.size + 1) (exo (heap.objs.size + 1) C none)) ⟨(heap.push (PySem.W.kdv_tup usw)).push (PySem.HandSPX.excO C heap.objs.size), gw, drw, tkw, osw⟩ :=
    I1.laid (t' := tkw) (a := heap.objs.size + 1) (o := exo (heap.objs.size + 1) C none) (h' := (heap.push (PySem.W.kdv_tup usw)).push (PySem.HandSPX.excO C heap.objs.size)) kkw hszw (exo_ok hgetw)
  have r2w : Vals (V.ref (heap.objs.size + 1) :: (vsw ++ dvsw)) (Value.ref (heap.objs.size + 1) :: (usw ++ dsw)) := .cons rfl (r1w.append hdw)
  have hlw : (Value.ref (heap.objs.size + 1) :: usw ++ dsw).length = psw.length := by
    have ew := r2w.length
    rw [F1.len _ _ _ _ go] at ew
    exact ew.symm
  have husw : usw.length ≤ sizeLine := by
    rw [← Paired.length r1w, sizeLine_eq]
    omega
  refine wpAny_call (PySem.HandSPX.call_own FB (fun Y => PySem.W.excTail_contains Y bmw hbmw) (I1.kIn _ _ hCw) (PySem.W.looks_findIn I1.kIn iCw) (fun selfw => PySem.W.bind_fn I1.kIn selfw tIw) husw
    (codeAny_mono (F1.run _ X.stack _ _ ⟨Value.ref (heap.objs.size + 1) :: usw, []⟩ (Value.ref (heap.objs.size + 1) :: (usw ++ dsw)) _ _ (fun _ _ _ => False) (hrw.make C usw []) (I2.env0.make C usw []) (hbw _ (Value.ref (heap.objs.size + 1) :: usw) I2.kIn hlw) r2w go) fun rw s'w hq'w => ?_))
  cases rw with
  | error er => exact stands pins σ _ _ er s'w I2 hq'w
  | ok fl =>
    cases fl with
    | ret u =>
      obtain ⟨vw, H2, os2w, bare2w, un2w, hok2w, rvw, evw, dw, fsw, eaw, edw, hd1w, q2w⟩ := hq'w
      subst evw
      obtain ⟨h2w, g2w, d2w, t2w, os'w⟩ := s'w
      exact ⟨rvw, mk_end (raises_own T.excs T.kind) I1 hszw kkw un2w hok2w os2w bare2w eaw edw hd1w q2w⟩
    | next => exact False.elim hq'w
    | brk => exact False.elim hq'w
    | cont => exact False.elim hq'w
end
end RSup

/-! An exception that stays in a variable behind its except suite. -/
namespace Pot
open PySem PySem.Spec PyProof.Rows L2
/-- an exception of the class cls that was caught and is kept, at a -/
def CauO (cls : Value) (d : Option Addr) (a : Addr) : HO := .ext fun h => ∃ (oe : Obj) (vs : Array Value), h.get? a = some oe ∧ Zc cls d oe ∧ oe.data = .fields vs
section
variable {X : Cx} {pins : List (Addr × Obj)} {σ : L2.St} {H : Hp} {s : Shared}
/-- an object that is in hand, and that wasn't there at the entry, is tracked from now on -/
theorem keepIt {a : Addr} {oe : Obj} {vs : Array Value} {cls : Value} {d : Option Addr} (I : Inv X pins σ H s) (e : s.heap.get? a = some oe) (hz : Zc cls d oe) (hd : oe.data = .fields vs) (na : H a = none)
    (nL : a ≠ X.env.locals) (n0 : X.s_0.heap.get? a = none) (np : ∀ p ∈ X.pn ++ pins, p.1 ≠ a) : Inv X pins σ (upd H a (CauO cls d a)) s := by
  have ne0 : ∀ b o, X.s_0.heap.get? b = some o → b ≠ a := fun b o q z => by rw [z, n0] at q; cases q
  have neS : ∀ b o, H b = some o → b ≠ a := fun b o q z => by rw [z, na] at q; cases q
  refine ⟨I.ok, I.os, I.bare, ⟨I.base.keep, I.base.slot, fun b o q n hb => ?_, I.base.there, fun b xs q => ?_, fun b o u q => ?_, fun b ps q => ?_⟩, I.loc, I.cell, ?_, fun x c q => ?_, fun p hp => ?_, fun b u q => ?_, I.len⟩
  · rw [upd_ne (ne0 b o q)]; exact I.base.free b o q n hb
  · have z := I.base.tups b xs q
    rw [upd_ne (neS b _ z)]; exact z
  · have z := I.base.frzs b o u q
    rw [upd_ne (neS b _ z)]; exact z
  · obtain ⟨m, z⟩ := I.base.tbls b ps q
    exact ⟨m, by rw [upd_ne (neS b _ z)]; exact z⟩
  · rw [upd_ne (Ne.symm nL)]; exact I.free
  · have nc : c ≠ a := fun z => by
      obtain ⟨v, o, ho, hc⟩ := I.cell x c q
      rw [z, e] at ho
      cases ho
      rw [hd] at hc
      cases hc
    rw [upd_ne nc]; exact I.freeC x c q
  · obtain ⟨p1, p2, p3⟩ := I.pin p hp
    exact ⟨p1, by rw [upd_ne (np p hp)]; exact p2, p3⟩
  · by_cases hb : b = a
    · subst hb
      rw [upd_same] at q
      cases q
      exact ⟨⟨oe, vs, e, hz, hd⟩, ⟨oe, e⟩, fun _ _ ⟨o, v, z, r⟩ k => ⟨o, v, k o z, r⟩⟩
    · rw [upd_ne hb] at q
      exact (I.hok b u q).stay (fun c v _ z => z) (fun c z => by rw [upd_ne (neS c _ z)]; exact z) fun c xs z => by rw [upd_ne (neS c _ z)]; exact z
end
/-- what 'except x as n: m = n' wishes of an exception of the body: slot i is n's, and what it's bound to is kept -/
def wKeep (K : PySem.W.Frag) (c : Value) (i : Nat) (ts : Addr → TS) (D : Ends) : WX := fun cls d σ H =>
  PySem.W.exmOne K cls c = some true ∧ ∀ a, H a = none → ts a { nx := fun σ' H' => D.nx (σ'.set i none) (upd H' a (CauO cls d a)), rt := fun _ _ => False, bk := fun _ _ => False, ct := fun _ _ => False } (σ.set i (some (.ref a))) H
section
variable {X : Cx} {x n : Str} {c : Value} {i : Nat} {body suite : List Stmt} {b₀ : Stmt} {np pos pos' : Pos} {tb : WX → TS} {ts : Addr → TS}
theorem ps_try_keep (hx : X.ex = []) (hs : X.stack = X.env :: X.outer) (hf : X.env.frame = some X.env.locals) (hN : X.N.Nodup) (hi : X.N[i]? = some n) (hln : X.env.kindOf n = some .local) (hc : Names X x c)
    (hb : ∀ (W : WX) (pn : List (Addr × Obj)) (xe : Value → Shared → Prop), Takes (X.tr pn xe) W → PassesOwn (model X.prog X.w) X.A X.env xe → PSs (X.tr pn xe) body (tb W))
    (hsu : ∀ (a : Addr) (pn : List (Addr × Obj)), PSs (X.suite a pn) (b₀ :: suite) (ts a)) :
    PS X (.Try body [.ExceptHandler (some (.Name x np)) (some n) (b₀ :: suite) pos'] [] [] pos) (fun D σ H => tb (wKeep X.K c i ts D) D σ H) := by
  refine ⟨fun pins s σ H D I h => ?_⟩
  have ok := I.ok
  have hfr : X.A.frames = some (X.env :: X.outer) := by rw [ok.frames, hs]
  refine wpAny_Try_except (wpAny_mono ((hb (wKeep X.K c i ts D) (X.pn ++ pins) _ (fun u s' xx => ?_) PassesOwn.looking).run [] s σ H D (I.toTry _) h) (fun f s1 hsp => ?_) (fun e s1 he => he))
  · obtain ⟨a, B, sI, pins', σ', H', cls, d, rfl, J', nb, up, sky, na, os, ag, hb1, hyes⟩ := xx
    have J : Inv X pins σ' H' sI := J'.ofTry ok
    rw [show X.stack = X.env :: X.outer from hs] at sky
    refine Sky.land Zc.steady hfr hf sky fun h3 fl3 up3 => ?_
    have J3 : Inv X pins σ' H' { s' with heap := h3 } := J.landed nb fl3.1 (up.trans up3) os ag
    obtain ⟨oe3, vs3, he3, hz3, hd3⟩ := fl3.there
    have nfr : a ∉ frs (X.env :: X.outer) := fun hm => by
      obtain ⟨_, o', e', hnf⟩ := fl3.2.2.1.mem hm
      rw [he3] at e'; cases e'
      exact hnf _ hd3
    have nL : a ≠ X.env.locals := fun z => nfr (List.mem_filterMap.mpr ⟨X.env, List.mem_cons_self, by rw [hf, z]⟩)
    have nF : a ∉ X.fs := fun hm => by
      obtain ⟨e, he, q⟩ := List.mem_filterMap.mp hm
      exact nfr (List.mem_filterMap.mpr ⟨e, List.mem_cons_of_mem _ he, q⟩)
    have nI : sI.heap.get? a = none := by
      cases q : sI.heap.get? a with
      | none => rfl
      | some o =>
        have z := nb a o q (by rw [hs]; exact nfr)
        rw [fl3.2.1] at z; cases z
    have n0 : X.s_0.heap.get? a = none := by
      cases q : X.s_0.heap.get? a with
      | none => rfl
      | some o =>
        obtain ⟨o', z⟩ := J.base.there a o q (by rw [hx]; exact fun z => nomatch z)
        rw [nI] at z; cases z
    have npin : ∀ p ∈ X.pn ++ pins, p.1 ≠ a := fun p hp z => by
      have q := (J.pin p hp).1
      rw [z, nI] at q; cases q
    have S3 := J3.suite he3 hd3 na nL nF
    refine wpAny_handleBy_cons (codeAny_handlers_test ?_) (by intro q; cases q)
    have LM := PySem.W.exm_one (M := model X.prog X.w) (J3.kIn) (fun A Q E s k q => wpAny_typeOf_ref (k _ _ he3) (by rw [hz3.1]; exact q)) hb1
    have test : ∀ {Q : Value → Shared → Prop} {E : Value → Shared → Prop}, Q c { s' with heap := h3 } → wpAny (model X.prog X.w) (X.A.mark (some (.ref a))) (eval (.Name x np) X.env) Q E { s' with heap := h3 } := fun {Q E} q => by
      obtain ⟨hg, hdbg, hm | ⟨hm, hv, hnn⟩⟩ := hc
      · exact ld_glob (X := X.suite a ((a, oe3) :: (X.pn ++ pins))) S3 hg hm q hdbg
      · exact ld_blt (X := X.suite a ((a, oe3) :: (X.pn ++ pins))) S3 hg hm hv q hnn hdbg
    refine test (LM.here (codeAny_handlers_suite_as (HandSPX.lands_againZ fl3 fun h4 fl4 up4 => ?_)))
    have J4 : Inv X pins σ' H' { s' with heap := h4 } := J.landed nb fl4.1 ((up.trans up3).trans up4) os ag
    obtain ⟨oe4, vs4, he4, hz4, hd4⟩ := fl4.there
    refine store_ok (X := X.suite a ((a, oe4) :: (X.pn ++ pins))) (v := .ref a) (J4.suite he4 hd4 na nL nF) hN hi (.inl hln) rfl (fun s5 S5 => ?_) (.inr hln)
    refine wpAny_mono ((hsu a ((a, oe4) :: (X.pn ++ pins))).run [] s5 _ H' _ S5 (hyes a na)) (fun f s6 hsp => ?_) (fun _ _ z => False.elim z)
    cases f with
    | next =>
      obtain ⟨σ6, H6, S6, q6⟩ := hsp
      obtain ⟨g1, g2, _⟩ := S6.pin (a, oe4) (List.mem_append.mpr (.inl List.mem_cons_self))
      exact gone_ok (keepIt (S6.unsuite ok) g1 hz4 hd4 g2 nL n0 npin) hN hi hln fun s7 J7 => ⟨_, _, J7, q6⟩
    | brk => obtain ⟨_, _, _, z⟩ := hsp; exact z.elim
    | cont => obtain ⟨_, _, _, z⟩ := hsp; exact z.elim
    | ret u => obtain ⟨_, _, _, _, _, z⟩ := hsp; exact z.elim
  · cases f with
    | next =>
      obtain ⟨σ', H', J', q⟩ := hsp
      exact wpAny_execs_nil ⟨σ', H', J'.ofTry ok, q⟩
    | brk =>
      obtain ⟨σ', H', J', q⟩ := hsp
      exact ⟨σ', H', J'.ofTry ok, q⟩
    | cont =>
      obtain ⟨σ', H', J', q⟩ := hsp
      exact ⟨σ', H', J'.ofTry ok, q⟩
    | ret u =>
      obtain ⟨v, σ', H', J', r, q⟩ := hsp
      exact ⟨v, σ', H', J'.ofTry ok, r, q⟩
end
/-- isinstance(e, c), isinstance(e, (c1, ..)) of a kept exception without a dict -/
def rIsK (K : PySem.W.Frag) : List V → Hp → VK → Prop := fun xs H Q => ∃ (a D : Addr) (c : V) (u : Value) (b : Bool), xs = [.ref a, c] ∧ H a = some (CauO (.ref D) none a) ∧ ExcC K D ∧ ClsV c u ∧ PySem.W.kitOne K (.ref D) u = some b ∧ Q (.bl b) H
def rIsKT (K : PySem.W.Frag) : List V → Hp → VK → Prop := fun xs H Q => ∃ (a D tp : Addr) (cs : List V) (us : List Value) (b : Bool), xs = [.ref a, .ref tp] ∧ H a = some (CauO (.ref D) none a) ∧ ExcC K D ∧ H tp = some (.tup cs) ∧ Paired ClsV cs us ∧ PySem.W.kitAny K (.ref D) us = some b ∧ Q (.bl b) H
theorem cau_inst {X : Cx} {pins : List (Addr × Obj)} {σ : L2.St} {H : Hp} {s : Shared} {a D : Addr} (I : Inv X pins σ H s) (h : H a = some (CauO (.ref D) none a)) : ∃ oe, PySem.W.InstAt s.heap a oe D none := by
  obtain ⟨⟨oe, vs, hget, hz, hv⟩, _, _⟩ := (show ObjOk X.prog X.w H s.heap a (CauO (.ref D) none a) from I.hok a _ h)
  obtain ⟨oc, od, oda, osl⟩ := oe
  obtain ⟨h1, h2⟩ := hz
  dsimp only at h1 h2 hv
  subst h1 h2 hv
  exact ⟨_, hget, rfl, rfl, trivial⟩
theorem kc_isK {X : Cx} {K : PySem.W.Frag} (hK : X.K = K := by rfl) : CallR X (.builtin "isinstance") (rIsK K) := by
  subst hK
  intro pins s σ H xs us Q I r h
  obtain ⟨a, D, c, u, b, rfl, hA, C, k, e, q⟩ := h
  obtain ⟨u1, u2, rfl, r1, r2⟩ := vals2 r
  have e2 := k.eq r2
  subst e2
  cases (show u1 = Value.ref a from r1)
  obtain ⟨oe, J⟩ := cau_inst I hA
  exact PySem.W.kia_one (PySem.W.handS_kitx_exc C.hg C.hk C.hs C.hd C.ha C.hn C.ht C.hm) I.kIn J e (fun z => nomatch z) fun tk => ⟨.bl b, H, I.tok tk, rfl, q⟩
theorem kc_isKT {X : Cx} {K : PySem.W.Frag} (hK : X.K = K := by rfl) : CallR X (.builtin "isinstance") (rIsKT K) := by
  subst hK
  intro pins s σ H xs us Q I r h
  obtain ⟨a, D, tp, cs, ws, b, rfl, hA, C, hT, k, e, q⟩ := h
  obtain ⟨u1, u2, rfl, r1, r2⟩ := vals2 r
  cases (show u2 = Value.ref tp from r2)
  cases (show u1 = Value.ref a from r1)
  obtain ⟨oe, J⟩ := cau_inst I hA
  obtain ⟨_, its, rv, o, h1, h2, n, h3⟩ := (show ObjOk X.prog X.w H s.heap tp (.tup cs) from I.hok tp _ hT)
  have e3 := ClsV.all k rv
  subst e3
  obtain ⟨oc, od, dt, sl⟩ := o
  simp only at h2 h3
  subst h2 h3
  exact PySem.W.kia_tup (PySem.W.handS_kitx_exc C.hg C.hk C.hs C.hd C.ha C.hn C.ht C.hm) I.kIn J h1 e (fun z => nomatch z) fun tk => ⟨.bl b, H, I.tok tk, rfl, q⟩
end Pot

/-! A kept exception that has a dict of its own: its class asked about, its fields read. -/
namespace Pot
open PySem PySem.Spec PyProof.Rows L2
section
variable {X : Cx} {pins : List (Addr × Obj)} {σ : L2.St} {H : Hp} {s : Shared} {a C dx : Addr} {fs : List (Str × V)}
theorem cauD_inst (I : Inv X pins σ H s) (h : H a = some (CauO (.ref C) (some dx) a)) (hd : H dx = some (.xd fs)) : ∃ oe od, PySem.W.InstAt s.heap a oe C (some od) ∧ s.heap.get? dx = some od := by
  obtain ⟨⟨oe, vs, hget, hz, hv⟩, _, _⟩ := (show ObjOk X.prog X.w H s.heap a (CauO (.ref C) (some dx) a) from I.hok a _ h)
  obtain ⟨mA, hns, hr⟩ := (show ObjOk X.prog X.w H s.heap dx (.xd fs) from I.hok dx _ hd)
  obtain ⟨od, ho, hl⟩ := lookIn_ns hns
  exact ⟨oe, od, ⟨hget, hz.1, by unfold PySem.W.notCls; rw [hv] <;> rfl, by rw [hz.2]; exact ho⟩, ho⟩
theorem exc_kit {K : PySem.W.Frag} {oe : Obj} {od : Option Obj} (E : ExcC K C) : PySem.W.KitX K (.ref a) (.ref C) (fun h => PySem.W.InstAt h a oe C od) := by
  obtain ⟨cd, hc, _⟩ := PySem.W.any_some E.hd
  exact PySem.W.kitx_exc (by rw [hc]; rfl) E.hg E.hk E.hs E.ha E.hn E.ht E.hm
end
/-- isinstance(e, c), isinstance(e, (c1, ..)) of a kept exception with a dict -/
def rIsD (K : PySem.W.Frag) : List V → Hp → VK → Prop := fun xs H Q => ∃ (a D dx : Addr) (fs : List (Str × V)) (c : V) (u : Value) (b : Bool), xs = [.ref a, c] ∧ H a = some (CauO (.ref D) (some dx) a) ∧ H dx = some (.xd fs) ∧ ExcC K D ∧ ClsV c u ∧ PySem.W.kitOne K (.ref D) u = some b ∧ Q (.bl b) H
def rIsDT (K : PySem.W.Frag) : List V → Hp → VK → Prop := fun xs H Q => ∃ (a D dx tp : Addr) (fs : List (Str × V)) (cs : List V) (us : List Value) (b : Bool), xs = [.ref a, .ref tp] ∧ H a = some (CauO (.ref D) (some dx) a) ∧ H dx = some (.xd fs) ∧ ExcC K D ∧ H tp = some (.tup cs) ∧ Paired ClsV cs us ∧ PySem.W.kitAny K (.ref D) us = some b ∧ Q (.bl b) H
theorem kc_isD {X : Cx} {K : PySem.W.Frag} (hK : X.K = K := by rfl) : CallR X (.builtin "isinstance") (rIsD K) := by
  subst hK
  intro pins s σ H xs us Q I r h
  obtain ⟨a, D, dx, fs, c, u, b, rfl, hA, hd, C, k, e, q⟩ := h
  obtain ⟨u1, u2, rfl, r1, r2⟩ := vals2 r
  have e2 := k.eq r2
  subst e2
  cases (show u1 = Value.ref a from r1)
  obtain ⟨oe, od, J, _⟩ := cauD_inst I hA hd
  exact PySem.W.kia_one (exc_kit C) I.kIn J e (fun z => nomatch z) fun tk => ⟨.bl b, H, I.tok tk, rfl, q⟩
theorem kc_isDT {X : Cx} {K : PySem.W.Frag} (hK : X.K = K := by rfl) : CallR X (.builtin "isinstance") (rIsDT K) := by
  subst hK
  intro pins s σ H xs us Q I r h
  obtain ⟨a, D, dx, tp, fs, cs, ws, b, rfl, hA, hd, C, hT, k, e, q⟩ := h
  obtain ⟨u1, u2, rfl, r1, r2⟩ := vals2 r
  cases (show u2 = Value.ref tp from r2)
  cases (show u1 = Value.ref a from r1)
  obtain ⟨oe, od, J, _⟩ := cauD_inst I hA hd
  obtain ⟨_, its, rv, o, h1, h2, n, h3⟩ := (show ObjOk X.prog X.w H s.heap tp (.tup cs) from I.hok tp _ hT)
  have e3 := ClsV.all k rv
  subst e3
  obtain ⟨oc, odd, dt, sl⟩ := o
  simp only at h2 h3
  subst h2 h3
  exact PySem.W.kia_tup (exc_kit C) I.kIn J h1 e (fun z => nomatch z) fun tk => ⟨.bl b, H, I.tok tk, rfl, q⟩
/-- e.f, e a kept exception of the class at C -/
def tKf (C : Addr) (f : Str) (te : TE) : TE := fun σ H Q => te σ H fun x H1 => ∃ (a dd : Addr) (fs : List (Str × V)) (v : V), x = .ref a ∧ H1 a = some (CauO (.ref C) (some dd) a) ∧ H1 dd = some (.xd fs) ∧ fs.lookup f = some v ∧ Q v H1
theorem pe_kf {X : Cx} {C : Addr} {e : Expr} {te : TE} {pos : Pos} {n : Str} (T : XfC X.K C) (hno : PySem.W.findIn X.K (.ref C) n = some none) (he : PE X e te) (hb : attributeBase e n X.env (eval e X.env) = eval e X.env := by rfl) :
    PE X (.Attribute e n pos) (tKf C n te) := by
  refine ⟨fun pins s σ H Q I h => attr_of hb (thn (he.run pins s σ H _ I h) fun u s1 hh => ?_)⟩
  obtain ⟨x, H1, I1, rx, a, dd, fs, v, ex, hA, hd, l, q⟩ := hh
  subst ex
  cases (show u = Value.ref a from rx)
  obtain ⟨⟨oe, vs, hget, hz, hv⟩, _, _⟩ := (show ObjOk X.prog X.w H1 s1.heap a (CauO (.ref C) (some dd) a) from I1.hok a _ hA)
  obtain ⟨mA, hns, hr⟩ := (show ObjOk X.prog X.w H1 s1.heap dd (.xd fs) from I1.hok dd _ hd)
  obtain ⟨od, ho, hl⟩ := lookIn_ns hns
  obtain ⟨w, hw, rw'⟩ := RelO.some_of (v := v) (o := mA n) (l ▸ hr n)
  have J : PySem.W.InstAt s1.heap a oe C (some od) := ⟨hget, hz.1, by unfold PySem.W.notCls; rw [hv] <;> rfl, by rw [hz.2]; exact ho⟩
  refine HandSPX.exc_get I1.kIn J T.ga T.gg T.exC (PySem.W.findObj_own T.hdC hno rfl ?_) (handed_of rw') ⟨v, H1, I1.tok _, rw', q⟩
  rw [hl, hw]
end Pot

namespace Pot
open PySem PySem.Spec PyProof.Rows L2
/-! ### a box of three numbers from which is drawn, and all that stands beside it -/
def Bx (H : Hp) (b : Addr) : Prop := ∃ x y z : Int, H b = some (.lst [.int x, .int y, .int z])
/-- the heap without some -/
def off (H : Hp) (S : List Addr) : Hp := fun x => if x ∈ S then none else H x
theorem off_in {H : Hp} {S : List Addr} {x : Addr} (h : x ∈ S) : off H S x = none := if_pos h
theorem off_out {H : Hp} {S : List Addr} {x : Addr} (h : x ∉ S) : off H S x = H x := if_neg h
theorem off_mem {H : Hp} {S : List Addr} {x : Addr} {o : HO} (h : off H S x = some o) : x ∉ S := fun e => by rw [off_in e] at h; cases h
theorem off_sub {H : Hp} {S : List Addr} : Same (off H S) H := fun x o h => by
  have n := off_mem h
  rw [off_out n] at h; exact h
theorem off_mono {H : Hp} {S T : List Addr} (h : ∀ x ∈ T, x ∈ S) : Same (off H S) (off H T) := fun x o e => by
  have n := off_mem e
  rw [off_out n] at e
  rw [off_out fun z => n (h x z)]; exact e
/-- what stands beside S stands -/
abbrev Sm (S : List Addr) (H H' : Hp) : Prop := Same (off H S) (off H' S)
theorem sm_mono {H H' : Hp} {S T : List Addr} (h : ∀ x ∈ T, x ∈ S) (s : Sm T H H') : Sm S H H' := fun x o e => by
  have n := off_mem e
  rw [off_out n] at e ⊢
  have n2 : x ∉ T := fun z => n (h x z)
  have := s x o (by rw [off_out n2]; exact e)
  rw [off_out n2] at this; exact this
theorem sm_one {H H' : Hp} {S : List Addr} {b : Addr} (h : b ∈ S) (s : Sm [b] H H') : Sm S H H' := sm_mono (fun x hx => by rw [List.mem_singleton.mp hx]; exact h) s
theorem sm_of {H H' : Hp} {S : List Addr} (s : Same H H') : Sm S H H' := fun x o h => by
  have n := off_mem h
  rw [off_out n] at h ⊢; exact s x o h
theorem sm_put {H : Hp} {S : List Addr} {p : Addr} {o : HO} (h : H p = none) : Sm S H (upd H p o) := sm_of (same_upd h)
theorem sm_wr {H : Hp} {S : List Addr} {p : Addr} {o : HO} (h : p ∈ S) : Sm S H (upd H p o) := fun x u e => by
  have n := off_mem e
  rw [off_out n] at e ⊢
  have ne : x ≠ p := fun z => n (by rw [z]; exact h)
  rw [upd_ne ne]; exact e
theorem at_off {H : Hp} {S : List Addr} {x : Addr} {o : HO} (h : off H S x = some o) : H x = some o := off_sub x o h
theorem Bx.bx {H : Hp} {b : Addr} (B : Bx H b) : Bx H b := B
theorem Bx.ne {H : Hp} {b p : Addr} (B : Bx H b) (h : H p = none) : p ≠ b := fun e => by
  obtain ⟨x, y, z, B⟩ := B
  rw [e, B] at h; cases h
theorem Bx.same {H H' : Hp} {b : Addr} (B : Bx H b) (s : Same H H') : Bx H' b := by
  obtain ⟨x, y, z, B⟩ := B
  exact ⟨x, y, z, s _ _ B⟩
theorem Bx.put {H : Hp} {b p : Addr} {o : HO} (B : Bx H b) (h : H p = none) : Bx (upd H p o) b := B.same (same_upd h)
theorem Bx.wr {H : Hp} {b p : Addr} {o : HO} (B : Bx H b) (h : p ≠ b) : Bx (upd H p o) b := by
  obtain ⟨x, y, z, B⟩ := B
  exact ⟨x, y, z, by rw [upd_ne h.symm]; exact B⟩
/-- all of S are there -/
def Live (S : List Addr) (H : Hp) : Prop := ∀ s ∈ S, H s ≠ none
theorem Live.same {S : List Addr} {H H' : Hp} (L : Live S H) (s : Same H H') : Live S H' := fun x hx e => by
  cases h : H x with
  | none => exact L x hx h
  | some o => rw [s x o h] at e; cases e
theorem Live.box {S : List Addr} {H H' : Hp} {b : Addr} (L : Live S H) (B : Bx H' b) (s : Sm [b] H H') : Live S H' := fun x hx e => by
  by_cases hb : x = b
  · obtain ⟨_, _, _, B⟩ := B
    rw [hb, B] at e; cases e
  · have n : x ∉ [b] := fun z => hb (List.mem_singleton.mp z)
    cases h : H x with
    | none => exact L x hx h
    | some o =>
      have := s x o (by rw [off_out n]; exact h)
      rw [off_out n, e] at this; cases this
theorem Live.put {S : List Addr} {H : Hp} {p : Addr} {o : HO} (L : Live S H) (h : H p = none) : Live S (upd H p o) := L.same (same_upd h)
theorem Live.wr {S : List Addr} {H : Hp} {p : Addr} {o : HO} (L : Live S H) : Live S (upd H p o) := fun x hx e => by
  by_cases hp : x = p
  · rw [hp, upd_same] at e; cases e
  · rw [upd_ne hp] at e; exact L x hx e
theorem Live.one {H : Hp} {b : Addr} (B : Bx H b) : Live [b] H := fun x hx e => by
  obtain ⟨_, _, _, B⟩ := B
  rw [List.mem_singleton.mp hx, B] at e; cases e
theorem Live.out {S : List Addr} {H : Hp} {p : Addr} (L : Live S H) (h : H p = none) : p ∉ S := fun z => L p z h
theorem Live.cons {S : List Addr} {H : Hp} {p : Addr} {o : HO} (L : Live S H) (h : H p = some o) : Live (p :: S) H := fun x hx e => by
  rcases List.mem_cons.mp hx with z | z
  · rw [z, h] at e; cases e
  · exact L x z e
theorem off_new {H : Hp} {S : List Addr} {p : Addr} {o : HO} (L : Live S H) (h : H p = none) : off (upd H p o) S p = some o := by
  rw [off_out (L.out h)]; exact upd_same
theorem off_upd {H : Hp} {S : List Addr} {p : Addr} {o : HO} (h : p ∉ S) : off (upd H p o) S p = some o := by
  rw [off_out h]; exact upd_same
section
variable {K : PySem.W.Frag}
theorem sq_off {H : Hp} {S : List Addr} {a : Addr} {xs : List V} (h : SqL K (off H S) a xs) : SqL K H a xs := off_sub.seq h
theorem sqt_off {H : Hp} {S : List Addr} {a : Addr} {xs : List V} (h : SqT K (off H S) a xs) : SqT K H a xs := same_tup off_sub h
theorem dp_off {H : Hp} {S : List Addr} {v : V} {d : PyData} (h : Dp K (off H S) v d) : Dp K H v d := dp_same off_sub h
/-- a new list is none of S, beside which the rest stands as it was -/
theorem off_fresh {H : Hp} {S : List Addr} {p : Addr} {o : HO} (h : H p = none) : off (upd H p o) (p :: S) = off H S := by
  funext x; unfold off
  by_cases e : x = p
  · subst e
    rw [if_pos List.mem_cons_self, h]
    split <;> rfl
  · have : (x ∈ p :: S) ↔ x ∈ S := by rw [List.mem_cons]; exact ⟨fun z => z.resolve_left e, .inr⟩
    by_cases m : x ∈ S
    · rw [if_pos m, if_pos (this.mpr m)]
    · rw [if_neg m, if_neg fun z => m (this.mp z), upd_ne e]
end
/-! ### what is made of numbers, texts, truths, None, lists and tuples -/
/-- numbers within m, texts of at most 2000 signs -/
def gdAll (m : Nat) : List PyData → Prop
  | [] => True
  | x :: xs => gd m x ∧ gdAll m xs
where gd (m : Nat) : PyData → Prop
  | .none => True
  | .bool _ => True
  | .int i => i.natAbs ≤ m
  | .str x => x.length ≤ 2000 ∧ ∀ c ∈ x.cps.toList, c < 1114112
  | .list xs => gdAll m xs
  | .tuple xs => gdAll m xs
  | .dict _ => False
abbrev gd (m : Nat) (d : PyData) : Prop := gdAll.gd m d
theorem gdAll_iff {m : Nat} : ∀ {ds : List PyData}, gdAll m ds ↔ ∀ d ∈ ds, gd m d
  | [] => ⟨fun _ _ h => (List.not_mem_nil h).elim, fun _ => trivial⟩
  | x :: xs => by
    constructor
    · intro h d hd
      rcases List.mem_cons.mp hd with e | e
      · rw [e]; exact h.1
      · exact gdAll_iff.mp h.2 d e
    · intro h
      exact ⟨h x List.mem_cons_self, gdAll_iff.mpr fun d hd => h d (List.mem_cons_of_mem _ hd)⟩
mutual
theorem gd_mono {m n : Nat} (h : m ≤ n) : ∀ d : PyData, gd m d → gd n d
  | .none, _ => trivial
  | .bool _, _ => trivial
  | .int i, g => Nat.le_trans g h
  | .str _, g => g
  | .list xs, g => gdAll_mono h xs g
  | .tuple xs, g => gdAll_mono h xs g
  | .dict _, g => g.elim
theorem gdAll_mono {m n : Nat} (h : m ≤ n) : ∀ ds : List PyData, gdAll m ds → gdAll n ds
  | [], _ => trivial
  | x :: xs, g => ⟨gd_mono h x g.1, gdAll_mono h xs g.2⟩
end
theorem log_small' {i : Int} (h : i.natAbs ≤ 2000000) : i.natAbs.log2 < 1920 := by
  by_cases z : i.natAbs = 0
  · rw [z]; decide
  · have := (Nat.log2_lt z).mpr (show i.natAbs < 2 ^ 21 from Nat.lt_of_le_of_lt h (by decide))
    omega
mutual
theorem gd_fine {m : Nat} (h : m ≤ 2000000) : ∀ d : PyData, gd m d → fineAll.fine d
  | .none, _ => trivial
  | .bool _, _ => trivial
  | .int i, g => log_small' (Nat.le_trans g h)
  | .str _, g => fun c hc => Nat.lt_trans (g.2 c hc) (by decide)
  | .list xs, g => gdAll_fine h xs g
  | .tuple xs, g => gdAll_fine h xs g
  | .dict _, g => g.elim
theorem gdAll_fine {m : Nat} (h : m ≤ 2000000) : ∀ ds : List PyData, gdAll m ds → fineAll ds
  | [], _ => trivial
  | x :: xs, g => ⟨gd_fine h x g.1, gdAll_fine h xs g.2⟩
end
theorem costAll_app (xs ys : List PyData) : costAll (xs ++ ys) = costAll xs + costAll ys := by
  induction xs with
  | nil => simp [costAll]
  | cons x xs ih => simp only [List.cons_append, costAll, ih]; omega
theorem cost_mem {ds : List PyData} {d : PyData} (h : d ∈ ds) : costAll.cost d + 2 ≤ costAll ds := by
  induction ds with
  | nil => exact (List.not_mem_nil h).elim
  | cons x xs ih =>
    show _ ≤ costAll.cost x + 2 + costAll xs
    rcases List.mem_cons.mp h with e | e
    · rw [e]; omega
    · have := ih e; omega
theorem len_cost : ∀ ds : List PyData, 2 * ds.length ≤ costAll ds
  | [] => Nat.le_refl _
  | x :: xs => by
    have := len_cost xs
    show 2 * (xs.length + 1) ≤ costAll.cost x + 2 + costAll xs
    omega
theorem depthAll_iff {D : Nat} : ∀ {ds : List PyData}, PyData.depthAll ds ≤ D ↔ ∀ d ∈ ds, d.depth ≤ D
  | [] => ⟨fun _ _ h => (List.not_mem_nil h).elim, fun _ => Nat.zero_le _⟩
  | x :: xs => by
    show max x.depth (PyData.depthAll xs) ≤ D ↔ _
    rw [Nat.max_le, depthAll_iff (ds := xs)]
    constructor
    · rintro ⟨h1, h2⟩ d hd
      rcases List.mem_cons.mp hd with e | e
      · rw [e]; exact h1
      · exact h2 d e
    · intro h
      exact ⟨h x List.mem_cons_self, fun d hd => h d (List.mem_cons_of_mem _ hd)⟩
/-- rows of parts: of numbers within m, their cost, how deep and how wide each -/
structure Ths (m C D W : Nat) (ds : List PyData) : Prop where
  g : ∀ d ∈ ds, gd m d
  c : costAll ds ≤ C
  d : ∀ d ∈ ds, d.depth ≤ D
  w : ∀ d ∈ ds, widAll.wid d ≤ W
/-- a thing: of numbers within m, its cost, how deep, how wide -/
structure Th (m C D W : Nat) (dd : PyData) : Prop where
  g : gd m dd
  c : costAll.cost dd ≤ C
  d : dd.depth ≤ D
  w : widAll.wid dd ≤ W
theorem widAll_iff {D : Nat} : ∀ {ds : List PyData}, widAll ds ≤ D ↔ ∀ d ∈ ds, widAll.wid d ≤ D
  | [] => ⟨fun _ _ h => (List.not_mem_nil h).elim, fun _ => Nat.zero_le _⟩
  | x :: xs => by
    show max (widAll.wid x) (widAll xs) ≤ D ↔ _
    rw [Nat.max_le, widAll_iff (ds := xs)]
    constructor
    · rintro ⟨h1, h2⟩ d hd
      rcases List.mem_cons.mp hd with e | e
      · rw [e]; exact h1
      · exact h2 d e
    · intro h
      exact ⟨h x List.mem_cons_self, fun d hd => h d (List.mem_cons_of_mem _ hd)⟩
section
variable {m n C E D F W U : Nat} {d x : PyData} {ds xs ys : List PyData}
theorem Th.mono (h : Th m C D W d) (a : m ≤ n) (b : C ≤ E) (c : D ≤ F) (e : W ≤ U) : Th n E F U d := ⟨gd_mono a d h.g, Nat.le_trans h.c b, Nat.le_trans h.d c, Nat.le_trans h.w e⟩
theorem Ths.mono (h : Ths m C D W ds) (a : m ≤ n) (b : C ≤ E) (c : D ≤ F) (e : W ≤ U) : Ths n E F U ds := ⟨fun x hx => gd_mono a x (h.g x hx), Nat.le_trans h.c b, fun x hx => Nat.le_trans (h.d x hx) c, fun x hx => Nat.le_trans (h.w x hx) e⟩
theorem Ths.app (h : Ths m C D W xs) (k : Ths m E D W ys) : Ths m (C + E) D W (xs ++ ys) :=
  ⟨fun d hd => (List.mem_append.mp hd).elim (h.g d) (k.g d), by rw [costAll_app]; exact Nat.add_le_add h.c k.c, fun d hd => (List.mem_append.mp hd).elim (h.d d) (k.d d), fun d hd => (List.mem_append.mp hd).elim (h.w d) (k.w d)⟩
theorem Ths.nil : Ths m 0 D W [] := ⟨fun _ h => (List.not_mem_nil h).elim, Nat.le_refl _, fun _ h => (List.not_mem_nil h).elim, fun _ h => (List.not_mem_nil h).elim⟩
theorem Ths.one (h : Th m C D W x) : Ths m (C + 2) D W [x] :=
  ⟨fun d hd => by rw [List.mem_singleton.mp hd]; exact h.g, by show costAll.cost x + 2 + 0 ≤ _; have := h.c; omega, fun d hd => by rw [List.mem_singleton.mp hd]; exact h.d, fun d hd => by rw [List.mem_singleton.mp hd]; exact h.w⟩
theorem Ths.mem (h : Ths m C D W ds) (e : d ∈ ds) : Th m C D W d := ⟨h.g d e, by have := cost_mem e; have := h.c; omega, h.d d e, h.w d e⟩
theorem Ths.len (h : Ths m C D W ds) : 2 * ds.length ≤ C := Nat.le_trans (len_cost ds) h.c
theorem Ths.list (h : Ths m C D W ds) (l : ds.length ≤ W) : Th m (C + 3) (D + 1) W (.list ds) :=
  ⟨gdAll_iff.mpr h.g, by show costAll ds + 3 ≤ _; have := h.c; omega, by show PyData.depthAll ds + 1 ≤ _; have := depthAll_iff.mpr h.d; omega, by show max ds.length (widAll ds) ≤ W; exact Nat.max_le.mpr ⟨l, widAll_iff.mpr h.w⟩⟩
theorem Ths.tuple (h : Ths m C D W ds) (l : ds.length ≤ W) : Th m (C + 3) (D + 1) W (.tuple ds) :=
  ⟨gdAll_iff.mpr h.g, by show costAll ds + 3 ≤ _; have := h.c; omega, by show PyData.depthAll ds + 1 ≤ _; have := depthAll_iff.mpr h.d; omega, by show max ds.length (widAll ds) ≤ W; exact Nat.max_le.mpr ⟨l, widAll_iff.mpr h.w⟩⟩
theorem Th.ofList (h : Th m C D W (.list ds)) : Ths m (C - 3) (D - 1) W ds ∧ ds.length ≤ W ∧ 3 ≤ C ∧ 1 ≤ D := by
  have h1 : costAll ds + 3 ≤ C := h.c
  have h2 : PyData.depthAll ds + 1 ≤ D := h.d
  have h3 : max ds.length (widAll ds) ≤ W := h.w
  exact ⟨⟨gdAll_iff.mp h.g, by omega, depthAll_iff.mp (by omega), widAll_iff.mp (Nat.le_trans (Nat.le_max_right ..) h3)⟩, Nat.le_trans (Nat.le_max_left ..) h3, by omega, by omega⟩
theorem Th.ofTuple (h : Th m C D W (.tuple ds)) : Ths m (C - 3) (D - 1) W ds ∧ ds.length ≤ W ∧ 3 ≤ C ∧ 1 ≤ D := by
  have h1 : costAll ds + 3 ≤ C := h.c
  have h2 : PyData.depthAll ds + 1 ≤ D := h.d
  have h3 : max ds.length (widAll ds) ≤ W := h.w
  exact ⟨⟨gdAll_iff.mp h.g, by omega, depthAll_iff.mp (by omega), widAll_iff.mp (Nat.le_trans (Nat.le_max_right ..) h3)⟩, Nat.le_trans (Nat.le_max_left ..) h3, by omega, by omega⟩
theorem costAll_take (n : Nat) (ds : List PyData) : costAll (ds.take n) ≤ costAll ds := by
  have := costAll_app (ds.take n) (ds.drop n)
  rw [List.take_append_drop] at this; omega
theorem costAll_drop (n : Nat) (ds : List PyData) : costAll (ds.drop n) ≤ costAll ds := by
  have := costAll_app (ds.take n) (ds.drop n)
  rw [List.take_append_drop] at this; omega
theorem costAll_rev : ∀ ds : List PyData, costAll ds.reverse = costAll ds
  | [] => rfl
  | x :: xs => by rw [List.reverse_cons, costAll_app, costAll_rev xs]; show _ + (costAll.cost x + 2 + 0) = costAll.cost x + 2 + costAll xs; omega
theorem Ths.sub (h : Ths m C D W ds) (s : ∀ x ∈ xs, x ∈ ds) (c : costAll xs ≤ C) : Ths m C D W xs := ⟨fun d hd => h.g d (s d hd), c, fun d hd => h.d d (s d hd), fun d hd => h.w d (s d hd)⟩
theorem Ths.take (h : Ths m C D W ds) (n : Nat) : Ths m C D W (ds.take n) := h.sub (fun d hd => List.mem_of_mem_take hd) (Nat.le_trans (costAll_take n ds) h.c)
theorem Ths.drop (h : Ths m C D W ds) (n : Nat) : Ths m C D W (ds.drop n) := h.sub (fun d hd => List.mem_of_mem_drop hd) (Nat.le_trans (costAll_drop n ds) h.c)
theorem Ths.rev (h : Ths m C D W ds) : Ths m C D W ds.reverse := h.sub (fun d hd => List.mem_reverse.mp hd) (by rw [costAll_rev]; exact h.c)
theorem costAll_set : ∀ (ds : List PyData) (i : Nat) (x : PyData), costAll (ds.set i x) ≤ costAll ds + (costAll.cost x + 2)
  | [], _, _ => Nat.zero_le _
  | y :: ys, 0, x => by show costAll.cost x + 2 + costAll ys ≤ costAll.cost y + 2 + costAll ys + _; omega
  | y :: ys, i + 1, x => by
    have := costAll_set ys i x
    show costAll.cost y + 2 + costAll (ys.set i x) ≤ costAll.cost y + 2 + costAll ys + _
    omega
theorem Ths.set {i : Nat} (h : Ths m C D W ds) (k : Th m E D W x) : Ths m (C + E + 2) D W (ds.set i x) :=
  ⟨fun d hd => (List.mem_or_eq_of_mem_set hd).elim (h.g d) fun e => by rw [e]; exact k.g, Nat.le_trans (costAll_set ds i x) (by have := h.c; have := k.c; omega), fun d hd => (List.mem_or_eq_of_mem_set hd).elim (h.d d) fun e => by rw [e]; exact k.d, fun d hd => (List.mem_or_eq_of_mem_set hd).elim (h.w d) fun e => by rw [e]; exact k.w⟩
end
section
variable {K : PySem.W.Frag} {H : Hp}
theorem dpAll_app' : ∀ {xs ys : List V} {ds es : List PyData}, DpAll K H xs ds → DpAll K H ys es → DpAll K H (xs ++ ys) (ds ++ es)
  | _, _, _, _, .nil, h => h
  | _, _, _, _, .cons h t, h2 => .cons h (dpAll_app' t h2)
theorem dpAll_take : ∀ {xs : List V} {ds : List PyData} (n : Nat), DpAll K H xs ds → DpAll K H (xs.take n) (ds.take n)
  | _, _, 0, _ => .nil
  | _, _, _ + 1, .nil => .nil
  | _, _, n + 1, .cons h t => .cons h (dpAll_take n t)
theorem dpAll_drop : ∀ {xs : List V} {ds : List PyData} (n : Nat), DpAll K H xs ds → DpAll K H (xs.drop n) (ds.drop n)
  | _, _, 0, h => h
  | _, _, _ + 1, .nil => .nil
  | _, _, n + 1, .cons _ t => dpAll_drop n t
theorem dpAll_rev : ∀ {xs : List V} {ds : List PyData}, DpAll K H xs ds → DpAll K H xs.reverse ds.reverse
  | _, _, .nil => .nil
  | _, _, .cons h t => by rw [List.reverse_cons, List.reverse_cons]; exact dpAll_app' (dpAll_rev t) (.cons h .nil)
theorem dpAll_set : ∀ {xs : List V} {ds : List PyData} {i : Nat} {v : V} {d : PyData}, DpAll K H xs ds → Dp K H v d → DpAll K H (xs.set i v) (ds.set i d)
  | _, _, _, _, _, .nil, _ => .nil
  | _, _, 0, _, _, .cons _ t, k => .cons k t
  | _, _, _ + 1, _, _, .cons h t, k => .cons h (dpAll_set t k)
/-- a slice of a row of parts -/
theorem dp_cut {xs : List V} {ds : List PyData} {lo hi : Option Int} {m C D W : Nat} (h : DpAll K H xs ds) (t : Ths m C D W ds) : ∃ es, DpAll K H (cutV xs lo hi) es ∧ Ths m C D W es ∧ es.length ≤ ds.length := by
  unfold cutV
  exact ⟨_, dpAll_take _ (dpAll_drop _ h), (t.drop _).take _, by rw [List.length_take, List.length_drop]; omega⟩
theorem dp_lst' {v : V} {ds : List PyData} (h : Dp K H v (.list ds)) : ∃ a xs, v = .ref a ∧ SqL K H a xs ∧ DpAll K H xs ds := by
  cases h with
  | lst h a => exact ⟨_, _, rfl, h, a⟩
end
end Pot
namespace Pot
open PySem PySem.Spec PyProof.Rows L2
theorem sm_at {H H' : Hp} {S : List Addr} {x : Addr} {o : HO} (s : Sm S H H') (n : x ∉ S) (h : H x = some o) : H' x = some o := by
  have := s x o (by rw [off_out n]; exact h)
  rw [off_out n] at this; exact this
theorem sm1_at {H H' : Hp} {b x : Addr} {o : HO} (s : Sm [b] H H') (n : x ≠ b) (h : H x = some o) : H' x = some o := sm_at s (fun z => n (List.mem_singleton.mp z)) h
theorem smp {H H' : Hp} {S : List Addr} {p : Addr} {o : HO} (s : Sm S H H') (h : H p = none) : Sm S H (upd H' p o) := fun x u e => by
  have n := off_mem e
  have ne : x ≠ p := fun z => by
    rw [off_out n, z, h] at e; cases e
  have := s x u e
  rw [off_out n] at this ⊢
  rw [upd_ne ne]; exact this
theorem sm_free {H H' : Hp} {b l : Addr} (s : Sm [b] H H') (B : Bx H' b) (h : H' l = none) : H l = none := by
  have nb := B.ne h
  have n : l ∉ [b] := fun z => nb (List.mem_singleton.mp z)
  cases e : H l with
  | none => rfl
  | some o => rw [sm_at s n e] at h; cases h
theorem cut_map {α : Type} (f : α → V) (ns : List α) (lo hi : Option Int) : cutV (ns.map f) lo hi = ((ns.drop (HT.sIx ns.length 0 lo)).take (HT.sIx ns.length ns.length hi - HT.sIx ns.length 0 lo)).map f := by
  unfold cutV
  rw [List.length_map, List.map_take, List.map_drop]
theorem cut_head {xs : List V} {k : Nat} : cutV xs none (some (k : Int)) = xs.take k := by
  unfold cutV
  rw [HT.sIx_none, HT.sIx_nat, List.drop_zero, Nat.sub_zero]
  by_cases h : k ≤ xs.length
  · rw [Nat.min_eq_left h]
  · rw [Nat.min_eq_right (by omega), List.take_length, List.take_of_length_le (by omega)]
theorem cut_tail {xs : List V} {k : Nat} : cutV xs (some (k : Int)) none = xs.drop k := by
  unfold cutV
  rw [HT.sIx_none, HT.sIx_nat]
  by_cases h : k ≤ xs.length
  · rw [Nat.min_eq_left h, List.take_of_length_le (by rw [List.length_drop]; exact Nat.le_refl _)]
  · rw [Nat.min_eq_right (by omega), Nat.sub_self, List.take_zero, List.drop_of_length_le (by omega)]
end Pot
namespace Pot
open PySem PySem.Spec PyProof.Rows L2
section
variable {K : PySem.W.Frag} {H : Hp} {t : Addr} {d : PyData} {ds : List PyData}
theorem seq_dp {x : V} (h : Dp K H x d) (e : d = .list ds ∨ d = .tuple ds) : ∃ t zs, x = .ref t ∧ (SqL K H t zs ∨ SqT K H t zs) ∧ DpAll K H zs ds := by
  rcases e with rfl | rfl
  · cases h with
    | lst h a => exact ⟨_, _, rfl, .inl h, a⟩
  · cases h with
    | tup h a => exact ⟨_, _, rfl, .inr h, a⟩
theorem len_dp (h : Dp K H (.ref t) d) (e : d = .list ds ∨ d = .tuple ds) : LenV K (.ref t) H ds.length := by
  rcases e with rfl | rfl
  · cases h with
    | lst h a => exact .inl ⟨_, h, (dpAll_len a).symm⟩
  · cases h with
    | tup h a => exact .inr ⟨_, h, (dpAll_len a).symm⟩
theorem Th.parts {m C D W : Nat} (h : Th m C D W d) (e : d = .list ds ∨ d = .tuple ds) : Ths m (C - 3) (D - 1) W ds ∧ ds.length ≤ W ∧ 3 ≤ C ∧ 1 ≤ D := by
  rcases e with rfl | rfl
  · exact h.ofList
  · exact h.ofTuple
end
theorem sm_in {H H' : Hp} {S : List Addr} {x : Addr} {o : HO} (s : Sm S H H') (h : off H S x = some o) : off H' S x = some o := s x o h
end Pot
namespace Pot
open PySem PySem.Spec PyProof.Rows L2
theorem costAll_set_eq : ∀ {ds : List PyData} {i : Nat} {x y : PyData}, ds[i]? = some y → costAll (ds.set i x) + costAll.cost y = costAll ds + costAll.cost x
  | [], _, _, _, h => by simp at h
  | z :: zs, 0, x, y, h => by
    have e : z = y := by simpa using h
    subst e
    show costAll.cost x + 2 + costAll zs + costAll.cost z = costAll.cost z + 2 + costAll zs + costAll.cost x
    omega
  | z :: zs, i + 1, x, y, h => by
    have := costAll_set_eq (ds := zs) (i := i) (x := x) (y := y) (by simpa using h)
    show costAll.cost z + 2 + costAll (zs.set i x) + costAll.cost y = costAll.cost z + 2 + costAll zs + costAll.cost x
    omega
theorem codes_ofString (s : String) : ∀ c ∈ (Str.ofString s).cps.toList, c < 1114112 := by
  intro c hc
  rw [Str.ofString_eq_toList] at hc
  have : c ∈ s.toList.map Char.toNat := by simpa using hc
  obtain ⟨ch, _, rfl⟩ := List.mem_map.mp this
  have v := ch.valid
  have e : ch.toNat = ch.val.toNat := rfl
  rcases v with v | ⟨_, v⟩
  · have : ch.val.toNat < 0xD800 := v
    omega
  · have : ch.val.toNat < 0x110000 := v
    omega
theorem th_text {i : Int} (h : i.natAbs ≤ 2000000) {m : Nat} : Th m 19212 0 0 (.str (toString i)) := by
  have l : (Str.ofString (toString i)).length ≤ 1921 := PyProof.Rows.int_text_len_1921 (log_small' h)
  exact ⟨⟨by omega, codes_ofString _⟩, by show 10 * (Str.ofString (toString i)).length + 2 ≤ 19212; omega, Nat.le_refl _, Nat.le_refl _⟩
end Pot

namespace Pot
open PySem PySem.Spec PyProof.Rows L2
theorem Ths.parts2 {m C E D W a b : Nat} {ds es : List PyData} (h : Ths m C D W ds) (hab : a ≤ b) (k : Ths m E D W es) : Ths m (C + E) D W (ds.take a ++ es ++ ds.drop b) := by
  have mem : ∀ d, d ∈ ds.take a ++ es ++ ds.drop b → d ∈ ds ∨ d ∈ es := fun d hd => by
    rcases List.mem_append.mp hd with z | z
    · rcases List.mem_append.mp z with y | y
      · exact .inl (List.mem_of_mem_take y)
      · exact .inr y
    · exact .inl (List.mem_of_mem_drop z)
  refine ⟨fun d hd => (mem d hd).elim (h.g d) (k.g d), ?_, fun d hd => (mem d hd).elim (h.d d) (k.d d), fun d hd => (mem d hd).elim (h.w d) (k.w d)⟩
  rw [costAll_app, costAll_app]
  have e := costAll_app (ds.take a) (ds.drop a)
  rw [List.take_append_drop] at e
  have e2 : ds.drop b = (ds.drop a).drop (b - a) := by rw [List.drop_drop]; congr 1; omega
  have e3 := costAll_drop (b - a) (ds.drop a)
  rw [← e2] at e3
  have := h.c
  have := k.c
  omega
end Pot

namespace Pot
open PySem PySem.Spec PyProof.Rows L2
theorem nodup_le {α : Type} [BEq α] [LawfulBEq α] : ∀ {ks l : List α}, ks.Nodup → (∀ k ∈ ks, k ∈ l) → ks.length ≤ l.length
  | [], _, _, _ => Nat.zero_le _
  | k :: ks, l, h, s => by
    have hk := s k List.mem_cons_self
    have h2 := (List.nodup_cons.mp h)
    have := nodup_le (ks := ks) (l := l.erase k) h2.2 fun x hx => by
      have ne : x ≠ k := fun e => h2.1 (e ▸ hx)
      exact (List.mem_erase_of_ne ne).mpr (s x (List.mem_cons_of_mem _ hx))
    rw [List.length_erase_of_mem hk] at this
    have : 0 < l.length := List.length_pos_of_mem hk
    simp only [List.length_cons]
    omega
section
variable {X : Cx} {K : PySem.W.Frag}
theorem ko_notIn (h : X.K = K := by rfl) : OpR X (compareOp .NotIn) (rIn K true) := h ▸ op_notIn_seq
/-- set(xs) of ints: how many members it has -/
def rSetLj (K : PySem.W.Frag) (w : World) : List V → Hp → VK → Prop := fun xs H Q => ∃ (a : Addr) (ns : List Int), xs = [V.ref a] ∧ SqL K H a (ns.map V.int) ∧ ns.length ≤ 4000 ∧
  ∀ (p : Addr) (ks : List Int), H p = none → ks.Nodup → (∀ k, k ∈ ks ↔ k ∈ ns) → Q (.ref p) (upd H p (SetO w p (fun k => decide (k ∈ ns)) ks.length))
theorem cr_setLj (hc : X.calm = true) : CallR X (.type "set") (rSetLj X.K X.w) := by
  intro pins s σ H vs us Q I r h
  obtain ⟨a, ns, rfl, hS, hl, q⟩ := h
  rw [Vals.ref1 r]
  obtain ⟨its, rv, pl, hz⟩ := I.list hS
  refine call_set_li ns (I.ok.hd hc) pl.isList (by simpa using Vals.ints rv) (by unfold scanBound; omega) fun s' f => ?_
  obtain ⟨h', tk, c, rfl, R, hcn, k⟩ := f
  have hn : H s.heap.objs.size = none := I.hok.fresh (Nat.le_refl _)
  have J : Inv X pins σ (upd H s.heap.objs.size (SetO X.w s.heap.objs.size (fun k => decide (k ∈ ns)) c)) { s with heap := h', toks := tk } := I.laid (t' := tk) k (Nat.le_refl _) (setO_new R)
  obtain ⟨o, es, ep, t, _, _, _, _, nod, mem, _, _, size, _⟩ := R
  have q2 := q s.heap.objs.size (es.toList.map keyOf) hn nod fun k => by rw [← mem k, decide_eq_true_eq]
  rw [List.length_map, Array.length_toList, size] at q2
  exact ⟨.ref s.heap.objs.size, _, J, rfl, q2⟩
theorem kc_setLj {w : World} (hc : X.calm = true := by rfl) (h : X.K = K := by rfl) (hw : X.w = w := by rfl) : CallR X (.type "set") (rSetLj K w) := by subst h; subst hw; exact cr_setLj hc
end
end Pot

namespace Pot
open PySem PySem.Spec PyProof.Rows L2
/-! ### kinds of data -/
def tyD : PyData → String
  | .none => "NoneType"
  | .bool _ => "bool"
  | .int _ => "int"
  | .str _ => "str"
  | .list _ => "list"
  | .tuple _ => "tuple"
  | .dict _ => "dict"
def isIntD : PyData → Bool
  | .int _ => true
  | .bool _ => true
  | _ => false
def isBoolD : PyData → Bool
  | .bool _ => true
  | _ => false
def isStrD : PyData → Bool
  | .str _ => true
  | _ => false
def isListD : PyData → Bool
  | .list _ => true
  | _ => false
def isTupD : PyData → Bool
  | .tuple _ => true
  | _ => false
section
variable {K : PySem.W.Frag} {H : Hp} {x : V} {d : PyData} {Q : VK}
theorem tyx_dp (h : Dp K H x d) : TyX K H x (.type (tyD d)) := by
  cases h with
  | non => exact .base .non
  | bl b => exact .base (.bl b)
  | int i => exact .base (.int i)
  | str z => exact .base (.str z)
  | lst h _ => exact tyx_list h
  | tup h _ => exact tyx_tup h
theorem kit_int (h : Dp K H x d) : PySem.W.kitOne K (.type (tyD d)) (.type "int") = some (isIntD d) := by
  cases h with
  | non => exact kit_ty (show kitB "NoneType" "int" = some false by decide +kernel)
  | bl _ => exact kit_ty (show kitB "bool" "int" = some true by decide +kernel)
  | int _ => exact kit_ty (show kitB "int" "int" = some true by decide +kernel)
  | str _ => exact kit_ty (show kitB "str" "int" = some false by decide +kernel)
  | lst _ _ => exact kit_ty (show kitB "list" "int" = some false by decide +kernel)
  | tup _ _ => exact kit_ty (show kitB "tuple" "int" = some false by decide +kernel)
theorem kit_bool (h : Dp K H x d) : PySem.W.kitOne K (.type (tyD d)) (.type "bool") = some (isBoolD d) := by
  cases h with
  | non => exact kit_ty (show kitB "NoneType" "bool" = some false by decide +kernel)
  | bl _ => exact kit_ty (show kitB "bool" "bool" = some true by decide +kernel)
  | int _ => exact kit_ty (show kitB "int" "bool" = some false by decide +kernel)
  | str _ => exact kit_ty (show kitB "str" "bool" = some false by decide +kernel)
  | lst _ _ => exact kit_ty (show kitB "list" "bool" = some false by decide +kernel)
  | tup _ _ => exact kit_ty (show kitB "tuple" "bool" = some false by decide +kernel)
theorem kit_str (h : Dp K H x d) : PySem.W.kitOne K (.type (tyD d)) (.type "str") = some (isStrD d) := by
  cases h with
  | non => exact kit_ty (show kitB "NoneType" "str" = some false by decide +kernel)
  | bl _ => exact kit_ty (show kitB "bool" "str" = some false by decide +kernel)
  | int _ => exact kit_ty (show kitB "int" "str" = some false by decide +kernel)
  | str _ => exact kit_ty (show kitB "str" "str" = some true by decide +kernel)
  | lst _ _ => exact kit_ty (show kitB "list" "str" = some false by decide +kernel)
  | tup _ _ => exact kit_ty (show kitB "tuple" "str" = some false by decide +kernel)
theorem kit_list (h : Dp K H x d) : PySem.W.kitOne K (.type (tyD d)) (.type "list") = some (isListD d) := by
  cases h with
  | non => exact kit_ty (show kitB "NoneType" "list" = some false by decide +kernel)
  | bl _ => exact kit_ty (show kitB "bool" "list" = some false by decide +kernel)
  | int _ => exact kit_ty (show kitB "int" "list" = some false by decide +kernel)
  | str _ => exact kit_ty (show kitB "str" "list" = some false by decide +kernel)
  | lst _ _ => exact kit_ty (show kitB "list" "list" = some true by decide +kernel)
  | tup _ _ => exact kit_ty (show kitB "tuple" "list" = some false by decide +kernel)
theorem kit_tup (h : Dp K H x d) : PySem.W.kitOne K (.type (tyD d)) (.type "tuple") = some (isTupD d) := by
  cases h with
  | non => exact kit_ty (show kitB "NoneType" "tuple" = some false by decide +kernel)
  | bl _ => exact kit_ty (show kitB "bool" "tuple" = some false by decide +kernel)
  | int _ => exact kit_ty (show kitB "int" "tuple" = some false by decide +kernel)
  | str _ => exact kit_ty (show kitB "str" "tuple" = some false by decide +kernel)
  | lst _ _ => exact kit_ty (show kitB "list" "tuple" = some false by decide +kernel)
  | tup _ _ => exact kit_ty (show kitB "tuple" "tuple" = some true by decide +kernel)
theorem kit_lt (h : Dp K H x d) : PySem.W.kitAny K (.type (tyD d)) [.type "list", .type "tuple"] = some (isListD d || isTupD d) := by
  cases h <;> rfl
end
/-! ### numbers within bounds -/
def numD (lo hi : Int) : PyData → Bool
  | .int i => decide (lo ≤ i) && decide (i ≤ hi)
  | _ => false
def toI : PyData → Int
  | .int i => i
  | _ => 0
theorem numD_int {lo hi : Int} : ∀ {d : PyData}, numD lo hi d = true → d = .int (toI d) ∧ lo ≤ toI d ∧ toI d ≤ hi
  | .int i, h => by
    obtain ⟨h1, h2⟩ := Bool.and_eq_true_iff.mp (show (decide (lo ≤ i) && decide (i ≤ hi)) = true from h)
    exact ⟨rfl, of_decide_eq_true h1, of_decide_eq_true h2⟩
/-- rising -/
def risI : List Int → Bool
  | a :: b :: r => decide (a < b) && risI (b :: r)
  | _ => true
def risD (lo hi : Int) : PyData → Bool
  | .list ds => ds.all (numD lo hi) && risI (ds.map toI)
  | _ => false
theorem risI_pair : ∀ {ns : List Int}, risI ns = true ↔ ns.Pairwise (· < ·)
  | [] => by simp [risI]
  | [a] => by simp [risI]
  | a :: b :: r => by
    have ih := risI_pair (ns := b :: r)
    show (decide (a < b) && risI (b :: r)) = true ↔ _
    rw [Bool.and_eq_true_iff, decide_eq_true_eq, ih]
    constructor
    · rintro ⟨h1, h2⟩
      refine List.pairwise_cons.mpr ⟨fun x hx => ?_, h2⟩
      rcases List.mem_cons.mp hx with e | e
      · rw [e]; exact h1
      · exact Int.lt_trans h1 ((List.pairwise_cons.mp h2).1 x e)
    · intro h
      obtain ⟨h1, h2⟩ := List.pairwise_cons.mp h
      exact ⟨h1 b List.mem_cons_self, h2⟩
theorem nums_of {lo hi : Int} {ds : List PyData} (h : ds.all (numD lo hi) = true) : ds = (ds.map toI).map PyData.int ∧ ∀ k ∈ ds.map toI, lo ≤ k ∧ k ≤ hi := by
  rw [List.all_eq_true] at h
  constructor
  · rw [List.map_map]
    conv => lhs; rw [← List.map_id ds]
    exact List.map_congr_left fun d hd => (numD_int (h d hd)).1
  · intro k hk
    obtain ⟨d, hd, rfl⟩ := List.mem_map.mp hk
    exact (numD_int (h d hd)).2
section
variable {K : PySem.W.Frag} {H : Hp}
theorem dp_intsV : ∀ {xs : List V} {ns : List Int}, DpAll K H xs (ns.map PyData.int) → xs = ns.map V.int
  | [], [], _ => rfl
  | [], _ :: _, h => by cases h
  | _ :: _, [], h => by cases h
  | x :: xs, n :: ns, h => by
    cases h with
    | cons h t => cases h; rw [dp_intsV t]; rfl
end
/-- of a row that rises just the same: a row in which all stand in order, none twice -/
theorem sorted_uniq : ∀ {xs ys : List Int}, xs.Pairwise (· < ·) → ys.Pairwise (· < ·) → (∀ k, k ∈ xs ↔ k ∈ ys) → xs = ys
  | [], [], _, _, _ => rfl
  | [], y :: ys, _, _, h => by have := (h y).mpr List.mem_cons_self; simp at this
  | x :: xs, [], _, _, h => by have := (h x).mp List.mem_cons_self; simp at this
  | x :: xs, y :: ys, h1, h2, h => by
    rw [List.pairwise_cons] at h1 h2
    have e : x = y := by
      rcases List.mem_cons.mp ((h x).mp List.mem_cons_self) with e | e
      · exact e
      · rcases List.mem_cons.mp ((h y).mpr List.mem_cons_self) with e2 | e2
        · exact e2.symm
        · have := h2.1 x e; have := h1.1 y e2; omega
    subst e
    have : xs = ys := sorted_uniq h1.2 h2.2 fun k => by
      constructor
      · intro hk
        rcases List.mem_cons.mp ((h k).mp (List.mem_cons_of_mem _ hk)) with e | e
        · have := h1.1 k hk; omega
        · exact e
      · intro hk
        rcases List.mem_cons.mp ((h k).mpr (List.mem_cons_of_mem _ hk)) with e | e
        · have := h2.1 k hk; omega
        · exact e
    rw [this]
theorem eqv_ints : ∀ xs ys : List Int, PyData.eqv (.list (xs.map PyData.int)) (.list (ys.map PyData.int)) = decide (xs = ys)
  | [], [] => rfl
  | [], _ :: _ => rfl
  | _ :: _, [] => rfl
  | x :: xs, y :: ys => by
    have ih := eqv_ints xs ys
    show (PyData.eqv (.int x) (.int y) && PyData.eqvAll (xs.map PyData.int) (ys.map PyData.int)) = _
    rw [show PyData.eqvAll (xs.map PyData.int) (ys.map PyData.int) = decide (xs = ys) from ih]
    show ((x == y) && _) = _
    by_cases h : x = y
    · subst h; simp
    · simp [h]
/-- thing == sorted(set(thing)): just where it rises -/
theorem eq_sorted {ns zs : List Int} (h : zs.Pairwise (· < ·)) (m : ∀ k, k ∈ zs ↔ k ∈ ns) : decide (ns = zs) = risI ns := by
  by_cases e : ns = zs
  · rw [decide_eq_true e, e]; exact (risI_pair.mpr h).symm
  · rw [decide_eq_false e]
    cases hr : risI ns with
    | false => rfl
    | true => exact absurd (sorted_uniq (risI_pair.mp hr) h fun k => (m k).symm) e
theorem nodup_60 {ks : List Int} (h : ks.Nodup) (b : ∀ k ∈ ks, 0 ≤ k ∧ k ≤ 60) : ks.length < 64 := by
  have := nodup_le (l := (List.range 61).map fun (i : Nat) => (i : Int)) h fun k hk => by
    obtain ⟨h0, h1⟩ := b k hk
    exact List.mem_map.mpr ⟨k.toNat, List.mem_range.mpr (by omega), by omega⟩
  rw [List.length_map, List.length_range] at this
  omega
end Pot
namespace Pot
open PySem PySem.Spec PyProof.Rows L2
/-! ### a comprehension that changes nothing that stood: out i is what is told up to turn i -/
def PvL (H1 : Hp) (D : Addr) (out : Nat → List V) (i : Nat) (H2 : Hp) : Prop := Same H1 H2 ∧ H2 D = some (.lst (out i))
section
variable {H1 H2 H3 : Hp} {D : Addr} {out : Nat → List V} {i : Nat} {y : V}
theorem pv_start (nD : H1 D = none) (e : out 0 = []) : PvL H1 D out 0 (upd H1 D (.lst [])) := ⟨same_upd nD, by rw [e]; exact upd_same⟩
theorem pv_put (nD : H1 D = none) (p : PvL H1 D out i H2) (s : Same H2 H3) (e : out (i + 1) = out i ++ [y]) (l : (out i).length < sizeLine) : ∃ acc, H3 D = some (.lst acc) ∧ acc.length < sizeLine ∧ PvL H1 D out (i + 1) (upd H3 D (.lst (acc ++ [y]))) :=
  ⟨out i, s _ _ p.2, l, same_put (p.1.trans s) nD, by rw [e]; exact upd_same⟩
theorem pv_skip (p : PvL H1 D out i H2) (s : Same H2 H3) (e : out (i + 1) = out i) : PvL H1 D out (i + 1) H3 := ⟨p.1.trans s, by rw [e]; exact s _ _ p.2⟩
end
theorem take_map {α : Type} (f : α → V) {l : List α} {i : Nat} {x : α} (h : l[i]? = some x) : (l.take (i + 1)).map f = (l.take i).map f ++ [f x] := by
  rw [List.take_add_one, h, List.map_append]; rfl
theorem take_len_lt {α : Type} {f : α → V} {l : List α} {i : Nat} (h : i < 100000) : ((l.take i).map f).length < sizeLine := by
  rw [List.length_map, List.length_take, sizeLine_eq]; omega
theorem take_len_le {α : Type} {f : α → V} {l : List α} {i : Nat} (h : l.length < 100000) : ((l.take i).map f).length < sizeLine := by
  rw [List.length_map, List.length_take, sizeLine_eq]; omega
/-- each below the next -/
def rb : List Int → List Bool
  | a :: b :: r => decide (a < b) :: rb (b :: r)
  | _ => []
theorem rb_all : ∀ ns : List Int, (rb ns).all id = risI ns
  | [] => rfl
  | [_] => rfl
  | a :: b :: r => by show (decide (a < b) && (rb (b :: r)).all id) = _; rw [rb_all (b :: r)]; rfl
theorem rb_len : ∀ ns : List Int, (rb ns).length = ns.length - 1
  | [] => rfl
  | [_] => rfl
  | a :: b :: r => by show (rb (b :: r)).length + 1 = _; rw [rb_len (b :: r)]; simp
theorem rb_at : ∀ {ns : List Int} {i : Nat} {x y : Int}, ns[i]? = some x → ns[i + 1]? = some y → (rb ns)[i]? = some (decide (x < y))
  | [], _, _, _, h, _ => by simp at h
  | [_], i, _, _, _, h => by simp at h
  | a :: b :: r, 0, x, y, h, k => by
    have e1 : a = x := by simpa using h
    have e2 : b = y := by simpa using k
    subst e1 e2; rfl
  | a :: b :: r, i + 1, x, y, h, k => rb_at (ns := b :: r) (i := i) (by simpa using h) (by simpa using k)
/-- what is told of each of some data -/
theorem all_map {ds : List PyData} {f : PyData → Bool} : (ds.map f).all id = ds.all f := by
  rw [List.all_map]; rfl
end Pot
namespace Pot
open PySem PySem.Spec PyProof.Rows L2
theorem pv_end {H1 H2 : Hp} {D : Addr} {out : Nat → List V} {n : Nat} {zs : List V} (p : PvL H1 D out n H2) (e : out n = zs) : Same H1 H2 ∧ H2 D = some (.lst zs) := ⟨p.1, by rw [← e]; exact p.2⟩
theorem take_all {α : Type} {f : α → V} {l : List α} {n : Nat} (h : l.length ≤ n) : (l.take n).map f = l.map f := by rw [List.take_of_length_le h]
end Pot

namespace Pot
open PySem PySem.Spec PyProof.Rows L2
/-! ### words of letters -/
/-- at most n letters a to z -/
def Wd (n : Nat) (z : Str) : Prop := z.length ≤ n ∧ ∀ c ∈ z.cps.toList, 97 ≤ c ∧ c ≤ 122
theorem Wd.mono {n m : Nat} {z : Str} (h : Wd n z) (k : n ≤ m) : Wd m z := ⟨Nat.le_trans h.1 k, h.2⟩
theorem wd_add {n m : Nat} {a b : Str} (h : Wd n a) (k : Wd m b) : Wd (n + m) (a ++ b) := by
  refine ⟨by rw [strLen_append]; exact Nat.add_le_add h.1 k.1, fun c hc => ?_⟩
  have e : (a ++ b).cps.toList = a.cps.toList ++ b.cps.toList := by
    show (a.cps ++ b.cps).toList = _
    simp
  rw [e] at hc
  exact (List.mem_append.mp hc).elim (h.2 c) (k.2 c)
def az : List Nat := [97, 98, 99, 100, 101, 102, 103, 104, 105, 106, 107, 108, 109, 110, 111, 112, 113, 114, 115, 116, 117, 118, 119, 120, 121, 122]
theorem az_cps : (Str.ofString "abcdefghijklmnopqrstuvwxyz").cps.toList = az := by decide +kernel
theorem az_at : ∀ k : Nat, k < 26 → atI az ((k : Nat) : Int) = some (97 + k) := by unfold az; decide
theorem az_ix {i : Int} (h0 : 0 ≤ i) (h1 : i < 26) : atI (Str.ofString "abcdefghijklmnopqrstuvwxyz").cps.toList i = some (97 + i.toNat) := by
  rw [az_cps]
  have h := az_at i.toNat (by omega)
  rw [show ((i.toNat : Nat) : Int) = i by omega] at h
  exact h
theorem wd_sign {c : Nat} (h0 : 97 ≤ c) (h1 : c ≤ 122) : Wd 1 ⟨#[c]⟩ := ⟨Nat.le_refl _, fun d hd => by
  have e : d = c := by simpa using hd
  subst e; exact ⟨h0, h1⟩⟩
theorem wd_letter {i : Int} (h0 : 0 ≤ i) (h1 : i < 26) : Wd 1 ⟨#[97 + i.toNat]⟩ := wd_sign (by omega) (by omega)
theorem wd_nil : Wd 0 Str.empty := ⟨Nat.le_refl _, fun c hc => by have : c ∈ ([] : List Nat) := hc; simp at this⟩
theorem wd_join : ∀ {ys : List Str}, (∀ y ∈ ys, Wd 1 y) → Wd ys.length (Str.join Str.empty ys)
  | [], _ => wd_nil
  | [x], h => h x List.mem_cons_self
  | x :: y :: r, h => by
    have ih := wd_join (ys := y :: r) fun z hz => h z (List.mem_cons_of_mem _ hz)
    show Wd _ (x ++ Str.empty ++ Str.join Str.empty (y :: r))
    have h1 := wd_add (wd_add (h x List.mem_cons_self) wd_nil) ih
    exact h1.mono (by simp only [List.length_cons]; omega)
theorem cut_mem {z : Str} {lo hi : Option Int} {c : Nat} (h : c ∈ (cutS z lo hi).cps.toList) : c ∈ z.cps.toList := by
  unfold cutS at h
  have h2 : c ∈ (z.cps.toList.drop (HT.sIx z.length 0 lo)).take (HT.sIx z.length z.length hi - HT.sIx z.length 0 lo) := by simpa using h
  exact List.mem_of_mem_drop (List.mem_of_mem_take h2)
theorem cut_len (z : Str) (lo hi : Option Int) : (cutS z lo hi).length ≤ HT.sIx z.length z.length hi - HT.sIx z.length 0 lo := by
  unfold cutS
  show (List.toArray _).size ≤ _
  rw [List.size_toArray]
  exact List.length_take_le ..
theorem wd_head {n k : Nat} {z : Str} (h : Wd n z) : Wd k (cutS z none (some (k : Int))) := by
  refine ⟨Nat.le_trans (cut_len z none (some (k : Int))) ?_, fun c hc => h.2 c (cut_mem hc)⟩
  rw [HT.sIx_nat]
  omega
theorem wd_tail {n k : Nat} {z : Str} (h : Wd n z) : Wd (z.length - k) (cutS z (some (k : Int)) none) := by
  refine ⟨Nat.le_trans (cut_len z (some (k : Int)) none) ?_, fun c hc => h.2 c (cut_mem hc)⟩
  rw [HT.sIx_nat, HT.sIx_none]
  omega
theorem wd_cut {n : Nat} {z : Str} {lo hi : Option Int} (h : Wd n z) : Wd n (cutS z lo hi) := by
  refine ⟨Nat.le_trans (cut_len z lo hi) ?_, fun c hc => h.2 c (cut_mem hc)⟩
  have := HT.sIx_le z.length z.length (Nat.le_refl _) hi
  have := h.1
  omega
theorem wd_small {n : Nat} {z : Str} (h : Wd n z) (k : n ≤ 1000) : z.length ≤ sizeLine := Nat.le_trans h.1 (Nat.le_trans k (by decide))
theorem wd_codes {n : Nat} {z : Str} (h : Wd n z) : ∀ x ∈ z.cps.toList, x < 1114112 := fun x hx => by have := (h.2 x hx).2; omega
section
variable {K : PySem.W.Frag}
theorem kp_seq {d c l : Addr} {H H' : Hp} {xs : List V} (k : Kp d c H H') (n1 : l ≠ d) (n2 : l ≠ c) (h : SqL K H l xs) : SqL K H' l xs := by
  rcases h with (h | ⟨o, h⟩) | h
  · exact .inl (.inl (k _ _ n1 n2 h))
  · exact .inl (.inr ⟨o, k _ _ n1 n2 h⟩)
  · exact .inr h
end
end Pot

namespace Pot
open PySem PySem.Spec PyProof.Rows L2
/-! ### the drawing state of two objects, told by what stands beside it -/
section
variable {H H' : Hp} {d c : Addr} {n m : Nat} {S : List Addr} {x : Addr} {o : HO}
theorem kp_sm (k : Kp d c H H') : Sm [d, c] H H' := fun x o e => by
  have nm := off_mem e
  rw [off_out nm] at e ⊢
  exact k x o (fun z => nm (by rw [z]; simp)) (fun z => nm (by rw [z]; simp)) e
theorem sm_kp (s : Sm [d, c] H H') : Kp d c H H' := fun x o h1 h2 e => sm_at s (by simp [h1, h2]) e
theorem sm_two (h1 : d ∈ S) (h2 : c ∈ S) (s : Sm [d, c] H H') : Sm S H H' := sm_mono (fun x hx => by
  rcases List.mem_cons.mp hx with e | e
  · rw [e]; exact h1
  · rw [List.mem_singleton.mp e]; exact h2) s
theorem sm2_at (s : Sm [d, c] H H') (h1 : x ≠ d) (h2 : x ≠ c) (h : H x = some o) : H' x = some o := sm_at s (by simp [h1, h2]) h
theorem st_free (s : Sm [d, c] H H') (B : StAt H' d c n) (h : H' x = none) : H x = none := (sm_kp s).free B h
theorem StAt.here (B : StAt H d c n) : H d ≠ none ∧ H c ≠ none := by
  obtain ⟨_, xs, t, h1, h2, _⟩ := B
  constructor
  · intro z; rw [h1] at z; cases z
  · intro z; rw [h2] at z; cases z
theorem Live.st (L : Live S H) (B : StAt H' d c n) (s : Sm [d, c] H H') : Live S H' := fun x hx e => by
  by_cases h1 : x = d
  · rw [h1] at e; exact B.here.1 e
  by_cases h2 : x = c
  · rw [h2] at e; exact B.here.2 e
  cases h : H x with
  | none => exact L x hx h
  | some o => rw [sm2_at s h1 h2 h] at e; cases e
theorem Live.two (B : StAt H d c n) : Live [d, c] H := fun x hx e => by
  rcases List.mem_cons.mp hx with z | z
  · rw [z] at e; exact B.here.1 e
  · rw [List.mem_singleton.mp z] at e; exact B.here.2 e
theorem StAt.nd (B : StAt H d c n) (h : H x = none) : x ≠ d := (B.ne1 h).symm
theorem StAt.nc (B : StAt H d c n) (h : H x = none) : x ≠ c := (B.ne2 h).symm
end
end Pot

namespace Pot
open PySem PySem.Spec PyProof.Rows L2
/-! ### a box of three numbers whose last is at most n -/
def Bq (H : Hp) (b : Addr) (n : Nat) : Prop := ∃ x y z : Int, H b = some (.lst [.int x, .int y, .int z]) ∧ 0 ≤ z ∧ z ≤ n
section
variable {H H' : Hp} {b p : Addr} {n m : Nat} {o : HO}
theorem Bq.bx (B : Bq H b n) : Bx H b := by
  obtain ⟨x, y, z, h, _⟩ := B
  exact ⟨x, y, z, h⟩
theorem Bq.same (B : Bq H b n) (s : Same H H') : Bq H' b n := by
  obtain ⟨x, y, z, h, h2⟩ := B
  exact ⟨x, y, z, s _ _ h, h2⟩
theorem Bq.put (B : Bq H b n) (h : H p = none) : Bq (upd H p o) b n := B.same (same_upd h)
theorem Bq.wr (B : Bq H b n) (h : p ≠ b) : Bq (upd H p o) b n := by
  obtain ⟨x, y, z, e, h2⟩ := B
  exact ⟨x, y, z, by rw [upd_ne h.symm]; exact e, h2⟩
theorem Bq.mono (B : Bq H b n) (h : n ≤ m) : Bq H b m := by
  obtain ⟨x, y, z, e, h1, h2⟩ := B
  exact ⟨x, y, z, e, h1, by omega⟩
theorem Bq.ne (B : Bq H b n) (h : H p = none) : p ≠ b := B.bx.ne h
theorem Live.q (B : Bq H b n) : Live [b] H := Live.one B.bx
end
theorem b01 (k : Bool) : -(2 ^ 64 : Int) < (if k = true then 1 else 0) ∧ (if k = true then 1 else 0) < (2 ^ 64 : Int) := by cases k <;> decide
theorem CDivW.of {i j : Int} (h0 : 0 < j) (h1 : j < 2 ^ 64) : CDivW i j := by
  refine ⟨h0, ?_⟩
  have z : j.natAbs ≠ 0 := by omega
  have := (Nat.log2_lt z).mpr (show j.natAbs < 2 ^ 64 by omega)
  omega
mutual
theorem gd_lay {m : Nat} : ∀ d : PyData, gd m d → d.canLay0 = true
  | .none, _ => rfl
  | .bool _, _ => rfl
  | .int _, _ => rfl
  | .str x, g => by
    show x.cps.all (fun c => decide (c < 0x110000)) = true
    rw [← Array.all_toList, List.all_eq_true]
    exact fun c hc => decide_eq_true (g.2 c hc)
  | .list xs, g => gdAll_lay xs g
  | .tuple xs, g => gdAll_lay xs g
  | .dict _, g => g.elim
theorem gdAll_lay {m : Nat} : ∀ ds : List PyData, gdAll m ds → PyData.canLayAll0 ds = true
  | [], _ => rfl
  | x :: xs, g => by
    show (x.canLay0 && PyData.canLayAll0 xs) = true
    rw [gd_lay x g.1, gdAll_lay xs g.2]; rfl
end
theorem Th.shaped {m C D W : Nat} {d : PyData} (h : Th m C D W d) (hD : D ≤ 64) : SeqAt.shaped d = true := by
  unfold SeqAt.shaped
  rw [gd_lay d h.g, decide_eq_true (Nat.le_trans h.d hD)]; rfl
theorem gd_shaped {m : Nat} {d : PyData} (h : gd m d) (hD : d.depth ≤ 64) : SeqAt.shaped d = true := by
  unfold SeqAt.shaped
  rw [gd_lay d h, decide_eq_true hD]; rfl
end Pot

namespace Pot
open PySem PySem.Spec PyProof.Rows L2
/-- a row that tells of these two -/
def mat (a : Option Str) (b : Str) (r : Wsh) : Bool := decide (some r.1 = a) && decide (r.2.1 = b)
def namD : Option Str → PyData
  | none => .none
  | some z => .str z
theorem washF_filter (a : Option Str) (b : Str) : ∀ ws : List Wsh, washF ws a b = match ws.filter (mat a b) with
    | [] => some 0
    | r :: _ => r.2.2
  | [] => rfl
  | r :: ws => by
    show (if some r.1 = a ∧ r.2.1 = b then r.2.2 else washF ws a b) = _
    rw [List.filter_cons]
    by_cases h : some r.1 = a ∧ r.2.1 = b
    · have e : mat a b r = true := by unfold mat; rw [decide_eq_true h.1, decide_eq_true h.2]; rfl
      rw [if_pos h, if_pos e]
    · have e : ¬ mat a b r = true := by
        unfold mat
        rw [Bool.and_eq_true, decide_eq_true_eq, decide_eq_true_eq]
        exact h
      rw [if_neg h, if_neg e]
      exact washF_filter a b ws
theorem str_beq (x y : Str) : (x == y) = decide (x = y) := by
  by_cases h : x = y
  · subst h; rw [decide_eq_true rfl]; exact beq_self_eq_true x
  · rw [decide_eq_false h]; exact beq_false_of_ne h
theorem eqv_mat (a : Option Str) (b : Str) (r : Wsh) : PyData.eqv (.tuple [.str r.1, .str r.2.1]) (.tuple [namD a, .str b]) = mat a b r := by
  unfold mat
  cases a with
  | none =>
    rw [decide_eq_false (by intro z; cases z)]
    rfl
  | some z =>
    show ((r.1 == z) && ((r.2.1 == b) && true)) = _
    rw [str_beq, str_beq, Bool.and_true]
    congr 1
    by_cases h : r.1 = z
    · rw [decide_eq_true h, decide_eq_true (by rw [h])]
    · rw [decide_eq_false h, decide_eq_false fun q => h (Option.some.inj q)]
section
variable {K : PySem.W.Frag} {H : Hp}
theorem nam_dp : ∀ a : Option Str, Dp K H (namV a) (namD a)
  | none => .non
  | some z => .str z
theorem dpAll_opts : ∀ l : List Wsh, DpAll K H (l.map fun r => optV r.2.2) (l.map fun r => optD r.2.2)
  | [] => .nil
  | r :: l => .cons (opt_dp r.2.2) (dpAll_opts l)
end
/-- signs that there are -/
def Sg (z : Str) : Prop := ∀ x ∈ z.cps.toList, x < 1114112
theorem strOk_len {z : Str} (h : Sg z) : PyData.strOk z = true := by
  unfold PyData.strOk
  rw [Array.all_eq_true_iff_forall_mem]
  intro x hx
  exact decide_eq_true (h x (Array.mem_toList_iff.mpr hx))
theorem shaped_two {x y : Str} (h : Sg x) (k : Sg y) : SeqAt.shaped (.tuple [.str x, .str y]) = true := by
  show (PyData.strOk x && (PyData.strOk y && true)) && decide (max 0 (max 0 0) + 1 ≤ 64) = true
  rw [strOk_len h, strOk_len k]
  rfl
theorem shaped_nam {a : Option Str} {y : Str} (h : ∀ z, a = some z → Sg z) (k : Sg y) : SeqAt.shaped (.tuple [namD a, .str y]) = true := by
  cases a with
  | none =>
    show (true && (PyData.strOk y && true)) && decide (max 0 (max 0 0) + 1 ≤ 64) = true
    rw [strOk_len k]
    rfl
  | some z => exact shaped_two (h z rfl) k
theorem shaped_opts (l : List Wsh) : SeqAt.shaped (.list (l.map fun r => optD r.2.2)) = true := by
  have h1 : ∀ l : List Wsh, PyData.canLayAll0 (l.map fun r => optD r.2.2) = true := by
    intro l
    induction l with
    | nil => rfl
    | cons r l ih =>
      show (PyData.canLay0 (optD r.2.2) && PyData.canLayAll0 (l.map fun r => optD r.2.2)) = true
      rw [ih]
      cases r.2.2 <;> rfl
  have h2 : PyData.depthAll (l.map fun r => optD r.2.2) ≤ 0 := depthAll_map fun r _ => by rw [depth_opt]; exact Nat.le_refl _
  show (PyData.canLayAll0 (l.map fun r => optD r.2.2) && decide (PyData.depthAll (l.map fun r => optD r.2.2) + 1 ≤ 64)) = true
  rw [h1, decide_eq_true (by omega)]
  rfl
end Pot

namespace Pot
open PySem PySem.Spec PyProof.Rows L2
section
variable {X : Cx} {K : PySem.W.Frag}
/-- len of a set of ints -/
def rLenSet (w : World) : List V → Hp → VK → Prop := fun xs H Q => ∃ (a : Addr) (S : Int → Bool) (n : Nat), xs = [V.ref a] ∧ H a = some (SetO w a S n) ∧ Q (.int n) H
theorem cr_lenSet : CallR X (.builtin "len") (rLenSet X.w) := by
  intro pins s σ H vs us Q I r h
  obtain ⟨a, S, n, rfl, ha, q⟩ := h
  rw [Vals.ref1 r]
  obtain ⟨o, es, ep, t, ho, hex, hd, _, _, _, hb, hf, rfl, _⟩ := setO_get I ha
  exact PySem.call_len_set ho hex hd hf (by unfold scanBound at hb; omega) ⟨.int _, H, I.tok _, ⟨_, rfl⟩, q⟩
theorem kc_lenSet {w : World} (hw : X.w = w := by rfl) : CallR X (.builtin "len") (rLenSet w) := by subst hw; exact cr_lenSet
/-- repr of any data -/
def rReprA (K : PySem.W.Frag) : List V → Hp → VK → Prop := fun xs H Q => ∃ (x : V) (d : PyData), xs = [x] ∧ Dp K H x d ∧ fineAll.fine d ∧ d.depth ≤ 60 ∧ costAll.cost d ≤ 16777216 ∧ Q (.str d.shown) H
theorem cr_reprA (gd : X.A.guards = some []) (hu : X.A.units + 64 < cLine) : CallR X (.builtin "repr") (rReprA X.K) := by
  intro pins s σ H vs us Q I r h
  obtain ⟨x, d, rfl, dp, sh, dep, sz, q⟩ := h
  obtain ⟨u, rfl, rx⟩ := vals1 r
  have sz2 := Nat.le_trans (shown_len d sh) (by rw [sizeLine_eq]; exact sz : costAll.cost d ≤ sizeLine)
  cases x with
  | ref a =>
    cases rx
    obtain ⟨as, rd⟩ := Dp.reads I d (.ref a) (.ref a) dp rfl
    refine repr_of_reads' rd (fine_show d sh) (fun z => ?_) gd (by omega) (fun _ _ e => e) (fun h' u tk k => ⟨.str d.shown, H, I.kept k, ⟨u, rfl⟩, q⟩) sz2
    rw [dp_noDict dp] at z
    cases z
  | int i =>
    cases dp
    obtain ⟨t, rfl⟩ := rx
    exact PySem.P.repr_of_int sh ⟨.str _, H, I.tok _, ⟨_, rfl⟩, q⟩
  | str z =>
    cases dp
    obtain ⟨t, rfl⟩ := rx
    exact PySem.P.repr_of_str ⟨.str _, H, I.tok _, ⟨_, rfl⟩, q⟩ sz2
  | bl b =>
    cases dp
    cases rx
    refine PySem.P.repr_of_bool ⟨.str _, H, I.tok _, ⟨_, rfl⟩, ?_⟩
    exact q
  | non =>
    cases dp
    cases rx
    exact PySem.P.repr_of_none ⟨.str _, H, I.tok _, ⟨_, rfl⟩, q⟩
  | _ => cases dp
theorem kc_reprA (gd : X.A.guards = some []) (hu : X.A.units + 64 < cLine) (h : X.K = K := by rfl) : CallR X (.builtin "repr") (rReprA K) := h ▸ cr_reprA gd hu
end
theorem short_of {α : Type} [DecidableEq α] : ∀ {ns : List α}, ¬ ns.Nodup → ∃ ns' : List α, ns'.length < ns.length ∧ ∀ k ∈ ns, k ∈ ns'
  | [], h => (h List.nodup_nil).elim
  | x :: ns, h => by
    by_cases hx : x ∈ ns
    · exact ⟨ns, by simp, fun k hk => by
        rcases List.mem_cons.mp hk with e | e
        · rw [e]; exact hx
        · exact e⟩
    · obtain ⟨ns', l, s⟩ := short_of (ns := ns) fun hn => h (List.nodup_cons.mpr ⟨hx, hn⟩)
      exact ⟨x :: ns', by simp only [List.length_cons]; omega, fun k hk => by
        rcases List.mem_cons.mp hk with e | e
        · rw [e]; exact List.mem_cons_self
        · exact List.mem_cons_of_mem _ (s k e)⟩
theorem set_count {ks ns : List Int} (hk : ks.Nodup) (h : ∀ k, k ∈ ks ↔ k ∈ ns) : ks.length ≤ ns.length ∧ (ks.length = ns.length ↔ ns.Nodup) := by
  have le := nodup_le hk fun k x => (h k).mp x
  refine ⟨le, fun e => ?_, fun hn => Nat.le_antisymm le (nodup_le hn fun k x => (h k).mpr x)⟩
  by_cases hn : ns.Nodup
  · exact hn
  · obtain ⟨ns', l, s⟩ := short_of hn
    have := nodup_le hk fun k x => s k ((h k).mp x)
    omega
end Pot

namespace Pot
open PySem PySem.Spec PyProof.Rows L2
section
variable {X : Cx} {K : PySem.W.Frag}
theorem ko_inD (hu : X.A.units + 65 < cLine) (h : X.K = K := by rfl) : OpR X (compareOp .In) (rInD K) := h ▸ op_inD hu
theorem ko_notInD (hu : X.A.units + 65 < cLine) (h : X.K = K := by rfl) : OpR X (compareOp .NotIn) (rNotInD K) := h ▸ op_notInD hu
/-- a text thrice -/
def rRep3 : R2 := fun x y H Q => ∃ z : Str, x = .str z ∧ y = .int 3 ∧ z.length ≤ 100000 ∧ ∀ z' : Str, z'.length ≤ 3 * z.length → (∀ c ∈ z'.cps.toList, c ∈ z.cps.toList) → Q (.str z') H
theorem mul3_len (z : Str) : (Txt.mul z 3).length ≤ 3 * z.length ∧ ∀ c ∈ (Txt.mul z 3).cps.toList, c ∈ z.cps.toList := by
  unfold Txt.mul
  rw [if_neg (show ¬ (3 : Int) < 1 by decide)]
  split
  · exact ⟨by omega, fun c h => h⟩
  · constructor
    · show Array.size _ ≤ _
      simp [List.replicate]
      show z.cps.size + (z.cps.size + z.cps.size) ≤ 3 * z.cps.size
      omega
    · intro c h
      simp [List.replicate] at h
      simpa using h
theorem op_rep3 : OpR X (binaryOp .Mult) rRep3 := by
  intro pins sh sg H xv yv v1 u1 Q I r1 r2 h
  obtain ⟨z, rfl, rfl, hz, q⟩ := h
  obtain ⟨tk1, rfl⟩ := r1
  obtain ⟨tk2, rfl⟩ := r2
  have m3 := mul3_len z
  refine SB.mul ⟨by decide, fun _ _ hh => ?_, fun _ _ => ?_⟩ (fun tt kk => ⟨.str (Txt.mul z 3), H, I.tok _, ⟨_, rfl⟩, q _ m3.1 m3.2⟩)
  · have : ((2 : Int) ^ 63 - 1) / 3 = 3074457345618258602 := by decide
    omega
  · have e : (3 : Int).toNat = 3 := rfl
    rw [e]
    show decide _ = false
    refine decide_eq_false ?_
    have := sizeLine_eq
    omega
end
end Pot

namespace Pot
open PySem PySem.Spec PyProof.Rows L2
open Sem (wp)
/-! ### enumerate of a list or a tuple -/
set_option maxHeartbeats 1000000 in
theorem en_new {v : Value} {ob : Obj} {Ok : Heap → Prop} (B : Begins v ob Ok) :
    Meets (Builtin.«enumerate.__new__» ⟨[.type "enumerate", v], []⟩) (fun _ R s => Ok s.heap ∧ R (.ok (.ret (.ref (s.heap.push ob).objs.size))) { s with heap := (s.heap.push ob).push { cls := .type "enumerate", data := .fields #[.none, .bool false, .ref s.heap.objs.size, rawInt 0, .none, .none] } }) :=
  .of_wp fun prog w A R st hst => by
    obtain ⟨hp, gl, dd, tt, oo⟩ := st; obtain ⟨ok1, fin⟩ := hst; have isub := sub_enumerate
    have go : ∀ {A1 : Around} {E1 : Value → Shared → Prop} {Q1 : Value → Shared → Prop}, Q1 (.ref hp.objs.size) ⟨hp.push ob, gl, dd, tt, oo⟩ → wpAny (model prog w) A1 (pyIter v) Q1 E1 ⟨hp, gl, dd, tt, oo⟩ := fun z => B.iter prog w _ _ ⟨hp, gl, dd, tt, oo⟩ _ ok1 z
    wp_walk using go
    refine wpAny_stack_any fun stk => wpAny_pure ?_
    split
    · rename_i cc _ _ _ _ _; cases (cc == Value.type "enumerate") <;> (wp_walk using go; exact ⟨_, rfl, fin⟩)
    · wp_walk using go; exact ⟨_, rfl, fin⟩
/-- some untracked cells written, nothing new -/
theorem inv_ch {X : Cx} {pins : List (Addr × Obj)} {σ : L2.St} {H : Hp} {s : Shared} {h2 : Heap} {tk : Nat} {ch : List Addr} (I : Inv X pins σ H s) (kp : ∀ b o, b ∉ ch → s.heap.get? b = some o → h2.get? b = some o) (fo : ∀ b ∈ ch, FpOk X pins H b) :
    Inv X pins σ H { s with heap := h2, toks := tk } := by
  have out : ∀ c u, H c = some u → c ∉ ch := fun c u e z => by have := (fo c z).1; rw [this] at e; cases e
  refine I.step (g' := s.gens) (d' := s.drawn) (ch := ch) (fun c hc => let ⟨_, a2, _, a4, a5, a6⟩ := fo c hc; ⟨a4, a2, a5, a6⟩) (fun c o _ _ n e _ => kp c o n e) (fun c o _ _ n e _ => ⟨o.slots, kp c o n e⟩) (fun _ _ _ _ z => z) (fun c o n e => ⟨o, kp c o n e⟩) (fun _ _ z => z) (fun _ _ _ z => z) (fun c ps e => ⟨#[], by rw [e]; simp⟩) (fun mm hm => ?_) (fun c u e => ?_) I.bare
  · obtain ⟨o, e1, e2, ho, rest⟩ := hm; exact ⟨o, e1, e2, kp _ o (fun z => (fo _ z).2.1 rfl) ho, rest⟩
  · refine (I.hok c u e).stay (fun c2 v hc q => kp c2 v ?_ q) (fun _ z => z) fun _ _ z => z
    rcases hc with z | z
    · rw [z]; exact out c u e
    · exact out c2 _ z
def ItT (K : PySem.W.Frag) (a : Addr) : It :=
  ⟨fun i H => ∃ (xs : List V) (x : V), SqT K H a xs ∧ xs[i]? = some x, fun i H v H' => ∃ T x, v = .ref T ∧ H T = none ∧ H' = upd H T (.tup [.int (i : Nat), x]) ∧ ∀ xs, SqT K H a xs → xs[i]? = some x, fun i H => ∃ xs : List V, SqT K H a xs ∧ xs.length ≤ i⟩
/-- an iterator of a tuple that has come to its end -/
theorem drawsEnd {prog : Program} {w : World} {A : Around} (hh : A.handled = none) (it t : Addr) (items : Array Value) (i : Nat) (hi : items[i]? = none) :
    Draws prog w A it [it, t] i (fun _ _ => False) (fun j h => j = i ∧ h.IsTupleIter it t j ∧ h.IsTuple t items) where
  live := fun _ _ st => let ⟨o, ho, _⟩ := st.2.1; ⟨o, ho⟩
  frame := fun _ _ _ st hk => ⟨st.1, st.2.1.at fun o e => hk it (by simp) o e, st.2.2.at fun o e => hk t (by simp) o e⟩
  item := fun j _ _ _ hj st _ => absurd st.1 (Nat.ne_of_lt hj)
  done := fun s Q E st hE => wpAny_nextOf_tuple_end hh st.2.1 st.2.2 hi hE
theorem turn_enT {P : Program} {w : World} {K : PySem.W.Frag} {elts : List Expr} {kk : Nat} {tpos : Pos} (a e it : Addr) (ne1 : e ≠ it) :
    Turn P w K (.Tuple elts kk tpos) (ItT K a) [e, it] e (fun i h => (∃ old, IsEnum h e it (0 + ((i : Nat) : Int)) old) ∧ h.IsTupleIter it a i) where
  mem := by simp
  obj := fun i h st b hb => by
    obtain ⟨⟨old, he⟩, ⟨o, ho, hc, hd⟩⟩ := st
    rcases List.mem_cons.mp hb with z | z
    · rw [z]; exact ⟨_, he, fun v q => nomatch q⟩
    · rw [List.mem_singleton.mp z]; exact ⟨o, ho, fun v q => by rw [hd] at q; cases q⟩
  keep := fun i h h' st k => let ⟨⟨old, he⟩, hi⟩ := st; ⟨⟨old, k e (by simp) _ he⟩, hi.at fun o q => k it (by simp) o q⟩
  item := by
    intro X q1 q2 q3 hc i pins s σ H E I hf st hg; subst q1 q2 q3
    obtain ⟨⟨old, he⟩, hit⟩ := st
    obtain ⟨xs, x, hq, hx⟩ := hg
    obtain ⟨its, vals_, p, _⟩ := I.tuple hq
    obtain ⟨u, hu, ru⟩ := vals_.get hx
    have at_ : its.toArray[i]? = some u := by simpa using hu
    have hlt : i < its.toArray.size := (Array.getElem?_eq_some_iff.mp at_).1
    have nt : ∀ b ∈ [e, it], a ≠ b := fun b hb z => by
      obtain ⟨o, ho, cl, _⟩ := p
      rcases List.mem_cons.mp hb with y | y
      · rw [z, y] at ho
        rw [show s.heap.get? e = _ from he] at ho; cases ho; injection cl with cl; exact absurd cl (by decide)
      · rw [z, List.mem_singleton.mp y] at ho
        obtain ⟨o2, ho2, cl2, _⟩ := hit
        rw [ho2] at ho; cases ho
        rw [cl2] at cl; injection cl with cl; exact absurd cl (by decide)
    have G := GoesN.enumFrom (elts := elts) (x1 := kk) (pos := tpos) 0 (Draws.tuple (prog := X.prog) (w := X.w) (A := X.A.in1) (I.ok.hd hc) it a (nt it (by simp)) its.toArray) e ne1 (by simp [ne1, (nt e (by simp)).symm]) (by simp)
    refine G.goes i s _ _ hlt ⟨⟨old, he⟩, hit, p⟩ fun v h2 tk hY st2 hk _ => ?_
    obtain ⟨T, t, u2, rfl, hn, hu2, hT⟩ := hY
    have eu : u2 = u := Option.some.inj (hu2.symm.trans at_)
    subst eu
    rw [Int.zero_add] at hT
    have new : ObjOk X.prog X.w (upd H T (.tup [.int (i : Nat), x])) h2 T (.tup [.int (i : Nat), x]) := ⟨by show 2 ≤ sizeLine; decide, [.int i t, u2], .cons ⟨_, rfl⟩ (.cons ru .nil), hT⟩
    have I1 : Inv X pins σ (upd H T (.tup [.int (i : Nat), x])) { s with heap := h2, toks := tk } := I.turnedNew (ch := [e, it]) (fun b ob hb q => hk b ob hb q) hf hn new
    refine ⟨.ref T, _, I1, rfl, ⟨T, x, rfl, I.hok.fresh hn, rfl, fun ys hy => by rw [I.tuple_inj hy hq]; exact hx⟩, ⟨st2.1, st2.2.1⟩, fun b hb => ?_⟩
    have hb0 := (hf b hb).1
    have hbT : b ≠ T := by
      rcases List.mem_cons.mp hb with y | y
      · rw [y]; exact Nat.ne_of_lt (Nat.lt_of_lt_of_le (Heap.lt_size he) hn)
      · rw [List.mem_singleton.mp y]
        obtain ⟨o2, ho2, _⟩ := hit
        exact Nat.ne_of_lt (Nat.lt_of_lt_of_le (Heap.lt_size ho2) hn)
    rw [upd_ne hbT]; exact hb0
  done := by
    intro X q1 q2 q3 hc i pins s σ H E I hf st hg; subst q1 q2 q3
    obtain ⟨⟨old, he⟩, hit⟩ := st
    obtain ⟨xs, hq, hx⟩ := hg
    obtain ⟨its, vals_, p, _⟩ := I.tuple hq
    have hl := vals_.length
    have nt : ∀ b ∈ [e, it], a ≠ b := fun b hb z => by
      obtain ⟨o, ho, cl, _⟩ := p
      rcases List.mem_cons.mp hb with y | y
      · rw [z, y] at ho
        rw [show s.heap.get? e = _ from he] at ho; cases ho; injection cl with cl; exact absurd cl (by decide)
      · rw [z, List.mem_singleton.mp y] at ho
        obtain ⟨o2, ho2, cl2, _⟩ := hit
        rw [ho2] at ho; cases ho
        rw [cl2] at cl; injection cl with cl; exact absurd cl (by decide)
    have G := GoesN.enumFrom (elts := elts) (x1 := kk) (pos := tpos) 0 (drawsEnd (prog := X.prog) (w := X.w) (A := X.A.in1) (I.ok.hd hc) it a its.toArray i (by simp; omega)) e ne1 (by simp [ne1, (nt e (by simp)).symm]) (by simp)
    exact G.stops s _ _ ⟨⟨old, he⟩, rfl, hit, p⟩ fun h2 tk hk _ => inv_ch I hk hf
  self := fun _ _ _ _ _ st fin => let ⟨⟨_, he⟩, _⟩ := st; wpAny_pyIter_enum he fin
/-- enumerate(v), v a list or a tuple -/
def iEnA (K : PySem.W.Frag) (ta : TA) : TI := fun σ H R => ta σ H fun vs H1 => ∃ a xs, vs = [.ref a] ∧ ((SqL K H1 a xs ∧ R (Ite K a) H1) ∨ (SqT K H1 a xs ∧ R (ItT K a) H1))
theorem pi_enA {X : Cx} {e : Expr} {ta : TA} {p pos tpos : Pos} {elts : List Expr} {kk : Nat} (hg : Gl X "enumerate") (hm : X.mg "enumerate" = none) (ha : PA X [e] ta) (hs : starEach [e] X.env = [(false, eval e X.env)] := by rfl) :
    PI X (.Tuple elts kk tpos) (.Call (.Name "enumerate" p) [e] [] pos) (iEnA X.K ta) := by
  refine ⟨fun pins s σ H R I hi => ?_⟩
  refine Call_ (ld_blt I hg hm boot_enumerate (PyProof.Rows.callWith_type1 (thn (ha.run pos pins s σ H _ I hi) fun us s1 ⟨vs, H1, I1, r1, q1⟩ => ?_) hs rfl))
  obtain ⟨a, xs, ex, q⟩ := q1
  subst ex
  cases r1 with
  | cons r rr =>
    cases rr; cases r
    rcases q with ⟨hq, q⟩ | ⟨hq, q⟩
    · obtain ⟨its, rv, p2, hz⟩ := I1.list hq
      refine call_enumerate_list p2.isList fun h2 he hit hsz hk => wpAny_pyIter_enum he ?_
      refine ⟨s1.heap.objs.size + 1, [s1.heap.objs.size + 1, s1.heap.objs.size], _, _, H1, rfl, I1.kept (t' := s1.toks) hk, turn_enum a (s1.heap.objs.size + 1) s1.heap.objs.size, ⟨⟨.none, he⟩, hit, Nat.succ_ne_self _⟩, fun b hb => ?_, q⟩
      have hge : s1.heap.objs.size ≤ b := by
        rcases List.mem_cons.mp hb with z | z
        · rw [z]; exact Nat.le_add_right _ _
        · rw [List.mem_singleton.mp z]; exact Nat.le_refl _
      exact I1.fpOk hge (I1.hok.fresh hge)
    · obtain ⟨its, rv, p2, hz⟩ := I1.tuple hq
      refine callType_new F.called_enumerate (by decide) (F.typeCall_enumerate_1 _) (F.newCall_enumerate_1 _) (fun obj => F.args_object_init_2 obj _) F.entry_enumerate_new (en_new (begins_tuple a its.toArray)) ⟨p2, ?_⟩
      have sz : (s1.heap.push { cls := .type "tuple_iterator", data := .fields #[.ref a, .int 0 0] }).objs.size = s1.heap.objs.size + 1 := Heap.size_push ..
      show _ ∧ _
      rw [sz]
      have he : IsEnum ((s1.heap.push { cls := .type "tuple_iterator", data := .fields #[.ref a, .int 0 0] }).push { cls := .type "enumerate", data := .fields #[.none, .bool false, .ref s1.heap.objs.size, rawInt 0, .none, .none] }) (s1.heap.objs.size + 1) s1.heap.objs.size (0 + ((0 : Nat) : Int)) .none := by
        have g := Heap.get?_push_size (s1.heap.push { cls := .type "tuple_iterator", data := .fields #[.ref a, .int 0 0] }) (o := { cls := .type "enumerate", data := .fields #[.none, .bool false, .ref s1.heap.objs.size, rawInt 0, .none, .none] }) rfl
        rw [sz] at g; exact g
      refine ⟨⟨_, he, rfl⟩, wpAny_pyIter_enum he ⟨s1.heap.objs.size + 1, [s1.heap.objs.size + 1, s1.heap.objs.size], _, _, H1, rfl, I1.kept (t' := s1.toks) (fun b o z => Heap.get?_push_of_some _ (Heap.get?_push_of_some _ z)), turn_enT a (s1.heap.objs.size + 1) s1.heap.objs.size (Nat.succ_ne_self _), ⟨⟨.none, he⟩, ⟨_, Heap.get?_push_of_some _ (Heap.get?_push_size _ rfl), rfl, rfl⟩⟩, fun b hb => ?_, q⟩⟩
      have hge : s1.heap.objs.size ≤ b := by
        rcases List.mem_cons.mp hb with z | z
        · rw [z]; exact Nat.le_add_right _ _
        · rw [List.mem_singleton.mp z]; exact Nat.le_refl _
      exact I1.fpOk hge (I1.hok.fresh hge)
theorem walk_enT {K : PySem.W.Frag} {a : Addr} {xs : List V} : Walk (ItT K a) xs.length (fun H => SqT K H a xs) (YPair (fun i => some (.int (i : Nat))) (fun i => xs[i]?)) := by
  refine ⟨fun i _ hi hs => ⟨xs, xs[i], hs, by simp [hi]⟩, fun _ hs => ⟨xs, hs, Nat.le_refl _⟩, fun i H v H2 _ hs y => ?_⟩
  obtain ⟨T, x, e1, e2, e3, e4⟩ := y
  exact ⟨T, .int (i : Nat), x, e1, e2, e3, rfl, e4 xs hs⟩
theorem ko_catA {X : Cx} {K : PySem.W.Frag} (h : X.K = K := by rfl) : OpR X (binaryOp .Add) (rCatA K) := h ▸ op_catA
theorem ki_enA {X : Cx} {K : PySem.W.Frag} {e : Expr} {ta : TA} {p pos tpos : Pos} {elts : List Expr} {kk : Nat} (hg : Gl X "enumerate") (hm : X.mg "enumerate" = none) (ha : PA X [e] ta) (hs : starEach [e] X.env = [(false, eval e X.env)] := by rfl) (h : X.K = K := by rfl)
    : PI X (.Tuple elts kk tpos) (.Call (.Name "enumerate" p) [e] [] pos) (iEnA K ta) := h ▸ pi_enA hg hm ha hs
end Pot

namespace Pot
open PySem PySem.Spec PyProof.Rows L2
open Sem (wp)
/-! ### zip of three lists of one length -/
def It3 (K : PySem.W.Frag) (a b c : Addr) : It :=
  ⟨fun i H => ∃ (xs ys zs : List V) (x y z : V), SqL K H a xs ∧ SqL K H b ys ∧ SqL K H c zs ∧ xs[i]? = some x ∧ ys[i]? = some y ∧ zs[i]? = some z,
   fun i H v H2 => ∃ T x y z, v = .ref T ∧ H T = none ∧ H2 = upd H T (.tup [x, y, z]) ∧ (∀ xs, SqL K H a xs → xs[i]? = some x) ∧ (∀ ys, SqL K H b ys → ys[i]? = some y) ∧ ∀ zs, SqL K H c zs → zs[i]? = some z,
   fun i H => ∃ xs ys zs : List V, SqL K H a xs ∧ SqL K H b ys ∧ SqL K H c zs ∧ xs.length ≤ i ∧ ys.length ≤ i ∧ zs.length ≤ i⟩
/-- an iterator of a list that has come to its end -/
theorem drawsEndL {prog : Program} {w : World} {A : Around} (hh : A.handled = none) (it t : Addr) (items : Array Value) (i : Nat) (hi : items[i]? = none) :
    Draws prog w A it [it, t] i (fun _ _ => False) (fun j h => j = i ∧ h.IsListIter it t j ∧ h.IsList t items) where
  live := fun _ _ st => let ⟨o, ho, _⟩ := st.2.1; ⟨o, ho⟩
  frame := fun _ _ _ st hk => ⟨st.1, st.2.1.at fun o e => hk it (by simp) o e, st.2.2.at fun o e => hk t (by simp) o e⟩
  item := fun j _ _ _ hj st _ => absurd st.1 (Nat.ne_of_lt hj)
  done := fun s Q E st hE => wpAny_nextOf_list_end hh st.2.1 st.2.2 hi hE
theorem turn_z3 {P : Program} {w : World} {K : PySem.W.Frag} {elts : List Expr} {kk : Nat} {tpos : Pos} {a b c z TI TO i1 i2 i3 : Addr} (D : ZipSep3 z TI TO i1 i2 i3 [i1, a] [i2, b] [i3, c]) (n1 : a ≠ i1) (n2 : b ≠ i2) (n3 : c ≠ i3) :
    Turn P w K (.Tuple elts kk tpos) (It3 K a b c) [z, TI, TO, i1, i2, i3] z (fun i h => IsZip h z TI TO .none ∧ IsTupOf3 h TI (.ref i1) (.ref i2) (.ref i3) ∧ (∃ x y u, IsTupOf3 h TO x y u) ∧ h.IsListIter i1 a i ∧ h.IsListIter i2 b i ∧ h.IsListIter i3 c i) where
  mem := by simp
  obj := fun i h st m hm => by
    obtain ⟨hz, hTI, ⟨x, y, u, hTO⟩, ⟨o1, e1, _, d1⟩, ⟨o2, e2, _, d2⟩, ⟨o3, e3, _, d3⟩⟩ := st
    simp only [List.mem_cons, List.not_mem_nil, or_false] at hm
    rcases hm with e | e | e | e | e | e
    · subst e; exact ⟨_, hz, fun v q => nomatch q⟩
    · subst e; exact ⟨_, hTI, fun v q => nomatch q⟩
    · subst e; exact ⟨_, hTO, fun v q => nomatch q⟩
    · subst e; exact ⟨o1, e1, fun v q => by rw [d1] at q; cases q⟩
    · subst e; exact ⟨o2, e2, fun v q => by rw [d2] at q; cases q⟩
    · subst e; exact ⟨o3, e3, fun v q => by rw [d3] at q; cases q⟩
  keep := fun i h h2 st k => by
    obtain ⟨hz, hTI, ⟨x, y, u, hTO⟩, g1, g2, g3⟩ := st
    exact ⟨k z (by simp) _ hz, k TI (by simp) _ hTI, ⟨x, y, u, k TO (by simp) _ hTO⟩, g1.at fun o q => k i1 (by simp) o q, g2.at fun o q => k i2 (by simp) o q, g3.at fun o q => k i3 (by simp) o q⟩
  item := by
    intro X q1 q2 q3 hc i pins s σ H E I hf st hg; subst q1 q2 q3
    obtain ⟨hz, hTI, ⟨x0, y0, u0, hTO⟩, g1, g2, g3⟩ := st
    obtain ⟨xs, ys, us, x, y, u, hqa, hqb, hqc, hx, hy, hu⟩ := hg
    obtain ⟨its1, vs1, p1, _⟩ := I.list hqa
    obtain ⟨its2, vs2, p2, _⟩ := I.list hqb
    obtain ⟨its3, vs3, p3, _⟩ := I.list hqc
    obtain ⟨w1, hw1, r1⟩ := vs1.get hx
    obtain ⟨w2, hw2, r2⟩ := vs2.get hy
    obtain ⟨w3, hw3, r3⟩ := vs3.get hu
    have at1 : its1.toArray[i]? = some w1 := by simpa using hw1
    have at2 : its2.toArray[i]? = some w2 := by simpa using hw2
    have at3 : its3.toArray[i]? = some w3 := by simpa using hw3
    have l1 : i < its1.toArray.size := (Array.getElem?_eq_some_iff.mp at1).1
    have l2 : i < its2.toArray.size := (Array.getElem?_eq_some_iff.mp at2).1
    have l3 : i < its3.toArray.size := (Array.getElem?_eq_some_iff.mp at3).1
    have hh := I.ok.hd hc
    have G := GoesN.zip3 (elts := elts) (x1 := kk) (pos := tpos) D (Draws.list (prog := X.prog) (w := X.w) (A := X.A.in1) hh i1 a n1 its1.toArray) (Draws.list (prog := X.prog) (w := X.w) (A := X.A.in1) hh i2 b n2 its2.toArray) (Draws.list (prog := X.prog) (w := X.w) (A := X.A.in1) hh i3 c n3 its3.toArray)
    refine G.goes i s _ _ (by omega) ⟨hz, hTI, ⟨x0, y0, u0, hTO⟩, ⟨g1, p1.isList⟩, ⟨g2, p2.isList⟩, ⟨g3, p3.isList⟩⟩ fun v h2 tk hY st2 hk _ => ?_
    obtain ⟨T, t1, t2, t3, rfl, hn, e1, e2, e3, hT⟩ := hY
    cases Option.some.inj (e1.symm.trans at1)
    cases Option.some.inj (e2.symm.trans at2)
    cases Option.some.inj (e3.symm.trans at3)
    have new : ObjOk X.prog X.w (upd H T (.tup [x, y, u])) h2 T (.tup [x, y, u]) := ⟨by show 3 ≤ sizeLine; decide, [w1, w2, w3], .cons r1 (.cons r2 (.cons r3 .nil)), hT⟩
    have I1 : Inv X pins σ (upd H T (.tup [x, y, u])) { s with heap := h2, toks := tk } := I.turnedNew (ch := [z, TI, TO, i1, i2, i3]) (fun m ob hm q => hk m ob (fun e => hm (by simp only [List.mem_cons, List.not_mem_nil, or_false] at e ⊢; rcases e with e | e | e | e | e <;> simp [e])) q) hf hn new
    refine ⟨.ref T, _, I1, rfl, ⟨T, x, y, u, rfl, I.hok.fresh hn, rfl, fun l hl => by rw [I.list_inj hl hqa]; exact hx, fun l hl => by rw [I.list_inj hl hqb]; exact hy, fun l hl => by rw [I.list_inj hl hqc]; exact hu⟩, ⟨st2.1, st2.2.1, st2.2.2.1, st2.2.2.2.1.1, st2.2.2.2.2.1.1, st2.2.2.2.2.2.1⟩, fun m hm => ?_⟩
    have hm0 := (hf m hm).1
    have live : ∃ o, s.heap.get? m = some o := by
      obtain ⟨o1, f1, _⟩ := g1
      obtain ⟨o2, f2, _⟩ := g2
      obtain ⟨o3, f3, _⟩ := g3
      simp only [List.mem_cons, List.not_mem_nil, or_false] at hm
      rcases hm with e | e | e | e | e | e
      · subst e; exact ⟨_, hz⟩
      · subst e; exact ⟨_, hTI⟩
      · subst e; exact ⟨_, hTO⟩
      · subst e; exact ⟨_, f1⟩
      · subst e; exact ⟨_, f2⟩
      · subst e; exact ⟨_, f3⟩
    obtain ⟨o, ho⟩ := live
    rw [upd_ne (Nat.ne_of_lt (Nat.lt_of_lt_of_le (Heap.lt_size ho) hn))]; exact hm0
  done := by
    intro X q1 q2 q3 hc i pins s σ H E I hf st hg; subst q1 q2 q3
    obtain ⟨hz, hTI, ⟨x0, y0, u0, hTO⟩, g1, g2, g3⟩ := st
    obtain ⟨xs, ys, us, hqa, hqb, hqc, hx, hy, hu⟩ := hg
    obtain ⟨its1, vs1, p1, _⟩ := I.list hqa
    obtain ⟨its2, vs2, p2, _⟩ := I.list hqb
    obtain ⟨its3, vs3, p3, _⟩ := I.list hqc
    have m1 := vs1.length
    have m2 := vs2.length
    have m3 := vs3.length
    have hh := I.ok.hd hc
    have G := GoesN.zip3 (elts := elts) (x1 := kk) (pos := tpos) D (drawsEndL (prog := X.prog) (w := X.w) (A := X.A.in1) hh i1 a its1.toArray i (by simp; omega)) (drawsEndL (prog := X.prog) (w := X.w) (A := X.A.in1) hh i2 b its2.toArray i (by simp; omega)) (drawsEndL (prog := X.prog) (w := X.w) (A := X.A.in1) hh i3 c its3.toArray i (by simp; omega))
    rw [Nat.min_self, Nat.min_self] at G
    exact G.stops s _ _ ⟨hz, hTI, ⟨x0, y0, u0, hTO⟩, ⟨rfl, g1, p1.isList⟩, ⟨rfl, g2, p2.isList⟩, ⟨rfl, g3, p3.isList⟩⟩ fun h2 tk hk _ => inv_ch (ch := [z, TI, TO, i1, i2, i3]) I (fun m o hm q => hk m o (fun e => hm (by simp only [List.mem_cons, List.not_mem_nil, or_false] at e ⊢; rcases e with e | e | e | e | e <;> simp [e])) q) hf
  self := fun _ _ _ _ _ st fin => wpAny_pyIter_zip st.1 fin
def iZip3 (K : PySem.W.Frag) (ta : TA) : TI := fun σ H R => ta σ H fun vs H1 => ∃ a b c xs ys zs, vs = [.ref a, .ref b, .ref c] ∧ SqL K H1 a xs ∧ SqL K H1 b ys ∧ SqL K H1 c zs ∧ R (It3 K a b c) H1
theorem pi_zip3 {X : Cx} {e e2 e3 : Expr} {ta : TA} {p pos tpos : Pos} {elts : List Expr} {kk : Nat} (hg : Gl X "zip") (hm : X.mg "zip" = none) (ha : PA X [e, e2, e3] ta)
    (hs : starEach [e, e2, e3] X.env = (false, eval e X.env) :: starEach [e2, e3] X.env := by rfl) (hpl : (backTo pos (starEach [e2, e3] X.env)).any (·.1) = false := by rfl) :
    PI X (.Tuple elts kk tpos) (.Call (.Name "zip" p) [e, e2, e3] [] pos) (iZip3 X.K ta) := by
  refine ⟨fun pins s σ H R I hi => ?_⟩
  refine Call_ (ld_blt I hg hm PyProof.Rows.boot_zip (PyProof.Rows.callWith_type1 (thn (ha.run pos pins s σ H _ I hi) fun us s1 ⟨vs, H1, I1, r1, q1⟩ => ?_) hs hpl))
  obtain ⟨a, b, c, xs, ys, zs, ex, qa, qb, qc, q⟩ := q1
  subst ex
  cases r1 with
  | cons ra rr =>
    cases rr with
    | cons rb rr =>
      cases rr with
      | cons rc rr =>
        cases rr; cases ra; cases rb; cases rc
        obtain ⟨its1, _, p1, _⟩ := I1.list qa
        obtain ⟨its2, _, p2, _⟩ := I1.list qb
        obtain ⟨its3, _, p3, _⟩ := I1.list qc
        refine zip_begins3 (begins_list a its1.toArray) (begins_list b its2.toArray) (begins_list c its3.toArray) p1.isList p2.isList p3.isList fun h2 hz hTI hTO f1 f2 f3 hsz hk => wpAny_pyIter_zip hz ?_
        have below : ∀ {l : Addr} {its : List Value} {n : Nat}, s1.heap.get? l = some { cls := .type "list", data := .seq its.toArray n } → ∀ m ∈ [l], m < s1.heap.objs.size := fun h m hm => by rw [List.mem_singleton.mp hm]; exact Heap.lt_size h
        refine ⟨s1.heap.objs.size + 5, [s1.heap.objs.size + 5, s1.heap.objs.size + 3, s1.heap.objs.size + 4, s1.heap.objs.size, s1.heap.objs.size + 1, s1.heap.objs.size + 2], _, _, H1, rfl, I1.kept (t' := s1.toks) hk, turn_z3 (zip_sep3 (N := s1.heap.objs.size) (fp1 := [a]) (fp2 := [b]) (fp3 := [c]) ?_ ?_ ?_) ?_ ?_ ?_, ⟨hz, hTI, ⟨_, _, _, hTO⟩, ⟨_, f1, rfl, rfl⟩, ⟨_, f2, rfl, rfl⟩, ⟨_, f3, rfl, rfl⟩⟩, fun m hm => ?_, q⟩
        · exact fun m hm => by rw [List.mem_singleton.mp hm]; exact p1.lt
        · exact fun m hm => by rw [List.mem_singleton.mp hm]; exact p2.lt
        · exact fun m hm => by rw [List.mem_singleton.mp hm]; exact p3.lt
        · exact Nat.ne_of_lt p1.lt
        · exact Nat.ne_of_lt (Nat.lt_of_lt_of_le p2.lt (Nat.le_add_right _ _))
        · exact Nat.ne_of_lt (Nat.lt_of_lt_of_le p3.lt (Nat.le_add_right _ _))
        · have hge : s1.heap.objs.size ≤ m := by
            simp only [List.mem_cons, List.not_mem_nil, or_false] at hm
            rcases hm with e | e | e | e | e | e <;> (rw [e]; first | exact Nat.le_refl _ | exact Nat.le_add_right _ _)
          exact I1.fpOk hge (I1.hok.fresh hge)
theorem ki_zip3 {X : Cx} {K : PySem.W.Frag} {e e2 e3 : Expr} {ta : TA} {p pos tpos : Pos} {elts : List Expr} {kk : Nat} (hg : Gl X "zip") (hm : X.mg "zip" = none) (ha : PA X [e, e2, e3] ta)
    (hs : starEach [e, e2, e3] X.env = (false, eval e X.env) :: starEach [e2, e3] X.env := by rfl) (hpl : (backTo pos (starEach [e2, e3] X.env)).any (·.1) = false := by rfl) (h : X.K = K := by rfl) :
    PI X (.Tuple elts kk tpos) (.Call (.Name "zip" p) [e, e2, e3] [] pos) (iZip3 K ta) := h ▸ pi_zip3 hg hm ha hs hpl
def Y3 (f g k : Nat → Option V) : Nat → Hp → V → Hp → Prop := fun i H v H2 => ∃ T x y z, v = .ref T ∧ H T = none ∧ H2 = upd H T (.tup [x, y, z]) ∧ f i = some x ∧ g i = some y ∧ k i = some z
theorem walk_z3 {K : PySem.W.Frag} {a b c : Addr} {xs ys zs : List V} (h1 : ys.length = xs.length) (h2 : zs.length = xs.length) : Walk (It3 K a b c) xs.length (fun H => SqL K H a xs ∧ SqL K H b ys ∧ SqL K H c zs) (Y3 (fun i => xs[i]?) (fun i => ys[i]?) (fun i => zs[i]?)) := by
  refine ⟨fun i _ hi hs => ⟨xs, ys, zs, xs[i], ys[i]'(by omega), zs[i]'(by omega), hs.1, hs.2.1, hs.2.2, by simp [hi], by simp [show i < ys.length by omega], by simp [show i < zs.length by omega]⟩, fun _ hs => ⟨xs, ys, zs, hs.1, hs.2.1, hs.2.2, by omega, by omega, by omega⟩, fun i H v H2 _ hs y => ?_⟩
  obtain ⟨T, x, y, z, e1, e2, e3, e4, e5, e6⟩ := y
  exact ⟨T, x, y, z, e1, e2, e3, e4 xs hs.1, e5 ys hs.2.1, e6 zs hs.2.2⟩
end Pot

namespace Pot
open PySem PySem.Spec PyProof.Rows L2
open PySem.Calls
open PySem.W (sortingHeap copyHeap sortLe alike alikeAll keyToks keyToksAll dataLt dataKind KatLex SortsAt sortVals dataType EachIs)
/-! ### sorted of rows that are told apart by parts that can be compared -/
/-- up to the first part in which they differ, that one too, two rows are alike -/
def okCmp : List PyData → List PyData → Bool
  | x :: xs, y :: ys => alike x y && (!PyData.eqv x y || okCmp xs ys)
  | [], [] => true
  | _, _ => false
section
variable {prog : Program} {w : World} {A : Around} {s : Shared}
theorem kat_ok {b fin : Bool} {Q : Bool → Shared → Prop} : ∀ (xs ys : List PyData) (i : Nat) (vs ws : List Value) (as bs : List Addr), ReadsAll s.heap vs xs as → ReadsAll s.heap ws ys bs → okCmp xs ys = true → A.units + min (PyData.depthAll xs) (PyData.depthAll ys) < cLine → (b = true → i = 0 → ∀ x r t, xs = x :: r → x ≠ .tuple t) → fin = decide (xs.length < ys.length) →
    Q (PyProof.Rows.lexLt itemOrd (keyToksAll xs) (keyToksAll ys)) s → KatLex prog w A b fin Q (vs.zip ws) i s := by
  intro xs
  induction xs with
  | nil =>
    intro ys i vs ws as bs ra rb ok hu hb hf hq
    have := PySem.W.katLex_alike (prog := prog) (w := w) (A := A) (s := s) (b := b) (fin := fin) (Q := Q) [] ys i vs ws as bs ra rb
    cases ys with
    | nil => exact this rfl hu hb hf hq
    | cons y ys => cases ok
  | cons x xs ih =>
    intro ys i vs ws as bs ra rb ok hu hb hf hq
    cases ys with
    | nil => cases ok
    | cons y ys =>
      obtain ⟨al, nx⟩ := Bool.and_eq_true_iff.mp ok
      have hf2 : fin = decide (xs.length < ys.length) := by rw [hf]; simp only [List.length_cons, Nat.add_lt_add_iff_right]
      cases ra with
      | cons r rs =>
        cases rb with
        | cons r2 rs2 =>
          rw [List.zip_cons_cons]
          refine PySem.W.kat_cons (PySem.W.eqAt_alike x y A s _ _ _ _ r r2 al (SeqAt.room_head hu) prog w _ _ ?_)
          cases ex : PyData.eqv x y with
          | true =>
            rw [PySem.W.dataLt_all_yes al ex] at hq
            rw [ex] at nx
            exact PySem.W.kat_yes (ih ys (i + 1) _ _ _ _ rs rs2 nx (SeqAt.room_tail hu) (fun _ h0 => absurd h0 (Nat.succ_ne_zero i)) hf2 hq)
          | false =>
            rw [PySem.W.dataLt_all_no al ex] at hq
            refine PySem.W.kat_no (PySem.W.oneLt_alike (fun hbi t => ?_) r r2 al (PySem.W.ne_none_of al ex) (SeqAt.room_head hu) hq)
            obtain ⟨b1, b2⟩ := Bool.and_eq_true_iff.mp hbi
            exact hb b1 (by simpa using b2) x xs t rfl
theorem key_of {h : Heap} {ds : List PyData} {v : Value} {d : PyData} {as : List Addr} (hd : d ∈ ds) (r : Reads h v d as) : (dataKind h ds).keyOf v = some (keyToks d) := by
  have ex : ∃ e, e ∈ ds ∧ ∃ bs, Reads h v e bs := ⟨d, hd, as, r⟩
  have eq1 : (dataKind h ds).keyOf v = some (keyToks ex.choose) := dif_pos ex
  obtain ⟨_, bs, r2⟩ := ex.choose_spec
  rw [eq1, (Reads.unique r2 _ _ r).1]
/-- rows that can be sorted: tuples with a first part, the first parts alike, each two comparable -/
structure RowsCmp (ds : List PyData) : Prop where
  form : ∀ d ∈ ds, ∃ x r, d = .tuple (x :: r)
  first : ∀ x r x2 r2, PyData.tuple (x :: r) ∈ ds → PyData.tuple (x2 :: r2) ∈ ds → alike x x2 = true
  cmp : ∀ xs ys, PyData.tuple xs ∈ ds → PyData.tuple ys ∈ ds → okCmp xs ys = true
theorem sorts_rows {vs : List Value} {ds : List PyData} (e : EachIs (fun v d => ∃ as, Reads s.heap v d as) vs ds) (W : RowsCmp ds) (hu : ∀ d, d ∈ ds → A.units + d.depth < cLine) : SortsAt prog w A s (dataKind s.heap ds) vs := by
  refine ⟨fun v hv => ?_, ?_⟩
  · obtain ⟨d, hd, as, r⟩ := e.left v hv
    exact ⟨_, key_of hd r⟩
  · cases hds : ds with
    | nil =>
      rw [hds] at e
      cases e
      exact ⟨general', fun E x y a b Q ha _ _ => (by obtain ⟨d, _, hd, _⟩ := PySem.W.dataKind_inv ha; exact absurd hd (by simp)), fun h2 => absurd h2 (by simp)⟩
    | cons d0 ds0 =>
      rw [← hds]
      have m0 : d0 ∈ ds := by rw [hds]; exact List.mem_cons_self
      obtain ⟨x0, r0, e0⟩ := W.form d0 m0
      have m0 : PyData.tuple (x0 :: r0) ∈ ds := by rw [← e0]; exact m0
      refine ⟨tuples' (dataType x0 != Value.type "tuple"), ?_, fun h2 E Q hq => ?_⟩
      · intro E x y a b Q ha hb hq
        obtain ⟨d, as, hd, ra, rfl⟩ := PySem.W.dataKind_inv ha
        obtain ⟨d2, as2, hd2, rb, rfl⟩ := PySem.W.dataKind_inv hb
        obtain ⟨x1, r1, rfl⟩ := W.form d hd
        obtain ⟨x2, r2, rfl⟩ := W.form d2 hd2
        have room : A.units + min (PyData.tuple (x1 :: r1)).depth (PyData.tuple (x2 :: r2)).depth < cLine := Nat.lt_of_le_of_lt (Nat.add_le_add_left (Nat.min_le_left _ _) _) (hu _ hd)
        have hq2 : Q (dataLt (.tuple (x1 :: r1)) (.tuple (x2 :: r2))) s := hq
        rw [PySem.W.dataLt_tuple] at hq2
        cases ra with
        | @tuple l o us n _ _ h1 h2 h3 h4 =>
          cases rb with
          | @tuple l2 o2 us2 n2 _ _ k1 k2 k3 k4 =>
            have z1 : us.size = (x1 :: r1).length := by simpa using SeqAt.ReadsAll.length _ _ _ h4
            have z2 : us2.size = (x2 :: r2).length := by simpa using SeqAt.ReadsAll.length _ _ _ k4
            refine PySem.W.kat_lt h1 h3 k1 k3 (kat_ok (prog := prog) (w := w) (A := A) (s := s) (x1 :: r1) (x2 :: r2) 0 _ _ _ _ h4 k4 (W.cmp _ _ hd hd2) (by have := SeqAt.room_in room; omega) (fun hb1 _ xx rr t ex => ?_) (by rw [z1, z2]) hq2)
            obtain ⟨rfl, rfl⟩ := List.cons.inj ex
            rw [← PySem.W.dataType_alike (W.first _ _ _ _ hd m0)] at hb1
            exact PySem.W.dataType_tuple hb1 t
      · obtain ⟨fs, t1, t2, t3⟩ := PySem.W.each_katTups e W.form
        refine PySem.W.kat_kind (T := dataType x0) t1 (by omega) (fun f hf => ?_) (beq_self_eq_true _) hq
        obtain ⟨xx, rr, as, m1, m2⟩ := t3 f hf
        rw [← PySem.W.dataType_alike (W.first _ _ _ _ m1 m0)]
        exact PySem.W.looks_reads m2
end
theorem perm_lift {α β : Type} (f : α → β) {out l : List β} (h : out.Perm l) : ∀ L : List α, L.map f = l → ∃ L2 : List α, L2.Perm L ∧ L2.map f = out := by
  induction h with
  | nil => intro L e; exact ⟨L, .refl _, e⟩
  | cons x _ ih =>
    intro L e
    cases L with
    | nil => cases e
    | cons y L =>
      obtain ⟨e1, e2⟩ := List.cons.inj e
      obtain ⟨L2, p2, m2⟩ := ih L e2
      exact ⟨y :: L2, p2.cons y, by rw [List.map_cons, m2, e1]⟩
  | swap x y l =>
    intro L e
    match L, e with
    | a :: b :: L, e =>
      obtain ⟨e1, e2⟩ := List.cons.inj e
      obtain ⟨e2, e3⟩ := List.cons.inj e2
      exact ⟨b :: a :: L, .swap a b L, by rw [List.map_cons, List.map_cons, e1, e2, e3]⟩
  | trans _ _ ih1 ih2 =>
    intro L e
    obtain ⟨L2, p2, m2⟩ := ih2 L e
    obtain ⟨L3, p3, m3⟩ := ih1 L2 m2
    exact ⟨L3, p3.trans p2, m3⟩
section
variable {X : Cx} {K : PySem.W.Frag}
theorem each_reads {pins : List (Addr × Obj)} {σ : L2.St} {H : Hp} {s : Shared} (I : Inv X pins σ H s) : ∀ {xs : List V} {its : List Value} {ds : List PyData}, Vals xs its → DpAll X.K H xs ds → ∃ L : List (Value × V × PyData), L.map (·.1) = its ∧ L.map (·.2.1) = xs ∧ L.map (·.2.2) = ds ∧ ∀ t ∈ L, RelV t.2.1 t.1 ∧ Dp X.K H t.2.1 t.2.2
  | _, _, _, .nil, .nil => ⟨[], rfl, rfl, rfl, fun _ h => (List.not_mem_nil h).elim⟩
  | _, _, _, .cons (a := x) (b := u) r rs, .cons (d := d) p ps => by
    obtain ⟨L, h1, h2, h3, h4⟩ := each_reads I rs ps
    refine ⟨(u, x, d) :: L, by rw [List.map_cons, h1], by rw [List.map_cons, h2], by rw [List.map_cons, h3], fun t ht => ?_⟩
    rcases List.mem_cons.mp ht with e | e
    · rw [e]; exact ⟨r, p⟩
    · exact h4 t e
/-- sorted of a list of rows: a new list of the same ones -/
def rSortedR (K : PySem.W.Frag) : List V → Hp → VK → Prop := fun vs H Q => ∃ (a : Addr) (xs : List V) (ds : List PyData), vs = [V.ref a] ∧ SqL K H a xs ∧ DpAll K H xs ds ∧ RowsCmp ds ∧ (∀ d ∈ ds, d.depth ≤ 60) ∧
  ∀ (zs : List V) (es : List PyData) (p : Addr), DpAll K H zs es → es.Perm ds → H p = none → Q (.ref p) (upd H p (.lst zs))
theorem cr_sortedR (hu : X.A.units + 70 < cLine) : CallR X (.builtin "sorted") (rSortedR X.K) := by
  intro pins s σ H vs0 us0 Q I r h
  obtain ⟨a, xs, ds, rfl, hs, da, W, dep, q⟩ := h
  obtain ⟨its, rv, hl, hz⟩ := I.list hs
  rw [Vals.ref1 r]
  obtain ⟨L, e1, e2, e3, all⟩ := each_reads I rv da
  have er : EachIs (fun v d => ∃ as, Reads s.heap v d as) its ds := by
    rw [← e1, ← e3]
    clear e1 e2 e3
    induction L with
    | nil => exact .nil
    | cons t L ih =>
      have ht := all t List.mem_cons_self
      exact .cons (Dp.reads I _ _ _ ht.2 ht.1) (ih fun x hx => all x (List.mem_cons_of_mem _ hx))
  have ll : its.length = xs.length := by rw [← e1, ← e2, List.length_map, List.length_map]
  have ln : its.length ≤ sizeLine := by rw [ll]; exact hz
  have er' : EachIs (fun v d => ∃ as, Reads (sortingHeap (copyHeap s.heap its) (s.heap.objs.size + 1) its) v d as) its ds := er.mono fun _ _ ⟨as, r⟩ => ⟨as, PyProof.Rows.Reads.keeps (fun _ _ => PySem.W.sorting_copy_old) r⟩
  have S := sorts_rows (prog := X.prog) (w := X.w) (A := X.A.in1.in1) (s := { s with heap := sortingHeap (copyHeap s.heap its) (s.heap.objs.size + 1) its }) er' W (fun d hd => by have := dep d hd; simp only [Around.in1]; omega)
  refine PySem.W.sorted_vals hl.isList S ln ?_
  generalize eo : sortVals _ false its its = out
  have po : out.Perm its := by
    rw [← eo]
    unfold sortVals
    have := (List.mergeSort_perm (its.zip its) (sortLe (dataKind (sortingHeap (copyHeap s.heap its) (s.heap.objs.size + 1) its) ds).toKeyOrd false fun p : Keyed => PySem.W.keyD (dataKind (sortingHeap (copyHeap s.heap its) (s.heap.objs.size + 1) its) ds) p.1)).map Prod.snd
    rw [List.map_snd_zip (Nat.le_refl _)] at this
    exact this
  obtain ⟨L2, p2, m2⟩ := perm_lift (·.1) po L e1
  have rv2 : Vals (L2.map (·.2.1)) out := by
    rw [← m2]
    clear m2
    have hh : ∀ t ∈ L2, RelV t.2.1 t.1 := fun t ht => (all t (p2.mem_iff.mp ht)).1
    clear p2
    induction L2 with
    | nil => exact .nil
    | cons t L2 ih => exact .cons (hh t List.mem_cons_self) (ih fun x hx => hh x (List.mem_cons_of_mem _ hx))
  have dp2 : DpAll X.K H (L2.map (·.2.1)) (L2.map (·.2.2)) := by
    have hh : ∀ t ∈ L2, Dp X.K H t.2.1 t.2.2 := fun t ht => (all t (p2.mem_iff.mp ht)).2
    clear p2 m2 rv2
    induction L2 with
    | nil => exact .nil
    | cons t L2 ih => exact .cons (hh t List.mem_cons_self) (ih fun x hx => hh x (List.mem_cons_of_mem _ hx))
  have pd : (L2.map (·.2.2)).Perm ds := by rw [← e3]; exact p2.map _
  obtain ⟨ep, hat⟩ := PyProof.Rows.sortedAll_at s.heap its out.toArray
  have fr : H (s.heap.objs.size + 1) = none := I.hok.fresh (Nat.le_succ _)
  exact ⟨.ref _, upd H (s.heap.objs.size + 1) (.lst (L2.map (·.2.1))), I.laid (t' := s.toks) (fun _ _ => PyProof.Rows.sortedAll_old) (Nat.le_succ _) ⟨by rw [List.length_map, p2.length_eq, ← List.length_map (f := fun x : Value × V × PyData => x.1), e1]; exact ln, out, ep, rv2, hat⟩, rfl, q _ _ _ dp2 pd fr⟩
theorem kc_sortedR (hu : X.A.units + 70 < cLine) (h : X.K = K := by rfl) : CallR X (.builtin "sorted") (rSortedR K) := h ▸ cr_sortedR hu
end
end Pot

namespace Pot
open PySem PySem.Spec PyProof.Rows L2
/-! ### a box of three numbers: the second below 2 ^ 62, the last at most n -/
def Bp (H : Hp) (b : Addr) (n : Nat) : Prop := ∃ x y z : Int, H b = some (.lst [.int x, .int y, .int z]) ∧ 0 ≤ z ∧ z ≤ n ∧ 0 ≤ y ∧ y < 2 ^ 62
section
variable {H H' : Hp} {b p : Addr} {n m : Nat} {o : HO}
theorem Bp.bx (B : Bp H b n) : Bx H b := by
  obtain ⟨x, y, z, h, _⟩ := B
  exact ⟨x, y, z, h⟩
theorem Bp.same (B : Bp H b n) (s : Same H H') : Bp H' b n := by
  obtain ⟨x, y, z, h, h2⟩ := B
  exact ⟨x, y, z, s _ _ h, h2⟩
theorem Bp.put (B : Bp H b n) (h : H p = none) : Bp (upd H p o) b n := B.same (same_upd h)
theorem Bp.wr (B : Bp H b n) (h : p ≠ b) : Bp (upd H p o) b n := by
  obtain ⟨x, y, z, e, h2⟩ := B
  exact ⟨x, y, z, by rw [upd_ne h.symm]; exact e, h2⟩
theorem Bp.mono (B : Bp H b n) (h : n ≤ m) : Bp H b m := by
  obtain ⟨x, y, z, e, h1, h2, h3⟩ := B
  exact ⟨x, y, z, e, h1, by omega, h3⟩
theorem Bp.ne (B : Bp H b n) (h : H p = none) : p ≠ b := B.bx.ne h
theorem Live.pw (B : Bp H b n) : Live [b] H := Live.one B.bx
end
end Pot

namespace Pot
open PySem PySem.Spec PyProof.Rows L2
/-! ### the names of cluster C: unlike each other -/
def Nm (z : Str) : Prop := Wd 8 z ∧ 0 < z.length
def ltN (x : Int) : Str := ⟨#[97 + x.toNat]⟩
theorem str_app (a b : Str) : (a ++ b).cps.toList = a.cps.toList ++ b.cps.toList := by
  show (a.cps ++ b.cps).toList = _
  simp
theorem str_eq {a b : Str} (h : a = b) : a.cps.toList = b.cps.toList := by rw [h]
theorem ltN_list (x : Int) : (ltN x).cps.toList = [97 + x.toNat] := rfl
theorem ltN_len (x : Int) : (ltN x).length = 1 := rfl
def vlN (fi stp : Int) (i : Nat) : Int := (fi + stp * (0 + (i : Int))) % 676
def bsN (hd tl : Str) (fi stp : Int) (i : Nat) : Str := hd ++ ltN (vlN fi stp i / 26) ++ ltN (vlN fi stp i % 26) ++ tl
def nmN (hd tl : Str) (fi stp lo : Int) (i : Nat) : Str := if lo = 1 ∧ i % 2 = 1 then bsN hd tl fi stp (i - 1) ++ ltN ((fi + (0 + (i : Int))) % 26) else bsN hd tl fi stp i
def StpN (s : Int) : Prop := s = 1 ∨ s = 3 ∨ s = 5 ∨ s = 7 ∨ s = 25 ∨ s = 675
theorem vlN_pos (fi stp : Int) (i : Nat) : 0 ≤ vlN fi stp i ∧ vlN fi stp i < 676 := ⟨Int.emod_nonneg _ (by decide), Int.emod_lt_of_pos _ (by decide)⟩
theorem bsN_len (hd tl : Str) (fi stp : Int) (i : Nat) : (bsN hd tl fi stp i).length = hd.length + 2 + tl.length := by
  unfold bsN
  rw [strLen_append, strLen_append, strLen_append, ltN_len, ltN_len]
theorem bsN_wd {hd tl : Str} (h1 : Wd 3 hd) (h2 : Wd 2 tl) (fi stp : Int) (i : Nat) : Wd 7 (bsN hd tl fi stp i) ∧ 0 < (bsN hd tl fi stp i).length := by
  have := vlN_pos fi stp i
  refine ⟨wd_add (wd_add (wd_add h1 (wd_letter (by omega) (by omega))) (wd_letter (by omega) (by omega))) h2, ?_⟩
  rw [bsN_len]; omega
theorem nmN_nm {hd tl : Str} (h1 : Wd 3 hd) (h2 : Wd 2 tl) (fi stp lo : Int) (i : Nat) : Nm (nmN hd tl fi stp lo i) := by
  unfold nmN
  have l0 : 0 ≤ (fi + (0 + (i : Int))) % 26 := Int.emod_nonneg _ (by decide)
  have l1 : (fi + (0 + (i : Int))) % 26 < 26 := Int.emod_lt_of_pos _ (by decide)
  by_cases h : lo = 1 ∧ i % 2 = 1
  · rw [if_pos h]
    have b := bsN_wd h1 h2 fi stp (i - 1)
    exact ⟨wd_add b.1 (wd_letter l0 l1), by rw [strLen_append]; have := b.2; omega⟩
  · rw [if_neg h]
    have b := bsN_wd h1 h2 fi stp i
    exact ⟨b.1.mono (by decide), b.2⟩
theorem stp_inj {fi stp : Int} (s : StpN stp) {i j : Nat} (hi : i < 12) (hj : j < 12) (h : vlN fi stp i = vlN fi stp j) : i = j := by
  unfold vlN at h
  rcases s with rfl | rfl | rfl | rfl | rfl | rfl <;> omega
theorem stp_inj26 {fi stp : Int} (s : StpN stp) {i j : Nat} (hi : i < 12) (hj : j < 12) (h : (fi + stp * (0 + (i : Int))) % 26 = (fi + stp * (0 + (j : Int))) % 26) : i = j := by
  rcases s with rfl | rfl | rfl | rfl | rfl | rfl <;> omega
theorem bsN_inj {hd tl : Str} {fi stp : Int} (s : StpN stp) {i j : Nat} (hi : i < 12) (hj : j < 12) (h : bsN hd tl fi stp i = bsN hd tl fi stp j) : i = j := by
  have h2 := str_eq h
  unfold bsN at h2
  simp only [str_app, ltN_list, List.append_assoc, List.append_cancel_left_eq, List.cons_append, List.nil_append, List.cons.injEq] at h2
  have a := vlN_pos fi stp i
  have b := vlN_pos fi stp j
  exact stp_inj (fi := fi) s hi hj (by omega)
theorem nmN_inj {hd tl : Str} {fi stp lo : Int} (s : StpN stp) {i j : Nat} (hi : i < 12) (hj : j < 12) (h : nmN hd tl fi stp lo i = nmN hd tl fi stp lo j) : i = j := by
  unfold nmN at h
  by_cases c1 : lo = 1 ∧ i % 2 = 1 <;> by_cases c2 : lo = 1 ∧ j % 2 = 1
  · rw [if_pos c1, if_pos c2] at h
    have h2 := str_eq h
    rw [str_app, str_app] at h2
    have l : (bsN hd tl fi stp (i - 1)).cps.toList.length = (bsN hd tl fi stp (j - 1)).cps.toList.length := by
      have e1 := bsN_len hd tl fi stp (i - 1)
      have e2 := bsN_len hd tl fi stp (j - 1)
      rw [Array.length_toList, Array.length_toList]
      exact e1.trans e2.symm
    have h3 := (List.append_inj h2 l).1
    have h4 : bsN hd tl fi stp (i - 1) = bsN hd tl fi stp (j - 1) := by
      cases e1 : bsN hd tl fi stp (i - 1) with
      | mk x => cases e2 : bsN hd tl fi stp (j - 1) with
        | mk y =>
          rw [e1, e2] at h3
          exact congrArg Str.mk (Array.toList_inj.mp h3)
    have := bsN_inj s (i := i - 1) (j := j - 1) (by omega) (by omega) h4
    omega
  · rw [if_pos c1, if_neg c2] at h
    have := congrArg Str.length h
    rw [strLen_append, bsN_len, bsN_len, ltN_len] at this
    omega
  · rw [if_neg c1, if_pos c2] at h
    have := congrArg Str.length h
    rw [strLen_append, bsN_len, bsN_len, ltN_len] at this
    omega
  · rw [if_neg c1, if_neg c2] at h
    exact bsN_inj s hi hj h
theorem nodup_map_range {f : Nat → Str} {m : Nat} (h : ∀ i j, i < m → j < m → f i = f j → i = j) : ((List.range m).map f).Nodup := by
  rw [List.Nodup, List.pairwise_map]
  refine List.Pairwise.imp_of_mem (fun {a b} ha hb hab e => ?_) (List.nodup_range (n := m))
  exact hab (h a b (List.mem_range.mp ha) (List.mem_range.mp hb) e)
theorem nmN_nodup {hd tl : Str} {fi stp lo : Int} (s : StpN stp) {m : Nat} (hm : m ≤ 12) : ((List.range m).map (nmN hd tl fi stp lo)).Nodup :=
  nodup_map_range fun i j hi hj h => nmN_inj s (by omega) (by omega) h
theorem letN_nodup {fi stp : Int} (s : StpN stp) {m : Nat} (hm : m ≤ 12) : ((List.range m).map fun i : Nat => ltN ((fi + stp * (0 + (i : Int))) % 26)).Nodup :=
  nodup_map_range fun i j hi hj h => by
    have h2 := str_eq h
    rw [ltN_list, ltN_list] at h2
    have h3 := (List.cons.inj h2).1
    have a0 : 0 ≤ (fi + stp * (0 + (i : Int))) % 26 := Int.emod_nonneg _ (by decide)
    have b0 : 0 ≤ (fi + stp * (0 + (j : Int))) % 26 := Int.emod_nonneg _ (by decide)
    exact stp_inj26 (fi := fi) s (by omega) (by omega) (by omega)
def wordsN : List Str := ["never", "at", "undo", "slots", "done", "wash", "pot", "kind", "fill", "gather", "team", "colour"]
theorem words_eq : Txt.split (Str.ofString "never at undo slots done wash pot kind fill gather team colour") (Str.ofString " ") = wordsN := by decide +kernel
theorem words_nm : ∀ z ∈ wordsN, Nm z := by
  unfold Nm Wd wordsN
  decide +kernel
theorem words_nodup : ∀ j : Nat, j < 12 → ((wordsN ++ wordsN).drop j |>.take 12).Nodup := by
  unfold wordsN
  decide +kernel
theorem words_cut {j m : Nat} (hj : j < 12) (hm : m ≤ 12) : ((wordsN ++ wordsN).drop j |>.take m).Nodup ∧ ((wordsN ++ wordsN).drop j |>.take m).length = m ∧ ∀ z ∈ ((wordsN ++ wordsN).drop j |>.take m), Nm z := by
  refine ⟨?_, ?_, fun z hz => ?_⟩
  · have := words_nodup j hj
    have e : ((wordsN ++ wordsN).drop j |>.take m) = (((wordsN ++ wordsN).drop j |>.take 12).take m) := by rw [List.take_take, Nat.min_eq_left hm]
    rw [e]
    exact this.sublist (List.take_sublist _ _)
  · rw [List.length_take, List.length_drop, List.length_append]
    show min m (12 + 12 - j) = m
    omega
  · have := List.mem_of_mem_drop (List.mem_of_mem_take hz)
    exact (List.mem_append.mp this).elim (words_nm z) (words_nm z)
theorem wd1_sum : ∀ {l : List Str}, (∀ y ∈ l, Wd 1 y) → (l.map (·.length)).sum ≤ l.length
  | [], _ => Nat.le_refl _
  | a :: r, h => by
    have h1 := (h a List.mem_cons_self).1
    have h2 := wd1_sum (l := r) fun y hy => h y (List.mem_cons_of_mem _ hy)
    simp only [List.map_cons, List.sum_cons, List.length_cons]
    omega
end Pot

namespace Pot
open PySem PySem.Spec PyProof.Rows L2
/-! ### the palettes of cluster C -/
structure PalC (cs : List Col) (ws : List Wsh) : Prop where
  ok : PalOk cs ws
  ne : 0 < cs.length
  le : cs.length ≤ 12
  ch : ∀ c ∈ cs, 1 ≤ c.2.1 ∧ c.2.1 ≤ 20 ∧ 0 ≤ c.2.2.1 ∧ c.2.2.1 ≤ 99
  wa : ∀ r ∈ ws, ∀ i, r.2.2 = some i → 0 ≤ i ∧ i ≤ 99
  wd : ∀ c ∈ cs, Nm c.1
  nd : (cs.map (·.1)).Nodup
  wp : (ws.map fun r => (r.1, r.2.1)).Nodup
  wn : ∀ r ∈ ws, r.1 ≠ r.2.1
/-- what stands while a palette is made: the names at N, colours at C, washes at W -/
structure PMc (K : PySem.W.Frag) (H0 : Hp) (b C W N : Addr) (ns : List Str) (n : Nat) (xs us : List V) (cs : List Col) (ws : List Wsh) (H : Hp) : Prop where
  st : Bp H b n
  sm : Sm [b] H0 H
  hN : off H [C, W, b] N = some (.lst (ns.map V.str))
  hC : H C = some (.lst xs)
  dC : DpAll K (off H [C, W, b]) xs (cs.map colD)
  hW : H W = some (.lst us)
  dW : DpAll K (off H [C, W, b]) us (ws.map washD)
structure PAc (H0 : Hp) (b C W : Addr) : Prop where
  Cb : C ≠ b
  Wb : W ≠ b
  CW : C ≠ W
  nC : H0 C = none
  nW : H0 W = none
section
variable {K : PySem.W.Frag} {H0 H H' : Hp} {b C W N p : Addr} {ns : List Str} {n m : Nat} {xs us : List V} {cs : List Col} {ws : List Wsh} {o : HO}
theorem PMc.live (P : PMc K H0 b C W N ns n xs us cs ws H) : Live [C, W, b] H := ((Live.pw P.st).cons P.hW).cons P.hC
theorem PMc.drawn (P : PMc K H0 b C W N ns n xs us cs ws H) (a : PAc H0 b C W) (st : Bp H' b m) (s : Sm [b] H H') : PMc K H0 b C W N ns m xs us cs ws H' :=
  have s2 : Sm [C, W, b] H H' := sm_one (by simp) s
  ⟨st, P.sm.trans s, s2 _ _ P.hN, sm1_at s a.Cb P.hC, dpAll_same s2 P.dC, sm1_at s a.Wb P.hW, dpAll_same s2 P.dW⟩
theorem PMc.same (P : PMc K H0 b C W N ns n xs us cs ws H) (s : Same H H') : PMc K H0 b C W N ns n xs us cs ws H' :=
  have s2 : Sm [C, W, b] H H' := sm_of s
  ⟨P.st.same s, P.sm.trans (sm_of s), s2 _ _ P.hN, s _ _ P.hC, dpAll_same s2 P.dC, s _ _ P.hW, dpAll_same s2 P.dW⟩
theorem PMc.put (P : PMc K H0 b C W N ns n xs us cs ws H) (h : H p = none) : PMc K H0 b C W N ns n xs us cs ws (upd H p o) := P.same (same_upd h)
theorem PMc.mono (P : PMc K H0 b C W N ns n xs us cs ws H) (h : n ≤ m) : PMc K H0 b C W N ns m xs us cs ws H := ⟨P.st.mono h, P.sm, P.hN, P.hC, P.dC, P.hW, P.dW⟩
theorem PMc.colour (P : PMc K H0 b C W N ns n xs us cs ws H) (a : PAc H0 b C W) {v : V} {r : Col} (hv : Dp K (off H [C, W, b]) v (colD r)) : PMc K H0 b C W N ns n (xs ++ [v]) us (cs ++ [r]) ws (upd H C (.lst (xs ++ [v]))) :=
  have s2 : Sm [C, W, b] H (upd H C (.lst (xs ++ [v]))) := sm_wr (by simp)
  ⟨P.st.wr a.Cb, smp P.sm a.nC, s2 _ _ P.hN, upd_same, by rw [List.map_append]; exact dpAll_same s2 (dpAll_app P.dC (.cons hv .nil)), by rw [upd_ne a.CW.symm]; exact P.hW, dpAll_same s2 P.dW⟩
theorem PMc.wash (P : PMc K H0 b C W N ns n xs us cs ws H) (a : PAc H0 b C W) {v : V} {r : Wsh} (hv : Dp K (off H [C, W, b]) v (washD r)) : PMc K H0 b C W N ns n xs (us ++ [v]) cs (ws ++ [r]) (upd H W (.lst (us ++ [v]))) :=
  have s2 : Sm [C, W, b] H (upd H W (.lst (us ++ [v]))) := sm_wr (by simp)
  ⟨P.st.wr a.Wb, smp P.sm a.nW, s2 _ _ P.hN, by rw [upd_ne a.CW]; exact P.hC, dpAll_same s2 P.dC, upd_same, by rw [List.map_append]; exact dpAll_same s2 (dpAll_app P.dW (.cons hv .nil))⟩
end
theorem rows_cols (cs : List Col) : RowsCmp (cs.map colD) := by
  refine ⟨fun d hd => ?_, fun x r x2 r2 h1 h2 => ?_, fun xs ys h1 h2 => ?_⟩
  · obtain ⟨c, _, rfl⟩ := List.mem_map.mp hd
    exact ⟨_, _, rfl⟩
  · obtain ⟨c, _, e⟩ := List.mem_map.mp h1
    obtain ⟨c2, _, e2⟩ := List.mem_map.mp h2
    obtain ⟨rfl, _⟩ := List.cons.inj (PyData.tuple.inj e)
    obtain ⟨rfl, _⟩ := List.cons.inj (PyData.tuple.inj e2)
    rfl
  · obtain ⟨c, _, e⟩ := List.mem_map.mp h1
    obtain ⟨c2, _, e2⟩ := List.mem_map.mp h2
    rw [← PyData.tuple.inj e, ← PyData.tuple.inj e2]
    have a1 : ∀ x y : Str, PySem.W.alike (.str x) (.str y) = true := fun _ _ => rfl
    have a2 : ∀ x y : Int, PySem.W.alike (.int x) (.int y) = true := fun _ _ => rfl
    simp only [okCmp, a1, a2, Bool.true_and, Bool.or_true, Bool.and_true]
theorem depth_col (c : Col) : (colD c).depth ≤ 60 := by
  show PyData.depthAll _ + 1 ≤ 60
  simp only [PyData.depthAll, PyData.depth]
  omega
theorem depth_wash (r : Wsh) : (washD r).depth ≤ 60 := by
  show PyData.depthAll _ + 1 ≤ 60
  cases h : r.2.2 <;> (simp only [PyData.depthAll, PyData.depth, optD]; omega)
theorem alike_opt (o : Option Int) : PySem.W.alike (optD o) (optD o) = true := by cases o <;> rfl
theorem pair_eq {ws : List Wsh} (h : (ws.map fun r => (r.1, r.2.1)).Nodup) {r r2 : Wsh} (h1 : r ∈ ws) (h2 : r2 ∈ ws) (e1 : r.1 = r2.1) (e2 : r.2.1 = r2.2.1) : r = r2 := by
  obtain ⟨i, hi, rfl⟩ := List.getElem_of_mem h1
  obtain ⟨j, hj, rfl⟩ := List.getElem_of_mem h2
  have := (List.getElem_inj (i := i) (j := j) (h₀ := by rw [List.length_map]; exact hi) (h₁ := by rw [List.length_map]; exact hj) h).mp (by rw [List.getElem_map, List.getElem_map]; exact Prod.ext e1 e2)
  subst this; rfl
theorem rows_wash {ws : List Wsh} (h : (ws.map fun r => (r.1, r.2.1)).Nodup) : RowsCmp (ws.map washD) := by
  refine ⟨fun d hd => ?_, fun x r x2 r2 h1 h2 => ?_, fun xs ys h1 h2 => ?_⟩
  · obtain ⟨c, _, rfl⟩ := List.mem_map.mp hd
    exact ⟨_, _, rfl⟩
  · obtain ⟨c, _, e⟩ := List.mem_map.mp h1
    obtain ⟨c2, _, e2⟩ := List.mem_map.mp h2
    obtain ⟨rfl, _⟩ := List.cons.inj (PyData.tuple.inj e)
    obtain ⟨rfl, _⟩ := List.cons.inj (PyData.tuple.inj e2)
    rfl
  · obtain ⟨c, m1, e⟩ := List.mem_map.mp h1
    obtain ⟨c2, m2, e2⟩ := List.mem_map.mp h2
    rw [← PyData.tuple.inj e, ← PyData.tuple.inj e2]
    have a1 : ∀ x y : Str, PySem.W.alike (.str x) (.str y) = true := fun _ _ => rfl
    simp only [okCmp, a1, Bool.true_and, Bool.or_true, Bool.and_true]
    cases e1 : PyData.eqv (.str c.1) (.str c2.1) with
    | false => rfl
    | true =>
      cases e3 : PyData.eqv (.str c.2.1) (.str c2.2.1) with
      | false => rfl
      | true =>
        have x1 : c.1 = c2.1 := by simpa [PyData.eqv] using e1
        have x2 : c.2.1 = c2.2.1 := by simpa [PyData.eqv] using e3
        rw [pair_eq h m1 m2 x1 x2, alike_opt]; rfl
section
variable {K : PySem.W.Frag}
theorem go_offB {H : Hp} {b : Addr} {n : Nat} (B : Bp H b n) (a : Addr) (us : List V) (h : SqT K H a us) : SqT K (off H [b]) a us := by
  obtain ⟨x, y, z, h1, _⟩ := B
  have go : ∀ o, (H a = some (.tup us) ∨ H a = some (.frz o (.tup us))) → a ∉ [b] := fun o e z => by
    rw [List.mem_singleton] at z; subst z; rw [h1] at e; rcases e with e | e <;> cases e
  rcases h with (h | ⟨o, h⟩) | h
  · exact .inl (.inl (by rw [off_out (go ⟨.none, none, .fields #[], #[]⟩ (.inl h))]; exact h))
  · exact .inl (.inr ⟨o, by rw [off_out (go o (.inr h))]; exact h⟩)
  · exact .inr h
theorem dp_offB {H : Hp} {b : Addr} {n : Nat} {v : V} {e : PyData} (B : Bp H b n) (h : noLAll.noL e) (p : Dp K H v e) : Dp K (off H [b]) v e := dp_go (go_offB B) h p
theorem dpAll_offB {H : Hp} {b : Addr} {n : Nat} {vs : List V} {es : List PyData} (B : Bp H b n) (h : noLAll es) (p : DpAll K H vs es) : DpAll K (off H [b]) vs es := dpAll_go (go_offB B) h p
end
theorem div_mod_inj {m i j : Nat} (h1 : i / m = j / m) (h2 : i % m = j % m) : i = j := by
  have a := Nat.div_add_mod i m
  have b := Nat.div_add_mod j m
  rw [h1, h2] at a
  omega
end Pot

namespace Pot
open PySem PySem.Spec PyProof.Rows L2
/-! ### a list that is filled while there is drawn, things beside it that stay -/
structure Acc (K : PySem.W.Frag) (H0 : Hp) (b R : Addr) (fs : List (V × PyData)) (n : Nat) (us : List V) (ds : List PyData) (H : Hp) : Prop where
  st : Bp H b n
  sm : Sm [b] H0 H
  Rb : R ≠ b
  nR : H0 R = none
  fr : ∀ p ∈ fs, Dp K (off H [R, b]) p.1 p.2
  hR : H R = some (.lst us)
  dR : DpAll K (off H [R, b]) us ds
section
variable {K : PySem.W.Frag} {H0 H H' : Hp} {b R p : Addr} {fs : List (V × PyData)} {n m : Nat} {us : List V} {ds : List PyData} {o : HO}
theorem Acc.live (M : Acc K H0 b R fs n us ds H) : Live [R, b] H := (Live.pw M.st).cons M.hR
theorem Acc.drawn (M : Acc K H0 b R fs n us ds H) (st : Bp H' b m) (s : Sm [b] H H') : Acc K H0 b R fs m us ds H' :=
  have s2 : Sm [R, b] H H' := sm_one (by simp) s
  ⟨st, M.sm.trans s, M.Rb, M.nR, fun q hq => dp_same s2 (M.fr q hq), sm1_at s M.Rb M.hR, dpAll_same s2 M.dR⟩
theorem Acc.same (M : Acc K H0 b R fs n us ds H) (s : Same H H') : Acc K H0 b R fs n us ds H' :=
  have s2 : Sm [R, b] H H' := sm_of s
  ⟨M.st.same s, M.sm.trans (sm_of s), M.Rb, M.nR, fun q hq => dp_same s2 (M.fr q hq), s _ _ M.hR, dpAll_same s2 M.dR⟩
theorem Acc.put (M : Acc K H0 b R fs n us ds H) (h : H p = none) : Acc K H0 b R fs n us ds (upd H p o) := M.same (same_upd h)
theorem Acc.mono (M : Acc K H0 b R fs n us ds H) (h : n ≤ m) : Acc K H0 b R fs m us ds H := ⟨M.st.mono h, M.sm, M.Rb, M.nR, M.fr, M.hR, M.dR⟩
theorem Acc.app (M : Acc K H0 b R fs n us ds H) {v : V} {d : PyData} (hv : Dp K (off H [R, b]) v d) : Acc K H0 b R fs n (us ++ [v]) (ds ++ [d]) (upd H R (.lst (us ++ [v]))) :=
  have s2 : Sm [R, b] H (upd H R (.lst (us ++ [v]))) := sm_wr (by simp)
  ⟨M.st.wr M.Rb, smp M.sm M.nR, M.Rb, M.nR, fun q hq => dp_same s2 (M.fr q hq), upd_same, dpAll_same s2 (dpAll_app M.dR (.cons hv .nil))⟩
/-- the list is new -/
theorem Acc.start (B : Bp H b n) (s : Sm [b] H0 H) (h : H R = none) (fr : ∀ p ∈ fs, Dp K (off H [b]) p.1 p.2) : Acc K H0 b R fs n [] [] (upd H R (.lst [])) :=
  ⟨B.put h, s.trans (sm_put h), B.ne h, sm_free s B.bx h, fun q hq => by
    have e : off (upd H R (.lst [])) [R, b] = off H [b] := off_fresh h
    rw [e]; exact fr q hq, upd_same, .nil⟩
theorem Acc.new (M : Acc K H0 b R fs n us ds H) (h : H p = none) : off (upd H p o) [R, b] p = some o := off_new M.live h
/-- the list done: a thing among the others -/
theorem Acc.done (M : Acc K H0 b R fs n us ds H) : Dp K (off H [b]) (.ref R) (.list ds) :=
  .lst (SqL.of (by rw [off_out (by simpa using M.Rb)]; exact M.hR)) (dpAll_same (off_mono (by simp)) M.dR)
theorem Acc.kept (M : Acc K H0 b R fs n us ds H) {q : V × PyData} (h : q ∈ fs) : Dp K (off H [b]) q.1 q.2 := dp_same (off_mono (by simp)) (M.fr q h)
end
theorem e106 : (10 : Int) ^ (6 : Int).toNat = 1000000 := by decide
end Pot

namespace Pot
open PySem PySem.Spec PyProof.Rows L2
section
variable {K : PySem.W.Frag}
/-! ### bounds of drawn data, its texts too -/
def txAll (n : Nat) : List PyData → Prop
  | [] => True
  | x :: xs => tx n x ∧ txAll n xs
where tx (n : Nat) : PyData → Prop
  | .str x => x.length ≤ n ∧ ∀ c ∈ x.cps.toList, c < 128
  | .list xs => txAll n xs
  | .tuple xs => txAll n xs
  | _ => True
abbrev tx (n : Nat) (d : PyData) : Prop := txAll.tx n d
theorem txAll_iff {n : Nat} : ∀ {ds : List PyData}, txAll n ds ↔ ∀ d ∈ ds, tx n d
  | [] => ⟨fun _ _ h => (List.not_mem_nil h).elim, fun _ => trivial⟩
  | x :: xs => ⟨fun h d hd => (List.mem_cons.mp hd).elim (fun e => by rw [e]; exact h.1) fun e => txAll_iff.mp h.2 d e, fun h => ⟨h x List.mem_cons_self, txAll_iff.mpr fun d hd => h d (List.mem_cons_of_mem _ hd)⟩⟩
mutual
theorem tx_mono {n k : Nat} (h : n ≤ k) : ∀ d : PyData, tx n d → tx k d
  | .none, _ => trivial
  | .bool _, _ => trivial
  | .int _, _ => trivial
  | .str x, g => ⟨Nat.le_trans g.1 h, g.2⟩
  | .list xs, g => txAll_mono h xs g
  | .tuple xs, g => txAll_mono h xs g
  | .dict _, _ => trivial
theorem txAll_mono {n k : Nat} (h : n ≤ k) : ∀ ds : List PyData, txAll n ds → txAll k ds
  | [], _ => trivial
  | x :: xs, g => ⟨tx_mono h x g.1, txAll_mono h xs g.2⟩
end
structure Bd (n m C D W : Nat) (d : PyData) : Prop where
  t : Th m C D W d
  x : tx n d
structure Bds (n m C D W : Nat) (ds : List PyData) : Prop where
  t : Ths m C D W ds
  x : ∀ d ∈ ds, tx n d
section
variable {n m C D W n' m' C' D' W' : Nat} {d x : PyData} {ds es xs ys : List PyData}
theorem Bd.mono (h : Bd n m C D W d) (a : n ≤ n') (b : m ≤ m') (c : C ≤ C') (e : D ≤ D') (f : W ≤ W') : Bd n' m' C' D' W' d := ⟨h.t.mono b c e f, tx_mono a d h.x⟩
theorem Bds.mono (h : Bds n m C D W ds) (a : n ≤ n') (b : m ≤ m') (c : C ≤ C') (e : D ≤ D') (f : W ≤ W') : Bds n' m' C' D' W' ds := ⟨h.t.mono b c e f, fun d hd => tx_mono a d (h.x d hd)⟩
theorem Bds.nil : Bds n m 0 D W [] := ⟨Ths.nil, fun _ h => (List.not_mem_nil h).elim⟩
theorem Bds.app (h : Bds n m C D W xs) (k : Bds n m C' D W ys) : Bds n m (C + C') D W (xs ++ ys) := ⟨h.t.app k.t, fun d hd => (List.mem_append.mp hd).elim (h.x d) (k.x d)⟩
theorem Bds.one (h : Bd n m C D W x) : Bds n m (C + 2) D W [x] := ⟨Ths.one h.t, fun d hd => by rw [List.mem_singleton.mp hd]; exact h.x⟩
theorem Bds.list (h : Bds n m C D W ds) (l : ds.length ≤ W) : Bd n m (C + 3) (D + 1) W (.list ds) := ⟨h.t.list l, txAll_iff.mpr h.x⟩
theorem Bds.tuple (h : Bds n m C D W ds) (l : ds.length ≤ W) : Bd n m (C + 3) (D + 1) W (.tuple ds) := ⟨h.t.tuple l, txAll_iff.mpr h.x⟩
theorem Bd.parts (h : Bd n m C D W d) (e : d = .list ds ∨ d = .tuple ds) : Bds n m (C - 3) (D - 1) W ds ∧ ds.length ≤ W ∧ 3 ≤ C ∧ 1 ≤ D := by
  obtain ⟨a, b⟩ := h.t.parts e
  refine ⟨⟨a, ?_⟩, b⟩
  rcases e with rfl | rfl
  · exact txAll_iff.mp h.x
  · exact txAll_iff.mp h.x
theorem Bds.take (h : Bds n m C D W ds) (k : Nat) : Bds n m C D W (ds.take k) := ⟨h.t.take k, fun d hd => h.x d (List.mem_of_mem_take hd)⟩
theorem Bds.drop (h : Bds n m C D W ds) (k : Nat) : Bds n m C D W (ds.drop k) := ⟨h.t.drop k, fun d hd => h.x d (List.mem_of_mem_drop hd)⟩
theorem Bds.rev (h : Bds n m C D W ds) : Bds n m C D W ds.reverse := ⟨h.t.rev, fun d hd => h.x d (List.mem_reverse.mp hd)⟩
theorem Bds.set {i : Nat} (h : Bds n m C D W ds) (k : Bd n m C' D W x) : Bds n m (C + C' + 2) D W (ds.set i x) := ⟨h.t.set k.t, fun d hd => (List.mem_or_eq_of_mem_set hd).elim (h.x d) fun e => by rw [e]; exact k.x⟩
theorem Bds.mem (h : Bds n m C D W ds) (e : d ∈ ds) : Bd n m C D W d := ⟨h.t.mem e, h.x d e⟩
theorem bd_int {i : Int} (h : i.natAbs ≤ m) : Bd n m 1921 0 0 (.int i) := ⟨⟨h, Nat.le_refl _, Nat.le_refl _, Nat.le_refl _⟩, trivial⟩
theorem bd_bool (b : Bool) : Bd n m 5 0 0 (.bool b) := ⟨⟨trivial, Nat.le_refl _, Nat.le_refl _, Nat.le_refl _⟩, trivial⟩
theorem bd_none : Bd n m 4 0 0 .none := ⟨⟨trivial, Nat.le_refl _, Nat.le_refl _, Nat.le_refl _⟩, trivial⟩
theorem bd_str {z : Str} (h : z.length ≤ n) (h2 : n ≤ 2000) (c : ∀ x ∈ z.cps.toList, x < 128) : Bd n m (10 * n + 2) 0 0 (.str z) := ⟨⟨⟨Nat.le_trans h h2, fun x hx => Nat.lt_trans (c x hx) (by decide)⟩, by show 10 * z.length + 2 ≤ _; omega, Nat.le_refl _, Nat.le_refl _⟩, h, c⟩
end
theorem text_small {i : Int} (h : i.natAbs < 10 ^ 11) : (Str.ofString (toString i)).length ≤ 12 := by
  rw [PySem.ofString_length]
  exact int_text_length_le10 (k := 11) (by decide) h
theorem text_ascii (i : Int) : ∀ c ∈ (Str.ofString (toString i)).cps.toList, c < 128 := by
  intro c hc
  refine Decidable.byContradiction fun h => ?_
  exact PyProof.Rows.int_text_free' c ⟨by omega, by omega⟩ i hc
theorem cut_small (z : Str) (lo hi : Option Int) : (cutS z lo hi).length ≤ z.length := by
  have := cut_len z lo hi
  have h1 : HT.sIx z.length z.length hi ≤ z.length := HT.sIx_le _ _ (Nat.le_refl _) _
  omega
theorem cut_dp {H : Hp} {xs : List V} {ds : List PyData} {n m C D W : Nat} (da : DpAll K H xs ds) (b : Bds n m C D W ds) (lo hi : Option Int) : ∃ ys es, cutV xs lo hi = ys ∧ DpAll K H ys es ∧ Bds n m C D W es ∧ es.length ≤ ds.length ∧ ys.length = es.length := by
  refine ⟨_, (ds.drop (HT.sIx xs.length 0 lo)).take (HT.sIx xs.length xs.length hi - HT.sIx xs.length 0 lo), rfl, ?_, (b.drop _).take _, ?_, ?_⟩
  · exact dpAll_take _ (dpAll_drop _ da)
  · rw [List.length_take, List.length_drop]; omega
  · exact dpAll_len (dpAll_take _ (dpAll_drop _ da))
theorem cut_one (xs : List V) (a : Nat) : (cutV xs (some (a : Int)) (some ((a : Int) + 1))).length ≤ 1 := by
  unfold cutV
  rw [List.length_take, List.length_drop]
  rw [show ((a : Int) + 1) = ((a + 1 : Nat) : Int) by omega, HT.sIx_nat, HT.sIx_nat]
  omega
theorem str_mem_app {a b : Str} {x : Nat} (h : x ∈ (a ++ b).cps.toList) : x ∈ a.cps.toList ∨ x ∈ b.cps.toList := by
  have e : (a ++ b).cps.toList = a.cps.toList ++ b.cps.toList := Array.toList_append
  rw [e] at h
  exact List.mem_append.mp h
abbrev SqA (K : PySem.W.Frag) (H : Hp) (a : Addr) (xs : List V) : Prop := SqL K H a xs ∨ SqT K H a xs
theorem sq_same {H H' : Hp} {a : Addr} {xs : List V} (s : Same H H') (h : SqA K H a xs) : SqA K H' a xs := h.imp s.seq (same_tup s)
theorem sqa_off {H : Hp} {S : List Addr} {a : Addr} {xs : List V} (h : SqA K (off H S) a xs) : SqA K H a xs := sq_same off_sub h
theorem sqa_len {H : Hp} {a : Addr} {xs : List V} (h : SqA K H a xs) : LenV K (.ref a) H xs.length := h.elim (fun h => .inl ⟨_, h, rfl⟩) (fun h => .inr ⟨_, h, rfl⟩)
end
theorem upper_len {z : Str} (h : ∀ c ∈ z.cps.toList, c < 128) : (Txt.upper z).length = z.length := by
  rw [PyProof.Rows.upper_ascii h]
  show (z.cps.map _).size = z.cps.size
  rw [Array.size_map]
theorem upper_small {z : Str} (h : ∀ c ∈ z.cps.toList, c < 128) : ∀ c ∈ (Txt.upper z).cps.toList, c < 128 := by
  rw [PyProof.Rows.upper_ascii h]
  intro c hc
  have hc : c ∈ z.cps.toList.map PyProof.Rows.up1 := by simpa using hc
  obtain ⟨d, hd, rfl⟩ := List.mem_map.mp hc
  have := h d hd
  unfold PyProof.Rows.up1
  split <;> omega
theorem log_smallW {i : Int} (h : i.natAbs ≤ 10 ^ 12) : i.natAbs.log2 < 1920 := by
  by_cases z : i.natAbs = 0
  · rw [z]; decide
  · have := (Nat.log2_lt z).mpr (show i.natAbs < 2 ^ 40 from Nat.lt_of_le_of_lt h (by decide))
    omega
mutual
theorem gd_fineW {m : Nat} (h : m ≤ 10 ^ 12) : ∀ d : PyData, gd m d → fineAll.fine d
  | .none, _ => trivial
  | .bool _, _ => trivial
  | .int i, g => log_smallW (Nat.le_trans g h)
  | .str _, g => fun c hc => Nat.lt_trans (g.2 c hc) (by decide)
  | .list xs, g => gdAll_fineW h xs g
  | .tuple xs, g => gdAll_fineW h xs g
  | .dict _, g => g.elim
theorem gdAll_fineW {m : Nat} (h : m ≤ 10 ^ 12) : ∀ ds : List PyData, gdAll m ds → fineAll ds
  | [], _ => trivial
  | x :: xs, g => ⟨gd_fineW h x g.1, gdAll_fineW h xs g.2⟩
end
theorem Nm.ascii {z : Str} (h : Nm z) : ∀ c ∈ z.cps.toList, c < 128 := fun c hc => by have := (h.1.2 c hc).2; omega
theorem ascii_of {s : String} (h : (Str.ofString s).cps.toList.all (fun c => decide (c < 128)) = true) : ∀ c ∈ (Str.ofString s).cps.toList, c < 128 := fun c hc => of_decide_eq_true (List.all_eq_true.mp h c hc)
theorem ascii_app {a b : Str} (h1 : ∀ x ∈ a.cps.toList, x < 128) (h2 : ∀ x ∈ b.cps.toList, x < 128) : ∀ x ∈ (a ++ b).cps.toList, x < 128 := fun x hx => (str_mem_app hx).elim (h1 x) (h2 x)
theorem ascii_cut {z : Str} (h : ∀ x ∈ z.cps.toList, x < 128) (lo hi : Option Int) : ∀ x ∈ (cutS z lo hi).cps.toList, x < 128 := fun x hx => h x (cut_mem hx)
end Pot

namespace Pot
open PySem PySem.Spec PyProof.Rows L2
/-! ### lists and tuples alike: slices, sums, places -/
section
variable {X : Cx} {K : PySem.W.Frag}
def rSlS' (K : PySem.W.Frag) : V → Option Int → Option Int → Hp → VK → Prop := fun x lo hi H Q => rSlL K x lo hi H Q ∨ rSlA K x lo hi H Q
theorem kl_any (h : X.K = K := by rfl) : SlR X (rSlS' K) := h ▸ SlR.or sl_list sl_tupA
def rCatS' (K : PySem.W.Frag) : R2 := fun x y H Q => rCat x y H Q ∨ rCatA K x y H Q
theorem ko_catS (h : X.K = K := by rfl) : OpR X (binaryOp .Add) (rCatS' K) := h ▸ OpR.or op_cat op_catA
def rIxS' (K : PySem.W.Frag) : R2 := fun x y H Q => rIxL K x y H Q ∨ rIxT K x y H Q
theorem kx_any (h : X.K = K := by rfl) : IxR X (rIxS' K) := h ▸ IxR.or ix_list ix_tup
end
/-- a list's or a tuple's data -/
def seqD (t : Bool) (ds : List PyData) : PyData := if t = true then .tuple ds else .list ds
theorem seqD_t (ds : List PyData) : seqD true ds = .tuple ds := rfl
theorem seqD_l (ds : List PyData) : seqD false ds = .list ds := rfl
theorem seqD_or (t : Bool) (ds : List PyData) : seqD t ds = .list ds ∨ seqD t ds = .tuple ds := by cases t; exact .inl rfl; exact .inr rfl
theorem seqD_tup (t : Bool) (ds : List PyData) : isTupD (seqD t ds) = t := by cases t <;> rfl
theorem seqD_seq (t : Bool) (ds : List PyData) : (isListD (seqD t ds) || isTupD (seqD t ds)) = true := by cases t <;> rfl
def cutL (ds : List PyData) (lo hi : Option Int) : List PyData := (ds.drop (HT.sIx ds.length 0 lo)).take (HT.sIx ds.length ds.length hi - HT.sIx ds.length 0 lo)
theorem cutL_le (ds : List PyData) (lo hi : Option Int) : (cutL ds lo hi).length ≤ ds.length := by
  unfold cutL
  rw [List.length_take, List.length_drop]; omega
theorem cutL_head (ds : List PyData) (a : Nat) : cutL ds none (some (a : Int)) = ds.take a := by
  unfold cutL
  rw [HT.sIx_nat]
  show (ds.drop 0).take (min a ds.length - 0) = _
  rw [List.drop_zero, Nat.sub_zero]
  rcases Nat.le_total a ds.length with h | h
  · rw [Nat.min_eq_left h]
  · rw [Nat.min_eq_right h, List.take_length, List.take_of_length_le h]
theorem cutL_tail (ds : List PyData) (a : Nat) : cutL ds (some (a : Int)) none = ds.drop a := by
  unfold cutL
  rw [HT.sIx_nat]
  show (ds.drop (min a ds.length)).take (ds.length - min a ds.length) = _
  rcases Nat.le_total a ds.length with h | h
  · rw [Nat.min_eq_left h, List.take_of_length_le (by rw [List.length_drop]; exact Nat.le_refl _)]
  · rw [Nat.min_eq_right h, List.drop_length, List.drop_of_length_le h, List.take_nil]
/-- a value that is a list of its own or a tuple -/
def SeqV (K : PySem.W.Frag) (H : Hp) (t : Bool) (y : V) (ds : List PyData) : Prop := ∃ a xs, y = .ref a ∧ DpAll K H xs ds ∧ (if t = true then SqT K H a xs else H a = some (.lst xs))
section
variable {K : PySem.W.Frag} {H H' : Hp} {S : List Addr} {t : Bool} {x y : V} {ds es : List PyData} {lo hi : Option Int} {Q : VK}
theorem SeqV.dp (h : SeqV K H t y ds) : Dp K H y (seqD t ds) := by
  obtain ⟨a, xs, rfl, da, hs⟩ := h
  cases t with
  | true => exact .tup hs da
  | false => exact .lst (SqL.of hs) da
theorem SeqV.same (s : Same H H') (h : SeqV K H t y ds) : SeqV K H' t y ds := by
  obtain ⟨a, xs, rfl, da, hs⟩ := h
  refine ⟨a, xs, rfl, dpAll_same s da, ?_⟩
  cases t with
  | true => exact same_tup s hs
  | false => exact s _ _ hs
theorem sl_seq (lv : Live S H) (d : Dp K (off H S) x (seqD t ds)) (q : ∀ H' y, Same H H' → SeqV K (off H' S) t y (cutL ds lo hi) → Q y H') : rSlS' K x lo hi H Q := by
  cases t with
  | true =>
    obtain ⟨a, xs, rfl, hs, da⟩ := dp_tup d
    have lx := dpAll_len da
    refine .inr ⟨a, xs, rfl, sqt_off hs, fun h => ?_, fun h p np => ?_⟩
    · refine q _ _ (Same.refl _) ⟨a, xs, rfl, ?_, hs⟩
      have e : cutL ds lo hi = ds := by
        unfold cutL
        rw [lx] at h
        rw [h.1, h.2, List.drop_zero, Nat.sub_zero, List.take_length]
      rw [e]; exact da
    · refine q _ _ (same_upd np) ⟨p, _, rfl, ?_, .inl (.inl (off_new lv np))⟩
      unfold cutL
      rw [← lx]
      exact dpAll_same (sm_put np) (dpAll_take _ (dpAll_drop _ da))
  | false =>
    obtain ⟨a, xs, rfl, hs, da⟩ := dp_lst d
    have lx := dpAll_len da
    refine .inl ⟨a, xs, rfl, sq_off hs, fun p np => ?_⟩
    refine q _ _ (same_upd np) ⟨p, _, rfl, ?_, off_new lv np⟩
    unfold cutL
    rw [← lx]
    exact dpAll_same (sm_put np) (dpAll_take _ (dpAll_drop _ da))
theorem cat_seq (lv : Live S H) (d : SeqV K (off H S) t x ds) (e : SeqV K (off H S) t y es) (l : ds.length + es.length ≤ sizeLine) (q : ∀ H' z, Same H H' → SeqV K (off H' S) t z (ds ++ es) → Q z H') : rCatS' K x y H Q := by
  obtain ⟨a, xs, rfl, da, hs⟩ := d
  obtain ⟨b, ys, rfl, db, ht⟩ := e
  have lx := dpAll_len da
  have ly := dpAll_len db
  cases t with
  | true =>
    have hs : SqT K (off H S) a xs := hs
    have ht : SqT K (off H S) b ys := ht
    refine .inr ⟨a, b, xs, ys, rfl, rfl, sqt_off hs, sqt_off ht, by rw [lx, ly]; exact l, fun z => ?_, fun z z2 => ?_, fun z z2 p np => ?_⟩
    · refine q _ _ (Same.refl _) ⟨b, ys, rfl, ?_, ht⟩
      have : ds = [] := List.length_eq_zero_iff.mp (by rw [← lx, z]; rfl)
      rw [this]; exact db
    · refine q _ _ (Same.refl _) ⟨a, xs, rfl, ?_, hs⟩
      have : es = [] := List.length_eq_zero_iff.mp (by rw [← ly, z2]; rfl)
      rw [this, List.append_nil]; exact da
    · exact q _ _ (same_upd np) ⟨p, _, rfl, dpAll_same (sm_put np) (dpAll_app' da db), .inl (.inl (off_new lv np))⟩
  | false =>
    have hs : off H S a = some (.lst xs) := hs
    have ht : off H S b = some (.lst ys) := ht
    exact .inl ⟨a, b, xs, ys, rfl, rfl, at_off hs, at_off ht, by rw [lx, ly]; exact l, fun p np => q _ _ (same_upd np) ⟨p, _, rfl, dpAll_same (sm_put np) (dpAll_app' da db), off_new lv np⟩⟩
theorem ix_seqV {i : Nat} {d : PyData} (h : Dp K (off H S) x (seqD t ds)) (g : ds[i]? = some d) (q : ∀ y, Dp K (off H S) y d → Q y H) : rIxS' K x (.int (i : Nat)) H Q := by
  cases t with
  | true =>
    obtain ⟨a, xs, rfl, hs, da⟩ := dp_tup h
    have lx := dpAll_len da
    have hi : i < xs.length := by rw [lx]; exact (List.getElem?_eq_some_iff.mp g).1
    obtain ⟨d2, g2, dp⟩ := dpAll_at da (List.getElem?_eq_getElem hi)
    rw [g] at g2
    cases g2
    exact .inr ⟨a, xs, _, _, rfl, rfl, sqt_off hs, atI_nat (List.getElem?_eq_getElem hi), q _ dp⟩
  | false =>
    obtain ⟨a, xs, rfl, hs, da⟩ := dp_lst h
    have lx := dpAll_len da
    have hi : i < xs.length := by rw [lx]; exact (List.getElem?_eq_some_iff.mp g).1
    obtain ⟨d2, g2, dp⟩ := dpAll_at da (List.getElem?_eq_getElem hi)
    rw [g] at g2
    cases g2
    exact .inl ⟨a, xs, _, _, rfl, rfl, sq_off hs, atI_nat (List.getElem?_eq_getElem hi), q _ dp⟩
theorem len_seq (h : Dp K (off H S) x (seqD t ds)) : LenV K x H ds.length := by
  cases t with
  | true =>
    obtain ⟨a, xs, rfl, hs, da⟩ := dp_tup h
    rw [← dpAll_len da]
    exact .inr ⟨_, sqt_off hs, rfl⟩
  | false =>
    obtain ⟨a, xs, rfl, hs, da⟩ := dp_lst h
    rw [← dpAll_len da]
    exact .inl ⟨_, sq_off hs, rfl⟩
end
section
variable {n m C D W : Nat} {ds : List PyData}
theorem Bds.cut (h : Bds n m C D W ds) (lo hi : Option Int) : Bds n m C D W (cutL ds lo hi) := (h.drop _).take _
theorem Bd.seq {t : Bool} (h : Bd n m C D W (seqD t ds)) : Bds n m C (D - 1) W ds ∧ ds.length ≤ W := by
  obtain ⟨a, b, c, d⟩ := h.parts (seqD_or t ds)
  exact ⟨a.mono (Nat.le_refl _) (Nat.le_refl _) (Nat.sub_le _ _) (Nat.le_refl _) (Nat.le_refl _), b⟩
theorem Bds.seq {t : Bool} (h : Bds n m C D W ds) (l : ds.length ≤ W) : Bd n m (C + 3) (D + 1) W (seqD t ds) := by
  cases t
  · exact h.list l
  · exact h.tuple l
end
end Pot

namespace Pot
open PySem PySem.Spec PyProof.Rows L2
def topS (i : Nat) : Stmt := PySem.Challenge.pw_potround_k03_colours_washes_and_ready_ho.main.body.getD i (.Pass ⟨0, 0, 0, 0⟩)
section
variable {P : Program} {w : World} {K : PySem.W.Frag} {mg : Str → Option Value} {base : Heap}
/-! ### NoSuch -/
abbrev s_NoSuch : Stmt := inClass (topS 2) 0
def leTail : List Value := [.type "LookupError", .type "Exception", .type "BaseException", .type "object"]
/-- what stands of NoSuch at C, its __init__ at fI -/
structure NsK (P : Program) (K : PySem.W.Frag) (mg : Str → Option Value) (C fI : Addr) : Prop where
  gl : mg "NoSuch" = some (.ref C)
  ex : RSup.OexB K C "LookupError.__new__" leTail
  sup : RSup.SupC P K mg C "LookupError.__init__" "LookupError"
  ini : PySem.W.findIn K (.ref C) "__init__" = some (some (.ref fI))
  tyI : PySem.W.typeIn K (.ref fI) = some (.type "function")
  wh : PySem.W.findIn K (.ref C) "what" = some none
  na : PySem.W.findIn K (.ref C) "name" = some none
theorem scNS : RSup.ScopeS ["self", "what", "name"] ["self", "what", "name"] (defScope s_NoSuch) := ⟨rfl, rfl, rfl, by decide +kernel, rfl, by decide +kernel, by decide +kernel, by decide +kernel⟩
def spNS (C : Addr) : Sp := fun vs H Q _ => ∃ (a : Addr) (z : Str) (y : V), vs = [.ref a, .str z, y] ∧ z.length ≤ 1000 ∧ H a = some (exo a C none) ∧
  ∀ d, H d = none → d ≠ a → Q .non (upd (upd (upd H d (exd d [("what", .str z)])) a (exo a C (some d))) d (exd d [("name", y), ("what", .str z)]))
theorem ok_ns {CX : CXT} {f C fI : Addr} {fd : FuncData} {k : Nat} (F : RSup.FunS P K "__init__" "NoSuch.__init__" s_NoSuch f C fd) (N : NsK P K mg C fI) : FnOk P w K mg base CX (k + 1) f fd ["self", "what", "name"] (spNS C) := by
  refine RSup.fn_supr F PySem.F.excBase_LookupError N.ex N.sup scNS rfl rfl rfl rfl rfl rfl (fun vs H Q E h => ?_) (fun cda cc A outer s H vs Q E hr h => ?_)
  · obtain ⟨a, z, y, rfl, _⟩ := h
    rfl
  · obtain ⟨a, z, y, rfl, hz, ha, q⟩ := h
    refine ⟨a, _, _, rfl, ha, pa_cons (pe_joined (.cons pe_str (.cons (pe_fmt (pv 1)) .nil))) pa_nil, pss_cons (RSup.ps_ostB (newId := "LookupError.__new__") PySem.F.store_LookupError (pv 0) (pv 1)) (pss_one (RSup.ps_ostB (newId := "LookupError.__new__") PySem.F.store_LookupError (pv 0) (pv 2))), ?_⟩
    have l8 : (Str.empty ++ Str.ofString "no such ").length = 8 := by decide +kernel
    refine ⟨_, rfl, (by rw [l8]; decide), _, rfl, .inl ⟨z, rfl, Nat.le_trans hz (by decide), _, rfl, ?_, ?_⟩⟩
    · rw [Str.length_append, l8, sizeLine_eq]
      omega
    refine ⟨(by show 1 ≤ 1000; decide), ha, ?_⟩
    refine ⟨_, rfl, _, rfl, a, C, rfl, N.ex, N.wh, .inl ⟨ha, fun d nd ne => ?_⟩⟩
    exact ⟨_, rfl, _, rfl, a, C, rfl, N.ex, N.na, .inr ⟨d, _, upd_same, (upd_ne ne).trans upd_same, (by show 1 ≤ 900; decide), q d nd ne⟩⟩
/-- a def that may raise, called by its name -/
def ClX (P : Program) (w : World) (K : PySem.W.Frag) (mg : Str → Option Value) (base : Heap) (k : Nat) (x : Str) (sp : Sp) : Prop :=
  ∃ (f : Addr) (fd : FuncData) (ps : List Str), FnOk P w K mg base (L2.CX P w) k f fd ps sp ∧ mg x = some (.ref f) ∧ PySem.W.keepIn K (.ref f) = true ∧ Binds K fd ps []
theorem pe_clX {X : Cx} {W : WX} {k j : Nat} {x : Str} {sp : Sp} {e : Expr} {es : List Expr} {t : TA} {p pos : Pos} (c : ClX X.prog X.w X.K X.mg X.base k x sp) (room : Room j X.A) (le : k ≤ j) (glob : Gl X x) (tk : Takes X W) (args : PA X (e :: es) t)
    (dbg : (x == ("__debug__" : Str)) = false := by decide) (plain : starEach (e :: es) X.env = (false, eval e X.env) :: starEach es X.env := by rfl) (none_ : (backTo pos (starEach es X.env)).any (·.1) = false := by rfl) :
    PE X (.Call (.Name x p) (e :: es) [] pos) (tCallS sp (WE W) t) := by
  obtain ⟨f, fd, ps, G, at_, kp, b⟩ := c
  exact pe_callS G (room.mono le) glob at_ kp b (fun σ => passAt tk σ) args dbg plain none_
/-- NoSuch may be made -/
def NsR (P : Program) (w : World) (K : PySem.W.Frag) (mg : Str → Option Value) (base : Heap) (k : Nat) (C : Addr) : Prop :=
  ∃ (fI : Addr) (fd : FuncData), NsK P K mg C fI ∧ FnOk P w K mg base CX0 k fI fd ["self", "what", "name"] (spNS C) ∧ Binds K fd ["self", "what", "name"] []
theorem pmk_ns {X : Cx} {k j : Nat} {C : Addr} {e : Expr} {es : List Expr} {ta : TA} {p pos : Pos} (c : NsR X.prog X.w X.K X.mg X.base k C) (room : Room (j + 1) X.A) (le : k ≤ j) (glob : Gl X "NoSuch") (args : PA X (e :: es) ta)
    (plain : starEach (e :: es) X.env = (false, eval e X.env) :: starEach es X.env := by rfl) (none_ : (backTo pos (starEach es X.env)).any (·.1) = false := by rfl) :
    PMk X (.Call (.Name "NoSuch" p) (e :: es) [] pos) (tMkO C (spNS C) [] ta) := by
  obtain ⟨fI, fd, N, G, b⟩ := c
  exact RSup.pmk_oexB PySem.F.excBase_LookupError N.ex N.ini N.tyI (G.mono le) room b .nil pass0 glob N.gl args (by decide) plain none_

end
end Pot





namespace Pot
open PySem PySem.Spec PyProof.Rows L2
section
variable {P : Program} {w : World} {K : PySem.W.Frag} {mg : Str → Option Value} {base : Heap}
/-! ### colour_row: the first colour so called, or NoSuch -/
abbrev s_colour_row : Stmt := topS 4
def n_colour_row : List Str := ["palette", "colour", "row"]
theorem sc_colour_row : FnScope n_colour_row ["palette", "colour"] (defScope s_colour_row) := ⟨rfl, rfl, rfl, by decide +kernel, rfl, by decide +kernel, by decide +kernel⟩
def colF (cs : List Col) (z : Str) : Option Col := cs.find? fun c => decide (c.1 = z)
def nsX (z : Str) : HO := .xd [("name", .str z), ("what", .str "colour")]
def spColX (K : PySem.W.Frag) (C : Addr) : Sp := fun vs H Q E => ∃ (v : V) (cs : List Col) (ws : List Wsh) (z : Str), vs = [v, .str z] ∧ Dp K H v (palD cs ws) ∧
  (∀ (x : V) (c : Col), colF cs z = some c → Dp K H x (colD c) → Q x H) ∧ (colF cs z = none → ∀ (d : Addr) (H' : Hp), Same H H' → H d = none → H' d = some (nsX z) → E (.ref C) (some d) H')
theorem ok_colX {f C : Addr} {fd : FuncData} {k : Nat} (F : Fun K "colour_row" "colour_row" s_colour_row f fd) (c_NoSuch : NsR P w K mg base 1 C) : FnOk P w K mg base (L2.CX P w) (k + 3) f fd ["palette", "colour"] (spColX K C) := by
  refine F.okX sc_colour_row (fun vs H Q E h => ?_) (fun cdv A outer s H vs Q E hr h => ?_)
  · obtain ⟨v, cs, ws, z, rfl, _⟩ := h
    rfl
  · obtain ⟨v, cs, ws, z, rfl, hp, q, qe⟩ := h
    have nd := sc_colour_row.nd
    obtain ⟨p, c, w2, xs, ys, rfl, hp, hc, hx, hw, hy⟩ := pal_dp hp
    refine ⟨_, (pss_cons (ps_for (passes_of rfl) rfl (ki_tup (K := K) (pe_ix (kx_tup (K := K)) (pv 0) pe_int (fun _ _ => rfl))) (pg_name (i := 2) nd rfl (.inl rfl))
          (pss_one (ps_if (pt_cmpR op_eq (pe_ix (kx_tup (K := K)) (pv 2) pe_int (fun _ _ => rfl)) (pv 1) (nomark _))
              (pss_one (ps_ret (pv 2)))
              pss_nil)))
      (pss_one (ps_raise rfl (takes_of rfl rfl rfl rfl) (pmk_ns (j := 1) c_NoSuch (hr.mono (by omega)) (by omega) (by rfl) (pa_cons pe_str (pa_cons (pv 1) pa_nil)))))), ?_⟩
    refine ⟨_, rfl, p, _, 0, .ref c, rfl, rfl, hp, rfl, c, rfl, ⟨_, hc⟩, ?_⟩
    refine for_it (walk_tup (xs := xs)) (fun i σ H2 => ∃ v2, σ = [some (.ref p), some (.str z), v2] ∧ H2 = H ∧ ∀ j d, j < i → cs[j]? = some d → d.1 ≠ z) ⟨none, rfl, rfl, fun j d hj => absurd hj (Nat.not_lt_zero _)⟩ (fun i σ H2 _ h => by obtain ⟨_, _, rfl, _⟩ := h; exact hc) ?_ ?_
    · rintro i x σ H2 H3 hi ⟨v2, rfl, rfl, old⟩ ⟨rfl, gx⟩
      obtain ⟨d, gd, dp⟩ := dpAll_map_at hx gx
      obtain ⟨r, rfl, hr2⟩ := col_dp dp
      refine ⟨_, rfl, r, _, 0, _, rfl, rfl, hr2, rfl, _, rfl, rfl, _, rfl, ?_⟩
      rw [decS]
      refine ite2 (fun hb => ?_) (fun hb => ?_)
      · refine ⟨_, rfl, q _ d ?_ dp⟩
        unfold colF
        obtain ⟨hl, e⟩ := List.getElem?_eq_some_iff.mp gd
        rw [List.find?_eq_some_iff_getElem]
        exact ⟨hb, i, hl, e, fun j hj => by
          have := old j _ hj (List.getElem?_eq_getElem (by omega))
          simp [this]⟩
      · refine ⟨_, rfl, rfl, fun j e hj ge => ?_⟩
        by_cases hji : j = i
        · subst hji
          rw [gd] at ge
          cases ge
          exact fun z => hb (decide_eq_true z)
        · exact old j e (by omega) ge
    · rintro σ H2 ⟨v2, rfl, rfl, old⟩
      have cn : colF cs z = none := by
        unfold colF
        rw [List.find?_eq_none]
        intro d hd e
        obtain ⟨j, hj, rfl⟩ := List.mem_iff_getElem.mp hd
        exact old j _ (by rw [dpAll_map_len hx]; exact hj) (List.getElem?_eq_getElem hj) (of_decide_eq_true e)
      refine ⟨_, rfl, (by show 2 ≤ 1000; decide), fun a na => ⟨a, Str.ofString "colour", .str z, rfl, (by decide +kernel), upd_same, fun d nd ne => ?_⟩⟩
      have nd : H2 d = none := by rw [upd_ne ne] at nd; exact nd
      refine ⟨rfl, d, _, (upd_ne (Ne.symm ne)).trans upd_same, upd_same, nd, ?_⟩
      refine qe cn d _ (fun b o e => ?_) nd upd_same
      have ba : b ≠ a := ne_of_none e na
      have bd : b ≠ d := ne_of_none e nd
      rw [upd_ne bd, del_ne ba, upd_ne bd, upd_ne ba, upd_ne bd, upd_ne ba]
      exact e

/-! ### wash_for: the hours, or NoSuch of the first name that is none -/
abbrev s_wash_for : Stmt := topS 5
def n_wash_for : List Str := ["palette", "ahead", "behind", "row"]
theorem sc_wash_for : FnScope n_wash_for ["palette", "ahead", "behind"] (defScope s_wash_for) := ⟨rfl, rfl, rfl, by decide +kernel, rfl, by decide +kernel, by decide +kernel⟩
def missF (cs : List Col) (a : Option Str) (b : Str) : Option Str := match a with
  | none => if (colF cs b).isNone = true then some b else none
  | some z => if (colF cs z).isNone = true then some z else if (colF cs b).isNone = true then some b else none
def spWashX (K : PySem.W.Frag) (C : Addr) : Sp := fun vs H Q E => ∃ (v : V) (cs : List Col) (ws : List Wsh) (a : Option Str) (b : Str), vs = [v, namV a, .str b] ∧ Dp K H v (palD cs ws) ∧
  (missF cs a b = none → Q (optV (washF ws a b)) H) ∧ (∀ z, missF cs a b = some z → ∀ (d : Addr) (H' : Hp), Same H H' → H d = none → H' d = some (nsX z) → E (.ref C) (some d) H')
theorem ok_washX {f C : Addr} {fd : FuncData} {k : Nat} (F : Fun K "wash_for" "wash_for" s_wash_for f fd) (c_colour_row : ClX P w K mg base 3 "colour_row" (spColX K C)) : FnOk P w K mg base (L2.CX P w) (k + 4) f fd ["palette", "ahead", "behind"] (spWashX K C) := by
  refine F.okX sc_wash_for (fun vs H Q E h => ?_) (fun cdv A outer s H vs Q E hr h => ?_)
  · obtain ⟨v, cs, ws, a, b, rfl, _⟩ := h
    rfl
  · obtain ⟨v, cs, ws, a, b, rfl, hp0, q, qe⟩ := h
    have nd := sc_wash_for.nd
    obtain ⟨p, c, w2, xs, ys, rfl, hp, hc, hx, hw, hy⟩ := pal_dp hp0
    refine ⟨_, (pss_cons (ps_if (pt_cmpR op_notN (pv 1) pe_non (nomark _))
          (pss_one (ps_expr (pe_clX c_colour_row hr (by omega) (by rfl) (takes_of rfl rfl rfl rfl) (pa_cons (pv 0) (pa_cons (pv 1) pa_nil)))))
          pss_nil)
      (pss_cons (ps_expr (pe_clX c_colour_row hr (by omega) (by rfl) (takes_of rfl rfl rfl rfl) (pa_cons (pv 0) (pa_cons (pv 2) pa_nil))))
      (pss_cons (ps_for (passes_of rfl) rfl (ki_tup (K := K) (pe_ix (kx_tup (K := K)) (pv 0) pe_int (fun _ _ => rfl))) (pg_name (i := 3) nd rfl (.inl rfl))
          (pss_one (ps_if ((pw_and (pt_cmpR op_eq (pe_ix (kx_tup (K := K)) (pv 3) pe_int (fun _ _ => rfl)) (pv 1) (nomark _)) (pw_and1 (pt_cmpR op_eq (pe_ix (kx_tup (K := K)) (pv 3) pe_int (fun _ _ => rfl)) (pv 2) (nomark _))))).pt
              (pss_one (ps_ret (pe_ix (kx_tup (K := K)) (pv 3) pe_int (fun _ _ => rfl))))
              pss_nil)))
      (pss_one (ps_ret pe_int))))), ?_⟩
    have loop : missF cs a b = none → ∀ v3, tSeq (tFor (iTup K (tOp (rIxT K) (tVar 0) (tC (.int 1)))) (gName 3) (tIfS (tAnd (tTest (tOp rEq (tOp (rIxT K) (tVar 3) (tC (.int 0))) (tVar 1))) (tTest (tOp rEq (tOp (rIxT K) (tVar 3) (tC (.int 1))) (tVar 2)))) (tRet (tOp (rIxT K) (tVar 3) (tC (.int 2)))) tNext)) (tRet (tC (.int 0)))
        { nx := fun x H' => Q V.non H', rt := Q } [some (.ref p), some (namV a), some (.str b), v3] H := by
      intro mi v3
      replace q := q mi
      refine ⟨_, rfl, p, _, 1, .ref w2, rfl, rfl, hp, rfl, w2, rfl, ⟨_, hw⟩, ?_⟩
      refine for_it (walk_tup (xs := ys)) (fun i σ H2 => ∃ v3, σ = [some (.ref p), some (namV a), some (.str b), v3] ∧ H2 = H ∧ ∀ j r, j < i → ws[j]? = some r → ¬ (some r.1 = a ∧ r.2.1 = b)) ⟨_, rfl, rfl, fun j d hj => absurd hj (Nat.not_lt_zero _)⟩ (fun i σ H2 _ h => by obtain ⟨_, _, rfl, _⟩ := h; exact hw) ?_ ?_
      · rintro i x σ H2 H3 hi ⟨v4, rfl, rfl, old⟩ ⟨rfl, gx⟩
        obtain ⟨d, gd, dp⟩ := dpAll_map_at hy gx
        obtain ⟨r, rfl, hr2⟩ := wash_dp dp
        have stay : ¬ (some d.1 = a ∧ d.2.1 = b) → ∀ j e, j < i + 1 → ws[j]? = some e → ¬ (some e.1 = a ∧ e.2.1 = b) := fun hb j e hj ge => by
          by_cases hji : j = i
          · subst hji
            rw [gd] at ge
            cases ge
            exact hb
          · exact old j e (by omega) ge
        have sc : scal (.str d.1) (namV a) = true := by cases a <;> rfl
        have ed : decide (V.str d.1 = namV a) = decide (some d.1 = a) := by
          cases a with
          | none => rw [decide_eq_false (by intro z; cases z), decide_eq_false (by intro z; cases z)]
          | some z =>
            show decide (V.str d.1 = V.str z) = _
            rw [decS]
            by_cases h : d.1 = z
            · rw [decide_eq_true h, decide_eq_true (by rw [h])]
            · rw [decide_eq_false h, decide_eq_false fun q => h (Option.some.inj q)]
        refine ⟨_, rfl, r, _, 0, _, rfl, rfl, hr2, rfl, _, rfl, sc, _, rfl, ?_⟩
        rw [ed]
        refine ite2 (fun ha => ?_) (fun ha => ?_)
        · refine ⟨_, rfl, r, _, 1, _, rfl, rfl, hr2, rfl, _, rfl, rfl, _, rfl, ?_⟩
          rw [decS]
          refine ite2 (fun hb => ?_) (fun hb => ?_)
          · refine ⟨_, rfl, r, _, 2, _, rfl, rfl, hr2, rfl, ?_⟩
            rw [← washF_at old gd ⟨of_decide_eq_true ha, of_decide_eq_true hb⟩]
            exact q
          · exact ⟨_, rfl, rfl, stay fun z => hb (decide_eq_true z.2)⟩
        · refine iteF ?_
          exact ⟨_, rfl, rfl, stay fun z => ha (decide_eq_true z.1)⟩
      · rintro σ H2 ⟨v4, rfl, rfl, old⟩
        rw [washF_none (by rw [← dpAll_map_len hy]; exact old)] at q
        exact q
    cases a with
    | none =>
      refine ⟨_, rfl, rfl, _, rfl, iteF ?_⟩
      refine ⟨_, rfl, _, rfl, .ref p, cs, ws, b, rfl, hp0, fun x d e _ => loop ?_ none, fun e d H' s n h => qe b ?_ d H' s n h⟩
      · show (if (colF cs b).isNone = true then some b else none) = none
        rw [e]; rfl
      · show (if (colF cs b).isNone = true then some b else none) = some b
        rw [e]; rfl
    | some z =>
      refine ⟨_, rfl, rfl, _, rfl, iteT ?_⟩
      refine ⟨_, rfl, _, rfl, .ref p, cs, ws, z, rfl, hp0, fun x c0 e0 _ => ?_, fun e d H' s n h => qe z ?_ d H' s n h⟩
      · refine ⟨_, rfl, _, rfl, .ref p, cs, ws, b, rfl, hp0, fun x d e _ => loop ?_ none, fun e d H' s n h => qe b ?_ d H' s n h⟩
        · show (if (colF cs z).isNone = true then some z else if (colF cs b).isNone = true then some b else none) = none
          rw [e0, e]; rfl
        · show (if (colF cs z).isNone = true then some z else if (colF cs b).isNone = true then some b else none) = some b
          rw [e0, e]; rfl
      · show (if (colF cs z).isNone = true then some z else if (colF cs b).isNone = true then some b else none) = some z
        rw [e]; rfl
abbrev s_ready_at : Stmt := topS 6
def n_ready_at : List Str := ["palette", "colour", "at", "row"]
theorem sc_ready_at : FnScope n_ready_at ["palette", "colour", "at"] (defScope s_ready_at) := ⟨rfl, rfl, rfl, by decide +kernel, rfl, by decide +kernel, by decide +kernel⟩
def spReadyX (K : PySem.W.Frag) (C : Addr) : Sp := fun vs H Q E => ∃ (v : V) (cs : List Col) (ws : List Wsh) (z : Str) (at_ : Int), vs = [v, .str z, .int at_] ∧ Dp K H v (palD cs ws) ∧ (∀ c, colF cs z = some c → Q (.int (at_ + c.2.1 + c.2.2.1)) H) ∧
  (colF cs z = none → ∀ (d : Addr) (H' : Hp), Same H H' → H d = none → H' d = some (nsX z) → E (.ref C) (some d) H')
theorem ok_readyX {f C : Addr} {fd : FuncData} {k : Nat} (F : FunV K "ready_at" s_ready_at [.int 0] f fd) (c_colour_row : ClX P w K mg base 3 "colour_row" (spColX K C)) : FnOk P w K mg base (L2.CX P w) (k + 4) f fd ["palette", "colour", "at"] (spReadyX K C) := by
  refine FunD.ok F sc_ready_at (fun vs H Q E h => ?_) (fun cdv A outer s H vs Q E hr h => ?_)
  · obtain ⟨v, cs, ws, z, at_, rfl, _⟩ := h
    rfl
  · obtain ⟨v, cs, ws, z, at_, rfl, hp, q, qe⟩ := h
    have nd := sc_ready_at.nd
    refine ⟨_, (pss_cons (ps_set (i := 3) nd rfl (.inl rfl) (pe_clX c_colour_row hr (by omega) (by rfl) (takes_of rfl rfl rfl rfl) (pa_cons (pv 0) (pa_cons (pv 1) pa_nil))))
      (pss_one (ps_ret (pe_op op_add (pe_op op_add (pv 2) (pe_ix (kx_tup (K := K)) (pv 3) pe_int (fun _ _ => rfl))) (pe_ix (kx_tup (K := K)) (pv 3) pe_int (fun _ _ => rfl)))))), ?_⟩
    refine ⟨_, rfl, _, rfl, v, cs, ws, z, rfl, hp, fun x c hc dp => ?_, qe⟩
    obtain ⟨r, rfl, hr2⟩ := col_dp dp
    exact ⟨_, rfl, _, rfl, r, _, 1, _, rfl, rfl, hr2, rfl, _, _, rfl, rfl, _, rfl, r, _, 2, _, rfl, rfl, hr2, rfl, _, _, rfl, rfl, q c hc⟩

end
end Pot




namespace Pot
open PySem PySem.Spec PyProof.Rows L2
section
variable {P : Program} {w : World} {K : PySem.W.Frag} {mg : Str → Option Value} {base : Heap}
/-- a def that may raise, called by its name, the values ds being left out -/
def ClDX (P : Program) (w : World) (K : PySem.W.Frag) (mg : Str → Option Value) (base : Heap) (k : Nat) (x : Str) (ds : List V) (sp : Sp) : Prop :=
  ∃ (f : Addr) (fd : FuncData) (ps : List Str) (dus : List Value), FnOk P w K mg base (L2.CX P w) k f fd ps sp ∧ mg x = some (.ref f) ∧ PySem.W.keepIn K (.ref f) = true ∧ Binds K fd ps dus ∧ Vals ds dus
theorem pe_cdX {X : Cx} {W : WX} {k j : Nat} {x : Str} {ds : List V} {sp : Sp} {e : Expr} {es : List Expr} {t : TA} {p pos : Pos} (c : ClDX X.prog X.w X.K X.mg X.base k x ds sp) (room : Room j X.A) (le : k ≤ j) (glob : Gl X x) (tk : Takes X W) (args : PA X (e :: es) t)
    (dbg : (x == ("__debug__" : Str)) = false := by decide) (plain : starEach (e :: es) X.env = (false, eval e X.env) :: starEach es X.env := by rfl) (none_ : (backTo pos (starEach es X.env)).any (·.1) = false := by rfl) :
    PE X (.Call (.Name x p) (e :: es) [] pos) (tCallSD sp ds (WE W) t) := by
  obtain ⟨f, fd, ps, dus, G, at_, kp, b, dv⟩ := c
  exact pe_callSD G (room.mono le) glob at_ kp b dv (fun σ => passAt tk σ) args dbg plain none_
/-- what isinstance tells of a NoSuch -/
structure Oth3 (K : PySem.W.Frag) (mg : Str → Option Value) (C cH : Addr) : Prop where
  gC : mg "NoSuch" = some (.ref C)
  gH : mg "HallError" = some (.ref cH)
  gV : mg "ValueError" = none
  gK : mg "KeyError" = none
  gI : mg "IndexError" = none
  gL : mg "LookupError" = none
  te : PySem.W.exmOne K (.ref C) (.ref C) = some true
  ex : ExcC K C
  xf : XfC K C
  wh : PySem.W.findIn K (.ref C) "what" = some none
  na : PySem.W.findIn K (.ref C) "name" = some none
  o1 : PySem.W.kitAny K (.ref C) [.ref cH, .type "ValueError", .type "KeyError", .type "IndexError"] = some false
  o2 : PySem.W.kitOne K (.ref C) (.type "LookupError") = some true
abbrev s__law_told : Stmt := topS 13
def n__law_told : List Str := ["_law_which", "_law_palette_here", "_law_ahead", "_law_behind", "_law_found", "_law_caught", "error"]
theorem sc__law_told : FnScope n__law_told ["_law_which", "_law_palette_here", "_law_ahead", "_law_behind"] (defScope s__law_told) := ⟨rfl, rfl, rfl, by decide +kernel, rfl, by decide +kernel, by decide +kernel⟩
def refD (z : Str) : PyData := .list [.str "refused", .str "colour", .str z]
/-- what is told: by which way it's asked -/
def toldF (cs : List Col) (ws : List Wsh) (k : Int) (a : Option Str) (b : Str) : PyData :=
  if k = 0 then match a with
    | some z => match colF cs z with | some c => colD c | none => refD z
    | none => .none
  else if k = 1 then match missF cs a b with | none => optD (washF ws a b) | some z => refD z
  else match a with
    | some z => match colF cs z with | some c => .int (c.2.1 + c.2.2.1) | none => refD z
    | none => .none
def spTold3 (K : PySem.W.Frag) : Sp := fun vs H Q _ => ∃ (v : V) (cs : List Col) (ws : List Wsh) (k : Int) (a : Option Str) (b : Str), vs = [.int k, v, namV a, .str b] ∧ Dp K H v (palD cs ws) ∧ (k = 1 ∨ a.isSome = true) ∧
  ∀ (H' : Hp) (x : V), Same H H' → Dp K H' x (toldF cs ws k a b) → Q x H'
def toldRest (K : PySem.W.Frag) (C cH : Addr) : TS := tSeq (tIfS (tTest (tOp (fun x y H Q => y = V.non ∧ Q (V.bl (decide (x = V.non))) H) (tVar 5) (tC V.non))) (tRet (tVar 4)) tNext)
  (tSeq (tIfS (tOr (tB (tCB (rIsDT K) (tCons (tVar 5) (tCons (tTup (tCons (tC (V.ref cH)) (tCons (tC (V.ty "ValueError")) (tCons (tC (V.ty "KeyError")) (tCons (tC (V.ty "IndexError")) tNil))))) tNil)))) (tNot (tB (tCB (rIsD K) (tCons (tVar 5) (tCons (tC (V.ty "LookupError")) tNil)))))) (tRet (tC (V.str (Str.ofString "other")))) tNext)
    (tRet (tLst (tCons (tC (V.str (Str.ofString "refused"))) (tCons (tKf C (Str.ofString "what") (tVar 5)) (tCons (tKf C (Str.ofString "name") (tVar 5)) tNil))))))
theorem told_fine {C cH : Addr} {v0 v1 v2 v3 v6 : Option V} {x : V} {H : Hp} {Q : VK} (q : Q x H) : toldRest K C cH { nx := fun _ H' => Q V.non H', rt := Q } [v0, v1, v2, v3, some x, some .non, v6] H :=
  ⟨_, rfl, rfl, _, rfl, iteT ⟨_, rfl, q⟩⟩
theorem told_caught {C cH a d : Addr} {z : Str} {v0 v1 v2 v3 v4 v6 : Option V} {H0 H : Hp} {Q : VK} (O : Oth3 K mg C cH) (s0 : Same H0 H) (hd : H d = some (nsX z)) (na : H a = none)
    (q : ∀ (H' : Hp) (x : V), Same H0 H' → Dp K H' x (refD z) → Q x H') : toldRest K C cH { nx := fun _ H' => Q V.non H', rt := Q } [v0, v1, v2, v3, v4, some (.ref a), v6] (upd H a (CauO (.ref C) (some d) a)) := by
  have hA : (upd H a (CauO (.ref C) (some d) a)) a = some (CauO (.ref C) (some d) a) := upd_same
  have s1 : Same H0 (upd H a (CauO (.ref C) (some d) a)) := s0.trans (same_upd na)
  have hd1 := same_upd (o := CauO (.ref C) (some d) a) na _ _ hd
  generalize upd H a (CauO (.ref C) (some d) a) = H1 at hA s1 hd1 ⊢
  refine ⟨_, rfl, rfl, _, rfl, iteF ?_⟩
  refine ⟨_, rfl, (by show 4 ≤ sizeLine; decide), fun t nt => ?_⟩
  have s2 := same_upd (o := .tup [.ref cH, .ty "ValueError", .ty "KeyError", .ty "IndexError"]) nt
  refine ⟨a, C, d, t, _, _, _, false, rfl, s2 _ _ hA, s2 _ _ hd1, O.ex, upd_same, .cons (.own cH) (.cons (.ty _) (.cons (.ty _) (.cons (.ty _) .nil))), O.o1, _, rfl, ?_⟩
  have hA := s2 _ _ hA
  have hd1 := s2 _ _ hd1
  have s1 := s1.trans s2
  generalize upd H1 t (.tup [.ref cH, .ty "ValueError", .ty "KeyError", .ty "IndexError"]) = H2 at hA s1 hd1 ⊢
  refine iteF ⟨_, rfl, a, C, d, _, _, _, true, rfl, hA, hd1, O.ex, .ty "LookupError", O.o2, _, rfl, iteF ?_⟩
  refine ⟨_, rfl, a, d, _, .str "colour", rfl, hA, hd1, rfl, _, rfl, a, d, _, .str z, rfl, hA, hd1, rfl, (by show 3 ≤ sizeLine; decide), fun l nl => ?_⟩
  exact q _ _ (s1.trans (same_upd nl)) (.lst (SqL.of upd_same) (.cons (.str _) (.cons (.str _) (.cons (.str _) .nil))))
theorem ok_told3 {f C cH : Addr} {fd : FuncData} {k : Nat} (F : Fun K "_law_told" "_law_told" s__law_told f fd) (T : Txt mg) (O : Oth3 K mg C cH) (c_colour_row : ClX P w K mg base 3 "colour_row" (spColX K C)) (c_wash_for : ClX P w K mg base 4 "wash_for" (spWashX K C)) (c_ready_at : ClDX P w K mg base 4 "ready_at" [.int 0] (spReadyX K C)) : FnOk P w K mg base CX0 (k + 5) f fd ["_law_which", "_law_palette_here", "_law_ahead", "_law_behind"] (spTold3 K) := by
  refine F.ok sc__law_told (fun vs H Q E h => ?_) (fun cdv A outer s H vs Q E hr h => ?_)
  · obtain ⟨v, cs, ws, n, a, b, rfl, _⟩ := h
    rfl
  · obtain ⟨v, cs, ws, n, a0, b, rfl, dv, hk, q⟩ := h
    have nd := sc__law_told.nd
    /- 0 _law_which, 1 _law_palette_here, 2 _law_ahead, 3 _law_behind, 4 _law_found, 5 _law_caught, 6 error -/
    refine ⟨_, pss_cons (ps_asg (pe_tup (pa_cons pe_non (pa_cons pe_non pa_nil))) (kg_tup (K := K) (n := 2) (pgs_cons (pg_name (i := 4) nd rfl (.inl rfl)) (pgs_cons (pg_name (i := 5) nd rfl (.inl rfl)) pgs_nil))))
      (pss_cons (ps_try_keep (i := 6) (ts := fun _ => tAsg (tVar 6) (gName 5)) rfl rfl rfl nd rfl rfl ⟨rfl, by decide, .inl O.gC⟩
          (fun W pn xe tk po => pss_one (ps_if (pt_cmpR op_eq (pv 0) pe_int (nomark _)) (pss_one (ps_set (i := 4) nd rfl (.inl rfl) (pe_clX c_colour_row hr (by omega) (by rfl) tk (pa_cons (pv 1) (pa_cons (pv 2) pa_nil)))))
            (pss_one (ps_if (pt_cmpR op_eq (pv 0) pe_int (nomark _)) (pss_one (ps_set (i := 4) nd rfl (.inl rfl) (pe_clX c_wash_for hr (by omega) (by rfl) tk (pa_cons (pv 1) (pa_cons (pv 2) (pa_cons (pv 3) pa_nil))))))
              (pss_one (ps_set (i := 4) nd rfl (.inl rfl) (pe_cdX c_ready_at hr (by omega) (by rfl) tk (pa_cons (pv 1) (pa_cons (pv 2) pa_nil)))))))))
          (fun a pn => pss_one (ps_set (i := 5) nd rfl (.inl rfl) (pv 6))))
      (pss_cons (ps_if (pt_cmpR op_isN (pv 5) pe_non (nomark _)) (pss_one (ps_ret (pv 4))) pss_nil)
      (pss_cons (ps_if (pw_or (pt_val (pe_callB (kc_isDT (K := K)) (by rfl) T.isinstance (by decide +kernel) (pa_cons (pv 5) (pa_cons (pe_tup (pa_cons (pe_glob (v := .ref cH) (by rfl) O.gH rfl) (pa_cons (pe_bltn (v := .ty "ValueError") (by rfl) O.gV (by decide +kernel) rfl) (pa_cons (pe_bltn (v := .ty "KeyError") (by rfl) O.gK (by decide +kernel) rfl) (pa_cons (pe_bltn (v := .ty "IndexError") (by rfl) O.gI (by decide +kernel) rfl) pa_nil))))) pa_nil))))
          (pw_or1 (pt_not (pt_val (pe_callB (kc_isD (K := K)) (by rfl) T.isinstance (by decide +kernel) (pa_cons (pv 5) (pa_cons (pe_bltn (v := .ty "LookupError") (by rfl) O.gL (by decide +kernel) rfl) pa_nil))))))).pt (pss_one (ps_ret pe_str)) pss_nil)
      (pss_one (ps_ret (pe_lst (pa_cons pe_str (pa_cons (pe_kf O.xf O.wh (pv 5)) (pa_cons (pe_kf O.xf O.na (pv 5)) pa_nil))))))))), ?_⟩
    refine ⟨(by decide), fun z0 hz0 => ⟨z0, _, rfl, .inl (.inl upd_same), rfl, _, _, rfl, _, _, rfl, rfl, ?_⟩⟩
    have s0 : Same H (upd H z0 (.tup [.non, .non])) := same_upd hz0
    have dv0 := dp_same s0 dv
    generalize upd H z0 (.tup [.non, .non]) = H0 at s0 dv0 ⊢
    have rest : ∀ {v0 v1 v2 v3 v4 v6 : Option V} {z : Str} {d a : Addr} {H' : Hp}, toldF cs ws n a0 b = refD z → Same H0 H' → H' d = some (nsX z) → H' a = none → toldRest K C cH { nx := fun _ H' => Q V.non H', rt := Q } [v0, v1, v2, v3, v4, some (.ref a), v6] (upd H' a (CauO (.ref C) (some d) a)) := fun e s1 hd na =>
      told_caught O (s0.trans s1) hd na fun H2 x s2 dx => q H2 x s2 (by rw [e]; exact dx)
    refine ⟨_, rfl, rfl, _, rfl, ite2 (fun h1 => ?_) (fun h1 => ?_)⟩
    · have e0 : n = 0 := V.int.inj (of_decide_eq_true h1)
      subst e0
      cases a0 with
      | none => rcases hk with z | z <;> cases z
      | some z =>
        refine ⟨_, rfl, _, rfl, v, cs, ws, z, rfl, dv0, fun x c hc dx => ?_, fun hc d H' sd nd hd => ⟨O.te, fun a na => ?_⟩⟩
        · refine told_fine (q _ _ s0 ?_)
          have e : toldF cs ws 0 (some z) b = colD c := by unfold toldF; rw [if_pos rfl]; show (match colF cs z with | some c => colD c | none => refD z) = _; rw [hc]
          rw [e]; exact dx
        · refine ⟨_, rfl, ?_⟩
          refine rest ?_ sd hd na
          unfold toldF
          rw [if_pos rfl]
          show (match colF cs z with | some c => colD c | none => refD z) = _
          rw [hc]
    · have n0 : n ≠ 0 := fun e => h1 (decide_eq_true (by rw [e]))
      refine ⟨_, rfl, rfl, _, rfl, ite2 (fun h2 => ?_) (fun h2 => ?_)⟩
      · have e1 : n = 1 := V.int.inj (of_decide_eq_true h2)
        subst e1
        have e : toldF cs ws 1 a0 b = match missF cs a0 b with | none => optD (washF ws a0 b) | some z => refD z := by
          unfold toldF
          rw [if_neg n0, if_pos rfl]
        refine ⟨_, rfl, _, rfl, _, rfl, v, cs, ws, a0, b, rfl, dv0, fun hm => ?_, fun z hm d H' sd nd hd => ⟨O.te, fun a na => ?_⟩⟩
        · refine told_fine (q _ _ s0 ?_)
          rw [e, hm]
          exact opt_dp _
        · refine ⟨_, rfl, ?_⟩
          refine rest ?_ sd hd na
          rw [e, hm]
      · have n1 : n ≠ 1 := fun e => h2 (decide_eq_true (by rw [e]))
        cases a0 with
        | none =>
          rcases hk with z | z
          · exact absurd z n1
          · cases z
        | some z =>
          have e : toldF cs ws n (some z) b = match colF cs z with | some c => .int (c.2.1 + c.2.2.1) | none => refD z := by
            unfold toldF
            rw [if_neg n0, if_neg n1]
          refine ⟨_, rfl, _, rfl, v, cs, ws, z, 0, rfl, dv0, fun c hc => ?_, fun hc d H' sd nd hd => ⟨O.te, fun a na => ?_⟩⟩
          · refine told_fine (q _ _ s0 ?_)
            rw [e, hc]
            show Dp K H0 (.int (0 + c.2.1 + c.2.2.1)) (.int (c.2.1 + c.2.2.1))
            rw [Int.zero_add]
            exact .int _
          · refine ⟨_, rfl, ?_⟩
            refine rest ?_ sd hd na
            rw [e, hc]

end
end Pot



namespace Pot
open PySem PySem.Spec PyProof.Rows L2
section
variable {P : Program} {w : World} {K : PySem.W.Frag} {mg : Str → Option Value} {base : Heap}
theorem Cl.imp {k : Nat} {x : Str} {sp sp' : Sp} (c : Cl P w K mg base k x sp) (h : ∀ vs H Q E, sp' vs H Q E → sp vs H Q E) : Cl P w K mg base k x sp' := by
  obtain ⟨f, fd, ps, G, r⟩ := c
  exact ⟨f, fd, ps, G.imp h, r⟩
abbrev s__law_take : Stmt := topS 9
def n__law_take : List Str := ["_law_state", "_law_many", "_law_turn", "_law_place", "_law_cell", "_law_digit", "_law_mixed"]
theorem sc__law_take : FnScope n__law_take ["_law_state", "_law_many"] (defScope s__law_take) := ⟨rfl, rfl, rfl, by decide +kernel, rfl, by decide +kernel, by decide +kernel⟩
/-! ### _law_take -/
def spTake : Sp := fun vs H Q _ => ∃ (d c : Addr) (m : Int) (n : Nat), vs = [.ref d, .int m] ∧ 0 < m ∧ m < 1073741824 ∧ StAt H d c n ∧ n < 2 ^ 40 ∧
  ∀ H' r, 0 ≤ r → r < m → StAt H' d c (n + 1) → Sm [d, c] H H' → Q (.int r) H'
theorem ok_take {f : Addr} {fd : FuncData} {k : Nat} (F : Fun K "_law_take" "_law_take" s__law_take f fd) (T : Txt mg) :
    FnOk P w K mg base CX0 (k + 1) f fd ["_law_state", "_law_many"] spTake := by
  refine F.ok sc__law_take (fun vs H Q E h => ?_) (fun cdv A outer s H vs Q E hr h => ?_)
  · obtain ⟨d, c, m, n, rfl, _⟩ := h
    rfl
  · obtain ⟨d, c, m, n, rfl, hm0, hm1, ⟨ndc, xs, t, hd, hc, hx, hx63, ht0, htn⟩, hn, q0⟩ := h
    have q : ∀ H' r, 0 ≤ r → r < m → StAt H' d c (n + 1) → Kp d c H H' → Q (.int r) H' := fun H' r a b e k => q0 H' r a b e (kp_sm k)
    have hu := hu_of hr
    have nd := sc__law_take.nd
    refine ⟨_, (pss_cons (ps_set (i := 2) nd rfl (.inl rfl) (pe_op op_add (pe_dget hu (pv 0) pe_str (fun _ _ => rfl)) pe_int))
      (pss_cons (ps_dput hu (pv 0) pe_str (pv 2) rfl)
      (pss_cons (ps_set (i := 3) nd rfl (.inl rfl) (pe_op op_mod (pv 2) (pe_callB (kc_len (K := K)) (by rfl) T.len PySem.boot_len (pa_cons (pe_dget hu (pv 0) pe_str (fun _ _ => rfl)) pa_nil))))
      (pss_cons (ps_set (i := 4) nd rfl (.inl rfl) (pe_ix (kx_list (K := K)) (pe_dget hu (pv 0) pe_str (fun _ _ => rfl)) (pv 3) (fun _ _ => rfl)))
      (pss_cons (ps_if (pt_cmpR op_ge (pv 4) (pe_op op_pow pe_int pe_int) (nomark _))
          (pss_cons (ps_asg (pe_callB call_divmod (by rfl) T.divmod (by decide +kernel) (pa_cons (pv 4) (pa_cons (pv 1) pa_nil))) (kg_tup (K := K) (n := 2) (pgs_cons (pg_sub (pe_dget hu (pv 0) pe_str (fun _ _ => rfl)) (pv 3) set_list) (pgs_cons (pg_name (i := 5) nd rfl (.inl rfl)) pgs_nil))))
          (pss_one (ps_ret (pv 5))))
          pss_nil)
      (pss_cons (ps_set (i := 6) nd rfl (.inl rfl) (pe_op op_mod (pe_op op_mul (pe_op op_add (pe_op op_add (pe_op op_mod (pv 4) pe_int) (pe_op op_mul (pe_op op_mul (pv 2) (pv 2)) pe_int)) pe_int) pe_int) pe_int))
      (pss_cons (ps_set (i := 6) nd rfl (.inl rfl) (pe_op op_mod (pe_op op_mul (pv 6) (pv 6)) pe_int))
      (pss_one (ps_ret (pe_op op_mod (pe_op op_fdiv (pe_op op_mod (pe_op op_mul (pe_op op_add (pv 6) (pe_op op_mul (pv 2) pe_int)) pe_int) pe_int) pe_int) (pv 1))))))))))), ?_⟩
    -- turn = state['turn'] + 1
    refine ⟨_, rfl, d, _, rfl, dget_turn hd, _, _, rfl, rfl, ?_⟩
    -- state['turn'] = turn
    refine ⟨_, rfl, _, rfl, d, _, rfl, dput_turn (t + 1) hd, ?_⟩
    have hd1 : (upd H d (.dK (dS c (t + 1)))) d = some (.dK (dS c (t + 1))) := upd_same
    have hc1 : (upd H d (.dK (dS c (t + 1)))) c = some (.lst (xs.map V.int)) := by rw [upd_ne ndc.symm]; exact hc
    generalize hH1 : upd H d (.dK (dS c (t + 1))) = H1 at hd1 hc1 ⊢
    have kp1 : Kp d c H H1 := fun b o h1 h2 e => by rw [← hH1, upd_ne h1]; exact e
    obtain ⟨j, y, ej, hj, gj⟩ := mod_at (u := t + 1) hx
    have gj' : (xs.map V.int)[j]? = some (.int y) := by rw [List.getElem?_map, gj]; rfl
    -- place = turn % len(state['cells'])
    refine ⟨_, rfl, _, rfl, d, _, rfl, dget_cells hd1, _, _, rfl, .inl ⟨_, SqL.of hc1, rfl⟩, _, _, rfl, rfl, ?_, ?_⟩
    · show (0 : Int) < ((xs.map V.int).length : Int)
      rw [List.length_map]
      have h0 : 0 < xs.length := List.length_pos_iff.mpr hx
      omega
    -- cell = state['cells'][place]
    refine ⟨_, rfl, d, _, rfl, dget_cells hd1, _, rfl, c, _, _, _, rfl, rfl, SqL.of hc1, (by show atI (xs.map V.int) ((t + 1) % ((xs.map V.int).length : Int)) = some (.int y); rw [ej]; exact atI_nat gj'), ?_⟩
    -- if cell >= 10 ** 18
    refine ⟨_, rfl, _, _, rfl, rfl, ⟨by decide, by decide, by decide⟩, _, _, rfl, rfl, _, rfl, ?_⟩
    refine ite2 (fun hb => ?_) (fun hb => ?_)
    · -- cells[place], digit = divmod(cell, many)
      refine ⟨_, rfl, _, rfl, _, _, rfl, ⟨hm0, hm1⟩, fun p hp => ?_⟩
      have npd : d ≠ p := ne_of_none hd1 hp
      have npc : c ≠ p := ne_of_none hc1 hp
      refine ⟨p, _, rfl, .inl (.inl upd_same), rfl, _, _, rfl, _, rfl, d, _, rfl, dget_cells (t := t + 1) (by rw [upd_ne npd]; exact hd1), _, rfl, ?_⟩
      refine ⟨c, _, _, j, rfl, rfl, (by rw [upd_ne npc]; exact hc1), (by show ixN (xs.map V.int).length ((t + 1) % ((xs.map V.int).length : Int)) = some j; rw [ej]; exact Evl.ixN_nat (by rw [List.length_map]; exact hj)), ?_⟩
      refine ⟨_, _, rfl, rfl, _, rfl, ?_⟩
      refine q _ _ (Int.emod_nonneg _ (by omega)) (Int.emod_lt_of_pos _ hm0) ⟨ndc, xs.set j (y / m), t + 1, ?_, ?_, ?_, ?_, by omega, by omega⟩ (kp1.trans fun b o h1 h2 e => ?_)
      · rw [upd_ne ndc, upd_ne npd]; exact hd1
      · rw [upd_same, List.map_set]
      · intro z
        have z2 := congrArg List.length z
        rw [List.length_set] at z2
        exact hx (List.length_eq_zero_iff.mp z2)
      · rw [List.length_set]; exact hx63
      · rw [upd_ne h2, upd_ne (ne_of_none e hp)]; exact e
    · -- the mixed way
      have t2 : t + 1 < 2 ^ 41 := by omega
      have tt : (t + 1) * (t + 1) < 2 ^ 82 := Int.lt_of_lt_of_le (Int.mul_lt_mul t2 (Int.le_of_lt t2) (by omega) (by decide)) (by decide)
      refine ⟨_, rfl, _, _, rfl, rfl, (by show (0 : Int) < 2147483629; decide), _, rfl, _, rfl, _, _, rfl, rfl, .inl ⟨by omega, by omega⟩, _, _, rfl, rfl, .inr ⟨by decide, by decide⟩, _, _, rfl, rfl, _, _, rfl, rfl, _, _, rfl, rfl, .inr ⟨by decide, by decide⟩, _, _, rfl, rfl, (by show (0 : Int) < 2147483647; decide), ?_⟩
      refine ⟨_, rfl, _, rfl, _, _, rfl, rfl, cmul_mod _ _ (by decide) (by decide), _, _, rfl, rfl, (by show (0 : Int) < 2147483579; decide), ?_⟩
      refine ⟨_, rfl, _, rfl, _, _, rfl, rfl, .inr ⟨by decide, by decide⟩, _, _, rfl, rfl, _, _, rfl, rfl, .inr ⟨by decide, by decide⟩, _, _, rfl, rfl, (by show (0 : Int) < 2147483629; decide), _, _, rfl, rfl, ⟨by decide, by decide⟩, _, rfl, _, _, rfl, rfl, hm0, ?_⟩
      exact q _ _ (Int.emod_nonneg _ (by omega)) (Int.emod_lt_of_pos _ hm0) ⟨ndc, xs, t + 1, hd1, hc1, hx, hx63, by omega, by omega⟩ kp1

abbrev s__law_begin : Stmt := topS 8
def n__law_begin : List Str := ["_law_script", "_law_cells"]
theorem sc__law_begin : FnScope n__law_begin ["_law_script"] (defScope s__law_begin) := ⟨rfl, rfl, rfl, by decide +kernel, rfl, by decide +kernel, by decide +kernel⟩
/-! ### _law_begin -/
def spBegin (K : PySem.W.Frag) : Sp := fun vs H Q _ => ∃ (a : Addr) (ns : List Int), vs = [.ref a] ∧ SqL K H a (ns.map V.int) ∧ ns.length ≤ 63 ∧ ∀ H' d c, Same H H' → StAt H' d c 0 → H d = none → H c = none → Q (.ref d) H'
theorem ok_begin {f : Addr} {fd : FuncData} {k : Nat} (F : Fun K "_law_begin" "_law_begin" s__law_begin f fd) (T : Txt mg) : FnOk P w K mg base CX0 (k + 1) f fd ["_law_script"] (spBegin K) := by
  refine F.ok sc__law_begin (fun vs H Q E h => ?_) (fun cdv A outer s H vs Q E hr h => ?_)
  · obtain ⟨a, ns, rfl, _⟩ := h
    rfl
  · obtain ⟨a, ns, rfl, hS, h63, q⟩ := h
    refine ⟨_, pss_cons (ps_set (i := 1) sc__law_begin.nd rfl (.inl rfl) (pe_callTy call_list_of (by rfl) T.list (by decide +kernel) (pa_cons (pe_slice sl_list (pv 0) po_none (po_some pe_int)) pa_nil)))
      (pss_cons (ps_if (pt_cmpR (op_eqD hr.units) (pv 1) (pe_lst pa_nil) (nomark _)) (pss_one (ps_set (i := 1) sc__law_begin.nd rfl (.inl rfl) (pe_lst (pa_cons pe_int pa_nil)))) pss_nil)
      (pss_one (ps_ret (pe_disp (pps_cons pe_str (pv 1) (pps_cons pe_str pe_int pps_nil)) (by rfl) (by rfl) (fun z => by cases z) (by decide))))), ?_⟩
    refine ⟨_, rfl, 63, rfl, a, _, rfl, hS, fun p hp => ?_⟩
    rw [cut63 (by rw [List.length_map]; exact h63)]
    refine ⟨p, _, rfl, .inl (SqL.of upd_same), fun c hc => ?_⟩
    have npc : p ≠ c := ne_of_none (upd_same (H := H) (o := .lst (ns.map V.int))) hc
    have sm1 : Same H (upd (upd H p (.lst (ns.map V.int))) c (.lst (ns.map V.int))) := (same_upd hp).trans (same_upd hc)
    have hc0 : H c = none := (same_upd hp).free hc
    have hcl : (upd (upd H p (.lst (ns.map V.int))) c (.lst (ns.map V.int))) c = some (.lst (ns.map V.int)) := upd_same
    generalize upd (upd H p (.lst (ns.map V.int))) c (.lst (ns.map V.int)) = H1 at sm1 hcl ⊢
    refine ⟨_, rfl, Nat.zero_le _, fun e he => ?_⟩
    have nce : c ≠ e := ne_of_none hcl he
    refine ⟨_, _, .lst (SqL.of (by rw [upd_ne nce]; exact hcl)) (dp_ints ns), .lst (SqL.of upd_same) .nil, PySem.W.ke_shaped_ints ns, PySem.W.ke_shaped_ints [], _, rfl, ?_⟩
    have fin : ∀ (H2 : Hp) (c2 : Addr) (xs : List Int), Same H H2 → H c2 = none → H2 c2 = some (.lst (xs.map V.int)) → xs ≠ [] → xs.length ≤ 63 →
        tRet (tDisp [(tC (V.str "cells"), tVar 1), (tC (V.str "turn"), tC (V.int 0))]) { nx := fun x H' => Q V.non H', rt := Q } [some (.ref a), some (.ref c2)] H2 := by
      intro H2 c2 xs s2 n2 h2 x0 x63 d hd
      refine ⟨_, rfl, upd_same, [(Sum.inr "cells", .ref c2), (Sum.inr "turn", .int 0)], rfl, (by show 2 ≤ 15; decide), ?_⟩
      have em : mergeK [] [((Sum.inr "cells" : Key), V.ref c2), (Sum.inr "turn", .int 0)] = dS c2 0 := by
        have e : ¬ ((Sum.inr (Str.ofString "cells") : Key) = Sum.inr (Str.ofString "turn")) := by decide +kernel
        unfold mergeK dS
        simp [putK, e]
      rw [em]
      have ncd : c2 ≠ d := ne_of_none h2 hd
      refine q _ d c2 (same_put (same_put s2 (s2.free hd)) (s2.free hd)) ⟨ncd.symm, xs, 0, upd_same, ?_, x0, x63, by decide, by decide⟩ (s2.free hd) n2
      rw [upd_ne ncd, upd_ne ncd]
      exact h2
    cases ns with
    | nil =>
      show if PyData.eqv (PyData.list []) (PyData.list []) = true then _ else _
      rw [if_pos (by rfl)]
      refine ⟨(by show 1 ≤ sizeLine; decide), fun g hg => ?_⟩
      have hg1 : H1 g = none := (same_upd he).free hg
      exact fin _ g [17] (same_put (same_put sm1 (sm1.free he)) (sm1.free hg1)) (sm1.free hg1) upd_same (by intro z; cases z) (by decide)
    | cons n r =>
      show if PyData.eqv (PyData.list (PyData.int n :: r.map PyData.int)) (PyData.list []) = true then _ else _
      rw [if_neg (by intro z; cases z)]
      refine fin _ c (n :: r) (same_put sm1 (sm1.free he)) hc0 (by rw [upd_ne nce]; exact hcl) (by intro z; cases z) h63

/-! ### _law_names: words of letters -/
abbrev s__law_names : Stmt := topS 10
def n__law_names : List Str := ["_law_state", "_law_many", "_law_letters", "_law_first", "_law_pairs", "_law_stem", "_law_at", "_law_step", "_law_short", "_law_found", "_law_k", "_law_name", "_law_turn"]
theorem sc__law_names : FnScope n__law_names ["_law_state", "_law_many"] (defScope s__law_names) := ⟨rfl, rfl, rfl, by decide +kernel, rfl, by decide +kernel, by decide +kernel⟩
def spTakeK : Sp := fun vs H Q _ => ∃ (d c : Addr) (m : Int) (n : Nat), vs = [.ref d, .int m] ∧ 0 < m ∧ m < 1073741824 ∧ StAt H d c n ∧ n < 2 ^ 40 ∧
  ∀ H' r, 0 ≤ r → r < m → StAt H' d c (n + 1) → Kp d c H H' → Q (.int r) H'
def Lt (fi stp : Int) (j : Nat) : Nat := 97 + ((fi + stp * (0 + (j : Int))) % 26).toNat
theorem lt_inj {fi stp : Int} {i j : Nat} (hs : stp = 3 ∨ stp = 5 ∨ stp = 25) (hi : i < 26) (hj : j < 26) (e : Lt fi stp i = Lt fi stp j) : i = j := by
  unfold Lt at e
  rcases hs with rfl | rfl | rfl <;> omega
theorem cps_app (a b : Str) : (a ++ b).cps.toList = a.cps.toList ++ b.cps.toList := Array.toList_append
/-- the names found so far: each has its letter at its place, none is there twice -/
structure Nms (fi stp : Int) (a2 : Nat) (ys : List Str) : Prop where
  nm : ∀ y ∈ ys, Nm y
  nd : ys.Nodup
  lt : ∀ (p : Nat) (y : Str), ys[p]? = some y → ∃ j, j ≤ p ∧ y.cps.toList[a2]? = some (Lt fi stp j) ∧ (p % 2 = 0 → j = p)
theorem Nms.nil {fi stp : Int} {a2 : Nat} : Nms fi stp a2 [] := ⟨fun _ h => (List.not_mem_nil h).elim, List.nodup_nil, fun _ _ h => by simp at h⟩
theorem Nms.put {fi stp : Int} {a2 : Nat} {ys : List Str} {z : Str} {j : Nat} (M : Nms fi stp a2 ys) (n : Nm z) (nz : z ∉ ys) (hj : j ≤ ys.length) (h : z.cps.toList[a2]? = some (Lt fi stp j)) (e : ys.length % 2 = 0 → j = ys.length) : Nms fi stp a2 (ys ++ [z]) := by
  refine ⟨fun y hy => ?_, ?_, fun p y hp => ?_⟩
  · rcases List.mem_append.mp hy with k | k
    · exact M.nm y k
    · rw [List.mem_singleton.mp k]; exact n
  · refine List.nodup_append.mpr ⟨M.nd, by simp, fun a ha b hb => ?_⟩
    rw [List.mem_singleton.mp hb]
    intro k; exact nz (k ▸ ha)
  · rcases Nat.lt_or_ge p ys.length with k | k
    · rw [List.getElem?_append_left k] at hp
      exact M.lt p y hp
    · rw [List.getElem?_append_right k] at hp
      have e0 : p = ys.length := by
        rcases Nat.lt_or_ge (p - ys.length) 1 with q | q
        · omega
        · rw [List.getElem?_eq_none (by simpa using q)] at hp; cases hp
      subst e0
      have : z = y := by simpa using hp
      subst this
      exact ⟨j, hj, h, e⟩
/-- a name with its own letter is new -/
theorem Nms.fresh {fi stp : Int} {a2 : Nat} {ys : List Str} {z : Str} (M : Nms fi stp a2 ys) (hs : stp = 3 ∨ stp = 5 ∨ stp = 25) (l : ys.length < 26) (h : z.cps.toList[a2]? = some (Lt fi stp ys.length)) : z ∉ ys := fun k => by
  obtain ⟨p, hp⟩ := List.getElem?_of_mem k
  have hl := (List.getElem?_eq_some_iff.mp hp).1
  obtain ⟨j, h1, h2, _⟩ := M.lt p z hp
  rw [h2] at h
  have := lt_inj hs (by omega) l (Option.some.inj h)
  omega
/-- a name longer than the last one is new -/
theorem Nms.longer {fi stp : Int} {a2 : Nat} {hd : List Str} {y z : Str} (M : Nms fi stp a2 (hd ++ [y])) (hs : stp = 3 ∨ stp = 5 ∨ stp = 25) (l : hd.length < 26) (e : hd.length % 2 = 0) (lz : y.length < z.length) (h : z.cps.toList[a2]? = y.cps.toList[a2]?) : z ∉ hd ++ [y] := fun k => by
  obtain ⟨j0, _, h0, e0⟩ := M.lt hd.length y (by simp)
  obtain ⟨p, hp⟩ := List.getElem?_of_mem k
  rcases Nat.lt_or_ge p hd.length with q | q
  · obtain ⟨j, h1, h2, _⟩ := M.lt p z hp
    rw [h2, h0] at h
    have := lt_inj hs (by omega) (by rw [e0 e]; omega) (Option.some.inj h)
    have := e0 e
    omega
  · rw [List.getElem?_append_right q] at hp
    have : y = z := by
      rcases Nat.lt_or_ge (p - hd.length) 1 with q2 | q2
      · have : p - hd.length = 0 := by omega
        rw [this] at hp
        simpa using hp
      · rw [List.getElem?_eq_none (by simpa using q2)] at hp; cases hp
    subst this
    omega
def spNames : Sp := fun vs H Q _ => ∃ (d c : Addr) (n m : Nat), vs = [.ref d, .int (m : Nat)] ∧ StAt H d c n ∧ n + 2000 < 2 ^ 40 ∧ m ≤ 26 ∧
  ∀ (H' : Hp) (L : Addr) (ys : List Str), StAt H' d c (n + 13 + m) → Sm [d, c] H H' → H L = none → H' L = some (.lst (ys.map V.str)) → ys.length = m → (∀ y ∈ ys, Nm y) → ys.Nodup → Q (.ref L) H'
theorem ok_names {f : Addr} {fd : FuncData} {k : Nat} (F : Fun K "_law_names" "_law_names" s__law_names f fd) (T : Txt mg) (c__law_take : Cl P w K mg base (k + 1) "_law_take" spTake) : FnOk P w K mg base CX0 (k + 2) f fd ["_law_state", "_law_many"] spNames := by
  refine F.ok sc__law_names (fun vs H Q E h => ?_) (fun cdv A outer s H vs Q E hr h => ?_)
  · obtain ⟨d, c, n, m, rfl, _⟩ := h
    rfl
  · obtain ⟨d, c, n, m, rfl, hS, hn, hm, q⟩ := h
    have c__law_take : Cl P w K mg base (k + 1) "_law_take" spTakeK := c__law_take.imp fun vs H Q E h => by
      obtain ⟨d, c, m, n, e, h1, h2, h3, h4, q⟩ := h
      exact ⟨d, c, m, n, e, h1, h2, h3, h4, fun H' r a b st k => q H' r a b st (sm_kp k)⟩
    have nd := sc__law_names.nd
    refine ⟨_, (pss_cons (ps_asg (pe_tup (pa_cons pe_str (pa_cons (pe_cl c__law_take hr (by omega) (by rfl) (pa_cons (pv 0) (pa_cons pe_int pa_nil))) (pa_cons (pe_cl c__law_take hr (by omega) (by rfl) (pa_cons (pv 0) (pa_cons pe_int pa_nil))) pa_nil)))) (kg_tup (K := K) (n := 3) (pgs_cons (pg_name (i := 2) nd rfl (.inr rfl)) (pgs_cons (pg_name (i := 3) nd rfl (.inl rfl)) (pgs_cons (pg_name (i := 4) nd rfl (.inl rfl)) pgs_nil)))))
      (pss_cons (ps_set (i := 5) nd rfl (.inl rfl) (ke_join (K := K) pe_str (pe_lc (own := [("_law_turn", 12)]) rfl nd (pi_range1 (by rfl) T.range (pa_cons (pe_cl c__law_take hr (by omega) (by rfl) (pa_cons (pv 0) (pa_cons pe_int pa_nil))) pa_nil)) (blkOk_by (N := n__law_names) (sc := defScope s__law_names) (by decide +kernel)) (fun _ _ _ _ _ => (pg_name (i := 12) nd rfl (.inl rfl))) (fun _ _ _ _ _ => pts_nil) (fun _ _ _ _ _ => (pe_ix ix_str (pv 2) (pe_cl c__law_take hr (by omega) (by rfl) (pa_cons (pv 0) (pa_cons pe_int pa_nil))) (fun _ _ => rfl))))))
      (pss_cons (ps_par3 (i := 6) (j := 7) (l := 8) rfl nd rfl rfl rfl (by decide) (by decide) (by decide) rfl rfl rfl (pa_cons (pe_cl c__law_take hr (by omega) (by rfl) (pa_cons (pv 0) (pa_cons (pe_op op_add (pe_callB (kc_len (K := K)) (by rfl) T.len PySem.boot_len (pa_cons (pv 5) pa_nil)) pe_int) pa_nil))) (pa_cons (pe_ix (kx_list (K := K)) (pe_lst (pa_cons pe_int (pa_cons pe_int (pa_cons pe_int pa_nil)))) (pe_cl c__law_take hr (by omega) (by rfl) (pa_cons (pv 0) (pa_cons pe_int pa_nil))) (fun _ _ => rfl)) (pa_cons (pe_cl c__law_take hr (by omega) (by rfl) (pa_cons (pv 0) (pa_cons pe_int pa_nil))) pa_nil))) rfl)
      (pss_cons (ps_set (i := 9) nd rfl (.inl rfl) (pe_lst pa_nil))
      (pss_cons (ps_for PassesOwn.never rfl (pi_range1 (by rfl) T.range (pa_cons (pv 1) pa_nil)) (pg_name (i := 10) nd rfl (.inl rfl))
          (pss_cons (ps_set (i := 11) nd rfl (.inl rfl) (pe_op op_add_str (pe_slice sl_str (pv 5) po_none (po_some (pv 6))) (pe_ix ix_str (pv 2) (pe_op op_mod (pe_op op_add (pv 3) (pe_op op_mul (pv 7) (pv 10))) pe_int) (fun _ _ => rfl))))
          (pss_cons (ps_set (i := 11) nd rfl (.inl rfl) (pe_op op_add_str (pv 11) (pe_ix (kx_list (K := K)) (pe_lst (pa_cons (pe_slice sl_str (pv 5) (po_some (pv 6)) po_none) (pa_cons (pe_slice sl_str (pe_slice sl_str (pv 5) (po_some (pv 6)) po_none) po_none (po_some (pe_op op_mod (pv 10) pe_int))) pa_nil))) (pv 8) (fun _ _ => rfl))))
          (pss_cons (ps_if ((pw_and (pt_cmpR op_eq (pv 4) pe_int (nomark _)) (pw_and (pt_cmpR op_eq (pe_op op_mod (pv 10) pe_int) pe_int (nomark _)) (pw_and1 (pt_cmpR op_lt (pe_callB (kc_len (K := K)) (by rfl) T.len PySem.boot_len (pa_cons (pe_ix (kx_list (K := K)) (pv 9) (pe_un un_neg pe_int) (fun _ _ => rfl)) pa_nil)) pe_int (nomark _)))))).pt
              (pss_one (ps_set (i := 11) nd rfl (.inl rfl) (pe_op op_add_str (pe_ix (kx_list (K := K)) (pv 9) (pe_un un_neg pe_int) (fun _ _ => rfl)) (pe_ix ix_str (pv 2) (pe_cl c__law_take hr (by omega) (by rfl) (pa_cons (pv 0) (pa_cons pe_int pa_nil))) (fun _ _ => rfl)))))
              pss_nil)
          (pss_one (ps_expr (pe_bm PySem.F.plainAttrs_list PySem.F.slot_list_append PySem.F.type_list_append mt_append (pv 9) (pa_cons (pv 11) pa_nil))))))))
      (pss_one (ps_ret (pv 9)))))))), ?_⟩
    -- letters, first, pairs
    refine ⟨_, rfl, d, c, 26, n, rfl, (by decide), (by decide), hS, by omega, fun H1 fi f0 f1 hS1 k1 => ?_⟩
    refine ⟨_, rfl, d, c, 2, n + 1, rfl, (by decide), (by decide), hS1, by omega, fun H2 pr p0 p1 hS2 k2 => ⟨(by show 3 ≤ sizeLine; decide), fun t nt => ?_⟩⟩
    have k2 := k1.trans k2
    have k3 := kp_put (o := .tup [.str "abcdefghijklmnopqrstuvwxyz", .int fi, .int pr]) k2 (k2.free hS2 nt)
    have hS3 := hS2.put (o := .tup [.str "abcdefghijklmnopqrstuvwxyz", .int fi, .int pr]) (hS2.ne1 nt) (hS2.ne2 nt)
    refine ⟨t, _, rfl, .inl (.inl upd_same), rfl, _, _, rfl, _, _, rfl, _, _, rfl, rfl, ?_⟩
    generalize upd H2 t (.tup [.str "abcdefghijklmnopqrstuvwxyz", .int fi, .int pr]) = H3 at k3 hS3 ⊢
    -- stem
    refine ⟨⟨_, rfl⟩, _, rfl, d, c, 8, n + 2, rfl, (by decide), (by decide), hS3, by omega, fun H4 sn s0 s1 hS4 k4 => ⟨_, rfl, (by omega), (by omega), fun D nD => ?_⟩⟩
    have k4 := k3.trans k4
    have nD0 := k4.free hS4 nD
    have nDd := (hS4.ne1 nD).symm
    have nDc := (hS4.ne2 nD).symm
    refine lc_it walk_range (fun i H5 => StAt H5 d c (n + 3 + i) ∧ Kp d c H H5 ∧ ∃ ys : List Str, H5 D = some (.lst (ys.map V.str)) ∧ ys.length = i ∧ ∀ y ∈ ys, Wd 1 y) ⟨hS4.put nDd.symm nDc.symm, kp_put k4 nD0, [], upd_same, rfl, fun _ h => (List.not_mem_nil h).elim⟩ (fun _ _ _ _ => trivial) ?_ ?_
    · rintro i x H5 H6 hi ⟨hS5, k5, ys, hL, hy, hw⟩ ⟨rfl, rfl⟩
      refine ⟨rfl, tYes_at ?_⟩
      rw [if_pos rfl]
      refine ⟨_, rfl, _, rfl, d, c, 26, n + 3 + i, rfl, (by decide), (by decide), hS5, by omega, fun H7 r r0 r1 hS7 k7 => ?_⟩
      refine ⟨_, r, 97 + r.toNat, rfl, rfl, (by decide +kernel), az_ix r0 r1, _, k7 D _ nDd nDc hL, ?_, (hS7.put nDd.symm nDc.symm).mono (by omega), kp_put (k5.trans k7) nD0, ys ++ [⟨#[97 + r.toNat]⟩], ?_, ?_, ?_⟩
      · rw [List.length_map, hy]; exact Nat.lt_of_lt_of_le (show i < 8 by omega) (by decide)
      · rw [upd_same, List.map_append]; rfl
      · rw [List.length_append, hy]; rfl
      · intro y h
        rcases List.mem_append.mp h with h | h
        · exact hw y h
        · rw [List.mem_singleton.mp h]; exact wd_letter r0 r1
    rintro H5 ⟨hS5, k5, ys, hL, hy, hw⟩
    have hy7 : ys.length ≤ 7 := by omega
    refine ⟨_, D, ys, rfl, rfl, .inl (SqL.of hL), ?_, ?_⟩
    · have h : ∀ {l : List Str}, (∀ y ∈ l, Wd 1 y) → (l.map (·.length)).sum ≤ l.length := by
        intro l
        induction l with
        | nil => intro _; exact Nat.le_refl _
        | cons a r ih =>
          intro h
          have h1 := (h a List.mem_cons_self).1
          have h2 := ih fun y hy => h y (List.mem_cons_of_mem _ hy)
          simp only [List.map_cons, List.sum_cons, List.length_cons]
          omega
      have := h hw
      show _ + ys.length * 0 ≤ _
      omega
    have hst : Wd 7 (Txt.join (Str.ofString "") ys) := by rw [TL.join_eq]; exact (wd_join hw).mono hy7
    have hS5 : StAt H5 d c (n + 10) := hS5.mono (by omega)
    generalize Txt.join (Str.ofString "") ys = stem at hst ⊢
    -- at, step, short
    refine ⟨_, rfl, _, rfl, _, _, rfl, ⟨wd_small hst (by decide), rfl⟩, _, _, rfl, rfl, d, c, _, n + 10, rfl, (by omega), (by have := hst.1; omega), hS5, by omega, fun H6 at_ a0 a1 hS6 k6 => ?_⟩
    refine ⟨(by show 3 ≤ sizeLine; decide), fun z nz => ?_⟩
    have k6 := k5.trans k6
    have ndz := (hS6.ne1 nz).symm
    have ncz := (hS6.ne2 nz).symm
    have hS7 := hS6.put (o := .lst [.int 3, .int 5, .int 25]) ndz.symm ncz.symm
    have k7 := kp_put (o := .lst [.int 3, .int 5, .int 25]) k6 (k6.free hS6 nz)
    have hz : upd H6 z (.lst [.int 3, .int 5, .int 25]) z = _ := upd_same
    generalize upd H6 z (.lst [.int 3, .int 5, .int 25]) = H7 at hS7 k7 hz ⊢
    refine ⟨_, rfl, d, c, 3, n + 11, rfl, (by decide), (by decide), hS7, by omega, fun H8 r3 b0 b1 hS8 k8 => ?_⟩
    obtain ⟨stp, es⟩ : ∃ stp : Int, atI [V.int 3, .int 5, .int 25] r3 = some (.int stp) ∧ (stp = 3 ∨ stp = 5 ∨ stp = 25) := by
      have h : r3 = 0 ∨ r3 = 1 ∨ r3 = 2 := by omega
      rcases h with rfl | rfl | rfl
      · exact ⟨3, rfl, by decide⟩
      · exact ⟨5, rfl, by decide⟩
      · exact ⟨25, rfl, by decide⟩
    refine ⟨z, _, r3, .int stp, rfl, rfl, SqL.of (k8 _ _ ndz ncz hz), es.1, ?_⟩
    refine ⟨_, rfl, d, c, 2, n + 12, rfl, (by decide), (by decide), hS8, by omega, fun H9 sh c0 c1 hS9 k9 => ⟨_, _, _, rfl, ?_⟩⟩
    have k9 := (k7.trans k8).trans k9
    obtain ⟨a2, rfl⟩ : ∃ a2 : Nat, at_ = (a2 : Int) := ⟨at_.toNat, by omega⟩
    have ha2 : a2 ≤ stem.length := by omega
    -- found = []
    refine ⟨Nat.zero_le _, fun L nL => ?_⟩
    have nL0 := k9.free hS9 nL
    have nLd := (hS9.ne1 nL).symm
    have nLc := (hS9.ne2 nL).symm
    refine ⟨_, rfl, _, rfl, (by omega), (by omega), ?_⟩
    refine for_it walk_range (fun i σ H10 => ∃ v10 v11, σ = [some (.ref d), some (.int (m : Nat)), some (.str "abcdefghijklmnopqrstuvwxyz"), some (.int fi), some (.int pr), some (.str stem), some (.int (a2 : Nat)), some (.int stp), some (.int sh), some (.ref L), v10, v11, none] ∧
        StAt H10 d c (n + 13 + i) ∧ Kp d c H H10 ∧ ∃ ys : List Str, H10 L = some (.lst (ys.map V.str)) ∧ ys.length = i ∧ Nms fi stp a2 ys)
      ⟨none, none, rfl, hS9.put nLd.symm nLc.symm, kp_put k9 nL0, [], upd_same, rfl, .nil⟩ (fun _ _ _ _ _ => trivial) ?_ ?_
    · rintro i x σ H10 H11 hi ⟨v10, v11, rfl, hS10, k10, ys2, hL2, hy2, hw2⟩ ⟨rfl, rfl⟩
      have hi2 : i < m := by omega
      have x0 : 0 ≤ (fi + stp * (0 + (i : Int))) % 26 := Int.emod_nonneg _ (by decide)
      have x1 : (fi + stp * (0 + (i : Int))) % 26 < 26 := Int.emod_lt_of_pos _ (by decide)
      have w1 := wd_head (k := a2) hst
      have w3 := wd_tail (k := a2) hst
      -- name = stem[:at] + letters[..]
      refine ⟨_, rfl, _, rfl, _, rfl, _, rfl, wd_small hst (by decide), ?_⟩
      refine ⟨_, rfl, _, rfl, _, rfl, _, rfl, _, _, rfl, rfl, .inl ⟨by omega, by omega⟩, _, _, rfl, rfl, _, _, rfl, rfl, (by show (0 : Int) < 26; decide), ?_⟩
      refine ⟨_, _, _, rfl, rfl, (by decide +kernel), az_ix x0 x1, _, _, rfl, rfl, ?_, ?_⟩
      · have := w1.1
        show _ + 1 ≤ sizeLine
        rw [sizeLine_eq]
        have := hst.1
        omega
      have w2 := wd_add w1 (wd_letter x0 x1)
      have nm1 := w2
      have la : (cutS stem none (some ((a2 : Nat) : Int)) ++ ⟨#[97 + ((fi + stp * (0 + (i : Int))) % 26).toNat]⟩).cps.toList[a2]? = some (Lt fi stp i) := by
        have lc : (cutS stem none (some ((a2 : Nat) : Int))).cps.toList.length = a2 := by
          unfold cutS
          rw [HT.sIx_none, HT.sIx_nat]
          show (List.take _ _).toArray.toList.length = a2
          have e : stem.cps.toList.length = stem.length := Array.length_toList
          simp only [List.length_take, List.length_drop, e]
          omega
        rw [cps_app, List.getElem?_append_right (by omega), lc, Nat.sub_self]
        rfl
      generalize cutS stem none (some ((a2 : Nat) : Int)) ++ ⟨#[97 + ((fi + stp * (0 + (i : Int))) % 26).toNat]⟩ = nam at nm1 la ⊢
      -- name = name + [..][short]
      refine ⟨_, rfl, _, rfl, _, rfl, _, rfl, _, rfl, wd_small hst (by decide), ?_⟩
      refine ⟨_, rfl, _, rfl, _, rfl, _, rfl, wd_small hst (by decide), ?_⟩
      refine ⟨_, rfl, _, _, rfl, rfl, (by show (0 : Int) < 3; decide), _, rfl, _, rfl, wd_small (wd_cut hst) (by decide), (by show 2 ≤ sizeLine; decide), fun u nu => ?_⟩
      have k11 := kp_put (o := .lst [.str (cutS stem (some ((a2 : Nat) : Int)) none), .str (cutS (cutS stem (some ((a2 : Nat) : Int)) none) none (some ((0 + (i : Int)) % 3)))]) k10 (k10.free hS10 nu)
      have hS11 := hS10.put (o := .lst [.str (cutS stem (some ((a2 : Nat) : Int)) none), .str (cutS (cutS stem (some ((a2 : Nat) : Int)) none) none (some ((0 + (i : Int)) % 3)))]) (hS10.ne1 nu) (hS10.ne2 nu)
      have hu : upd H11 u (.lst [.str (cutS stem (some ((a2 : Nat) : Int)) none), .str (cutS (cutS stem (some ((a2 : Nat) : Int)) none) none (some ((0 + (i : Int)) % 3)))]) u = _ := upd_same
      have hL3 := same_upd (o := .lst [.str (cutS stem (some ((a2 : Nat) : Int)) none), .str (cutS (cutS stem (some ((a2 : Nat) : Int)) none) none (some ((0 + (i : Int)) % 3)))]) nu _ _ hL2
      obtain ⟨tl, etl, wtl⟩ : ∃ tl : Str, atI [V.str (cutS stem (some ((a2 : Nat) : Int)) none), .str (cutS (cutS stem (some ((a2 : Nat) : Int)) none) none (some ((0 + (i : Int)) % 3)))] sh = some (.str tl) ∧ Wd (stem.length - a2) tl := by
        have h : sh = 0 ∨ sh = 1 := by omega
        rcases h with rfl | rfl
        · exact ⟨_, rfl, w3⟩
        · exact ⟨_, rfl, wd_cut w3⟩
      generalize upd H11 u (.lst [.str (cutS stem (some ((a2 : Nat) : Int)) none), .str (cutS (cutS stem (some ((a2 : Nat) : Int)) none) none (some ((0 + (i : Int)) % 3)))]) = H12 at k11 hS11 hu hL3 ⊢
      have w8 : Wd 8 (nam ++ tl) := (wd_add nm1 wtl).mono (by have := hst.1; omega)
      refine ⟨_, rfl, u, _, sh, .str tl, rfl, rfl, SqL.of hu, etl, _, _, rfl, rfl, ?_, ?_⟩
      · have h1 := nm1.1
        have h2 := wtl.1
        have h3 := hst.1
        rw [sizeLine_eq]
        omega
      have lb : (nam ++ tl).cps.toList[a2]? = some (Lt fi stp i) := by
        have := (List.getElem?_eq_some_iff.mp la).1
        rw [cps_app, List.getElem?_append_left this]; exact la
      have pos : ∀ {z : Str} {v : Nat}, z.cps.toList[a2]? = some v → 0 < z.length := fun {z v} h => by
        have := (List.getElem?_eq_some_iff.mp h).1
        rw [Array.length_toList] at this
        exact Nat.lt_of_le_of_lt (Nat.zero_le _) this
      have M8 : Nms fi stp a2 (ys2 ++ [nam ++ tl]) := hw2.put ⟨w8, pos lb⟩ (hw2.fresh es.2 (by omega) (by rw [hy2]; exact lb)) (Nat.le_refl _) (by rw [hy2]; exact lb) (fun _ => rfl)
      generalize nam ++ tl = nam2 at w8 M8 ⊢
      have fin : ∀ (H13 : Hp) (nm : Str), Nms fi stp a2 (ys2 ++ [nm]) → StAt H13 d c (n + 13 + i + 1) → Kp d c H H13 → H13 L = some (.lst (ys2.map V.str)) →
          ∃ v10 v11, [some (V.ref d), some (.int (m : Nat)), some (.str "abcdefghijklmnopqrstuvwxyz"), some (.int fi), some (.int pr), some (.str stem), some (.int (a2 : Nat)), some (.int stp), some (.int sh), some (.ref L), some (.int (0 + (i : Int))), some (.str nm), none] = [some (V.ref d), some (.int (m : Nat)), some (.str "abcdefghijklmnopqrstuvwxyz"), some (.int fi), some (.int pr), some (.str stem), some (.int (a2 : Nat)), some (.int stp), some (.int sh), some (.ref L), v10, v11, none] ∧
          StAt (upd H13 L (.lst (ys2.map V.str ++ [.str nm]))) d c (n + 13 + (i + 1)) ∧ Kp d c H (upd H13 L (.lst (ys2.map V.str ++ [.str nm]))) ∧ ∃ ys : List Str, upd H13 L (.lst (ys2.map V.str ++ [.str nm])) L = some (.lst (ys.map V.str)) ∧ ys.length = i + 1 ∧ Nms fi stp a2 ys := by
        intro H13 nm wn hS13 k13 hL13
        refine ⟨_, _, rfl, hS13.put nLd.symm nLc.symm, kp_put k13 nL0, ys2 ++ [nm], by rw [upd_same, List.map_append]; rfl, by rw [List.length_append, hy2]; rfl, wn⟩
      have hS12 := hS11.mono (Nat.le_succ _)
      refine ⟨_, rfl, rfl, _, rfl, ite2 (fun h1 => ?_) (fun h1 => ?_)⟩
      · refine ⟨_, rfl, _, _, rfl, rfl, (by show (0 : Int) < 2; decide), rfl, _, rfl, ite2 (fun h2 => ?_) (fun h2 => ?_)⟩
        · have ei : (0 + (i : Int)) % 2 = 1 := V.int.inj (of_decide_eq_true h2)
          have ne2 : ys2 ≠ [] := fun z => by rw [z] at hy2; simp at hy2; omega
          obtain ⟨hd, y0, e0⟩ : ∃ hd y0, ys2 = hd ++ [y0] := ⟨_, _, (List.dropLast_concat_getLast ne2).symm⟩
          have el : atI (ys2.map V.str) (-1) = some (.str y0) := by
            rw [e0, List.map_append]; exact atI_last _ _
          have wy0 : Wd 8 y0 := (hw2.nm y0 (by rw [e0]; simp)).1
          refine ⟨_, rfl, 1, rfl, L, _, -1, _, rfl, rfl, SqL.of hL3, el, _, _, rfl, ⟨wd_small wy0 (by decide), rfl⟩, _, _, rfl, rfl, _, rfl, ite2 (fun h3 => ?_) (fun h3 => ?_)⟩
          · have ly : y0.length < 8 := by have := of_decide_eq_true h3; omega
            refine ⟨_, rfl, 1, rfl, L, _, -1, _, rfl, rfl, SqL.of hL3, el, _, rfl, _, rfl, d, c, 26, n + 13 + i, rfl, (by decide), (by decide), hS11, by omega, fun H14 r r0 r1 hS14 k14 => ?_⟩
            have hL4 := k14 L _ nLd nLc hL3
            refine ⟨_, r, _, rfl, rfl, (by decide +kernel), az_ix r0 r1, _, _, rfl, rfl, ?_, ?_⟩
            · show _ + 1 ≤ sizeLine
              rw [sizeLine_eq]
              omega
            have wz : Wd 8 (y0 ++ ⟨#[97 + r.toNat]⟩) := ⟨by rw [strLen_append]; show _ + 1 ≤ 8; omega, (wd_add wy0 (wd_letter r0 r1)).2⟩
            have eh : hd.length = i - 1 := by rw [e0, List.length_append] at hy2; have : [y0].length = 1 := rfl; omega
            obtain ⟨j0, l0, g0, h0⟩ := hw2.lt hd.length y0 (by rw [e0]; simp)
            have gz : (y0 ++ ⟨#[97 + r.toNat]⟩).cps.toList[a2]? = y0.cps.toList[a2]? := by
              rw [cps_app, List.getElem?_append_left (List.getElem?_eq_some_iff.mp g0).1]
            have Mz : Nms fi stp a2 (ys2 ++ [y0 ++ ⟨#[97 + r.toNat]⟩]) := by
              refine hw2.put ⟨wz, by rw [strLen_append]; show 0 < _ + 1; omega⟩ ?_ (show hd.length ≤ _ by omega) (by rw [gz, g0, h0 (by omega)]) (fun z => by omega)
              have := hw2
              rw [e0] at this ⊢
              exact this.longer es.2 (by omega) (by omega) (by rw [strLen_append]; show _ < _ + 1; omega) gz
            refine ⟨_, rfl, .inl ⟨rfl, _, SqL.of hL4⟩, _, rfl, L, _, _, rfl, rfl, hL4, (by rw [List.length_map, hy2]; exact Nat.lt_of_lt_of_le (show i < 1001 by omega) (by decide)), fin _ _ Mz hS14 (k11.trans k14) hL4⟩
          · refine ⟨_, rfl, .inl ⟨rfl, _, SqL.of hL3⟩, _, rfl, L, _, _, rfl, rfl, hL3, (by rw [List.length_map, hy2]; exact Nat.lt_of_lt_of_le (show i < 1001 by omega) (by decide)), fin _ _ M8 hS12 k11 hL3⟩
        · refine iteF ?_
          refine ⟨_, rfl, .inl ⟨rfl, _, SqL.of hL3⟩, _, rfl, L, _, _, rfl, rfl, hL3, (by rw [List.length_map, hy2]; exact Nat.lt_of_lt_of_le (show i < 1001 by omega) (by decide)), fin _ _ M8 hS12 k11 hL3⟩
      · refine iteF ?_
        refine ⟨_, rfl, .inl ⟨rfl, _, SqL.of hL3⟩, _, rfl, L, _, _, rfl, rfl, hL3, (by rw [List.length_map, hy2]; exact Nat.lt_of_lt_of_le (show i < 1001 by omega) (by decide)), fin _ _ M8 hS12 k11 hL3⟩
    · rintro σ H10 ⟨v10, v11, rfl, hS10, k10, ys2, hL2, hy2, hw2⟩
      exact ⟨_, rfl, q _ L ys2 hS10 (kp_sm k10) nL0 hL2 (by rw [hy2, Int.toNat_natCast]) hw2.nm hw2.nd⟩

end
end Pot






namespace Pot
open PySem PySem.Spec PyProof.Rows L2
section
variable {P : Program} {w : World} {K : PySem.W.Frag} {mg : Str → Option Value} {base : Heap}
/-! ### _law_palette -/
abbrev s__law_palette : Stmt := topS 11
def n__law_palette : List Str := ["_law_state", "_law_names_here", "_law_colours", "_law_washes", "_law_name", "_law_charge", "_law_melt", "_law_other", "_law_way", "_law_hours"]
theorem sc__law_palette : FnScope n__law_palette ["_law_state", "_law_names_here"] (defScope s__law_palette) := ⟨rfl, rfl, rfl, by decide +kernel, rfl, by decide +kernel, by decide +kernel⟩
def spPalette (K : PySem.W.Frag) : Sp := fun vs H Q _ => ∃ (d c l : Addr) (n : Nat) (ys : List Str), vs = [.ref d, .ref l] ∧ StAt H d c n ∧ n + 5000 < 2 ^ 40 ∧ SqL K H l (ys.map V.str) ∧ ys.length ≤ 14 ∧ (∀ y ∈ ys, Wd 9 y) ∧ l ≠ d ∧ l ≠ c ∧
  ∀ (H' : Hp) (v : V) (cs : List Col) (ws : List Wsh), StAt H' d c (n + 1000) → Kp d c H H' → Dp K H' v (palD cs ws) → PalOk cs ws → (cs.map (·.1)).Perm ys → Q v H'
/-- what stands while a palette is made: colours at C, washes at W, the names in order at Z -/
structure PMk (K : PySem.W.Frag) (H0 : Hp) (d c C W Z : Addr) (zs : List Str) (n : Nat) (xs us : List V) (cs : List Col) (ws : List Wsh) (H : Hp) : Prop where
  st : StAt H d c n
  kp : Kp d c H0 H
  hZ : H Z = some (.lst (zs.map V.str))
  hC : H C = some (.lst xs)
  dC : DpAll K H xs (cs.map colD)
  hW : H W = some (.lst us)
  dW : DpAll K H us (ws.map washD)
structure PAp (H0 : Hp) (d c C W Z : Addr) : Prop where
  Cd : C ≠ d
  Cc : C ≠ c
  Wd : W ≠ d
  Wc : W ≠ c
  Zd : Z ≠ d
  Zc : Z ≠ c
  CW : C ≠ W
  CZ : C ≠ Z
  WZ : W ≠ Z
  nC : H0 C = none
  nW : H0 W = none
  nZ : H0 Z = none
section
variable {H0 H H' : Hp} {d c C W Z p : Addr} {zs : List Str} {n m : Nat} {xs us : List V} {cs : List Col} {ws : List Wsh} {o : HO}
theorem PMk.drawn (P : PMk K H0 d c C W Z zs n xs us cs ws H) (a : PAp H0 d c C W Z) (st : StAt H' d c m) (k : Kp d c H H') : PMk K H0 d c C W Z zs m xs us cs ws H' :=
  ⟨st, P.kp.trans k, k _ _ a.Zd a.Zc P.hZ, k _ _ a.Cd a.Cc P.hC, dpAll_kp P.st k (noL_map noL_col _) P.dC, k _ _ a.Wd a.Wc P.hW, dpAll_kp P.st k (noL_map noL_wash _) P.dW⟩
theorem PMk.put (P : PMk K H0 d c C W Z zs n xs us cs ws H) (h : H p = none) : PMk K H0 d c C W Z zs n xs us cs ws (upd H p o) :=
  ⟨P.st.put (P.st.ne1 h) (P.st.ne2 h), kp_put P.kp (P.kp.free P.st h), same_upd h _ _ P.hZ, same_upd h _ _ P.hC, dpAll_same (same_upd h) P.dC, same_upd h _ _ P.hW, dpAll_same (same_upd h) P.dW⟩
theorem PMk.mono (P : PMk K H0 d c C W Z zs n xs us cs ws H) (h : n ≤ m) : PMk K H0 d c C W Z zs m xs us cs ws H := ⟨P.st.mono h, P.kp, P.hZ, P.hC, P.dC, P.hW, P.dW⟩
theorem dpAll_lst {l : Addr} {ys zs : List V} {es : List PyData} (he : H l = some (.lst ys)) (hn : noLAll es) (h : DpAll K H xs es) : DpAll K (upd H l (.lst zs)) xs es := by
  have go : ∀ {a : Addr} {us : List V}, SqT K H a us → SqT K (upd H l (.lst zs)) a us := fun {a us} h => by
    rcases h with (h | ⟨o, h⟩) | h
    · exact .inl (.inl (by rw [upd_ne (ne_of h he (by intro z; cases z))]; exact h))
    · exact .inl (.inr ⟨o, by rw [upd_ne (ne_of h he (by intro z; cases z))]; exact h⟩)
    · exact .inr h
  exact dpAll_go (fun a us h => go h) hn h
theorem PMk.colour (P : PMk K H0 d c C W Z zs n xs us cs ws H) (a : PAp H0 d c C W Z) {v : V} {r : Col} (hv : Dp K H v (colD r)) : PMk K H0 d c C W Z zs n (xs ++ [v]) us (cs ++ [r]) ws (upd H C (.lst (xs ++ [v]))) :=
  ⟨P.st.put a.Cd.symm a.Cc.symm, kp_put P.kp a.nC, by rw [upd_ne a.CZ.symm]; exact P.hZ, upd_same, by rw [List.map_append]; exact dpAll_app (dpAll_lst P.hC (noL_map noL_col _) P.dC) (dpAll_lst P.hC ⟨noL_col r, trivial⟩ (.cons hv .nil)),
    by rw [upd_ne a.CW.symm]; exact P.hW, dpAll_lst P.hC (noL_map noL_wash _) P.dW⟩
theorem PMk.wash (P : PMk K H0 d c C W Z zs n xs us cs ws H) (a : PAp H0 d c C W Z) {v : V} {r : Wsh} (hv : Dp K H v (washD r)) : PMk K H0 d c C W Z zs n xs (us ++ [v]) cs (ws ++ [r]) (upd H W (.lst (us ++ [v]))) :=
  ⟨P.st.put a.Wd.symm a.Wc.symm, kp_put P.kp a.nW, by rw [upd_ne a.WZ.symm]; exact P.hZ, by rw [upd_ne a.CW]; exact P.hC, dpAll_lst P.hW (noL_map noL_col _) P.dC, upd_same,
    by rw [List.map_append]; exact dpAll_app (dpAll_lst P.hW (noL_map noL_wash _) P.dW) (dpAll_lst P.hW ⟨noL_wash r, trivial⟩ (.cons hv .nil))⟩
end
theorem ok_palette {f : Addr} {fd : FuncData} {k : Nat} (F : Fun K "_law_palette" "_law_palette" s__law_palette f fd) (T : Txt mg) (c__law_take : Cl P w K mg base (k + 1) "_law_take" spTakeK) : FnOk P w K mg base CX0 (k + 2) f fd ["_law_state", "_law_names_here"] (spPalette K) := by
  refine F.ok sc__law_palette (fun vs H Q E h => ?_) (fun cdv A outer s H vs Q E hr h => ?_)
  · obtain ⟨d, c, l, n, ys, rfl, _⟩ := h
    rfl
  · obtain ⟨d, c, l, n, ys, rfl, hS, hn, hl, h14, hw, ld, lc, q⟩ := h
    have nd := sc__law_palette.nd
    refine ⟨_, (pss_cons (ps_par (i := 2) (j := 3) rfl nd rfl rfl (by decide) rfl rfl (pa_cons (pe_lst pa_nil) (pa_cons (pe_lst pa_nil) pa_nil)) rfl)
      (pss_cons (ps_for PassesOwn.never rfl (ki_list (K := K) (pe_callB (kc_sortedS (K := K)) (by rfl) T.sorted (by decide +kernel) (pa_cons (pv 1) pa_nil))) (pg_name (i := 4) nd rfl (.inl rfl))
          (pss_cons (ps_par (i := 5) (j := 6) rfl nd rfl rfl (by decide) rfl rfl (pa_cons (pe_op op_add pe_int (pe_cl c__law_take hr (by omega) (by rfl) (pa_cons (pv 0) (pa_cons pe_int pa_nil)))) (pa_cons (pe_cl c__law_take hr (by omega) (by rfl) (pa_cons (pv 0) (pa_cons (pe_ix (kx_list (K := K)) (pe_lst (pa_cons pe_int (pa_cons pe_int pa_nil))) (pe_cl c__law_take hr (by omega) (by rfl) (pa_cons (pv 0) (pa_cons pe_int pa_nil))) (fun _ _ => rfl)) pa_nil))) pa_nil)) rfl)
          (pss_cons (ps_expr (pe_bm PySem.F.plainAttrs_list PySem.F.slot_list_append PySem.F.type_list_append mt_append (pv 2) (pa_cons (pe_tup (pa_cons (pv 4) (pa_cons (pv 5) (pa_cons (pv 6) (pa_cons (pe_op op_add pe_int (pe_cl c__law_take hr (by omega) (by rfl) (pa_cons (pv 0) (pa_cons (pe_ix (kx_list (K := K)) (pe_lst (pa_cons pe_int (pa_cons pe_int pa_nil))) (pe_cl c__law_take hr (by omega) (by rfl) (pa_cons (pv 0) (pa_cons pe_int pa_nil))) (fun _ _ => rfl)) pa_nil)))) pa_nil))))) pa_nil)))
          (pss_one (ps_for PassesOwn.never rfl (ki_list (K := K) (pe_callB (kc_sortedS (K := K)) (by rfl) T.sorted (by decide +kernel) (pa_cons (pv 1) pa_nil))) (pg_name (i := 7) nd rfl (.inl rfl))
              (pss_cons (ps_set (i := 8) nd rfl (.inl rfl) (pe_cl c__law_take hr (by omega) (by rfl) (pa_cons (pv 0) (pa_cons pe_int pa_nil))))
              (pss_one (ps_if ((pw_and (pt_cmpR op_ne (pv 7) (pv 4) (nomark _)) (pw_and (pt_cmpR op_gt (pv 8) pe_int (nomark _)) (pw_and1 (pt_cmpR op_lt (pe_callB (kc_len (K := K)) (by rfl) T.len PySem.boot_len (pa_cons (pv 3) pa_nil)) pe_int (nomark _)))))).pt
                  (pss_cons (ps_set (i := 9) nd rfl (.inl rfl) (pe_ix (kx_list (K := K)) (pe_lst (pa_cons (pe_cl c__law_take hr (by omega) (by rfl) (pa_cons (pv 0) (pa_cons pe_int pa_nil))) (pa_cons (pe_cl c__law_take hr (by omega) (by rfl) (pa_cons (pv 0) (pa_cons pe_int pa_nil))) (pa_cons pe_int (pa_cons pe_non (pa_cons (pe_op op_add pe_int (pe_cl c__law_take hr (by omega) (by rfl) (pa_cons (pv 0) (pa_cons pe_int pa_nil)))) pa_nil)))))) (pe_op op_sub (pv 8) pe_int) (fun _ _ => rfl)))
                  (pss_one (ps_expr (pe_bm PySem.F.plainAttrs_list PySem.F.slot_list_append PySem.F.type_list_append mt_append (pv 3) (pa_cons (pe_tup (pa_cons (pv 4) (pa_cons (pv 7) (pa_cons (pv 9) pa_nil)))) pa_nil)))))
                  pss_nil))))))))
      (pss_one (ps_ret (pe_tup (pa_cons (pe_callTy (kc_tuple (K := K)) (by rfl) T.tuple (by decide +kernel) (pa_cons (pv 2) pa_nil)) (pa_cons (pe_callTy (kc_tuple (K := K)) (by rfl) T.tuple (by decide +kernel) (pa_cons (pv 3) pa_nil)) pa_nil))))))), ?_⟩
    -- colours, washes
    refine ⟨Nat.zero_le _, fun C nC => ⟨Nat.zero_le _, fun W nW => ⟨_, _, rfl, ?_⟩⟩⟩
    have nW0 := (same_upd nC).free nW
    have nCW : C ≠ W := ne_of_none upd_same nW
    have Cd := (hS.ne1 nC).symm
    have Cc := (hS.ne2 nC).symm
    have Wd' := (hS.ne1 nW0).symm
    have Wc := (hS.ne2 nW0).symm
    -- sorted(names)
    refine ⟨_, rfl, l, ys, rfl, (((same_upd nC).trans (same_upd nW)).seq hl), (by omega), fun zs Z hz hsort nZ => ⟨Z, rfl, ⟨_, SqL.of upd_same⟩, ?_⟩⟩
    have nZ0 := (same_upd nC).free ((same_upd nW).free nZ)
    have nCZ : C ≠ Z := ne_of_none (by rw [upd_ne nCW]; exact upd_same) nZ
    have nWZ : W ≠ Z := ne_of_none upd_same nZ
    have Zd := (hS.ne1 nZ0).symm
    have Zc := (hS.ne2 nZ0).symm
    have hwz : ∀ y ∈ zs, Wd 9 y := fun y hy => hw y (hz.mem_iff.mp hy)
    have lz : zs.length ≤ 14 := by rw [hz.length_eq]; exact h14
    have ap : PAp H d c C W Z := ⟨Cd, Cc, Wd', Wc, Zd, Zc, nCW, nCZ, nWZ, nC, nW0, nZ0⟩
    have start : PMk K H d c C W Z zs n [] [] [] [] (upd (upd (upd H C (.lst [])) W (.lst [])) Z (.lst (zs.map V.str))) :=
      ⟨((hS.put Cd.symm Cc.symm).put Wd'.symm Wc.symm).put Zd.symm Zc.symm, kp_put (kp_put (kp_put (.refl d c H) nC) nW0) nZ0, upd_same, by rw [upd_ne nCZ, upd_ne nCW]; exact upd_same, .nil, by rw [upd_ne nWZ]; exact upd_same, .nil⟩
    refine for_it (walk_list (xs := zs.map V.str)) (fun i σ H2 => ∃ v4 v5 v6 v7 v8 v9 xs us cs ws, σ = [some (.ref d), some (.ref l), some (.ref C), some (.ref W), v4, v5, v6, v7, v8, v9] ∧ PMk K H d c C W Z zs (n + 65 * i) xs us cs ws H2 ∧ PalOk cs ws ∧ cs.map (·.1) = zs.take i)
      ⟨none, none, none, none, none, none, [], [], [], [], rfl, start, ⟨by decide, by decide, fun _ h => (List.not_mem_nil h).elim, fun _ h => (List.not_mem_nil h).elim⟩, rfl⟩
      (fun i σ H2 _ h => by obtain ⟨_, _, _, _, _, _, _, _, _, _, _, h, _⟩ := h; exact SqL.of h.hZ) ?_ ?_
    · rintro i x σ H2 H3 hi ⟨v4, v5, v6, v7, v8, v9, xs, us, cs, ws, rfl, M, ok, ecs⟩ ⟨rfl, gx⟩
      rw [List.getElem?_map] at gx
      obtain ⟨z, gz, rfl⟩ := Option.map_eq_some_iff.mp gx
      have wz := hwz z (List.mem_of_getElem? gz)
      have hi14 : i < 14 := by rw [List.length_map] at hi; omega
      -- charge, melt
      refine ⟨_, rfl, d, c, 20, _, rfl, (by decide), (by decide), M.st, by omega, fun H4 ch h40 h41 st4 k4 => ⟨_, _, rfl, rfl, ?_⟩⟩
      have M := M.drawn ap st4 k4
      refine ⟨_, rfl, (by show 2 ≤ sizeLine; decide), fun a1 na1 => ?_⟩
      have q1 := M.st.ne1 na1
      have q2 := M.st.ne2 na1
      have M := M.put (o := .lst [.int 4, .int 100]) na1
      have h1 : upd H4 a1 (.lst [.int 4, .int 100]) a1 = _ := upd_same
      generalize upd H4 a1 (.lst [.int 4, .int 100]) = H5 at M h1 ⊢
      refine ⟨_, rfl, d, c, 2, _, rfl, (by decide), (by decide), M.st, by omega, fun H6 r1 r10 r11 st6 k6 => ?_⟩
      obtain ⟨b1, e1, b10, b11⟩ : ∃ b1 : Int, atI [V.int 4, .int 100] r1 = some (.int b1) ∧ 0 < b1 ∧ b1 ≤ 100 := by
        have h : r1 = 0 ∨ r1 = 1 := by omega
        rcases h with rfl | rfl
        · exact ⟨4, rfl, by decide, by decide⟩
        · exact ⟨100, rfl, by decide, by decide⟩
      refine ⟨a1, _, r1, .int b1, rfl, rfl, SqL.of (k6 _ _ q1.symm q2.symm h1), e1, ?_⟩
      have M := M.drawn ap st6 k6
      refine ⟨d, c, b1, _, rfl, b10, by omega, M.st, by omega, fun H7 me m0 m1 st7 k7 => ⟨_, _, rfl, ?_⟩⟩
      have M := M.drawn ap st7 k7
      -- colours.append(..)
      refine ⟨_, rfl, .inl ⟨rfl, _, SqL.of M.hC⟩, _, rfl, _, rfl, _, rfl, _, rfl, (by show 2 ≤ sizeLine; decide), fun a2 na2 => ?_⟩
      have q3 := M.st.ne1 na2
      have q4 := M.st.ne2 na2
      have M := M.put (o := .lst [.int 9, .int 999]) na2
      have h2 : upd H7 a2 (.lst [.int 9, .int 999]) a2 = _ := upd_same
      generalize upd H7 a2 (.lst [.int 9, .int 999]) = H8 at M h2 ⊢
      refine ⟨_, rfl, d, c, 2, _, rfl, (by decide), (by decide), M.st, by omega, fun H9 r2 r20 r21 st9 k9 => ?_⟩
      obtain ⟨b2, e2, b20, b21⟩ : ∃ b2 : Int, atI [V.int 9, .int 999] r2 = some (.int b2) ∧ 0 < b2 ∧ b2 ≤ 999 := by
        have h : r2 = 0 ∨ r2 = 1 := by omega
        rcases h with rfl | rfl
        · exact ⟨9, rfl, by decide, by decide⟩
        · exact ⟨999, rfl, by decide, by decide⟩
      refine ⟨a2, _, r2, .int b2, rfl, rfl, SqL.of (k9 _ _ q3.symm q4.symm h2), e2, ?_⟩
      have M := M.drawn ap st9 k9
      refine ⟨d, c, b2, _, rfl, b20, by omega, M.st, by omega, fun H10 ga g0 g1 st10 k10 => ⟨_, _, rfl, rfl, (by show 4 ≤ sizeLine; decide), fun t nt => ?_⟩⟩
      have M := M.drawn ap st10 k10
      have M := M.put (o := .tup [.str z, .int (1 + ch), .int me, .int (1 + ga)]) nt
      have ht : upd H10 t (.tup [.str z, .int (1 + ch), .int me, .int (1 + ga)]) t = _ := upd_same
      generalize upd H10 t (.tup [.str z, .int (1 + ch), .int me, .int (1 + ga)]) = H11 at M ht ⊢
      have hv : Dp K H11 (.ref t) (colD (z, 1 + ch, me, 1 + ga)) := .tup (.inl (.inl ht)) (.cons (.str _) (.cons (.int _) (.cons (.int _) (.cons (.int _) .nil))))
      have lcs : cs.length = i := by
        have := congrArg List.length ecs
        rw [List.length_map, List.length_take] at this
        rw [List.length_map] at hi
        omega
      have lxs : xs.length = i := by rw [dpAll_map_len M.dC]; exact lcs
      refine ⟨C, _, _, rfl, rfl, M.hC, (by rw [lxs]; exact Nat.lt_of_lt_of_le hi14 (by decide)), ?_⟩
      have M := M.colour ap hv
      have ok := ok.addC (c := (z, 1 + ch, me, 1 + ga)) (by omega) ⟨wz.1, wd_codes wz, by show (1 + ch).natAbs < 10000; omega, by show me.natAbs < 10000; omega, by show (1 + ga).natAbs < 10000; omega⟩
      have ecs : (cs ++ [((z, 1 + ch, me, 1 + ga) : Col)]).map (·.1) = zs.take (i + 1) := by
        rw [List.map_append, ecs, List.take_add_one, gz]
        rfl
      generalize upd H11 C (.lst (xs ++ [.ref t])) = H12 at M ⊢
      generalize xs ++ [V.ref t] = xs2 at M
      generalize cs ++ [((z, 1 + ch, me, 1 + ga) : Col)] = cs2 at M ok ecs
      -- the washes of this one
      refine ⟨_, rfl, l, ys, rfl, kp_seq M.kp ld lc hl, (by omega), fun zs2 Z2 hz2 _ nZ2 => ⟨Z2, rfl, ⟨_, SqL.of upd_same⟩, ?_⟩⟩
      have z2d := (M.st.ne1 nZ2).symm
      have z2c := (M.st.ne2 nZ2).symm
      have z2W : W ≠ Z2 := ne_of_none M.hW nZ2
      have hw2 : ∀ y ∈ zs2, Wd 9 y := fun y hy => hw y (hz2.mem_iff.mp hy)
      have l2 : zs2.length ≤ 14 := by rw [hz2.length_eq]; exact h14
      refine for_it (walk_list (xs := zs2.map V.str)) (fun j σ H13 => ∃ v7 v8 v9 us ws, σ = [some (.ref d), some (.ref l), some (.ref C), some (.ref W), some (.str z), some (.int (1 + ch)), some (.int me), v7, v8, v9] ∧ PMk K H d c C W Z zs (n + 65 * i + 5 + 4 * j) xs2 us cs2 ws H13 ∧ H13 Z2 = some (.lst (zs2.map V.str)) ∧ PalOk cs2 ws)
        ⟨_, _, _, us, ws, rfl, (M.put nZ2).mono (by omega), upd_same, ok⟩ (fun j σ H13 _ h => by obtain ⟨_, _, _, _, _, _, _, h, _⟩ := h; exact SqL.of h) ?_ ?_
      · rintro j x σ H13 H14 hj ⟨v7, v8, v9, us, ws, rfl, M, hZ2, ok⟩ ⟨rfl, gx⟩
        rw [List.getElem?_map] at gx
        obtain ⟨y, gy, rfl⟩ := Option.map_eq_some_iff.mp gx
        have wy := hw2 y (List.mem_of_getElem? gy)
        have hj14 : j < 14 := by rw [List.length_map] at hj; omega
        refine ⟨_, rfl, d, c, 7, _, rfl, (by decide), (by decide), M.st, by omega, fun H15 wa w0 w1 st15 k15 => ?_⟩
        have M := M.drawn ap st15 k15
        have hZ2 := k15 _ _ z2d z2c hZ2
        have out : ∀ (v9 : Option V), ∃ v7 v8 v9' us ws, [some (V.ref d), some (.ref l), some (.ref C), some (.ref W), some (.str z), some (.int (1 + ch)), some (.int me), some (.str y), some (.int wa), v9] = [some (.ref d), some (.ref l), some (.ref C), some (.ref W), some (.str z), some (.int (1 + ch)), some (.int me), v7, v8, v9'] ∧ PMk K H d c C W Z zs (n + 65 * i + 5 + 4 * (j + 1)) xs2 us cs2 ws H15 ∧ H15 Z2 = some (.lst (zs2.map V.str)) ∧ PalOk cs2 ws := fun v9 => ⟨_, _, _, us, ws, rfl, M.mono (by omega), hZ2, ok⟩
        refine ⟨_, rfl, _, rfl, rfl, _, rfl, ite2 (fun c1 => ?_) (fun c1 => iteF (out _))⟩
        refine ⟨_, rfl, _, _, rfl, rfl, _, rfl, ite2 (fun c2 => ?_) (fun c2 => iteF (out _))⟩
        refine ⟨_, rfl, _, _, rfl, .inl ⟨_, SqL.of M.hW, rfl⟩, _, _, rfl, rfl, _, rfl, ite2 (fun c3 => ?_) (fun c3 => out _)⟩
        have hwa : 1 < wa := of_decide_eq_true c2
        have lus : us.length < 60 := by have := of_decide_eq_true c3; omega
        refine ⟨_, rfl, d, c, 4, _, rfl, (by decide), (by decide), M.st, by omega, fun H16 t1 t10 t11 st16 k16 => ?_⟩
        have M := M.drawn ap st16 k16
        refine ⟨_, rfl, d, c, 100, _, rfl, (by decide), (by decide), M.st, by omega, fun H17 t2 t20 t21 st17 k17 => ?_⟩
        have M := M.drawn ap st17 k17
        refine ⟨_, rfl, d, c, 9, _, rfl, (by decide), (by decide), M.st, by omega, fun H18 t3 t30 t31 st18 k18 => ⟨_, _, rfl, rfl, (by show 5 ≤ sizeLine; decide), fun e ne => ?_⟩⟩
        have M := M.drawn ap st18 k18
        have hZ2 := k18 _ _ z2d z2c (k17 _ _ z2d z2c (k16 _ _ z2d z2c hZ2))
        have hZ2 := same_upd (o := .lst [.int t1, .int t2, .int 0, .non, .int (1 + t3)]) ne _ _ hZ2
        have M := M.put (o := .lst [.int t1, .int t2, .int 0, .non, .int (1 + t3)]) ne
        have he : upd H18 e (.lst [.int t1, .int t2, .int 0, .non, .int (1 + t3)]) e = _ := upd_same
        generalize upd H18 e (.lst [.int t1, .int t2, .int 0, .non, .int (1 + t3)]) = H19 at M he hZ2 ⊢
        obtain ⟨o, eo, bo⟩ : ∃ o : Option Int, atI [V.int t1, .int t2, .int 0, .non, .int (1 + t3)] (wa - 2) = some (optV o) ∧ ∀ i, o = some i → i.natAbs < 10000 := by
          have h : wa = 2 ∨ wa = 3 ∨ wa = 4 ∨ wa = 5 ∨ wa = 6 := by omega
          rcases h with rfl | rfl | rfl | rfl | rfl
          · exact ⟨some t1, rfl, fun i e => by cases e; omega⟩
          · exact ⟨some t2, rfl, fun i e => by cases e; omega⟩
          · exact ⟨some 0, rfl, fun i e => by cases e; decide⟩
          · exact ⟨none, rfl, fun i e => by cases e⟩
          · exact ⟨some (1 + t3), rfl, fun i e => by cases e; omega⟩
        refine ⟨_, rfl, _, _, rfl, rfl, e, _, _, _, rfl, rfl, SqL.of he, eo, ?_⟩
        refine ⟨_, rfl, .inl ⟨rfl, _, SqL.of M.hW⟩, _, rfl, _, rfl, _, rfl, (by show 3 ≤ sizeLine; decide), fun g ng => ?_⟩
        have hZ2 := same_upd (o := .tup [.str z, .str y, optV o]) ng _ _ hZ2
        have M := M.put (o := .tup [.str z, .str y, optV o]) ng
        have hg : upd H19 g (.tup [.str z, .str y, optV o]) g = _ := upd_same
        generalize upd H19 g (.tup [.str z, .str y, optV o]) = H20 at M hg hZ2 ⊢
        have hv2 : Dp K H20 (.ref g) (washD (z, y, o)) := .tup (.inl (.inl hg)) (.cons (.str _) (.cons (.str _) (.cons (opt_dp o) .nil)))
        refine ⟨W, _, _, rfl, rfl, M.hW, (Nat.lt_of_lt_of_le lus (by decide)), ?_⟩
        refine ⟨_, _, _, _, _, rfl, (M.wash ap hv2).mono (by omega), by rw [upd_ne z2W.symm]; exact hZ2, ok.addW (by rw [← dpAll_map_len M.dW]; exact lus) ⟨⟨wz.1, wd_codes wz⟩, ⟨wy.1, wd_codes wy⟩, bo⟩⟩
      · rintro σ H13 ⟨v7, v8, v9, us, ws, rfl, M, hZ2, ok⟩
        exact ⟨_, _, _, _, _, _, _, _, _, _, rfl, M.mono (by rw [List.length_map]; omega), ok, ecs⟩
    · rintro σ H2 ⟨v4, v5, v6, v7, v8, v9, xs, us, cs, ws, rfl, M, ok, ecs⟩
      refine ⟨_, rfl, C, _, rfl, .inl ⟨SqL.of M.hC, fun t1 n1 => ?_⟩⟩
      have M := M.put (o := .tup xs) n1
      have h1 : upd H2 t1 (.tup xs) t1 = _ := upd_same
      generalize upd H2 t1 (.tup xs) = H3 at M h1 ⊢
      refine ⟨_, rfl, W, _, rfl, .inl ⟨SqL.of M.hW, fun t2 n2 => ⟨(by show 2 ≤ sizeLine; decide), fun t3 n3 => ?_⟩⟩⟩
      have h1 := same_upd (o := .tup us) n2 _ _ h1
      have M := M.put (o := .tup us) n2
      have h2 : upd H3 t2 (.tup us) t2 = _ := upd_same
      generalize upd H3 t2 (.tup us) = H4 at M h1 h2 n3 ⊢
      have h1 := same_upd (o := .tup [.ref t1, .ref t2]) n3 _ _ h1
      have h2 := same_upd (o := .tup [.ref t1, .ref t2]) n3 _ _ h2
      have M := M.put (o := .tup [.ref t1, .ref t2]) n3
      have h3 : upd H4 t3 (.tup [.ref t1, .ref t2]) t3 = _ := upd_same
      generalize upd H4 t3 (.tup [.ref t1, .ref t2]) = H5 at M h1 h2 h3 ⊢
      rw [List.length_map, List.take_length] at ecs
      refine q _ _ cs ws (M.st.mono (by rw [List.length_map]; omega)) M.kp (.tup (.inl (.inl h3)) (.cons (.tup (.inl (.inl h1)) M.dC) (.cons (.tup (.inl (.inl h2)) M.dW) .nil))) ok (by rw [ecs]; exact hz)

end
end Pot





namespace Pot
open PySem PySem.Spec PyProof.Rows L2
section
variable {P : Program} {w : World} {K : PySem.W.Frag} {mg : Str → Option Value} {base : Heap}
abbrev s__law_same : Stmt := topS 12
def n__law_same : List Str := ["_law_found", "_law_due", "_law_one", "_law_other"]
theorem sc__law_same : FnScope n__law_same ["_law_found", "_law_due"] (defScope s__law_same) := ⟨rfl, rfl, rfl, by decide +kernel, rfl, by decide +kernel, by decide +kernel⟩
/-! ### _law_same: two of one and the same make are told to be so -/
def spSame (K : PySem.W.Frag) (k : Nat) : Sp := fun vs H Q _ => ∃ (x y : V) (d : PyData), vs = [x, y] ∧ Dp K H x d ∧ Dp K H y d ∧ d.depth < k ∧ widAll.wid d ≤ 1000 ∧ ∀ H', Same H H' → Q (.bl true) H'
theorem ok_same {f : Addr} {fd : FuncData} (F : Fun K "_law_same" "_law_same" s__law_same f fd) (T : Txt mg) (bF : Binds K fd ["_law_found", "_law_due"] []) (gF : mg "_law_same" = some (.ref f)) :
    ∀ k : Nat, FnOk P w K mg base CX0 (k + 1) f fd ["_law_found", "_law_due"] (spSame K k) := by
  intro k
  induction k with
  | zero =>
    refine F.ok sc__law_same (fun vs H Q E h => ?_) (fun cdv A outer s H vs Q E hr h => ?_)
    · obtain ⟨x, y, d, rfl, _⟩ := h
      rfl
    · obtain ⟨x, y, d, rfl, hx, hy, hd, hw, q⟩ := h
      exact absurd hd (Nat.not_lt_zero _)
  | succ k G =>
    refine F.ok sc__law_same (fun vs H Q E h => ?_) (fun cdv A outer s H vs Q E hr h => ?_)
    · obtain ⟨x, y, d, rfl, _⟩ := h
      rfl
    · obtain ⟨x, y, d, rfl, hx, hy, hd, hw, q⟩ := h
      refine ⟨_, pss_cons (ps_if (pt_val (pe_callB call_isiT (by rfl) T.isinstance (by decide +kernel) (pa_cons (pv 1) (pa_cons (pe_tup (pa_cons (pe_bltn (v := .ty "list") (by rfl) T.list (by decide +kernel) rfl) (pa_cons (pe_bltn (v := .ty "tuple") (by rfl) T.tuple (by decide +kernel) rfl) pa_nil))) pa_nil))))
          (pss_cons (ps_if (pw_or (pt_cmpR op_ne (pe_callB call_isi (by rfl) T.isinstance (by decide +kernel) (pa_cons (pv 0) (pa_cons (pe_bltn (v := .ty "list") (by rfl) T.list (by decide +kernel) rfl) pa_nil))) (pe_callB call_isi (by rfl) T.isinstance (by decide +kernel) (pa_cons (pv 1) (pa_cons (pe_bltn (v := .ty "list") (by rfl) T.list (by decide +kernel) rfl) pa_nil))) (nomark _))
            (pw_or1 (pt_cmpR op_ne (pe_callB call_isi (by rfl) T.isinstance (by decide +kernel) (pa_cons (pv 0) (pa_cons (pe_bltn (v := .ty "tuple") (by rfl) T.tuple (by decide +kernel) rfl) pa_nil))) (pe_callB call_isi (by rfl) T.isinstance (by decide +kernel) (pa_cons (pv 1) (pa_cons (pe_bltn (v := .ty "tuple") (by rfl) T.tuple (by decide +kernel) rfl) pa_nil))) (nomark _)))).pt
            pss_never pss_nil)
          (pss_one (ps_ret (pe_and (pe_cmpR op_eq (pe_callB call_len (by rfl) T.len PySem.boot_len (pa_cons (pv 0) pa_nil)) (pe_callB call_len (by rfl) T.len PySem.boot_len (pa_cons (pv 1) pa_nil)) (nomark _))
            (pe_one (pe_callB (cr_all rfl) (by rfl) T.all (by decide +kernel) (pa_cons
              (pe_lc (own := [("_law_one", 2), ("_law_other", 3)]) (g := gTup K 2 (gCons (gName 2) (gCons (gName 3) gNil))) (tt := tYes) rfl sc__law_same.nd (RZ.pi_zipA (by rfl) T.zip (pa_cons (pv 0) (pa_cons (pv 1) pa_nil))) (blkOk_by (N := n__law_same) (sc := defScope s__law_same) (by decide +kernel))
                (fun _ _ _ _ _ => pg_tup rfl (pgs_cons (pg_name (i := 2) sc__law_same.nd rfl (.inl rfl)) (pgs_cons (pg_name (i := 3) sc__law_same.nd rfl (.inl rfl)) pgs_nil))) (fun _ _ _ _ _ => pts_nil)
                (fun _ _ _ _ _ => pe_call G hr (by rfl) gF F.kp bF .nil pass0 (pa_cons (pv 2) (pa_cons (pv 3) pa_nil)))) pa_nil)))))))
          pss_nil)
        (pss_cons (ps_if (pt_cmpR op_isN (pv 1) pe_non (nomark _)) (pss_one (ps_ret (pe_cmpR op_isN (pv 0) pe_non (nomark _)))) pss_nil)
        (pss_cons (ps_if (pt_val (pe_callB call_isi (by rfl) T.isinstance (by decide +kernel) (pa_cons (pv 1) (pa_cons (pe_bltn (v := .ty "bool") (by rfl) T.bool (by decide +kernel) rfl) pa_nil))))
          (pss_one (ps_ret (pe_and (pe_callB call_isi (by rfl) T.isinstance (by decide +kernel) (pa_cons (pv 0) (pa_cons (pe_bltn (v := .ty "bool") (by rfl) T.bool (by decide +kernel) rfl) pa_nil))) (pe_one (pe_cmpR op_eq (pv 0) (pv 1) (nomark _)))))) pss_nil)
        (pss_cons (ps_if (pt_val (pe_callB call_isi (by rfl) T.isinstance (by decide +kernel) (pa_cons (pv 1) (pa_cons (pe_bltn (v := .ty "str") (by rfl) T.str (by decide +kernel) rfl) pa_nil))))
          (pss_one (ps_ret (pe_and (pe_callB call_isi (by rfl) T.isinstance (by decide +kernel) (pa_cons (pv 0) (pa_cons (pe_bltn (v := .ty "str") (by rfl) T.str (by decide +kernel) rfl) pa_nil))) (pe_one (pe_cmpR op_eq (pv 0) (pv 1) (nomark _)))))) pss_nil)
        (pss_one (ps_ret (pe_and (pe_callB call_isi (by rfl) T.isinstance (by decide +kernel) (pa_cons (pv 0) (pa_cons (pe_bltn (v := .ty "int") (by rfl) T.int (by decide +kernel) rfl) pa_nil)))
          (pe_and (pe_not (pe_callB call_isi (by rfl) T.isinstance (by decide +kernel) (pa_cons (pv 0) (pa_cons (pe_bltn (v := .ty "bool") (by rfl) T.bool (by decide +kernel) rfl) pa_nil)))) (pe_one (pe_cmpR op_eq (pv 0) (pv 1) (nomark _)))))))))), ?_⟩
      refine ⟨_, rfl, (by show 2 ≤ sizeLine; decide), fun t ht => ?_⟩
      have sm1 : Same H (upd H t (.tup [.ty "list", .ty "tuple"])) := same_upd ht
      have hpair : Paired ClsV [V.ty "list", .ty "tuple"] [Value.type "list", .type "tuple"] := .cons (.ty _) (.cons (.ty _) .nil)
      have hx1 := dp_same sm1 hx
      have hy1 := dp_same sm1 hy
      have ht1 : (upd H t (.tup [.ty "list", .ty "tuple"])) t = some (.tup [.ty "list", .ty "tuple"]) := upd_same
      generalize upd H t (.tup [.ty "list", .ty "tuple"]) = H1 at sm1 hx1 hy1 ht1 ⊢
      cases hy1 with
      | non =>
        cases hx1
        refine ⟨_, t, _, _, _, false, rfl, ht1, hpair, .base .non, (by rfl), _, rfl, iteF ?_⟩
        refine ⟨_, rfl, rfl, _, rfl, ite2 (fun _ => ?_) (fun h => absurd (decide_eq_true rfl) h)⟩
        refine ⟨_, rfl, rfl, ?_⟩
        rw [decide_eq_true rfl]
        exact q _ sm1
      | bl b =>
        cases hx1
        refine ⟨_, t, _, _, _, false, rfl, ht1, hpair, .base (.bl b), (by rfl), _, rfl, iteF ?_⟩
        refine ⟨_, rfl, rfl, _, rfl, ite2 (fun h => absurd (of_decide_eq_true h) (by intro z; cases z)) (fun _ => ?_)⟩
        refine ⟨_, rfl, _, .ty _, _, _, true, rfl, .ty _, (.base (.bl b)), kit_ty (by decide +kernel), _, rfl, iteT ?_⟩
        refine ⟨_, rfl, _, .ty _, _, _, true, rfl, .ty _, (.base (.bl b)), kit_ty (by decide +kernel), _, rfl, ?_⟩
        refine iteT ⟨_, rfl, _, rfl, rfl, ?_⟩
        rw [decide_eq_true rfl]
        exact q _ sm1
      | int i =>
        cases hx1
        refine ⟨_, t, _, _, _, false, rfl, ht1, hpair, .base (.int i), (by rfl), _, rfl, iteF ?_⟩
        refine ⟨_, rfl, rfl, _, rfl, ite2 (fun h => absurd (of_decide_eq_true h) (by intro z; cases z)) (fun _ => ?_)⟩
        refine ⟨_, rfl, _, .ty _, _, _, false, rfl, .ty _, (.base (.int i)), kit_ty (by decide +kernel), _, rfl, iteF ?_⟩
        refine ⟨_, rfl, _, .ty _, _, _, false, rfl, .ty _, (.base (.int i)), kit_ty (by decide +kernel), _, rfl, iteF ?_⟩
        refine ⟨_, rfl, _, .ty _, _, _, true, rfl, .ty _, (.base (.int i)), kit_ty (by decide +kernel), _, rfl, iteT ?_⟩
        refine ⟨_, rfl, _, .ty _, _, _, false, rfl, .ty _, (.base (.int i)), kit_ty (by decide +kernel), _, rfl, _, rfl, ?_⟩
        refine iteT ⟨_, rfl, _, rfl, rfl, ?_⟩
        rw [decide_eq_true rfl]
        exact q _ sm1
      | str z =>
        cases hx1
        refine ⟨_, t, _, _, _, false, rfl, ht1, hpair, .base (.str z), (by rfl), _, rfl, iteF ?_⟩
        refine ⟨_, rfl, rfl, _, rfl, ite2 (fun h => absurd (of_decide_eq_true h) (by intro z; cases z)) (fun _ => ?_)⟩
        refine ⟨_, rfl, _, .ty _, _, _, false, rfl, .ty _, (.base (.str z)), kit_ty (by decide +kernel), _, rfl, iteF ?_⟩
        refine ⟨_, rfl, _, .ty _, _, _, true, rfl, .ty _, (.base (.str z)), kit_ty (by decide +kernel), _, rfl, iteT ?_⟩
        refine ⟨_, rfl, _, .ty _, _, _, true, rfl, .ty _, (.base (.str z)), kit_ty (by decide +kernel), _, rfl, ?_⟩
        refine iteT ⟨_, rfl, _, rfl, rfl, ?_⟩
        rw [decide_eq_true rfl]
        exact q _ sm1
      | @lst b ys ds hl ha =>
        cases hx1 with
        | @lst a xs _ hl' ha' =>
        have e1 : xs.length = ys.length := (dpAll_len ha').trans (dpAll_len ha).symm
        refine ⟨_, t, _, _, _, true, rfl, ht1, hpair, tyx_list hl, (by rfl), _, rfl, iteT ?_⟩
        refine ⟨_, rfl, _, .ty _, _, _, true, rfl, .ty _, (tyx_list hl'), kit_ty (by decide +kernel), _, rfl, _, .ty _, _, _, true, rfl, .ty _, (tyx_list hl), kit_ty (by decide +kernel), rfl, _, rfl, iteF ?_⟩
        refine ⟨_, rfl, _, .ty _, _, _, false, rfl, .ty _, (tyx_list hl'), kit_ty (by decide +kernel), _, rfl, _, .ty _, _, _, false, rfl, .ty _, (tyx_list hl), kit_ty (by decide +kernel), rfl, _, rfl, iteF ?_⟩
        refine ⟨_, rfl, _, xs.length, rfl, .inl ⟨xs, hl', rfl⟩, _, rfl, _, ys.length, rfl, .inl ⟨ys, hl, rfl⟩, rfl, _, rfl, ?_⟩
        rw [e1]
        refine ite2 (fun _ => ?_) (fun h => absurd (decide_eq_true rfl) h)
        refine ⟨_, rfl, _, rfl, a, b, xs, ys, rfl, .inl ⟨hl', hl, fun D hD => ?_⟩⟩
        refine lc_it (walk_zip (xs := xs) (ys := ys) (n := ys.length) (by rw [e1, Nat.min_self])) (fun i H2 => Same H1 H2 ∧ H1 D = none ∧ H2 D = some (.lst ((List.replicate i true).map V.bl))) ⟨same_upd hD, hD, upd_same⟩ (fun i H2 _ h => ⟨h.1.seq hl', h.1.seq hl⟩) ?_ ?_
        · rintro i v H2 H3 hi ⟨sm, nD, hL⟩ ⟨u, x1, y1, rfl, hu, rfl, gx, gy⟩
          have sm3 : Same H1 (upd H2 u (.tup [x1, y1])) := same_put sm (sm.free hu)
          obtain ⟨d1, g1, p1⟩ := dpAll_at ha' gx
          obtain ⟨d2, g2, p2⟩ := dpAll_at ha gy
          have ed : d1 = d2 := Option.some.inj (g1.symm.trans g2)
          subst ed
          refine ⟨u, _, rfl, .inl (.inl upd_same), rfl, _, _, rfl, _, _, rfl, rfl, rfl, tYes_at ?_⟩
          rw [if_pos rfl]
          refine ⟨_, rfl, _, rfl, x1, y1, d1, rfl, dp_same sm3 p1, dp_same sm3 p2, ?_, ?_, fun H4 s4 => ?_⟩
          · have h1 := depth_at g1
            have h2 : PyData.depthAll ds + 1 < k + 1 := hd
            omega
          · exact Nat.le_trans (wid_at g1) (Nat.le_trans (Nat.le_max_right _ _) hw)
          · have nuD : D ≠ u := ne_of_none hL hu
            refine ⟨_, s4 _ _ (by rw [upd_ne nuD]; exact hL), ?_, same_put (sm3.trans s4) nD, nD, ?_⟩
            · rw [List.length_map, List.length_replicate]
              exact Nat.lt_of_lt_of_le (dpAll_len ha ▸ hi) (Nat.le_trans (Nat.le_trans (Nat.le_max_left _ _) hw) (by decide))
            · rw [upd_same, List.replicate_succ', List.map_append]
              rfl
        · rintro H2 ⟨sm, nD, hL⟩
          refine ⟨D, _, rfl, SqL.of hL, ?_⟩
          have e : (List.replicate ys.length true).all id = true := by simp
          rw [e]
          exact q _ (sm1.trans sm)
      | @tup b ys ds hl ha =>
        cases hx1 with
        | @tup a xs _ hl' ha' =>
        have e1 : xs.length = ys.length := (dpAll_len ha').trans (dpAll_len ha).symm
        refine ⟨_, t, _, _, _, true, rfl, ht1, hpair, tyx_tup hl, (by rfl), _, rfl, iteT ?_⟩
        refine ⟨_, rfl, _, .ty _, _, _, false, rfl, .ty _, (tyx_tup hl'), kit_ty (by decide +kernel), _, rfl, _, .ty _, _, _, false, rfl, .ty _, (tyx_tup hl), kit_ty (by decide +kernel), rfl, _, rfl, iteF ?_⟩
        refine ⟨_, rfl, _, .ty _, _, _, true, rfl, .ty _, (tyx_tup hl'), kit_ty (by decide +kernel), _, rfl, _, .ty _, _, _, true, rfl, .ty _, (tyx_tup hl), kit_ty (by decide +kernel), rfl, _, rfl, iteF ?_⟩
        refine ⟨_, rfl, _, xs.length, rfl, .inr ⟨xs, hl', rfl⟩, _, rfl, _, ys.length, rfl, .inr ⟨ys, hl, rfl⟩, rfl, _, rfl, ?_⟩
        rw [e1]
        refine ite2 (fun _ => ?_) (fun h => absurd (decide_eq_true rfl) h)
        refine ⟨_, rfl, _, rfl, a, b, xs, ys, rfl, .inr ⟨hl', hl, fun D hD => ?_⟩⟩
        refine lc_it (walk_zipT (xs := xs) (ys := ys) (n := ys.length) (by rw [e1, Nat.min_self])) (fun i H2 => Same H1 H2 ∧ H1 D = none ∧ H2 D = some (.lst ((List.replicate i true).map V.bl))) ⟨same_upd hD, hD, upd_same⟩ (fun i H2 _ h => ⟨same_tup h.1 hl', same_tup h.1 hl⟩) ?_ ?_
        · rintro i v H2 H3 hi ⟨sm, nD, hL⟩ ⟨u, x1, y1, rfl, hu, rfl, gx, gy⟩
          have sm3 : Same H1 (upd H2 u (.tup [x1, y1])) := same_put sm (sm.free hu)
          obtain ⟨d1, g1, p1⟩ := dpAll_at ha' gx
          obtain ⟨d2, g2, p2⟩ := dpAll_at ha gy
          have ed : d1 = d2 := Option.some.inj (g1.symm.trans g2)
          subst ed
          refine ⟨u, _, rfl, .inl (.inl upd_same), rfl, _, _, rfl, _, _, rfl, rfl, rfl, tYes_at ?_⟩
          rw [if_pos rfl]
          refine ⟨_, rfl, _, rfl, x1, y1, d1, rfl, dp_same sm3 p1, dp_same sm3 p2, ?_, ?_, fun H4 s4 => ?_⟩
          · have h1 := depth_at g1
            have h2 : PyData.depthAll ds + 1 < k + 1 := hd
            omega
          · exact Nat.le_trans (wid_at g1) (Nat.le_trans (Nat.le_max_right _ _) hw)
          · have nuD : D ≠ u := ne_of_none hL hu
            refine ⟨_, s4 _ _ (by rw [upd_ne nuD]; exact hL), ?_, same_put (sm3.trans s4) nD, nD, ?_⟩
            · rw [List.length_map, List.length_replicate]
              exact Nat.lt_of_lt_of_le (dpAll_len ha ▸ hi) (Nat.le_trans (Nat.le_trans (Nat.le_max_left _ _) hw) (by decide))
            · rw [upd_same, List.replicate_succ', List.map_append]
              rfl
        · rintro H2 ⟨sm, nD, hL⟩
          refine ⟨D, _, rfl, SqL.of hL, ?_⟩
          have e : (List.replicate ys.length true).all id = true := by simp
          rw [e]
          exact q _ (sm1.trans sm)

/-! ### the law's own washings -/
abbrev s__law_wash : Stmt := topS 14
def n__law_wash : List Str := ["_law_palette_here", "_law_ahead", "_law_behind", "_law_some", "_law_one", "_law_other", "_law_hours"]
theorem sc__law_wash : FnScope n__law_wash ["_law_palette_here", "_law_ahead", "_law_behind"] (defScope s__law_wash) := ⟨rfl, rfl, rfl, by decide +kernel, rfl, by decide +kernel, by decide +kernel⟩
def spLWash (K : PySem.W.Frag) : Sp := fun vs H Q _ => ∃ (v : V) (cs : List Col) (ws : List Wsh) (a : Option Str) (b : Str), vs = [v, namV a, .str b] ∧ Dp K H v (palD cs ws) ∧ PalOk cs ws ∧ (∀ z, a = some z → Sg z) ∧ Sg b ∧ ∀ H', Same H H' → Q (optV (washF ws a b)) H'
theorem ok_lwash {f : Addr} {fd : FuncData} {k : Nat} (F : Fun K "_law_wash" "_law_wash" s__law_wash f fd) : FnOk P w K mg base CX0 (k + 1) f fd ["_law_palette_here", "_law_ahead", "_law_behind"] (spLWash K) := by
  refine F.ok sc__law_wash (fun vs H Q E h => ?_) (fun cdv A outer s H vs Q E hr h => ?_)
  · obtain ⟨v, cs, ws, a, b, rfl, _⟩ := h
    rfl
  · obtain ⟨v, cs, ws, a, b, rfl, hp, ok, la, lb, q⟩ := h
    have nd := sc__law_wash.nd
    have hu64 := hr.units
    obtain ⟨p, c, w2, xs, ys, rfl, hp, hc, hx, hw, hy⟩ := pal_dp hp
    refine ⟨_, (pss_cons (ps_setLc (i := 3) (own := [("_law_one", 4), ("_law_other", 5), ("_law_hours", 6)]) rfl nd rfl rfl (sw_true rfl rfl rfl (by decide +kernel)) (ki_tup (K := K) (pe_ix (kx_tup (K := K)) (pv 0) pe_int (fun _ _ => rfl))) (blkOk_by (N := n__law_wash) (sc := defScope s__law_wash) (by decide +kernel)) (fun _ _ _ _ _ => (kg_tup (K := K) (n := 3) (pgs_cons (pg_name (i := 4) nd rfl (.inl rfl)) (pgs_cons (pg_name (i := 5) nd rfl (.inl rfl)) (pgs_cons (pg_name (i := 6) nd rfl (.inl rfl)) pgs_nil))))) (fun _ _ _ _ _ => (pts_one (pt_cmpR (ko_eq (K := K) hu64) (pe_tup (pa_cons (pv 4) (pa_cons (pv 5) pa_nil))) (pe_tup (pa_cons (pv 1) (pa_cons (pv 2) pa_nil))) (nomark _)))) (fun _ _ _ _ _ => (pv 6)))
      (pss_one (ps_ret (pe_ifExp (pt_cmpR (ko_ne (K := K) hu64) (pv 3) (pe_lst pa_nil) (nomark _)) (pe_ix (kx_list (K := K)) (pv 3) pe_int (fun _ _ => rfl)) pe_int)))), ?_⟩
    refine ⟨_, rfl, p, _, 1, .ref w2, rfl, rfl, hp, rfl, w2, rfl, ⟨_, hw⟩, fun D nD => ?_⟩
    have lws : ys.length = ws.length := dpAll_map_len hy
    refine lc_it (walk_tup (xs := ys)) (fun i H2 => Same H H2 ∧ H2 D = some (.lst (((ws.take i).filter (mat a b)).map fun r => optV r.2.2))) ⟨same_upd nD, upd_same⟩ (fun i H2 _ h => same_tup h.1 hw) ?_ ?_
    · rintro i x H2 H3 hi ⟨sm, hD⟩ ⟨rfl, gx⟩
      obtain ⟨r, gr, dp⟩ := dpAll_map_at hy gx
      obtain ⟨t, rfl, ht⟩ := wash_dp dp
      have rok := ok.wn r (List.mem_of_getElem? gr)
      refine ⟨t, _, rfl, same_tup sm ht, rfl, _, _, rfl, _, _, rfl, _, _, rfl, rfl, rfl, ?_⟩
      refine ⟨_, rfl, _, rfl, (by show 2 ≤ sizeLine; decide), fun t1 n1 => ⟨_, rfl, _, rfl, (by show 2 ≤ sizeLine; decide), fun t2 n2 => ?_⟩⟩
      have sm2 := same_upd (o := .tup [.str r.1, .str r.2.1]) n1
      have sm3 := same_upd (o := .tup [namV a, .str b]) n2
      have h1 : upd (upd H3 t1 (.tup [.str r.1, .str r.2.1])) t2 (.tup [namV a, .str b]) t1 = some (.tup [.str r.1, .str r.2.1]) := sm3 _ _ upd_same
      have h2 : upd (upd H3 t1 (.tup [.str r.1, .str r.2.1])) t2 (.tup [namV a, .str b]) t2 = some (.tup [namV a, .str b]) := upd_same
      have sm4 := sm.trans (sm2.trans sm3)
      have hD2 := sm3 _ _ (sm2 _ _ hD)
      generalize upd (upd H3 t1 (.tup [.str r.1, .str r.2.1])) t2 (.tup [namV a, .str b]) = H4 at h1 h2 sm4 hD2 ⊢
      refine ⟨.tuple [.str r.1, .str r.2.1], .tuple [namD a, .str b], .tup (.inl (.inl h1)) (.cons (.str _) (.cons (.str _) .nil)), .tup (.inl (.inl h2)) (.cons (nam_dp a) (.cons (.str _) .nil)), shaped_two rok.1.2 rok.2.1.2, shaped_nam la lb, _, rfl, ?_⟩
      rw [eqv_mat]
      rw [List.take_add_one, gr, Option.toList_some, List.filter_append]
      cases hm : mat a b r with
      | true =>
        rw [if_pos rfl]
        refine ⟨_, rfl, _, hD2, ?_, same_put sm4 nD, ?_⟩
        · rw [List.length_map]
          refine Nat.lt_of_le_of_lt (Nat.le_trans (List.length_filter_le ..) (List.length_take_le' ..)) ?_
          exact Nat.lt_of_le_of_lt ok.nw (by decide)
        · rw [upd_same]; simp [hm]
      | false =>
        rw [if_neg Bool.false_ne_true]
        refine ⟨sm4, ?_⟩
        rw [hD2]; simp [hm]
    · rintro H2 ⟨sm, hD⟩
      rw [lws, List.take_length] at hD
      refine ⟨_, rfl, Nat.zero_le _, fun e ne => ?_⟩
      have sm2 := same_upd (o := .lst []) ne
      have hD := sm2 _ _ hD
      have he : upd H2 e (.lst []) e = _ := upd_same
      have sm := sm.trans sm2
      generalize upd H2 e (.lst []) = H3 at sm hD he ⊢
      refine ⟨.list ((ws.filter (mat a b)).map fun r => optD r.2.2), .list [], .lst (SqL.of hD) (dpAll_opts _), .lst (SqL.of he) .nil, shaped_opts _, shaped_opts ([] : List Wsh), _, rfl, ?_⟩
      rw [washF_filter] at q
      cases ef : ws.filter (mat a b) with
      | nil =>
        rw [ef] at q
        show if (!PyData.eqv (.list []) (.list [])) = true then _ else _
        rw [if_neg (by intro z; cases z)]
        exact q _ sm
      | cons r l =>
        rw [ef] at q hD
        show if (!PyData.eqv (.list (optD r.2.2 :: l.map fun r => optD r.2.2)) (.list [])) = true then _ else _
        rw [if_pos (by rfl)]
        exact ⟨_, rfl, D, _, 0, _, rfl, rfl, SqL.of hD, atI_nat (j := 0) rfl, q _ sm⟩

end
end Pot






namespace Pot
open PySem PySem.Spec PyProof.Rows L2
section
variable {P : Program} {w : World} {K : PySem.W.Frag} {mg : Str → Option Value} {base : Heap}
theorem refD_depth (z : Str) : (refD z).depth < 3 := by
  show PyData.depthAll [_, _, _] + 1 < 3
  simp [PyData.depthAll, PyData.depth]
theorem refD_wid (z : Str) : widAll.wid (refD z) ≤ 1000 := by
  show max 3 (widAll [_, _, _]) ≤ 1000
  simp [widAll, widAll.wid]
theorem told_ref {cs : List Col} {ws : List Wsh} {n : Int} {a b z : Str} (h0 : colF cs a = none) (e : z = a) (hn : n = 0 ∨ n = 1 ∨ n = 2) : toldF cs ws n (some a) b = refD z := by
  subst e
  unfold toldF
  rcases hn with rfl | rfl | rfl
  · rw [if_pos rfl]
    show (match colF cs z with | some c => colD c | none => refD z) = _
    rw [h0]
  · rw [if_neg (by decide), if_pos rfl]
    have : missF cs (some z) b = some z := by
      show (if (colF cs z).isNone = true then some z else if (colF cs b).isNone = true then some b else none) = _
      rw [h0]; rfl
    rw [this]
  · rw [if_neg (by decide), if_neg (by decide)]
    show (match colF cs z with | some c => PyData.int (c.2.1 + c.2.2.1) | none => refD z) = _
    rw [h0]
theorem told_behind {cs : List Col} {ws : List Wsh} {a : Option Str} {z : Str} (h0 : colF cs z = none) (ha : ∀ y, a = some y → (colF cs y).isSome = true) : toldF cs ws 1 a z = refD z := by
  unfold toldF
  rw [if_neg (by decide), if_pos rfl]
  have : missF cs a z = some z := by
    cases a with
    | none =>
      show (if (colF cs z).isNone = true then some z else none) = _
      rw [h0]; rfl
    | some y =>
      show (if (colF cs y).isNone = true then some y else if (colF cs z).isNone = true then some z else none) = _
      have := ha y rfl
      cases e : colF cs y with
      | none => rw [e] at this; cases this
      | some c => rw [h0]; rfl
  rw [this]
abbrev s__law_strange_right : Stmt := topS 15
def n__law_strange_right : List Str := ["_law_palette_here", "_law_names_here", "_law_strange", "_law_name", "_law_due", "_law_which", "_law_ahead"]
theorem sc__law_strange_right : FnScope n__law_strange_right ["_law_palette_here", "_law_names_here", "_law_strange"] (defScope s__law_strange_right) := ⟨rfl, rfl, rfl, by decide +kernel, rfl, by decide +kernel, by decide +kernel⟩
def spStrange (K : PySem.W.Frag) : Sp := fun vs H Q _ => ∃ (v : V) (N S : Addr) (cs : List Col) (ws : List Wsh) (ys : List Str) (z0 z1 : Str), vs = [v, .ref N, .ref S] ∧ Dp K H v (palD cs ws) ∧ H N = some (.lst (ys.map V.str)) ∧ H S = some (.lst [.str z0, .str z1]) ∧ ys.length ≤ 20 ∧
  (∀ y ∈ ys, (colF cs y).isSome = true) ∧ colF cs z0 = none ∧ colF cs z1 = none ∧ ∀ H', Same H H' → Q (.bl true) H'
theorem ok_strange {f : Addr} {fd : FuncData} {k : Nat} (F : Fun K "_law_strange_right" "_law_strange_right" s__law_strange_right f fd) (T : Txt mg) (c__law_told : Cl P w K mg base (k + 5) "_law_told" (spTold3 K)) (c__law_same : Cl P w K mg base (k + 5) "_law_same" (spSame K 4)) : FnOk P w K mg base CX0 (k + 6) f fd ["_law_palette_here", "_law_names_here", "_law_strange"] (spStrange K) := by
  refine F.ok sc__law_strange_right (fun vs H Q E h => ?_) (fun cdv A outer s H vs Q E hr h => ?_)
  · obtain ⟨v, N, S, cs, ws, ys, z0, z1, rfl, _⟩ := h
    rfl
  · obtain ⟨v, N, S, cs, ws, ys, z0, z1, rfl, dv, hN, hS, ly, hy, h0, h1, q⟩ := h
    have nd := sc__law_strange_right.nd
    /- 0 _law_palette_here, 1 _law_names_here, 2 _law_strange, 3 _law_name, 4 _law_due, 5 _law_which, 6 _law_ahead -/
    refine ⟨_, (pss_cons (ps_setLc (i := 4) (own := [("_law_name", 3)]) rfl nd rfl rfl (sw_true rfl rfl rfl (by decide +kernel)) (ki_list (K := K) (pv 2)) (blkOk_by (N := n__law_strange_right) (sc := defScope s__law_strange_right) (by decide +kernel)) (fun _ _ _ _ _ => (pg_name (i := 3) nd rfl (.inl rfl))) (fun _ _ _ _ _ => pts_nil) (fun _ _ _ _ _ => (pe_lst (pa_cons pe_str (pa_cons pe_str (pa_cons (pv 3) pa_nil))))))
      (pss_cons (ps_for PassesOwn.never rfl (pi_range1 (by rfl) T.range (pa_cons pe_int pa_nil)) (pg_name (i := 5) nd rfl (.inl rfl))
          (pss_one (ps_if (pt_not (pt_val (pe_cl c__law_same hr (by omega) (by rfl) (pa_cons (pe_cl c__law_told hr (by omega) (by rfl) (pa_cons (pv 5) (pa_cons (pv 0) (pa_cons (pe_ix (kx_list (K := K)) (pv 2) pe_int (fun _ _ => rfl)) (pa_cons (pe_ix (kx_list (K := K)) (pv 2) pe_int (fun _ _ => rfl)) pa_nil))))) (pa_cons (pe_ix (kx_list (K := K)) (pv 4) pe_int (fun _ _ => rfl)) pa_nil)))))
              pss_never
              pss_nil)))
      (pss_cons (ps_for PassesOwn.never rfl (ki_list (K := K) (pe_op op_cat (pv 1) (pe_lst (pa_cons pe_non pa_nil)))) (pg_name (i := 6) nd rfl (.inl rfl))
          (pss_one (ps_if (pt_not (pt_val (pe_cl c__law_same hr (by omega) (by rfl) (pa_cons (pe_cl c__law_told hr (by omega) (by rfl) (pa_cons pe_int (pa_cons (pv 0) (pa_cons (pv 6) (pa_cons (pe_ix (kx_list (K := K)) (pv 2) pe_int (fun _ _ => rfl)) pa_nil))))) (pa_cons (pe_ix (kx_list (K := K)) (pv 4) pe_int (fun _ _ => rfl)) pa_nil)))))
              pss_never
              pss_nil)))
      (pss_cons (ps_for PassesOwn.never rfl (ki_list (K := K) (pv 1)) (pg_name (i := 3) nd rfl (.inl rfl))
          (pss_one (ps_if (pt_not (pt_val (pe_cl c__law_same hr (by omega) (by rfl) (pa_cons (pe_cl c__law_told hr (by omega) (by rfl) (pa_cons pe_int (pa_cons (pv 0) (pa_cons (pe_ix (kx_list (K := K)) (pv 2) pe_int (fun _ _ => rfl)) (pa_cons (pv 3) pa_nil))))) (pa_cons (pe_ix (kx_list (K := K)) (pv 4) pe_int (fun _ _ => rfl)) pa_nil)))))
              pss_never
              pss_nil)))
      (pss_one (ps_ret (pe_cl c__law_same hr (by omega) (by rfl) (pa_cons (pe_cl c__law_told hr (by omega) (by rfl) (pa_cons pe_int (pa_cons (pv 0) (pa_cons (pe_ix (kx_list (K := K)) (pv 2) pe_int (fun _ _ => rfl)) (pa_cons (pe_ix (kx_list (K := K)) (pv 2) pe_int (fun _ _ => rfl)) pa_nil))))) (pa_cons (pe_ix (kx_list (K := K)) (pv 4) pe_int (fun _ _ => rfl)) pa_nil))))))))), ?_⟩
    refine ⟨_, rfl, S, rfl, ⟨_, SqL.of hS⟩, fun D nD => ?_⟩
    refine lc_it (walk_list (xs := [V.str z0, .str z1])) (fun i H2 => Same H H2 ∧ ∃ xs, H2 D = some (.lst xs) ∧ DpAll K (off H2 [D]) xs (([z0, z1].take i).map refD)) ⟨same_upd nD, [], upd_same, .nil⟩ (fun i H2 _ h => SqL.of (h.1 _ _ hS)) ?_ ?_
    · rintro i y H2 H3 hi ⟨s2, xs, hD, dx⟩ ⟨rfl, gy⟩
      refine ⟨rfl, tYes_at ?_⟩
      rw [if_pos rfl]
      obtain ⟨z, ez, rfl⟩ : ∃ z : Str, [z0, z1][i]? = some z ∧ y = .str z := by
        have hi : i < 2 := hi
        rcases i with _ | _ | i
        · exact ⟨z0, rfl, (Option.some.inj gy).symm⟩
        · exact ⟨z1, rfl, (Option.some.inj gy).symm⟩
        · omega
      refine ⟨_, rfl, (by show 3 ≤ sizeLine; decide), fun l nl => ?_⟩
      have lx := dpAll_map_len dx
      have lt2 : xs.length ≤ 2 := by rw [lx, List.length_take]; exact Nat.min_le_right _ _
      have Dl : D ≠ l := ne_of_none hD nl
      have dz : Dp K (off (upd H3 l (.lst [.str "refused", .str "colour", .str z])) [D]) (.ref l) (refD z) := .lst (SqL.of (by rw [off_out (by simp [Ne.symm Dl])]; exact upd_same)) (.cons (.str _) (.cons (.str _) (.cons (.str _) .nil)))
      have w1 : Sm [D] (upd H3 l (.lst [.str "refused", .str "colour", .str z])) (upd (upd H3 l (.lst [.str "refused", .str "colour", .str z])) D (.lst (xs ++ [.ref l]))) := sm_wr List.mem_cons_self
      refine ⟨xs, by rw [upd_ne Dl]; exact hD, (by rw [sizeLine_eq]; omega), same_put (s2.trans (same_upd nl)) nD, xs ++ [.ref l], upd_same, ?_⟩
      rw [List.take_add_one, ez, List.map_append]
      exact dpAll_same w1 (dpAll_app (dpAll_same (sm_put nl) dx) (.cons dz .nil))
    · rintro H2 ⟨s2, xs, hD, dx⟩
      have dx := dpAll_same off_sub dx
      obtain ⟨x0, x1, rfl, d0, d1⟩ : ∃ x0 x1, xs = [x0, x1] ∧ Dp K H2 x0 (refD z0) ∧ Dp K H2 x1 (refD z1) := by
        cases dx with
        | cons a r =>
          cases r with
          | cons b r =>
            cases r
            exact ⟨_, _, rfl, a, b⟩
      have dv2 := dp_same s2 dv
      have hS2 := s2 _ _ hS
      have hN2 := s2 _ _ hN
      refine ⟨_, rfl, (by decide), (by decide), ?_⟩
      refine for_it walk_range (fun i σ Hx => ∃ v5, σ = [some v, some (.ref N), some (.ref S), none, some (.ref D), v5, none] ∧ Same H2 Hx) ⟨_, rfl, Same.refl _⟩ (fun _ _ _ _ _ => trivial) ?_ ?_
      · rintro i y σ Hx Hy hi ⟨v5, rfl, sx⟩ ⟨rfl, rfl⟩
        have hi : i < 3 := hi
        refine ⟨_, rfl, _, rfl, _, rfl, S, _, 0, _, rfl, rfl, SqL.of (sx _ _ hS2), rfl, _, rfl, S, _, 1, _, rfl, rfl, SqL.of (sx _ _ hS2), rfl, v, cs, ws, (0 + (i : Int)), some z0, z1, rfl, dp_same sx dv2, .inr rfl, fun H3 x s3 dt => ?_⟩
        have sy := sx.trans s3
        rw [told_ref h0 rfl (by omega)] at dt
        refine ⟨_, rfl, D, _, 0, _, rfl, rfl, SqL.of (sy _ _ hD), rfl, x, x0, refD z0, rfl, dt, dp_same sy d0, Nat.lt_of_lt_of_le (refD_depth _) (by decide), refD_wid _, fun H4 s4 => ⟨_, rfl, iteF ⟨_, rfl, sy.trans s4⟩⟩⟩
      · rintro σ Hx ⟨v5, rfl, sx⟩
        refine ⟨_, rfl, (by show 1 ≤ sizeLine; decide), fun Z nZ => ?_⟩
        have sa := same_upd (o := .lst [V.non]) nZ
        refine ⟨N, Z, _, _, rfl, rfl, sa _ _ (sx _ _ hN2), upd_same, (by rw [List.length_map, sizeLine_eq]; show _ + 1 ≤ _; omega), fun M nM => ?_⟩
        have sb := (sx.trans sa).trans (same_upd (o := .lst (ys.map V.str ++ [V.non])) nM)
        have hM : upd (upd Hx Z (.lst [V.non])) M (.lst (ys.map V.str ++ [V.non])) M = _ := upd_same
        generalize upd (upd Hx Z (.lst [V.non])) M (.lst (ys.map V.str ++ [V.non])) = HM at sb hM ⊢
        clear sa nM nZ sx
        refine ⟨M, rfl, ⟨_, SqL.of hM⟩, ?_⟩
        refine for_it (walk_list (xs := ys.map V.str ++ [V.non])) (fun i σ Hx => ∃ v5 v6, σ = [some v, some (.ref N), some (.ref S), none, some (.ref D), v5, v6] ∧ Same HM Hx) ⟨_, _, rfl, Same.refl _⟩ (fun i σ Hx _ h => by obtain ⟨_, _, _, h⟩ := h; exact SqL.of (h _ _ hM)) ?_ ?_
        · rintro i y σ Ha Hb hi ⟨v5, v6, rfl, sx⟩ ⟨rfl, gy⟩
          obtain ⟨a, ea, ha⟩ : ∃ a : Option Str, y = namV a ∧ ∀ z, a = some z → (colF cs z).isSome = true := by
            rcases List.mem_append.mp (List.mem_of_getElem? gy) with h | h
            · obtain ⟨z, hz, rfl⟩ := List.mem_map.mp h
              exact ⟨some z, rfl, fun w e => by cases e; exact hy _ hz⟩
            · exact ⟨none, List.mem_singleton.mp h, fun w e => by cases e⟩
          subst ea
          have sx := sb.trans sx
          refine ⟨_, rfl, _, rfl, _, rfl, S, _, 1, _, rfl, rfl, SqL.of (sx _ _ hS2), rfl, v, cs, ws, 1, a, z1, rfl, dp_same sx dv2, .inl rfl, fun H3 x s3 dt => ?_⟩
          rw [told_behind h1 ha] at dt
          have sy := sx.trans s3
          refine ⟨_, rfl, D, _, 1, _, rfl, rfl, SqL.of (sy _ _ hD), rfl, x, x1, refD z1, rfl, dt, dp_same sy d1, Nat.lt_of_lt_of_le (refD_depth _) (by decide), refD_wid _, fun H4 s4 => ⟨_, rfl, iteF ⟨_, _, rfl, ?_⟩⟩⟩
          rename_i sx0
          exact (sx0.trans s3).trans s4
        · rintro σ Hx ⟨v5, v6, rfl, sx⟩
          have sb := sb.trans sx
          clear sx hM
          refine ⟨_, rfl, N, rfl, ⟨_, SqL.of (sb _ _ hN2)⟩, ?_⟩
          refine for_it (walk_list (xs := ys.map V.str)) (fun i σ Hy => ∃ v3, σ = [some v, some (.ref N), some (.ref S), v3, some (.ref D), v5, v6] ∧ Same Hx Hy) ⟨_, rfl, Same.refl _⟩ (fun i σ Hy _ h => by obtain ⟨_, _, h⟩ := h; exact SqL.of (h _ _ (sb _ _ hN2))) ?_ ?_
          · rintro i y σ Ha Hb hi ⟨v3, rfl, sx0⟩ ⟨rfl, gy⟩
            rw [List.getElem?_map] at gy
            obtain ⟨y, gy2, rfl⟩ := Option.map_eq_some_iff.mp gy
            have sx := sb.trans sx0
            refine ⟨_, rfl, _, rfl, S, _, 1, _, rfl, rfl, SqL.of (sx _ _ hS2), rfl, _, rfl, v, cs, ws, 1, some z1, y, rfl, dp_same sx dv2, .inl rfl, fun H3 x s3 dt => ?_⟩
            rw [told_ref h1 rfl (.inr (.inl rfl))] at dt
            have sy := sx.trans s3
            refine ⟨_, rfl, D, _, 1, _, rfl, rfl, SqL.of (sy _ _ hD), rfl, x, x1, refD z1, rfl, dt, dp_same sy d1, Nat.lt_of_lt_of_le (refD_depth _) (by decide), refD_wid _, fun H4 s4 => ⟨_, rfl, iteF ⟨_, rfl, (sx0.trans s3).trans s4⟩⟩⟩
          · rintro σ Hy ⟨v3, rfl, sx⟩
            have sx := sb.trans sx
            refine ⟨_, rfl, _, rfl, S, _, 0, _, rfl, rfl, SqL.of (sx _ _ hS2), rfl, _, rfl, S, _, 0, _, rfl, rfl, SqL.of (sx _ _ hS2), rfl, v, cs, ws, 1, some z0, z0, rfl, dp_same sx dv2, .inl rfl, fun H3 x s3 dt => ?_⟩
            rw [told_ref h0 rfl (.inr (.inl rfl))] at dt
            have sy := sx.trans s3
            exact ⟨_, rfl, D, _, 0, _, rfl, rfl, SqL.of (sy _ _ hD), rfl, x, x0, refD z0, rfl, dt, dp_same sy d0, Nat.lt_of_lt_of_le (refD_depth _) (by decide), refD_wid _, fun H4 s4 => q _ ((s2.trans sy).trans s4)⟩

end
end Pot






namespace Pot
open PySem PySem.Spec PyProof.Rows L2
section
variable {P : Program} {w : World} {K : PySem.W.Frag} {mg : Str → Option Value} {base : Heap}
theorem takes_never {X : Cx} : Takes X (fun _ _ _ _ => False) := fun u s' x => by
  obtain ⟨_, _, _, _, _, _, _, _, _, _, _, _, _, _, _, _, q⟩ := x
  exact q.elim
theorem colF_at {cs : List Col} (nd : (cs.map (·.1)).Nodup) {i : Nat} {c : Col} (g : cs[i]? = some c) : colF cs c.1 = some c := by
  unfold colF
  obtain ⟨hl, e⟩ := List.getElem?_eq_some_iff.mp g
  rw [List.find?_eq_some_iff_getElem]
  refine ⟨decide_eq_true rfl, i, hl, e, fun j hj => ?_⟩
  have := List.pairwise_iff_getElem.mp nd j i (by rw [List.length_map]; omega) (by rw [List.length_map]; exact hl) hj
  rw [List.getElem_map, List.getElem_map, e] at this
  simp [this]
theorem colF_in {cs : List Col} {y : Str} (h : y ∈ cs.map (·.1)) : (colF cs y).isSome = true := by
  unfold colF
  rw [List.find?_isSome]
  obtain ⟨c, hc, rfl⟩ := List.mem_map.mp h
  exact ⟨c, hc, decide_eq_true rfl⟩
theorem colF_out {cs : List Col} {y : Str} (h : y ∉ cs.map (·.1)) : colF cs y = none := by
  unfold colF
  rw [List.find?_eq_none]
  intro c hc e
  exact h (List.mem_map.mpr ⟨c, hc, of_decide_eq_true e⟩)
theorem sqT_kp3 {H H' : Hp} {d c t : Addr} {n : Nat} {xs : List V} (st : StAt H d c n) (k : Kp d c H H') (h : SqT K H t xs) : SqT K H' t xs := by
  obtain ⟨_, ys, i, h1, h2, _⟩ := st
  rcases h with (h | ⟨o, h⟩) | h
  · exact .inl (.inl (k _ _ (fun e => by rw [e, h1] at h; cases h) (fun e => by rw [e, h2] at h; cases h) h))
  · exact .inl (.inr ⟨o, k _ _ (fun e => by rw [e, h1] at h; cases h) (fun e => by rw [e, h2] at h; cases h) h⟩)
  · exact .inr h
def dueD (r : Col) (at_ : Int) : PyData := .list [colD r, .int (r.2.1 + r.2.2.1), .int (at_ + (r.2.1 + r.2.2.1))]
theorem dueD_depth (r : Col) (at_ : Int) : (dueD r at_).depth < 4 := by simp [dueD, colD, PyData.depth, PyData.depthAll]
theorem dueD_wid (r : Col) (at_ : Int) : widAll.wid (dueD r at_) ≤ 1000 := by
  show max 3 (widAll [_, _, _]) ≤ 1000
  simp [colD, widAll, widAll.wid]
theorem optD_depth (o : Option Int) : (optD o).depth < 4 := by cases o <;> simp [optD, PyData.depth]
theorem optD_wid (o : Option Int) : widAll.wid (optD o) ≤ 1000 := by cases o <;> exact Nat.zero_le _
theorem told_wash {cs : List Col} {ws : List Wsh} {a : Option Str} {b : Str} (ha : ∀ y, a = some y → (colF cs y).isSome = true) (hb : (colF cs b).isSome = true) : toldF cs ws 1 a b = optD (washF ws a b) := by
  have e : missF cs a b = none := by
    have eb : (colF cs b).isNone = false := by cases e : colF cs b with | none => rw [e] at hb; cases hb | some c => rfl
    cases a with
    | none =>
      show (if (colF cs b).isNone = true then some b else none) = none
      rw [eb]; rfl
    | some y =>
      have ey : (colF cs y).isNone = false := by
        have := ha y rfl
        cases e : colF cs y with
        | none => rw [e] at this; cases this
        | some c => rfl
      show (if (colF cs y).isNone = true then some y else if (colF cs b).isNone = true then some b else none) = none
      rw [ey, eb]; rfl
  unfold toldF
  rw [if_neg (by decide), if_pos rfl, e]
theorem alloc3 {H0 H : Hp} {d c p : Addr} {n : Nat} {o : HO} (st : StAt H d c n) (k : Kp d c H0 H) (np : H p = none) : StAt (upd H p o) d c n ∧ Kp d c H0 (upd H p o) ∧ p ≠ d ∧ p ≠ c ∧ Same H (upd H p o) ∧ upd H p o p = some o :=
  ⟨st.put (st.ne1 np) (st.ne2 np), kp_put k (k.free st np), (st.ne1 np).symm, (st.ne2 np).symm, same_upd np, upd_same⟩
theorem two_left {xs : List Str} (h : xs.length = 2) : ∃ a b, xs = [a, b] := by
  match xs, h with
  | [a, b], _ => exact ⟨a, b, rfl⟩
def spLaw (K : PySem.W.Frag) : Sp := fun vs H Q _ => ∃ (a : Addr) (ns : List Int), vs = [.ref a] ∧ SqL K H a (ns.map V.int) ∧ ns.length ≤ 63 ∧ ∀ H', Q (.bl true) H'
abbrev s_law : Stmt := topS 16
def n_law : List Str := ["_law_script", "_law_state", "_law_many", "_law_every", "_law_turn", "_law_names_here", "_law_strange", "_law_palette_here", "_law_kept", "_law_row", "_law_at", "_law_told_here", "_law_whole", "_law_other"]
theorem sc_law : FnScope n_law ["_law_script"] (defScope s_law) := ⟨rfl, rfl, rfl, by decide +kernel, rfl, by decide +kernel, by decide +kernel⟩
set_option maxHeartbeats 2000000 in
theorem ok_law {f C : Addr} {fd : FuncData} {k : Nat} (F : Fun K "law" "law" s_law f fd) (T : Txt mg) (c__law_begin : Cl P w K mg base (k + 1) "_law_begin" (spBegin K)) (c__law_take : Cl P w K mg base (k + 1) "_law_take" spTake) (c__law_names : Cl P w K mg base (k + 2) "_law_names" spNames) (c__law_palette : Cl P w K mg base (k + 2) "_law_palette" (spPalette K)) (c__law_same : Cl P w K mg base (k + 5) "_law_same" (spSame K 4)) (c__law_wash : Cl P w K mg base (k + 1) "_law_wash" (spLWash K)) (c__law_told : Cl P w K mg base (k + 5) "_law_told" (spTold3 K)) (c__law_strange_right : Cl P w K mg base (k + 6) "_law_strange_right" (spStrange K)) (c_colour_row : ClX P w K mg base 3 "colour_row" (spColX K C)) (c_ready_at : ClX P w K mg base 4 "ready_at" (spReadyX K C)) (d_ready_at : ClDX P w K mg base 4 "ready_at" [.int 0] (spReadyX K C)) : FnG P w K mg base (k + 7) f fd ["_law_script"] (spLaw K) := by
  refine okG F sc_law (fun vs H Q E h => ?_) (fun cdv A outer s H vs Q gd hr h => ?_)
  · obtain ⟨a, ns, rfl, _⟩ := h
    rfl
  · obtain ⟨a, ns, rfl, hS, h63, q⟩ := h
    have nd := sc_law.nd
    have hu64 := hr.units
    /- 0 _law_script, 1 _law_state, 2 _law_many, 3 _law_every, 4 _law_turn, 5 _law_names_here, 6 _law_strange, 7 _law_palette_here, 8 _law_kept, 9 _law_row, 10 _law_at, 11 _law_told_here, 12 _law_whole, 13 _law_other -/
    have c__law_take : Cl P w K mg base (k + 1) "_law_take" spTakeK := c__law_take.imp fun vs H Q E h => by
      obtain ⟨d, c, m, n, e, h1, h2, h3, h4, q⟩ := h
      exact ⟨d, c, m, n, e, h1, h2, h3, h4, fun H' r a b st k => q H' r a b st (sm_kp k)⟩
    refine ⟨_, (pss_cons (ps_set (i := 1) nd rfl (.inl rfl) (pe_cl c__law_begin hr (by omega) (by rfl) (pa_cons (pv 0) pa_nil)))
      (pss_cons (ps_set (i := 2) nd rfl (.inl rfl) (pe_ix (kx_list (K := K)) (pe_lst (pa_cons pe_int (pa_cons (pe_op op_add pe_int (pe_cl c__law_take hr (by omega) (by rfl) (pa_cons (pv 1) (pa_cons pe_int pa_nil)))) pa_nil))) (pe_callTy call_int1 (by rfl) T.int (by decide +kernel) (pa_cons (pe_cmpR op_gt (pe_cl c__law_take hr (by omega) (by rfl) (pa_cons (pv 1) (pa_cons pe_int pa_nil))) pe_int (nomark _)) pa_nil)) (fun _ _ => rfl)))
      (pss_cons (ps_par (i := 3) (j := 4) rfl nd rfl rfl (by decide) rfl rfl (pa_cons (pe_cl c__law_names hr (by omega) (by rfl) (pa_cons (pv 1) (pa_cons (pe_op op_add (pv 2) pe_int) pa_nil))) (pa_cons (pe_cl c__law_take hr (by omega) (by rfl) (pa_cons (pv 1) (pa_cons (pe_op op_add (pv 2) pe_int) pa_nil))) pa_nil)) rfl)
      (pss_cons (ps_set (i := 3) nd rfl (.inl rfl) (pe_op op_cat (pe_slice (kl_list (K := K)) (pv 3) (po_some (pv 4)) po_none) (pe_slice (kl_list (K := K)) (pv 3) po_none (po_some (pv 4)))))
      (pss_cons (ps_par (i := 5) (j := 6) rfl nd rfl rfl (by decide) rfl rfl (pa_cons (pe_callB (kc_sortedS (K := K)) (by rfl) T.sorted (by decide +kernel) (pa_cons (pe_slice (kl_list (K := K)) (pv 3) po_none (po_some (pv 2))) pa_nil)) (pa_cons (pe_slice (kl_list (K := K)) (pv 3) (po_some (pv 2)) po_none) pa_nil)) rfl)
      (pss_cons (ps_set (i := 7) nd rfl (.inl rfl) (pe_cl c__law_palette hr (by omega) (by rfl) (pa_cons (pv 1) (pa_cons (pv 5) pa_nil))))
      (pss_cons (ps_set (i := 8) nd rfl (.inl rfl) (pe_callB (kc_repr (K := K) gd hu64) (by rfl) T.repr (by decide +kernel) (pa_cons (pv 7) pa_nil)))
      (pss_cons (ps_for PassesOwn.never rfl (ki_tup (K := K) (pe_ix (kx_tup (K := K)) (pv 7) pe_int (fun _ _ => rfl))) (pg_name (i := 9) nd rfl (.inl rfl))
          (pss_cons (ps_set (i := 10) nd rfl (.inl rfl) (pe_ix (kx_list (K := K)) (pe_lst (pa_cons (pe_cl c__law_take hr (by omega) (by rfl) (pa_cons (pv 1) (pa_cons (pe_op op_add (pe_op op_pow pe_int pe_int) pe_int) pa_nil))) (pa_cons (pe_cl c__law_take hr (by omega) (by rfl) (pa_cons (pv 1) (pa_cons pe_int pa_nil))) pa_nil))) (pe_cl c__law_take hr (by omega) (by rfl) (pa_cons (pv 1) (pa_cons pe_int pa_nil))) (fun _ _ => rfl)))
          (pss_cons (ps_set (i := 11) nd rfl (.inl rfl) (pe_lst (pa_cons (pe_clX c_colour_row hr (by omega) (by rfl) takes_never (pa_cons (pv 7) (pa_cons (pe_ix (kx_tup (K := K)) (pv 9) pe_int (fun _ _ => rfl)) pa_nil))) (pa_cons (pe_cdX d_ready_at hr (by omega) (by rfl) takes_never (pa_cons (pv 7) (pa_cons (pe_ix (kx_tup (K := K)) (pv 9) pe_int (fun _ _ => rfl)) pa_nil))) (pa_cons (pe_clX c_ready_at hr (by omega) (by rfl) takes_never (pa_cons (pv 7) (pa_cons (pe_ix (kx_tup (K := K)) (pv 9) pe_int (fun _ _ => rfl)) (pa_cons (pv 10) pa_nil)))) pa_nil)))))
          (pss_cons (ps_set (i := 12) nd rfl (.inl rfl) (pe_op op_add (pe_ix (kx_tup (K := K)) (pv 9) pe_int (fun _ _ => rfl)) (pe_ix (kx_tup (K := K)) (pv 9) pe_int (fun _ _ => rfl))))
          (pss_cons (ps_if (pt_not (pt_val (pe_cl c__law_same hr (by omega) (by rfl) (pa_cons (pv 11) (pa_cons (pe_lst (pa_cons (pv 9) (pa_cons (pv 12) (pa_cons (pe_op op_add (pv 10) (pv 12)) pa_nil)))) pa_nil)))))
              pss_never
              pss_nil)
          (pss_cons (ps_if (pt_not (pt_val (pe_cl c__law_same hr (by omega) (by rfl) (pa_cons (pe_cl c__law_told hr (by omega) (by rfl) (pa_cons pe_int (pa_cons (pv 7) (pa_cons pe_non (pa_cons (pe_ix (kx_tup (K := K)) (pv 9) pe_int (fun _ _ => rfl)) pa_nil))))) (pa_cons pe_int pa_nil)))))
              pss_never
              pss_nil)
          (pss_one (ps_for PassesOwn.never rfl (ki_list (K := K) (pv 5)) (pg_name (i := 13) nd rfl (.inl rfl))
              (pss_one (ps_if (pt_not (pt_val (pe_cl c__law_same hr (by omega) (by rfl) (pa_cons (pe_cl c__law_told hr (by omega) (by rfl) (pa_cons pe_int (pa_cons (pv 7) (pa_cons (pe_ix (kx_tup (K := K)) (pv 9) pe_int (fun _ _ => rfl)) (pa_cons (pv 13) pa_nil))))) (pa_cons (pe_cl c__law_wash hr (by omega) (by rfl) (pa_cons (pv 7) (pa_cons (pe_ix (kx_tup (K := K)) (pv 9) pe_int (fun _ _ => rfl)) (pa_cons (pv 13) pa_nil)))) pa_nil)))))
                  pss_never
                  pss_nil))))))))))
      (pss_one (ps_ret (pe_and (pe_cl c__law_strange_right hr (by omega) (by rfl) (pa_cons (pv 7) (pa_cons (pv 5) (pa_cons (pv 6) pa_nil)))) (pe_one (pe_cmpR op_eq (pe_callB (kc_repr (K := K) gd hu64) (by rfl) T.repr (by decide +kernel) (pa_cons (pv 7) pa_nil)) (pv 8) (nomark _)))))))))))))), ?_⟩
    refine ⟨_, rfl, a, ns, rfl, hS, h63, fun H1 d c s1 st nd0 nc0 => ?_⟩
    refine ⟨_, rfl, d, c, 8, 0, rfl, (by decide), (by decide), st, (by decide), fun H2 r r0 r1 st k2 => ⟨_, _, rfl, rfl, (by show 2 ≤ sizeLine; decide), fun z nz => ?_⟩⟩
    have zd := (st.ne1 nz).symm
    have zc := (st.ne2 nz).symm
    have k3 := kp_put (o := .lst [.int 12, .int (1 + r)]) k2 (k2.free st nz)
    have st := st.put (o := .lst [.int 12, .int (1 + r)]) zd.symm zc.symm
    have hz : upd H2 z (.lst [.int 12, .int (1 + r)]) z = _ := upd_same
    generalize upd H2 z (.lst [.int 12, .int (1 + r)]) = H3 at k3 st hz ⊢
    clear k2 nz
    refine ⟨_, rfl, d, c, 6, 0 + 1, rfl, (by decide), (by decide), st, (by decide), fun H4 r6 p0 p1 st k4 => ⟨_, _, rfl, rfl, .inr ⟨_, rfl, ?_⟩⟩⟩
    obtain ⟨m, m1, m12, em⟩ : ∃ m : Nat, 1 ≤ m ∧ m ≤ 12 ∧ atI [V.int 12, .int (1 + r)] (if decide (0 < r6) = true then 1 else 0) = some (.int (m : Nat)) := by
      by_cases h : 0 < r6
      · refine ⟨1 + r.toNat, by omega, by omega, ?_⟩
        rw [decide_eq_true h, if_pos rfl]
        show some (V.int (1 + r)) = _
        rw [show ((1 + r.toNat : Nat) : Int) = 1 + r by omega]
      · refine ⟨12, by decide, by decide, ?_⟩
        rw [decide_eq_false h, if_neg (by decide)]; rfl
    refine ⟨z, _, _, _, rfl, rfl, SqL.of (k4 _ _ zd zc hz), em, ?_⟩
    have k4 := k3.trans k4
    clear k3 hz zd zc em
    refine ⟨_, rfl, _, rfl, _, _, rfl, rfl, d, c, 0 + 1 + 1, m + 2, (by show [_, V.int ((m : Int) + 2)] = _; rfl), st, (by decide), (by omega), fun H5 L ys st5 s5 nL hL ly nm nod => ?_⟩
    have Ld := (st.ne1 nL).symm
    have Lc := (st.ne2 nL).symm
    have nL0 := k4.free st nL
    have k5 := k4.trans (sm_kp s5)
    clear s5 st k4 nL
    refine ⟨_, rfl, _, rfl, _, _, rfl, rfl, d, c, _, _, rfl, (by omega), (by omega), st5, (by omega), fun H6 t t0 t1 st6 k6 => ⟨_, _, rfl, ?_⟩⟩
    have hL := k6 _ _ Ld Lc hL
    have k6 := k5.trans k6
    clear k5 st5
    -- turned about
    refine ⟨_, rfl, _, rfl, _, rfl, L, _, rfl, SqL.of hL, fun p1 n1 => ?_⟩
    obtain ⟨tn, rfl⟩ : ∃ tn : Nat, t = (tn : Int) := ⟨t.toNat, by omega⟩
    rw [cut_tail]
    obtain ⟨st, k, p1d, p1c, sa, h1⟩ := alloc3 (o := .lst ((ys.map V.str).drop tn)) st6 k6 n1
    have hL := sa _ _ hL
    generalize upd H6 p1 (.lst ((ys.map V.str).drop tn)) = H7 at st k h1 hL ⊢
    clear st6 k6 n1 sa
    refine ⟨_, rfl, _, rfl, _, rfl, L, _, rfl, SqL.of hL, fun p2 n2 => ?_⟩
    rw [cut_head]
    obtain ⟨st, k, p2d, p2c, sa, h2⟩ := alloc3 (o := .lst ((ys.map V.str).take tn)) st k n2
    have h1 := sa _ _ h1
    generalize upd H7 p2 (.lst ((ys.map V.str).take tn)) = H8 at st k h1 h2 ⊢
    clear sa n2 hL
    have le1 : ((ys.map V.str).drop tn).length + ((ys.map V.str).take tn).length = m + 2 := by rw [List.length_drop, List.length_take, List.length_map]; omega
    refine ⟨p1, p2, _, _, rfl, rfl, h1, h2, (by rw [le1, sizeLine_eq]; omega), fun p3 n3 => ?_⟩
    obtain ⟨es, ees, pes⟩ : ∃ es : List Str, (ys.map V.str).drop tn ++ (ys.map V.str).take tn = es.map V.str ∧ es.Perm ys := by
      refine ⟨ys.drop tn ++ ys.take tn, by rw [List.map_append, List.map_drop, List.map_take], ?_⟩
      have := List.perm_append_comm (l₁ := ys.drop tn) (l₂ := ys.take tn)
      rw [List.take_append_drop] at this
      exact this
    rw [ees]
    obtain ⟨st, k, p3d, p3c, sa, h3⟩ := alloc3 (o := .lst (es.map V.str)) st k n3
    generalize upd H8 p3 (.lst (es.map V.str)) = H9 at st k h3 ⊢
    clear sa n3 h1 h2 le1 ees
    have les : es.length = m + 2 := by rw [pes.length_eq, ly]
    have ens : es.Nodup := pes.nodup_iff.mpr nod
    have enm : ∀ y ∈ es, Nm y := fun y hy => nm y (pes.mem_iff.mp hy)
    clear pes nod nm ly
    -- sorted, strange
    refine ⟨_, rfl, _, rfl, _, rfl, p3, _, rfl, SqL.of h3, fun p4 n4 => ?_⟩
    rw [cut_head, ← List.map_take]
    obtain ⟨st, k, p4d, p4c, sa, h4⟩ := alloc3 (o := .lst ((es.take m).map V.str)) st k n4
    have h3 := sa _ _ h3
    generalize upd H9 p4 (.lst ((es.take m).map V.str)) = H10 at st k h3 h4 ⊢
    clear sa n4
    have l4 : (es.take m).length = m := by rw [List.length_take]; omega
    refine ⟨p4, _, rfl, SqL.of h4, (by omega), fun nms N pn so nN => ?_⟩
    obtain ⟨st, k, Nd, Nc, sa, hN⟩ := alloc3 (o := .lst (nms.map V.str)) st k nN
    have h3 := sa _ _ h3
    generalize upd H10 N (.lst (nms.map V.str)) = H11 at st k h3 hN ⊢
    clear sa nN h4
    refine ⟨_, rfl, _, rfl, _, rfl, p3, _, rfl, SqL.of h3, fun S nS => ⟨_, _, rfl, ?_⟩⟩
    rw [cut_tail, ← List.map_drop]
    obtain ⟨st, k, Sd, Sc, sa, hS'⟩ := alloc3 (o := .lst ((es.drop m).map V.str)) st k nS
    have hN := sa _ _ hN
    generalize upd H11 S (.lst ((es.drop m).map V.str)) = H12 at st k hN hS' ⊢
    clear sa nS h3
    obtain ⟨z0, z1, ez⟩ := two_left (xs := es.drop m) (by rw [List.length_drop]; omega)
    have out : ∀ z, z ∈ es.drop m → z ∉ nms := fun z hz h => by
      have h2 := pn.mem_iff.mp h
      have e2 : (es.take m ++ es.drop m).Nodup := by rw [List.take_append_drop]; exact ens
      exact (List.nodup_append.mp e2).2.2 z h2 z hz rfl
    have out0 := out z0 (by rw [ez]; exact List.mem_cons_self)
    have out1 := out z1 (by rw [ez]; exact List.mem_cons_of_mem _ List.mem_cons_self)
    rw [ez] at hS'
    have nnd : nms.Nodup := pn.nodup_iff.mpr (ens.sublist (List.take_sublist _ _))
    have nnm : ∀ y ∈ nms, Nm y := fun y hy => enm y (List.mem_of_mem_take (pn.mem_iff.mp hy))
    have lnm : nms.length = m := by rw [pn.length_eq, l4]
    clear out ez ens enm les l4 pn
    -- the palette
    refine ⟨_, rfl, _, rfl, d, c, N, _, nms, rfl, st, (by omega), SqL.of hN, (by omega), (fun y hy => (nnm y hy).1.mono (by decide)), Nd, Nc, fun H13 v cs ws st13 k13 dv ok pc => ?_⟩
    have hN := k13 _ _ Nd Nc hN
    have hS' := k13 _ _ Sd Sc hS'
    have k := k.trans k13
    have st := st13
    clear k13 st13
    obtain ⟨nn, st, hnn⟩ : ∃ nn, StAt H13 d c nn ∧ nn ≤ 2000 := ⟨_, st, by omega⟩
    have cnd : (cs.map (·.1)).Nodup := pc.nodup_iff.mpr nnd
    have cin : ∀ y ∈ nms, (colF cs y).isSome = true := fun y hy => colF_in (pc.mem_iff.mpr hy)
    have cout : ∀ y, y ∉ nms → colF cs y = none := fun y hy => colF_out fun h => hy (pc.mem_iff.mp h)
    obtain ⟨p, cl, wl, xs, us, rfl, hp, hc, hx, hw, hu⟩ := pal_dp dv
    have est : ∀ σ : L2.St, σ = (((((((List.set (L2.start n_law [V.ref a]) 1 (some (V.ref d))).set 2 (some (V.int (m : Nat)))).set 3 (some (V.ref L))).set 4 (some (V.int (tn : Nat)))).set 3 (some (V.ref p3))).set 5 (some (V.ref N))).set 6 (some (V.ref S))).set 7 (some (V.ref p)) → σ = [some (.ref a), some (.ref d), some (.int (m : Nat)), some (.ref p3), some (.int (tn : Nat)), some (.ref N), some (.ref S), some (.ref p), none, none, none, none, none, none] := fun σ e => e
    refine ⟨_, rfl, p, _, rfl, dv, pal_fine ok, Nat.le_trans (pal_depth cs ws) (by decide), Nat.le_trans (pal_cost ok) (by decide), ?_⟩
    refine ⟨_, rfl, p, _, 0, .ref cl, rfl, rfl, hp, rfl, cl, rfl, ⟨_, hc⟩, ?_⟩
    have lxs : xs.length ≤ 20 := by rw [dpAll_map_len hx]; exact ok.nc
    have kpD : ∀ {HX : Hp}, StAt H13 d c nn → Kp d c H13 HX → Dp K HX (.ref p) (palD cs ws) := fun st k => dp_kp st k (noL_pal cs ws) dv
    refine for_it (walk_tup (xs := xs)) (fun i σ Hx => ∃ v9 va vb vc vd, σ = [some (.ref a), some (.ref d), some (.int (m : Nat)), some (.ref p3), some (.int (tn : Nat)), some (.ref N), some (.ref S), some (.ref p), some (.str (palD cs ws).shown), v9, va, vb, vc, vd] ∧ StAt Hx d c (nn + 3 * i) ∧ Kp d c H13 Hx) ⟨_, _, _, _, _, rfl, st, fun _ _ _ _ e => e⟩ (fun i σ Hx _ h => ?_) ?_ ?_
    · obtain ⟨_, _, _, _, _, _, _, h⟩ := h
      exact sqT_kp3 st h hc
    · rintro i x σ Hx Hy hi ⟨v9, va, vb, vc, vd, rfl, sx, kx⟩ ⟨rfl, gx⟩
      have hi20 : i < 20 := by omega
      obtain ⟨r, gr, dr0⟩ := dpAll_map_at hx gx
      have dr := dp_kp st kx (noL_col r) dr0
      obtain ⟨ra, rfl, hr2⟩ := col_dp dr
      have cself := colF_at cnd gr
      have rin : r.1 ∈ nms := pc.mem_iff.mp (List.mem_map.mpr ⟨r, List.mem_of_getElem? gr, rfl⟩)
      -- at
      refine ⟨_, rfl, _, _, rfl, rfl, ⟨by decide, by decide, by decide⟩, _, _, rfl, rfl, d, c, 10 ^ Int.toNat 6 + 1, _, rfl, (by decide), (by decide), sx, (by omega), fun H2 a1 a10 a11 s2 k2 => ?_⟩
      refine ⟨_, rfl, d, c, 30, _, rfl, (by decide), (by decide), s2, (by omega), fun H3 a2 a20 a21 s3 k3 => ⟨(by show 2 ≤ sizeLine; decide), fun z nz => ?_⟩⟩
      obtain ⟨s4, k4, zd, zc, sa, hz⟩ := alloc3 (o := .lst [.int a1, .int a2]) s3 ((kx.trans k2).trans k3) nz
      generalize upd H3 z (.lst [.int a1, .int a2]) = H4 at s4 k4 hz ⊢
      clear sa nz s3 k2 k3 s2 sx
      refine ⟨_, rfl, d, c, 2, _, rfl, (by decide), (by decide), s4, (by omega), fun H5 w0 w1 w2 s5 k5 => ?_⟩
      obtain ⟨at_, ea⟩ : ∃ at_ : Int, atI [V.int a1, .int a2] w0 = some (.int at_) := by
        have h : w0 = 0 ∨ w0 = 1 := by omega
        rcases h with rfl | rfl
        · exact ⟨a1, rfl⟩
        · exact ⟨a2, rfl⟩
      refine ⟨z, _, _, _, rfl, rfl, SqL.of (k5 _ _ zd zc hz), ea, ?_⟩
      have k5 := k4.trans k5
      clear k4 hz s4 ea kx dr hr2
      have dv5 := dp_kp st k5 (noL_pal cs ws) dv
      have dr5 := dp_kp st k5 (noL_col r) dr0
      have hr5 : SqT K H5 ra [.str r.1, .int r.2.1, .int r.2.2.1, .int r.2.2.2] := by
        obtain ⟨ra', e, h⟩ := col_dp dr5
        cases e
        exact h
      have csome : colF cs r.1 ≠ none := fun e => by rw [cself] at e; cases e
      refine ⟨_, rfl, _, rfl, ra, _, 0, _, rfl, rfl, hr5, rfl, .ref p, cs, ws, r.1, rfl, dv5, fun x1 c1 hc1 dx1 => ?_, fun e => absurd e csome⟩
      cases Option.some.inj (cself.symm.trans hc1)
      refine ⟨_, rfl, _, rfl, ra, _, 0, _, rfl, rfl, hr5, rfl, .ref p, cs, ws, r.1, 0, rfl, dv5, fun c1 hc1 => ?_, fun e => absurd e csome⟩
      cases Option.some.inj (cself.symm.trans hc1)
      refine ⟨_, rfl, _, rfl, ra, _, 0, _, rfl, rfl, hr5, rfl, _, rfl, .ref p, cs, ws, r.1, at_, rfl, dv5, fun c1 hc1 => ?_, fun e => absurd e csome⟩
      cases Option.some.inj (cself.symm.trans hc1)
      refine ⟨(by show 3 ≤ sizeLine; decide), fun l nl => ?_⟩
      have e1 : (0 : Int) + r.2.1 + r.2.2.1 = r.2.1 + r.2.2.1 := by omega
      have e2 : at_ + r.2.1 + r.2.2.1 = at_ + (r.2.1 + r.2.2.1) := by omega
      rw [e1, e2]
      obtain ⟨s6, k6, _, _, sa, hl⟩ := alloc3 (o := .lst [x1, .int (r.2.1 + r.2.2.1), .int (at_ + (r.2.1 + r.2.2.1))]) s5 k5 nl
      have hr6 := same_tup sa hr5
      have dx6 := dp_same sa dx1
      have dr6 := dp_same sa dr5
      generalize upd H5 l (.lst [x1, .int (r.2.1 + r.2.2.1), .int (at_ + (r.2.1 + r.2.2.1))]) = H6 at s6 k6 hl hr6 dx6 dr6 ⊢
      clear sa nl hr5 dr5 dx1 dv5 k5 s5
      refine ⟨_, rfl, ra, _, 1, _, rfl, rfl, hr6, rfl, _, rfl, ra, _, 2, _, rfl, rfl, hr6, rfl, _, _, rfl, rfl, ?_⟩
      refine ⟨_, rfl, _, rfl, _, rfl, _, rfl, _, rfl, _, _, rfl, rfl, (by show 3 ≤ sizeLine; decide), fun l2 nl2 => ?_⟩
      obtain ⟨s7, k7, _, _, sa, hl2⟩ := alloc3 (o := .lst [.ref ra, .int (r.2.1 + r.2.2.1), .int (at_ + (r.2.1 + r.2.2.1))]) s6 k6 nl2
      refine ⟨.ref l, .ref l2, dueD r at_, rfl, .lst (SqL.of (sa _ _ hl)) (.cons (dp_same sa dx6) (.cons (.int _) (.cons (.int _) .nil))), .lst (SqL.of hl2) (.cons (dp_same sa dr6) (.cons (.int _) (.cons (.int _) .nil))), dueD_depth _ _, dueD_wid _ _, fun H8 s8 => ⟨_, rfl, iteF ?_⟩⟩
      have st8 := s7.same s8
      have k8 : Kp d c H13 H8 := k7.trans fun b o _ _ e => s8 _ _ e
      have hr8 := same_tup (sa.trans s8) hr6
      have dv8 := dp_kp st k8 (noL_pal cs ws) dv
      clear hl hl2 dx6 dr6 hr6 s6 k6 s7 k7 sa s8 nl2
      have w0 : washF ws none r.1 = some 0 := washF_none fun j e _ _ h => by cases h.1
      refine ⟨_, rfl, _, rfl, ra, _, 0, _, rfl, rfl, hr8, rfl, .ref p, cs, ws, 1, none, r.1, rfl, dv8, .inl rfl, fun H9 x9 s9 dt => ?_⟩
      rw [told_wash (fun y e => by cases e) (cin _ rin), w0] at dt
      refine ⟨x9, .int 0, .int 0, rfl, dt, .int 0, (by simp [PyData.depth]), Nat.zero_le _, fun H10 s10 => ⟨_, rfl, iteF ?_⟩⟩
      have sb := s9.trans s10
      have st10 := st8.same sb
      have k10 : Kp d c H13 H10 := k8.trans fun b o _ _ e => sb _ _ e
      have hr10 := same_tup sb hr8
      have dv10 := dp_same sb dv8
      have hN10 := k10 _ _ Nd Nc hN
      clear s9 s10 sb dt st8 k8 hr8 dv8
      refine ⟨_, rfl, N, rfl, ⟨_, SqL.of hN10⟩, ?_⟩
      refine for_it (walk_list (xs := nms.map V.str)) (fun j σ Hz => ∃ vd, σ = [some (.ref a), some (.ref d), some (.int (m : Nat)), some (.ref p3), some (.int (tn : Nat)), some (.ref N), some (.ref S), some (.ref p), some (.str (palD cs ws).shown), some (.ref ra), some (.int at_), some (.ref l), some (.int (r.2.1 + r.2.2.1)), vd] ∧ Same H10 Hz) ⟨_, rfl, Same.refl _⟩ (fun j σ Hz _ h => by obtain ⟨_, _, h⟩ := h; exact SqL.of (h _ _ hN10)) ?_ ?_
      · rintro j y σ Ha Hb hj ⟨vd, rfl, sz⟩ ⟨rfl, gy⟩
        rw [List.getElem?_map] at gy
        obtain ⟨y, gy2, rfl⟩ := Option.map_eq_some_iff.mp gy
        have yin := List.mem_of_getElem? gy2
        refine ⟨_, rfl, _, rfl, ra, _, 0, _, rfl, rfl, same_tup sz hr10, rfl, _, rfl, .ref p, cs, ws, 1, some r.1, y, rfl, dp_same sz dv10, .inl rfl, fun H11 x11 s11 dt => ?_⟩
        rw [told_wash (fun z e => by cases e; exact cin _ rin) (cin _ yin)] at dt
        have sy := sz.trans s11
        refine ⟨_, rfl, _, rfl, ra, _, 0, _, rfl, rfl, same_tup sy hr10, rfl, _, rfl, .ref p, cs, ws, some r.1, y, rfl, dp_same sy dv10, ok, ?_, ?_, fun H12 s12 => ?_⟩
        · intro z e
          cases e
          exact fun x hx => by have := (nnm _ rin).1.2 x hx; omega
        · exact fun x hx => by have := (nnm _ yin).1.2 x hx; omega
        · refine ⟨x11, optV (washF ws (some r.1) y), optD (washF ws (some r.1) y), rfl, dp_same s12 dt, opt_dp _, optD_depth _, optD_wid _, fun H13 s13 => ⟨_, rfl, iteF ⟨_, rfl, (sy.trans s12).trans s13⟩⟩⟩
      · rintro σ Hz ⟨vd, rfl, sz⟩
        refine ⟨_, _, _, _, _, rfl, (st10.same sz).mono (by omega), k10.trans fun b o _ _ e => sz _ _ e⟩
    · rintro σ Hz ⟨v9, va, vb, vc, vd, rfl, sz, kz⟩
      have dvz := dp_kp st kz (noL_pal cs ws) dv
      refine ⟨_, rfl, _, rfl, _, rfl, .ref p, N, S, cs, ws, nms, z0, z1, rfl, dvz, kz _ _ Nd Nc hN, kz _ _ Sd Sc hS', (by omega), cin, cout z0 out0, cout z1 out1, fun H' s' => ⟨true, rfl, ?_⟩⟩
      rw [if_pos rfl]
      refine ⟨_, rfl, p, _, rfl, dp_same s' dvz, pal_fine ok, Nat.le_trans (pal_depth cs ws) (by decide), Nat.le_trans (pal_cost ok) (by decide), _, rfl, rfl, ?_⟩
      rw [decide_eq_true rfl]
      exact q _

end
end Pot

namespace Pot
open PySem PySem.Spec PyProof.Rows L2
theorem oex_of {K : PySem.W.Frag} {C : Addr} {bmB : List Value} {newId : String} (q : PySem.W.excInitIn K C bmB newId = true) (hd : PySem.W.hasDictIn K C = true) :
    ∃ nm q N bs bm sn sub ab col dd k0 k1 k2 k3 k5, K.lookup C = some (excClassObj nm q C N bs bm true sn sub ab col dd k0 k1 k2 k3 k5 newId) ∧ PySem.W.excTail bmB bm = true := by
  obtain ⟨cd, hc, hdd⟩ := PySem.W.any_some hd
  unfold PySem.W.excInitIn at q
  unfold PySem.W.clsIn at hc
  cases look : K.lookup C with
  | none => rw [look] at q; cases q
  | some o =>
    rw [look] at q hc
    obtain ⟨cl, dd, da, sl⟩ := o
    cases da with
    | cls cd2 =>
      cases hc
      split at q
      · rename_i here
        cases here
        split at q
        · rename_i C' bm k0 k1 k2 k3 n k5 hm hs
          simp only [Bool.and_eq_true, beq_iff_eq, Bool.not_eq_true'] at q
          obtain ⟨⟨⟨rfl, rfl⟩, del⟩, tail⟩ := q
          obtain ⟨nm, bs, mro, ns, qn, hd3, sn, sub, ab, col, dl⟩ := cd
          dsimp only at hm del hdd
          subst hm del hdd
          obtain ⟨sl⟩ := sl
          dsimp only at hs
          subst hs
          exact ⟨nm, qn, ns, bs, bm, sn, sub, ab, col, _, k0, k1, k2, k3, k5, rfl, tail⟩
        · cases q
      · cases q
    | _ => cases hc
theorem kit_subc {K : PySem.W.Frag} {t : Value} {C : Addr} {b : Bool} (ne : (t == Value.ref C) = false) (hd : PySem.W.hasDictIn K C = true) (ht : PySem.W.typeIn K (.ref C) = some (.type "type")) (hs : PySem.W.subIn K t (.ref C) = some b) : PySem.W.kitOne K t (.ref C) = some b := by
  obtain ⟨cd, hc, _⟩ := PySem.W.any_some hd
  have e2 : ((PySem.W.clsIn K C).isSome && PySem.W.typeIn K (.ref C) == some (.type "type")) = true := by rw [hc, ht] <;> rfl
  show (if (t == Value.ref C) = true then some true else (if ((PySem.W.clsIn K C).isSome && PySem.W.typeIn K (.ref C) == some (.type "type")) = true then PySem.W.subIn K t (.ref C) else none)) = some b
  rw [if_neg (by rw [ne]; exact Bool.false_ne_true), if_pos e2]
  exact hs
theorem kit_tyb {K : PySem.W.Frag} {C : Addr} {n : String} {b : Bool} (hm : PySem.W.kitMeta n = true) (hs : PySem.W.subIn K (.ref C) (.type n) = some b) : PySem.W.kitOne K (.ref C) (.type n) = some b := by
  show (if (Value.ref C == Value.type n) = true then some true else (if PySem.W.kitMeta n = true then PySem.W.subIn K (.ref C) (.type n) else none)) = some b
  rw [if_neg (by show ¬ (false = true); exact Bool.false_ne_true), if_pos hm]
  exact hs
theorem kit_four {K : PySem.W.Frag} {t a b c d : Value} (h1 : PySem.W.kitOne K t a = some false) (h2 : PySem.W.kitOne K t b = some false) (h3 : PySem.W.kitOne K t c = some false) (h4 : PySem.W.kitOne K t d = some false) : PySem.W.kitAny K t [a, b, c, d] = some false := by
  unfold PySem.W.kitAny; rw [h1]
  unfold PySem.W.kitAny; rw [h2]
  unfold PySem.W.kitAny; rw [h3]
  unfold PySem.W.kitAny; rw [h4]
  rfl
theorem binds_ns {P : Program} {K : PySem.W.Frag} {f C : Addr} {fd : FuncData} (F : RSup.FunS P K "__init__" "NoSuch.__init__" s_NoSuch f C fd) : Binds K fd ["self", "what", "name"] [] := by
  obtain ⟨cda, cc, oc, od, kV, doc, pm, an, ct, osl, cl, cld, csl, ccl, cdd, ws, ccs, file, tf, rfl, _⟩ := F.ex
  exact .all fun us hl => match us, hl with | [_, _, _], _ => rfl
theorem along_le (K : PySem.W.Frag) : PySem.W.alongIn K "__init__" leTail = some (some (.builtin "LookupError.__init__")) := by kernel_rfl
theorem super_le {K : PySem.W.Frag} {C : Addr} {cd : ClassData} (h : PySem.W.clsIn K C = some cd) (m : cd.mro = .ref C :: leTail) : PySem.W.ks_superIn K C C "__init__" = some (some (.builtin "LookupError.__init__")) := by
  unfold PySem.W.ks_superIn
  rw [h]
  show PySem.W.alongIn K "__init__" ((cd.mro.dropWhile (· != .ref C)).drop 1) = _
  rw [m]
  have e : ((Value.ref C :: leTail).dropWhile (· != .ref C)).drop 1 = leTail := by simp [List.dropWhile_cons]
  rw [e]
  exact along_le K
set_option maxHeartbeats 4000000 in
theorem all_mk {l : PySem.W.OpenLaw} {w : World} {K : PySem.W.Frag} {h : Heap} {mg : Str → Option Value} {fa : Addr} (X : K.In h) (G : h.Ns mainGlobals mg) (hfa : mg "law" = some (.ref fa))
    {f1 : Addr} {od1 an1 : Option Addr} {sl1 : Array (Option Value)} {oc1 kV1 dc1 pm1 cd1 ct1 : Value}
    {f2 : Addr} {od2 an2 : Option Addr} {sl2 : Array (Option Value)} {oc2 kV2 dc2 pm2 cd2 ct2 : Value}
    {f3 : Addr} {od3 an3 : Option Addr} {sl3 : Array (Option Value)} {oc3 kV3 dc3 pm3 cd3 ct3 : Value}
    {T3 : Addr} {ocT3 : Value} {odT3 : Option Addr} {slT3 : Array (Option Value)} {nT3 : Nat}
    {tk3_0 : Tok}
    {f4 : Addr} {od4 an4 : Option Addr} {sl4 : Array (Option Value)} {oc4 kV4 dc4 pm4 cd4 ct4 : Value}
    {f5 : Addr} {od5 an5 : Option Addr} {sl5 : Array (Option Value)} {oc5 kV5 dc5 pm5 cd5 ct5 : Value}
    {f6 : Addr} {od6 an6 : Option Addr} {sl6 : Array (Option Value)} {oc6 kV6 dc6 pm6 cd6 ct6 : Value}
    {f7 : Addr} {od7 an7 : Option Addr} {sl7 : Array (Option Value)} {oc7 kV7 dc7 pm7 cd7 ct7 : Value}
    {f8 : Addr} {od8 an8 : Option Addr} {sl8 : Array (Option Value)} {oc8 kV8 dc8 pm8 cd8 ct8 : Value}
    {f9 : Addr} {od9 an9 : Option Addr} {sl9 : Array (Option Value)} {oc9 kV9 dc9 pm9 cd9 ct9 : Value}
    {f10 : Addr} {od10 an10 : Option Addr} {sl10 : Array (Option Value)} {oc10 kV10 dc10 pm10 cd10 ct10 : Value}
    {f11 : Addr} {od11 an11 : Option Addr} {sl11 : Array (Option Value)} {oc11 kV11 dc11 pm11 cd11 ct11 : Value}
    {f12 : Addr} {od12 an12 : Option Addr} {sl12 : Array (Option Value)} {oc12 kV12 dc12 pm12 cd12 ct12 : Value}
    {CN cH fI cda cc : Addr} {ocI kVI dcI pmI ctI clc ccl : Value} {odI anI cdc cdd : Option Addr} {slI slc ccs : Array (Option Value)} {ws : Array Value} {file : Str} {tf : Tok} {cdN : ClassData}
    (a1 : PySem.W.nsIn K mainGlobals "colour_row" = some (some (.ref f1))) (l1 : K.lookup f1 = some ⟨oc1, od1, .func (PySem.W.fnOf "colour_row" "colour_row" (defArgs s_colour_row) (defBody s_colour_row) (defScope s_colour_row) .none kV1 dc1 pm1 an1 cd1 ct1), sl1⟩) (c1 : PySem.W.codeIn K cd1 "colour_row" = true) (k1 : PySem.W.keepIn K (.ref f1) = true)
    (a2 : PySem.W.nsIn K mainGlobals "wash_for" = some (some (.ref f2))) (l2 : K.lookup f2 = some ⟨oc2, od2, .func (PySem.W.fnOf "wash_for" "wash_for" (defArgs s_wash_for) (defBody s_wash_for) (defScope s_wash_for) .none kV2 dc2 pm2 an2 cd2 ct2), sl2⟩) (c2 : PySem.W.codeIn K cd2 "wash_for" = true) (k2 : PySem.W.keepIn K (.ref f2) = true)
    (a3 : PySem.W.nsIn K mainGlobals "ready_at" = some (some (.ref f3))) (l3 : K.lookup f3 = some ⟨oc3, od3, .func (PySem.W.fnOf "ready_at" "ready_at" (defArgs s_ready_at) (defBody s_ready_at) (defScope s_ready_at) (.ref T3) kV3 dc3 pm3 an3 cd3 ct3), sl3⟩) (c3 : PySem.W.codeIn K cd3 "ready_at" = true) (k3 : PySem.W.keepIn K (.ref f3) = true)
    (t3 : K.lookup T3 = some ⟨ocT3, odT3, .seq #[.int 0 tk3_0] nT3, slT3⟩)
    (a4 : PySem.W.nsIn K mainGlobals "_law_begin" = some (some (.ref f4))) (l4 : K.lookup f4 = some ⟨oc4, od4, .func (PySem.W.fnOf "_law_begin" "_law_begin" (defArgs s__law_begin) (defBody s__law_begin) (defScope s__law_begin) .none kV4 dc4 pm4 an4 cd4 ct4), sl4⟩) (c4 : PySem.W.codeIn K cd4 "_law_begin" = true) (k4 : PySem.W.keepIn K (.ref f4) = true)
    (a5 : PySem.W.nsIn K mainGlobals "_law_take" = some (some (.ref f5))) (l5 : K.lookup f5 = some ⟨oc5, od5, .func (PySem.W.fnOf "_law_take" "_law_take" (defArgs s__law_take) (defBody s__law_take) (defScope s__law_take) .none kV5 dc5 pm5 an5 cd5 ct5), sl5⟩) (c5 : PySem.W.codeIn K cd5 "_law_take" = true) (k5 : PySem.W.keepIn K (.ref f5) = true)
    (a6 : PySem.W.nsIn K mainGlobals "_law_names" = some (some (.ref f6))) (l6 : K.lookup f6 = some ⟨oc6, od6, .func (PySem.W.fnOf "_law_names" "_law_names" (defArgs s__law_names) (defBody s__law_names) (defScope s__law_names) .none kV6 dc6 pm6 an6 cd6 ct6), sl6⟩) (c6 : PySem.W.codeIn K cd6 "_law_names" = true) (k6 : PySem.W.keepIn K (.ref f6) = true)
    (a7 : PySem.W.nsIn K mainGlobals "_law_palette" = some (some (.ref f7))) (l7 : K.lookup f7 = some ⟨oc7, od7, .func (PySem.W.fnOf "_law_palette" "_law_palette" (defArgs s__law_palette) (defBody s__law_palette) (defScope s__law_palette) .none kV7 dc7 pm7 an7 cd7 ct7), sl7⟩) (c7 : PySem.W.codeIn K cd7 "_law_palette" = true) (k7 : PySem.W.keepIn K (.ref f7) = true)
    (a8 : PySem.W.nsIn K mainGlobals "_law_same" = some (some (.ref f8))) (l8 : K.lookup f8 = some ⟨oc8, od8, .func (PySem.W.fnOf "_law_same" "_law_same" (defArgs s__law_same) (defBody s__law_same) (defScope s__law_same) .none kV8 dc8 pm8 an8 cd8 ct8), sl8⟩) (c8 : PySem.W.codeIn K cd8 "_law_same" = true) (k8 : PySem.W.keepIn K (.ref f8) = true)
    (a9 : PySem.W.nsIn K mainGlobals "_law_told" = some (some (.ref f9))) (l9 : K.lookup f9 = some ⟨oc9, od9, .func (PySem.W.fnOf "_law_told" "_law_told" (defArgs s__law_told) (defBody s__law_told) (defScope s__law_told) .none kV9 dc9 pm9 an9 cd9 ct9), sl9⟩) (c9 : PySem.W.codeIn K cd9 "_law_told" = true) (k9 : PySem.W.keepIn K (.ref f9) = true)
    (a10 : PySem.W.nsIn K mainGlobals "_law_wash" = some (some (.ref f10))) (l10 : K.lookup f10 = some ⟨oc10, od10, .func (PySem.W.fnOf "_law_wash" "_law_wash" (defArgs s__law_wash) (defBody s__law_wash) (defScope s__law_wash) .none kV10 dc10 pm10 an10 cd10 ct10), sl10⟩) (c10 : PySem.W.codeIn K cd10 "_law_wash" = true) (k10 : PySem.W.keepIn K (.ref f10) = true)
    (a11 : PySem.W.nsIn K mainGlobals "_law_strange_right" = some (some (.ref f11))) (l11 : K.lookup f11 = some ⟨oc11, od11, .func (PySem.W.fnOf "_law_strange_right" "_law_strange_right" (defArgs s__law_strange_right) (defBody s__law_strange_right) (defScope s__law_strange_right) .none kV11 dc11 pm11 an11 cd11 ct11), sl11⟩) (c11 : PySem.W.codeIn K cd11 "_law_strange_right" = true) (k11 : PySem.W.keepIn K (.ref f11) = true)
    (a12 : PySem.W.nsIn K mainGlobals "law" = some (some (.ref f12))) (l12 : K.lookup f12 = some ⟨oc12, od12, .func (PySem.W.fnOf "law" "law" (defArgs s_law) (defBody s_law) (defScope s_law) .none kV12 dc12 pm12 an12 cd12 ct12), sl12⟩) (c12 : PySem.W.codeIn K cd12 "law" = true) (k12 : PySem.W.keepIn K (.ref f12) = true)
    (z1 : PySem.W.nsIn K mainGlobals "len" = some none)
    (z2 : PySem.W.nsIn K mainGlobals "divmod" = some none)
    (z3 : PySem.W.nsIn K mainGlobals "range" = some none)
    (z4 : PySem.W.nsIn K mainGlobals "sum" = some none)
    (z5 : PySem.W.nsIn K mainGlobals "all" = some none)
    (z6 : PySem.W.nsIn K mainGlobals "any" = some none)
    (z7 : PySem.W.nsIn K mainGlobals "isinstance" = some none)
    (z8 : PySem.W.nsIn K mainGlobals "str" = some none)
    (z9 : PySem.W.nsIn K mainGlobals "int" = some none)
    (z10 : PySem.W.nsIn K mainGlobals "list" = some none)
    (z11 : PySem.W.nsIn K mainGlobals "tuple" = some none)
    (z12 : PySem.W.nsIn K mainGlobals "bool" = some none)
    (z13 : PySem.W.nsIn K mainGlobals "zip" = some none)
    (z14 : PySem.W.nsIn K mainGlobals "set" = some none)
    (z15 : PySem.W.nsIn K mainGlobals "sorted" = some none)
    (z16 : PySem.W.nsIn K mainGlobals "enumerate" = some none)
    (z17 : PySem.W.nsIn K mainGlobals "repr" = some none)
    (z18 : PySem.W.nsIn K mainGlobals "min" = some none)
    (z19 : PySem.W.nsIn K mainGlobals "max" = some none)
    (z20 : PySem.W.nsIn K mainGlobals "abs" = some none)
    (hC : PySem.W.nsIn K mainGlobals "NoSuch" = some (some (.ref CN)))
    (hH : PySem.W.nsIn K mainGlobals "HallError" = some (some (.ref cH)))
    (hS : PySem.W.nsIn K mainGlobals "super" = some none)
    (hV : PySem.W.nsIn K mainGlobals "ValueError" = some none)
    (hK : PySem.W.nsIn K mainGlobals "KeyError" = some none)
    (hI : PySem.W.nsIn K mainGlobals "IndexError" = some none)
    (hL : PySem.W.nsIn K mainGlobals "LookupError" = some none)
    (xI : PySem.W.excInitIn K CN leTail "LookupError.__new__" = true)
    (x1 : PySem.W.findIn K (.ref CN) "__setattr__" = some (some (.builtin "object.__setattr__")))
    (bC : PySem.W.subIn K (.ref CN) (.type "BaseException") = some true)
    (tC : PySem.W.typeIn K (.ref CN) = some (.type "type"))
    (kC : PySem.W.keepIn K (.ref CN) = true)
    (xc : PySem.W.clsIn K CN = some cdN)
    (xm : cdN.mro = .ref CN :: leTail)
    (sL : PySem.W.subIn K (.ref CN) (.type "LookupError") = some true)
    (s3 : PySem.W.mroIn K CN (.ref CN) = some true)
    (s4 : PySem.W.nsIn K cStatics "thirdparty.any" = some none)
    (s5 : (l.prog.main.scope.names.lookup ("super" : Str)).isSome = false)
    (iN : PySem.W.findIn K (.ref CN) "__init__" = some (some (.ref fI)))
    (tI : PySem.W.typeIn K (.ref fI) = some (.type "function"))
    (wh : PySem.W.findIn K (.ref CN) "what" = some none)
    (na : PySem.W.findIn K (.ref CN) "name" = some none)
    (lI : K.lookup fI = some ⟨ocI, odI, .func (PySem.W.ksFn "__init__" "NoSuch.__init__" (defArgs s_NoSuch) (defBody s_NoSuch) (defScope s_NoSuch) .none kVI dcI pmI anI (.ref cda) ctI cc), slI⟩)
    (cI : PySem.W.codeIn K (.ref cda) "NoSuch.__init__" = true)
    (lc : K.lookup cc = some ⟨clc, cdc, .cell (some (.ref CN)), slc⟩)
    (ld : K.lookup cda = some ⟨ccl, cdd, .fields ws, ccs⟩)
    (w2 : ws[2]? = some (.str file tf))
    (fl : ((l.prog.main.file : Str) == file) = true)
    (e1 : PySem.W.findIn K (.ref CN) "__getattribute__" = some (some (.builtin "BaseException.__getattribute__")))
    (e2 : PySem.W.findIn K (.ref CN) "__getattr__" = some none)
    (e4 : PySem.W.hasDictIn K CN = true)
    (e5 : PySem.W.findIn K (.ref CN) "__class__" = some (some (.builtin "object.__class__")))
    (e6 : PySem.W.specialIn K (.builtin "object.__class__") "__get__" = some (some (.builtin "getset_descriptor.__get__")))
    (e7 : PySem.W.takesIn K (.builtin "object.__class__") = some true)
    (e8 : PySem.W.mroIn K CN (.type "object") = some true)
    (sC : PySem.W.subIn K (.ref CN) (.ref CN) = some true)
    (nH : (Value.ref CN == Value.ref cH) = false)
    (sH : PySem.W.subIn K (.ref CN) (.ref cH) = some false)
    (dH : PySem.W.hasDictIn K cH = true)
    (tH : PySem.W.typeIn K (.ref cH) = some (.type "type"))
    (sV : PySem.W.subIn K (.ref CN) (.type "ValueError") = some false)
    (sK : PySem.W.subIn K (.ref CN) (.type "KeyError") = some false)
    (sI : PySem.W.subIn K (.ref CN) (.type "IndexError") = some false)
    : ∃ fd : FuncData, (∀ (s : Shared) (v : Value), BindsTo s fd ⟨[v], []⟩ [("_law_script", v)]) ∧ ∀ base : Heap, K.In base → base.Ns mainGlobals mg → FnG l.prog w K mg base 7 fa fd ["_law_script"] (spLaw K) := by
  have e := hfa.symm.trans (PySem.W.mg_of X G a12)
  cases e
  have T : Txt mg := ⟨PySem.W.mg_none_of X G z1, PySem.W.mg_none_of X G z2, PySem.W.mg_none_of X G z3, PySem.W.mg_none_of X G z4, PySem.W.mg_none_of X G z5, PySem.W.mg_none_of X G z6, PySem.W.mg_none_of X G z7, PySem.W.mg_none_of X G z8, PySem.W.mg_none_of X G z9, PySem.W.mg_none_of X G z10, PySem.W.mg_none_of X G z11, PySem.W.mg_none_of X G z12, PySem.W.mg_none_of X G z13, PySem.W.mg_none_of X G z14, PySem.W.mg_none_of X G z15, PySem.W.mg_none_of X G z16, PySem.W.mg_none_of X G z17, PySem.W.mg_none_of X G z18, PySem.W.mg_none_of X G z19, PySem.W.mg_none_of X G z20⟩
  have F1 := fun_mk (st := s_colour_row) l1 c1 k1
  have b1 := F1.binds (ps := ["palette", "colour"]) fun _ _ _ _ _ _ us hl => match us, hl with | [_, _], _ => rfl
  have g1 := PySem.W.mg_of X G a1
  have F2 := fun_mk (st := s_wash_for) l2 c2 k2
  have b2 := F2.binds (ps := ["palette", "ahead", "behind"]) fun _ _ _ _ _ _ us hl => match us, hl with | [_, _, _], _ => rfl
  have g2 := PySem.W.mg_of X G a2
  have F3 : FunV K "ready_at" s_ready_at [.int 0] f3 _ := ⟨⟨_, _, _, _, _, _, _, _, _, _, rfl, l3, c3, .inr ⟨(by intro z; cases z), T3, _, [_], _, rfl, t3, rfl, .cons (⟨_, rfl⟩) (.nil)⟩, .inl rfl⟩, k3⟩
  obtain ⟨ds3_0, v3_0, b3_0⟩ := FunD.binds1 (ps := ["palette", "colour", "at"]) F3 3 1 (by intro z; cases z) rfl (fun T kV doc pm an cdv ct us its hu hi => match us, hu, its, hi with | [_, _, _], _, [_], _ => ⟨_, rfl, rfl⟩)
  obtain ⟨ds3_1, v3_1, b3_1⟩ := FunD.binds1 (ps := ["palette", "colour", "at"]) F3 2 0 (by intro z; cases z) rfl (fun T kV doc pm an cdv ct us its hu hi => match us, hu, its, hi with | [_, _], _, [_], _ => ⟨_, rfl, rfl⟩)
  have g3 := PySem.W.mg_of X G a3
  have F4 := fun_mk (st := s__law_begin) l4 c4 k4
  have b4 := F4.binds (ps := ["_law_script"]) fun _ _ _ _ _ _ us hl => match us, hl with | [_], _ => rfl
  have g4 := PySem.W.mg_of X G a4
  have F5 := fun_mk (st := s__law_take) l5 c5 k5
  have b5 := F5.binds (ps := ["_law_state", "_law_many"]) fun _ _ _ _ _ _ us hl => match us, hl with | [_, _], _ => rfl
  have g5 := PySem.W.mg_of X G a5
  have F6 := fun_mk (st := s__law_names) l6 c6 k6
  have b6 := F6.binds (ps := ["_law_state", "_law_many"]) fun _ _ _ _ _ _ us hl => match us, hl with | [_, _], _ => rfl
  have g6 := PySem.W.mg_of X G a6
  have F7 := fun_mk (st := s__law_palette) l7 c7 k7
  have b7 := F7.binds (ps := ["_law_state", "_law_names_here"]) fun _ _ _ _ _ _ us hl => match us, hl with | [_, _], _ => rfl
  have g7 := PySem.W.mg_of X G a7
  have F8 := fun_mk (st := s__law_same) l8 c8 k8
  have b8 := F8.binds (ps := ["_law_found", "_law_due"]) fun _ _ _ _ _ _ us hl => match us, hl with | [_, _], _ => rfl
  have g8 := PySem.W.mg_of X G a8
  have F9 := fun_mk (st := s__law_told) l9 c9 k9
  have b9 := F9.binds (ps := ["_law_which", "_law_palette_here", "_law_ahead", "_law_behind"]) fun _ _ _ _ _ _ us hl => match us, hl with | [_, _, _, _], _ => rfl
  have g9 := PySem.W.mg_of X G a9
  have F10 := fun_mk (st := s__law_wash) l10 c10 k10
  have b10 := F10.binds (ps := ["_law_palette_here", "_law_ahead", "_law_behind"]) fun _ _ _ _ _ _ us hl => match us, hl with | [_, _, _], _ => rfl
  have g10 := PySem.W.mg_of X G a10
  have F11 := fun_mk (st := s__law_strange_right) l11 c11 k11
  have b11 := F11.binds (ps := ["_law_palette_here", "_law_names_here", "_law_strange"]) fun _ _ _ _ _ _ us hl => match us, hl with | [_, _, _], _ => rfl
  have g11 := PySem.W.mg_of X G a11
  have F12 := fun_mk (st := s_law) l12 c12 k12
  refine ⟨PySem.W.fnOf "law" "law" (defArgs s_law) (defBody s_law) (defScope s_law) .none kV12 dc12 pm12 an12 cd12 ct12, fun s v => .of_eq rfl, fun base _ _ => ?_⟩
  have N : NsK l.prog K mg CN fI := ⟨PySem.W.mg_of X G hC, ⟨oex_of xI e4, x1, bC, tC, kC⟩, ⟨PySem.W.kxs_LookupError, super_le xc xm, sL, s3, s4, PySem.W.mg_none_of X G hS, s5⟩, iN, tI, wh, na⟩
  have FS : RSup.FunS l.prog K "__init__" "NoSuch.__init__" s_NoSuch fI CN _ := ⟨⟨_, _, _, _, _, _, _, _, _, _, _, _, _, _, _, _, _, _, _, rfl, lI, cI, lc, ld, w2, fl⟩⟩
  have R : NsR l.prog w K mg base 1 CN := ⟨fI, _, N, ok_ns (k := 0) FS N, binds_ns FS⟩
  have O : Oth3 K mg CN cH := ⟨PySem.W.mg_of X G hC, PySem.W.mg_of X G hH, PySem.W.mg_none_of X G hV, PySem.W.mg_none_of X G hK, PySem.W.mg_none_of X G hI, PySem.W.mg_none_of X G hL, PySem.W.exm_ref bC e4 tC sC, ⟨e1, e2, bC, e4, e5, e6, e7, e8⟩, ⟨e1, e2, bC, e4⟩, wh, na, kit_four (kit_subc nH dH tH sH) (kit_tyb (by decide +kernel) sV) (kit_tyb (by decide +kernel) sK) (kit_tyb (by decide +kernel) sI), kit_tyb (by decide +kernel) sL⟩
  have c_col : ClX l.prog w K mg base 3 "colour_row" (spColX K CN) := ⟨_, _, _, ok_colX (k := 0) F1 R, g1, F1.kp, b1⟩
  have c_wash : ClX l.prog w K mg base 4 "wash_for" (spWashX K CN) := ⟨_, _, _, ok_washX (k := 0) F2 c_col, g2, F2.kp, b2⟩
  have c_ready : ClX l.prog w K mg base 4 "ready_at" (spReadyX K CN) := ⟨_, _, _, ok_readyX (k := 0) F3 c_col, g3, F3.kp, by have z := b3_0; cases v3_0; exact z⟩
  have d_ready : ClDX l.prog w K mg base 4 "ready_at" [.int 0] (spReadyX K CN) := ⟨_, _, _, _, ok_readyX (k := 0) F3 c_col, g3, F3.kp, b3_1, v3_1⟩
  have c_take : Cl l.prog w K mg base 1 "_law_take" spTake := ⟨_, _, _, ok_take F5 T, g5, F5.kp, b5⟩
  have c_takeK : Cl l.prog w K mg base 1 "_law_take" spTakeK := c_take.imp fun vs H Q E h => by
    obtain ⟨d, c, m, n, e, h1, h2, h3, h4, q⟩ := h
    exact ⟨d, c, m, n, e, h1, h2, h3, h4, fun H' r a b st k => q H' r a b st (sm_kp k)⟩
  have c_told : Cl l.prog w K mg base 5 "_law_told" (spTold3 K) := ⟨_, _, _, ok_told3 (k := 0) F9 T O c_col c_wash d_ready, g9, F9.kp, b9⟩
  have c_same : Cl l.prog w K mg base 5 "_law_same" (spSame K 4) := ⟨_, _, _, ok_same F8 T b8 g8 4, g8, F8.kp, b8⟩
  exact ok_law (k := 0) F12 T ⟨_, _, _, ok_begin F4 T, g4, F4.kp, b4⟩ c_take ⟨_, _, _, ok_names F6 T c_take, g6, F6.kp, b6⟩ ⟨_, _, _, ok_palette F7 T c_takeK, g7, F7.kp, b7⟩ c_same ⟨_, _, _, ok_lwash F10, g10, F10.kp, b10⟩ c_told ⟨_, _, _, ok_strange (k := 0) F11 T c_told c_same, g11, F11.kp, b11⟩ c_col c_ready d_ready
end Pot
open PySem PySem.W PyProof.Rows
set_option maxRecDepth 100000 in
set_option maxHeartbeats 0 in
theorem PySem.Challenge.cw_potround_k03_colours_washes_and_ready_ho_holds : PySem.Challenge.rw_potround_k03_colours_washes_and_ready_ho.Holds := by
  w_on; o_law; k_head; (case hw => w_witness2)
  k_fill
  refine Pot.walkG (l := PySem.Challenge.rw_potround_k03_colours_washes_and_ready_ho) (n := 63) (k := 7) (x := "_law_script") (sp := fun w => Pot.spLaw _) rfl (by decide) rfl ⟨rfl, by decide, by decide⟩ (fun w h Y => PySem.W.kIn_of Y) ?F (fun _ _ a ns hl _ hS => ⟨a, ns, rfl, hS, hl, fun _ => rfl⟩)
  case F =>
    intro w mg fa h KX G hmg
    refine' Pot.all_mk KX G hmg ?a1 ?l1 ?c1 ?k1 ?a2 ?l2 ?c2 ?k2 ?a3 ?l3 ?c3 ?k3 ?t3 ?a4 ?l4 ?c4 ?k4 ?a5 ?l5 ?c5 ?k5 ?a6 ?l6 ?c6 ?k6 ?a7 ?l7 ?c7 ?k7 ?a8 ?l8 ?c8 ?k8 ?a9 ?l9 ?c9 ?k9 ?a10 ?l10 ?c10 ?k10 ?a11 ?l11 ?c11 ?k11 ?a12 ?l12 ?c12 ?k12 ?z1 ?z2 ?z3 ?z4 ?z5 ?z6 ?z7 ?z8 ?z9 ?z10 ?z11 ?z12 ?z13 ?z14 ?z15 ?z16 ?z17 ?z18 ?z19 ?z20 ?hC ?hH ?hS ?hV ?hK ?hI ?hL ?xI ?x1 ?bC ?tC ?kC ?xc ?xm ?sL ?s3 ?s4 ?s5 ?iN ?tI ?wh ?na ?lI ?cI ?lc ?ld ?w2 ?fl ?e1 ?e2 ?e4 ?e5 ?e6 ?e7 ?e8 ?sC ?nH ?sH ?dH ?tH ?sV ?sK ?sI
    (case a1 => k_is)
    (case l1 => k_is)
    (case c1 => k_is)
    (case k1 => k_is)
    (case a2 => k_is)
    (case l2 => k_is)
    (case c2 => k_is)
    (case k2 => k_is)
    (case a3 => k_is)
    (case l3 => k_is)
    (case c3 => k_is)
    (case k3 => k_is)
    (case t3 => k_is)
    (case a4 => k_is)
    (case l4 => k_is)
    (case c4 => k_is)
    (case k4 => k_is)
    (case a5 => k_is)
    (case l5 => k_is)
    (case c5 => k_is)
    (case k5 => k_is)
    (case a6 => k_is)
    (case l6 => k_is)
    (case c6 => k_is)
    (case k6 => k_is)
    (case a7 => k_is)
    (case l7 => k_is)
    (case c7 => k_is)
    (case k7 => k_is)
    (case a8 => k_is)
    (case l8 => k_is)
    (case c8 => k_is)
    (case k8 => k_is)
    (case a9 => k_is)
    (case l9 => k_is)
    (case c9 => k_is)
    (case k9 => k_is)
    (case a10 => k_is)
    (case l10 => k_is)
    (case c10 => k_is)
    (case k10 => k_is)
    (case a11 => k_is)
    (case l11 => k_is)
    (case c11 => k_is)
    (case k11 => k_is)
    (case a12 => k_is)
    (case l12 => k_is)
    (case c12 => k_is)
    (case k12 => k_is)
    (case z1 => k_is)
    (case z2 => k_is)
    (case z3 => k_is)
    (case z4 => k_is)
    (case z5 => k_is)
    (case z6 => k_is)
    (case z7 => k_is)
    (case z8 => k_is)
    (case z9 => k_is)
    (case z10 => k_is)
    (case z11 => k_is)
    (case z12 => k_is)
    (case z13 => k_is)
    (case z14 => k_is)
    (case z15 => k_is)
    (case z16 => k_is)
    (case z17 => k_is)
    (case z18 => k_is)
    (case z19 => k_is)
    (case z20 => k_is)
    (case hC => k_is)
    (case hH => k_is)
    (case hS => k_is)
    (case hV => k_is)
    (case hK => k_is)
    (case hI => k_is)
    (case hL => k_is)
    (case xI => first | k_is | k_exc | kx_is)
    (case x1 => k_is)
    (case bC => k_is)
    (case tC => k_is)
    (case kC => k_is)
    (case xc => k_is)
    (case xm => first | rfl | k_is)
    (case sL => k_is)
    (case s3 => k_is)
    (case s4 => k_is)
    (case s5 => first | rfl | decide +kernel | k_is)
    (case iN => k_is)
    (case tI => k_is)
    (case wh => k_is)
    (case na => k_is)
    (case lI => k_is)
    (case cI => k_is)
    (case lc => k_is)
    (case ld => k_is)
    (case w2 => first | rfl | k_is)
    (case fl => first | rfl | decide +kernel | k_is)
    (case e1 => k_is)
    (case e2 => k_is)
    (case e4 => k_is)
    (case e5 => k_is)
    (case e6 => k_is)
    (case e7 => k_is)
    (case e8 => k_is)
    (case sC => k_is)
    (case nH => first | rfl | decide)
    (case sH => k_is)
    (case dH => k_is)
    (case tH => k_is)
    (case sV => k_is)
    (case sK => k_is)
    (case sI => k_is)
