import PyProof.Rows.All
import Wide.All
import OpenK.AllK
import Wide.FinOn
import KE.KStateDown
import KE.DataMinMax
import KE.DatumOrd
import HandS.SortKw
import HandS.ForMost
import HandS.Property
import HandS.MakeKw
import HandS.FStr
import HandS.Star
import HandS.OwnEq
import HandS.IsInst
import HandS.Codes
import HandS.More
import HandS.Flow
import HandS.RaiseMore
import HandS.Defaults
import HandS.Style
import HandS.Conv
import HandS.Small
import HandS.Zip
import HandS.Wide
import HandS.Exc
import HandS.WordsExc
import HandS.Head0
import HandS.Head1
import HandS.Head2
import HandS.HeadEnd
import HandS.HeadHook1
import HandS.HeadHook2
import HandS.ClsMeth
import HandS.MakeKwOnly
import HandS.Strs
import HandS.NoneIn
import HandS.Deep
import HandS.DictComp
import HandS.ListItems
import PySem.Challenge.RW_splitplans_k20_steps_with_one_input
import KE.KCallOwn
import KE.GoesZip
import KE.GoesMore
import HandS.Zip0
import HandS.GenList
import HandS.GenYield
import PyProof.ReprLen
import PyProof.Rows.NestShow
import KE.KParD
set_option Elab.async false
set_option linter.all false
set_option maxRecDepth 100000
set_option maxHeartbeats 0
/-! ## the head: a Hook that tells every def by its own place in the written part -/
namespace Hd
open PySem PySem.Spec PyProof.Rows L2
abbrev Dn : Type := (PySem.W.Frag → Addr) × He.DefD
def inRec (kind : String) (c m : Str) (K : PySem.W.Frag) : Addr := match PySem.W.recIn K (He.ma K (He.ga K c) m) kind with
  | some (.ref g :: _) => g
  | _ => 0
def dG (x : Str) (st : Stmt) (dfl : List He.Dv) (kw : List (Str × He.Dv)) : Dn := (fun K => He.ga K x, ⟨(x, none), x, x, defArgs st, defBody st, defScope st, dfl, kw⟩)
def dM (c m q : Str) (st : Stmt) (dfl : List He.Dv) (kw : List (Str × He.Dv)) : Dn := (fun K => He.ma K (He.ga K c) m, ⟨(c, some m), m, q, defArgs st, defBody st, defScope st, dfl, kw⟩)
def dR (kind : String) (c m q : Str) (st : Stmt) (dfl : List He.Dv) (kw : List (Str × He.Dv)) : Dn := (fun K => inRec kind c m K, ⟨(c, some m), m, q, defArgs st, defBody st, defScope st, dfl, kw⟩)
/-- the parts of the function object at an address that a def's text fixes -/
def shown (K : PySem.W.Frag) (a : Addr) : He.FnW := (K.lookup a).bind fun o => match o.data with
  | .func f => some (f.name, f.qualname, f.params, f.body, f.scope, f.globals, f.closure, f.builtins)
  | _ => none
def sound (K : PySem.W.Frag) (d : Dn) : Bool := PySem.W.keepIn K (.ref (d.1 K)) && (((K.lookup (d.1 K)).bind fun o => match o.data with
  | .func f => some (PySem.W.codeIn K f.code d.2.qual && (He.dflB K f.defaults (d.2.dvs K) && He.kwdB K f.kwdefaults (d.2.kws K)))
  | _ => none).getD false)
theorem sound_fun {K : PySem.W.Frag} {d : Dn} (e : shown K (d.1 K) = d.2.val) (c : sound K d = true) :
    ∃ fd, FunD K d.2.name d.2.qual d.2.params d.2.body d.2.scope (d.2.dvs K) (d.2.kws K) (d.1 K) fd := by
  obtain ⟨keep, c2⟩ := Bool.and_eq_true_iff.mp c
  unfold shown at e
  rcases look : K.lookup (d.1 K) with _ | ⟨oc, od, dt, osl⟩
  · rw [look] at e
    cases e
  · rw [look] at e c2
    rcases dt with _ | _ | _ | _ | _ | _ | _ | _ | _ | _ | _ | _ | _
    all_goals first
      | (cases e; done)
      | skip
    all_goals
      rename_i fd
      obtain ⟨m1, m2, m3, m4, m5, m6, m7, m8, m9, m10, m11, m12, m13, m14, m15⟩ := fd
      have e' : (some (m1, m2, m3, m4, m5, m6, m7, m15) : He.FnW) = some (d.2.name, d.2.qual, d.2.params, .stmts d.2.body, d.2.scope, mainGlobals, [], builtinsNs) := e
      simp only [Option.some.injEq, Prod.mk.injEq] at e'
      obtain ⟨rfl, rfl, rfl, rfl, rfl, rfl, rfl, rfl⟩ := e'
      have c3 : (PySem.W.codeIn K m13 d.2.qual && (He.dflB K m8 (d.2.dvs K) && He.kwdB K m9 (d.2.kws K))) = true := c2
      obtain ⟨c4, c5⟩ := Bool.and_eq_true_iff.mp c3
      obtain ⟨c6, c7⟩ := Bool.and_eq_true_iff.mp c5
      exact ⟨_, ⟨oc, od, m8, m9, m10, m11, m12, m13, m14, osl, rfl, look, c4, He.dflB_ok c6, He.kwdB_ok c7⟩, keep⟩
/-! more facts, each a Bool over the written part -/
def propB (c f : Str) (K : PySem.W.Frag) : Bool :=
  He.eqO (PySem.W.findIn K (.ref (He.ga K c)) f) (some (some (.ref (He.ma K (He.ga K c) f)))) && (decide (PySem.W.specialIn K (.ref (He.ma K (He.ga K c) f)) "__get__" = some (some (.builtin "property.__get__"))) &&
    (decide (PySem.W.takesIn K (.ref (He.ma K (He.ga K c) f)) = some true) && (match PySem.W.recIn K (He.ma K (He.ga K c) f) "property" with | some (.ref g :: _) => decide (g = inRec "property" c f K) | _ => false)))
theorem propB_ok {c f : Str} {K : PySem.W.Frag} (h : propB c f K = true) : PropOf K (He.ga K c) f (He.ma K (He.ga K c) f) (inRec "property" c f K) := by
  obtain ⟨h1, h⟩ := Bool.and_eq_true_iff.mp h
  obtain ⟨h2, h⟩ := Bool.and_eq_true_iff.mp h
  obtain ⟨h3, h4⟩ := Bool.and_eq_true_iff.mp h
  refine ⟨He.eqO_ok h1, of_decide_eq_true h2, of_decide_eq_true h3, ?_⟩
  cases e : PySem.W.recIn K (He.ma K (He.ga K c) f) "property" with
  | none => rw [e] at h4; cases h4
  | some l =>
    rw [e] at h4
    cases l with
    | nil => cases h4
    | cons v r =>
      cases v with
      | ref g => exact ⟨r, by rw [of_decide_eq_true h4]⟩
      | _ => cases h4
def insB (c : Str) (K : PySem.W.Frag) : Bool := He.eqO (PySem.W.findIn K (.ref (He.ga K c)) "__class__") (some (some (.builtin "object.__class__"))) &&
  (decide (PySem.W.specialIn K (.builtin "object.__class__") "__get__" = some (some (.builtin "getset_descriptor.__get__"))) && (decide (PySem.W.takesIn K (.builtin "object.__class__") = some true) &&
    (decide (PySem.W.mroIn K (He.ga K c) (.type "object") = some true) && (decide (PySem.W.kitOne K (.ref (He.ga K c)) (.ref (He.ga K c)) = some true) && (PySem.W.notFirst K (He.ga K c) (.ref (He.ga K c)))))))
structure InsF (K : PySem.W.Frag) (C : Addr) : Prop where
  ha : PySem.W.findIn K (.ref C) "__class__" = some (some (.builtin "object.__class__"))
  hn : PySem.W.specialIn K (.builtin "object.__class__") "__get__" = some (some (.builtin "getset_descriptor.__get__"))
  htk : PySem.W.takesIn K (.builtin "object.__class__") = some true
  hm : PySem.W.mroIn K C (.type "object") = some true
  me : PySem.W.kitOne K (.ref C) (.ref C) = some true
  nf : PySem.W.notFirst K C (.ref C) = true
theorem insB_ok {c : Str} {K : PySem.W.Frag} (h : insB c K = true) : InsF K (He.ga K c) := by
  obtain ⟨h1, h⟩ := Bool.and_eq_true_iff.mp h
  obtain ⟨h2, h⟩ := Bool.and_eq_true_iff.mp h
  obtain ⟨h3, h⟩ := Bool.and_eq_true_iff.mp h
  obtain ⟨h4, h⟩ := Bool.and_eq_true_iff.mp h
  obtain ⟨h5, h6⟩ := Bool.and_eq_true_iff.mp h
  exact ⟨He.eqO_ok h1, of_decide_eq_true h2, of_decide_eq_true h3, of_decide_eq_true h4, of_decide_eq_true h5, h6⟩
/-- no value of this built-in type is an instance of the class, none goes first -/
def kitsB (c : Str) (ts : List String) (K : PySem.W.Frag) : Bool := ts.all fun t => decide (PySem.W.kitOne K (.type t) (.ref (He.ga K c)) = some false) && PySem.W.notFirst K (He.ga K c) (.type t)
theorem kitsB_ok {c : Str} {ts : List String} {K : PySem.W.Frag} (h : kitsB c ts K = true) {t : String} (ht : t ∈ ts) : PySem.W.kitOne K (.type t) (.ref (He.ga K c)) = some false ∧ PySem.W.notFirst K (He.ga K c) (.type t) = true := by
  obtain ⟨h1, h2⟩ := Bool.and_eq_true_iff.mp (List.all_eq_true.mp h t ht)
  exact ⟨of_decide_eq_true h1, h2⟩
def attB (c m : Str) (v : Value) (K : PySem.W.Frag) : Bool := He.eqO (PySem.W.findIn K (.ref (He.ga K c)) m) (some (some v))
abbrev Al : Type := Bool × List He.FnW
def seenBy (fa : List He.Fa) (ex : PySem.W.Frag → Bool) (fn : List Dn) (K : PySem.W.Frag) : Al := ((fa.all fun f => f.ok K) && (ex K && fn.all fun d => sound K d), fn.map fun d => shown K (d.1 K))
def wanted (fn : List Dn) : Al := (true, fn.map fun d => d.2.val)
def Says (fa : List He.Fa) (ex : PySem.W.Frag → Bool) (fn : List Dn) (K : PySem.W.Frag) : Prop := seenBy fa ex fn K = wanted fn
def atHeap (n : Nat) (fa : List He.Fa) (ex : PySem.W.Frag → Bool) (fn : List Dn) (g : Addr → Option Obj) : Al := seenBy fa ex fn (He.frG g (cStatics :: He.asD g n))
def hook (n : Nat) (fa : List He.Fa) (ex : PySem.W.Frag → Bool) (fn : List Dn) : PySem.W.Hook where
  α := Al
  obs := fun s => atHeap n fa ex fn s.heap.get?
  val := fun _ => wanted fn
  says := fun _ h => ∃ K : PySem.W.Frag, K.In h ∧ Says fa ex fn K
  of := fun _ _ e => ⟨_, He.frG_in, e⟩
  keeps := fun _ _ _ ⟨K, hK, c⟩ k => ⟨K, PySem.W.Frag.In.keeps hK k, c⟩
theorem at_eq {n : Nat} {fa : List He.Fa} {ex : PySem.W.Frag → Bool} {fn : List Dn} {g : Addr → Option Obj} {s : Shared} (h : ∀ a, g a = s.heap.get? a) : atHeap n fa ex fn g = (hook n fa ex fn).obs s := by
  obtain rfl : g = s.heap.get? := funext h
  rfl
section
variable {fa : List He.Fa} {ex : PySem.W.Frag → Bool} {fn : List Dn} {K : PySem.W.Frag}
theorem Says.fst (c : Says fa ex fn K) : ((fa.all fun f => f.ok K) && (ex K && fn.all fun d => sound K d)) = true := congrArg (fun z : Al => z.1) c
theorem Says.fact (c : Says fa ex fn K) {f : He.Fa} (h : f ∈ fa) : f.ok K = true := List.all_eq_true.mp (Bool.and_eq_true_iff.mp c.fst).1 f h
theorem Says.more (c : Says fa ex fn K) : ex K = true := (Bool.and_eq_true_iff.mp (Bool.and_eq_true_iff.mp c.fst).2).1
theorem Says.fun_ (c : Says fa ex fn K) (i : Nat) {d : Dn} (h : fn[i]? = some d) : ∃ fd, FunD K d.2.name d.2.qual d.2.params d.2.body d.2.scope (d.2.dvs K) (d.2.kws K) (d.1 K) fd := by
  have all := List.all_eq_true.mp (Bool.and_eq_true_iff.mp (Bool.and_eq_true_iff.mp c.fst).2).2 d (List.mem_of_getElem? h)
  have e : fn.map (fun d => shown K (d.1 K)) = fn.map fun d => d.2.val := congrArg (fun z : Al => z.2) c
  have e2 : (fn.map fun d => shown K (d.1 K))[i]? = (fn.map fun d => d.2.val)[i]? := by rw [e]
  rw [List.getElem?_map, List.getElem?_map, h] at e2
  exact sound_fun (Option.some.inj e2) all
end
end Hd
namespace Hd
open PySem PySem.Spec PyProof.Rows L2
def cmB (c m : Str) (K : PySem.W.Frag) : Bool := PySem.W.readsIn K (He.ga K c) (.type "type") && (He.eqO (PySem.W.specialIn K (.ref (He.ga K c)) "__getattribute__") (some (some (.builtin "type.__getattribute__"))) &&
  ((match PySem.W.findCls K (.ref (He.ga K c)) (.type "type") m with | some (.get (.builtin a) (.ref p) .none (.ref C)) => decide (a = "classmethod.__get__") && (decide (p = He.ma K (He.ga K c) m) && decide (C = He.ga K c)) | _ => false) &&
    ((match PySem.W.recIn K (He.ma K (He.ga K c) m) "classmethod" with | some (.ref g :: _) => decide (g = inRec "classmethod" c m K) | _ => false) && PySem.W.fnIn K (inRec "classmethod" c m K))))
theorem cmB_ok {c m : Str} {K : PySem.W.Frag} (h : cmB c m K = true) : ClX.CRead K (He.ga K c) (.type "type") ∧ ClX.CMet K (He.ga K c) (.type "type") m (He.ma K (He.ga K c) m) (inRec "classmethod" c m K) := by
  obtain ⟨h1, h⟩ := Bool.and_eq_true_iff.mp h
  obtain ⟨h2, h⟩ := Bool.and_eq_true_iff.mp h
  obtain ⟨h3, h⟩ := Bool.and_eq_true_iff.mp h
  obtain ⟨h4, h5⟩ := Bool.and_eq_true_iff.mp h
  refine ⟨⟨h1, He.eqO_ok h2⟩, ⟨?_, ?_, h5⟩⟩
  · cases e : PySem.W.findCls K (.ref (He.ga K c)) (.type "type") m with
    | none => rw [e] at h3; cases h3
    | some r =>
      rw [e] at h3
      cases r with
      | get a b d f =>
        cases a <;> try (cases h3; done)
        cases b <;> try (cases h3; done)
        cases d <;> try (cases h3; done)
        cases f <;> try (cases h3; done)
        obtain ⟨q1, q⟩ := Bool.and_eq_true_iff.mp h3
        obtain ⟨q2, q3⟩ := Bool.and_eq_true_iff.mp q
        rw [of_decide_eq_true q1, of_decide_eq_true q2, of_decide_eq_true q3]
      | val v => cases h3
  · cases e : PySem.W.recIn K (He.ma K (He.ga K c) m) "classmethod" with
    | none => rw [e] at h4; cases h4
    | some l =>
      rw [e] at h4
      cases l with
      | nil => cases h4
      | cons v r =>
        cases v with
        | ref g => exact ⟨r, by rw [of_decide_eq_true h4]⟩
        | _ => cases h4
end Hd
namespace Hd
open PySem PySem.Spec PyProof.Rows L2
/-- the default of a keyword-only parameter, if it is an object -/
def kwAt (f : Str × Option Str) (x : Str) (K : PySem.W.Frag) : Addr := match K.lookup (He.fAd K f) with
  | some ⟨_, _, .func fd, _⟩ => (match fd.kwdefaults with
    | .ref t => (match PySem.W.nsIn K t x with
      | some (some (.ref b)) => b
      | _ => 0)
    | _ => 0)
  | _ => 0
/-- the i-th thing of a tuple, if it is an object -/
def itAt (x : Str) (i : Nat) (K : PySem.W.Frag) : Addr := match K.lookup (He.ga K x) with
  | some ⟨_, _, .seq its _, _⟩ => (match its.toList[i]? with
    | some (.ref b) => b
    | _ => 0)
  | _ => 0
/-- a tuple of the written part, by its place -/
def tupAtB (K : PySem.W.Frag) (a : Addr) (vs : List V) : Bool := match K.lookup a with
  | some ⟨.type c, _, .seq its _, _⟩ => decide (c = "tuple") && (decide (its.size ≤ sizeLine) && He.relAll vs its.toList)
  | _ => false
theorem tupAtB_ok {K : PySem.W.Frag} {a : Addr} {vs : List V} (h : tupAtB K a vs = true) (H : Hp) : SqT K H a vs := by
  unfold tupAtB at h
  split at h
  · rename_i q
    obtain ⟨h1, h2⟩ := Bool.and_eq_true_iff.mp h
    obtain ⟨h3, h4⟩ := Bool.and_eq_true_iff.mp h2
    exact .inr ⟨_, _, _, q, congrArg Value.type (of_decide_eq_true h1), rfl, of_decide_eq_true h3, He.relAll_ok h4⟩
  · cases h
end Hd
/-! ## short words over the layer -/
namespace Bs
open PySem PySem.Spec PyProof.Rows L2
variable {P : Program} {w : World} {K : PySem.W.Frag} {mg : Str → Option Value} {base : Heap}
/-- a promise's def, called by its name, no defaults asked -/
theorem mkCal {nm qual x : Str} {par : Arguments} {bd : List Stmt} {sco : Scope} {N ps : List Str} {k : Nat} {sp : Sp} {kws : List (Str × V)} {dvs dvs' : List V} {ds : List Value} {a : Addr} {fd : FuncData}
    (F : FunD K nm qual par bd sco dvs' kws a fd) (hm : mg x = some (.ref a)) (b : Binds K fd ps ds) (v : Vals dvs ds) (S : FnScope N ps sco) (len : ∀ vs H Q E, sp vs H Q E → vs.length = ps.length)
    (body : ∀ (cdv : Value) (A : Around) (outer : List Env) (s : Shared) (H : Hp) (vs : List V) (Q : VK) (E : XK), Room k (A.deeper (envOfC qual sco s.heap.objs.size a cdv)) → sp vs H Q E →
      ∃ t, PSs (cxOf C8.CX0 P w K mg base N qual sco a cdv A outer s H E).nox bd t ∧ t { nx := fun _ H' => Q .non H', rt := Q } (start N vs) H) : C8.Cal P w K mg base (k + 1) x sp dvs :=
  ⟨a, fd, ps, ds, F.ok S len fun cdv A outer s H vs Q E hr h => let ⟨t, h1, h2⟩ := body cdv A outer s H vs Q E hr h
    ⟨t, h1.nox, h2⟩, hm, F.kp, b, v⟩
theorem Cal.mono {j k : Nat} {x : Str} {sp : Sp} {dvs : List V} (c : C8.Cal P w K mg base j x sp dvs) (h : j ≤ k) : C8.Cal P w K mg base k x sp dvs := by
  obtain ⟨f, fd, ps, ds, F, r⟩ := c.ex
  exact ⟨f, fd, ps, ds, F.mono h, r⟩
/-- all is kept but what stands at p -/
def Kp (p : Addr) (H H' : Hp) : Prop := ∀ b o, H b = some o → b ≠ p → H' b = some o
theorem Kp.refl (p : Addr) (H : Hp) : Kp p H H := fun _ _ e _ => e
theorem Kp.trans {p : Addr} {H H1 H2 : Hp} (a : Kp p H H1) (b : Kp p H1 H2) : Kp p H H2 := fun c o e n => b c o (a c o e n) n
theorem Kp.of {p : Addr} {H H' : Hp} (a : Same H H') : Kp p H H' := fun c o e _ => a c o e
theorem Kp.upd {p : Addr} {H : Hp} {o : HO} : Kp p H (upd H p o) := fun c u e n => by rw [upd_ne n]; exact e
theorem Kp.new {p q : Addr} {H H' : Hp} {o : HO} (a : Kp p H H') (hq : H' q = none) : Kp p H (L2.upd H' q o) := fun c u e n => by rw [upd_ne (ne_of_none (a c u e n) hq)]; exact a c u e n
theorem Kp.put {p : Addr} {H H' : Hp} {o : HO} (a : Kp p H H') : Kp p H (L2.upd H' p o) := fun c u e n => by rw [upd_ne n]; exact a c u e n
/-- a step at an address that was free when the count began -/
theorem Kp.loc {p q : Addr} {H H' : Hp} {o : HO} (a : Kp p H H') (hq : H q = none) : Kp p H (L2.upd H' q o) := fun c u e n => by rw [upd_ne (ne_of_none e hq)]; exact a c u e n
theorem Same.new {q : Addr} {H H' : Hp} {o : HO} (a : Same H H') (hq : H' q = none) : Same H (L2.upd H' q o) := fun c u e => by rw [upd_ne (ne_of_none (a c u e) hq)]; exact a c u e
theorem Same.loc {q : Addr} {H H' : Hp} {o : HO} (a : Same H H') (hq : H q = none) : Same H (L2.upd H' q o) := fun c u e => by rw [upd_ne (ne_of_none e hq)]; exact a c u e
theorem SqL.kp {p a : Addr} {H H' : Hp} {xs : List V} (h : SqL K H a xs) (k : Kp p H H') (n : ∀ o, H a = some o → a ≠ p) : SqL K H' a xs := by
  rcases h with (h | ⟨o, h⟩) | h
  · exact .inl (.inl (k a _ h (n _ h)))
  · exact .inl (.inr ⟨o, k a _ h (n _ h)⟩)
  · exact .inr h
theorem SqT.kp {p a : Addr} {H H' : Hp} {xs : List V} (h : SqT K H a xs) (k : Kp p H H') (n : ∀ o, H a = some o → a ≠ p) : SqT K H' a xs := by
  rcases h with (h | ⟨o, h⟩) | h
  · exact .inl (.inl (k a _ h (n _ h)))
  · exact .inl (.inr ⟨o, k a _ h (n _ h)⟩)
  · exact .inr h
/-- the pen's dict: the script, the place of the next cell, what is left of a large one -/
def penD (a : Addr) (i l : Int) : HO := .dK [(Sum.inr "script", .ref a), (Sum.inr "at", .int i), (Sum.inr "left", .int l)]
/-- a locked list: nothing that runs changes it -/
def Fz (K : PySem.W.Frag) (H : Hp) (a : Addr) (xs : List V) : Prop := (∃ o, H a = some (.frz o (.lst xs))) ∨ ∀ H' : Hp, SqL K H' a xs
theorem Fz.sq {H : Hp} {a : Addr} {xs : List V} (h : Fz K H a xs) : SqL K H a xs := by
  rcases h with ⟨o, h⟩ | h
  · exact .inl (.inr ⟨o, h⟩)
  · exact h H
theorem Fz.to {H H' : Hp} {a : Addr} {xs : List V} (h : Fz K H a xs) (k : ∀ o u, H a = some (.frz o u) → H' a = some (.frz o u)) : Fz K H' a xs := by
  rcases h with ⟨o, h⟩ | h
  · exact .inl ⟨o, k _ _ h⟩
  · exact .inr h
theorem Fz.only {H : Hp} {a : Addr} {xs : List V} (o : Only H) (h : SqL K H a xs) : Fz K H a xs := by
  rcases h with (h | h) | h
  · rcases o a with e | ⟨_, _, e⟩
    · rw [e] at h; cases h
    · rw [e] at h; cases h
  · exact .inl h
  · exact .inr fun _ => .inr h
/-- what is at q is no locked thing -/
def Loose (H : Hp) (q : Addr) : Prop := ∀ o u, H q ≠ some (.frz o u)
theorem Loose.nil {H : Hp} {q : Addr} (h : H q = none) : Loose H q := fun o u e => by rw [h] at e; cases e
theorem Loose.lst {H : Hp} {q : Addr} {xs : List V} (h : H q = some (.lst xs)) : Loose H q := fun o u e => by rw [h] at e; cases e
theorem Loose.dK {H : Hp} {q : Addr} {xs : List (Key × V)} (h : H q = some (.dK xs)) : Loose H q := fun o u e => by rw [h] at e; cases e
theorem Fz.upd {H : Hp} {q a : Addr} {xs : List V} {u : HO} (h : Fz K H a xs) (l : Loose H q) : Fz K (L2.upd H q u) a xs :=
  h.to fun o v e => by rw [upd_ne (fun z => l o v (by rw [← z]; exact e))]; exact e
/-- a pen at p that has drawn at most n cells -/
def Pen (K : PySem.W.Frag) (H : Hp) (p : Addr) (n : Nat) : Prop := ∃ (a : Addr) (ns : List Int) (i l : Int), H p = some (penD a i l) ∧ Fz K H a (ns.map V.int) ∧ ns.length ≤ 63 ∧ 0 ≤ i ∧ i ≤ n ∧ 0 ≤ l
theorem Pen.mono {H : Hp} {p : Addr} {n m : Nat} (h : Pen K H p n) (l : n ≤ m) : Pen K H p m := by
  obtain ⟨a, ns, i, q, h1, h2, h3, h4, h5, h6⟩ := h
  exact ⟨a, ns, i, q, h1, h2, h3, h4, by omega, h6⟩
theorem Fz.kpen {H H' : Hp} {p a : Addr} {i l : Int} {b : Addr} {xs : List V} (h : H p = some (penD a i l)) (s : Fz K H b xs) (k : Kp p H H') : Fz K H' b xs :=
  s.to fun o u e => k b _ e (ne_of e h (by intro z; cases z))
/-- other objects are made or changed, the pen is not -/
theorem Pen.same {H H' : Hp} {p : Addr} {n : Nat} (h : Pen K H p n) (k : Same H H') : Pen K H' p n := by
  obtain ⟨a, ns, i, q, h1, h2, h3, h4, h5, h6⟩ := h
  exact ⟨a, ns, i, q, k _ _ h1, h2.to fun _ _ e => k _ _ e, h3, h4, h5, h6⟩
theorem Pen.upd {H : Hp} {p q : Addr} {n : Nat} {o : HO} (h : Pen K H p n) (hq : H q = none) : Pen K (L2.upd H q o) p n := h.same (Same.new (Same.refl H) hq)
theorem Pen.put {H : Hp} {p q : Addr} {n : Nat} {o : HO} {xs : List V} (h : Pen K H p n) (hq : H q = .some (.lst xs)) : Pen K (L2.upd H q o) p n := by
  obtain ⟨a, ns, i, l, h1, h2, h3, h4, h5, h6⟩ := h
  exact ⟨a, ns, i, l, by rw [upd_ne (ne_of h1 hq (by intro z; cases z))]; exact h1, h2.upd (Loose.lst hq), h3, h4, h5, h6⟩
theorem Kp.free {p D : Addr} {H H' : Hp} (k : Kp p H H') (h : H' D = none) (hp : H' p ≠ none) : H D = none := by
  have ne : D ≠ p := fun q => hp (by rw [← q]; exact h)
  cases e : H D with
  | none => rfl
  | some o => rw [k D o e ne] at h; cases h
theorem Pen.ne {H : Hp} {p D : Addr} {n : Nat} (h : Pen K H p n) (e : H D = none) : D ≠ p := by
  obtain ⟨_, _, _, _, hp, _⟩ := h
  exact (ne_of_none hp e).symm
theorem Pen.there {H : Hp} {p : Addr} {n : Nat} (h : Pen K H p n) : H p ≠ none := by
  obtain ⟨_, _, _, _, hp, _⟩ := h
  rw [hp]
  exact fun q => by cases q
theorem Pen.nel {H : Hp} {p D : Addr} {n : Nat} {xs : List V} (h : Pen K H p n) (e : H D = .some (.lst xs)) : D ≠ p := by
  obtain ⟨_, _, _, _, hp, _⟩ := h
  exact ne_of e hp (by intro z; cases z)
theorem Pen.net {H : Hp} {p D : Addr} {n : Nat} {xs : List V} (h : Pen K H p n) (e : H D = .some (.tup xs)) : D ≠ p := by
  obtain ⟨_, _, _, _, hp, _⟩ := h
  exact ne_of e hp (by intro z; cases z)
theorem script_ne : ¬ (("script" : Str) = "at") ∧ ¬ (("script" : Str) = "left") ∧ ¬ (("at" : Str) = "left") ∧ ¬ (("at" : Str) = "script") ∧ ¬ (("left" : Str) = "script") ∧ ¬ (("left" : Str) = "at") := by decide +kernel
theorem atI_of {α : Type} {xs : List α} {k : Int} (h0 : 0 ≤ k) (h1 : k < (xs.length : Nat)) : ∃ v, atI xs k = some v ∧ v ∈ xs ∧ xs[k.toNat]? = some v := by
  have hk : k.toNat < xs.length := by omega
  have ek : k = ((k.toNat : Nat) : Int) := by omega
  refine ⟨xs[k.toNat], ?_, List.getElem_mem hk, List.getElem?_eq_getElem hk⟩
  have z : atI xs ((k.toNat : Nat) : Int) = some xs[k.toNat] := atI_nat (List.getElem?_eq_getElem hk)
  rw [← ek] at z
  exact z
theorem atI_int {ns : List Int} {k : Int} (h0 : 0 ≤ k) (h1 : k < (ns.length : Nat)) : ∃ v : Int, atI (ns.map V.int) k = some (.int v) ∧ v ∈ ns := by
  obtain ⟨x, e, hx, _⟩ := atI_of (xs := ns.map V.int) h0 (by rw [List.length_map]; exact h1)
  obtain ⟨v, hv, rfl⟩ := List.mem_map.mp hx
  exact ⟨v, e, hv⟩
end Bs
namespace Pf
open PySem PySem.Spec PyProof.Rows L2
def top (i : Nat) : Stmt := PySem.Challenge.pw_splitplans_k20_steps_with_one_input.main.body.getD i (.Pass ⟨0, 0, 0, 0⟩)
abbrev s_has_twice : Stmt := top 7
abbrev s_is_name : Stmt := top 13
abbrev s_check_where : Stmt := top 21
abbrev s_check_compute : Stmt := top 22
abbrev s_check_equal : Stmt := top 23
abbrev s_check_keep : Stmt := top 24
abbrev s_check_distinct : Stmt := top 25
abbrev s_check_group : Stmt := top 26
abbrev s_check_sorted : Stmt := top 27
abbrev s_check_ruled : Stmt := top 28
abbrev s_check_plain : Stmt := top 30
abbrev s_refuse : Stmt := top 31
abbrev s_has_strange : Stmt := top 32
abbrev s_has_measure : Stmt := top 33
abbrev s_is_sum : Stmt := top 34
abbrev s_Table_init : Stmt := inClass (top 38) 1
abbrev s_Table_eq : Stmt := inClass (top 38) 4
abbrev s_Table_str : Stmt := inClass (top 38) 5
abbrev s_fault_of : Stmt := top 39
abbrev s_are_unlike : Stmt := top 40
abbrev s_is_dealt : Stmt := top 41
abbrev s_row_of : Stmt := top 42
abbrev s_scan : Stmt := top 44
abbrev s_Step_init : Stmt := inClass (top 45) 0
abbrev s_Step_where : Stmt := inClass (top 45) 1
abbrev s_Step_compute : Stmt := inClass (top 45) 2
abbrev s_Step_equal : Stmt := inClass (top 45) 3
abbrev s_Step_keep : Stmt := inClass (top 45) 4
abbrev s_Step_distinct : Stmt := inClass (top 45) 5
abbrev s_Step_group_by : Stmt := inClass (top 45) 6
abbrev s_Step_sort_by : Stmt := inClass (top 45) 7
abbrev s_Step_own_by : Stmt := inClass (top 45) 8
abbrev s_Step_split_by : Stmt := inClass (top 45) 9
abbrev s_Step_broadcast : Stmt := inClass (top 45) 10
abbrev s_Step_gather : Stmt := inClass (top 45) 11
abbrev s_Step_merge_by : Stmt := inClass (top 45) 12
abbrev s_Step_alike : Stmt := inClass (top 45) 17
abbrev s_Step_grouped : Stmt := inClass (top 45) 18
abbrev s_Lpen : Stmt := top 47
abbrev s_Ldraw : Stmt := top 48
abbrev s_Lpick : Stmt := top 49
abbrev s_Lsome : Stmt := top 50
abbrev s_Lnames : Stmt := top 51
abbrev s_Lwhere : Stmt := top 52
abbrev s_Lkeep : Stmt := top 53
abbrev s_Lsort : Stmt := top 54
abbrev s_Lmerge : Stmt := top 55
abbrev s_Lruled : Stmt := top 56
abbrev s_Lcompute : Stmt := top 57
abbrev s_Lgroup : Stmt := top 58
abbrev s_Labove : Stmt := top 59
abbrev s_Lnamed : Stmt := top 60
abbrev s_Lright : Stmt := top 61
abbrev s_law : Stmt := top 62
def d_has_twice : Hd.Dn := Hd.dG "has_twice" s_has_twice [] []
def d_is_name : Hd.Dn := Hd.dG "is_name" s_is_name [] []
def d_check_where : Hd.Dn := Hd.dG "check_where" s_check_where [] []
def d_check_compute : Hd.Dn := Hd.dG "check_compute" s_check_compute [] []
def d_check_equal : Hd.Dn := Hd.dG "check_equal" s_check_equal [] []
def d_check_keep : Hd.Dn := Hd.dG "check_keep" s_check_keep [] []
def d_check_distinct : Hd.Dn := Hd.dG "check_distinct" s_check_distinct [] []
def d_check_group : Hd.Dn := Hd.dG "check_group" s_check_group [] []
def d_check_sorted : Hd.Dn := Hd.dG "check_sorted" s_check_sorted [] []
def d_check_ruled : Hd.Dn := Hd.dG "check_ruled" s_check_ruled [] []
def d_check_plain : Hd.Dn := Hd.dG "_check_plain" s_check_plain [] []
def d_refuse : Hd.Dn := Hd.dG "_refuse" s_refuse [] []
def d_has_strange : Hd.Dn := Hd.dG "_has_strange" s_has_strange [] []
def d_has_measure : Hd.Dn := Hd.dG "_has_measure" s_has_measure [] []
def d_is_sum : Hd.Dn := Hd.dG "_is_sum" s_is_sum [] []
def d_Table_init : Hd.Dn := Hd.dM "Table" "__init__" "Table.__init__" s_Table_init [] [("key", .adr (Hd.kwAt ("Table", some "__init__") "key")), ("lies", .adr (Hd.kwAt ("Table", some "__init__") "lies"))]
def d_Table_eq : Hd.Dn := Hd.dM "Table" "__eq__" "Table.__eq__" s_Table_eq [] []
def d_Table_str : Hd.Dn := Hd.dM "Table" "__str__" "Table.__str__" s_Table_str [] []
def d_fault_of : Hd.Dn := Hd.dG "_fault_of" s_fault_of [] []
def d_are_unlike : Hd.Dn := Hd.dG "_are_unlike" s_are_unlike [] []
def d_is_dealt : Hd.Dn := Hd.dG "_is_dealt" s_is_dealt [] []
def d_row_of : Hd.Dn := Hd.dG "_row_of" s_row_of [] []
def d_scan : Hd.Dn := Hd.dG "scan" s_scan [] []
def d_Step_init : Hd.Dn := Hd.dM "Step" "__init__" "Step.__init__" s_Step_init [] [("table", .non), ("name", .str ""), ("new", .str ""), ("named", .adr (Hd.kwAt ("Step", some "__init__") "named")), ("pairs", .adr (Hd.kwAt ("Step", some "__init__") "pairs")), ("sums", .adr (Hd.kwAt ("Step", some "__init__") "sums"))]
def d_Step_where : Hd.Dn := Hd.dM "Step" "where" "Step.where" s_Step_where [] []
def d_Step_compute : Hd.Dn := Hd.dM "Step" "compute" "Step.compute" s_Step_compute [] []
def d_Step_equal : Hd.Dn := Hd.dM "Step" "equal" "Step.equal" s_Step_equal [] []
def d_Step_keep : Hd.Dn := Hd.dM "Step" "keep" "Step.keep" s_Step_keep [] []
def d_Step_distinct : Hd.Dn := Hd.dM "Step" "distinct" "Step.distinct" s_Step_distinct [] []
def d_Step_group_by : Hd.Dn := Hd.dM "Step" "group_by" "Step.group_by" s_Step_group_by [] []
def d_Step_sort_by : Hd.Dn := Hd.dM "Step" "sort_by" "Step.sort_by" s_Step_sort_by [] []
def d_Step_own_by : Hd.Dn := Hd.dM "Step" "own_by" "Step.own_by" s_Step_own_by [] []
def d_Step_split_by : Hd.Dn := Hd.dM "Step" "split_by" "Step.split_by" s_Step_split_by [] []
def d_Step_broadcast : Hd.Dn := Hd.dM "Step" "broadcast" "Step.broadcast" s_Step_broadcast [] []
def d_Step_gather : Hd.Dn := Hd.dM "Step" "gather" "Step.gather" s_Step_gather [] []
def d_Step_merge_by : Hd.Dn := Hd.dM "Step" "merge_by" "Step.merge_by" s_Step_merge_by [] []
def d_Step_alike : Hd.Dn := Hd.dM "Step" "_alike" "Step._alike" s_Step_alike [] []
def d_Step_grouped : Hd.Dn := Hd.dM "Step" "_grouped" "Step._grouped" s_Step_grouped [] []
def d_Lpen : Hd.Dn := Hd.dG "_law_pen" s_Lpen [] []
def d_Ldraw : Hd.Dn := Hd.dG "_law_draw" s_Ldraw [] []
def d_Lpick : Hd.Dn := Hd.dG "_law_pick" s_Lpick [] []
def d_Lsome : Hd.Dn := Hd.dG "_law_some" s_Lsome [] []
def d_Lnames : Hd.Dn := Hd.dG "_law_names" s_Lnames [] []
def d_Lwhere : Hd.Dn := Hd.dG "_law_where" s_Lwhere [] []
def d_Lkeep : Hd.Dn := Hd.dG "_law_keep" s_Lkeep [] []
def d_Lsort : Hd.Dn := Hd.dG "_law_sort" s_Lsort [] []
def d_Lmerge : Hd.Dn := Hd.dG "_law_merge" s_Lmerge [] []
def d_Lruled : Hd.Dn := Hd.dG "_law_ruled" s_Lruled [] []
def d_Lcompute : Hd.Dn := Hd.dG "_law_compute" s_Lcompute [] []
def d_Lgroup : Hd.Dn := Hd.dG "_law_group" s_Lgroup [] []
def d_Labove : Hd.Dn := Hd.dG "_law_above" s_Labove [] []
def d_Lnamed : Hd.Dn := Hd.dG "_law_named" s_Lnamed [] []
def d_Lright : Hd.Dn := Hd.dG "_law_right" s_Lright [] []
def d_law : Hd.Dn := Hd.dG "law" s_law [] []
def defs : List Hd.Dn := [d_has_twice, d_is_name, d_check_where, d_check_compute, d_check_equal, d_check_keep, d_check_distinct, d_check_group, d_check_sorted, d_check_ruled, d_check_plain, d_refuse, d_has_strange, d_has_measure, d_is_sum, d_Table_init, d_Table_eq, d_Table_str, d_fault_of, d_are_unlike, d_is_dealt, d_row_of, d_scan, d_Step_init, d_Step_where, d_Step_compute, d_Step_equal, d_Step_keep, d_Step_distinct, d_Step_group_by, d_Step_sort_by, d_Step_own_by, d_Step_split_by, d_Step_broadcast, d_Step_gather, d_Step_merge_by, d_Step_alike, d_Step_grouped, d_Lpen, d_Ldraw, d_Lpick, d_Lsome, d_Lnames, d_Lwhere, d_Lkeep, d_Lsort, d_Lmerge, d_Lruled, d_Lcompute, d_Lgroup, d_Labove, d_Lnamed, d_Lright, d_law]
def fa : List He.Fa := [.glo "PlanError", .glo "InputError", .glo "InvalidTable", .glo "InvalidStep", .glo "has_twice", .glo "is_name", .glo "check_where", .glo "check_compute", .glo "check_equal", .glo "check_keep", .glo "check_distinct", .glo "check_group", .glo "check_sorted", .glo "check_ruled", .glo "check_union", .glo "_check_plain", .glo "_refuse", .glo "_has_strange", .glo "_has_measure", .glo "_is_sum", .glo "Table", .glo "_fault_of", .glo "_are_unlike", .glo "_is_dealt", .glo "_row_of", .glo "scan", .glo "Step", .glo "_law_pen", .glo "_law_draw", .glo "_law_pick", .glo "_law_some", .glo "_law_names", .glo "_law_where", .glo "_law_keep", .glo "_law_sort", .glo "_law_merge", .glo "_law_ruled", .glo "_law_compute", .glo "_law_group", .glo "_law_above", .glo "_law_named", .glo "_law_right", .glo "law", .free "abs", .free "all", .free "any", .free "int", .free "isinstance", .free "len", .free "list", .free "max", .free "min", .free "range", .free "set", .free "str", .free "tuple", .free "zip", .glo "WORDS", .glo "PLAIN_LIES", .int "MOST_CHARACTERS" 8, .int "MOST_DEALT" 3, .int "MOST_TESTED" 8, .int "MOST_ARGUMENTS" 3, .int "MOST_SORTED" 4, .int "MOST_KEYS" 4, .int "MOST_MEASURES" 3, .int "MOST_DEEP" 3, .str "LETTERS" "abcdefghijklmnopqrstuvwxyz", .str "CHARACTERS" "abcdefghijklmnopqrstuvwxyz0123456789_", .cls "Table", .mkr "Table", .noat "Table" "name", .noat "Table" "columns", .noat "Table" "key", .noat "Table" "lies", .noat "Table" "text", .meth "Table" "__init__", .meth "Table" "__eq__", .meth "Table" "__str__", .cls "Step", .mkr "Step", .noat "Step" "kind", .noat "Step" "inputs", .noat "Step" "columns", .noat "Step" "measures", .noat "Step" "depths", .noat "Step" "table", .noat "Step" "name", .noat "Step" "new", .noat "Step" "named", .noat "Step" "pairs", .noat "Step" "sums", .meth "Step" "__init__", .meth "Step" "where", .meth "Step" "compute", .meth "Step" "equal", .meth "Step" "keep", .meth "Step" "distinct", .meth "Step" "group_by", .meth "Step" "sort_by", .meth "Step" "own_by", .meth "Step" "split_by", .meth "Step" "broadcast", .meth "Step" "gather", .meth "Step" "merge_by", .meth "Step" "_alike", .meth "Step" "_grouped"]
def loose0 : List PySem.Str := ["_wall", "PlanError", "InputError", "InvalidTable", "InvalidStep", "has_twice", "MOST_CHARACTERS", "LETTERS", "CHARACTERS", "WORDS", "is_name", "MOST_TESTED", "MOST_ARGUMENTS", "MOST_SORTED", "MOST_KEYS", "MOST_MEASURES", "MOST_DEEP", "check_where", "check_compute", "check_equal"]
def loose1 : List PySem.Str := ["check_keep", "check_distinct", "check_group", "check_sorted", "check_ruled", "check_union", "_check_plain", "_refuse", "_has_strange", "_has_measure", "_is_sum", "MOST_DEALT", "PLAIN_LIES", "Table", "_fault_of", "_are_unlike", "_is_dealt", "_row_of", "scan", "Step"]
def loose2 : List PySem.Str := ["_law_pen", "_law_draw", "_law_pick", "_law_some", "_law_names", "_law_where", "_law_keep", "_law_sort", "_law_merge", "_law_ruled", "_law_compute", "_law_group", "_law_above", "_law_named", "_law_right"]
def looseN : List PySem.Str := loose0 ++ loose1 ++ loose2

end Pf
namespace Hd
open PySem PySem.Spec PyProof.Rows L2
def clsIntB (K : PySem.W.Frag) (c f : Str) (i : Int) : Bool := match PySem.W.findCls K (.ref (He.ga K c)) (.type "type") f with
  | some (.val (.int j _)) => decide (i = j)
  | _ => false
theorem clsIntB_ok {K : PySem.W.Frag} {c f : Str} {i : Int} (h : clsIntB K c f i = true) : ∃ u, ClX.CVal K (He.ga K c) (.type "type") f (.int i) u := by
  unfold clsIntB at h
  split at h
  · rename_i j t q
    exact ⟨_, q, ⟨t, by rw [of_decide_eq_true h]⟩⟩
  · cases h
end Hd
namespace Pf
open PySem PySem.Spec PyProof.Rows L2
def wordsD : List He.Dv := [.str "table", .str "key", .str "dealt", .str "anyhow", .str "copied", .str "zero", .str "scan", .str "where", .str "compute", .str "equal", .str "keep", .str "distinct", .str "group", .str "with", .str "count", .str "sum", .str "sort", .str "own", .str "split", .str "broadcast", .str "gather", .str "merge", .str "join", .str "semi", .str "anti", .str "union", .str "answer", .str "in", .str "self"]
def ex (K : PySem.W.Frag) : Bool := (Hd.insB "Table" K && (Hd.kitsB "Table" ["NoneType", "bool", "int", "str", "list", "tuple", "dict"] K && (Hd.attB "Table" "__ne__" (.builtin "object.__ne__") K && (He.tupB K "WORDS" wordsD && (He.tupB K "PLAIN_LIES" [.adr (Hd.itAt "PLAIN_LIES" 0), .adr (Hd.itAt "PLAIN_LIES" 1), .adr (Hd.itAt "PLAIN_LIES" 2)] && (Hd.tupAtB K (Hd.itAt "PLAIN_LIES" 0 K) [.str "copied"] && (Hd.tupAtB K (Hd.itAt "PLAIN_LIES" 1 K) [.str "anyhow"] && (Hd.tupAtB K (Hd.itAt "PLAIN_LIES" 2 K) [.str "zero"] && (Hd.tupAtB K (Hd.kwAt ("Table", some "__init__") "key" K) [] && (Hd.tupAtB K (Hd.kwAt ("Table", some "__init__") "lies" K) [.str "anyhow"] && (PySem.W.readsIn K (He.ga K "Table") (.type "type") && (He.eqO (PySem.W.specialIn K (.ref (He.ga K "Table")) "__getattribute__") (some (some (.builtin "type.__getattribute__"))) && (Hd.clsIntB K "Table" "MOST_COLUMNS" 8 && (Hd.insB "Step" K && (Hd.kitsB "Step" ["NoneType", "bool", "int", "str", "list", "tuple", "dict"] K && (Hd.tupAtB K (Hd.kwAt ("Step", some "__init__") "named" K) [] && (Hd.tupAtB K (Hd.kwAt ("Step", some "__init__") "pairs" K) [] && (Hd.tupAtB K (Hd.kwAt ("Step", some "__init__") "sums" K) [] && true))))))))))))))))))
/-- what the head tells -/
structure Tx (K : PySem.W.Frag) (mg : Str → Option Value) : Prop where
  says : Hd.Says fa ex defs K
  glo : ∀ x, He.Fa.glo x ∈ fa → mg x = some (.ref (He.ga K x))
  fre : ∀ x, He.Fa.free x ∈ fa → mg x = none
  cin : ∀ x i, He.Fa.int x i ∈ fa → ∃ t, mg x = some (.int i t)
  cst : ∀ x z, He.Fa.str x z ∈ fa → ∃ t, mg x = some (.str z t)
section
variable {K : PySem.W.Frag} {mg : Str → Option Value}
theorem g_PlanError (T : Tx K mg) : mg "PlanError" = some (.ref (He.ga K "PlanError")) := T.glo _ (List.mem_of_getElem? (i := 0) rfl)
theorem g_InputError (T : Tx K mg) : mg "InputError" = some (.ref (He.ga K "InputError")) := T.glo _ (List.mem_of_getElem? (i := 1) rfl)
theorem g_InvalidTable (T : Tx K mg) : mg "InvalidTable" = some (.ref (He.ga K "InvalidTable")) := T.glo _ (List.mem_of_getElem? (i := 2) rfl)
theorem g_InvalidStep (T : Tx K mg) : mg "InvalidStep" = some (.ref (He.ga K "InvalidStep")) := T.glo _ (List.mem_of_getElem? (i := 3) rfl)
theorem g_has_twice (T : Tx K mg) : mg "has_twice" = some (.ref (He.ga K "has_twice")) := T.glo _ (List.mem_of_getElem? (i := 4) rfl)
theorem g_is_name (T : Tx K mg) : mg "is_name" = some (.ref (He.ga K "is_name")) := T.glo _ (List.mem_of_getElem? (i := 5) rfl)
theorem g_check_where (T : Tx K mg) : mg "check_where" = some (.ref (He.ga K "check_where")) := T.glo _ (List.mem_of_getElem? (i := 6) rfl)
theorem g_check_compute (T : Tx K mg) : mg "check_compute" = some (.ref (He.ga K "check_compute")) := T.glo _ (List.mem_of_getElem? (i := 7) rfl)
theorem g_check_equal (T : Tx K mg) : mg "check_equal" = some (.ref (He.ga K "check_equal")) := T.glo _ (List.mem_of_getElem? (i := 8) rfl)
theorem g_check_keep (T : Tx K mg) : mg "check_keep" = some (.ref (He.ga K "check_keep")) := T.glo _ (List.mem_of_getElem? (i := 9) rfl)
theorem g_check_distinct (T : Tx K mg) : mg "check_distinct" = some (.ref (He.ga K "check_distinct")) := T.glo _ (List.mem_of_getElem? (i := 10) rfl)
theorem g_check_group (T : Tx K mg) : mg "check_group" = some (.ref (He.ga K "check_group")) := T.glo _ (List.mem_of_getElem? (i := 11) rfl)
theorem g_check_sorted (T : Tx K mg) : mg "check_sorted" = some (.ref (He.ga K "check_sorted")) := T.glo _ (List.mem_of_getElem? (i := 12) rfl)
theorem g_check_ruled (T : Tx K mg) : mg "check_ruled" = some (.ref (He.ga K "check_ruled")) := T.glo _ (List.mem_of_getElem? (i := 13) rfl)
theorem g_check_union (T : Tx K mg) : mg "check_union" = some (.ref (He.ga K "check_union")) := T.glo _ (List.mem_of_getElem? (i := 14) rfl)
theorem g_check_plain (T : Tx K mg) : mg "_check_plain" = some (.ref (He.ga K "_check_plain")) := T.glo _ (List.mem_of_getElem? (i := 15) rfl)
theorem g_refuse (T : Tx K mg) : mg "_refuse" = some (.ref (He.ga K "_refuse")) := T.glo _ (List.mem_of_getElem? (i := 16) rfl)
theorem g_has_strange (T : Tx K mg) : mg "_has_strange" = some (.ref (He.ga K "_has_strange")) := T.glo _ (List.mem_of_getElem? (i := 17) rfl)
theorem g_has_measure (T : Tx K mg) : mg "_has_measure" = some (.ref (He.ga K "_has_measure")) := T.glo _ (List.mem_of_getElem? (i := 18) rfl)
theorem g_is_sum (T : Tx K mg) : mg "_is_sum" = some (.ref (He.ga K "_is_sum")) := T.glo _ (List.mem_of_getElem? (i := 19) rfl)
theorem g_Table (T : Tx K mg) : mg "Table" = some (.ref (He.ga K "Table")) := T.glo _ (List.mem_of_getElem? (i := 20) rfl)
theorem g_fault_of (T : Tx K mg) : mg "_fault_of" = some (.ref (He.ga K "_fault_of")) := T.glo _ (List.mem_of_getElem? (i := 21) rfl)
theorem g_are_unlike (T : Tx K mg) : mg "_are_unlike" = some (.ref (He.ga K "_are_unlike")) := T.glo _ (List.mem_of_getElem? (i := 22) rfl)
theorem g_is_dealt (T : Tx K mg) : mg "_is_dealt" = some (.ref (He.ga K "_is_dealt")) := T.glo _ (List.mem_of_getElem? (i := 23) rfl)
theorem g_row_of (T : Tx K mg) : mg "_row_of" = some (.ref (He.ga K "_row_of")) := T.glo _ (List.mem_of_getElem? (i := 24) rfl)
theorem g_scan (T : Tx K mg) : mg "scan" = some (.ref (He.ga K "scan")) := T.glo _ (List.mem_of_getElem? (i := 25) rfl)
theorem g_Step (T : Tx K mg) : mg "Step" = some (.ref (He.ga K "Step")) := T.glo _ (List.mem_of_getElem? (i := 26) rfl)
theorem g_law_pen (T : Tx K mg) : mg "_law_pen" = some (.ref (He.ga K "_law_pen")) := T.glo _ (List.mem_of_getElem? (i := 27) rfl)
theorem g_law_draw (T : Tx K mg) : mg "_law_draw" = some (.ref (He.ga K "_law_draw")) := T.glo _ (List.mem_of_getElem? (i := 28) rfl)
theorem g_law_pick (T : Tx K mg) : mg "_law_pick" = some (.ref (He.ga K "_law_pick")) := T.glo _ (List.mem_of_getElem? (i := 29) rfl)
theorem g_law_some (T : Tx K mg) : mg "_law_some" = some (.ref (He.ga K "_law_some")) := T.glo _ (List.mem_of_getElem? (i := 30) rfl)
theorem g_law_names (T : Tx K mg) : mg "_law_names" = some (.ref (He.ga K "_law_names")) := T.glo _ (List.mem_of_getElem? (i := 31) rfl)
theorem g_law_where (T : Tx K mg) : mg "_law_where" = some (.ref (He.ga K "_law_where")) := T.glo _ (List.mem_of_getElem? (i := 32) rfl)
theorem g_law_keep (T : Tx K mg) : mg "_law_keep" = some (.ref (He.ga K "_law_keep")) := T.glo _ (List.mem_of_getElem? (i := 33) rfl)
theorem g_law_sort (T : Tx K mg) : mg "_law_sort" = some (.ref (He.ga K "_law_sort")) := T.glo _ (List.mem_of_getElem? (i := 34) rfl)
theorem g_law_merge (T : Tx K mg) : mg "_law_merge" = some (.ref (He.ga K "_law_merge")) := T.glo _ (List.mem_of_getElem? (i := 35) rfl)
theorem g_law_ruled (T : Tx K mg) : mg "_law_ruled" = some (.ref (He.ga K "_law_ruled")) := T.glo _ (List.mem_of_getElem? (i := 36) rfl)
theorem g_law_compute (T : Tx K mg) : mg "_law_compute" = some (.ref (He.ga K "_law_compute")) := T.glo _ (List.mem_of_getElem? (i := 37) rfl)
theorem g_law_group (T : Tx K mg) : mg "_law_group" = some (.ref (He.ga K "_law_group")) := T.glo _ (List.mem_of_getElem? (i := 38) rfl)
theorem g_law_above (T : Tx K mg) : mg "_law_above" = some (.ref (He.ga K "_law_above")) := T.glo _ (List.mem_of_getElem? (i := 39) rfl)
theorem g_law_named (T : Tx K mg) : mg "_law_named" = some (.ref (He.ga K "_law_named")) := T.glo _ (List.mem_of_getElem? (i := 40) rfl)
theorem g_law_right (T : Tx K mg) : mg "_law_right" = some (.ref (He.ga K "_law_right")) := T.glo _ (List.mem_of_getElem? (i := 41) rfl)
theorem g_law (T : Tx K mg) : mg "law" = some (.ref (He.ga K "law")) := T.glo _ (List.mem_of_getElem? (i := 42) rfl)
theorem z_abs (T : Tx K mg) : mg "abs" = none := T.fre _ (List.mem_of_getElem? (i := 43) rfl)
theorem z_all (T : Tx K mg) : mg "all" = none := T.fre _ (List.mem_of_getElem? (i := 44) rfl)
theorem z_any (T : Tx K mg) : mg "any" = none := T.fre _ (List.mem_of_getElem? (i := 45) rfl)
theorem z_int (T : Tx K mg) : mg "int" = none := T.fre _ (List.mem_of_getElem? (i := 46) rfl)
theorem z_isinstance (T : Tx K mg) : mg "isinstance" = none := T.fre _ (List.mem_of_getElem? (i := 47) rfl)
theorem z_len (T : Tx K mg) : mg "len" = none := T.fre _ (List.mem_of_getElem? (i := 48) rfl)
theorem z_list (T : Tx K mg) : mg "list" = none := T.fre _ (List.mem_of_getElem? (i := 49) rfl)
theorem z_max (T : Tx K mg) : mg "max" = none := T.fre _ (List.mem_of_getElem? (i := 50) rfl)
theorem z_min (T : Tx K mg) : mg "min" = none := T.fre _ (List.mem_of_getElem? (i := 51) rfl)
theorem z_range (T : Tx K mg) : mg "range" = none := T.fre _ (List.mem_of_getElem? (i := 52) rfl)
theorem z_set (T : Tx K mg) : mg "set" = none := T.fre _ (List.mem_of_getElem? (i := 53) rfl)
theorem z_str (T : Tx K mg) : mg "str" = none := T.fre _ (List.mem_of_getElem? (i := 54) rfl)
theorem z_tuple (T : Tx K mg) : mg "tuple" = none := T.fre _ (List.mem_of_getElem? (i := 55) rfl)
theorem z_zip (T : Tx K mg) : mg "zip" = none := T.fre _ (List.mem_of_getElem? (i := 56) rfl)
theorem g_WORDS (T : Tx K mg) : mg "WORDS" = some (.ref (He.ga K "WORDS")) := T.glo _ (List.mem_of_getElem? (i := 57) rfl)
theorem g_PLAIN_LIES (T : Tx K mg) : mg "PLAIN_LIES" = some (.ref (He.ga K "PLAIN_LIES")) := T.glo _ (List.mem_of_getElem? (i := 58) rfl)
theorem ci_MOST_CHARACTERS (T : Tx K mg) : ∃ t, mg "MOST_CHARACTERS" = some (.int 8 t) := T.cin _ _ (List.mem_of_getElem? (i := 59) rfl)
theorem ci_MOST_DEALT (T : Tx K mg) : ∃ t, mg "MOST_DEALT" = some (.int 3 t) := T.cin _ _ (List.mem_of_getElem? (i := 60) rfl)
theorem ci_MOST_TESTED (T : Tx K mg) : ∃ t, mg "MOST_TESTED" = some (.int 8 t) := T.cin _ _ (List.mem_of_getElem? (i := 61) rfl)
theorem ci_MOST_ARGUMENTS (T : Tx K mg) : ∃ t, mg "MOST_ARGUMENTS" = some (.int 3 t) := T.cin _ _ (List.mem_of_getElem? (i := 62) rfl)
theorem ci_MOST_SORTED (T : Tx K mg) : ∃ t, mg "MOST_SORTED" = some (.int 4 t) := T.cin _ _ (List.mem_of_getElem? (i := 63) rfl)
theorem ci_MOST_KEYS (T : Tx K mg) : ∃ t, mg "MOST_KEYS" = some (.int 4 t) := T.cin _ _ (List.mem_of_getElem? (i := 64) rfl)
theorem ci_MOST_MEASURES (T : Tx K mg) : ∃ t, mg "MOST_MEASURES" = some (.int 3 t) := T.cin _ _ (List.mem_of_getElem? (i := 65) rfl)
theorem ci_MOST_DEEP (T : Tx K mg) : ∃ t, mg "MOST_DEEP" = some (.int 3 t) := T.cin _ _ (List.mem_of_getElem? (i := 66) rfl)
theorem cs_LETTERS (T : Tx K mg) : ∃ t, mg "LETTERS" = some (.str "abcdefghijklmnopqrstuvwxyz" t) := T.cst _ _ (List.mem_of_getElem? (i := 67) rfl)
theorem cs_CHARACTERS (T : Tx K mg) : ∃ t, mg "CHARACTERS" = some (.str "abcdefghijklmnopqrstuvwxyz0123456789_" t) := T.cst _ _ (List.mem_of_getElem? (i := 68) rfl)
theorem cls_Table_ (T : Tx K mg) : Cls K (He.ga K "Table") := He.cls_ok (T.says.fact (List.mem_of_getElem? (i := 69) rfl))
theorem mkr_Table_ (T : Tx K mg) : Mk K (He.ga K "Table") (He.ma K (He.ga K "Table") "__init__") := He.mkr_ok (T.says.fact (List.mem_of_getElem? (i := 70) rfl))
theorem noat_Table_name (T : Tx K mg) : NoAttr K (He.ga K "Table") "name" := He.noat_ok (T.says.fact (List.mem_of_getElem? (i := 71) rfl))
theorem noat_Table_columns (T : Tx K mg) : NoAttr K (He.ga K "Table") "columns" := He.noat_ok (T.says.fact (List.mem_of_getElem? (i := 72) rfl))
theorem noat_Table_key (T : Tx K mg) : NoAttr K (He.ga K "Table") "key" := He.noat_ok (T.says.fact (List.mem_of_getElem? (i := 73) rfl))
theorem noat_Table_lies (T : Tx K mg) : NoAttr K (He.ga K "Table") "lies" := He.noat_ok (T.says.fact (List.mem_of_getElem? (i := 74) rfl))
theorem noat_Table_text (T : Tx K mg) : NoAttr K (He.ga K "Table") "text" := He.noat_ok (T.says.fact (List.mem_of_getElem? (i := 75) rfl))
theorem meth_Table_init (T : Tx K mg) : Meth K (He.ga K "Table") "__init__" (He.ma K (He.ga K "Table") "__init__") := He.meth_ok (T.says.fact (List.mem_of_getElem? (i := 76) rfl))
theorem meth_Table_eq (T : Tx K mg) : Meth K (He.ga K "Table") "__eq__" (He.ma K (He.ga K "Table") "__eq__") := He.meth_ok (T.says.fact (List.mem_of_getElem? (i := 77) rfl))
theorem meth_Table_str (T : Tx K mg) : Meth K (He.ga K "Table") "__str__" (He.ma K (He.ga K "Table") "__str__") := He.meth_ok (T.says.fact (List.mem_of_getElem? (i := 78) rfl))
theorem cls_Step_ (T : Tx K mg) : Cls K (He.ga K "Step") := He.cls_ok (T.says.fact (List.mem_of_getElem? (i := 79) rfl))
theorem mkr_Step_ (T : Tx K mg) : Mk K (He.ga K "Step") (He.ma K (He.ga K "Step") "__init__") := He.mkr_ok (T.says.fact (List.mem_of_getElem? (i := 80) rfl))
theorem noat_Step_kind (T : Tx K mg) : NoAttr K (He.ga K "Step") "kind" := He.noat_ok (T.says.fact (List.mem_of_getElem? (i := 81) rfl))
theorem noat_Step_inputs (T : Tx K mg) : NoAttr K (He.ga K "Step") "inputs" := He.noat_ok (T.says.fact (List.mem_of_getElem? (i := 82) rfl))
theorem noat_Step_columns (T : Tx K mg) : NoAttr K (He.ga K "Step") "columns" := He.noat_ok (T.says.fact (List.mem_of_getElem? (i := 83) rfl))
theorem noat_Step_measures (T : Tx K mg) : NoAttr K (He.ga K "Step") "measures" := He.noat_ok (T.says.fact (List.mem_of_getElem? (i := 84) rfl))
theorem noat_Step_depths (T : Tx K mg) : NoAttr K (He.ga K "Step") "depths" := He.noat_ok (T.says.fact (List.mem_of_getElem? (i := 85) rfl))
theorem noat_Step_table (T : Tx K mg) : NoAttr K (He.ga K "Step") "table" := He.noat_ok (T.says.fact (List.mem_of_getElem? (i := 86) rfl))
theorem noat_Step_name (T : Tx K mg) : NoAttr K (He.ga K "Step") "name" := He.noat_ok (T.says.fact (List.mem_of_getElem? (i := 87) rfl))
theorem noat_Step_new (T : Tx K mg) : NoAttr K (He.ga K "Step") "new" := He.noat_ok (T.says.fact (List.mem_of_getElem? (i := 88) rfl))
theorem noat_Step_named (T : Tx K mg) : NoAttr K (He.ga K "Step") "named" := He.noat_ok (T.says.fact (List.mem_of_getElem? (i := 89) rfl))
theorem noat_Step_pairs (T : Tx K mg) : NoAttr K (He.ga K "Step") "pairs" := He.noat_ok (T.says.fact (List.mem_of_getElem? (i := 90) rfl))
theorem noat_Step_sums (T : Tx K mg) : NoAttr K (He.ga K "Step") "sums" := He.noat_ok (T.says.fact (List.mem_of_getElem? (i := 91) rfl))
theorem meth_Step_init (T : Tx K mg) : Meth K (He.ga K "Step") "__init__" (He.ma K (He.ga K "Step") "__init__") := He.meth_ok (T.says.fact (List.mem_of_getElem? (i := 92) rfl))
theorem meth_Step_where (T : Tx K mg) : Meth K (He.ga K "Step") "where" (He.ma K (He.ga K "Step") "where") := He.meth_ok (T.says.fact (List.mem_of_getElem? (i := 93) rfl))
theorem meth_Step_compute (T : Tx K mg) : Meth K (He.ga K "Step") "compute" (He.ma K (He.ga K "Step") "compute") := He.meth_ok (T.says.fact (List.mem_of_getElem? (i := 94) rfl))
theorem meth_Step_equal (T : Tx K mg) : Meth K (He.ga K "Step") "equal" (He.ma K (He.ga K "Step") "equal") := He.meth_ok (T.says.fact (List.mem_of_getElem? (i := 95) rfl))
theorem meth_Step_keep (T : Tx K mg) : Meth K (He.ga K "Step") "keep" (He.ma K (He.ga K "Step") "keep") := He.meth_ok (T.says.fact (List.mem_of_getElem? (i := 96) rfl))
theorem meth_Step_distinct (T : Tx K mg) : Meth K (He.ga K "Step") "distinct" (He.ma K (He.ga K "Step") "distinct") := He.meth_ok (T.says.fact (List.mem_of_getElem? (i := 97) rfl))
theorem meth_Step_group_by (T : Tx K mg) : Meth K (He.ga K "Step") "group_by" (He.ma K (He.ga K "Step") "group_by") := He.meth_ok (T.says.fact (List.mem_of_getElem? (i := 98) rfl))
theorem meth_Step_sort_by (T : Tx K mg) : Meth K (He.ga K "Step") "sort_by" (He.ma K (He.ga K "Step") "sort_by") := He.meth_ok (T.says.fact (List.mem_of_getElem? (i := 99) rfl))
theorem meth_Step_own_by (T : Tx K mg) : Meth K (He.ga K "Step") "own_by" (He.ma K (He.ga K "Step") "own_by") := He.meth_ok (T.says.fact (List.mem_of_getElem? (i := 100) rfl))
theorem meth_Step_split_by (T : Tx K mg) : Meth K (He.ga K "Step") "split_by" (He.ma K (He.ga K "Step") "split_by") := He.meth_ok (T.says.fact (List.mem_of_getElem? (i := 101) rfl))
theorem meth_Step_broadcast (T : Tx K mg) : Meth K (He.ga K "Step") "broadcast" (He.ma K (He.ga K "Step") "broadcast") := He.meth_ok (T.says.fact (List.mem_of_getElem? (i := 102) rfl))
theorem meth_Step_gather (T : Tx K mg) : Meth K (He.ga K "Step") "gather" (He.ma K (He.ga K "Step") "gather") := He.meth_ok (T.says.fact (List.mem_of_getElem? (i := 103) rfl))
theorem meth_Step_merge_by (T : Tx K mg) : Meth K (He.ga K "Step") "merge_by" (He.ma K (He.ga K "Step") "merge_by") := He.meth_ok (T.says.fact (List.mem_of_getElem? (i := 104) rfl))
theorem meth_Step_alike (T : Tx K mg) : Meth K (He.ga K "Step") "_alike" (He.ma K (He.ga K "Step") "_alike") := He.meth_ok (T.says.fact (List.mem_of_getElem? (i := 105) rfl))
theorem meth_Step_grouped (T : Tx K mg) : Meth K (He.ga K "Step") "_grouped" (He.ma K (He.ga K "Step") "_grouped") := He.meth_ok (T.says.fact (List.mem_of_getElem? (i := 106) rfl))
theorem exr_0 (T : Tx K mg) : (Hd.insB "Table" K && (Hd.kitsB "Table" ["NoneType", "bool", "int", "str", "list", "tuple", "dict"] K && (Hd.attB "Table" "__ne__" (.builtin "object.__ne__") K && (He.tupB K "WORDS" wordsD && (He.tupB K "PLAIN_LIES" [.adr (Hd.itAt "PLAIN_LIES" 0), .adr (Hd.itAt "PLAIN_LIES" 1), .adr (Hd.itAt "PLAIN_LIES" 2)] && (Hd.tupAtB K (Hd.itAt "PLAIN_LIES" 0 K) [.str "copied"] && (Hd.tupAtB K (Hd.itAt "PLAIN_LIES" 1 K) [.str "anyhow"] && (Hd.tupAtB K (Hd.itAt "PLAIN_LIES" 2 K) [.str "zero"] && (Hd.tupAtB K (Hd.kwAt ("Table", some "__init__") "key" K) [] && (Hd.tupAtB K (Hd.kwAt ("Table", some "__init__") "lies" K) [.str "anyhow"] && (PySem.W.readsIn K (He.ga K "Table") (.type "type") && (He.eqO (PySem.W.specialIn K (.ref (He.ga K "Table")) "__getattribute__") (some (some (.builtin "type.__getattribute__"))) && (Hd.clsIntB K "Table" "MOST_COLUMNS" 8 && (Hd.insB "Step" K && (Hd.kitsB "Step" ["NoneType", "bool", "int", "str", "list", "tuple", "dict"] K && (Hd.tupAtB K (Hd.kwAt ("Step", some "__init__") "named" K) [] && (Hd.tupAtB K (Hd.kwAt ("Step", some "__init__") "pairs" K) [] && (Hd.tupAtB K (Hd.kwAt ("Step", some "__init__") "sums" K) [] && true)))))))))))))))))) = true := T.says.more
theorem ex_0 (T : Tx K mg) : Hd.insB "Table" K = true := (Bool.and_eq_true_iff.mp (exr_0 T)).1
theorem exr_1 (T : Tx K mg) : (Hd.kitsB "Table" ["NoneType", "bool", "int", "str", "list", "tuple", "dict"] K && (Hd.attB "Table" "__ne__" (.builtin "object.__ne__") K && (He.tupB K "WORDS" wordsD && (He.tupB K "PLAIN_LIES" [.adr (Hd.itAt "PLAIN_LIES" 0), .adr (Hd.itAt "PLAIN_LIES" 1), .adr (Hd.itAt "PLAIN_LIES" 2)] && (Hd.tupAtB K (Hd.itAt "PLAIN_LIES" 0 K) [.str "copied"] && (Hd.tupAtB K (Hd.itAt "PLAIN_LIES" 1 K) [.str "anyhow"] && (Hd.tupAtB K (Hd.itAt "PLAIN_LIES" 2 K) [.str "zero"] && (Hd.tupAtB K (Hd.kwAt ("Table", some "__init__") "key" K) [] && (Hd.tupAtB K (Hd.kwAt ("Table", some "__init__") "lies" K) [.str "anyhow"] && (PySem.W.readsIn K (He.ga K "Table") (.type "type") && (He.eqO (PySem.W.specialIn K (.ref (He.ga K "Table")) "__getattribute__") (some (some (.builtin "type.__getattribute__"))) && (Hd.clsIntB K "Table" "MOST_COLUMNS" 8 && (Hd.insB "Step" K && (Hd.kitsB "Step" ["NoneType", "bool", "int", "str", "list", "tuple", "dict"] K && (Hd.tupAtB K (Hd.kwAt ("Step", some "__init__") "named" K) [] && (Hd.tupAtB K (Hd.kwAt ("Step", some "__init__") "pairs" K) [] && (Hd.tupAtB K (Hd.kwAt ("Step", some "__init__") "sums" K) [] && true))))))))))))))))) = true := (Bool.and_eq_true_iff.mp (exr_0 T)).2
theorem ex_1 (T : Tx K mg) : Hd.kitsB "Table" ["NoneType", "bool", "int", "str", "list", "tuple", "dict"] K = true := (Bool.and_eq_true_iff.mp (exr_1 T)).1
theorem exr_2 (T : Tx K mg) : (Hd.attB "Table" "__ne__" (.builtin "object.__ne__") K && (He.tupB K "WORDS" wordsD && (He.tupB K "PLAIN_LIES" [.adr (Hd.itAt "PLAIN_LIES" 0), .adr (Hd.itAt "PLAIN_LIES" 1), .adr (Hd.itAt "PLAIN_LIES" 2)] && (Hd.tupAtB K (Hd.itAt "PLAIN_LIES" 0 K) [.str "copied"] && (Hd.tupAtB K (Hd.itAt "PLAIN_LIES" 1 K) [.str "anyhow"] && (Hd.tupAtB K (Hd.itAt "PLAIN_LIES" 2 K) [.str "zero"] && (Hd.tupAtB K (Hd.kwAt ("Table", some "__init__") "key" K) [] && (Hd.tupAtB K (Hd.kwAt ("Table", some "__init__") "lies" K) [.str "anyhow"] && (PySem.W.readsIn K (He.ga K "Table") (.type "type") && (He.eqO (PySem.W.specialIn K (.ref (He.ga K "Table")) "__getattribute__") (some (some (.builtin "type.__getattribute__"))) && (Hd.clsIntB K "Table" "MOST_COLUMNS" 8 && (Hd.insB "Step" K && (Hd.kitsB "Step" ["NoneType", "bool", "int", "str", "list", "tuple", "dict"] K && (Hd.tupAtB K (Hd.kwAt ("Step", some "__init__") "named" K) [] && (Hd.tupAtB K (Hd.kwAt ("Step", some "__init__") "pairs" K) [] && (Hd.tupAtB K (Hd.kwAt ("Step", some "__init__") "sums" K) [] && true)))))))))))))))) = true := (Bool.and_eq_true_iff.mp (exr_1 T)).2
theorem ex_2 (T : Tx K mg) : Hd.attB "Table" "__ne__" (.builtin "object.__ne__") K = true := (Bool.and_eq_true_iff.mp (exr_2 T)).1
theorem exr_3 (T : Tx K mg) : (He.tupB K "WORDS" wordsD && (He.tupB K "PLAIN_LIES" [.adr (Hd.itAt "PLAIN_LIES" 0), .adr (Hd.itAt "PLAIN_LIES" 1), .adr (Hd.itAt "PLAIN_LIES" 2)] && (Hd.tupAtB K (Hd.itAt "PLAIN_LIES" 0 K) [.str "copied"] && (Hd.tupAtB K (Hd.itAt "PLAIN_LIES" 1 K) [.str "anyhow"] && (Hd.tupAtB K (Hd.itAt "PLAIN_LIES" 2 K) [.str "zero"] && (Hd.tupAtB K (Hd.kwAt ("Table", some "__init__") "key" K) [] && (Hd.tupAtB K (Hd.kwAt ("Table", some "__init__") "lies" K) [.str "anyhow"] && (PySem.W.readsIn K (He.ga K "Table") (.type "type") && (He.eqO (PySem.W.specialIn K (.ref (He.ga K "Table")) "__getattribute__") (some (some (.builtin "type.__getattribute__"))) && (Hd.clsIntB K "Table" "MOST_COLUMNS" 8 && (Hd.insB "Step" K && (Hd.kitsB "Step" ["NoneType", "bool", "int", "str", "list", "tuple", "dict"] K && (Hd.tupAtB K (Hd.kwAt ("Step", some "__init__") "named" K) [] && (Hd.tupAtB K (Hd.kwAt ("Step", some "__init__") "pairs" K) [] && (Hd.tupAtB K (Hd.kwAt ("Step", some "__init__") "sums" K) [] && true))))))))))))))) = true := (Bool.and_eq_true_iff.mp (exr_2 T)).2
theorem ex_3 (T : Tx K mg) : He.tupB K "WORDS" wordsD = true := (Bool.and_eq_true_iff.mp (exr_3 T)).1
theorem exr_4 (T : Tx K mg) : (He.tupB K "PLAIN_LIES" [.adr (Hd.itAt "PLAIN_LIES" 0), .adr (Hd.itAt "PLAIN_LIES" 1), .adr (Hd.itAt "PLAIN_LIES" 2)] && (Hd.tupAtB K (Hd.itAt "PLAIN_LIES" 0 K) [.str "copied"] && (Hd.tupAtB K (Hd.itAt "PLAIN_LIES" 1 K) [.str "anyhow"] && (Hd.tupAtB K (Hd.itAt "PLAIN_LIES" 2 K) [.str "zero"] && (Hd.tupAtB K (Hd.kwAt ("Table", some "__init__") "key" K) [] && (Hd.tupAtB K (Hd.kwAt ("Table", some "__init__") "lies" K) [.str "anyhow"] && (PySem.W.readsIn K (He.ga K "Table") (.type "type") && (He.eqO (PySem.W.specialIn K (.ref (He.ga K "Table")) "__getattribute__") (some (some (.builtin "type.__getattribute__"))) && (Hd.clsIntB K "Table" "MOST_COLUMNS" 8 && (Hd.insB "Step" K && (Hd.kitsB "Step" ["NoneType", "bool", "int", "str", "list", "tuple", "dict"] K && (Hd.tupAtB K (Hd.kwAt ("Step", some "__init__") "named" K) [] && (Hd.tupAtB K (Hd.kwAt ("Step", some "__init__") "pairs" K) [] && (Hd.tupAtB K (Hd.kwAt ("Step", some "__init__") "sums" K) [] && true)))))))))))))) = true := (Bool.and_eq_true_iff.mp (exr_3 T)).2
theorem ex_4 (T : Tx K mg) : He.tupB K "PLAIN_LIES" [.adr (Hd.itAt "PLAIN_LIES" 0), .adr (Hd.itAt "PLAIN_LIES" 1), .adr (Hd.itAt "PLAIN_LIES" 2)] = true := (Bool.and_eq_true_iff.mp (exr_4 T)).1
theorem exr_5 (T : Tx K mg) : (Hd.tupAtB K (Hd.itAt "PLAIN_LIES" 0 K) [.str "copied"] && (Hd.tupAtB K (Hd.itAt "PLAIN_LIES" 1 K) [.str "anyhow"] && (Hd.tupAtB K (Hd.itAt "PLAIN_LIES" 2 K) [.str "zero"] && (Hd.tupAtB K (Hd.kwAt ("Table", some "__init__") "key" K) [] && (Hd.tupAtB K (Hd.kwAt ("Table", some "__init__") "lies" K) [.str "anyhow"] && (PySem.W.readsIn K (He.ga K "Table") (.type "type") && (He.eqO (PySem.W.specialIn K (.ref (He.ga K "Table")) "__getattribute__") (some (some (.builtin "type.__getattribute__"))) && (Hd.clsIntB K "Table" "MOST_COLUMNS" 8 && (Hd.insB "Step" K && (Hd.kitsB "Step" ["NoneType", "bool", "int", "str", "list", "tuple", "dict"] K && (Hd.tupAtB K (Hd.kwAt ("Step", some "__init__") "named" K) [] && (Hd.tupAtB K (Hd.kwAt ("Step", some "__init__") "pairs" K) [] && (Hd.tupAtB K (Hd.kwAt ("Step", some "__init__") "sums" K) [] && true))))))))))))) = true := (Bool.and_eq_true_iff.mp (exr_4 T)).2
theorem ex_5 (T : Tx K mg) : Hd.tupAtB K (Hd.itAt "PLAIN_LIES" 0 K) [.str "copied"] = true := (Bool.and_eq_true_iff.mp (exr_5 T)).1
theorem exr_6 (T : Tx K mg) : (Hd.tupAtB K (Hd.itAt "PLAIN_LIES" 1 K) [.str "anyhow"] && (Hd.tupAtB K (Hd.itAt "PLAIN_LIES" 2 K) [.str "zero"] && (Hd.tupAtB K (Hd.kwAt ("Table", some "__init__") "key" K) [] && (Hd.tupAtB K (Hd.kwAt ("Table", some "__init__") "lies" K) [.str "anyhow"] && (PySem.W.readsIn K (He.ga K "Table") (.type "type") && (He.eqO (PySem.W.specialIn K (.ref (He.ga K "Table")) "__getattribute__") (some (some (.builtin "type.__getattribute__"))) && (Hd.clsIntB K "Table" "MOST_COLUMNS" 8 && (Hd.insB "Step" K && (Hd.kitsB "Step" ["NoneType", "bool", "int", "str", "list", "tuple", "dict"] K && (Hd.tupAtB K (Hd.kwAt ("Step", some "__init__") "named" K) [] && (Hd.tupAtB K (Hd.kwAt ("Step", some "__init__") "pairs" K) [] && (Hd.tupAtB K (Hd.kwAt ("Step", some "__init__") "sums" K) [] && true)))))))))))) = true := (Bool.and_eq_true_iff.mp (exr_5 T)).2
theorem ex_6 (T : Tx K mg) : Hd.tupAtB K (Hd.itAt "PLAIN_LIES" 1 K) [.str "anyhow"] = true := (Bool.and_eq_true_iff.mp (exr_6 T)).1
theorem exr_7 (T : Tx K mg) : (Hd.tupAtB K (Hd.itAt "PLAIN_LIES" 2 K) [.str "zero"] && (Hd.tupAtB K (Hd.kwAt ("Table", some "__init__") "key" K) [] && (Hd.tupAtB K (Hd.kwAt ("Table", some "__init__") "lies" K) [.str "anyhow"] && (PySem.W.readsIn K (He.ga K "Table") (.type "type") && (He.eqO (PySem.W.specialIn K (.ref (He.ga K "Table")) "__getattribute__") (some (some (.builtin "type.__getattribute__"))) && (Hd.clsIntB K "Table" "MOST_COLUMNS" 8 && (Hd.insB "Step" K && (Hd.kitsB "Step" ["NoneType", "bool", "int", "str", "list", "tuple", "dict"] K && (Hd.tupAtB K (Hd.kwAt ("Step", some "__init__") "named" K) [] && (Hd.tupAtB K (Hd.kwAt ("Step", some "__init__") "pairs" K) [] && (Hd.tupAtB K (Hd.kwAt ("Step", some "__init__") "sums" K) [] && true))))))))))) = true := (Bool.and_eq_true_iff.mp (exr_6 T)).2
theorem ex_7 (T : Tx K mg) : Hd.tupAtB K (Hd.itAt "PLAIN_LIES" 2 K) [.str "zero"] = true := (Bool.and_eq_true_iff.mp (exr_7 T)).1
theorem exr_8 (T : Tx K mg) : (Hd.tupAtB K (Hd.kwAt ("Table", some "__init__") "key" K) [] && (Hd.tupAtB K (Hd.kwAt ("Table", some "__init__") "lies" K) [.str "anyhow"] && (PySem.W.readsIn K (He.ga K "Table") (.type "type") && (He.eqO (PySem.W.specialIn K (.ref (He.ga K "Table")) "__getattribute__") (some (some (.builtin "type.__getattribute__"))) && (Hd.clsIntB K "Table" "MOST_COLUMNS" 8 && (Hd.insB "Step" K && (Hd.kitsB "Step" ["NoneType", "bool", "int", "str", "list", "tuple", "dict"] K && (Hd.tupAtB K (Hd.kwAt ("Step", some "__init__") "named" K) [] && (Hd.tupAtB K (Hd.kwAt ("Step", some "__init__") "pairs" K) [] && (Hd.tupAtB K (Hd.kwAt ("Step", some "__init__") "sums" K) [] && true)))))))))) = true := (Bool.and_eq_true_iff.mp (exr_7 T)).2
theorem ex_8 (T : Tx K mg) : Hd.tupAtB K (Hd.kwAt ("Table", some "__init__") "key" K) [] = true := (Bool.and_eq_true_iff.mp (exr_8 T)).1
theorem exr_9 (T : Tx K mg) : (Hd.tupAtB K (Hd.kwAt ("Table", some "__init__") "lies" K) [.str "anyhow"] && (PySem.W.readsIn K (He.ga K "Table") (.type "type") && (He.eqO (PySem.W.specialIn K (.ref (He.ga K "Table")) "__getattribute__") (some (some (.builtin "type.__getattribute__"))) && (Hd.clsIntB K "Table" "MOST_COLUMNS" 8 && (Hd.insB "Step" K && (Hd.kitsB "Step" ["NoneType", "bool", "int", "str", "list", "tuple", "dict"] K && (Hd.tupAtB K (Hd.kwAt ("Step", some "__init__") "named" K) [] && (Hd.tupAtB K (Hd.kwAt ("Step", some "__init__") "pairs" K) [] && (Hd.tupAtB K (Hd.kwAt ("Step", some "__init__") "sums" K) [] && true))))))))) = true := (Bool.and_eq_true_iff.mp (exr_8 T)).2
theorem ex_9 (T : Tx K mg) : Hd.tupAtB K (Hd.kwAt ("Table", some "__init__") "lies" K) [.str "anyhow"] = true := (Bool.and_eq_true_iff.mp (exr_9 T)).1
theorem exr_10 (T : Tx K mg) : (PySem.W.readsIn K (He.ga K "Table") (.type "type") && (He.eqO (PySem.W.specialIn K (.ref (He.ga K "Table")) "__getattribute__") (some (some (.builtin "type.__getattribute__"))) && (Hd.clsIntB K "Table" "MOST_COLUMNS" 8 && (Hd.insB "Step" K && (Hd.kitsB "Step" ["NoneType", "bool", "int", "str", "list", "tuple", "dict"] K && (Hd.tupAtB K (Hd.kwAt ("Step", some "__init__") "named" K) [] && (Hd.tupAtB K (Hd.kwAt ("Step", some "__init__") "pairs" K) [] && (Hd.tupAtB K (Hd.kwAt ("Step", some "__init__") "sums" K) [] && true)))))))) = true := (Bool.and_eq_true_iff.mp (exr_9 T)).2
theorem ex_10 (T : Tx K mg) : PySem.W.readsIn K (He.ga K "Table") (.type "type") = true := (Bool.and_eq_true_iff.mp (exr_10 T)).1
theorem exr_11 (T : Tx K mg) : (He.eqO (PySem.W.specialIn K (.ref (He.ga K "Table")) "__getattribute__") (some (some (.builtin "type.__getattribute__"))) && (Hd.clsIntB K "Table" "MOST_COLUMNS" 8 && (Hd.insB "Step" K && (Hd.kitsB "Step" ["NoneType", "bool", "int", "str", "list", "tuple", "dict"] K && (Hd.tupAtB K (Hd.kwAt ("Step", some "__init__") "named" K) [] && (Hd.tupAtB K (Hd.kwAt ("Step", some "__init__") "pairs" K) [] && (Hd.tupAtB K (Hd.kwAt ("Step", some "__init__") "sums" K) [] && true))))))) = true := (Bool.and_eq_true_iff.mp (exr_10 T)).2
theorem ex_11 (T : Tx K mg) : He.eqO (PySem.W.specialIn K (.ref (He.ga K "Table")) "__getattribute__") (some (some (.builtin "type.__getattribute__"))) = true := (Bool.and_eq_true_iff.mp (exr_11 T)).1
theorem exr_12 (T : Tx K mg) : (Hd.clsIntB K "Table" "MOST_COLUMNS" 8 && (Hd.insB "Step" K && (Hd.kitsB "Step" ["NoneType", "bool", "int", "str", "list", "tuple", "dict"] K && (Hd.tupAtB K (Hd.kwAt ("Step", some "__init__") "named" K) [] && (Hd.tupAtB K (Hd.kwAt ("Step", some "__init__") "pairs" K) [] && (Hd.tupAtB K (Hd.kwAt ("Step", some "__init__") "sums" K) [] && true)))))) = true := (Bool.and_eq_true_iff.mp (exr_11 T)).2
theorem ex_12 (T : Tx K mg) : Hd.clsIntB K "Table" "MOST_COLUMNS" 8 = true := (Bool.and_eq_true_iff.mp (exr_12 T)).1
theorem exr_13 (T : Tx K mg) : (Hd.insB "Step" K && (Hd.kitsB "Step" ["NoneType", "bool", "int", "str", "list", "tuple", "dict"] K && (Hd.tupAtB K (Hd.kwAt ("Step", some "__init__") "named" K) [] && (Hd.tupAtB K (Hd.kwAt ("Step", some "__init__") "pairs" K) [] && (Hd.tupAtB K (Hd.kwAt ("Step", some "__init__") "sums" K) [] && true))))) = true := (Bool.and_eq_true_iff.mp (exr_12 T)).2
theorem ex_13 (T : Tx K mg) : Hd.insB "Step" K = true := (Bool.and_eq_true_iff.mp (exr_13 T)).1
theorem exr_14 (T : Tx K mg) : (Hd.kitsB "Step" ["NoneType", "bool", "int", "str", "list", "tuple", "dict"] K && (Hd.tupAtB K (Hd.kwAt ("Step", some "__init__") "named" K) [] && (Hd.tupAtB K (Hd.kwAt ("Step", some "__init__") "pairs" K) [] && (Hd.tupAtB K (Hd.kwAt ("Step", some "__init__") "sums" K) [] && true)))) = true := (Bool.and_eq_true_iff.mp (exr_13 T)).2
theorem ex_14 (T : Tx K mg) : Hd.kitsB "Step" ["NoneType", "bool", "int", "str", "list", "tuple", "dict"] K = true := (Bool.and_eq_true_iff.mp (exr_14 T)).1
theorem exr_15 (T : Tx K mg) : (Hd.tupAtB K (Hd.kwAt ("Step", some "__init__") "named" K) [] && (Hd.tupAtB K (Hd.kwAt ("Step", some "__init__") "pairs" K) [] && (Hd.tupAtB K (Hd.kwAt ("Step", some "__init__") "sums" K) [] && true))) = true := (Bool.and_eq_true_iff.mp (exr_14 T)).2
theorem ex_15 (T : Tx K mg) : Hd.tupAtB K (Hd.kwAt ("Step", some "__init__") "named" K) [] = true := (Bool.and_eq_true_iff.mp (exr_15 T)).1
theorem exr_16 (T : Tx K mg) : (Hd.tupAtB K (Hd.kwAt ("Step", some "__init__") "pairs" K) [] && (Hd.tupAtB K (Hd.kwAt ("Step", some "__init__") "sums" K) [] && true)) = true := (Bool.and_eq_true_iff.mp (exr_15 T)).2
theorem ex_16 (T : Tx K mg) : Hd.tupAtB K (Hd.kwAt ("Step", some "__init__") "pairs" K) [] = true := (Bool.and_eq_true_iff.mp (exr_16 T)).1
theorem exr_17 (T : Tx K mg) : (Hd.tupAtB K (Hd.kwAt ("Step", some "__init__") "sums" K) [] && true) = true := (Bool.and_eq_true_iff.mp (exr_16 T)).2
theorem ex_17 (T : Tx K mg) : Hd.tupAtB K (Hd.kwAt ("Step", some "__init__") "sums" K) [] = true := (Bool.and_eq_true_iff.mp (exr_17 T)).1
theorem f_has_twice (T : Tx K mg) : ∃ fd, FunD K d_has_twice.2.name d_has_twice.2.qual d_has_twice.2.params d_has_twice.2.body d_has_twice.2.scope (d_has_twice.2.dvs K) (d_has_twice.2.kws K) (d_has_twice.1 K) fd := T.says.fun_ 0 rfl
theorem f_is_name (T : Tx K mg) : ∃ fd, FunD K d_is_name.2.name d_is_name.2.qual d_is_name.2.params d_is_name.2.body d_is_name.2.scope (d_is_name.2.dvs K) (d_is_name.2.kws K) (d_is_name.1 K) fd := T.says.fun_ 1 rfl
theorem f_check_where (T : Tx K mg) : ∃ fd, FunD K d_check_where.2.name d_check_where.2.qual d_check_where.2.params d_check_where.2.body d_check_where.2.scope (d_check_where.2.dvs K) (d_check_where.2.kws K) (d_check_where.1 K) fd := T.says.fun_ 2 rfl
theorem f_check_compute (T : Tx K mg) : ∃ fd, FunD K d_check_compute.2.name d_check_compute.2.qual d_check_compute.2.params d_check_compute.2.body d_check_compute.2.scope (d_check_compute.2.dvs K) (d_check_compute.2.kws K) (d_check_compute.1 K) fd := T.says.fun_ 3 rfl
theorem f_check_equal (T : Tx K mg) : ∃ fd, FunD K d_check_equal.2.name d_check_equal.2.qual d_check_equal.2.params d_check_equal.2.body d_check_equal.2.scope (d_check_equal.2.dvs K) (d_check_equal.2.kws K) (d_check_equal.1 K) fd := T.says.fun_ 4 rfl
theorem f_check_keep (T : Tx K mg) : ∃ fd, FunD K d_check_keep.2.name d_check_keep.2.qual d_check_keep.2.params d_check_keep.2.body d_check_keep.2.scope (d_check_keep.2.dvs K) (d_check_keep.2.kws K) (d_check_keep.1 K) fd := T.says.fun_ 5 rfl
theorem f_check_distinct (T : Tx K mg) : ∃ fd, FunD K d_check_distinct.2.name d_check_distinct.2.qual d_check_distinct.2.params d_check_distinct.2.body d_check_distinct.2.scope (d_check_distinct.2.dvs K) (d_check_distinct.2.kws K) (d_check_distinct.1 K) fd := T.says.fun_ 6 rfl
theorem f_check_group (T : Tx K mg) : ∃ fd, FunD K d_check_group.2.name d_check_group.2.qual d_check_group.2.params d_check_group.2.body d_check_group.2.scope (d_check_group.2.dvs K) (d_check_group.2.kws K) (d_check_group.1 K) fd := T.says.fun_ 7 rfl
theorem f_check_sorted (T : Tx K mg) : ∃ fd, FunD K d_check_sorted.2.name d_check_sorted.2.qual d_check_sorted.2.params d_check_sorted.2.body d_check_sorted.2.scope (d_check_sorted.2.dvs K) (d_check_sorted.2.kws K) (d_check_sorted.1 K) fd := T.says.fun_ 8 rfl
theorem f_check_ruled (T : Tx K mg) : ∃ fd, FunD K d_check_ruled.2.name d_check_ruled.2.qual d_check_ruled.2.params d_check_ruled.2.body d_check_ruled.2.scope (d_check_ruled.2.dvs K) (d_check_ruled.2.kws K) (d_check_ruled.1 K) fd := T.says.fun_ 9 rfl
theorem f_check_plain (T : Tx K mg) : ∃ fd, FunD K d_check_plain.2.name d_check_plain.2.qual d_check_plain.2.params d_check_plain.2.body d_check_plain.2.scope (d_check_plain.2.dvs K) (d_check_plain.2.kws K) (d_check_plain.1 K) fd := T.says.fun_ 10 rfl
theorem f_refuse (T : Tx K mg) : ∃ fd, FunD K d_refuse.2.name d_refuse.2.qual d_refuse.2.params d_refuse.2.body d_refuse.2.scope (d_refuse.2.dvs K) (d_refuse.2.kws K) (d_refuse.1 K) fd := T.says.fun_ 11 rfl
theorem f_has_strange (T : Tx K mg) : ∃ fd, FunD K d_has_strange.2.name d_has_strange.2.qual d_has_strange.2.params d_has_strange.2.body d_has_strange.2.scope (d_has_strange.2.dvs K) (d_has_strange.2.kws K) (d_has_strange.1 K) fd := T.says.fun_ 12 rfl
theorem f_has_measure (T : Tx K mg) : ∃ fd, FunD K d_has_measure.2.name d_has_measure.2.qual d_has_measure.2.params d_has_measure.2.body d_has_measure.2.scope (d_has_measure.2.dvs K) (d_has_measure.2.kws K) (d_has_measure.1 K) fd := T.says.fun_ 13 rfl
theorem f_is_sum (T : Tx K mg) : ∃ fd, FunD K d_is_sum.2.name d_is_sum.2.qual d_is_sum.2.params d_is_sum.2.body d_is_sum.2.scope (d_is_sum.2.dvs K) (d_is_sum.2.kws K) (d_is_sum.1 K) fd := T.says.fun_ 14 rfl
theorem f_Table_init (T : Tx K mg) : ∃ fd, FunD K d_Table_init.2.name d_Table_init.2.qual d_Table_init.2.params d_Table_init.2.body d_Table_init.2.scope (d_Table_init.2.dvs K) (d_Table_init.2.kws K) (d_Table_init.1 K) fd := T.says.fun_ 15 rfl
theorem f_Table_eq (T : Tx K mg) : ∃ fd, FunD K d_Table_eq.2.name d_Table_eq.2.qual d_Table_eq.2.params d_Table_eq.2.body d_Table_eq.2.scope (d_Table_eq.2.dvs K) (d_Table_eq.2.kws K) (d_Table_eq.1 K) fd := T.says.fun_ 16 rfl
theorem f_Table_str (T : Tx K mg) : ∃ fd, FunD K d_Table_str.2.name d_Table_str.2.qual d_Table_str.2.params d_Table_str.2.body d_Table_str.2.scope (d_Table_str.2.dvs K) (d_Table_str.2.kws K) (d_Table_str.1 K) fd := T.says.fun_ 17 rfl
theorem f_fault_of (T : Tx K mg) : ∃ fd, FunD K d_fault_of.2.name d_fault_of.2.qual d_fault_of.2.params d_fault_of.2.body d_fault_of.2.scope (d_fault_of.2.dvs K) (d_fault_of.2.kws K) (d_fault_of.1 K) fd := T.says.fun_ 18 rfl
theorem f_are_unlike (T : Tx K mg) : ∃ fd, FunD K d_are_unlike.2.name d_are_unlike.2.qual d_are_unlike.2.params d_are_unlike.2.body d_are_unlike.2.scope (d_are_unlike.2.dvs K) (d_are_unlike.2.kws K) (d_are_unlike.1 K) fd := T.says.fun_ 19 rfl
theorem f_is_dealt (T : Tx K mg) : ∃ fd, FunD K d_is_dealt.2.name d_is_dealt.2.qual d_is_dealt.2.params d_is_dealt.2.body d_is_dealt.2.scope (d_is_dealt.2.dvs K) (d_is_dealt.2.kws K) (d_is_dealt.1 K) fd := T.says.fun_ 20 rfl
theorem f_row_of (T : Tx K mg) : ∃ fd, FunD K d_row_of.2.name d_row_of.2.qual d_row_of.2.params d_row_of.2.body d_row_of.2.scope (d_row_of.2.dvs K) (d_row_of.2.kws K) (d_row_of.1 K) fd := T.says.fun_ 21 rfl
theorem f_scan (T : Tx K mg) : ∃ fd, FunD K d_scan.2.name d_scan.2.qual d_scan.2.params d_scan.2.body d_scan.2.scope (d_scan.2.dvs K) (d_scan.2.kws K) (d_scan.1 K) fd := T.says.fun_ 22 rfl
theorem f_Step_init (T : Tx K mg) : ∃ fd, FunD K d_Step_init.2.name d_Step_init.2.qual d_Step_init.2.params d_Step_init.2.body d_Step_init.2.scope (d_Step_init.2.dvs K) (d_Step_init.2.kws K) (d_Step_init.1 K) fd := T.says.fun_ 23 rfl
theorem f_Step_where (T : Tx K mg) : ∃ fd, FunD K d_Step_where.2.name d_Step_where.2.qual d_Step_where.2.params d_Step_where.2.body d_Step_where.2.scope (d_Step_where.2.dvs K) (d_Step_where.2.kws K) (d_Step_where.1 K) fd := T.says.fun_ 24 rfl
theorem f_Step_compute (T : Tx K mg) : ∃ fd, FunD K d_Step_compute.2.name d_Step_compute.2.qual d_Step_compute.2.params d_Step_compute.2.body d_Step_compute.2.scope (d_Step_compute.2.dvs K) (d_Step_compute.2.kws K) (d_Step_compute.1 K) fd := T.says.fun_ 25 rfl
theorem f_Step_equal (T : Tx K mg) : ∃ fd, FunD K d_Step_equal.2.name d_Step_equal.2.qual d_Step_equal.2.params d_Step_equal.2.body d_Step_equal.2.scope (d_Step_equal.2.dvs K) (d_Step_equal.2.kws K) (d_Step_equal.1 K) fd := T.says.fun_ 26 rfl
theorem f_Step_keep (T : Tx K mg) : ∃ fd, FunD K d_Step_keep.2.name d_Step_keep.2.qual d_Step_keep.2.params d_Step_keep.2.body d_Step_keep.2.scope (d_Step_keep.2.dvs K) (d_Step_keep.2.kws K) (d_Step_keep.1 K) fd := T.says.fun_ 27 rfl
theorem f_Step_distinct (T : Tx K mg) : ∃ fd, FunD K d_Step_distinct.2.name d_Step_distinct.2.qual d_Step_distinct.2.params d_Step_distinct.2.body d_Step_distinct.2.scope (d_Step_distinct.2.dvs K) (d_Step_distinct.2.kws K) (d_Step_distinct.1 K) fd := T.says.fun_ 28 rfl
theorem f_Step_group_by (T : Tx K mg) : ∃ fd, FunD K d_Step_group_by.2.name d_Step_group_by.2.qual d_Step_group_by.2.params d_Step_group_by.2.body d_Step_group_by.2.scope (d_Step_group_by.2.dvs K) (d_Step_group_by.2.kws K) (d_Step_group_by.1 K) fd := T.says.fun_ 29 rfl
theorem f_Step_sort_by (T : Tx K mg) : ∃ fd, FunD K d_Step_sort_by.2.name d_Step_sort_by.2.qual d_Step_sort_by.2.params d_Step_sort_by.2.body d_Step_sort_by.2.scope (d_Step_sort_by.2.dvs K) (d_Step_sort_by.2.kws K) (d_Step_sort_by.1 K) fd := T.says.fun_ 30 rfl
theorem f_Step_own_by (T : Tx K mg) : ∃ fd, FunD K d_Step_own_by.2.name d_Step_own_by.2.qual d_Step_own_by.2.params d_Step_own_by.2.body d_Step_own_by.2.scope (d_Step_own_by.2.dvs K) (d_Step_own_by.2.kws K) (d_Step_own_by.1 K) fd := T.says.fun_ 31 rfl
theorem f_Step_split_by (T : Tx K mg) : ∃ fd, FunD K d_Step_split_by.2.name d_Step_split_by.2.qual d_Step_split_by.2.params d_Step_split_by.2.body d_Step_split_by.2.scope (d_Step_split_by.2.dvs K) (d_Step_split_by.2.kws K) (d_Step_split_by.1 K) fd := T.says.fun_ 32 rfl
theorem f_Step_broadcast (T : Tx K mg) : ∃ fd, FunD K d_Step_broadcast.2.name d_Step_broadcast.2.qual d_Step_broadcast.2.params d_Step_broadcast.2.body d_Step_broadcast.2.scope (d_Step_broadcast.2.dvs K) (d_Step_broadcast.2.kws K) (d_Step_broadcast.1 K) fd := T.says.fun_ 33 rfl
theorem f_Step_gather (T : Tx K mg) : ∃ fd, FunD K d_Step_gather.2.name d_Step_gather.2.qual d_Step_gather.2.params d_Step_gather.2.body d_Step_gather.2.scope (d_Step_gather.2.dvs K) (d_Step_gather.2.kws K) (d_Step_gather.1 K) fd := T.says.fun_ 34 rfl
theorem f_Step_merge_by (T : Tx K mg) : ∃ fd, FunD K d_Step_merge_by.2.name d_Step_merge_by.2.qual d_Step_merge_by.2.params d_Step_merge_by.2.body d_Step_merge_by.2.scope (d_Step_merge_by.2.dvs K) (d_Step_merge_by.2.kws K) (d_Step_merge_by.1 K) fd := T.says.fun_ 35 rfl
theorem f_Step_alike (T : Tx K mg) : ∃ fd, FunD K d_Step_alike.2.name d_Step_alike.2.qual d_Step_alike.2.params d_Step_alike.2.body d_Step_alike.2.scope (d_Step_alike.2.dvs K) (d_Step_alike.2.kws K) (d_Step_alike.1 K) fd := T.says.fun_ 36 rfl
theorem f_Step_grouped (T : Tx K mg) : ∃ fd, FunD K d_Step_grouped.2.name d_Step_grouped.2.qual d_Step_grouped.2.params d_Step_grouped.2.body d_Step_grouped.2.scope (d_Step_grouped.2.dvs K) (d_Step_grouped.2.kws K) (d_Step_grouped.1 K) fd := T.says.fun_ 37 rfl
theorem f_Lpen (T : Tx K mg) : ∃ fd, FunD K d_Lpen.2.name d_Lpen.2.qual d_Lpen.2.params d_Lpen.2.body d_Lpen.2.scope (d_Lpen.2.dvs K) (d_Lpen.2.kws K) (d_Lpen.1 K) fd := T.says.fun_ 38 rfl
theorem f_Ldraw (T : Tx K mg) : ∃ fd, FunD K d_Ldraw.2.name d_Ldraw.2.qual d_Ldraw.2.params d_Ldraw.2.body d_Ldraw.2.scope (d_Ldraw.2.dvs K) (d_Ldraw.2.kws K) (d_Ldraw.1 K) fd := T.says.fun_ 39 rfl
theorem f_Lpick (T : Tx K mg) : ∃ fd, FunD K d_Lpick.2.name d_Lpick.2.qual d_Lpick.2.params d_Lpick.2.body d_Lpick.2.scope (d_Lpick.2.dvs K) (d_Lpick.2.kws K) (d_Lpick.1 K) fd := T.says.fun_ 40 rfl
theorem f_Lsome (T : Tx K mg) : ∃ fd, FunD K d_Lsome.2.name d_Lsome.2.qual d_Lsome.2.params d_Lsome.2.body d_Lsome.2.scope (d_Lsome.2.dvs K) (d_Lsome.2.kws K) (d_Lsome.1 K) fd := T.says.fun_ 41 rfl
theorem f_Lnames (T : Tx K mg) : ∃ fd, FunD K d_Lnames.2.name d_Lnames.2.qual d_Lnames.2.params d_Lnames.2.body d_Lnames.2.scope (d_Lnames.2.dvs K) (d_Lnames.2.kws K) (d_Lnames.1 K) fd := T.says.fun_ 42 rfl
theorem f_Lwhere (T : Tx K mg) : ∃ fd, FunD K d_Lwhere.2.name d_Lwhere.2.qual d_Lwhere.2.params d_Lwhere.2.body d_Lwhere.2.scope (d_Lwhere.2.dvs K) (d_Lwhere.2.kws K) (d_Lwhere.1 K) fd := T.says.fun_ 43 rfl
theorem f_Lkeep (T : Tx K mg) : ∃ fd, FunD K d_Lkeep.2.name d_Lkeep.2.qual d_Lkeep.2.params d_Lkeep.2.body d_Lkeep.2.scope (d_Lkeep.2.dvs K) (d_Lkeep.2.kws K) (d_Lkeep.1 K) fd := T.says.fun_ 44 rfl
theorem f_Lsort (T : Tx K mg) : ∃ fd, FunD K d_Lsort.2.name d_Lsort.2.qual d_Lsort.2.params d_Lsort.2.body d_Lsort.2.scope (d_Lsort.2.dvs K) (d_Lsort.2.kws K) (d_Lsort.1 K) fd := T.says.fun_ 45 rfl
theorem f_Lmerge (T : Tx K mg) : ∃ fd, FunD K d_Lmerge.2.name d_Lmerge.2.qual d_Lmerge.2.params d_Lmerge.2.body d_Lmerge.2.scope (d_Lmerge.2.dvs K) (d_Lmerge.2.kws K) (d_Lmerge.1 K) fd := T.says.fun_ 46 rfl
theorem f_Lruled (T : Tx K mg) : ∃ fd, FunD K d_Lruled.2.name d_Lruled.2.qual d_Lruled.2.params d_Lruled.2.body d_Lruled.2.scope (d_Lruled.2.dvs K) (d_Lruled.2.kws K) (d_Lruled.1 K) fd := T.says.fun_ 47 rfl
theorem f_Lcompute (T : Tx K mg) : ∃ fd, FunD K d_Lcompute.2.name d_Lcompute.2.qual d_Lcompute.2.params d_Lcompute.2.body d_Lcompute.2.scope (d_Lcompute.2.dvs K) (d_Lcompute.2.kws K) (d_Lcompute.1 K) fd := T.says.fun_ 48 rfl
theorem f_Lgroup (T : Tx K mg) : ∃ fd, FunD K d_Lgroup.2.name d_Lgroup.2.qual d_Lgroup.2.params d_Lgroup.2.body d_Lgroup.2.scope (d_Lgroup.2.dvs K) (d_Lgroup.2.kws K) (d_Lgroup.1 K) fd := T.says.fun_ 49 rfl
theorem f_Labove (T : Tx K mg) : ∃ fd, FunD K d_Labove.2.name d_Labove.2.qual d_Labove.2.params d_Labove.2.body d_Labove.2.scope (d_Labove.2.dvs K) (d_Labove.2.kws K) (d_Labove.1 K) fd := T.says.fun_ 50 rfl
theorem f_Lnamed (T : Tx K mg) : ∃ fd, FunD K d_Lnamed.2.name d_Lnamed.2.qual d_Lnamed.2.params d_Lnamed.2.body d_Lnamed.2.scope (d_Lnamed.2.dvs K) (d_Lnamed.2.kws K) (d_Lnamed.1 K) fd := T.says.fun_ 51 rfl
theorem f_Lright (T : Tx K mg) : ∃ fd, FunD K d_Lright.2.name d_Lright.2.qual d_Lright.2.params d_Lright.2.body d_Lright.2.scope (d_Lright.2.dvs K) (d_Lright.2.kws K) (d_Lright.1 K) fd := T.says.fun_ 52 rfl
theorem f_law (T : Tx K mg) : ∃ fd, FunD K d_law.2.name d_law.2.qual d_law.2.params d_law.2.body d_law.2.scope (d_law.2.dvs K) (d_law.2.kws K) (d_law.1 K) fd := T.says.fun_ 53 rfl
end
end Pf
namespace Bs
open PySem PySem.Spec PyProof.Rows L2
variable {X : Cx}
/-! ### rules of our own -/
/-- f() by its name -/
theorem pe_c0 {k j : Nat} {x : Str} {sp : Sp} {dvs : List V} {p pos : Pos} (c : C8.Cal X.prog X.w X.K X.mg X.base k x sp dvs) (hr : Room j X.A) (hk : k ≤ j) (hg : Gl X x) (hdb : (x == ("__debug__" : Str)) = false := by decide) :
    PE X (.Call (.Name x p) [] [] pos) (fun _ H Q => sp dvs H Q C8.E0) := by
  obtain ⟨f, fd, ps, ds, F, hm, kp, b, d⟩ := c.ex
  exact pe_call0 F (hr.mono hk) hg hm kp b d C8.pass0 hdb
/-- a short text, some times -/
def rRepS : R2 := fun x y H Q => ∃ z k, x = .str z ∧ y = .int k ∧ 0 ≤ k ∧ k ≤ 1000 ∧ z.length ≤ 1000 ∧ Q (.str ⟨(List.replicate k.toNat z.cps.toList).flatten.toArray⟩) H
theorem rep_flat (n : Nat) (c : Array Nat) : (List.replicate n c).foldl (fun x y => x ++ y) #[] = (List.replicate n c.toList).flatten.toArray := by
  have h : ∀ (n : Nat) (a : Array Nat), (List.replicate n c).foldl (fun x y => x ++ y) a = a ++ (List.replicate n c.toList).flatten.toArray := by
    intro n
    induction n with
    | zero => intro a; simp
    | succ n ih =>
      intro a
      rw [List.replicate_succ, List.foldl_cons, ih, List.replicate_succ, List.flatten_cons, Array.append_assoc]
      refine congrArg (a ++ ·) ?_
      apply Array.ext'
      simp
  rw [h]
  simp
theorem op_rep_str : OpR X (binaryOp .Mult) rRepS := by
  intro pins s σ H x y v u Q I rx ry h
  obtain ⟨z, k, rfl, rfl, h0, h1, hz, q⟩ := h
  obtain ⟨t, rfl⟩ := rx
  obtain ⟨t', rfl⟩ := ry
  have fin : ∀ (c : Str), c = ⟨(List.replicate k.toNat z.cps.toList).flatten.toArray⟩ → ∀ (t : Tok) (tk : Nat), EP X pins σ Q (.str c t) { s with toks := tk } := fun c e t tk => ⟨.str c, H, I.tok _, ⟨_, rfl⟩, by rw [e]; exact q⟩
  refine P.mul_str (by simp; omega) (fun h2 _ => ?_) (fun h2 _ => ?_) ?_
  · have h3 : 0 < k := by omega
    have h4 : (9223372036854775807 : Int) / 1000 ≤ 9223372036854775807 / k := by
      apply Int.le_ediv_of_mul_le h3
      omega
    have : (2 : Int) ^ 63 - 1 = 9223372036854775807 := by decide
    rw [this]
    omega
  · have h3 : z.length * k.toNat ≤ 1000 * 1000 := Nat.mul_le_mul hz (by omega)
    show decide (_ > sizeLine) = false
    exact decide_eq_false (by have : sizeLine = 16777216 := rfl; omega)
  · split
    · rename_i h2
      have e : k = 0 := by omega
      subst e
      refine ⟨by decide, fin _ ?_ _ _⟩
      simp [Str.empty]
    · split
      · rename_i h2 h3
        refine fin z ?_ t s.toks
        simp only [Bool.or_eq_true, beq_iff_eq] at h3
        rcases h3 with h3 | h3
        · subst h3
          apply TL.ext_tl
          simp [TL.tl]
        · have e : z.cps = #[] := Array.size_eq_zero_iff.mp h3
          apply TL.ext_tl
          simp [TL.tl, e]
      · rw [rep_flat]
        refine ⟨?_, fin _ rfl _ _⟩
        have h3 : k.toNat * z.length ≤ 1000 * 1000 := Nat.mul_le_mul (by omega) hz
        have h4 : ((List.replicate k.toNat z.cps.toList).flatten.toArray).size = k.toNat * z.length := by simp [Str.length]
        show _ ≤ sizeLine
        have : sizeLine = 16777216 := rfl
        show ((List.replicate k.toNat z.cps.toList).flatten.toArray).size ≤ sizeLine
        omega
end Bs
namespace Bs
open PySem PySem.Spec PyProof.Rows L2
variable {X : Cx} {n k : Nat} {C f : Addr} {fd : FuncData} {ps : List Str}
/-! ### == and != by the class's own __eq__, both answers -/
/-- what the own == promises: D a y r says that the answer is r; the heap stays -/
def spCmp (D : Addr → V → Bool → Hp → Prop) : Sp := fun vs H Q _ => ∃ (a : Addr) (y : V) (r : Bool), vs = [.ref a, y] ∧ D a y r H ∧ Q (.bl r) H
structure OwnE (X : Cx) (n : Nat) (C : Addr) (D : Addr → V → Bool → Hp → Prop) : Prop where
  ex : ∃ (f : Addr) (fd : FuncData) (ps : List Str), FnOk X.prog X.w X.K X.mg X.base C8.CX0 n f fd ps (spCmp D) ∧ PySem.W.findIn X.K (.ref C) "__eq__" = some (some (.ref f)) ∧ PySem.W.isFn X.K (.ref f) = true ∧ Binds X.K fd ps []
  obj : PySem.W.mroIn X.K C (.type "object") = some true
  ne : PySem.W.findIn X.K (.ref C) "__ne__" = some (some (.builtin "object.__ne__"))
theorem own_call {A : Around} {pins : List (Addr × Obj)} {s : Shared} {σ : L2.St} {H : Hp} {a : Addr} {y : V} {v : Value} {r : Bool} {D : Addr → V → Bool → Hp → Prop} {E : Value → Shared → Prop} (F : FnOk X.prog X.w X.K X.mg X.base C8.CX0 n f fd ps (spCmp D)) (hb : Binds X.K fd ps [])
    (hr : Room n A) (hf : A.frames = X.A.frames) (I : Inv X pins σ H s) (ry : RelV y v) (d : D a y r H) : wpAny (model X.prog X.w) A (call (.ref f) [.ref a, v]) (fun u s' => u = .bool r ∧ Inv X pins σ H s') E s := by
  have hsp : spCmp D [.ref a, y] H (fun v H' => v = .bl r ∧ H' = H) C8.E0 := ⟨a, y, r, rfl, d, rfl, rfl⟩
  have e0 : Env0 X.prog X.w X.K X.mg X.base A X.stack s H := by
    have e := I.env0
    exact ⟨by rw [hf]; exact e.frames, e.mod, e.bs, e.bsz, e.funs, e.frf, e.hok, e.bare⟩
  have hl := F.len _ _ _ _ hsp
  have r2 : Vals [V.ref a, y] [Value.ref a, v] := .cons rfl (.cons ry .nil)
  refine wpAny_call (codeAny_mono (F.run A X.stack s H ⟨[.ref a, v], []⟩ [.ref a, v] [.ref a, y] _ C8.E0 hr e0 (by
    have := hb s [.ref a, v] I.kIn (by simpa using hl)
    simpa using this) r2 hsp) fun r s' hq => ?_)
  cases r with
  | error e => exact hq.elim
  | ok fl =>
    cases fl with
    | ret w =>
      obtain ⟨z, H', I', rz, ez, ex⟩ := I.after hq
      subst ez ex
      cases rz
      exact ⟨rfl, I'⟩
    | next => exact False.elim hq
    | brk => exact False.elim hq
    | cont => exact False.elim hq
def rEqO (K : PySem.W.Frag) (C : Addr) (D : Addr → V → Bool → Hp → Prop) (g : Bool → Bool) : R2 := fun x y H Q => ∃ (a dx : Addr) (fs : List (Str × V)) (t : Value) (r : Bool), x = .ref a ∧ H a = some (.ins C dx fs) ∧ TyX K H y t ∧ PySem.W.notFirst K C t = true ∧ D a y r H ∧ Q (.bl (g r)) H
theorem op_eqO {D : Addr → V → Bool → Hp → Prop} (O : OwnE X n C D) (hr : Room n X.A) : OpR X (compareOp .Eq) (rEqO X.K C D id) := by
  intro pins s σ H x y v u Q I rx ry h
  obtain ⟨a, dx, fs, t, r, rfl, ha, ty, nf, d, q⟩ := h
  obtain ⟨f, fd, ps, F, hs, hf, hb⟩ := O.ex
  cases rx
  obtain ⟨mA, J, _⟩ := ins_get I.hok ha
  obtain ⟨od, J, _⟩ := J.look
  obtain ⟨m, hF⟩ := I.fr
  obtain ⟨P, kx, hP, _⟩ := kit_of I ry ty
  refine PySem.W.cmp_ofEq (PySem.W.cmp_K (op := .Eq) (tb := t) hr.units0 hF I.ok.mod.kin J (kx.ty _ _ I.kIn hP) nf hs hf ?_)
  refine wpAny_mono (own_call F hb hr rfl I ry d) (fun u s' ⟨eu, I'⟩ => ?_) fun _ _ x => x
  subst eu
  exact ⟨.bl r, H, I', rfl, q⟩
theorem op_neO {D : Addr → V → Bool → Hp → Prop} (O : OwnE X n C D) (hr : Room (n + 1) X.A) : OpR X (compareOp .NotEq) (rEqO X.K C D not) := by
  intro pins s σ H x y v u Q I rx ry h
  obtain ⟨a, dx, fs, t, r, rfl, ha, ty, nf, d, q⟩ := h
  obtain ⟨f, fd, ps, F, hs, hf, hb⟩ := O.ex
  cases rx
  obtain ⟨mA, J, _⟩ := ins_get I.hok ha
  obtain ⟨od, J, _⟩ := J.look
  obtain ⟨P, kx, hP, _⟩ := kit_of I ry ty
  have K0 : X.K.In s.heap := I.kIn
  have tl : PySem.W.Looks (model X.prog X.w) s.heap (typeOf u) t := kx.ty _ _ K0 hP
  have ifb : ∀ (Q' : Option Value → Shared → Prop), (∀ s', Inv X pins σ H s' → Q' (some (.bool r)) s') → wpAny (model X.prog X.w) X.A.in1 (callSpecialIfBound? (.ref a) "__eq__" [u]) Q' X.xe s := fun Q' hq =>
    PySem.W.ifBound_K K0 J hs hf (wpAny_mono (own_call F hb hr.in1 rfl I ry d) (fun v s' ⟨e, I'⟩ => by subst e; exact hq s' I') fun _ _ x => x)
  have hu := hr.in1.units0
  have body : ∀ (Q' : Fin → Shared → Prop), (∀ s', Inv X pins σ H s' → Q' (.done (.ret (.bool (!r)))) s') → wpAny (model X.prog X.w) X.A.in1 (Builtin.«object.__ne__» ⟨[.ref a, u], []⟩) Q' X.xe s := fun Q' hq => by
    unfold Builtin.«object.__ne__»
    repeat (first | with_reducible refine wpAny_cRoomFor hu ?_ | with_reducible refine wpAny_bind (ifb _ fun s' I' => ?_) | wp_step)
    exact hq s' I'
  have ifn : ∀ (Q' : Option Value → Shared → Prop), (∀ s', Inv X pins σ H s' → Q' (some (.bool (!r))) s') → wpAny (model X.prog X.w) X.A (callSpecialIfBound? (.ref a) "__ne__" [u]) Q' X.xe s := fun Q' hq => by
    have cl : ∀ (Q2 : Value → Shared → Prop), (∀ s', Inv X pins σ H s' → Q2 (.bool (!r)) s') → wpAny (model X.prog X.w) X.A (call (.builtin "object.__ne__") [.ref a, u]) Q2 X.xe s := fun Q2 h2 =>
      wpAny_call (codeAny_call_builtin PySem.F.cmp_object.ne.plain PySem.F.cmpEntry_ne (PySem.W.check_slot PySem.F.cmpKind_ne PySem.F.cmpSplit_ne (J.type.andThen (PySem.W.looks_mroIn K0 O.obj)) (PySem.F.cmpArgs_ne _ _) (body _ fun s' I' => h2 s' I')))
    have fin : wpAny (model X.prog X.w) X.A (call (.builtin "object.__ne__") ([.ref a] ++ [u]) >>= fun v => pure (some v)) Q' X.xe s := wpAny_bind (cl _ fun s' I' => wpAny_pure (hq s' I'))
    simp only [callSpecialIfBound?, bindSpecialIfBound?]
    refine wpAny_holding (wpAny_bind (wpAny_bind (wpAny_bind (J.type.here ((PySem.W.looks_findIn K0 O.ne).here ?_)))))
    refine wpAny_bind (wpAny_askSetting (wpAny_ite ?_))
    split
    · exact wpAny_bind (wpAny_of_eq (PySem.F.cmp_object.ne.bind _) (wpAny_pure (by exact fin)))
    · exact wpAny_tryCatch (wpAny_bind (wpAny_of_eq (PySem.F.cmp_object.ne.bind _) (wpAny_pure (by exact fin))))
  have one : wpAny (model X.prog X.w) X.A (tryCompare (.ref a) "__ne__" u) (fun z s' => z = some (.bool (!r)) ∧ Inv X pins σ H s') X.xe s := by
    unfold tryCompare
    exact wpAny_bind (ifn _ fun s' I' => wpAny_pure ⟨rfl, I'⟩)
  refine PySem.W.cmp_ofNotEq ?_
  unfold richCompare
  simp only [oneThing_ref]
  refine wpAny_holding (wpAny_bind (wpAny_cRoomFor hr.units0 ?_))
  refine wpAny_bind (J.type.here (wpAny_bind (tl.here ?_)))
  split
  · rename_i z
    have e : PySem.W.subIn X.K t (.ref C) = some false := by
      rcases Bool.or_eq_true_iff.mp nf with e | e
      · rw [beq_iff_eq.mp e] at z; simp at z
      · exact beq_iff_eq.mp e
    refine wpAny_bind ((PySem.W.looks_subIn K0 e).here ?_)
    simp only [Bool.false_eq_true, if_false]
    refine wpAny_bind (wpAny_mono one (fun z s' hz => ?_) fun _ _ e => e)
    obtain ⟨rfl, I'⟩ := hz
    exact wpAny_pure ⟨.bl (!r), H, I', rfl, q⟩
  · refine wpAny_bind (wpAny_pure ?_)
    simp only [Bool.false_eq_true, if_false]
    refine wpAny_bind (wpAny_mono one (fun z s' hz => ?_) fun _ _ e => e)
    obtain ⟨rfl, I'⟩ := hz
    exact wpAny_pure ⟨.bl (!r), H, I', rfl, q⟩
end Bs
namespace Bs
open PySem PySem.Spec PyProof.Rows L2
variable {X : Cx} {n k : Nat} {C f : Addr} {fd : FuncData} {ps : List Str}
/-! ### max(ints, default=d) -/
def rMaxD (K : PySem.W.Frag) : List V → List V → Hp → VK → Prop := fun vs zs H Q => ∃ (a : Addr) (ns : List Int) (d : Int), vs = [.ref a] ∧ zs = [.int d] ∧ SqL K H a (ns.map V.int) ∧
  ∀ m : Int, (ns = [] → m = d) → (ns ≠ [] → m ∈ ns ∧ ∀ k ∈ ns, k ≤ m) → Q (.int m) H
def big (y : Int) (ys : List Int) : Int := ys.foldl (fun a z => if decide (a < z) = true then z else a) y
theorem big_ge : ∀ (ys : List Int) (y : Int), y ≤ big y ys ∧ (∀ k ∈ ys, k ≤ big y ys) ∧ (big y ys = y ∨ big y ys ∈ ys)
  | [], y => ⟨Int.le_refl y, (fun k h => by cases h), .inl rfl⟩
  | z :: r, y => by
    have e : big y (z :: r) = big (if decide (y < z) = true then z else y) r := rfl
    obtain ⟨h1, h2, h3⟩ := big_ge r (if decide (y < z) = true then z else y)
    rw [e]
    by_cases c : y < z
    · rw [if_pos (decide_eq_true c)] at h1 h2 h3 ⊢
      refine ⟨by omega, fun k hk => ?_, .inr ?_⟩
      · rcases List.mem_cons.mp hk with q | q
        · rw [q]; exact h1
        · exact h2 k q
      · rcases h3 with q | q
        · rw [q]; exact List.mem_cons_self
        · exact List.mem_cons_of_mem _ q
    · rw [if_neg (by simpa using c)] at h1 h2 h3 ⊢
      refine ⟨h1, fun k hk => ?_, ?_⟩
      · rcases List.mem_cons.mp hk with q | q
        · omega
        · exact h2 k q
      · rcases h3 with q | q
        · exact .inl q
        · exact .inr (List.mem_cons_of_mem _ q)
theorem cr_maxD (hc : X.calm = true) (hu : X.A.units + 1 < cLine) : CallRK X (.builtin "max") ["default"] (rMaxD X.K) := by
  intro pins s σ H xs zs us ws Q I r rz h
  obtain ⟨a, ns, d, rfl, rfl, hs, q⟩ := h
  obtain ⟨its, rv, hl, _⟩ := I.list hs
  obtain ⟨w', ew, rw'⟩ := vals1 rz
  subst ew
  obtain ⟨t, rfl⟩ := rw'
  rw [Vals.ref1 r]
  show wpAny _ _ (call (.builtin "max") [.ref a] [(Str.ofString "default", .int d t)]) _ _ _
  refine PySem.W.max_list_datum_default (α := Int) (xs := ns) (I.ok.hd hc) hl.isList (PySem.W.HoldAll.of_ints (by simpa using rv.ints)) (by show X.A.units + 1 + 0 < cLine; exact hu) (fun e h' tk hk => ?_) fun y ys i v h' tk e hi hv hk => ?_
  · exact ⟨.int d, H, I.kept hk, ⟨_, rfl⟩, q d (fun _ => rfl) fun z => absurd e z⟩
  · obtain ⟨t', rfl⟩ := PySem.W.int_of_holds hv
    have eb : PySem.W.maxOf y ys = big y ys := rfl
    rw [eb]
    obtain ⟨h1, h2, h3⟩ := big_ge ys y
    refine ⟨.int (big y ys), H, I.kept hk, ⟨_, rfl⟩, q _ (fun z => by rw [e] at z; cases z) fun _ => ?_⟩
    rw [e]
    refine ⟨?_, fun k hk => ?_⟩
    · rcases h3 with z | z
      · rw [z]; exact List.mem_cons_self
      · exact List.mem_cons_of_mem _ z
    · rcases List.mem_cons.mp hk with z | z
      · rw [z]; exact h1
      · exact h2 k z
/-! ### str(o) by the class's own __str__ -/
def spStr (D : Addr → Str → Hp → Prop) : Sp := fun vs H Q _ => ∃ (a : Addr) (x : Str), vs = [.ref a] ∧ D a x H ∧ Q (.str x) H
structure OwnS (X : Cx) (n : Nat) (C : Addr) (D : Addr → Str → Hp → Prop) : Prop where
  ex : ∃ (f : Addr) (fd : FuncData) (ps : List Str), FnOk X.prog X.w X.K X.mg X.base C8.CX0 n f fd ps (spStr D) ∧ PySem.W.findIn X.K (.ref C) "__str__" = some (some (.ref f)) ∧ PySem.W.isFn X.K (.ref f) = true ∧ Binds X.K fd ps []
theorem call_strO {D : Addr → Str → Hp → Prop} (O : OwnS X n C D) (hr : Room (n + 2) X.A) : CallR X (.type "str") (fun xs H Q => ∃ (a dx : Addr) (fs : List (Str × V)) (x : Str), xs = [.ref a] ∧ H a = some (.ins C dx fs) ∧ D a x H ∧ Q (.str x) H) := by
  intro pins s σ H xs us Q I r h
  obtain ⟨a, dx, fs, x, rfl, ha, d, q⟩ := h
  obtain ⟨f, fd, ps, F, hs, hf, hb⟩ := O.ex
  obtain ⟨u, rfl, ru⟩ := vals1 r
  cases ru
  obtain ⟨mA, J, _⟩ := ins_get I.hok ha
  obtain ⟨od, J, _⟩ := J.look
  have hsp : spStr D [.ref a] H (fun v H' => v = .str x ∧ H' = H) C8.E0 := ⟨a, x, rfl, d, rfl, rfl⟩
  have e0 : Env0 X.prog X.w X.K X.mg X.base X.A.in1.in1 X.stack s H := by
    have e := I.env0
    exact ⟨e.frames, e.mod, e.bs, e.bsz, e.funs, e.frf, e.hok, e.bare⟩
  have hl := F.len _ _ _ _ hsp
  have r2 : Vals [V.ref a] [Value.ref a] := .cons rfl .nil
  have hr2 : Room n X.A.in1.in1 := hr.in1.in1
  refine PySem.W.kso_call hr2.units0 I.kIn J hs hf (wpAny_call (codeAny_mono (F.run X.A.in1.in1 X.stack s H ⟨[.ref a], []⟩ [.ref a] [.ref a] _ C8.E0 hr2 e0 (by
    have := hb s [.ref a] I.kIn (by simpa using hl)
    simpa using this) r2 hsp) fun r s' hq => ?_))
  cases r with
  | error e => exact hq.elim
  | ok fl =>
    cases fl with
    | ret w =>
      obtain ⟨z, H', I', rz, ez, ex⟩ := I.after hq
      subst ez ex
      obtain ⟨t, rfl⟩ := rz
      exact ⟨.str x, _, I', ⟨t, rfl⟩, q⟩
    | next => exact False.elim hq
    | brk => exact False.elim hq
    | cont => exact False.elim hq
end Bs
namespace Bs
open PySem PySem.Spec PyProof.Rows L2
variable {X : Cx} {K : PySem.W.Frag}
/-! ### rules whose reading names the written part itself -/
theorem pe_fldK {e : Expr} {f : Str} {pos : Pos} {ta : TE} (hK : X.K = K) (he : PE X e ta) (hb : attributeBase e f X.env (eval e X.env) = eval e X.env) : PE X (.Attribute e f pos) (tFld K ta f) := by
  subst hK
  exact pe_fld he hb
theorem ix_listK (hK : X.K = K) : IxR X (rIxL K) := by subst hK; exact ix_list
theorem ix_tupK (hK : X.K = K) : IxR X (rIxT K) := by subst hK; exact ix_tup
def rLenSeq (K : PySem.W.Frag) : List V → Hp → VK → Prop := fun xs H Q => ∃ (p : Addr) (ys : List V), xs = [.ref p] ∧ (SqL K H p ys ∨ SqT K H p ys) ∧ Q (.int (ys.length : Nat)) H
theorem call_len_seqK (hK : X.K = K) : CallR X (.builtin "len") (rLenSeq K) := by subst hK; exact call_len_seq
theorem call_isiK' (hK : X.K = K) : CallR X (.builtin "isinstance") (rIsi K) := by subst hK; exact call_isi
theorem pi_listK {tg l : Expr} {tl : TE} (hK : X.K = K) (hl : PE X l tl) : PI X tg l (iList K tl) := by subst hK; exact pi_list hl
theorem pi_tupK {tg l : Expr} {tl : TE} (hK : X.K = K) (hl : PE X l tl) : PI X tg l (iTup K tl) := by subst hK; exact pi_tup hl
theorem op_in_seqK (hK : X.K = K) : OpR X (compareOp .In) (rIn K false) := by subst hK; exact op_in_seq
/-! ### calls with keywords alone -/
structure CalK (P : Program) (w : World) (K : PySem.W.Frag) (mg : Str → Option Value) (base : Heap) (k : Nat) (x : Str) (sp : Sp) (ks : List Str) (gV : List V → List V) : Prop where
  ex : ∃ (f : Addr) (fd : FuncData) (ps : List Str) (g : List Value → List Value → List Value), FnOk P w K mg base C8.CX0 k f fd ps sp ∧ mg x = some (.ref f) ∧ PySem.W.keepIn K (.ref f) = true ∧ KBn K fd ps 0 ks g (fun _ zs => gV zs)
structure MakK (P : Program) (w : World) (K : PySem.W.Frag) (mg : Str → Option Value) (base : Heap) (k : Nat) (x : Str) (C : Addr) (sp : Sp) (ks : List Str) : Prop where
  ex : ∃ (f : Addr) (fd : FuncData) (ps : List Str) (g : List Value → List Value → List Value), Mk K C f ∧ FnOk P w K mg base C8.CX0 k f fd ps sp ∧ mg x = some (.ref C) ∧ KBn K fd ps 1 ks g (fun vs zs => vs ++ zs)
section
variable {k j : Nat} {x : Str} {sp : Sp} {ks : List Str} {gV : List V → List V} {p pos : Pos} {kws : List Keyword} {tk : TA} {C : Addr}
theorem pe_k (c : CalK X.prog X.w X.K X.mg X.base k x sp ks gV) (hr : Room j X.A) (hk : k ≤ j) (hg : Gl X x) (hkw : PK X kws tk)
    (hall : (backToKw pos (keywordEach kws X.env)).all (·.1.isSome) = true := by rfl) (hks : (backToKw pos (keywordEach kws X.env)).filterMap (·.1) = ks := by rfl) (hdb : (x == ("__debug__" : Str)) = false := by decide)
    (hpl : ((backTo pos (starEach [] X.env)).any (·.1) || (backToKw pos (keywordEach kws X.env)).any (·.1.isNone)) = false := by rfl) :
    PE X (.Call (.Name x p) [] kws pos) (fun σ H Q => tk σ H fun zs H1 => zs.length = ks.length ∧ sp (gV zs) H1 Q C8.E0) := by
  obtain ⟨f, fd, ps, g, F, hm, kp, hb⟩ := c.ex
  refine ⟨fun pins s σ H Q I h => ?_⟩
  refine wpAny_Call_Name_kw (ld_glob I hg hm ?_ hdb)
  refine PySem.W.callWith_KW0 (h₀ := X.base) I.ok.mod.kin kp hall ?_ hpl
  refine thn (hkw.run pos pins s σ H _ I h) fun ws s2 ⟨zs, H2, I2, rz, l2, q2⟩ => ⟨I2.kIn, ?_⟩
  rw [hks]
  exact run_fnN (us := []) (vs := []) F (hr.mono hk) hb C8.pass0 I2 .nil rz rfl l2 q2
theorem pe_mkk (c : MakK X.prog X.w X.K X.mg X.base k x C sp ks) (hr : Room j X.A) (hk : k + 1 ≤ j) (hg : Gl X x) (hkw : PK X kws tk)
    (hall : (backToKw pos (keywordEach kws X.env)).all (·.1.isSome) = true := by rfl) (hks : (backToKw pos (keywordEach kws X.env)).filterMap (·.1) = ks := by rfl) (hdb : (x == ("__debug__" : Str)) = false := by decide)
    (hpl : ((backTo pos (starEach [] X.env)).any (·.1) || (backToKw pos (keywordEach kws X.env)).any (·.1.isNone)) = false := by rfl) :
    PE X (.Call (.Name x p) [] kws pos) (tMakeK C 0 ks.length sp (fun vs zs => vs ++ zs) C8.E0 tNil tk) := by
  obtain ⟨f, fd, ps, g, M, F, hm, hb⟩ := c.ex
  exact pe_makeK0 M F (hr.mono hk) hg hm hb C8.pass0 hkw hall hks hdb hpl
end
end Bs
namespace Bs
open PySem PySem.Spec PyProof.Rows L2
/-! ### zip(list, tuple), zip(list, list, list) -/
section mk
variable {prog : Program} {w : World} {A : Around} {E : Value → Shared → Prop} {s : Shared}
abbrev itO (T : String) (l : Addr) : Obj := { cls := .type T, data := .fields #[.ref l, .int 0 0] }
abbrev tuO (vs : Array Value) : Obj := { cls := .type "tuple", data := .seq vs }
abbrev ziO (a b : Addr) : Obj := { cls := .type "zip", data := .fields #[.none, .bool false, .bool false, .ref a, .ref b] }
abbrev zm2 (h : Heap) (l t : Addr) : Heap := (h.push (itO "list_iterator" l)).push (itO "tuple_iterator" t)
abbrev zm3 (h : Heap) (l t : Addr) : Heap := (zm2 h l t).push (tuO #[.ref h.objs.size, .ref (h.push (itO "list_iterator" l)).objs.size])
abbrev zm4 (h : Heap) (l t : Addr) : Heap := (zm3 h l t).push (tuO #[.none, .none])
abbrev zm5 (h : Heap) (l t : Addr) : Heap := (zm4 h l t).push (ziO (zm2 h l t).objs.size (zm3 h l t).objs.size)
theorem meets_zm (l t : Addr) (xs ys : Array Value) : Meets (Builtin.«zip.__new__» ⟨[.type "zip", .ref l, .ref t], []⟩) (fun _ R s => s.heap.IsList l xs ∧ s.heap.IsTuple t ys ∧ R (.ok (.ret (.ref (zm4 s.heap l t).objs.size))) { s with heap := zm5 s.heap l t }) :=
  .of_wp fun prog w A R s ⟨hl, ht, h⟩ => by
    obtain ⟨hp, g, d, tk, os⟩ := s
    have hsub := sub_zip
    have a1 : Heap.IsList (Shared.heap ⟨hp, g, d, tk, os⟩) l xs := hl
    have a2 : Heap.IsTuple (Shared.heap ⟨hp.push (itO "list_iterator" l), g, d, tk, os⟩) t ys := Heap.IsTuple.push ht _
    wp_walk using wpAny_pyIter_list a1, wpAny_pyIter_tuple a2
    exact ⟨_, rfl, h⟩
theorem call_zm {l t : Addr} {xs ys : Array Value} {Q : Value → Shared → Prop} (hl : s.heap.IsList l xs) (ht : s.heap.IsTuple t ys)
    (h : ∀ h' : Heap, IsZip h' (s.heap.objs.size + 4) (s.heap.objs.size + 2) (s.heap.objs.size + 3) .none → IsTupOf2 h' (s.heap.objs.size + 2) (.ref s.heap.objs.size) (.ref (s.heap.objs.size + 1)) → IsTupOf2 h' (s.heap.objs.size + 3) .none .none →
      h'.IsListIter s.heap.objs.size l 0 → h'.IsTupleIter (s.heap.objs.size + 1) t 0 → (∀ c o, s.heap.get? c = some o → h'.get? c = some o) → Q (.ref (s.heap.objs.size + 4)) { s with heap := h' }) : wpAny (model prog w) A (call (.type "zip") [.ref l, .ref t]) Q E s := by
  refine callType_new F.called_zip (by decide) (F.typeCall_zip_2 _ _) (F.newCall_zip_2 _ _) (fun obj => F.args_object_init_3 obj _ _) F.entry_zip_new (meets_zm l t xs ys) ⟨hl, ht, ?_⟩
  have e1 : (s.heap.push (itO "list_iterator" l)).objs.size = s.heap.objs.size + 1 := Heap.size_push ..
  have e2 : (zm2 s.heap l t).objs.size = s.heap.objs.size + 2 := by rw [Heap.size_push, e1]
  have e3 : (zm3 s.heap l t).objs.size = s.heap.objs.size + 3 := by rw [Heap.size_push, e2]
  have e4 : (zm4 s.heap l t).objs.size = s.heap.objs.size + 4 := by rw [Heap.size_push, e3]
  have g5 : (zm5 s.heap l t).get? (zm4 s.heap l t).objs.size = some _ := Heap.get?_push_size _ rfl
  have g4 : (zm5 s.heap l t).get? (zm3 s.heap l t).objs.size = some _ := Heap.get?_push_of_some _ (Heap.get?_push_size _ rfl)
  have g3 : (zm5 s.heap l t).get? (zm2 s.heap l t).objs.size = some _ := Heap.get?_push_of_some _ (Heap.get?_push_of_some _ (Heap.get?_push_size _ rfl))
  have g2 : (zm5 s.heap l t).get? (s.heap.push (itO "list_iterator" l)).objs.size = some _ := Heap.get?_push_of_some _ (Heap.get?_push_of_some _ (Heap.get?_push_of_some _ (Heap.get?_push_size _ rfl)))
  have g1 : (zm5 s.heap l t).get? s.heap.objs.size = some _ := Heap.get?_push_of_some _ (Heap.get?_push_of_some _ (Heap.get?_push_of_some _ (Heap.get?_push_of_some _ (Heap.get?_push_size _ rfl))))
  rw [e4] at g5
  rw [e3] at g4
  rw [e2] at g3
  rw [e1] at g2
  show _ ∧ _
  rw [e4]
  refine ⟨⟨_, g5, rfl⟩, h _ ?_ ?_ g4 ⟨_, g1, rfl, rfl⟩ ⟨_, g2, rfl, rfl⟩ fun c o x => Heap.get?_push_of_some _ (Heap.get?_push_of_some _ (Heap.get?_push_of_some _ (Heap.get?_push_of_some _ (Heap.get?_push_of_some _ x))))⟩
  · rw [e2, e3] at g5; exact g5
  · rw [e1] at g3; exact g3
theorem typeCall_z3 (a b c : Value) : checkTypeCall "zip" ⟨[a, b, c], []⟩ = pure () := by kernel_rfl
theorem newCall_z3 (a b c : Value) : checkBuiltinCall "zip.__new__" ⟨[.type "zip", a, b, c], []⟩ = pure () := by kernel_rfl
theorem argsInit4 (a b c d : Value) : argsOk "object.__init__" ⟨[a, b, c, d], []⟩ := by
  unfold argsOk
  rw [signature?_of (id := "object.__init__") (n := ['_', '_', 't', 'i', 'n', 'i', '_', '_']) (o := ['t', 'c', 'e', 'j', 'b', 'o']) (by kernel_rfl) F.owner_object]
  kernel_rfl
abbrev zt1 (h : Heap) (a : Addr) : Heap := h.push (itO "list_iterator" a)
abbrev zt2 (h : Heap) (a b : Addr) : Heap := (zt1 h a).push (itO "list_iterator" b)
abbrev zt3 (h : Heap) (a b c : Addr) : Heap := (zt2 h a b).push (itO "list_iterator" c)
abbrev zt4 (h : Heap) (a b c : Addr) : Heap := (zt3 h a b c).push (tuO #[.ref h.objs.size, .ref (zt1 h a).objs.size, .ref (zt2 h a b).objs.size])
abbrev zt5 (h : Heap) (a b c : Addr) : Heap := (zt4 h a b c).push (tuO #[.none, .none, .none])
abbrev zt6 (h : Heap) (a b c : Addr) : Heap := (zt5 h a b c).push (ziO (zt3 h a b c).objs.size (zt4 h a b c).objs.size)
theorem meets_zt (a b c : Addr) (xs ys zs : Array Value) : Meets (Builtin.«zip.__new__» ⟨[.type "zip", .ref a, .ref b, .ref c], []⟩) (fun _ R s => s.heap.IsList a xs ∧ s.heap.IsList b ys ∧ s.heap.IsList c zs ∧ R (.ok (.ret (.ref (zt5 s.heap a b c).objs.size))) { s with heap := zt6 s.heap a b c }) :=
  .of_wp fun prog w A R s ⟨ha, hb, hc, h⟩ => by
    obtain ⟨hp, g, d, tk, os⟩ := s
    have hsub := sub_zip
    have a1 : Heap.IsList (Shared.heap ⟨hp, g, d, tk, os⟩) a xs := ha
    have a2 : Heap.IsList (Shared.heap ⟨zt1 hp a, g, d, tk, os⟩) b ys := Heap.IsList.push hb _
    have a3 : Heap.IsList (Shared.heap ⟨zt2 hp a b, g, d, tk, os⟩) c zs := Heap.IsList.push (Heap.IsList.push hc _) _
    wp_walk using wpAny_pyIter_list a1, wpAny_pyIter_list a2, wpAny_pyIter_list a3
    exact ⟨_, rfl, h⟩
theorem call_zt {a b c : Addr} {xs ys zs : Array Value} {Q : Value → Shared → Prop} (ha : s.heap.IsList a xs) (hb : s.heap.IsList b ys) (hc : s.heap.IsList c zs)
    (h : ∀ h' : Heap, IsZip h' (s.heap.objs.size + 5) (s.heap.objs.size + 3) (s.heap.objs.size + 4) .none → IsTupOf3 h' (s.heap.objs.size + 3) (.ref s.heap.objs.size) (.ref (s.heap.objs.size + 1)) (.ref (s.heap.objs.size + 2)) → IsTupOf3 h' (s.heap.objs.size + 4) .none .none .none →
      h'.IsListIter s.heap.objs.size a 0 → h'.IsListIter (s.heap.objs.size + 1) b 0 → h'.IsListIter (s.heap.objs.size + 2) c 0 → (∀ c o, s.heap.get? c = some o → h'.get? c = some o) → Q (.ref (s.heap.objs.size + 5)) { s with heap := h' }) : wpAny (model prog w) A (call (.type "zip") [.ref a, .ref b, .ref c]) Q E s := by
  refine callType_new F.called_zip (by decide) (typeCall_z3 _ _ _) (newCall_z3 _ _ _) (fun obj => argsInit4 obj _ _ _) F.entry_zip_new (meets_zt a b c xs ys zs) ⟨ha, hb, hc, ?_⟩
  have e1 : (zt1 s.heap a).objs.size = s.heap.objs.size + 1 := Heap.size_push ..
  have e2 : (zt2 s.heap a b).objs.size = s.heap.objs.size + 2 := by rw [Heap.size_push, e1]
  have e3 : (zt3 s.heap a b c).objs.size = s.heap.objs.size + 3 := by rw [Heap.size_push, e2]
  have e4 : (zt4 s.heap a b c).objs.size = s.heap.objs.size + 4 := by rw [Heap.size_push, e3]
  have e5 : (zt5 s.heap a b c).objs.size = s.heap.objs.size + 5 := by rw [Heap.size_push, e4]
  have g6 : (zt6 s.heap a b c).get? (zt5 s.heap a b c).objs.size = some _ := Heap.get?_push_size _ rfl
  have g5 : (zt6 s.heap a b c).get? (zt4 s.heap a b c).objs.size = some _ := Heap.get?_push_of_some _ (Heap.get?_push_size _ rfl)
  have g4 : (zt6 s.heap a b c).get? (zt3 s.heap a b c).objs.size = some _ := Heap.get?_push_of_some _ (Heap.get?_push_of_some _ (Heap.get?_push_size _ rfl))
  have g3 : (zt6 s.heap a b c).get? (zt2 s.heap a b).objs.size = some _ := Heap.get?_push_of_some _ (Heap.get?_push_of_some _ (Heap.get?_push_of_some _ (Heap.get?_push_size _ rfl)))
  have g2 : (zt6 s.heap a b c).get? (zt1 s.heap a).objs.size = some _ := Heap.get?_push_of_some _ (Heap.get?_push_of_some _ (Heap.get?_push_of_some _ (Heap.get?_push_of_some _ (Heap.get?_push_size _ rfl))))
  have g1 : (zt6 s.heap a b c).get? s.heap.objs.size = some _ := Heap.get?_push_of_some _ (Heap.get?_push_of_some _ (Heap.get?_push_of_some _ (Heap.get?_push_of_some _ (Heap.get?_push_of_some _ (Heap.get?_push_size _ rfl)))))
  rw [e5] at g6
  rw [e4] at g5
  rw [e3] at g4
  rw [e2] at g3
  rw [e1] at g2
  show _ ∧ _
  rw [e5]
  refine ⟨⟨_, g6, rfl⟩, h _ ?_ ?_ g5 ⟨_, g1, rfl, rfl⟩ ⟨_, g2, rfl, rfl⟩ ⟨_, g3, rfl, rfl⟩ fun c o x => Heap.get?_push_of_some _ (Heap.get?_push_of_some _ (Heap.get?_push_of_some _ (Heap.get?_push_of_some _ (Heap.get?_push_of_some _ (Heap.get?_push_of_some _ x)))))⟩
  · rw [e3, e4] at g6; exact g6
  · rw [e1, e2] at g4; exact g4
end mk
end Bs
namespace Bs
open PySem PySem.Spec PyProof.Rows L2
def ItM (K : PySem.W.Frag) (a b : Addr) : It :=
  ⟨fun i H => ∃ (xs ys : List V) (x y : V), SqL K H a xs ∧ SqT K H b ys ∧ xs[i]? = some x ∧ ys[i]? = some y,
    fun i H v H' => ∃ (T : Addr) (x y : V), v = .ref T ∧ H T = none ∧ H' = upd H T (.tup [x, y]) ∧ (∀ xs, SqL K H a xs → xs[i]? = some x) ∧ ∀ ys, SqT K H b ys → ys[i]? = some y,
    fun i H => ∃ xs ys : List V, SqL K H a xs ∧ SqT K H b ys ∧ i ≤ xs.length ∧ i ≤ ys.length ∧ (i = xs.length ∨ i = ys.length)⟩
theorem turn_m {P : Program} {w : World} {K : PySem.W.Frag} {elts : List Expr} {kk : Nat} {tpos : Pos} {a b z TI TO i1 i2 : Addr} (D : ZipSep2 z TI TO i1 i2 [i1, a] [i2, b]) (na : a ≠ i1) (nb : b ≠ i2) :
    Turn P w K (.Tuple elts kk tpos) (ItM K a b) [z, TI, TO, i1, i2] z (fun i h => IsZip h z TI TO .none ∧ IsTupOf2 h TI (.ref i1) (.ref i2) ∧ (∃ x y, IsTupOf2 h TO x y) ∧ h.IsListIter i1 a i ∧ h.IsTupleIter i2 b i) where
  mem := List.mem_cons_self
  obj := fun i h st c hc => by
    obtain ⟨hz, hTI, ⟨x, y, hTO⟩, ⟨o1, e1, _, d1⟩, ⟨o2, e2, _, d2⟩⟩ := st
    simp only [List.mem_cons, List.mem_nil_iff, or_false] at hc
    rcases hc with q | q | q | q | q
    · subst q; exact ⟨_, hz, by intro v e; cases e⟩
    · subst q; exact ⟨_, hTI, by intro v e; cases e⟩
    · subst q; exact ⟨_, hTO, by intro v e; cases e⟩
    · exact ⟨o1, q ▸ e1, fun v q => by rw [d1] at q; cases q⟩
    · exact ⟨o2, q ▸ e2, fun v q => by rw [d2] at q; cases q⟩
  keep := fun i h h' ⟨hz, hTI, ⟨x, y, hTO⟩, h1, h2⟩ k => ⟨k z (by simp) _ hz, k TI (by simp) _ hTI, ⟨x, y, k TO (by simp) _ hTO⟩, h1.at fun o q => k i1 (by simp) o q, h2.at fun o q => k i2 (by simp) o q⟩
  item := by
    intro X hP hw hK hc i pins s σ H E I hf ⟨hz, hTI, ⟨x0, y0, hTO⟩, h1, h2⟩ ⟨xs, ys, x, y, hqx, hqy, hx, hy⟩
    subst hP hw hK
    obtain ⟨its, rv, p, _⟩ := I.list hqx
    obtain ⟨its2, rv2, p2, _⟩ := I.tuple hqy
    obtain ⟨u, hu, ru⟩ := rv.get hx
    obtain ⟨u2, hu2, ru2⟩ := rv2.get hy
    have hh := I.ok.hd hc
    have zl : z < s.heap.objs.size := Heap.lt_size hz
    have l1 := (List.getElem?_eq_some_iff.mp hu).1
    have l2 := (List.getElem?_eq_some_iff.mp hu2).1
    refine wpAny_pyNext_zipD2_item (i := i) D (Draws.list (A := X.A.in1) hh i1 a na its.toArray) (Draws.tuple (A := X.A.in1) hh i2 b nb its2.toArray) hz hTI hTO ⟨h1, p.isList⟩ ⟨h2, p2⟩ (by rw [List.size_toArray]; exact l1) (by rw [List.size_toArray]; exact l2) fun x1 x2 h' tk q1 q2 z' TO' s1' s2' hT _ hk => ?_
    have e1 : x1 = u := by rw [← Array.getElem?_toList] at q1; exact Option.some.inj (q1.symm.trans hu)
    have e2 : x2 = u2 := by rw [← Array.getElem?_toList] at q2; exact Option.some.inj (q2.symm.trans hu2)
    subst e1 e2
    refine ⟨_, rfl, wpAny_letOwnedTupleGo_zip (s := { s with heap := h', toks := tk }) z' fun h'' z'' sb => ?_⟩
    have hT2 : h''.get? s.heap.objs.size = some { cls := .type "tuple", data := .seq #[x1, x2] } := (sb.2 _ (Nat.ne_of_gt zl)).trans hT
    have new : ObjOk X.prog X.w (upd H s.heap.objs.size (.tup [x, y])) h'' s.heap.objs.size (.tup [x, y]) := ⟨by show 2 ≤ sizeLine; decide, [x1, x2], .cons ru (.cons ru2 .nil), ⟨_, hT2, rfl, _, rfl⟩⟩
    have I1 : Inv X pins σ (upd H s.heap.objs.size (.tup [x, y])) { s with heap := h'', toks := tk } :=
      I.turnedNew (t' := tk) (ch := [z, TI, TO, i1, i2]) (fun c o hb q => by
        simp only [List.mem_cons, List.mem_nil_iff, or_false, not_or] at hb
        exact (sb.2 c hb.1).trans (hk c o hb.1 hb.2.2.1 hb.2.2.2.1 hb.2.2.2.2 q)) hf (Nat.le_refl _) new
    refine ⟨.ref s.heap.objs.size, _, I1, rfl, ⟨_, x, y, rfl, I.hok.fresh (Nat.le_refl _), rfl, fun l hl => by rw [I.list_inj hl hqx]; exact hx, fun l hl => by rw [I.tuple_inj hl hqy]; exact hy⟩, ⟨z'', ?_, ⟨x1, x2, ?_⟩, ?_, ?_⟩, fun c hcm => ?_⟩
    · exact (sb.2 _ D.TIz).trans (hk _ _ D.TIz D.TITO D.TIi1 D.TIi2 hTI)
    · exact (sb.2 _ D.TOz).trans TO'
    · exact s1'.1.at fun o q => (sb.2 _ D.zi1.symm).trans q
    · exact s2'.1.at fun o q => (sb.2 _ D.zi2.symm).trans q
    · have hlt : c < s.heap.objs.size := by
        simp only [List.mem_cons, List.mem_nil_iff, or_false] at hcm
        rcases hcm with q | q | q | q | q
        · exact q ▸ zl
        · exact q ▸ Heap.lt_size hTI
        · exact q ▸ Heap.lt_size hTO
        · obtain ⟨_, e1, _⟩ := h1
          exact q ▸ Heap.lt_size e1
        · obtain ⟨_, e2, _⟩ := h2
          exact q ▸ Heap.lt_size e2
      rw [upd_ne (Nat.ne_of_lt hlt)]
      exact (hf c hcm).1
  done := by
    intro X hP hw hK hc i pins s σ H E I hf ⟨hz, hTI, ⟨x0, y0, hTO⟩, h1, h2⟩ ⟨xs, ys, hqx, hqy, m1, m2, hend⟩
    subst hP hw hK
    obtain ⟨its, rv, p, _⟩ := I.list hqx
    obtain ⟨its2, rv2, p2, _⟩ := I.tuple hqy
    have hh := I.ok.hd hc
    have l1 := rv.length
    have l2 := rv2.length
    exact wpAny_pyNext_zipD2_end (i := i) D (Draws.list (A := X.A.in1) hh i1 a na its.toArray) (Draws.tuple (A := X.A.in1) hh i2 b nb its2.toArray) hz hTI hTO ⟨h1, p.isList⟩ ⟨h2, p2⟩ (by rw [List.size_toArray]; omega) (by rw [List.size_toArray]; omega) (by rw [List.size_toArray, List.size_toArray]; omega)
      fun h' tk hk => ⟨rfl, I.turnedL (t' := tk) (ch := [z, TI, TO, i1, i2]) (fun c o hb q => by
        simp only [List.mem_cons, List.mem_nil_iff, or_false, not_or] at hb
        exact hk c o hb.1 hb.2.2.1 hb.2.2.2.1 hb.2.2.2.2 q) hf⟩
  self := fun A i s Q E st h => wpAny_pyIter_zip st.1 h
theorem pg_tupK {X : Cx} {K : PySem.W.Frag} {es : List Expr} {k n : Nat} {pos : Pos} {t : TGs} (hK : X.K = K) (hc : X.calm = true) (h : PGs X es t)
    (hn : (assignEach es X.env).length = n := by rfl) (hst : (assignEach es X.env).findIdx? (·.1) = none := by rfl) : PG X (.Tuple es k pos) (gTup K n t) := by
  subst hK
  exact pg_tup hc h hn hst
theorem nin2 {x a b : Nat} (h1 : x ≠ a) (h2 : x ≠ b) : x ∉ [a, b] := by
  simp only [List.mem_cons, List.mem_nil_iff, or_false, not_or]
  exact ⟨h1, h2⟩
theorem sep_m (I a b : Nat) (h1 : a < I) (h2 : b < I) : ZipSep2 (I + 4) (I + 2) (I + 3) I (I + 1) [I, a] [I + 1, b] where
  TIz := Nat.ne_of_lt (by omega)
  TOz := Nat.ne_of_lt (by omega)
  TITO := Nat.ne_of_lt (by omega)
  TIi1 := Nat.ne_of_gt (by omega)
  mem1 := List.mem_cons_self
  zf1 := nin2 (by omega) (by omega)
  Tf1 := nin2 (by omega) (by omega)
  TIi2 := Nat.ne_of_gt (by omega)
  mem2 := List.mem_cons_self
  zf2 := nin2 (by omega) (by omega)
  Tf2 := nin2 (by omega) (by omega)
  sep1_2 := nin2 (by omega) (by omega)
  sep2_1 := nin2 (by omega) (by omega)
theorem sep_t (I a b c : Nat) (h1 : a < I) (h2 : b < I) (h3 : c < I) : ZipSep3 (I + 5) (I + 3) (I + 4) I (I + 1) (I + 2) [I, a] [I + 1, b] [I + 2, c] := by
  constructor <;> first | exact List.mem_cons_self | exact nin2 (by omega) (by omega) | exact Nat.ne_of_lt (by omega) | exact Nat.ne_of_gt (by omega)
theorem ne_add (I b k : Nat) (h : b < I) : b ≠ I + k := by omega
theorem le_one {I c : Nat} (h : c = I + 4 ∨ c = I + 2 ∨ c = I + 3 ∨ c = I ∨ c = I + 1) : I ≤ c := by omega
theorem le_two {I c : Nat} (h : c = I + 5 ∨ c = I + 3 ∨ c = I + 4 ∨ c = I ∨ c = I + 1 ∨ c = I + 2) : I ≤ c := by omega
def iZipM (K : PySem.W.Frag) (ta : TA) : TI := fun σ H R => ta σ H fun vs H1 => ∃ (a b : Addr) (xs ys : List V), vs = [.ref a, .ref b] ∧ SqL K H1 a xs ∧ SqT K H1 b ys ∧ R (ItM K a b) H1
theorem pi_zipM {X : Cx} {K : PySem.W.Frag} {e e2 : Expr} {ta : TA} {p pos tpos : Pos} {elts : List Expr} {kk : Nat} (hK : X.K = K) (hg : Gl X "zip") (hm : X.mg "zip" = none) (ha : PA X [e, e2] ta)
    (hs : starEach [e, e2] X.env = (false, eval e X.env) :: starEach [e2] X.env := by rfl) (hpl : (backTo pos (starEach [e2] X.env)).any (·.1) = false := by rfl) :
    PI X (.Tuple elts kk tpos) (.Call (.Name "zip" p) [e, e2] [] pos) (iZipM K ta) := by
  subst hK
  refine ⟨fun pins s σ H R I h => ?_⟩
  refine Call_ (ld_blt I hg hm PyProof.Rows.boot_zip (PyProof.Rows.callWith_type1 (thn (ha.run pos pins s σ H _ I h) fun us s1 ⟨vs, H1, I1, r1, a, b, xs, ys, ex, hqx, hqy, q⟩ => ?_) hs hpl))
  subst ex
  obtain ⟨u1, u2, rfl, r, r'⟩ := vals2 r1
  cases r
  cases r'
  obtain ⟨its, rv, p1, _⟩ := I1.list hqx
  obtain ⟨its2, rv2, p2, _⟩ := I1.tuple hqy
  have la : a < s1.heap.objs.size := p1.lt
  have lb : b < s1.heap.objs.size := by obtain ⟨o, e, _⟩ := p2; exact Heap.lt_size e
  refine call_zm p1.isList p2 fun h' hz hTI hTO h1 h2 hk => wpAny_pyIter_zip hz ?_
  have I2 : Inv X pins σ H1 { s1 with heap := h' } := I1.kept (t' := s1.toks) hk
  have D := sep_m s1.heap.objs.size a b la lb
  refine ⟨s1.heap.objs.size + 4, [s1.heap.objs.size + 4, s1.heap.objs.size + 2, s1.heap.objs.size + 3, s1.heap.objs.size, s1.heap.objs.size + 1], _, _, H1, rfl, I2, turn_m D (Nat.ne_of_lt la) (ne_add _ _ 1 lb), ⟨hz, hTI, ⟨_, _, hTO⟩, h1, h2⟩, fun c hcm => ?_, q⟩
  have hle : s1.heap.objs.size ≤ c := by
    simp only [List.mem_cons, List.mem_nil_iff, or_false] at hcm
    exact le_one hcm
  exact I1.fpOk hle (I1.hok.fresh hle)
/-- a comprehension over such a zip, of one length -/
theorem lc_zipM {K : PySem.W.Frag} {a b : Addr} {xs ys : List V} {g : TG} {tt : TT} {te : TE} {vs : List Nat} {σ : L2.St} {H1 : Hp} {D : Addr} {Qd : Hp → Prop} (hl : xs.length = ys.length) (Pv : Nat → Hp → Prop) (h0 : Pv 0 (upd H1 D (.lst [])))
    (hq : ∀ i H, Pv i H → SqL K H a xs ∧ SqT K H b ys)
    (hs : ∀ i x y T H, xs[i]? = some x → ys[i]? = some y → Pv i H → H T = none → g (.ref T) (wipe σ vs) (upd H T (.tup [x, y])) fun σ2 H2 => wipe σ2 vs = wipe σ vs ∧ tt σ2 H2 fun b H3 =>
      if b = true then te σ2 H3 fun y H4 => ∃ acc, H4 D = some (.lst acc) ∧ acc.length < sizeLine ∧ Pv (i + 1) (upd H4 D (.lst (acc ++ [y]))) else Pv (i + 1) H3) (hd : ∀ H, Pv xs.length H → Qd H) :
    ∃ W : Nat → Nat → Hp → Prop, (∃ m, W 0 m (upd H1 D (.lst []))) ∧ ∀ i m H, W i m H →
      ((ItM K a b).stop i H ∧ Qd H) ∨ ((ItM K a b).go i H ∧ ∃ Nx : Hp → Prop, (∀ H', Nx H' → ∃ m', m' < m ∧ W (i + 1) m' H') ∧ ∀ x H', (ItM K a b).yld i H x H' → g x (wipe σ vs) H' fun σ2 H2 => wipe σ2 vs = wipe σ vs ∧ tt σ2 H2 fun b H3 =>
        if b = true then te σ2 H3 fun y H4 => ∃ acc, H4 D = some (.lst acc) ∧ acc.length < sizeLine ∧ Nx (upd H4 D (.lst (acc ++ [y]))) else Nx H3) := by
  refine ⟨fun i m H => Pv i H ∧ i + m = xs.length, ⟨xs.length, h0, Nat.zero_add _⟩, fun i m H ⟨hp, em⟩ => ?_⟩
  obtain ⟨qx, qy⟩ := hq i H hp
  cases m with
  | zero =>
    have e : i = xs.length := em
    subst e
    exact .inl ⟨⟨xs, ys, qx, qy, Nat.le_refl _, by omega, .inl rfl⟩, hd H hp⟩
  | succ m =>
    have li : i < xs.length := by omega
    have hx := List.getElem?_eq_getElem li
    have hy := List.getElem?_eq_getElem (l := ys) (i := i) (by omega)
    refine .inr ⟨⟨xs, ys, _, _, qx, qy, hx, hy⟩, Pv (i + 1), fun H' h' => ⟨m, Nat.lt_succ_self m, h', by omega⟩, ?_⟩
    rintro _ _ ⟨T, x, y, rfl, hT, rfl, ex, ey⟩
    exact hs i x y T H (ex xs qx) (ey ys qy) hp hT
/-- a comprehension over zip of two lists of one length -/
theorem lc_zipL {K : PySem.W.Frag} {a b : Addr} {xs ys : List V} {g : TG} {tt : TT} {te : TE} {vs : List Nat} {σ : L2.St} {H1 : Hp} {D : Addr} {Qd : Hp → Prop} (hl : xs.length = ys.length) (Pv : Nat → Hp → Prop) (h0 : Pv 0 (upd H1 D (.lst [])))
    (hq : ∀ i H, Pv i H → SqL K H a xs ∧ SqL K H b ys)
    (hs : ∀ i x y T H, xs[i]? = some x → ys[i]? = some y → Pv i H → H T = none → g (.ref T) (wipe σ vs) (upd H T (.tup [x, y])) fun σ2 H2 => wipe σ2 vs = wipe σ vs ∧ tt σ2 H2 fun b H3 =>
      if b = true then te σ2 H3 fun y H4 => ∃ acc, H4 D = some (.lst acc) ∧ acc.length < sizeLine ∧ Pv (i + 1) (upd H4 D (.lst (acc ++ [y]))) else Pv (i + 1) H3) (hd : ∀ H, Pv xs.length H → Qd H) :
    ∃ W : Nat → Nat → Hp → Prop, (∃ m, W 0 m (upd H1 D (.lst []))) ∧ ∀ i m H, W i m H →
      ((Itz K a b).stop i H ∧ Qd H) ∨ ((Itz K a b).go i H ∧ ∃ Nx : Hp → Prop, (∀ H', Nx H' → ∃ m', m' < m ∧ W (i + 1) m' H') ∧ ∀ x H', (Itz K a b).yld i H x H' → g x (wipe σ vs) H' fun σ2 H2 => wipe σ2 vs = wipe σ vs ∧ tt σ2 H2 fun b H3 =>
        if b = true then te σ2 H3 fun y H4 => ∃ acc, H4 D = some (.lst acc) ∧ acc.length < sizeLine ∧ Nx (upd H4 D (.lst (acc ++ [y]))) else Nx H3) := by
  refine ⟨fun i m H => Pv i H ∧ i + m = xs.length, ⟨xs.length, h0, Nat.zero_add _⟩, fun i m H ⟨hp, em⟩ => ?_⟩
  obtain ⟨qx, qy⟩ := hq i H hp
  cases m with
  | zero =>
    have e : i = xs.length := em
    subst e
    exact .inl ⟨⟨xs, ys, qx, qy, .inl (Nat.le_refl _)⟩, hd H hp⟩
  | succ m =>
    have li : i < xs.length := by omega
    have hx := List.getElem?_eq_getElem li
    have hy := List.getElem?_eq_getElem (l := ys) (i := i) (by omega)
    refine .inr ⟨⟨xs, ys, _, _, qx, qy, hx, hy⟩, Pv (i + 1), fun H' h' => ⟨m, Nat.lt_succ_self m, h', by omega⟩, ?_⟩
    rintro _ _ ⟨T, x, y, rfl, hT, rfl, ex, ey⟩
    exact hs i x y T H (ex xs qx) (ey ys qy) hp hT
/-! three lists -/
def It3 (K : PySem.W.Frag) (a b c : Addr) : It :=
  ⟨fun i H => ∃ (xs ys zs : List V) (x y z : V), SqL K H a xs ∧ SqL K H b ys ∧ SqL K H c zs ∧ xs[i]? = some x ∧ ys[i]? = some y ∧ zs[i]? = some z,
    fun i H v H' => ∃ (T : Addr) (x y z : V), v = .ref T ∧ H T = none ∧ H' = upd H T (.tup [x, y, z]) ∧ (∀ xs, SqL K H a xs → xs[i]? = some x) ∧ (∀ ys, SqL K H b ys → ys[i]? = some y) ∧ ∀ zs, SqL K H c zs → zs[i]? = some z,
    fun i H => ∃ xs ys zs : List V, SqL K H a xs ∧ SqL K H b ys ∧ SqL K H c zs ∧ i ≤ xs.length ∧ i ≤ ys.length ∧ i ≤ zs.length ∧ (i = xs.length ∨ i = ys.length ∨ i = zs.length)⟩
theorem turn_3 {P : Program} {w : World} {K : PySem.W.Frag} {elts : List Expr} {kk : Nat} {tpos : Pos} {a b c z TI TO i1 i2 i3 : Addr} (D : ZipSep3 z TI TO i1 i2 i3 [i1, a] [i2, b] [i3, c]) (na : a ≠ i1) (nb : b ≠ i2) (nc : c ≠ i3) :
    Turn P w K (.Tuple elts kk tpos) (It3 K a b c) [z, TI, TO, i1, i2, i3] z (fun i h => IsZip h z TI TO .none ∧ IsTupOf3 h TI (.ref i1) (.ref i2) (.ref i3) ∧ (∃ x y u, IsTupOf3 h TO x y u) ∧ h.IsListIter i1 a i ∧ h.IsListIter i2 b i ∧ h.IsListIter i3 c i) where
  mem := List.mem_cons_self
  obj := fun i h st q hc => by
    obtain ⟨hz, hTI, ⟨x, y, u, hTO⟩, ⟨o1, e1, _, d1⟩, ⟨o2, e2, _, d2⟩, ⟨o3, e3, _, d3⟩⟩ := st
    simp only [List.mem_cons, List.mem_nil_iff, or_false] at hc
    rcases hc with q | q | q | q | q | q
    · subst q; exact ⟨_, hz, by intro v e; cases e⟩
    · subst q; exact ⟨_, hTI, by intro v e; cases e⟩
    · subst q; exact ⟨_, hTO, by intro v e; cases e⟩
    · exact ⟨o1, q ▸ e1, fun v q => by rw [d1] at q; cases q⟩
    · exact ⟨o2, q ▸ e2, fun v q => by rw [d2] at q; cases q⟩
    · exact ⟨o3, q ▸ e3, fun v q => by rw [d3] at q; cases q⟩
  keep := fun i h h' ⟨hz, hTI, ⟨x, y, u, hTO⟩, h1, h2, h3⟩ k => ⟨k z (by simp) _ hz, k TI (by simp) _ hTI, ⟨x, y, u, k TO (by simp) _ hTO⟩, h1.at fun o q => k i1 (by simp) o q, h2.at fun o q => k i2 (by simp) o q, h3.at fun o q => k i3 (by simp) o q⟩
  item := by
    intro X hP hw hK hc i pins s σ H E I hf ⟨hz, hTI, ⟨x0, y0, u0, hTO⟩, h1, h2, h3⟩ ⟨xs, ys, zs, x, y, zz, hqx, hqy, hqz, hx, hy, hzz⟩
    subst hP hw hK
    obtain ⟨its, rv, p, _⟩ := I.list hqx
    obtain ⟨its2, rv2, p2, _⟩ := I.list hqy
    obtain ⟨its3, rv3, p3, _⟩ := I.list hqz
    obtain ⟨u, hu, ru⟩ := rv.get hx
    obtain ⟨u2, hu2, ru2⟩ := rv2.get hy
    obtain ⟨u3, hu3, ru3⟩ := rv3.get hzz
    have hh := I.ok.hd hc
    have zl : z < s.heap.objs.size := Heap.lt_size hz
    have l1 := (List.getElem?_eq_some_iff.mp hu).1
    have l2 := (List.getElem?_eq_some_iff.mp hu2).1
    have l3 := (List.getElem?_eq_some_iff.mp hu3).1
    refine wpAny_pyNext_zipD3_item (i := i) D (Draws.list (A := X.A.in1) hh i1 a na its.toArray) (Draws.list (A := X.A.in1) hh i2 b nb its2.toArray) (Draws.list (A := X.A.in1) hh i3 c nc its3.toArray) hz hTI hTO ⟨h1, p.isList⟩ ⟨h2, p2.isList⟩ ⟨h3, p3.isList⟩ (by rw [List.size_toArray]; exact l1) (by rw [List.size_toArray]; exact l2) (by rw [List.size_toArray]; exact l3) fun x1 x2 x3 h' tk q1 q2 q3 z' TO' s1' s2' s3' hT _ hk => ?_
    have e1 : x1 = u := by rw [← Array.getElem?_toList] at q1; exact Option.some.inj (q1.symm.trans hu)
    have e2 : x2 = u2 := by rw [← Array.getElem?_toList] at q2; exact Option.some.inj (q2.symm.trans hu2)
    have e3 : x3 = u3 := by rw [← Array.getElem?_toList] at q3; exact Option.some.inj (q3.symm.trans hu3)
    subst e1 e2 e3
    refine ⟨_, rfl, wpAny_letOwnedTupleGo_zip (s := { s with heap := h', toks := tk }) z' fun h'' z'' sb => ?_⟩
    have hT2 : h''.get? s.heap.objs.size = some { cls := .type "tuple", data := .seq #[x1, x2, x3] } := (sb.2 _ (Nat.ne_of_gt zl)).trans hT
    have new : ObjOk X.prog X.w (upd H s.heap.objs.size (.tup [x, y, zz])) h'' s.heap.objs.size (.tup [x, y, zz]) := ⟨by show 3 ≤ sizeLine; decide, [x1, x2, x3], .cons ru (.cons ru2 (.cons ru3 .nil)), ⟨_, hT2, rfl, _, rfl⟩⟩
    have I1 : Inv X pins σ (upd H s.heap.objs.size (.tup [x, y, zz])) { s with heap := h'', toks := tk } :=
      I.turnedNew (t' := tk) (ch := [z, TI, TO, i1, i2, i3]) (fun c o hb q => by
        simp only [List.mem_cons, List.mem_nil_iff, or_false, not_or] at hb
        exact (sb.2 c hb.1).trans (hk c o hb.1 hb.2.2.1 hb.2.2.2.1 hb.2.2.2.2.1 hb.2.2.2.2.2 q)) hf (Nat.le_refl _) new
    refine ⟨.ref s.heap.objs.size, _, I1, rfl, ⟨_, x, y, zz, rfl, I.hok.fresh (Nat.le_refl _), rfl, fun l hl => by rw [I.list_inj hl hqx]; exact hx, fun l hl => by rw [I.list_inj hl hqy]; exact hy, fun l hl => by rw [I.list_inj hl hqz]; exact hzz⟩, ⟨z'', ?_, ⟨x1, x2, x3, ?_⟩, ?_, ?_, ?_⟩, fun c hcm => ?_⟩
    · exact (sb.2 _ D.TIz).trans (hk _ _ D.TIz D.TITO D.TIi1 D.TIi2 D.TIi3 hTI)
    · exact (sb.2 _ D.TOz).trans TO'
    · exact s1'.1.at fun o q => (sb.2 _ D.zi1.symm).trans q
    · exact s2'.1.at fun o q => (sb.2 _ D.zi2.symm).trans q
    · exact s3'.1.at fun o q => (sb.2 _ D.zi3.symm).trans q
    · have hlt : c < s.heap.objs.size := by
        simp only [List.mem_cons, List.mem_nil_iff, or_false] at hcm
        rcases hcm with q | q | q | q | q | q
        · exact q ▸ zl
        · exact q ▸ Heap.lt_size hTI
        · exact q ▸ Heap.lt_size hTO
        · obtain ⟨_, e1, _⟩ := h1
          exact q ▸ Heap.lt_size e1
        · obtain ⟨_, e2, _⟩ := h2
          exact q ▸ Heap.lt_size e2
        · obtain ⟨_, e3, _⟩ := h3
          exact q ▸ Heap.lt_size e3
      rw [upd_ne (Nat.ne_of_lt hlt)]
      exact (hf c hcm).1
  done := by
    intro X hP hw hK hc i pins s σ H E I hf ⟨hz, hTI, ⟨x0, y0, u0, hTO⟩, h1, h2, h3⟩ ⟨xs, ys, zs, hqx, hqy, hqz, m1, m2, m3, hend⟩
    subst hP hw hK
    obtain ⟨its, rv, p, _⟩ := I.list hqx
    obtain ⟨its2, rv2, p2, _⟩ := I.list hqy
    obtain ⟨its3, rv3, p3, _⟩ := I.list hqz
    have hh := I.ok.hd hc
    have l1 := rv.length
    have l2 := rv2.length
    have l3 := rv3.length
    exact wpAny_pyNext_zipD3_end (i := i) D (Draws.list (A := X.A.in1) hh i1 a na its.toArray) (Draws.list (A := X.A.in1) hh i2 b nb its2.toArray) (Draws.list (A := X.A.in1) hh i3 c nc its3.toArray) hz hTI hTO ⟨h1, p.isList⟩ ⟨h2, p2.isList⟩ ⟨h3, p3.isList⟩ (by rw [List.size_toArray]; omega) (by rw [List.size_toArray]; omega) (by rw [List.size_toArray]; omega)
      (by rw [List.size_toArray, List.size_toArray, List.size_toArray]; omega)
      fun h' tk hk => ⟨rfl, I.turnedL (t' := tk) (ch := [z, TI, TO, i1, i2, i3]) (fun c o hb q => by
        simp only [List.mem_cons, List.mem_nil_iff, or_false, not_or] at hb
        exact hk c o hb.1 hb.2.2.1 hb.2.2.2.1 hb.2.2.2.2.1 hb.2.2.2.2.2 q) hf⟩
  self := fun A i s Q E st h => wpAny_pyIter_zip st.1 h
def iZip3 (K : PySem.W.Frag) (ta : TA) : TI := fun σ H R => ta σ H fun vs H1 => ∃ (a b c : Addr) (xs ys zs : List V), vs = [.ref a, .ref b, .ref c] ∧ SqL K H1 a xs ∧ SqL K H1 b ys ∧ SqL K H1 c zs ∧ R (It3 K a b c) H1
theorem pi_zip3 {X : Cx} {K : PySem.W.Frag} {e e2 e3 : Expr} {ta : TA} {p pos tpos : Pos} {elts : List Expr} {kk : Nat} (hK : X.K = K) (hg : Gl X "zip") (hm : X.mg "zip" = none) (ha : PA X [e, e2, e3] ta)
    (hs : starEach [e, e2, e3] X.env = (false, eval e X.env) :: starEach [e2, e3] X.env := by rfl) (hpl : (backTo pos (starEach [e2, e3] X.env)).any (·.1) = false := by rfl) :
    PI X (.Tuple elts kk tpos) (.Call (.Name "zip" p) [e, e2, e3] [] pos) (iZip3 K ta) := by
  subst hK
  refine ⟨fun pins s σ H R I h => ?_⟩
  refine Call_ (ld_blt I hg hm PyProof.Rows.boot_zip (PyProof.Rows.callWith_type1 (thn (ha.run pos pins s σ H _ I h) fun us s1 ⟨vs, H1, I1, r1, a, b, c, xs, ys, zs, ex, hqx, hqy, hqz, q⟩ => ?_) hs hpl))
  subst ex
  cases r1 with
  | cons r rr =>
  cases rr with
  | cons r' rr =>
  cases rr with
  | cons r'' rr =>
  cases rr
  cases r
  cases r'
  cases r''
  obtain ⟨its, rv, p1, _⟩ := I1.list hqx
  obtain ⟨its2, rv2, p2, _⟩ := I1.list hqy
  obtain ⟨its3, rv3, p3, _⟩ := I1.list hqz
  refine call_zt p1.isList p2.isList p3.isList fun h' hz hTI hTO h1 h2 h3 hk => wpAny_pyIter_zip hz ?_
  have I2 : Inv X pins σ H1 { s1 with heap := h' } := I1.kept (t' := s1.toks) hk
  have D := sep_t s1.heap.objs.size a b c p1.lt p2.lt p3.lt
  refine ⟨s1.heap.objs.size + 5, [s1.heap.objs.size + 5, s1.heap.objs.size + 3, s1.heap.objs.size + 4, s1.heap.objs.size, s1.heap.objs.size + 1, s1.heap.objs.size + 2], _, _, H1, rfl, I2, turn_3 D (Nat.ne_of_lt p1.lt) (ne_add _ _ 1 p2.lt) (ne_add _ _ 2 p3.lt), ⟨hz, hTI, ⟨_, _, _, hTO⟩, h1, h2, h3⟩, fun c hcm => ?_, q⟩
  have hle : s1.heap.objs.size ≤ c := by
    simp only [List.mem_cons, List.mem_nil_iff, or_false] at hcm
    exact le_two hcm
  exact I1.fpOk hle (I1.hok.fresh hle)
theorem for_zip3 {K : PySem.W.Frag} {a b c : Addr} {xs ys zs : List V} {g : TG} {tb : TS} {D : Ends} {σ : L2.St} {H : Hp} (h1 : xs.length = ys.length) (h2 : xs.length = zs.length) (Pv : Nat → L2.St → Hp → Prop) (h0 : Pv 0 σ H)
    (hq : ∀ i σ H, Pv i σ H → SqL K H a xs ∧ SqL K H b ys ∧ SqL K H c zs)
    (hs : ∀ i x y z T σ H, xs[i]? = some x → ys[i]? = some y → zs[i]? = some z → Pv i σ H → H T = none → g (.ref T) σ (upd H T (.tup [x, y, z])) fun σ2 H2 => tb { nx := Pv (i + 1), rt := D.rt, bk := D.nx, ct := Pv (i + 1) } σ2 H2)
    (hd : ∀ σ H, Pv xs.length σ H → D.nx σ H) :
    ∃ W : Nat → Nat → L2.St → Hp → Prop, (∃ m, W 0 m σ H) ∧ ∀ i m σ H, W i m σ H → ((It3 K a b c).stop i H ∧ D.nx σ H) ∨ ((It3 K a b c).go i H ∧ ∃ N : L2.St → Hp → Prop, (∀ σ' H', N σ' H' → ∃ m', m' < m ∧ W (i + 1) m' σ' H') ∧
      ∀ x H', (It3 K a b c).yld i H x H' → g x σ H' fun σ2 H2 => tb { nx := N, rt := D.rt, bk := D.nx, ct := N } σ2 H2) := by
  refine ⟨fun i m σ H => Pv i σ H ∧ i + m = xs.length, ⟨xs.length, h0, Nat.zero_add _⟩, fun i m σ H ⟨hp, em⟩ => ?_⟩
  obtain ⟨qx, qy, qz⟩ := hq i σ H hp
  cases m with
  | zero =>
    have e : i = xs.length := em
    subst e
    exact .inl ⟨⟨xs, ys, zs, qx, qy, qz, Nat.le_refl _, by omega, by omega, .inl rfl⟩, hd σ H hp⟩
  | succ m =>
    have li : i < xs.length := by omega
    have hx := List.getElem?_eq_getElem li
    have hy := List.getElem?_eq_getElem (l := ys) (i := i) (by omega)
    have hz := List.getElem?_eq_getElem (l := zs) (i := i) (by omega)
    refine .inr ⟨⟨xs, ys, zs, _, _, _, qx, qy, qz, hx, hy, hz⟩, Pv (i + 1), fun σ' H' h' => ⟨m, Nat.lt_succ_self m, h', by omega⟩, ?_⟩
    rintro _ _ ⟨T, x, y, z, rfl, hT, rfl, ex, ey, ez⟩
    exact hs i x y z T σ H (ex xs qx) (ey ys qy) (ez zs qz) hp hT
end Bs
namespace Bs
open PySem PySem.Spec PyProof.Rows L2 GenW
/-! ### yield from a list -/
section
variable {prog : Program} {w : World} {A : Around} {E : Value → Shared → Prop} {s : Shared}
theorem sp_list_item {it l : Addr} {i : Nat} {items : Array Value} {x : Value} {Q : Option Value → Shared → Prop} (hit : s.heap.IsListIter it l i) (hl : s.heap.IsList l items) (hx : items[i]? = some x)
    (hQ : ∀ h', h'.IsListIter it l (i + 1) → Heap.SameBut it s.heap h' → Q (some x) { s with heap := h' }) : wpAny (model prog w) A (callSpecial? (.ref it) "__next__") Q E s := by
  obtain ⟨o, ho, hc, hd⟩ := id hit
  obtain ⟨ol, hol, _, nl, hdl⟩ := hl
  refine wpAny_callSpecial?_slot (name := Str.ofString "__next__") hit.typeIs slot_listiter_next (wpAny_call_entry slot_listiter_next hit.typeIs entry_listiter_next ?_ (args_listiter_next _))
  show wpAny _ _ (field (.ref it) 0 >>= _) _ _ s
  refine wpAny_bind (wpAny_field ho hd (x := .ref l) rfl ?_)
  show wpAny _ _ (if (Value.ref l == Value.none) = true then _ else _) _ _ s
  rw [if_neg (show ¬ ((Value.ref l == Value.none) = true) from Bool.false_ne_true)]
  show wpAny _ _ (field (.ref it) 1 >>= _) _ _ s
  refine wpAny_bind (wpAny_field ho hd (x := .int i 0) rfl ?_)
  show wpAny _ _ (seqItems? (.ref l) >>= _) _ _ s
  refine wpAny_bind (wpAny_seqItems hol hdl ?_)
  simp only [Int.toNat_natCast, hx]
  refine wpAny_bind (wpAny_setField ho hd (by simp) (wpAny_pure ⟨x, rfl, hQ _ ?_ (Heap.SameBut.update ..)⟩))
  exact ⟨_, Heap.get?_update_self _ ho (Obj.isFreed_of_fields (Obj.data_mapFields hd _)), (Obj.cls_mapFields ..).trans hc, by rw [Obj.data_mapFields hd]; simp [rawInt]⟩
theorem sp_list_end {it l : Addr} {i : Nat} {items : Array Value} {Q : Option Value → Shared → Prop} (hh : A.handled = none) (hit : s.heap.IsListIter it l i) (hl : s.heap.IsList l items) (hx : items[i]? = none)
    (hE : ∀ e h', StopX e h' → Heap.ExtBut it s.heap h' → E e { s with heap := h' }) : wpAny (model prog w) A (callSpecial? (.ref it) "__next__") Q E s := by
  obtain ⟨o, ho, hc, hd⟩ := id hit
  obtain ⟨ol, hol, _, nl, hdl⟩ := hl
  refine wpAny_callSpecial?_slot (name := Str.ofString "__next__") hit.typeIs slot_listiter_next (wpAny_call_entry slot_listiter_next hit.typeIs entry_listiter_next ?_ (args_listiter_next _))
  show wpAny _ _ (field (.ref it) 0 >>= _) _ _ s
  refine wpAny_bind (wpAny_field ho hd (x := .ref l) rfl ?_)
  show wpAny _ _ (if (Value.ref l == Value.none) = true then _ else _) _ _ s
  rw [if_neg (show ¬ ((Value.ref l == Value.none) = true) from Bool.false_ne_true)]
  show wpAny _ _ (field (.ref it) 1 >>= _) _ _ s
  refine wpAny_bind (wpAny_field ho hd (x := .int i 0) rfl ?_)
  show wpAny _ _ (seqItems? (.ref l) >>= _) _ _ s
  refine wpAny_bind (wpAny_seqItems hol hdl ?_)
  simp only [Int.toNat_natCast, hx]
  refine wpAny_bind (wpAny_rule (wpAny_bind (wpAny_setField ho hd (by simp) ?_)))
  show wpAny _ _ (newExc (.type "StopIteration") [] >>= _) _ _ _
  refine wpAny_bind ?_
  simp only [newExc, newTuple]
  refine wpAny_bind (wpAny_newObj_type ?_ (by size_fits))
  refine wpAny_bind (m := firstArgMember _ _) (wpAny_of_eq (a := Value.none) (by first | rfl | (simp only [firstArgMember]; rfl)) ?_)
  refine wpAny_newObj_type ?_ (by size_fits)
  simp only [raiseNew]
  refine wpAny_bind (wpAny_handled ?_)
  first | rw [show A.in1.handled = none from hh] | rw [hh]
  refine wpAny_bind (wpAny_pure (wpAny_throw ?_))
  refine hE _ _ ⟨_, _, _, rfl, Heap.get?_push_size _ rfl, rfl, rfl, ?_⟩ (((Heap.SameBut.update ..).extBut.push _).push _)
  first
    | rfl
    | (rw [Array.getElem?_append_left (by decide)]; rfl)
    | kernel_rfl
end
def tYfLst (te : TE) : TYf := fun σ H Q => te σ H fun x H1 => ∃ a xs, x = .ref a ∧ H1 a = some (.lst xs) ∧ Q xs H1
theorem close_lst : typeLookup (.type "list_iterator") "close" = pure none := by rw [typeLookup_type, builtinLookup_eq_fast]; kernel_rfl
theorem yf_lst {X : Cx} {e : Expr} {te : TE} (he : PE X e te) : YfE X e (tYfLst te) := by
  refine ⟨fun pins s σ H Q I h => ?_⟩
  refine thn (he.run pins s σ H _ I h) fun v s1 ⟨x, H1, I1, r1, a, xs, ex, ha, hq⟩ => ?_
  subst ex
  obtain rfl : v = Value.ref a := r1
  obtain ⟨hlen, its, cap, rits, ht0⟩ := (show ObjOk X.prog X.w H1 s1.heap a (.lst xs) from I1.hok a _ ha)
  have ht : s1.heap.IsList a its.toArray := ⟨_, ht0, rfl, _, rfl⟩
  have htl : a < s1.heap.objs.size := Heap.lt_size ht0
  refine ⟨"list", ht.typeIs, by decide, wpAny_pyIter_list ht ?_⟩
  have ksz : ∀ b o, s1.heap.get? b = some o → b ≠ s1.heap.objs.size := fun b o e => Nat.ne_of_lt (Heap.lt_size e)
  have kp : ∀ b o, s1.heap.get? b = some o → (s1.heap.push { cls := .type "list_iterator", data := .fields #[.ref a, .int 0 0] }).get? b = some o := fun b o e => Heap.get?_push_of_some _ e
  refine ⟨s1.heap.objs.size, H1, xs, fun j h => h.IsListIter s1.heap.objs.size a j ∧ h.IsList a its.toArray, rfl, I1.kept (t' := s1.toks) kp, .inr I1.sz, Nat.ne_of_gt I1.lt, fun y c hy => ?_, I1.hok.fresh (Nat.le_refl _), fun p hp => ?_,
    ⟨⟨_, Heap.get?_push_size _ rfl, rfl, rfl⟩, ⟨_, kp _ _ ht0, rfl, _, rfl⟩⟩, ⟨⟨"list_iterator", fun j h q => ?_, close_lst, by decide⟩, fun j h h' q hk => ?_, fun A' j x s2 Q' E' hA hx q hQ => ?_, fun A' s2 Q' E' hA q hE => ?_⟩, hq⟩
  · obtain ⟨v, o, ho, _⟩ := I1.cell y c hy
    exact ksz c o ho
  · exact ksz p.1 _ (I1.pin p hp).1
  · obtain ⟨⟨o, ho, hc, _⟩, _⟩ := q
    exact ⟨o, ho, hc⟩
  · obtain ⟨⟨o, ho, r⟩, o2, ho2, r2⟩ := q
    exact ⟨⟨o, hk _ o (.inl rfl) ho, r⟩, o2, hk _ o2 (.inr (by rw [ha]; exact fun z => by cases z)) ho2, r2⟩
  · obtain ⟨q1, q2⟩ := q
    obtain ⟨u, hu, ru⟩ := rits.get hx
    have hne : a ≠ s1.heap.objs.size := Nat.ne_of_lt htl
    refine sp_list_item q1 q2 (x := u) (by simpa using hu) fun h' q1' hs => hQ u h' s2.toks ru ⟨q1', ?_⟩ fun b o hb eb => hs.extBut b o hb eb
    obtain ⟨o2, ho2, r2⟩ := q2
    exact ⟨o2, hs.extBut _ _ hne ho2, r2⟩
  · obtain ⟨q1, q2⟩ := q
    have hnone : its.toArray[xs.length]? = none := by
      have e := rits.length
      have e2 : its[xs.length]? = none := List.getElem?_eq_none_iff.mpr (by omega)
      simpa using e2
    exact sp_list_end hA q1 q2 hnone fun e h' hS hk => hE e h' s2.toks hS fun b o hb eb => hk b o hb eb
/-! ### list(d.values()) -/
theorem kv_at {κ : Type} : ∀ {kvs : List (κ × V)} {vs : List (κ × Value)}, KV kvs vs → ∀ {j : Nat} {x : V} {k : κ} {w : Value}, (kvs.map fun kv => kv.2)[j]? = some x → vs[j]? = some (k, w) → RelV x w
  | _, _, .cons r t, 0, _, _, _, h1, h2 => by
    simp only [List.map_cons, List.getElem?_cons_zero, Option.some.injEq] at h1 h2
    rw [← h1]
    have e := r.2
    rw [h2] at e
    exact e
  | _, _, .cons r t, j + 1, _, _, _, h1, h2 => kv_at t (j := j) (by simpa using h1) (by simpa using h2)
  | _, _, .nil, _, _, _, _, _, h2 => by simp at h2
def tLV (td : TE) : TE := fun σ H Q => td σ H fun x H1 => ∃ d kvs, x = .ref d ∧ H1 d = some (.dK kvs) ∧ ∀ q, H1 q = none → Q (.ref q) (upd H1 q (.lst (kvs.map fun kv => kv.2)))
theorem pe_listVals {X : Cx} {e : Expr} {td : TE} {p pos apos cpos : Pos} (hc : X.calm = true) (hg : Gl X "list") (hmg : X.mg "list" = none) (he : PE X e td)
    (hbase : attributeBase e "values" X.env (eval e X.env) = eval e X.env := by rfl) (hline : (apos.endLine == cpos.line) = true := by rfl)
    (hst : starEach [.Call (.Attribute e "values" apos) [] [] cpos] X.env = (false, eval (.Call (.Attribute e "values" apos) [] [] cpos) X.env) :: starEach [] X.env := by rfl) :
    PE X (.Call (.Name "list" p) [.Call (.Attribute e "values" apos) [] [] cpos] [] pos) (tLV td) := by
  refine ⟨fun pins s σ H Q I h => ?_⟩
  refine wpAny_Call_Name_kw (ld_blt I hg hmg boot_list ?_ (by decide) (by decide))
  refine PyProof.Rows.callWith_type1 ?_ hst rfl
  rw [hst]
  show wpAny _ _ (spliced ((false, eval (.Call (.Attribute e "values" apos) [] [] cpos) X.env) :: backTo pos (starEach [] X.env))) _ _ s
  refine Calls.spliced_cons ?_
  refine wpAny_Call_method (T := "dict") (id := "dict.values") hbase rfl hline F.plainAttrs_dict F.slot_dict_values F.type_dict_values (thn (he.run pins s σ H _ I h) fun u s1 ⟨x, H1, I1, rx, d, kvs, ex, hd, q⟩ => ?_)
  subst ex
  obtain rfl : u = Value.ref d := rx
  obtain ⟨z, lo, vs, rk, hdd⟩ := (show ObjOk X.prog X.w H1 s1.heap d (.dK kvs) from I1.hok d _ hd)
  obtain ⟨ep, hat⟩ := hdd.dictAt
  have hl : kvs.length = vs.length := Paired.length rk
  refine ⟨hdd.typeIs, hdd.mapOf.noDict, ?_⟩
  show wpAny _ _ (callWith cpos (.builtin "dict.values") [.ref d] [] []) _ X.xe s1
  refine method_meetsIn F.slot_dict_values F.entry_dict_values rfl (PySem.evalArgs_none ⟨rfl, hdd.typeIs, F.args_dict_values_1 _, _, meets_dict_values (mixKind X.prog X.w) d lo, ⟨vs, hdd⟩, ?_⟩)
  refine Calls.spliced_nil ?_
  have kp : ∀ b o, s1.heap.get? b = some o → (s1.heap.push { cls := .type "dict_values", data := .fields #[.ref d] }).get? b = some o := fun b o e => Heap.get?_push_of_some _ e
  have I2 : Inv X pins σ H1 { s1 with heap := s1.heap.push { cls := .type "dict_values", data := .fields #[.ref d] } } := I1.kept (t' := s1.toks) kp
  refine PySem.W.kdl_call (s := { s1 with heap := s1.heap.push { cls := .type "dict_values", data := .fields #[.ref d] } }) (PySem.W.kdl_values (knd := mixKind X.prog X.w) (kvs := vs) (ep := ep) (r := s1.heap.objs.size) (d := d)) (I2.ok.hd hc) ⟨⟨_, Heap.get?_push_size _ rfl, rfl, rfl⟩, hat.push _⟩ (by rw [← hl]; exact z) fun h' tk acc' c' hkeep hS hacc => ?_
  refine ⟨.ref _, upd H1 _ (.lst (kvs.map fun kv => kv.2)), I2.laid hkeep (Nat.le_refl _) (show ObjOk X.prog X.w _ _ _ (.lst (kvs.map fun kv => kv.2)) from ⟨?_, acc'.toList, c', ?_, ?_⟩), rfl, q _ (I2.hok.fresh (Nat.le_refl _))⟩
  · rw [List.length_map]; exact z
  · have el : acc'.toList.length = acc'.size := by simp
    refine vals_of_at (by rw [List.length_map, el, hacc.1, hl]) fun j x w h1 h2 => ?_
    obtain ⟨k, hky⟩ := hacc.2 j w (by rw [← Array.getElem?_toList]; exact h2)
    exact kv_at rk h1 hky
  · rw [Array.toArray_toList]; exact hS
end Bs
/-! ### != of two lists of tuples that hold the same int and the same object -/
namespace Bs
open PySem PySem.Spec PyProof.Rows L2 PySem.SeqAt
section
variable {X : Cx}
def TwinT (K : PySem.W.Frag) (H : Hp) (v z : V) : Prop := ∃ (t a : Addr) (n : Int) (r : Addr), v = .ref t ∧ z = .ref a ∧ SqT K H t [.int n, .ref r] ∧ SqT K H a [.int n, .ref r]
def rNeTs (K : PySem.W.Frag) : R2 := fun x y H Q => ∃ (l b : Addr) (vs xs : List V), x = .ref l ∧ y = .ref b ∧ SqL K H l vs ∧ SqL K H b xs ∧ vs.length = xs.length ∧ (∀ (i : Nat) (v z : V), vs[i]? = some v → xs[i]? = some z → TwinT K H v z) ∧ Q (.bl false) H
theorem twin_eq {A : Around} {pins : List (Addr × Obj)} {s : Shared} {σ : L2.St} {H : Hp} {v z : V} {u w : Value} (I : Inv X pins σ H s) (h : TwinT X.K H v z) (ru : RelV v u) (rw_ : RelV z w) (hu : A.units + 8 < cLine) : EqAt A s u w true := by
  obtain ⟨t, a, n, r, rfl, rfl, ht, ha⟩ := h
  cases ru
  cases rw_
  by_cases c : t = a
  · subst c; exact EqAt.same _
  obtain ⟨its, r1, h1, _⟩ := I.tuple ht
  obtain ⟨jts, r2, h2, _⟩ := I.tuple ha
  cases r1 with
  | cons p1 q1 =>
  cases q1 with
  | cons p2 q2 =>
  cases q2
  cases r2 with
  | cons p3 q3 =>
  cases q3 with
  | cons p4 q4 =>
  cases q4
  obtain ⟨k1, rfl⟩ := p1
  obtain ⟨k3, rfl⟩ := p3
  cases p2
  cases p4
  have e := RcAt.tuples (A := A) (s := s) (e := fun _ => true) h1 h2 (by omega) (fun j j1 j2 => by
    match j, j1, j2 with
    | 0, _, _ =>
      have z := EqAt.int_int (A := A.in1) (s := s) n k1 n k3
      rw [beq_self_eq_true] at z
      exact z
    | 1, _, _ => exact EqAt.same _)
  exact EqAt.of_refs c e
theorem op_neTs {K : PySem.W.Frag} (hK : X.K = K) (hu : X.A.units + 64 < cLine) : OpR X (compareOp .NotEq) (rNeTs K) := by
  subst hK
  intro pins s σ H x y v u Q I rx ry h
  obtain ⟨l, b, vs, xs, rfl, rfl, hl, hb, hn, ht, q⟩ := h
  cases rx
  cases ry
  obtain ⟨its, r1, h1, _⟩ := I.list hl
  obtain ⟨jts, r2, h2, _⟩ := I.list hb
  have n1 := r1.length
  have n2 := r2.length
  have e := RcNeAt.lists (A := X.A) (s := s) (e := fun _ => true) h1.isList h2.isList (by simp only [List.size_toArray]; omega) (by omega) (fun j j1 j2 => by
    have g1 : j < its.length := by simpa using j1
    have g2 : j < jts.length := by simpa using j2
    obtain ⟨u1, a1, b1⟩ := r1.get (List.getElem?_eq_getElem (show j < vs.length by omega))
    obtain ⟨u2, a2, b2⟩ := r2.get (List.getElem?_eq_getElem (show j < xs.length by omega))
    have z := twin_eq (A := X.A.in1) I (ht j _ _ (List.getElem?_eq_getElem (show j < vs.length by omega)) (List.getElem?_eq_getElem (show j < xs.length by omega))) b1 b2 (by show X.A.units + 1 + 8 < cLine; omega)
    rw [List.getElem?_eq_getElem g1] at a1
    rw [List.getElem?_eq_getElem g2] at a2
    cases a1
    cases a2
    simpa using z)
  have al : ((List.range its.toArray.size).all fun _ => true) = true := by simp
  rw [al] at e
  exact e X.prog X.w _ _ ⟨.bl false, H, I, rfl, q⟩
end
end Bs
/-! ### defs that show things: what is known of the guards around them -/
namespace Gd
open PySem PySem.Spec PyProof.Rows L2
variable {P : Program} {w : World} {K : PySem.W.Frag} {mg : Str → Option Value} {base : Heap} {X : Cx}
/-- nothing is being shown around -/
def Un (A : Around) : Prop := A.guards = some []
structure FnG (P : Program) (w : World) (K : PySem.W.Frag) (mg : Str → Option Value) (base : Heap) (k : Nat) (f : Addr) (fd : FuncData) (ps : List Str) (sp : Sp) : Prop where
  many : ∀ vs H Q E, sp vs H Q E → vs.length = ps.length
  does : ∀ (A : Around) (up : List Env) (s : Shared) (H : Hp) (g : Args) (us : List Value) (vs : List V) (Q : VK) (E : XK), Un A → Room k A → Env0 P w K mg base A up s H → BindsTo s fd g (ps.zip us) → Vals vs us → sp vs H Q E →
    codeAny (model P w) A (.call (.ref f) g) (CR C8.CX0 up P w H s Q E) s
theorem FnG.of {k : Nat} {f : Addr} {fd : FuncData} {ps : List Str} {sp : Sp} (F : FnOk P w K mg base C8.CX0 k f fd ps sp) : FnG P w K mg base k f fd ps sp :=
  ⟨F.len, fun A up s H g us vs Q E _ hr e b r q => F.run A up s H g us vs Q E hr e b r q⟩
theorem FnG.mono {j k : Nat} {f : Addr} {fd : FuncData} {ps : List Str} {sp : Sp} (F : FnG P w K mg base j f fd ps sp) (h : j ≤ k) : FnG P w K mg base k f fd ps sp :=
  ⟨F.many, fun A up s H g us vs Q E un hr e b r q => F.does A up s H g us vs Q E un (hr.mono h) e b r q⟩
/-- the promise of such a def, by its body -/
theorem mkG {x qual : Str} {params : Arguments} {body : List Stmt} {scope : Scope} {dvs : List V} {kws : List (Str × V)} {f : Addr} {fd : FuncData} {N ps : List Str} {k : Nat} {sp : Sp} (F : FunD K x qual params body scope dvs kws f fd) (S : FnScope N ps scope) (many : ∀ vs H Q E, sp vs H Q E → vs.length = ps.length)
    (does : ∀ (cdv : Value) (A : Around) (up : List Env) (s : Shared) (H : Hp) (vs : List V) (Q : VK) (E : XK), Un (A.deeper (envOfC qual scope s.heap.objs.size f cdv)) → Room k (A.deeper (envOfC qual scope s.heap.objs.size f cdv)) → sp vs H Q E →
      ∃ t, PSs (cxOf C8.CX0 P w K mg base N qual scope f cdv A up s H E).nox body t ∧ t { nx := fun _ H' => Q .non H', rt := Q } (start N vs) H) : FnG P w K mg base (k + 1) f fd ps sp := by
  obtain ⟨oc, od, dV, kV, doc, pm, an, cdv, ct, osl, rfl, lk, hcd, _, _⟩ := F.ex
  refine ⟨many, fun A up s H g us vs Q E un hr e b r q => ?_⟩
  have len := many _ _ _ _ q
  have kin : K.In s.heap := e.mod.kin.keeps fun b o z => (e.bs b o z).1
  have nol : s.heap.NoLimit := e.mod.nolimit.keeps fun b o z => (e.bs b o z).1
  refine codeAny_call_function hr.depth (kin _ _ lk) rfl S.co S.gen rfl (PySem.W.codeRec_of kin hcd) (b _ _ _ _ ?_)
  refine wpAny_newFunctionEnv_cells S.kind (fun y hy => ?_) fun env he s1 z => ?_
  · rcases S.par y.1 (List.of_mem_zip (a := y.1) (b := y.2) hy).1 with l | c
    · exact .inl l
    · exact .inr ⟨c, PySem.W.cellsFrom_some _ _ _ (.inl c)⟩
  · subst he
    obtain ⟨t, ht, h⟩ := does cdv A up s H vs Q E un (hr.deeper _) q
    have ht := ht.nox
    have J : Inv (cxOf C8.CX0 P w K mg base N qual scope f cdv A up s H E) [] (start N vs) H s1 := inv_start S hr.hd e len r z
    refine ⟨nol.keeps z.toInCall.keep, codeAny_func (wpAny_mono (ht.run [] s1 (start N vs) H _ J h) (fun fl s2 hs => ?_) fun _ _ hs => hs)⟩
    match fl, hs with
    | .ret _, ⟨v, _, H2, J2, rv, q2⟩ => exact ⟨v, H2, J2.os, J2.bare, J2.base, J2.hok, rv, q2⟩
    | .next, ⟨_, H2, J2, q2⟩ => exact ⟨.non, H2, J2.os, J2.bare, J2.base, J2.hok, rfl, q2⟩
    | .brk, ⟨_, _, _, q2⟩ => exact q2.elim
    | .cont, ⟨_, _, _, q2⟩ => exact q2.elim
/-- such a def, called by its name -/
structure CalG (P : Program) (w : World) (K : PySem.W.Frag) (mg : Str → Option Value) (base : Heap) (k : Nat) (x : Str) (sp : Sp) (dvs : List V) : Prop where
  ex : ∃ (f : Addr) (fd : FuncData) (ps : List Str) (ds : List Value), FnG P w K mg base k f fd ps sp ∧ mg x = some (.ref f) ∧ PySem.W.keepIn K (.ref f) = true ∧ Binds K fd ps ds ∧ Vals dvs ds
theorem pe_cG {k j : Nat} {x : Str} {sp : Sp} {dvs : List V} {p pos : Pos} {e : Expr} {es : List Expr} {t : TA} (c : CalG X.prog X.w X.K X.mg X.base k x sp dvs) (un : Un X.A) (hr : Room j X.A) (hk : k ≤ j) (hg : Gl X x) (ha : PA X (e :: es) t)
    (hdb : (x == ("__debug__" : Str)) = false := by decide) (he : starEach (e :: es) X.env = (false, eval e X.env) :: starEach es X.env := by rfl) (hpl : (backTo pos (starEach es X.env)).any (·.1) = false := by rfl) :
    PE X (.Call (.Name x p) (e :: es) [] pos) (tCall sp dvs C8.E0 t) := by
  obtain ⟨f, fd, ps, ds, F, hm, kp, b, d⟩ := c.ex
  refine ⟨fun pins s σ H Q I h => wpAny_Call_Name_kw (ld_glob I hg hm ?_ hdb)⟩
  refine PySem.W.callWith_K (h₀ := X.base) I.ok.mod.kin kp (thn (ha.run pos pins s σ H _ I h) fun us s1 ⟨vs, H1, I1, r, q⟩ => ⟨I1.kIn, ?_⟩) he hpl
  have r2 : Vals (vs ++ dvs) (us ++ ds) := r.append d
  refine wpAny_call (codeAny_mono (F.does X.A X.stack s1 H1 ⟨us, []⟩ (us ++ ds) (vs ++ dvs) Q C8.E0 un (hr.mono hk) I1.env0 (b s1 us I1.kIn (by rw [← r2.length]; exact F.many _ _ _ _ q)) r2 q) fun res s2 hq => ?_)
  match res, hq with
  | .error e, hq => exact C8.pass0 (E := C8.E0) pins σ H1 s1 e s2 I1 hq
  | .ok (.ret _), hq => exact I1.after hq
  | .ok .next, hq => exact hq.elim
  | .ok .brk, hq => exact hq.elim
  | .ok .cont, hq => exact hq.elim
/-- repr of lists and tuples -/
def rRepr (K : PySem.W.Frag) : List V → Hp → VK → Prop := fun vs H Q => ∃ (v : V) (d : PyData), vs = [v] ∧ Dp K H v d ∧ PyProof.Rows.isDisplay d = true ∧ d.showable = true ∧ d.hasDict = false ∧ d.depth ≤ 60 ∧ d.shown.length ≤ sizeLine ∧ Q (.str d.shown) H
theorem call_reprD (hK : X.K = K) (un : Un X.A) (hu : X.A.units + 64 < cLine) : CallR X (.builtin "repr") (rRepr K) := by
  subst hK
  intro pins s σ H vs us Q I r h
  obtain ⟨v, d, rfl, hd, hi, hs, hn, h6, hl, q⟩ := h
  obtain ⟨u, rfl, ru⟩ := vals1 r
  obtain ⟨as, r1⟩ := Dp.reads I d v u hd ru
  obtain ⟨a, rfl⟩ := PyProof.Rows.isRef_of_reads r1 hi
  exact repr_of_reads' r1 hs (PyData.noDict_hsm hn) un (by omega) (fun _ _ e => e) (fun h' t tk hk => ⟨.str d.shown, H, I.kept hk, ⟨t, rfl⟩, q⟩) hl
end Gd
namespace Gd
open PySem PySem.Spec PyProof.Rows L2
variable {P : Program} {w : World} {K : PySem.W.Frag} {mg mb : Str → Option Value} {k : Nat} {fa a : Addr} {fd : FuncData} {x : Str} {sp : Sp} {s : Shared} {vs : List Value} {ns : List Int}
/-- what a law's end wants of its call -/
abbrev Done (s : Shared) (r : Result) (s' : Shared) : Prop := r = .ok (.ret (.bool true)) ∧ OldK s.heap s'.heap ∧ s'.os = s.os ∧ AllBare s'.gens
theorem from_heap {H : Hp} (hO : Only H) (hS : SqL K H a (ns.map V.int)) (hok : HOk P w H s.heap) (hA : ∀ b, H b ≠ none → b = a) (hK : H a ≠ none → K.lookup a = none)
    (kin : K.In s.heap) (hm : s.heap.Ns mainGlobals mg) (hb : s.heap.Ns builtinsNs mb) (hbb : ∀ x : Str, x ≠ "__name__" → mb x = bootBuiltins x) (lim : s.heap.NoLimit) (bare : s.gens = #[])
    (ha : s.heap.get? a = some { cls := .type "list", data := .seq vs.toArray }) (hr : Room k callerA)
    (F : ∀ base : Heap, K.In base → base.Ns mainGlobals mg → FnG P w K mg base k fa fd [x] sp) (bind : ∀ (s : Shared) (u : Value), BindsTo s fd ⟨[u], []⟩ [(x, u)])
    (hsp : sp [.ref a] H (fun v _ => v = .bl true) fun _ _ _ => False) :
    codeAny (model P w) callerA (.call (.ref fa) ⟨[.ref a], []⟩) (Done s) s := by
  have clean : ∀ {b : Addr} {o : Obj}, s.heap.get? b = some o → (b = a → False) → (hidT s.heap H).get? b = some o := fun {b o} e n => hidT_get e (by
    cases q : H b with
    | none => rfl
    | some u => exact (n (hA b (by rw [q]; exact fun z => by cases z))).elim)
  have dict_ne : ∀ {b : Addr} {o : Obj} {es : Array DictEntry} {ep : Nat}, s.heap.get? b = some o → o.data = .dict es ep → b = a → False := fun {b o es ep} e d q => by
    subst q
    rw [ha] at e
    cases e
    cases d
  have ns_ : ∀ {b : Addr} {m : Str → Option Value}, s.heap.Ns b m → (hidT s.heap H).Ns b m := fun ⟨o, es, ep, e, d, r⟩ => ⟨o, es, ep, clean e (dict_ne e d), d, r⟩
  have kin2 : K.In (hidT s.heap H) := fun b o e => hidT_get (kin b o e) (by
    cases q : H b with
    | none => rfl
    | some u =>
      have z := hA b (by rw [q]; exact fun z => by cases z)
      subst z
      rw [hK (by rw [q]; exact fun z => by cases z)] at e
      cases e)
  obtain ⟨mc, c1, c2⟩ := lim
  have M : Mod K mg (hidT s.heap H) := ⟨kin2, ns_ hm, ⟨mb, ns_ hb, hbb⟩, mc, ns_ c1, c2⟩
  have E0 : Env0 P w K mg (hidT s.heap H) callerA [] s H := ⟨rfl, M, fun b o e => of_hidT e, Nat.le_of_eq (hidT_size _ _), trivial, (fun b h => by cases h), hok, .of_eq bare⟩
  refine codeAny_mono ((F _ kin2 (ns_ hm)).does callerA [] s H ⟨[.ref a], []⟩ [.ref a] [.ref a] _ _ rfl hr E0 (bind s (.ref a)) (.cons rfl .nil) hsp) fun r s' h => ?_
  match r, h with
  | .error _, h => exact h.elim
  | .ok .next, h => exact h.elim
  | .ok .brk, h => exact h.elim
  | .ok .cont, h => exact h.elim
  | .ok (.ret u), ⟨v, H', os, br, un, hok', r', q⟩ =>
    cases q
    cases r'
    refine ⟨rfl, OldK.of_keep fun b o e => ?_, os, br⟩
    rcases hO b with z | ⟨ob, xs, z⟩
    · exact un.keep b o e z (fun m => by cases m) (fun m => by cases m)
    · obtain ⟨e1, _⟩ := hok b _ z
      obtain ⟨e2, _⟩ := hok' b _ (un.frzs b ob _ z)
      rw [e] at e1
      cases e1
      exact e2
/-- the end of a law whose def shows things -/
theorem lawG {l : PySem.W.OpenLaw} {n : Nat} {q : Program} {loose : List Str} {XP : (Str → Option Value) → Heap → Prop} {YP : World → Heap → Prop} {d : DefRec} (hn : l.most = some n) (hn2 : n ≤ sizeLine) (hdf : d.params.defaults = []) (hr : Room k callerA)
    (F : ∀ (w : World) (mg : Str → Option Value) (fa : Addr) (h : Heap), YP w h → h.Ns mainGlobals mg → mg d.name = some (.ref fa) → ∃ (K : PySem.W.Frag) (fd : FuncData) (sp : Sp), K.In h ∧ (∀ (s : Shared) (u : Value), BindsTo s fd ⟨[u], []⟩ [(x, u)]) ∧
      (∀ (H : Hp) (a : Addr) (ns : List Int), ns.length ≤ n → Only H → SqL K H a (ns.map V.int) → sp [.ref a] H (fun v _ => v = .bl true) fun _ _ _ => False) ∧ ∀ base : Heap, K.In base → base.Ns mainGlobals mg → FnG l.prog w K mg base k fa fd [x] sp) :
    PySem.W.WalkO q loose XP YP l.row.toRowW d [] (fun f vs => PySem.call f vs) := by
  refine Att.attach_call hn hdf fun w s₀ s mg mb fa o pm cd doc a vs ns G Y _ _ _ hmg ha hi hlen bare => ?_
  obtain ⟨K, fd, sp, kin, bind, hsp, hF⟩ := F w mg fa _ Y G.T.g hmg
  have rv := vals_ints hi
  have lz : ns.length ≤ sizeLine := Nat.le_trans hlen hn2
  cases hk : K.lookup a with
  | some o =>
    have e := kin a o hk
    rw [ha] at e
    cases e
    have hS : SqL K (fun _ => none) a (ns.map V.int) := .inr ⟨_, vs.toArray, _, hk, rfl, rfl, rfl, by rw [List.size_toArray, hi.length]; exact lz, by simpa using rv⟩
    exact from_heap (fun _ => .inl rfl) hS (fun _ _ z => by cases z) (fun _ z => absurd rfl z) (fun z => absurd rfl z) kin G.T.g G.T.b G.T.builtins G.T.nolimit bare ha hr hF bind (hsp _ a ns hlen (fun _ => .inl rfl) hS)
  | none =>
    have hS : SqL K (upd (fun _ => none) a (.frz { cls := .type "list", data := .seq vs.toArray } (.lst (ns.map V.int)))) a (ns.map V.int) := .inl (.inr ⟨_, upd_same⟩)
    have hO : Only (upd (fun _ => none) a (.frz { cls := .type "list", data := .seq vs.toArray } (.lst (ns.map V.int)))) := fun b => by
      by_cases c : b = a
      · subst c; exact .inr ⟨_, _, upd_same⟩
      · exact .inl (by rw [upd_ne c])
    refine from_heap hO hS (fun b u z => ?_) (fun b z => ?_) (fun _ => hk) kin G.T.g G.T.b G.T.builtins G.T.nolimit bare ha hr hF bind (hsp _ a ns hlen hO hS)
    · by_cases c : b = a
      · subst c
        rw [upd_same] at z
        cases z
        exact ⟨ha, by rw [List.length_map]; exact lz, vs, _, rv, ha⟩
      · rw [upd_ne c] at z
        cases z
    · by_cases c : b = a
      · exact c
      · rw [upd_ne c] at z
        exact absurd rfl z
end Gd
/-! ### C(), a class without __init__ -/
namespace Gd
open PySem PySem.Spec PyProof.Rows L2 PySem.W
variable {X : Cx} {C : Addr} {x : Str} {p pos : Pos}
structure New0 (K : PySem.W.Frag) (C : Addr) : Prop where
  makes : makesIn K C = true
  kp : keepIn K (.ref C) = true
  init : findIn K (.ref C) "__init__" = some (some (.builtin "object.__init__"))
def tNew0 (C : Addr) : TE := fun _ H Q => ∀ x dx, H x = none → H dx = none → dx ≠ x → Q (.ref x) (upd (upd H dx (.own x)) x (.ins C dx []))
theorem pe_new0 (N : New0 X.K C) (hg : Gl X x) (hm : X.mg x = some (.ref C)) (hdb : (x == ("__debug__" : Str)) = false := by decide) : PE X (.Call (.Name x p) [] [] pos) (tNew0 C) := by
  refine ⟨fun pins s σ H Q I h => wpAny_Call_Name_kw (ld_glob I hg hm ?_ hdb)⟩
  have hq := h (s.heap.objs.size + 1) s.heap.objs.size (I.hok.fresh (Nat.le_succ _)) (I.hok.fresh (Nat.le_refl _)) (Nat.ne_of_lt (Nat.lt_succ_self _))
  have I2 := Inv.made (C := C) I
  have Y := makes_of (M := model X.prog X.w) I.kIn N.makes
  have lk : ((s.heap.push emptyDict).push (instObj C s.heap.objs.size)).get? (s.heap.objs.size + 1) = some (instObj C s.heap.objs.size) := by
    have e : s.heap.objs.size + 1 = (s.heap.push emptyDict).objs.size := (Heap.size_push _ _).symm
    rw [e]
    exact Heap.get?_push_size _ rfl
  have isC : Looks (model X.prog X.w) ((s.heap.push emptyDict).push (instObj C s.heap.objs.size)) (typeOf (.ref (s.heap.objs.size + 1))) (.ref C) := (Looks.ld lk).andThen .now
  have isO : Looks (model X.prog X.w) ((s.heap.push emptyDict).push (instObj C s.heap.objs.size)) (isInstance (.ref (s.heap.objs.size + 1)) (.type "object")) true :=
    isC.andThen (Y.top.keeps fun b o e => Heap.get?_push_of_some _ (Heap.get?_push_of_some _ e))
  refine callWith_K0 I.kIn N.kp (wpAny_call (make_map0 I.kIn N.makes N.init (fun self => Looks.of_pure (oi_bind self)) ?_))
  refine codeAny_call_builtin oi_plain entry_oi (check_slot oi_kind oi_split isO (oi_args _) ?_)
  rw [oi_run]
  exact wpAny_pure ⟨rfl, .ref _, _, I2, rfl, hq⟩
end Gd
/-! ### set(xs), the texts of xs all different, any number of them; len(set(xs)) -/
namespace Ts
open PySem PySem.Spec PyProof.Rows
section
variable {p : Program} {w : World} {A : Around} {R : Result → Shared → Prop} {E : Value → Shared → Prop} {I : Addr} {fp wr : List Addr} {G : Array GenState → Array GenState → Prop} {n : Nat} {P : Nat → Value → Prop} {St : Nat → Shared → Prop} {s : Shared}
/-- the first i of xs are in the set at S -/
def Has (p : Program) (w : World) (h : Heap) (S : Addr) (xs : List Str) (i : Nat) : Prop := h.SetOf (PySem.strKind p w) S (fun z => decide (z ∈ xs.take i)) i
theorem Has.at_ {h h' : Heap} {S : Addr} {xs : List Str} {i : Nat} (k : ∀ o, h.get? S = some o → h'.get? S = some o) : Has p w h S xs i → Has p w h' S xs i
  | ⟨o, es, ep, t, ho, r⟩ => ⟨o, es, ep, t, k o ho, r⟩
theorem Has.fresh {h : Heap} {S : Addr} {xs : List Str} {led : Bool} (e : h.get? S = some { cls := .type "set", dict := none, data := .set #[] 0 (.fresh 0 0 led) }) : Has p w h S xs 0 :=
  SetOf_congr ((setObjOf_fresh (knd := PySem.strKind p w) led).setOf e (by unfold scanBound; omega)) (fun k => by simp) rfl
theorem nodup_next {xs : List Str} {i : Nat} (nd : xs.Nodup) (hi : i < xs.length) : xs.getD i Str.empty ∉ xs.take i ∧ ∀ z, z ∈ xs.take (i + 1) ↔ z ∈ xs.take i ∨ z = xs.getD i Str.empty := by
  have eg : xs.getD i Str.empty = xs[i] := by rw [List.getD_eq_getElem?_getD, List.getElem?_eq_getElem hi]; rfl
  have et : xs.take (i + 1) = xs.take i ++ [xs[i]] := by rw [List.take_succ, List.getElem?_eq_getElem hi]; rfl
  rw [eg]
  refine ⟨fun hm => ?_, fun z => by rw [et, List.mem_append, List.mem_singleton]⟩
  have nd2 : (xs.take (i + 1)).Nodup := nd.sublist (List.take_sublist _ _)
  rw [et] at nd2
  exact (List.nodup_append.mp nd2).2.2 _ hm _ List.mem_cons_self rfl
/-- the loop: text behind text -/
theorem upd_strs (W : WalksS p w A.in1 I fp wr G n P St) {S : Addr} (hSf : S ∉ fp) {xs : List Str} (hn : xs.length = n) (nd : xs.Nodup) (hb : n + 1 < scanBound) (hval : ∀ i v, P i v → ∃ t, v = .str (xs.getD i Str.empty) t) :
    ∀ (j i : Nat) (s : Shared), i + j = n → St i s → Has p w s.heap S xs i → (∀ s', Moved (S :: wr) G s s' → Has p w s'.heap S xs n → R (.ok (.ret .none)) s') →
      codeAny (model p w) A (.builtin "set.update.loop" ⟨[.ref S, .ref I], []⟩) R s := by
  have nw : S ∉ wr := fun z => hSf (W.sub _ z)
  have up : ∀ b ∈ wr, b ∈ S :: wr := fun _ z => .tail _ z
  intro j
  induction j with
  | zero =>
    rintro i s rfl hs hS hR
    refine codeAny_builtin PyProof.Rows.F.entry_set_update_loop ?_
    rw [Around.under_plainId PyProof.Rows.F.plain_set_update_loop _]
    exact wpAny_bind (W.done s _ _ hs fun s' m => wpAny_pure (hR s' (m.mono up) (hS.at_ fun o e => m.heap S o nw e)))
  | succ j ih =>
    intro i s hij hs hS hR
    refine codeAny_builtin PyProof.Rows.F.entry_set_update_loop ?_
    rw [Around.under_plainId PyProof.Rows.F.plain_set_update_loop _]
    refine wpAny_bind (W.item i s _ _ (by omega) hs fun v s1 hP hs1 m => ?_)
    obtain ⟨t, rfl⟩ := hval i v hP
    have hS1 : Has p w s1.heap S xs i := hS.at_ fun o e => m.heap S o nw e
    obtain ⟨n1, n2⟩ := nodup_next (i := i) nd (by omega)
    show wpAny _ A.in1 (holding [Value.str (xs.getD i Str.empty) t] (setAdd S (.str (xs.getD i Str.empty) t)) >>= _) _ _ s1
    refine wpAny_bind (wpAny_holding ?_)
    unfold setAdd
    refine wpAny_holding (wpAny_bind ((PySem.strKind p w).pyHash (k := xs.getD i Str.empty) (strKind_is _ _ _ _) ?_))
    refine wpAny_setAddHashed_of (knd := PySem.strKind p w) (s := { s1 with toks := s1.toks + 1 }) (strKind_is _ _ _ _) rfl hS1 (by omega) fun h2 sb hS2 => ?_
    have hS3 : Has p w h2 S xs (i + 1) := SetOf_congr hS2 (fun z => by
      rw [Bool.eq_iff_iff]
      simp only [Bool.or_eq_true, decide_eq_true_eq]
      exact (n2 z).symm) (if_neg (by rw [decide_eq_true_eq]; exact n1))
    refine wpAny_pure ⟨plainId_quiet PyProof.Rows.F.plain_set_update_loop _, ih (i + 1) _ (by omega) (W.frame _ s1 _ _ hs1 (Nat.le_succ _) fun b hb' o e => ?_) hS3 fun s3 m3 hS4 => hR s3 (Moved.trans W.gtrans ((m.mono up).then_heap (Nat.le_succ _) fun b o nb e => ?_) m3) hS4⟩
    · exact (sb.2 b fun z => hSf (z ▸ hb')).trans e
    · exact (sb.2 b fun z => nb (z ▸ .head _)).trans e
end
/-- a set that was just laid -/
abbrev nset (led : Bool) : Obj := { cls := .type "set", dict := none, data := .set #[] 0 (.fresh 0 0 led) }

theorem set_list {p : Program} {w : World} {A : Around} {E : Value → Shared → Prop} {s : Shared} {l : Addr} {its : Array Value} {xs : List Str} {Q : Value → Shared → Prop} (hh : A.handled = none) (hl : s.heap.IsList l its) (hi : StrsAre its.toList xs) (nd : xs.Nodup) (hb : xs.length + 1 < scanBound)
    (h : ∀ (h' : Heap) (tk : Nat), Has p w h' s.heap.objs.size xs xs.length → (∀ b o, b < s.heap.objs.size → s.heap.get? b = some o → h'.get? b = some o) → Q (.ref s.heap.objs.size) { s with heap := h', toks := tk }) :
    wpAny (model p w) A (call (.type "set") [.ref l]) Q E s := by
  obtain ⟨c, tl, hmro⟩ := PySem.F.called_set.mro
  have f1 := PySem.F.called_set.made
  have f2 := PySem.F.called_set.sub
  have f3 := PySem.F.called_set.notType
  have f4 := PySem.F.called_set.canCreate
  have f5 := PySem.F.typeCall_set_1 (.ref l)
  refine wpAny_call (codeAny_of_tree ?_)
  show wpAny _ _ (callAny (.type "set") _) _ _ _
  refine wpAny_pure ⟨Code.quiet_builtin _ (by decide +kernel), codeAny_builtin PySem.F.entry_type_call ?_⟩
  rw [Around.under_plain (weight_type_call_type "set" [.ref l] []) rfl]
  repeat (any_goals (first | assumption | wp_step))
  refine codeAny_mono (code_set_new_1 (.ref l) (E := E) (Q₁ := fun u s₁ => ∃ led, u = .ref s.heap.objs.size ∧ s₁ = { s with heap := s.heap.push (nset led) }) fun led => ⟨led, rfl, rfl⟩) fun r s₁ hr => ?_
  match r, hr with
  | .error _, hr => exact hr
  | .ok .next, hr => exact hr.elim
  | .ok .brk, hr => exact hr.elim
  | .ok .cont, hr => exact hr.elim
  | .ok (.ret u), hr =>
  obtain ⟨led, rfl, rfl⟩ := hr
  have hS : (s.heap.push (nset led)).get? s.heap.objs.size = some (nset led) := Heap.get?_push_size _ rfl
  have hT : Shared.TypeIs { s with heap := s.heap.push (nset led) } (.ref s.heap.objs.size) "set" := ⟨_, hS, rfl⟩
  have g1 := PySem.F.called_set.init.lookup
  have g2 := PySem.F.called_set.init.bind (.ref s.heap.objs.size)
  repeat (any_goals (first | assumption | wp_step))
  refine codeAny_mono (codeAny_call_builtin (R := wants (fun r s₂ => r = .none ∧ ∃ h' tk, s₂ = { s with heap := h', toks := tk } ∧ Has p w h' s.heap.objs.size xs xs.length ∧ (∀ b o, b < s.heap.objs.size → s.heap.get? b = some o → h'.get? b = some o)) E) PySem.F.called_set.init.plain PySem.F.entry_set_init (check_set_init_1 hT ?_)) fun r₂ s₂ hr₂ => ?_
  · obtain ⟨⟨oc, od, dt, sl⟩, ho, hc, nl, hd⟩ := hl
    simp only at hc hd
    subst hc hd
    have ho' : (s.heap.push (nset led)).get? l = some { cls := .type "list", dict := od, data := .seq its nl, slots := sl } := Heap.get?_push_of_some _ ho
    have t1 := PySem.F.sub_list_set
    have t2 := PySem.F.sub_list_frozenset
    have t3 : (Value.type "list" == Value.type "dict") = false := by decide
    have hl1 : (s.heap.push (nset led)).IsList l its := ⟨_, ho', rfl, nl, rfl⟩
    unfold Builtin.«set.__init__» noKeywords Builtin.Frozenset.updateFrom
    generalize hPI : pyIter = PI
    wp_walk
    subst hPI
    have lt := Heap.lt_size ho
    have sz : (s.heap.push (nset led)).objs.size = s.heap.objs.size + 1 := Heap.size_push _ _
    have ne : l ≠ (s.heap.push (nset led)).objs.size := by rw [sz]; exact Nat.ne_of_lt (Nat.lt_succ_of_lt lt)
    refine wpAny_pyIter_list hl1 (wpAny_bind (wpAny_runValue ?_))
    refine upd_strs (xs := xs) (S := s.heap.objs.size) ((Walks.list (A := A.in1.in1.in1) (by simp [hh]) _ l ne its).toS) ?_ (by rw [← StrsAre.len_eq hi, Array.length_toList]) nd (by rw [← Array.length_toList, StrsAre.len_eq hi]; exact hb) (fun i v hv => SS.strs_at hi i v (by rw [Array.getElem?_toList]; exact hv)) its.size 0 _ (Nat.zero_add _)
      ⟨⟨_, Heap.get?_push_size _ rfl, rfl, rfl⟩, hl1.push _⟩ (.fresh (led := led) (Heap.get?_push_of_some _ hS)) ?_
    · rw [sz]
      simp only [List.mem_cons, List.not_mem_nil, or_false, not_or]
      exact ⟨Nat.ne_of_lt (Nat.lt_succ_self _), Nat.ne_of_gt lt⟩
    · rintro ⟨h', g', d', tk', os'⟩ m hS'
      obtain rfl : g' = s.gens := m.gens
      obtain rfl : d' = s.drawn := m.drawn
      obtain rfl : os' = s.os := m.os
      rw [show its.size = xs.length by rw [← Array.length_toList, StrsAre.len_eq hi]] at hS'
      refine wpAny_pure (wpAny_pure ⟨rfl, h', tk', rfl, hS', fun b o hb e => m.heap b o ?_ (Heap.get?_push_of_some _ (Heap.get?_push_of_some _ e))⟩)
      rw [sz]
      simp only [List.mem_cons, List.not_mem_nil, or_false, not_or]
      exact ⟨Nat.ne_of_lt hb, Nat.ne_of_lt (Nat.lt_succ_of_lt hb)⟩
  · match r₂, hr₂ with
    | .error _, hr₂ => exact hr₂
    | .ok .next, hr₂ => exact hr₂.elim
    | .ok .brk, hr₂ => exact hr₂.elim
    | .ok .cont, hr₂ => exact hr₂.elim
    | .ok (.ret r), hr₂ =>
      obtain ⟨rfl, h', tk, rfl, q1, q2⟩ := hr₂
      repeat (any_goals (first | assumption | wp_step))
      exact h _ _ q1 q2

theorem set_tuple {p : Program} {w : World} {A : Around} {E : Value → Shared → Prop} {s : Shared} {l : Addr} {its : Array Value} {xs : List Str} {Q : Value → Shared → Prop} (hh : A.handled = none) (hl : s.heap.IsTuple l its) (hi : StrsAre its.toList xs) (nd : xs.Nodup) (hb : xs.length + 1 < scanBound)
    (h : ∀ (h' : Heap) (tk : Nat), Has p w h' s.heap.objs.size xs xs.length → (∀ b o, b < s.heap.objs.size → s.heap.get? b = some o → h'.get? b = some o) → Q (.ref s.heap.objs.size) { s with heap := h', toks := tk }) :
    wpAny (model p w) A (call (.type "set") [.ref l]) Q E s := by
  obtain ⟨c, tl, hmro⟩ := PySem.F.called_set.mro
  have f1 := PySem.F.called_set.made
  have f2 := PySem.F.called_set.sub
  have f3 := PySem.F.called_set.notType
  have f4 := PySem.F.called_set.canCreate
  have f5 := PySem.F.typeCall_set_1 (.ref l)
  refine wpAny_call (codeAny_of_tree ?_)
  show wpAny _ _ (callAny (.type "set") _) _ _ _
  refine wpAny_pure ⟨Code.quiet_builtin _ (by decide +kernel), codeAny_builtin PySem.F.entry_type_call ?_⟩
  rw [Around.under_plain (weight_type_call_type "set" [.ref l] []) rfl]
  repeat (any_goals (first | assumption | wp_step))
  refine codeAny_mono (code_set_new_1 (.ref l) (E := E) (Q₁ := fun u s₁ => ∃ led, u = .ref s.heap.objs.size ∧ s₁ = { s with heap := s.heap.push (nset led) }) fun led => ⟨led, rfl, rfl⟩) fun r s₁ hr => ?_
  match r, hr with
  | .error _, hr => exact hr
  | .ok .next, hr => exact hr.elim
  | .ok .brk, hr => exact hr.elim
  | .ok .cont, hr => exact hr.elim
  | .ok (.ret u), hr =>
  obtain ⟨led, rfl, rfl⟩ := hr
  have hS : (s.heap.push (nset led)).get? s.heap.objs.size = some (nset led) := Heap.get?_push_size _ rfl
  have hT : Shared.TypeIs { s with heap := s.heap.push (nset led) } (.ref s.heap.objs.size) "set" := ⟨_, hS, rfl⟩
  have g1 := PySem.F.called_set.init.lookup
  have g2 := PySem.F.called_set.init.bind (.ref s.heap.objs.size)
  repeat (any_goals (first | assumption | wp_step))
  refine codeAny_mono (codeAny_call_builtin (R := wants (fun r s₂ => r = .none ∧ ∃ h' tk, s₂ = { s with heap := h', toks := tk } ∧ Has p w h' s.heap.objs.size xs xs.length ∧ (∀ b o, b < s.heap.objs.size → s.heap.get? b = some o → h'.get? b = some o)) E) PySem.F.called_set.init.plain PySem.F.entry_set_init (check_set_init_1 hT ?_)) fun r₂ s₂ hr₂ => ?_
  · obtain ⟨⟨oc, od, dt, sl⟩, ho, hc, nl, hd⟩ := hl
    simp only at hc hd
    subst hc hd
    have ho' : (s.heap.push (nset led)).get? l = some { cls := .type "tuple", dict := od, data := .seq its nl, slots := sl } := Heap.get?_push_of_some _ ho
    have t1 := PySem.F.sub_tuple_set
    have t2 := PySem.F.sub_tuple_frozenset
    have t3 : (Value.type "tuple" == Value.type "dict") = false := by decide
    have hl1 : (s.heap.push (nset led)).IsTuple l its := ⟨_, ho', rfl, nl, rfl⟩
    unfold Builtin.«set.__init__» noKeywords Builtin.Frozenset.updateFrom
    generalize hPI : pyIter = PI
    wp_walk
    subst hPI
    have lt := Heap.lt_size ho
    have sz : (s.heap.push (nset led)).objs.size = s.heap.objs.size + 1 := Heap.size_push _ _
    have ne : l ≠ (s.heap.push (nset led)).objs.size := by rw [sz]; exact Nat.ne_of_lt (Nat.lt_succ_of_lt lt)
    refine wpAny_pyIter_tuple hl1 (wpAny_bind (wpAny_runValue ?_))
    refine upd_strs (xs := xs) (S := s.heap.objs.size) ((Walks.tuple (A := A.in1.in1.in1) (by simp [hh]) _ l ne its).toS) ?_ (by rw [← StrsAre.len_eq hi, Array.length_toList]) nd (by rw [← Array.length_toList, StrsAre.len_eq hi]; exact hb) (fun i v hv => SS.strs_at hi i v (by rw [Array.getElem?_toList]; exact hv)) its.size 0 _ (Nat.zero_add _)
      ⟨⟨_, Heap.get?_push_size _ rfl, rfl, rfl⟩, hl1.push _⟩ (.fresh (led := led) (Heap.get?_push_of_some _ hS)) ?_
    · rw [sz]
      simp only [List.mem_cons, List.not_mem_nil, or_false, not_or]
      exact ⟨Nat.ne_of_lt (Nat.lt_succ_self _), Nat.ne_of_gt lt⟩
    · rintro ⟨h', g', d', tk', os'⟩ m hS'
      obtain rfl : g' = s.gens := m.gens
      obtain rfl : d' = s.drawn := m.drawn
      obtain rfl : os' = s.os := m.os
      rw [show its.size = xs.length by rw [← Array.length_toList, StrsAre.len_eq hi]] at hS'
      refine wpAny_pure (wpAny_pure ⟨rfl, h', tk', rfl, hS', fun b o hb e => m.heap b o ?_ (Heap.get?_push_of_some _ (Heap.get?_push_of_some _ e))⟩)
      rw [sz]
      simp only [List.mem_cons, List.not_mem_nil, or_false, not_or]
      exact ⟨Nat.ne_of_lt hb, Nat.ne_of_lt (Nat.lt_succ_of_lt hb)⟩
  · match r₂, hr₂ with
    | .error _, hr₂ => exact hr₂
    | .ok .next, hr₂ => exact hr₂.elim
    | .ok .brk, hr₂ => exact hr₂.elim
    | .ok .cont, hr₂ => exact hr₂.elim
    | .ok (.ret r), hr₂ =>
      obtain ⟨rfl, h', tk, rfl, q1, q2⟩ := hr₂
      repeat (any_goals (first | assumption | wp_step))
      exact h _ _ q1 q2
end Ts
namespace L2
open PySem PySem.Spec PyProof.Rows
/-- len(set(xs)), texts all different -/
def tLenSetN (K : PySem.W.Frag) (ta : TE) : TE := fun σ H Q => ta σ H fun x H1 => ∃ (l : Addr) (xs : List Str), x = .ref l ∧ (SqL K H1 l (xs.map V.str) ∨ SqT K H1 l (xs.map V.str)) ∧ xs.Nodup ∧ xs.length + 1 < scanBound ∧ Q (.int xs.length) H1
theorem pe_lenSetN {X : Cx} {K : PySem.W.Frag} {a : Expr} {ta : TE} {p p2 q pos : Pos} (hK : X.K = K) (hc : X.calm = true) (hg : Gl X "len") (hm : X.mg "len" = none) (hg2 : Gl X "set") (hm2 : X.mg "set" = none) (ha : PE X a ta)
    (na : starEach [a] X.env = (false, eval a X.env) :: starEach [] X.env := by rfl) : PE X (.Call (.Name "len" p) [.Call (.Name "set" p2) [a] [] q] [] pos) (tLenSetN K ta) := by
  subst hK
  refine ⟨fun pins s σ H Q I h => ?_⟩
  refine Call_ (ld_blt I hg hm boot_len (callWith_builtin1 (args_cons ?_ rfl) rfl rfl))
  refine Call_ (ld_blt I hg2 hm2 boot_set (callWith_type1 (args_cons (thn (ha.run pins s σ H _ I h) fun v s1 ⟨x, H1, I1, r1, l, xs, e, hq, nd, hb, q1⟩ => args_nil ?_) na) na rfl))
  subst e
  cases r1
  have fin : ∀ (h' : Heap) (tk : Nat), Ts.Has X.prog X.w h' s1.heap.objs.size xs xs.length → (∀ b o, b < s1.heap.objs.size → s1.heap.get? b = some o → h'.get? b = some o) →
      wpAny (model X.prog X.w) X.A (spliced (backTo pos (starEach [] X.env))) (fun vs s₂ => wpAny (model X.prog X.w) X.A (call (.builtin "len") (Value.ref s1.heap.objs.size :: vs)) (EP X pins σ Q) X.xe s₂) X.xe { s1 with heap := h', toks := tk } := fun h' tk hS hk => by
    obtain ⟨o, es, ep, t, ho, hex, hd, _, _, _, hf, hn⟩ := hS
    have I2 : Inv X pins σ H1 { s1 with heap := h', toks := tk } := I1.kept fun b o e => hk b o (Heap.lt_size e) e
    exact args_nil (call_len_set ho hex hd hf (by rw [hn]; unfold scanBound at hb; omega) ⟨.int xs.length, H1, I2.tok _, ⟨_, by rw [hn]⟩, q1⟩)
  rcases hq with hq | hq
  · obtain ⟨its, r, pl, _⟩ := I1.list hq
    exact Ts.set_list (I1.ok.hd hc) pl.isList (by simpa using strsAre_of r) nd hb fin
  · obtain ⟨its, r, pl, _⟩ := I1.tuple hq
    exact Ts.set_tuple (I1.ok.hd hc) pl (by simpa using strsAre_of r) nd hb fin
end L2
namespace Bs
open PySem PySem.Spec PyProof.Rows L2
variable {X : Cx} {K : PySem.W.Frag}
/-- a statement that is never reached -/
def tNo : TS := fun _ _ _ => False
theorem ps_no {st : Stmt} : PS X st tNo := ⟨fun _ _ _ _ _ _ h => h.elim⟩
/-- o.m(e, ..) of a built-in thing, the written part named -/
theorem pe_bmK {o e : Expr} {es : List Expr} {to : TE} {t : TA} {name : Str} {apos cpos : Pos} {T id : String} {r : V → List V → Hp → VK → Prop} (hK : X.K = K) (pa : PlainAttrs T) (slot : Slot T name id) (hty : typeOf (.builtin id) = pure (.type "method_descriptor")) (hm : MtR X id r) (ho : PE X o to) (ha : PA X (e :: es) t)
    (hbase : attributeBase o name X.env (eval o X.env) = eval o X.env := by rfl)
    (hfew : ((backTo cpos (starEach (e :: es) X.env)).all (fun x => !x.1) && (backToKw cpos (keywordEach [] X.env)).all (fun x => x.1.isSome)
      && decide ((e :: es).length + ([] : List Keyword).length + (if ([] : List Keyword).isEmpty then 0 else 1) < 30)) = true := by rfl)
    (hline : (apos.endLine == cpos.line) = true := by rfl) (hs : starEach (e :: es) X.env = (false, eval e X.env) :: starEach es X.env := by rfl) (hplain : (backTo cpos (starEach es X.env)).any (·.1) = false := by rfl) :
    PE X (.Call (.Attribute o name apos) (e :: es) [] cpos) (tBM K T r to t) := by
  subst hK
  exact pe_bm pa slot hty hm ho ha hbase hfew hline hs hplain
/-- x in a tuple of data -/
def rInDT (K : PySem.W.Frag) : R2 := fun x y H Q => ∃ d ds, Dp K H x d ∧ Dp K H y (.tuple ds) ∧ SeqAt.shaped d = true ∧ SeqAt.shaped (.tuple ds) = true ∧ Q (.bl (ds.any fun z => PyData.eqv z d)) H
theorem op_inDT (hu : X.A.units + 65 < cLine) : OpR X (compareOp .In) (rInDT X.K) := by
  intro pins s σ H x y v u Q I rx ry h
  obtain ⟨d, ds, hd, he, sd, se, q⟩ := h
  obtain ⟨as, r1⟩ := Dp.reads I d x v hd rx
  obtain ⟨bs, r2⟩ := Dp.reads I (.tuple ds) y u he ry
  exact SeqAt.in_tuple_reads r2 r1 (SeqAt.canLay_of_shaped se) (SeqAt.canLay_of_shaped sd) (room_in_shaped sd hu) ⟨.bl _, H, I, rfl, q⟩
/-- C(e, .., k = v, ..) -/
structure MakP (P : Program) (w : World) (K : PySem.W.Frag) (mg : Str → Option Value) (base : Heap) (k : Nat) (x : Str) (C : Addr) (n : Nat) (ks : List Str) (gV : List V → List V → List V) (sp : Sp) : Prop where
  ex : ∃ (f : Addr) (fd : FuncData) (ps : List Str) (g : List Value → List Value → List Value), Mk K C f ∧ FnOk P w K mg base C8.CX0 k f fd ps sp ∧ mg x = some (.ref C) ∧ KBn K fd ps (n + 1) ks g gV
section
variable {k j n : Nat} {x m : Str} {sp : Sp} {ks : List Str} {gV : List V → List V → List V} {p pos apos : Pos} {kws : List Keyword} {t tk : TA} {C f : Addr} {e o : Expr} {es : List Expr} {ta : TE}
theorem pe_mkp (c : MakP X.prog X.w X.K X.mg X.base k x C n ks gV sp) (hr : Room j X.A) (hk : k + 1 ≤ j) (hg : Gl X x) (ha : PA X (e :: es) t) (hkw : PK X kws tk)
    (hall : (backToKw pos (keywordEach kws X.env)).all (·.1.isSome) = true := by rfl) (hks : (backToKw pos (keywordEach kws X.env)).filterMap (·.1) = ks := by rfl) (hdb : (x == ("__debug__" : Str)) = false := by decide)
    (he : starEach (e :: es) X.env = (false, eval e X.env) :: starEach es X.env := by rfl) (hpl : ((backTo pos (starEach (e :: es) X.env)).any (·.1) || (backToKw pos (keywordEach kws X.env)).any (·.1.isNone)) = false := by rfl) :
    PE X (.Call (.Name x p) (e :: es) kws pos) (tMakeK C n ks.length sp gV C8.E0 t tk) := by
  obtain ⟨f, fd, ps, g, M, F, hm, hb⟩ := c.ex
  exact pe_makeK M F (hr.mono hk) hg hm hb C8.pass0 ha hkw hall hks hdb he hpl
/-- o.m(e, ..), m a method with a star -/
structure MetR (P : Program) (w : World) (K : PySem.W.Frag) (mg : Str → Option Value) (base : Heap) (k : Nat) (C : Addr) (m : Str) (sp : Sp) : Prop where
  ex : ∃ f : Addr, Cls K C ∧ Meth K C m f ∧ FnR P w K mg base C8.CX0 k f sp
def tMethR (C : Addr) (m : Str) (sp : Sp) (ta : TE) (t : TA) : TE := fun σ H Q => ta σ H fun x H1 => ∃ a dx fs, x = .ref a ∧ H1 a = some (.ins C dx fs) ∧ fs.lookup m = none ∧ t σ H1 fun vs H2 => sp (x :: vs) H2 Q C8.E0
theorem pe_mtr {pl : Sem Bool} (c : MetR X.prog X.w X.K X.mg X.base k C m sp) (hr : Room j X.A) (hk : k ≤ j) (he : PE X o ta) (ha : PA X (e :: es) t)
    (hst : starEach (e :: es) X.env = (false, eval e X.env) :: starEach es X.env := by rfl) (hpl : (backTo pos (starEach es X.env)).any (·.1) = false := by rfl)
    (ht : eval (.Call (.Attribute o m apos) (e :: es) [] pos) X.env = (do
      let ov ← eval o X.env
      standAt apos.atName
      let (f, first) ← holding [ov] (getMethod ov m pl)
      callWith pos f first (backTo pos (starEach (e :: es) X.env)) (backToKw pos (keywordEach [] X.env))) := by rfl) : PE X (.Call (.Attribute o m apos) (e :: es) [] pos) (tMethR C m sp ta t) := by
  obtain ⟨f, c1, hm, F⟩ := c.ex
  refine ⟨fun pins s σ H Q I h => ?_⟩
  refine PySem.W.methodCall_KW (pl := pl) (thn (he.run pins s σ H _ I h) fun u s1 ⟨x, H1, I1, rx, a, dx, fs, ex, ea, l, q⟩ => ?_) ht
  subst ex
  obtain rfl : u = Value.ref a := rx
  refine getmeth_ok I1 ea c1 hm l ?_
  refine PySem.W.callWith_K (first := [.ref a]) (h₀ := X.base) I.ok.mod.kin hm.kp (thn (ha.run pos pins s1 σ H1 _ I1 q) fun us s2 ⟨vs, H2, I2, r, q2⟩ => ⟨I2.kIn, ?_⟩) hst hpl
  exact wpAny_call (run_fnR (us := .ref a :: us) (vs := .ref a :: vs) F (hr.mono hk) C8.pass0 I2 (.cons rfl r) q2)
theorem pe_mtr0 {pl : Sem Bool} (c : MetR X.prog X.w X.K X.mg X.base k C m sp) (hr : Room j X.A) (hk : k ≤ j) (he : PE X o ta)
    (ht : eval (.Call (.Attribute o m apos) [] [] pos) X.env = (do
      let ov ← eval o X.env
      standAt apos.atName
      let (f, first) ← holding [ov] (getMethod ov m pl)
      callWith pos f first (backTo pos (starEach [] X.env)) (backToKw pos (keywordEach [] X.env))) := by rfl) : PE X (.Call (.Attribute o m apos) [] [] pos) (tMethR C m sp ta tNil) := by
  obtain ⟨f, c1, hm, F⟩ := c.ex
  refine ⟨fun pins s σ H Q I h => ?_⟩
  refine PySem.W.methodCall_KW (pl := pl) (thn (he.run pins s σ H _ I h) fun u s1 ⟨x, H1, I1, rx, a, dx, fs, ex, ea, l, q⟩ => ?_) ht
  subst ex
  obtain rfl : u = Value.ref a := rx
  refine getmeth_ok I1 ea c1 hm l ?_
  exact PySem.W.callWith_K0 (first := [.ref a]) I1.kIn hm.kp (wpAny_call (run_fnR (us := [.ref a]) (vs := [.ref a]) F (hr.mono hk) C8.pass0 I1 (.cons rfl .nil) q))
end
end Bs
namespace Bs
open PySem PySem.Spec PyProof.Rows L2 SX
variable {P : Program} {w : World} {K : PySem.W.Frag} {mg : Str → Option Value} {base : Heap}
/-! ### the part of the heap that never changes again -/
def KpO (p : Option Addr) (H H' : Hp) : Prop := ∀ b o, H b = some o → some b ≠ p → H' b = some o
structure Step (p : Option Addr) (G H G' H' : Hp) : Prop where
  gg : Same G G'
  gh : Same G' H'
  new : ∀ b, G' b ≠ none → G b ≠ none ∨ H b = none
  kp : KpO p H H'
  pp : ∀ b, some b = p → H b ≠ none → H' b ≠ none
section
variable {p : Option Addr} {G H G1 H1 G2 H2 : Hp} {q : Addr} {o : HO}
theorem Step.refl (h : Same G H) : Step p G H G H := ⟨Same.refl G, h, fun b hb => .inl hb, fun b o e _ => e, fun b _ e => e⟩
theorem Step.keep (a : Step p G H G1 H1) {b : Addr} (hb : H b ≠ none) : H1 b ≠ none := by
  by_cases e : some b = p
  · exact a.pp b e hb
  · cases eh : H b with
    | none => exact absurd eh hb
    | some o => rw [a.kp b o eh e]; exact fun z => by cases z
theorem Step.free (a : Step p G H G1 H1) {b : Addr} (hb : H1 b = none) : H b = none := by
  cases eh : H b with
  | none => rfl
  | some o => exact absurd hb (a.keep (by rw [eh]; exact fun z => by cases z))
theorem Step.trans (a : Step p G H G1 H1) (b : Step p G1 H1 G2 H2) : Step p G H G2 H2 where
  gg := a.gg.trans b.gg
  gh := b.gh
  new c hc := by
    rcases b.new c hc with h | h
    · exact a.new c h
    · exact .inr (a.free h)
  kp c o e n := b.kp c o (a.kp c o e n) n
  pp c e h := b.pp c e (a.pp c e h)
theorem Step.out (a : Step p G H G1 H1) {b : Addr} (h1 : G b = none) (h2 : H b ≠ none) : G1 b = none := by
  cases e : G1 b with
  | none => rfl
  | some o =>
    rcases a.new b (by rw [e]; exact fun z => by cases z) with h | h
    · exact absurd h1 h
    · exact absurd h h2
theorem same_none (h : Same G H) (hq : H q = none) : G q = none := h.free hq
/-- a new object that will never change -/
theorem Step.new_ (a : Step p G H G1 H1) (hq : H1 q = none) : Step p G H (upd G1 q o) (upd H1 q o) where
  gg := Same.new a.gg (same_none a.gh hq)
  gh b u e := by
    by_cases c : b = q
    · subst c; rw [upd_same] at e ⊢; exact e
    · rw [upd_ne c] at e ⊢; exact a.gh b u e
  new b hb := by
    by_cases c : b = q
    · subst c; exact .inr (a.free hq)
    · rw [upd_ne c] at hb; exact a.new b hb
  kp b u e n := by
    have h := a.kp b u e n
    rw [upd_ne (ne_of_none h hq)]; exact h
  pp b e h := by
    have z := a.pp b e h
    have c : b ≠ q := fun c => z (by rw [c]; exact hq)
    rw [upd_ne c]; exact z
/-- an object that may change stands or changes at q, which was free at the start -/
theorem Step.loc (a : Step p G H G1 H1) (hq : H q = none) (gq : G1 q = none) : Step p G H G1 (upd H1 q o) where
  gg := a.gg
  gh b u e := by rw [upd_ne (ne_of_none e gq)]; exact a.gh b u e
  new := a.new
  kp b u e n := by rw [upd_ne (ne_of_none e hq)]; exact a.kp b u e n
  pp b e h := by
    have c : b ≠ q := fun c => h (by rw [c]; exact hq)
    rw [upd_ne c]; exact a.pp b e h
/-- what stands at a local q will never change again -/
theorem Step.freeze (a : Step p G H G1 H1) (hq : H q = none) (h : H1 q = some o) (gq : G1 q = none) : Step p G H (upd G1 q o) H1 where
  gg := Same.new a.gg gq
  gh b u e := by
    by_cases c : b = q
    · subst c; rw [upd_same] at e; rw [h]; exact e
    · rw [upd_ne c] at e; exact a.gh b u e
  new b hb := by
    by_cases c : b = q
    · subst c; exact .inr hq
    · rw [upd_ne c] at hb; exact a.new b hb
  kp := a.kp
  pp := a.pp
theorem Step.same (a : Step none G H G1 H1) : Same H H1 := fun b o e => a.kp b o e (fun z => by cases z)
theorem Step.some_ {c : Addr} (a : Step none G H G1 H1) : Step (some c) G H G1 H1 := ⟨a.gg, a.gh, a.new, fun b o e _ => a.same b o e, fun b _ h => by
  cases eh : H b with
  | none => exact absurd eh h
  | some o => rw [a.same b o eh]; exact fun z => by cases z⟩
theorem Kp.step {c : Addr} (k : Kp c H H1) (h : Same G H) (gc : G c = none) (hc : H c ≠ none → H1 c ≠ none) : Step (some c) G H G H1 where
  gg := Same.refl G
  gh b o e := k b o (h b o e) (ne_of_none e gc)
  new b hb := .inl hb
  kp b o e n := k b o e (fun z => n (by rw [z]))
  pp b e h := by rw [Option.some.inj e] at h ⊢; exact hc h
theorem Step.kpc {c : Addr} (a : Step (some c) G H G1 H1) : Kp c H H1 := fun b o e n => a.kp b o e fun z => n (Option.some.inj z)
end
/-- the pen stands at p, outside of what never changes -/
structure Ps (K : PySem.W.Frag) (G H : Hp) (p : Addr) (n : Nat) : Prop where
  gh : Same G H
  out : G p = none
  pen : Pen K H p n
theorem Ps.step {G H G1 H1 : Hp} {p : Addr} {n m : Nat} (a : Ps K G H p n) (s : Step (some p) G H G1 H1) (h : Pen K H1 p m) : Ps K G1 H1 p m := ⟨s.gh, s.out a.out a.pen.there, h⟩
theorem Ps.stepN {G H G1 H1 : Hp} {p : Addr} {n : Nat} (a : Ps K G H p n) (s : Step none G H G1 H1) : Ps K G1 H1 p n := ⟨s.gh, s.out a.out a.pen.there, a.pen.same s.same⟩
theorem Ps.draw {G H H1 : Hp} {p : Addr} {n : Nat} (a : Ps K G H p n) (k : Kp p H H1) (h : Pen K H1 p (n + 1)) : Step (some p) G H G H1 ∧ Ps K G H1 p (n + 1) := by
  have s : Step (some p) G H G H1 := Kp.step k a.gh a.out fun _ => h.there
  exact ⟨s, a.step s h⟩
theorem Ps.new_ {G H : Hp} {p q : Addr} {n : Nat} {o : HO} (a : Ps K G H p n) (hq : H q = none) : Step (some p) G H (upd G q o) (upd H q o) ∧ Ps K (upd G q o) (upd H q o) p n := by
  have s : Step none G H (upd G q o) (upd H q o) := (Step.refl a.gh).new_ hq
  exact ⟨s.some_, a.stepN s⟩
theorem Ps.mono {G H : Hp} {p : Addr} {n m : Nat} (a : Ps K G H p n) (h : n ≤ m) : Ps K G H p m := ⟨a.gh, a.out, a.pen.mono h⟩
/-! ### terms -/
inductive So where
  | row | column | place | zero | func | rule
  deriving DecidableEq
def So.s : So → Str
  | .row => "row"
  | .column => "column"
  | .place => "place"
  | .zero => "zero"
  | .func => "function"
  | .rule => "rule"
inductive Mt where
  | mk (so : So) (w : List Nat) (ts : List Mt) (b : Bool)
def tx (so : So) (w : List Nat) (xs : List (List Nat)) (b : Bool) : List Nat := match so with
  | .row => if b = true then w ++ [39] else w
  | .column => xs.headD [] ++ [46] ++ w
  | .place => [64] ++ xs.headD []
  | .zero => [48]
  | .func => w ++ [40] ++ TL.joinL [44, 32] xs ++ [41]
  | .rule => w ++ [91] ++ TL.joinL [44, 32] xs ++ [93]
def Mt.txt : Mt → List Nat
  | .mk so w ts b => tx so w (ts.map Mt.txt) b
theorem Mt.txt_mk (so : So) (w : List Nat) (ts : List Mt) (b : Bool) : (Mt.mk so w ts b).txt = tx so w (ts.map Mt.txt) b := by rw [Mt.txt]
def Mt.dep : Mt → Nat
  | .mk _ _ ts _ => 1 + (ts.map Mt.dep).foldr max 0
theorem Mt.dep_mk (so : So) (w : List Nat) (ts : List Mt) (b : Bool) : (Mt.mk so w ts b).dep = 1 + (ts.map Mt.dep).foldr max 0 := by rw [Mt.dep]
theorem fold_max {l : List Nat} {x : Nat} (h : x ∈ l) : x ≤ l.foldr max 0 := by
  induction l with
  | nil => cases h
  | cons y r ih =>
    rw [List.foldr_cons]
    rcases List.mem_cons.mp h with h | h
    · rw [h]; exact Nat.le_max_left ..
    · exact Nat.le_trans (ih h) (Nat.le_max_right ..)
theorem Mt.dep_part {so : So} {w : List Nat} {ts : List Mt} {b : Bool} {t : Mt} (h : t ∈ ts) : t.dep < (Mt.mk so w ts b).dep := by
  rw [Mt.dep_mk]
  have := fold_max (List.mem_map_of_mem (f := Mt.dep) h)
  omega
/-- the law's own tuples of a term, all below what never changes -/
inductive MAt (G : Hp) : V → Mt → Prop where
  | mk {a p : Addr} {so : So} {w : List Nat} {vs : List V} {ts : List Mt} {b : Bool} (ha : G a = some (.tup [.str so.s, .str (S w), .ref p, .bl b])) (hp : G p = some (.tup vs)) (hl : vs.length = ts.length)
      (h : ∀ (i : Nat) (v : V) (t : Mt), vs[i]? = some v → ts[i]? = some t → MAt G v t) : MAt G (.ref a) (.mk so w ts b)
theorem MAt.same {G G' : Hp} (s : Same G G') : ∀ {v : V} {t : Mt}, MAt G v t → MAt G' v t := fun h => by
  induction h with
  | mk ha hp hl _ ih => exact .mk (s _ _ ha) (s _ _ hp) hl ih
/-- the program's term objects -/
def tf (so : So) (w : List Nat) (l : Addr) (b : Bool) (t : List Nat) (d : Nat) : List (Str × V) :=
  putF "_depth" (.int (d : Nat)) (putF "text" (.str (S t)) (putF "marked" (.bl b) (putF "parts" (.ref l) (putF "name" (.str (S w)) (putF "kind" (.str so.s) [])))))
inductive TAt (C : Addr) (G : Hp) : V → Mt → Prop where
  | mk {a dx l : Addr} {so : So} {w : List Nat} {vs : List V} {ts : List Mt} {b : Bool} (ha : G a = some (.ins C dx (tf so w l b (tx so w (ts.map Mt.txt) b) (1 + (ts.map Mt.dep).foldr max 0)))) (hp : G l = some (.lst vs)) (hl : vs.length = ts.length)
      (h : ∀ (i : Nat) (v : V) (t : Mt), vs[i]? = some v → ts[i]? = some t → TAt C G v t) : TAt C G (.ref a) (.mk so w ts b)
theorem TAt.same {C : Addr} {G G' : Hp} (s : Same G G') : ∀ {v : V} {t : Mt}, TAt C G v t → TAt C G' v t := fun h => by
  induction h with
  | mk ha hp hl _ ih => exact .mk (s _ _ ha) (s _ _ hp) hl ih
section
variable {so : So} {w : List Nat} {l : Addr} {b : Bool} {t : List Nat} {d : Nat}
theorem tf_depth : (tf so w l b t d).lookup ("_depth" : Str) = some (.int (d : Nat)) := by unfold tf; rw [lookup_putF, if_pos rfl]
theorem tf_text : (tf so w l b t d).lookup ("text" : Str) = some (.str (S t)) := by unfold tf; rw [lookup_putF, if_neg (by decide +kernel), lookup_putF, if_pos rfl]
theorem tf_marked : (tf so w l b t d).lookup ("marked" : Str) = some (.bl b) := by unfold tf; rw [lookup_putF, if_neg (by decide +kernel), lookup_putF, if_neg (by decide +kernel), lookup_putF, if_pos rfl]
theorem tf_parts : (tf so w l b t d).lookup ("parts" : Str) = some (.ref l) := by unfold tf; rw [lookup_putF, if_neg (by decide +kernel), lookup_putF, if_neg (by decide +kernel), lookup_putF, if_neg (by decide +kernel), lookup_putF, if_pos rfl]
theorem tf_name : (tf so w l b t d).lookup ("name" : Str) = some (.str (S w)) := by unfold tf; rw [lookup_putF, if_neg (by decide +kernel), lookup_putF, if_neg (by decide +kernel), lookup_putF, if_neg (by decide +kernel), lookup_putF, if_neg (by decide +kernel), lookup_putF, if_pos rfl]
theorem tf_kind : (tf so w l b t d).lookup ("kind" : Str) = some (.str so.s) := by unfold tf; rw [lookup_putF, if_neg (by decide +kernel), lookup_putF, if_neg (by decide +kernel), lookup_putF, if_neg (by decide +kernel), lookup_putF, if_neg (by decide +kernel), lookup_putF, if_neg (by decide +kernel), lookup_putF, if_pos rfl]
end
theorem Same.off {G H : Hp} {q : Addr} {o : HO} (s : Same G H) (h : G q = none) : Same G (upd H q o) := fun b u e => by rw [upd_ne (ne_of_none e h)]; exact s b u e
theorem max_is {l : List Nat} {m : Int} (h0 : l.map (fun (n : Nat) => (n : Int)) = [] → m = 0) (h1 : l.map (fun (n : Nat) => (n : Int)) ≠ [] → m ∈ l.map (fun (n : Nat) => (n : Int)) ∧ ∀ k ∈ l.map (fun (n : Nat) => (n : Int)), k ≤ m) : m = ((l.foldr max 0 : Nat) : Int) := by
  cases l with
  | nil => exact h0 rfl
  | cons x r =>
    obtain ⟨hm, ha⟩ := h1 (fun z => by cases z)
    obtain ⟨n, hn, rfl⟩ := List.mem_map.mp hm
    have up := fold_max hn
    have dn : (x :: r).foldr max 0 ≤ n := by
      have all : ∀ y ∈ x :: r, y ≤ n := fun y hy => by
        have := ha _ (List.mem_map_of_mem (f := fun (n : Nat) => (n : Int)) hy)
        omega
      have gen : ∀ q : List Nat, (∀ y ∈ q, y ≤ n) → q.foldr max 0 ≤ n := fun q => by
        induction q with
        | nil => intro _; exact Nat.zero_le _
        | cons z s ih =>
          intro h
          rw [List.foldr_cons]
          exact Nat.max_le.mpr ⟨h z List.mem_cons_self, ih fun y hy => h y (List.mem_cons_of_mem _ hy)⟩
      exact gen _ all
    exact congrArg (fun (n : Nat) => (n : Int)) (Nat.le_antisymm up dn)
end Bs
namespace Bs
open PySem PySem.Spec PyProof.Rows L2 SX
/-! ### names, lies, tables: what they are, their rows, and that a row tells its table -/
def W29 : List Str := ["table", "key", "dealt", "anyhow", "copied", "zero", "scan", "where", "compute", "equal", "keep", "distinct", "group", "with", "count", "sum", "sort", "own", "split", "broadcast", "gather", "merge", "join", "semi", "anti", "union", "answer", "in", "self"]
def WD : List (List Nat) := W29.map fun x => x.cps.toList
def sgB (c : Nat) : Bool := decide (97 ≤ c ∧ c ≤ 122) || (decide (48 ≤ c ∧ c ≤ 57) || decide (c = 95))
structure Nm (w : List Nat) : Prop where
  len : w.length ≤ 8
  hd : ∃ c r, w = c :: r ∧ 97 ≤ c ∧ c ≤ 122
  sg : ∀ c ∈ w, sgB c = true
  no : w ∉ WD
def nmB (w : List Nat) : Bool := decide (w.length ≤ 8) && ((match w with | c :: _ => decide (97 ≤ c ∧ c ≤ 122) | [] => false) && (w.all sgB && decide (w ∉ WD)))
theorem nm_of {w : List Nat} (h : nmB w = true) : Nm w := by
  obtain ⟨h1, h⟩ := Bool.and_eq_true_iff.mp h
  obtain ⟨h2, h⟩ := Bool.and_eq_true_iff.mp h
  obtain ⟨h3, h4⟩ := Bool.and_eq_true_iff.mp h
  refine ⟨of_decide_eq_true h1, ?_, List.all_eq_true.mp h3, of_decide_eq_true h4⟩
  cases w with
  | nil => cases h2
  | cons c r => exact ⟨c, r, rfl, (of_decide_eq_true h2).1, (of_decide_eq_true h2).2⟩
theorem Nm.pos {w : List Nat} (h : Nm w) : 0 < w.length := by
  obtain ⟨c, r, rfl, _⟩ := h.hd
  simp
theorem Nm.noW {w : List Nat} (h : Nm w) : S w ∉ W29 := fun z => h.no (List.mem_map.mpr ⟨S w, z, by simp [S]⟩)
theorem sg_lt {c : Nat} (h : sgB c = true) : c < 128 ∧ c ≠ 32 := by
  unfold sgB at h
  simp only [Bool.or_eq_true, decide_eq_true_eq] at h
  omega
inductive Lie where
  | copied | anyhow | zero
  | dealt (r : List Nat) (ds : List (List Nat))
deriving DecidableEq
def Lie.hd : Lie → List Nat
  | .copied => [99, 111, 112, 105, 101, 100]
  | .anyhow => [97, 110, 121, 104, 111, 119]
  | .zero => [122, 101, 114, 111]
  | .dealt _ _ => [100, 101, 97, 108, 116]
def Lie.tl : Lie → List (List Nat)
  | .dealt r ds => r :: ds
  | _ => []
structure Br where
  n : List Nat
  cs : List (List Nat)
  ky : List (List Nat)
  li : Lie
deriving DecidableEq
structure Sub (ks cs : List (List Nat)) : Prop where
  mem : ∀ k ∈ ks, k ∈ cs
  nd : ks.Nodup
structure OkL (cs : List (List Nat)) (l : Lie) : Prop where
  d : ∀ r ds, l = .dealt r ds → Nm r ∧ Sub ds cs ∧ 1 ≤ ds.length ∧ ds.length ≤ 3
structure OkC (cs : List (List Nat)) : Prop where
  nm : ∀ c ∈ cs, Nm c
  nd : cs.Nodup
  lo : 1 ≤ cs.length
  hi : cs.length ≤ 8
structure Ok (b : Br) : Prop where
  n : Nm b.n
  c : OkC b.cs
  k : Sub b.ky b.cs
  l : OkL b.cs b.li
theorem nodup_len {α : Type} [DecidableEq α] : ∀ {ks cs : List α}, ks.Nodup → (∀ k ∈ ks, k ∈ cs) → ks.length ≤ cs.length
  | [], _, _, _ => Nat.zero_le _
  | k :: r, cs, nd, h => by
    have hk := h k List.mem_cons_self
    have ih := nodup_len (ks := r) (cs := cs.erase k) (List.nodup_cons.mp nd).2 fun z hz => (List.mem_erase_of_ne (fun e : z = k => (List.nodup_cons.mp nd).1 (by rw [← e]; exact hz))).mpr (h z (List.mem_cons_of_mem _ hz))
    rw [List.length_erase_of_mem hk] at ih
    have := List.length_pos_of_mem hk
    simp only [List.length_cons]
    omega
theorem Sub.le {ks cs : List (List Nat)} (h : Sub ks cs) : ks.length ≤ cs.length := nodup_len h.nd h.mem
def kyW : List Nat := [107, 101, 121]
def tbW : List Nat := [116, 97, 98, 108, 101]
def rest (ky : List (List Nat)) (l : Lie) : List (List Nat) := (if ky = [] then [] else kyW :: ky) ++ l.hd :: l.tl
def words (b : Br) : List (List Nat) := tbW :: b.n :: (b.cs ++ rest b.ky b.li)
def txtB (b : Br) : List Nat := TL.joinL [32] (words b)
theorem split_at {x : Nat} : ∀ {p q a b : List Nat}, x ∉ p → x ∉ q → p ++ x :: a = q ++ x :: b → p = q ∧ a = b
  | [], [], a, b, _, _, h => ⟨rfl, (List.cons.inj h).2⟩
  | [], c :: q, a, b, _, hq, h => absurd ((List.cons.inj h).1 ▸ List.mem_cons_self) hq
  | c :: p, [], a, b, hp, _, h => absurd ((List.cons.inj h).1.symm ▸ List.mem_cons_self) hp
  | c :: p, d :: q, a, b, hp, hq, h => by
    obtain ⟨h1, h2⟩ := List.cons.inj h
    obtain ⟨h3, h4⟩ := split_at (fun z => hp (List.mem_cons_of_mem _ z)) (fun z => hq (List.mem_cons_of_mem _ z)) h2
    exact ⟨by rw [h1, h3], h4⟩
theorem join_inj : ∀ {xs ys : List (List Nat)}, xs ≠ [] → ys ≠ [] → (∀ w ∈ xs, 32 ∉ w) → (∀ w ∈ ys, 32 ∉ w) → TL.joinL [32] xs = TL.joinL [32] ys → xs = ys
  | [], _, h, _, _, _, _ => absurd rfl h
  | _, [], _, h, _, _, _ => absurd rfl h
  | [p], [q], _, _, _, _, h => by rw [show p = q from h]
  | [p], q :: q2 :: r, _, _, hp, _, h => absurd (show 32 ∈ p by
      have h : p = q ++ ([32] ++ TL.joinL [32] (q2 :: r)) := h
      rw [h]; simp) (hp p List.mem_cons_self)
  | p :: p2 :: r, [q], _, _, _, hq, h => absurd (show 32 ∈ q by
      have h : p ++ ([32] ++ TL.joinL [32] (p2 :: r)) = q := h
      rw [← h]; simp) (hq q List.mem_cons_self)
  | p :: p2 :: r, q :: q2 :: t, _, _, hp, hq, h => by
    have h : p ++ 32 :: TL.joinL [32] (p2 :: r) = q ++ 32 :: TL.joinL [32] (q2 :: t) := h
    obtain ⟨h1, h2⟩ := split_at (hp p List.mem_cons_self) (hq q List.mem_cons_self) h
    rw [h1, join_inj (xs := p2 :: r) (ys := q2 :: t) (by simp) (by simp) (fun w hw => hp w (List.mem_cons_of_mem _ hw)) (fun w hw => hq w (List.mem_cons_of_mem _ hw)) h2]
theorem part_at {P : List Nat → Prop} {x y : List Nat} : ∀ {p q a b : List (List Nat)}, (∀ w ∈ p, P w) → (∀ w ∈ q, P w) → ¬ P x → ¬ P y → p ++ x :: a = q ++ y :: b → p = q ∧ x :: a = y :: b
  | [], [], _, _, _, _, _, _, h => ⟨rfl, h⟩
  | [], c :: q, a, b, _, hq, hx, _, h => absurd (hq c List.mem_cons_self) ((List.cons.inj h).1 ▸ hx)
  | c :: p, [], a, b, hp, _, _, hy, h => absurd (hp c List.mem_cons_self) ((List.cons.inj h).1 ▸ hy)
  | c :: p, d :: q, a, b, hp, hq, hx, hy, h => by
    obtain ⟨h1, h2⟩ := List.cons.inj h
    obtain ⟨h3, h4⟩ := part_at (fun w hw => hp w (List.mem_cons_of_mem _ hw)) (fun w hw => hq w (List.mem_cons_of_mem _ hw)) hx hy h2
    exact ⟨by rw [h1, h3], h4⟩
theorem hd_in (l : Lie) : l.hd ∈ WD := match l with
  | .copied => by decide +kernel
  | .anyhow => by decide +kernel
  | .zero => by decide +kernel
  | .dealt _ _ => show ([100, 101, 97, 108, 116] : List Nat) ∈ WD by decide +kernel
theorem hd_no (l : Lie) : ¬ Nm l.hd := fun h => h.no (hd_in l)
theorem ky_no : ¬ Nm kyW := fun h => h.no (by decide +kernel)
theorem hd_ky (l : Lie) : l.hd ≠ kyW := match l with
  | .copied => by decide
  | .anyhow => by decide
  | .zero => by decide
  | .dealt _ _ => show ([100, 101, 97, 108, 116] : List Nat) ≠ kyW by decide
theorem hd_sp (l : Lie) : 32 ∉ l.hd := match l with
  | .copied => by decide
  | .anyhow => by decide
  | .zero => by decide
  | .dealt _ _ => show 32 ∉ ([100, 101, 97, 108, 116] : List Nat) by decide
theorem Nm.sp {w : List Nat} (h : Nm w) : 32 ∉ w := fun z => (sg_lt (h.sg 32 z)).2 rfl
theorem OkL.nm {cs : List (List Nat)} {l : Lie} (h : OkL cs l) (hc : ∀ c ∈ cs, Nm c) : ∀ w ∈ l.tl, Nm w := fun w hw => by
  cases l with
  | dealt r ds =>
    obtain ⟨h1, h2, _⟩ := h.d r ds rfl
    rcases List.mem_cons.mp hw with rfl | hw
    · exact h1
    · exact hc w (h2.mem w hw)
  | _ => cases hw
theorem words_sp {b : Br} (h : Ok b) : ∀ w ∈ words b, 32 ∉ w := fun w hw => by
  have hl := h.l.nm h.c.nm
  unfold words rest at hw
  simp only [List.mem_cons, List.mem_append] at hw
  rcases hw with rfl | rfl | hw | hw | rfl | hw
  · decide
  · exact h.n.sp
  · exact (h.c.nm w hw).sp
  · split at hw
    · cases hw
    · rcases List.mem_cons.mp hw with rfl | hw
      · decide
      · exact (h.c.nm w (h.k.mem w hw)).sp
  · exact hd_sp _
  · exact (hl w hw).sp
theorem lie_inj : ∀ {l m : Lie}, l.hd :: l.tl = m.hd :: m.tl → l = m
  | .copied, .copied, _ => rfl
  | .anyhow, .anyhow, _ => rfl
  | .zero, .zero, _ => rfl
  | .dealt r ds, .dealt r2 ds2, h => by
    obtain ⟨h3, h4⟩ := List.cons.inj (show r :: ds = r2 :: ds2 from (List.cons.inj h).2)
    rw [h3, h4]
  | .copied, .anyhow, h => absurd (List.cons.inj h).1 (by decide)
  | .copied, .zero, h => absurd (List.cons.inj h).1 (by decide)
  | .copied, .dealt _ _, h => absurd (show ([99, 111, 112, 105, 101, 100] : List Nat) = [100, 101, 97, 108, 116] from (List.cons.inj h).1) (by decide)
  | .anyhow, .copied, h => absurd (List.cons.inj h).1 (by decide)
  | .anyhow, .zero, h => absurd (List.cons.inj h).1 (by decide)
  | .anyhow, .dealt _ _, h => absurd (show ([97, 110, 121, 104, 111, 119] : List Nat) = [100, 101, 97, 108, 116] from (List.cons.inj h).1) (by decide)
  | .zero, .copied, h => absurd (List.cons.inj h).1 (by decide)
  | .zero, .anyhow, h => absurd (List.cons.inj h).1 (by decide)
  | .zero, .dealt _ _, h => absurd (show ([122, 101, 114, 111] : List Nat) = [100, 101, 97, 108, 116] from (List.cons.inj h).1) (by decide)
  | .dealt _ _, .copied, h => absurd (show ([100, 101, 97, 108, 116] : List Nat) = [99, 111, 112, 105, 101, 100] from (List.cons.inj h).1) (by decide)
  | .dealt _ _, .anyhow, h => absurd (show ([100, 101, 97, 108, 116] : List Nat) = [97, 110, 121, 104, 111, 119] from (List.cons.inj h).1) (by decide)
  | .dealt _ _, .zero, h => absurd (show ([100, 101, 97, 108, 116] : List Nat) = [122, 101, 114, 111] from (List.cons.inj h).1) (by decide)
theorem rest_cons (ky : List (List Nat)) (l : Lie) : ∃ x t, rest ky l = x :: t ∧ ¬ Nm x := by
  unfold rest
  split
  · exact ⟨_, _, rfl, hd_no l⟩
  · exact ⟨_, _, rfl, ky_no⟩
theorem txt_inj {a b : Br} (ha : Ok a) (hb : Ok b) (h : txtB a = txtB b) : a = b := by
  have e := join_inj (by simp [words]) (by simp [words]) (words_sp ha) (words_sp hb) h
  unfold words at e
  obtain ⟨_, e⟩ := List.cons.inj e
  obtain ⟨e1, e⟩ := List.cons.inj e
  obtain ⟨x, t, ex, nx⟩ := rest_cons a.ky a.li
  obtain ⟨y, u, ey, ny⟩ := rest_cons b.ky b.li
  rw [ex, ey] at e
  obtain ⟨e2, e3⟩ := part_at (P := Nm) ha.c.nm hb.c.nm nx ny e
  rw [← ex, ← ey] at e3
  have e4 : a.ky = b.ky ∧ a.li = b.li := by
    unfold rest at e3
    by_cases ca : a.ky = [] <;> by_cases cb : b.ky = []
    · rw [if_pos ca, if_pos cb] at e3
      exact ⟨by rw [ca, cb], lie_inj e3⟩
    · rw [if_pos ca, if_neg cb] at e3
      exact absurd (List.cons.inj e3).1 (hd_ky _)
    · rw [if_neg ca, if_pos cb] at e3
      exact absurd (List.cons.inj e3).1.symm (hd_ky _)
    · rw [if_neg ca, if_neg cb] at e3
      obtain ⟨_, e5⟩ := List.cons.inj e3
      obtain ⟨e6, e7⟩ := part_at (P := Nm) (fun w hw => ha.c.nm w (ha.k.mem w hw)) (fun w hw => hb.c.nm w (hb.k.mem w hw)) (hd_no _) (hd_no _) e5
      exact ⟨e6, lie_inj e7⟩
  cases a
  cases b
  simp only at e1 e2 e4
  rw [e1, e2, e4.1, e4.2]
/-! ### as data -/
def strsD (xs : List (List Nat)) : List PyData := xs.map fun w => PyData.str (S w)
def lieD : Lie → PyData
  | .dealt r ds => .tuple [.str (S [100, 101, 97, 108, 116]), .str (S r), .tuple (strsD ds)]
  | l => .tuple [.str (S l.hd)]
def brD (b : Br) : PyData := .list [.str (S b.n), .list (strsD b.cs), .list (strsD b.ky), lieD b.li]
theorem strs_eqv : ∀ xs ys : List (List Nat), PyData.eqvAll (strsD xs) (strsD ys) = decide (xs = ys)
  | [], [] => by simp [strsD, PyData.eqvAll]
  | [], _ :: _ => by simp [strsD, PyData.eqvAll]
  | _ :: _, [] => by simp [strsD, PyData.eqvAll]
  | x :: xs, y :: ys => by
    have ih := strs_eqv xs ys
    unfold strsD at ih ⊢
    simp only [List.map_cons, PyData.eqvAll, PyData.eqv, ih]
    by_cases c : x = y
    · subst c; simp
    · have : (S x == S y) = false := beq_eq_false_iff_ne.mpr fun z => c (S_inj z)
      rw [this]; simp [c]
theorem str_eqv (x y : List Nat) : (S x == S y) = decide (x = y) := by
  by_cases c : x = y
  · subst c; simp
  · rw [beq_eq_false_iff_ne.mpr fun z => c (S_inj z), decide_eq_false c]
theorem lie_eqv (l m : Lie) : (lieD l).eqv (lieD m) = decide (l = m) := by
  cases l <;> cases m <;> simp only [lieD, Lie.hd, PyData.eqv, PyData.eqvAll, strs_eqv, str_eqv, List.map_nil] <;> simp
theorem br_eqv (a b : Br) : (brD a).eqv (brD b) = decide (a = b) := by
  cases a; cases b
  simp only [brD, PyData.eqv, PyData.eqvAll, strs_eqv, str_eqv, lie_eqv, Br.mk.injEq]
  simp [Bool.and_assoc, Bool.decide_and]
end Bs
namespace Bs
open PySem PySem.Spec PyProof.Rows L2 SX
variable {P : Program} {w : World} {K : PySem.W.Frag} {mg : Str → Option Value} {base : Heap}
theorem sqL_same {G H : Hp} {a : Addr} {xs : List V} (h : SqL K G a xs) (s : Same G H) : SqL K H a xs := by
  rcases h with (h | ⟨o, h⟩) | h
  · exact .inl (.inl (s _ _ h))
  · exact .inl (.inr ⟨o, s _ _ h⟩)
  · exact .inr h
theorem sqT_same {G H : Hp} {a : Addr} {xs : List V} (h : SqT K G a xs) (s : Same G H) : SqT K H a xs := by
  rcases h with (h | ⟨o, h⟩) | h
  · exact .inl (.inl (s _ _ h))
  · exact .inl (.inr ⟨o, s _ _ h⟩)
  · exact .inr h
def Sq (K : PySem.W.Frag) (H : Hp) (a : Addr) (xs : List V) : Prop := SqL K H a xs ∨ SqT K H a xs
theorem Sq.same {G H : Hp} {a : Addr} {xs : List V} (h : Sq K G a xs) (s : Same G H) : Sq K H a xs := h.imp (fun h => sqL_same h s) fun h => sqT_same h s
abbrev sV (xs : List (List Nat)) : List V := (xs.map S).map V.str
theorem sV_len (xs : List (List Nat)) : (sV xs).length = xs.length := by rw [List.length_map, List.length_map]
theorem sV_flat (xs : List (List Nat)) : (sV xs).all flatV = true := by
  rw [List.all_eq_true]
  intro v hv
  obtain ⟨x, _, rfl⟩ := List.mem_map.mp hv
  rfl
theorem S_nodup {xs : List (List Nat)} (h : xs.Nodup) : (xs.map S).Nodup := by
  induction xs with
  | nil => exact List.nodup_nil
  | cons x r ih =>
    obtain ⟨h1, h2⟩ := List.nodup_cons.mp h
    refine List.nodup_cons.mpr ⟨fun z => ?_, ih h2⟩
    obtain ⟨y, hy, e⟩ := List.mem_map.mp z
    exact h1 (S_inj e ▸ hy)
theorem rep_app (b : Bool) (i : Nat) : (List.replicate i b).map V.bl ++ [V.bl b] = (List.replicate (i + 1) b).map V.bl := by
  rw [List.replicate_succ', List.map_append]
  rfl
theorem all_rep (i : Nat) : (List.replicate i true).all id = true := by
  rw [List.all_eq_true]
  intro x hx
  rw [(List.mem_replicate.mp hx).2]
  rfl
theorem inV_str (x : Str) (ys : List Str) : inV (.str x) (ys.map V.str) = decide (x ∈ ys) := by
  unfold inV
  induction ys with
  | nil => rfl
  | cons y r ih =>
    rw [List.map_cons, List.any_cons, ih]
    have e : eqV (.str y) (.str x) = decide (x = y) := by
      unfold eqV
      by_cases h : x = y
      · subst h; simp
      · have h' : ¬ y = x := fun q => h q.symm
        simp [h, h']
    rw [e]
    simp
theorem inV_sV (x : List Nat) (xs : List (List Nat)) : inV (.str (S x)) (sV xs) = decide (x ∈ xs) := by
  rw [inV_str, decide_eq_decide, List.mem_map]
  exact ⟨fun ⟨y, hy, e⟩ => S_inj e ▸ hy, fun h => ⟨x, h, rfl⟩⟩
def LieAt (K : PySem.W.Frag) (G : Hp) (a : Addr) : Lie → Prop
  | .dealt r ds => ∃ d, SqT K G a [.str (S [100, 101, 97, 108, 116]), .str (S r), .ref d] ∧ SqT K G d (sV ds)
  | l => SqT K G a [.str (S l.hd)]
theorem LieAt.same {G H : Hp} {a : Addr} {l : Lie} (h : LieAt K G a l) (s : Same G H) : LieAt K H a l := by
  cases l with
  | dealt r ds =>
    obtain ⟨d, h1, h2⟩ := h
    exact ⟨d, sqT_same h1 s, sqT_same h2 s⟩
  | _ => exact sqT_same h s
theorem dp_sV {H : Hp} : ∀ xs : List (List Nat), DpAll K H (sV xs) (strsD xs)
  | [] => .nil
  | x :: r => .cons (.str _) (dp_sV r)
theorem LieAt.dp {H : Hp} {a : Addr} {l : Lie} (h : LieAt K H a l) : Dp K H (.ref a) (lieD l) := by
  cases l with
  | dealt r ds =>
    obtain ⟨d, h1, h2⟩ := h
    exact .tup h1 (.cons (.str _) (.cons (.str _) (.cons (.tup h2 (dp_sV ds)) .nil)))
  | _ => exact .tup h (.cons (.str _) .nil)
theorem LieAt.hd {G : Hp} {a : Addr} {l : Lie} (h : LieAt K G a l) : ∃ r, SqT K G a (.str (S l.hd) :: r) := by
  cases l with
  | dealt r ds =>
    obtain ⟨d, h1, _⟩ := h
    exact ⟨_, h1⟩
  | _ => exact ⟨_, h⟩
def spNameT : Sp := fun vs H Q _ => ∃ (G : Hp) (w : List Nat), vs = [.str (S w)] ∧ Nm w ∧ Same G H ∧ ∀ H' : Hp, Step none G H G H' → Q (.bl true) H'
def spTwice (K : PySem.W.Frag) : Sp := fun vs H Q _ => ∃ (a : Addr) (xs : List (List Nat)), vs = [.ref a] ∧ Sq K H a (sV xs) ∧ xs.Nodup ∧ xs.length ≤ 100 ∧ Q (.bl false) H
def spUnlike (K : PySem.W.Frag) : Sp := fun vs H Q _ => ∃ (G : Hp) (a c : Addr) (ks cs : List (List Nat)), vs = [.ref a, .ref c] ∧ Same G H ∧ Sq K G a (sV ks) ∧ SqL K G c (sV cs) ∧ Sub ks cs ∧ ks.length ≤ 100 ∧ ∀ H' : Hp, Step none G H G H' → Q (.bl true) H'
def spDealt (K : PySem.W.Frag) : Sp := fun vs H Q _ => ∃ (G : Hp) (a c : Addr) (r : List Nat) (ds cs : List (List Nat)), vs = [.ref a, .ref c] ∧ Same G H ∧ LieAt K G a (.dealt r ds) ∧ SqL K G c (sV cs) ∧ OkL cs (.dealt r ds) ∧ ∀ H' : Hp, Step none G H G H' → Q (.bl true) H'
/-! lc over a text -/
theorem lc_str {x : Str} {g : TG} {tt : TT} {te : TE} {vs : List Nat} {σ : L2.St} {H1 : Hp} {D : Addr} {Qd : Hp → Prop} (Pv : Nat → Hp → Prop) (h0 : Pv 0 (upd H1 D (.lst [])))
    (hs : ∀ i c H, x.cps[i]? = some c → Pv i H → g (.str ⟨#[c]⟩) (wipe σ vs) H fun σ2 H2 => wipe σ2 vs = wipe σ vs ∧ tt σ2 H2 fun b H3 =>
      if b = true then te σ2 H3 fun y H4 => ∃ acc, H4 D = some (.lst acc) ∧ acc.length < sizeLine ∧ Pv (i + 1) (upd H4 D (.lst (acc ++ [y]))) else Pv (i + 1) H3) (hd : ∀ H, Pv x.cps.size H → Qd H) :
    ∃ W : Nat → Nat → Hp → Prop, (∃ m, W 0 m (upd H1 D (.lst []))) ∧ ∀ i m H, W i m H →
      ((Its x).stop i H ∧ Qd H) ∨ ((Its x).go i H ∧ ∃ Nx : Hp → Prop, (∀ H', Nx H' → ∃ m', m' < m ∧ W (i + 1) m' H') ∧ ∀ y H', (Its x).yld i H y H' → g y (wipe σ vs) H' fun σ2 H2 => wipe σ2 vs = wipe σ vs ∧ tt σ2 H2 fun b H3 =>
        if b = true then te σ2 H3 fun y H4 => ∃ acc, H4 D = some (.lst acc) ∧ acc.length < sizeLine ∧ Nx (upd H4 D (.lst (acc ++ [y]))) else Nx H3) := by
  refine ⟨fun i m H => Pv i H ∧ i + m = x.cps.size, ⟨x.cps.size, h0, Nat.zero_add _⟩, fun i m H ⟨hp, em⟩ => ?_⟩
  cases m with
  | zero =>
    have e : i = x.cps.size := em
    subst e
    exact .inl ⟨Nat.le_refl _, hd H hp⟩
  | succ m =>
    refine .inr ⟨by show i < x.cps.size; omega, Pv (i + 1), fun H' h' => ⟨m, Nat.lt_succ_self m, h', by omega⟩, ?_⟩
    rintro y H' ⟨rfl, c, hc, rfl⟩
    exact hs i c H' hc hp
def CH : Str := "abcdefghijklmnopqrstuvwxyz0123456789_"
theorem CH_c : CH.cps.toList = List.range' 97 26 ++ (List.range' 48 10 ++ [95]) := by decide +kernel
theorem LT_c : ("abcdefghijklmnopqrstuvwxyz" : Str).cps.toList = List.range' 97 26 := by decide +kernel
theorem sg_in {c : Nat} (h : sgB c = true) : c ∈ CH.cps.toList := by
  rw [CH_c, List.mem_append, List.mem_append, List.mem_range'_1, List.mem_range'_1, List.mem_singleton]
  unfold sgB at h
  simp only [Bool.or_eq_true, decide_eq_true_eq] at h
  omega
theorem lt_in {c : Nat} (h : 97 ≤ c ∧ c ≤ 122) : c ∈ ("abcdefghijklmnopqrstuvwxyz" : Str).cps.toList := by
  rw [LT_c, List.mem_range'_1]
  omega
end Bs
namespace Pf
open PySem PySem.Spec PyProof.Rows L2 Bs SX
variable {P : Program} {w : World} {K : PySem.W.Frag} {mg : Str → Option Value} {base : Heap}
abbrev N_is_name : List Str := ["word", "sign"]
theorem sc_is_name : FnScope N_is_name ["word"] (defScope s_is_name) := ⟨rfl, rfl, rfl, by decide +kernel, rfl, by decide +kernel, by decide +kernel⟩
theorem c_is_name (T : Tx K mg) : C8.Cal P w K mg base 1 "is_name" spNameT [] := by
  obtain ⟨fd, F⟩ := f_is_name T
  have pe_g_WORDS : ∀ {X : Cx} {pos : Pos}, X.mg = mg → Gl X "WORDS" → PE X (.Name "WORDS" pos) (tC (.ref (He.ga K "WORDS"))) := fun h1 h2 => C8.pe_gc h2 ⟨_, by rw [h1]; exact g_WORDS T, rfl⟩
  have pe_g_MOST_CHARACTERS : ∀ {X : Cx} {pos : Pos}, X.mg = mg → Gl X "MOST_CHARACTERS" → PE X (.Name "MOST_CHARACTERS" pos) (tC (.int 8)) := fun h1 h2 => by
    obtain ⟨t, e⟩ := ci_MOST_CHARACTERS T
    exact pe_glob h2 (by rw [h1]; exact e) ⟨t, rfl⟩
  have pe_g_LETTERS : ∀ {X : Cx} {pos : Pos}, X.mg = mg → Gl X "LETTERS" → PE X (.Name "LETTERS" pos) (tC (.str "abcdefghijklmnopqrstuvwxyz")) := fun h1 h2 => by
    obtain ⟨t, e⟩ := cs_LETTERS T
    exact pe_glob h2 (by rw [h1]; exact e) ⟨t, rfl⟩
  have pe_g_CHARACTERS : ∀ {X : Cx} {pos : Pos}, X.mg = mg → Gl X "CHARACTERS" → PE X (.Name "CHARACTERS" pos) (tC (.str CH)) := fun h1 h2 => by
    obtain ⟨t, e⟩ := cs_CHARACTERS T
    exact pe_glob h2 (by rw [h1]; exact e) ⟨t, rfl⟩
  refine mkCal F (g_is_name T) (F.bindsN fun _ _ _ _ _ _ us hl => match us, hl with | [_], _ => rfl) .nil sc_is_name (fun vs H Q E h => ?_) (fun cdv A outer s H vs Q E hr h => ?_)
  · obtain ⟨G, w, rfl, _⟩ := h
    rfl
  obtain ⟨G, w, rfl, hn, hG, q⟩ := h
  have sl : sizeLine = 16777216 := rfl
  have hl8 := hn.len
  have hl1 := hn.pos
  have hlen : (S w).length = w.length := S_len w
  refine ⟨_, (pss_cons (ps_if (PW.pt (pw_or (pt_not (pt_val (pe_callB (call_isiK' (K := K) rfl) (by rfl) (z_isinstance T) boot_isinstance (pa_cons (pv 0) (pa_cons (pe_bltn (v := .ty "str") (by rfl) (z_str T) boot_str rfl) pa_nil))))) (pw_or1 (pt_cmpR (op_in_seqK (K := K) rfl) (pv 0) (pe_g_WORDS rfl rfl) (by rfl))))) (pss_one (ps_ret pe_bl)) pss_nil)
    (pss_cons (ps_if (PW.pt (pw_or (pt_cmpR op_eq (pe_callB call_len_str (by rfl) (z_len T) boot_len (pa_cons (pv 0) pa_nil)) pe_int (nomark _)) (pw_or1 (pt_cmpR op_gt (pe_callB call_len_str (by rfl) (z_len T) boot_len (pa_cons (pv 0) pa_nil)) (pe_g_MOST_CHARACTERS rfl rfl) (nomark _))))) (pss_one (ps_ret pe_bl)) pss_nil)
    (pss_one (ps_ret (pe_and (pe_cmpR op_in_sign (pe_ix ix_str (pv 0) pe_int (fun _ _ => rfl)) (pe_g_LETTERS rfl rfl) (by rfl)) (pe_one (pe_callB (cr_all rfl) (by rfl) (z_all T) boot_all (pa_cons (pe_lc (own := [("sign", 1)]) rfl sc_is_name.nd (pi_str (pv 0)) (blkOk_by (N := N_is_name) (sc := defScope s_is_name) (by decide +kernel)) (fun _ _ _ _ _ => (pg_name (i := 1) sc_is_name.nd rfl (Or.inl rfl))) (fun _ _ _ _ _ => pts_nil) (fun _ _ _ _ _ => (pe_cmpR op_in_sign (pv 1) (pe_g_CHARACTERS rfl rfl) (by rfl)))) pa_nil)))))))), ?_⟩
  have nw : S w ∉ W29 := hn.noW
  have eW : wordsD.map (He.Dv.v K) = W29.map V.str := by rfl
  have hW : SqT K H (He.ga K "WORDS") (W29.map V.str) := by
    rw [← eW]
    exact He.tupB_ok (ex_3 T) H
  refine ⟨_, rfl, _, _, .type "str", .type "str", true, rfl, .ty "str", .base (.str _), kit_ty (by decide +kernel), _, rfl, ?_⟩
  refine iteF ?_
  refine ⟨_, rfl, _, W29.map V.str, rfl, .inr hW, rfl, by decide +kernel, _, rfl, ?_⟩
  refine ite2 (fun c => absurd c (by
    show ¬ inV (.str (S w)) (W29.map V.str) = true
    rw [inV_str, decide_eq_true_eq]
    exact nw)) (fun _ => ?_)
  refine ⟨_, rfl, S w, rfl, by rw [hlen]; omega, rfl, _, rfl, ?_⟩
  refine ite2 (fun c => absurd (V.int.inj (of_decide_eq_true c)) (by rw [hlen]; omega)) (fun _ => ?_)
  refine ⟨_, rfl, S w, rfl, by rw [hlen]; omega, _, _, rfl, rfl, _, rfl, ?_⟩
  refine ite2 (fun c => absurd (of_decide_eq_true c) (by rw [hlen]; omega)) (fun _ => ?_)
  obtain ⟨c0, r0, ew, hlt⟩ := hn.hd
  have h0 : w[0]? = some c0 := by rw [ew]; rfl
  refine ⟨_, rfl, S w, 0, c0, rfl, rfl, by rw [hlen]; omega, atI_nat (j := 0) h0, c0, _, rfl, rfl, ?_⟩
  refine ⟨_, rfl, ?_⟩
  have e0 : decide (c0 ∈ ("abcdefghijklmnopqrstuvwxyz" : Str).cps.toList) = true := decide_eq_true (lt_in hlt)
  refine ite2 (fun _ => ?_) (fun c => absurd e0 c)
  refine ⟨_, rfl, S w, rfl, fun D hD => ?_⟩
  have gD := hG.free hD
  have e8 : (S w).cps.size = w.length := hlen
  refine lc_str (x := S w) (fun i H' => Step none G H G H' ∧ H' D = some (.lst ((List.replicate i true).map V.bl))) ⟨(Step.refl hG).loc hD gD, upd_same⟩ ?_ ?_
  · rintro i c H' hc ⟨st, hL⟩
    have hc2 : w[i]? = some c := by rw [← hc]; simp [S]
    have hm := List.mem_of_getElem? hc2
    have hil := (List.getElem?_eq_some_iff.mp hc2).1
    refine ⟨rfl, ?_⟩
    unfold tYes
    refine iteT ⟨_, rfl, c, _, rfl, rfl, _, hL, ?_, st.loc hD gD, ?_⟩
    · rw [List.length_map, List.length_replicate]
      omega
    · rw [upd_same]
      have e1 : decide (c ∈ CH.cps.toList) = true := decide_eq_true (sg_in (hn.sg c hm))
      rw [e1, rep_app]
  rintro H' ⟨st, hL⟩
  refine ⟨D, _, rfl, SqL.of hL, ?_⟩
  rw [all_rep]
  exact q H' st
abbrev N_has_twice : List Str := ["things"]
theorem sc_has_twice : FnScope N_has_twice ["things"] (defScope s_has_twice) := ⟨rfl, rfl, rfl, by decide +kernel, rfl, by decide +kernel, by decide +kernel⟩
theorem c_has_twice (T : Tx K mg) : C8.Cal P w K mg base 1 "has_twice" (spTwice K) [] := by
  obtain ⟨fd, F⟩ := f_has_twice T
  refine mkCal F (g_has_twice T) (F.bindsN fun _ _ _ _ _ _ us hl => match us, hl with | [_], _ => rfl) .nil sc_has_twice (fun vs H Q E h => ?_) (fun cdv A outer s H vs Q E hr h => ?_)
  · obtain ⟨a, xs, rfl, _⟩ := h
    rfl
  obtain ⟨a, xs, rfl, hS, nd, h100, q⟩ := h
  have sb : xs.length + 1 < scanBound := by unfold scanBound; omega
  refine ⟨_, (pss_one (ps_ret (pe_cmpR op_lt (pe_lenSetN (K := K) rfl rfl (by rfl) (z_len T) (by rfl) (z_set T) (pv 0)) (pe_callB (call_len_seqK (K := K) rfl) (by rfl) (z_len T) boot_len (pa_cons (pv 0) pa_nil)) (nomark _)))), ?_⟩
  refine ⟨_, rfl, a, xs.map S, rfl, hS, S_nodup nd, by rw [List.length_map]; exact sb, _, rfl, a, _, rfl, hS, _, _, rfl, rfl, ?_⟩
  have e : decide (((xs.map S).length : Int) < ((sV xs).length : Nat)) = false := decide_eq_false (by rw [sV_len, List.length_map]; omega)
  show Q (V.bl (decide (((xs.map S).length : Int) < ((sV xs).length : Nat)))) H
  rw [e]
  exact q
end Pf
namespace Bs
open PySem PySem.Spec PyProof.Rows L2 SX
variable {K : PySem.W.Frag}
theorem sV_at {ks : List (List Nat)} {i : Nat} {x : V} (h : (sV ks)[i]? = some x) : ∃ k, k ∈ ks ∧ x = .str (S k) ∧ i < ks.length := by
  rw [List.getElem?_map, List.getElem?_map] at h
  cases e : ks[i]? with
  | none => rw [e] at h; cases h
  | some k =>
    rw [e] at h
    exact ⟨k, List.mem_of_getElem? e, (Option.some.inj h).symm, (List.getElem?_eq_some_iff.mp e).1⟩
theorem sqT_ty {H : Hp} {a : Addr} {xs : List V} (h : SqT K H a xs) : TyX K H (.ref a) (.type "tuple") := by
  rcases h with (h | ⟨o, h⟩) | ⟨o, its, n, h1, h2, _⟩
  · exact .base (.tup h)
  · exact .fTuple h
  · exact .kTuple h1 h2
theorem lt65 {A : Around} {k : Nat} (hr : Room k A) : A.units + 65 < cLine := by have := hr.un; omega
theorem dealt_ : ("dealt" : Str) = S [100, 101, 97, 108, 116] := by decide +kernel
theorem copied_ : ("copied" : Str) = S [99, 111, 112, 105, 101, 100] := by decide +kernel
theorem anyhow_ : ("anyhow" : Str) = S [97, 110, 121, 104, 111, 119] := by decide +kernel
theorem zero_w : ("zero" : Str) = S [122, 101, 114, 111] := by decide +kernel
end Bs
namespace Pf
open PySem PySem.Spec PyProof.Rows L2 Bs SX
variable {P : Program} {w : World} {K : PySem.W.Frag} {mg : Str → Option Value} {base : Heap}
abbrev N_are_unlike : List Str := ["names", "columns", "name"]
theorem sc_are_unlike : FnScope N_are_unlike ["names", "columns"] (defScope s_are_unlike) := ⟨rfl, rfl, rfl, by decide +kernel, rfl, by decide +kernel, by decide +kernel⟩
theorem c_are_unlike (T : Tx K mg) : C8.Cal P w K mg base 2 "_are_unlike" (spUnlike K) [] := by
  obtain ⟨fd, F⟩ := f_are_unlike T
  have c_has_twice := c_has_twice (P := P) (w := w) (base := base) T
  refine mkCal F (g_are_unlike T) (F.bindsN fun _ _ _ _ _ _ us hl => match us, hl with | [_, _], _ => rfl) .nil sc_are_unlike (fun vs H Q E h => ?_) (fun cdv A outer s H vs Q E hr h => ?_)
  · obtain ⟨G, a, c, ks, cs, rfl, _⟩ := h
    rfl
  obtain ⟨G, a, c, ks, cs, rfl, hG, hk, hc, hs, h100, q⟩ := h
  have sl : sizeLine = 16777216 := rfl
  rcases hk with hk | hk
  · have hkH := sqL_same hk hG
    refine ⟨_, (pss_one (ps_ret (pe_and (pe_callB (cr_all rfl) (by rfl) (z_all T) boot_all (pa_cons (pe_lc (own := [("name", 2)]) rfl sc_are_unlike.nd (pi_listK (K := K) rfl (pv 0)) (blkOk_by (N := N_are_unlike) (sc := defScope s_are_unlike) (by decide +kernel)) (fun _ _ _ _ _ => (pg_name (i := 2) sc_are_unlike.nd rfl (Or.inl rfl))) (fun _ _ _ _ _ => pts_nil) (fun _ _ _ _ _ => (pe_cmpR (op_in_seqK (K := K) rfl) (pv 2) (pv 1) (by rfl)))) pa_nil)) (pe_one (pe_not (C8.pe_c c_has_twice hr (by first | decide | omega) rfl (pa_cons (pv 0) pa_nil))))))), ?_⟩
    refine ⟨_, rfl, a, rfl, ⟨_, hkH⟩, fun D hD => ?_⟩
    have gD := hG.free hD
    refine lc_list (K := K) (a := a) (xs := sV ks) (fun i H' => Step none G H G H' ∧ H' D = some (.lst ((List.replicate i true).map V.bl))) ⟨(Step.refl hG).loc hD gD, upd_same⟩ ?_ ?_ ?_
    · rintro i H' _ ⟨st, _⟩
      exact sqL_same hk st.gh
    · rintro i x H' hx ⟨st, hL⟩
      obtain ⟨k, mk, rfl, hi⟩ := sV_at hx
      refine ⟨rfl, ?_⟩
      unfold tYes
      refine iteT ⟨_, rfl, _, rfl, c, sV cs, rfl, .inl (sqL_same hc st.gh), rfl, sV_flat cs, _, hL, by rw [List.length_map, List.length_replicate]; omega, st.loc hD gD, ?_⟩
      rw [upd_same]
      have e1 : inV (.str (S k)) (sV cs) = true := by rw [inV_sV]; exact decide_eq_true (hs.mem k mk)
      show some (HO.lst (((List.replicate i true).map V.bl) ++ [V.bl (inV (.str (S k)) (sV cs))])) = _
      rw [e1, rep_app]
    rintro H' ⟨st, hL⟩
    refine ⟨D, _, rfl, SqL.of hL, ?_⟩
    rw [all_rep]
    exact ⟨true, rfl, iteT ⟨_, rfl, a, ks, rfl, .inl (sqL_same hk st.gh), hs.nd, h100, _, rfl, q H' st⟩⟩
  · have hkH := sqT_same hk hG
    refine ⟨_, (pss_one (ps_ret (pe_and (pe_callB (cr_all rfl) (by rfl) (z_all T) boot_all (pa_cons (pe_lc (own := [("name", 2)]) rfl sc_are_unlike.nd (pi_tupK (K := K) rfl (pv 0)) (blkOk_by (N := N_are_unlike) (sc := defScope s_are_unlike) (by decide +kernel)) (fun _ _ _ _ _ => (pg_name (i := 2) sc_are_unlike.nd rfl (Or.inl rfl))) (fun _ _ _ _ _ => pts_nil) (fun _ _ _ _ _ => (pe_cmpR (op_in_seqK (K := K) rfl) (pv 2) (pv 1) (by rfl)))) pa_nil)) (pe_one (pe_not (C8.pe_c c_has_twice hr (by first | decide | omega) rfl (pa_cons (pv 0) pa_nil))))))), ?_⟩
    refine ⟨_, rfl, a, rfl, ⟨_, hkH⟩, fun D hD => ?_⟩
    have gD := hG.free hD
    refine lc_tup (K := K) (a := a) (xs := sV ks) (fun i H' => Step none G H G H' ∧ H' D = some (.lst ((List.replicate i true).map V.bl))) ⟨(Step.refl hG).loc hD gD, upd_same⟩ ?_ ?_ ?_
    · rintro i H' _ ⟨st, _⟩
      exact sqT_same hk st.gh
    · rintro i x H' hx ⟨st, hL⟩
      obtain ⟨k, mk, rfl, hi⟩ := sV_at hx
      refine ⟨rfl, ?_⟩
      unfold tYes
      refine iteT ⟨_, rfl, _, rfl, c, sV cs, rfl, .inl (sqL_same hc st.gh), rfl, sV_flat cs, _, hL, by rw [List.length_map, List.length_replicate]; omega, st.loc hD gD, ?_⟩
      rw [upd_same]
      have e1 : inV (.str (S k)) (sV cs) = true := by rw [inV_sV]; exact decide_eq_true (hs.mem k mk)
      show some (HO.lst (((List.replicate i true).map V.bl) ++ [V.bl (inV (.str (S k)) (sV cs))])) = _
      rw [e1, rep_app]
    rintro H' ⟨st, hL⟩
    refine ⟨D, _, rfl, SqL.of hL, ?_⟩
    rw [all_rep]
    exact ⟨true, rfl, iteT ⟨_, rfl, a, ks, rfl, .inr (sqT_same hk st.gh), hs.nd, h100, _, rfl, q H' st⟩⟩
abbrev N_is_dealt : List Str := ["lies", "columns", "_", "rule", "dealt"]
theorem sc_is_dealt : FnScope N_is_dealt ["lies", "columns"] (defScope s_is_dealt) := ⟨rfl, rfl, rfl, by decide +kernel, rfl, by decide +kernel, by decide +kernel⟩
theorem c_is_dealt (T : Tx K mg) : C8.Cal P w K mg base 3 "_is_dealt" (spDealt K) [] := by
  obtain ⟨fd, F⟩ := f_is_dealt T
  have c_is_name := c_is_name (P := P) (w := w) (base := base) T
  have c_are_unlike := c_are_unlike (P := P) (w := w) (base := base) T
  have pe_g_MOST_DEALT : ∀ {X : Cx} {pos : Pos}, X.mg = mg → Gl X "MOST_DEALT" → PE X (.Name "MOST_DEALT" pos) (tC (.int 3)) := fun h1 h2 => by
    obtain ⟨t, e⟩ := ci_MOST_DEALT T
    exact pe_glob h2 (by rw [h1]; exact e) ⟨t, rfl⟩
  refine mkCal F (g_is_dealt T) (F.bindsN fun _ _ _ _ _ _ us hl => match us, hl with | [_, _], _ => rfl) .nil sc_is_dealt (fun vs H Q E h => ?_) (fun cdv A outer s H vs Q E hr h => ?_)
  · obtain ⟨G, a, c, r, ds, cs, rfl, _⟩ := h
    rfl
  obtain ⟨G, a, c, r, ds, cs, rfl, hG, hl, hc, hok, q⟩ := h
  obtain ⟨nr, hsub, lo, hi⟩ := hok.d r ds rfl
  obtain ⟨d, h1, h2⟩ := hl
  have h1' := sqT_same h1 hG
  have h2' := sqT_same h2 hG
  refine ⟨_, (pss_cons (ps_if (PW.pt (pw_or (pt_not (pt_val (pe_callB (call_isiK' (K := K) rfl) (by rfl) (z_isinstance T) boot_isinstance (pa_cons (pv 0) (pa_cons (pe_bltn (v := .ty "tuple") (by rfl) (z_tuple T) boot_tuple rfl) pa_nil))))) (pw_or (pt_cmpR op_ne (pe_callB (call_len_seqK (K := K) rfl) (by rfl) (z_len T) boot_len (pa_cons (pv 0) pa_nil)) pe_int (nomark _)) (pw_or1 (pt_cmpR op_ne (pe_ix (ix_tupK (K := K) rfl) (pv 0) pe_int (fun _ _ => rfl)) pe_str (nomark _)))))) (pss_one (ps_ret pe_bl)) pss_nil)
    (pss_cons (ps_asg (pv 0) (pg_tup rfl (pgs_cons (pg_name (i := 2) sc_is_dealt.nd rfl (Or.inl rfl)) (pgs_cons (pg_name (i := 3) sc_is_dealt.nd rfl (Or.inl rfl)) (pgs_cons (pg_name (i := 4) sc_is_dealt.nd rfl (Or.inl rfl)) pgs_nil)))))
    (pss_cons (ps_if (PW.pt (pw_or (pt_not (pt_val (C8.pe_c c_is_name hr (by first | decide | omega) rfl (pa_cons (pv 3) pa_nil)))) (pw_or1 (pt_not (pt_val (pe_callB (call_isiK' (K := K) rfl) (by rfl) (z_isinstance T) boot_isinstance (pa_cons (pv 4) (pa_cons (pe_bltn (v := .ty "tuple") (by rfl) (z_tuple T) boot_tuple rfl) pa_nil)))))))) (pss_one (ps_ret pe_bl)) pss_nil)
    (pss_one (ps_ret (pe_and (pe_chain op_le op_le pe_int (pe_callB (call_len_seqK (K := K) rfl) (by rfl) (z_len T) boot_len (pa_cons (pv 4) pa_nil)) (pe_g_MOST_DEALT rfl rfl)) (pe_one (C8.pe_c c_are_unlike hr (by first | decide | omega) rfl (pa_cons (pv 4) (pa_cons (pv 1) pa_nil)))))))))), ?_⟩
  refine ⟨_, rfl, _, _, .type "tuple", .type "tuple", true, rfl, .ty "tuple", sqT_ty h1', kit_ty (by decide +kernel), _, rfl, ?_⟩
  refine iteF ?_
  refine ⟨_, rfl, a, _, rfl, .inr h1', rfl, _, rfl, ?_⟩
  refine ite2 (fun c => absurd c (by simp)) (fun _ => ?_)
  refine ⟨_, rfl, a, _, 0, _, rfl, rfl, h1', atI_nat (j := 0) rfl, rfl, _, rfl, ?_⟩
  refine ite2 (fun c => absurd c (by rw [dealt_]; simp)) (fun _ => ?_)
  refine ⟨_, rfl, a, _, rfl, h1', rfl, _, _, rfl, _, _, rfl, _, _, rfl, rfl, ?_⟩
  refine ⟨_, rfl, G, r, rfl, nr, hG, fun H1 s1 => ⟨_, rfl, iteF ?_⟩⟩
  have h2'' := sqT_same h2 s1.gh
  refine ⟨_, rfl, _, _, .type "tuple", .type "tuple", true, rfl, .ty "tuple", sqT_ty h2'', kit_ty (by decide +kernel), _, rfl, iteF ?_⟩
  refine ⟨_, rfl, d, _, rfl, .inr h2'', _, _, rfl, rfl, _, rfl, ?_⟩
  refine ite2 (fun _ => ?_) (fun c => absurd (decide_eq_true (by rw [sV_len]; omega)) c)
  refine ⟨_, _, rfl, rfl, _, rfl, ?_⟩
  refine ite2 (fun _ => ?_) (fun c => absurd (decide_eq_true (by rw [sV_len]; omega)) c)
  exact ⟨_, rfl, _, rfl, G, d, c, ds, cs, rfl, s1.gh, .inr h2, hc, hsub, by omega, fun H2 s2 => q H2 (s1.trans s2)⟩
end Pf
namespace Bs
open PySem PySem.Spec PyProof.Rows L2 SX
variable {P : Program} {w : World} {K : PySem.W.Frag} {mg : Str → Option Value} {base : Heap}
/-- the fields that are told to `_fault_of` and `_row_of` -/
structure Flds (fs : List (Str × V)) (n : List Nat) (c k l : Addr) : Prop where
  n : fs.lookup ("name" : Str) = some (.str (S n))
  c : fs.lookup ("columns" : Str) = some (.ref c)
  k : fs.lookup ("key" : Str) = some (.ref k)
  l : fs.lookup ("lies" : Str) = some (.ref l)
structure BrAt (K : PySem.W.Frag) (G : Hp) (c k l : Addr) (b : Br) : Prop where
  c : G c = some (.lst (sV b.cs))
  k : G k = some (.lst (sV b.ky))
  l : LieAt K G l b.li
theorem BrAt.same {G H : Hp} {c k l : Addr} {b : Br} (h : BrAt K G c k l b) (s : Same G H) : BrAt K H c k l b := ⟨s _ _ h.c, s _ _ h.k, h.l.same s⟩
def spFault (K : PySem.W.Frag) (C : Addr) : Sp := fun vs H Q _ => ∃ (G : Hp) (p dx c k l : Addr) (fs : List (Str × V)) (b : Br), vs = [.ref p] ∧ Same G H ∧ H p = some (.ins C dx fs) ∧ Flds fs b.n c k l ∧ BrAt K G c k l b ∧ Ok b ∧ ∀ H' : Hp, Step none G H G H' → Q .non H'
def spRow (K : PySem.W.Frag) (C : Addr) : Sp := fun vs H Q _ => ∃ (G : Hp) (p dx c k l : Addr) (fs : List (Str × V)) (b : Br), vs = [.ref p] ∧ Same G H ∧ H p = some (.ins C dx fs) ∧ Flds fs b.n c k l ∧ BrAt K G c k l b ∧ Ok b ∧ ∀ H' : Hp, Step none G H G H' → Q (.str (S (txtB b))) H'
theorem lie_plain (l : Lie) : ([lieD .copied, lieD .anyhow, lieD .zero].any fun z => PyData.eqv z (lieD l)) = (match l with | .dealt _ _ => false | _ => true) := by
  simp only [List.any_cons, List.any_nil, lie_eqv]
  cases l <;> simp
theorem S_ok {w : List Nat} (h : ∀ c ∈ w, c < 128) : PyData.strOk (S w) = true := by
  unfold PyData.strOk
  rw [Array.all_eq_true]
  intro i hi
  have hi : i < w.length := by simpa [S] using hi
  have := h (w[i]) (List.getElem_mem hi)
  simp only [S, List.getElem_toArray, decide_eq_true_eq]
  omega
theorem Nm.ok {w : List Nat} (h : Nm w) : PyData.strOk (S w) = true := S_ok fun c hc => (sg_lt (h.sg c hc)).1
theorem lay_strs : ∀ {xs : List (List Nat)}, (∀ x ∈ xs, Nm x) → PyData.canLayAll0 (strsD xs) = true ∧ PyData.depthAll (strsD xs) = 0
  | [], _ => ⟨by simp [strsD, PyData.canLayAll0], by simp [strsD, PyData.depthAll]⟩
  | x :: r, h => by
    obtain ⟨h1, h2⟩ := lay_strs fun z hz => h z (List.mem_cons_of_mem _ hz)
    unfold strsD at h1 h2 ⊢
    exact ⟨by simp [PyData.canLayAll0, PyData.canLay0, (h x List.mem_cons_self).ok, h1], by simp [PyData.depthAll, PyData.depth, h2]⟩
theorem hd_ok (l : Lie) : PyData.strOk (S l.hd) = true := S_ok (by
  cases l with
  | dealt r ds => show ∀ c ∈ ([100, 101, 97, 108, 116] : List Nat), c < 128; decide
  | _ => decide)
theorem lay_lie {cs : List (List Nat)} {l : Lie} (h : OkL cs l) (hc : ∀ c ∈ cs, Nm c) : (lieD l).canLay0 = true ∧ (lieD l).depth ≤ 2 := by
  have hh := hd_ok l
  cases l with
  | dealt r ds =>
    obtain ⟨h1, h2, _⟩ := h.d r ds rfl
    obtain ⟨h3, h4⟩ := lay_strs fun z hz => hc z (h2.mem z hz)
    refine ⟨?_, ?_⟩
    · have hh : PyData.strOk (S [100, 101, 97, 108, 116]) = true := hh
      simp [lieD, PyData.canLay0, PyData.canLayAll0, hh, h1.ok, h3]
    · simp [lieD, PyData.depth, PyData.depthAll, h4]
  | _ => exact ⟨by simp [lieD, PyData.canLay0, PyData.canLayAll0, hh], by simp [lieD, PyData.depth, PyData.depthAll]⟩
theorem shp_lie {cs : List (List Nat)} {l : Lie} (h : OkL cs l) (hc : ∀ c ∈ cs, Nm c) : SeqAt.shaped (lieD l) = true := by
  obtain ⟨h1, h2⟩ := lay_lie h hc
  unfold SeqAt.shaped
  rw [h1, Bool.true_and, decide_eq_true_eq]
  omega
theorem shp_plain : SeqAt.shaped (.tuple [lieD .copied, lieD .anyhow, lieD .zero]) = true := by
  have h1 := hd_ok .copied
  have h2 := hd_ok .anyhow
  have h3 := hd_ok .zero
  unfold SeqAt.shaped
  simp [lieD, PyData.canLay0, PyData.canLayAll0, PyData.depth, PyData.depthAll, h1, h2, h3]
end Bs
namespace Pf
open PySem PySem.Spec PyProof.Rows L2 Bs SX
variable {P : Program} {w : World} {K : PySem.W.Frag} {mg : Str → Option Value} {base : Heap}
abbrev CTb (K : PySem.W.Frag) : Addr := He.ga K "Table"
abbrev N_fault_of : List Str := ["table", "name"]
theorem sc_fault_of : FnScope N_fault_of ["table"] (defScope s_fault_of) := ⟨rfl, rfl, rfl, by decide +kernel, rfl, by decide +kernel, by decide +kernel⟩
theorem c_fault_of (T : Tx K mg) : C8.Cal P w K mg base 4 "_fault_of" (spFault K (CTb K)) [] := by
  obtain ⟨fd, F⟩ := f_fault_of T
  have c_is_name := c_is_name (P := P) (w := w) (base := base) T
  have c_has_twice := c_has_twice (P := P) (w := w) (base := base) T
  have c_are_unlike := c_are_unlike (P := P) (w := w) (base := base) T
  have c_is_dealt := c_is_dealt (P := P) (w := w) (base := base) T
  have pe_g_Table : ∀ {X : Cx} {pos : Pos}, X.mg = mg → Gl X "Table" → PE X (.Name "Table" pos) (tC (.ref (CTb K))) := fun h1 h2 => C8.pe_gc h2 ⟨_, by rw [h1]; exact g_Table T, rfl⟩
  have pe_g_PLAIN_LIES : ∀ {X : Cx} {pos : Pos}, X.mg = mg → Gl X "PLAIN_LIES" → PE X (.Name "PLAIN_LIES" pos) (tC (.ref (He.ga K "PLAIN_LIES"))) := fun h1 h2 => C8.pe_gc h2 ⟨_, by rw [h1]; exact g_PLAIN_LIES T, rfl⟩
  refine mkCal F (g_fault_of T) (F.bindsN fun _ _ _ _ _ _ us hl => match us, hl with | [_], _ => rfl) .nil sc_fault_of (fun vs H Q E h => ?_) (fun cdv A outer s H vs Q E hr h => ?_)
  · obtain ⟨G, p, dx, c, k, l, fs, b, rfl, _⟩ := h
    rfl
  obtain ⟨G, p, dx, c, k, l, fs, b, rfl, hG, hp, hf, hb, ok, q⟩ := h
  have C0 := cls_Table_ T
  refine ⟨_, (pss_cons (ps_if (pt_not (pt_val (C8.pe_c c_is_name hr (by first | decide | omega) rfl (pa_cons (pe_fldK (K := K) rfl (pv 0) (by rfl)) pa_nil)))) (pss_one (ps_ret pe_str)) pss_nil)
    (pss_cons (ps_if (pt_not (pt_chain op_le op_le pe_int (pe_callB (call_len_seqK (K := K) rfl) (by rfl) (z_len T) boot_len (pa_cons (pe_fldK (K := K) rfl (pv 0) (by rfl)) pa_nil)) (ClX.pe_cval (pe_g_Table rfl rfl)))) (pss_one (ps_ret pe_str)) pss_nil)
    (pss_cons (ps_if (PW.pt (pw_or (pt_not (pt_val (pe_callB (cr_all rfl) (by rfl) (z_all T) boot_all (pa_cons (pe_lc (own := [("name", 1)]) rfl sc_fault_of.nd (pi_listK (K := K) rfl (pe_fldK (K := K) rfl (pv 0) (by rfl))) (blkOk_by (N := N_fault_of) (sc := defScope s_fault_of) (by decide +kernel)) (fun _ _ _ _ _ => (pg_name (i := 1) sc_fault_of.nd rfl (Or.inl rfl))) (fun _ _ _ _ _ => pts_nil) (fun _ _ _ _ _ => (C8.pe_c c_is_name hr (by first | decide | omega) rfl (pa_cons (pv 1) pa_nil)))) pa_nil)))) (pw_or1 (pt_val (C8.pe_c c_has_twice hr (by first | decide | omega) rfl (pa_cons (pe_fldK (K := K) rfl (pv 0) (by rfl)) pa_nil)))))) (pss_one (ps_ret pe_str)) pss_nil)
    (pss_cons (ps_if (pt_not (pt_val (C8.pe_c c_are_unlike hr (by first | decide | omega) rfl (pa_cons (pe_fldK (K := K) rfl (pv 0) (by rfl)) (pa_cons (pe_fldK (K := K) rfl (pv 0) (by rfl)) pa_nil))))) (pss_one (ps_ret pe_str)) pss_nil)
    (pss_one (ps_ret (pe_ifExp (PW.pt (pw_or (pt_cmpR (op_inDT (lt65 hr)) (pe_fldK (K := K) rfl (pv 0) (by rfl)) (pe_g_PLAIN_LIES rfl rfl) (by rfl)) (pw_or1 (pt_val (C8.pe_c c_is_dealt hr (by first | decide | omega) rfl (pa_cons (pe_fldK (K := K) rfl (pv 0) (by rfl)) (pa_cons (pe_fldK (K := K) rfl (pv 0) (by rfl)) pa_nil))))))) pe_non pe_str))))))), ?_⟩
  refine ⟨_, rfl, p, CTb K, dx, _, _, rfl, hp, C0, noat_Table_name T, hf.n, G, b.n, rfl, ok.n, hG, fun H1 s1 => ⟨_, rfl, iteF ?_⟩⟩
  have hp1 := s1.same _ _ hp
  obtain ⟨u8, cv⟩ := Hd.clsIntB_ok (ex_12 T)
  refine ⟨_, rfl, p, CTb K, dx, _, _, rfl, hp1, C0, noat_Table_columns T, hf.c, c, _, rfl, .inl (SqL.of (s1.gh _ _ hb.c)), _, _, rfl, rfl, _, rfl, ?_⟩
  refine ite2 (fun _ => ?_) (fun z => absurd (decide_eq_true (by rw [sV_len]; have := ok.c.lo; omega)) z)
  refine ⟨_, _, _, _, rfl, ⟨ex_10 T, He.eqO_ok (ex_11 T)⟩, cv, _, _, rfl, rfl, _, rfl, ?_⟩
  refine ite2 (fun z => absurd (show decide (((sV b.cs).length : Int) ≤ 8) = true from decide_eq_true (by rw [sV_len]; have := ok.c.hi; omega)) (by rw [Bool.not_eq_true'] at z; rw [z]; simp)) (fun _ => ?_)
  refine ⟨_, rfl, p, CTb K, dx, _, _, rfl, hp1, C0, noat_Table_columns T, hf.c, c, rfl, ⟨_, SqL.of (s1.gh _ _ hb.c)⟩, fun D hD => ?_⟩
  have gD := s1.gh.free hD
  have hD0 := s1.free hD
  refine lc_list (K := K) (a := c) (xs := sV b.cs) (fun i H' => Step none G H G H' ∧ H' D = some (.lst ((List.replicate i true).map V.bl))) ⟨s1.loc hD0 gD, upd_same⟩ ?_ ?_ ?_
  · rintro i H' _ ⟨st, _⟩
    exact SqL.of (st.gh _ _ hb.c)
  · rintro i x H' hx ⟨st, hL⟩
    obtain ⟨k', mk, rfl, hi⟩ := sV_at hx
    have := ok.c.hi
    have sl : sizeLine = 16777216 := rfl
    refine ⟨rfl, ?_⟩
    unfold tYes
    refine iteT ⟨_, rfl, G, k', rfl, ok.c.nm k' mk, st.gh, fun H2 s2 => ⟨_, s2.same _ _ hL, by rw [List.length_map, List.length_replicate]; omega, (st.trans s2).loc hD0 gD, ?_⟩⟩
    rw [upd_same, rep_app]
  rintro H2 ⟨s2, hL⟩
  have hp2 := s2.same _ _ hp
  refine ⟨D, _, rfl, SqL.of hL, ?_⟩
  rw [all_rep]
  refine ⟨_, rfl, iteF ⟨_, rfl, p, CTb K, dx, _, _, rfl, hp2, C0, noat_Table_columns T, hf.c, c, b.cs, rfl, .inl (SqL.of (s2.gh _ _ hb.c)), ok.c.nd, by have := ok.c.hi; omega, _, rfl, iteF ?_⟩⟩
  refine ⟨_, rfl, p, CTb K, dx, _, _, rfl, hp2, C0, noat_Table_key T, hf.k, _, rfl, p, CTb K, dx, _, _, rfl, hp2, C0, noat_Table_columns T, hf.c, G, k, c, b.ky, b.cs, rfl, s2.gh, .inl (SqL.of hb.k), SqL.of hb.c, ok.k, by have := ok.k.le; have := ok.c.hi; omega, fun H3 s3 => ⟨_, rfl, iteF ?_⟩⟩
  have s23 := s2.trans s3
  have hp3 := s23.same _ _ hp
  have hl3 := hb.l.same s23.gh
  have dpl : Dp K H3 (.ref (He.ga K "PLAIN_LIES")) (.tuple [lieD .copied, lieD .anyhow, lieD .zero]) := by
    refine .tup (He.tupB_ok (ex_4 T) H3) (.cons (.tup (Hd.tupAtB_ok (ex_5 T) H3) (.cons ?_ .nil)) (.cons (.tup (Hd.tupAtB_ok (ex_6 T) H3) (.cons ?_ .nil)) (.cons (.tup (Hd.tupAtB_ok (ex_7 T) H3) (.cons ?_ .nil)) .nil)))
    · rw [copied_]; exact .str _
    · rw [anyhow_]; exact .str _
    · rw [zero_w]; exact .str _
  refine ⟨_, rfl, p, CTb K, dx, _, _, rfl, hp3, C0, noat_Table_lies T, hf.l, lieD b.li, _, hl3.dp, dpl, shp_lie ok.l ok.c.nm, shp_plain, _, rfl, ?_⟩
  rw [lie_plain]
  have okl := ok.l
  have hbl := hb.l
  revert okl hbl hl3
  cases b.li with
  | dealt r ds =>
    intro hl3 okl hbl
    refine iteF ⟨_, rfl, p, CTb K, dx, _, _, rfl, hp3, C0, noat_Table_lies T, hf.l, _, rfl, p, CTb K, dx, _, _, rfl, hp3, C0, noat_Table_columns T, hf.c, G, l, c, r, ds, b.cs, rfl, s23.gh, hbl, SqL.of hb.c, okl, fun H4 s4 => ⟨_, rfl, iteT (q H4 (s23.trans s4))⟩⟩
  | _ =>
    intro _ _ _
    exact iteT (q H3 s23)
end Pf
namespace Bs
open PySem PySem.Spec PyProof.Rows L2 SX
theorem table_ : ("table" : Str) = S tbW := by decide +kernel
theorem key_ : ("key" : Str) = S kyW := by decide +kernel
theorem sp_ : (" " : Str) = S [32] := by decide +kernel
def kyP (ky : List (List Nat)) : List (List Nat) := if ky = [] then [] else kyW :: ky
theorem kyP_len (ky : List (List Nat)) : (kyP ky).length ≤ ky.length + 1 := by unfold kyP; split <;> simp
theorem sV_app (xs ys : List (List Nat)) : sV xs ++ sV ys = sV (xs ++ ys) := by
  show (xs.map S).map V.str ++ (ys.map S).map V.str = ((xs ++ ys).map S).map V.str
  rw [List.map_append, List.map_append]
theorem Ok.hd8 (l : Lie) : l.hd.length ≤ 8 := match l with
  | .copied => by decide
  | .anyhow => by decide
  | .zero => by decide
  | .dealt _ _ => show ([100, 101, 97, 108, 116] : List Nat).length ≤ 8 by decide
theorem Ok.w8 {b : Br} (h : Ok b) : ∀ w ∈ words b, w.length ≤ 8 := fun w hw => by
  have hl := h.l.nm h.c.nm
  unfold words rest at hw
  simp only [List.mem_cons, List.mem_append] at hw
  rcases hw with rfl | rfl | hw | hw | rfl | hw
  · decide
  · exact h.n.len
  · exact (h.c.nm w hw).len
  · split at hw
    · cases hw
    · rcases List.mem_cons.mp hw with rfl | hw
      · decide
      · exact (h.c.nm w (h.k.mem w hw)).len
  · exact Ok.hd8 _
  · exact (hl w hw).len
theorem Ok.ky8 {b : Br} (h : Ok b) : b.ky.length ≤ 8 := Nat.le_trans h.k.le h.c.hi
theorem Ok.tl8 {b : Br} (h : Ok b) : b.li.tl.length ≤ 4 := by
  have hl := h.l
  revert hl
  cases b.li with
  | dealt r ds =>
    intro hl
    obtain ⟨_, _, _, h3⟩ := hl.d r ds rfl
    show (r :: ds).length ≤ 4
    rw [List.length_cons]; omega
  | _ => intro _; show 0 ≤ 4; decide
theorem Ok.wn {b : Br} (h : Ok b) : (words b).length ≤ 30 := by
  have h1 := h.c.hi
  have h2 := h.ky8
  have h3 := h.tl8
  have h4 := kyP_len b.ky
  unfold words rest
  show ((_ : List Nat) :: _ :: (b.cs ++ (kyP b.ky ++ _))).length ≤ 30
  simp only [List.length_cons, List.length_append]
  omega
theorem sum8 : ∀ {ws : List (List Nat)}, (∀ w ∈ ws, w.length ≤ 8) → ((ws.map S).map (fun x => x.length)).sum ≤ 8 * ws.length
  | [], _ => by simp
  | w :: r, h => by
    have h1 := h w List.mem_cons_self
    have h2 := sum8 fun z hz => h z (List.mem_cons_of_mem _ hz)
    simp only [List.map_cons, List.sum_cons, S_len, List.length_cons]
    omega
end Bs
namespace Pf
open PySem PySem.Spec PyProof.Rows L2 Bs SX
variable {P : Program} {w : World} {K : PySem.W.Frag} {mg : Str → Option Value} {base : Heap}
abbrev N_row_of : List Str := ["table", "words"]
theorem sc_row_of : FnScope N_row_of ["table"] (defScope s_row_of) := ⟨rfl, rfl, rfl, by decide +kernel, rfl, by decide +kernel, by decide +kernel⟩
theorem c_row_of (T : Tx K mg) : C8.Cal P w K mg base 1 "_row_of" (spRow K (CTb K)) [] := by
  obtain ⟨fd, F⟩ := f_row_of T
  refine mkCal F (g_row_of T) (F.bindsN fun _ _ _ _ _ _ us hl => match us, hl with | [_], _ => rfl) .nil sc_row_of (fun vs H Q E h => ?_) (fun cdv A outer s H vs Q E hr h => ?_)
  · obtain ⟨G, p, dx, c, k, l, fs, b, rfl, _⟩ := h
    rfl
  obtain ⟨G, p, dx, c, k, l, fs, b, rfl, hG, hp, hf, hb, ok, q⟩ := h
  have C0 := cls_Table_ T
  refine ⟨_, (pss_cons (ps_set (i := 1) sc_row_of.nd rfl (Or.inl rfl) (pe_op op_cat (pe_lst (pa_cons pe_str (pa_cons (pe_fldK (K := K) rfl (pv 0) (by rfl)) pa_nil))) (pe_fldK (K := K) rfl (pv 0) (by rfl))))
    (C8.pss_cut (ps_if (pt_truth (pe_fldK (K := K) rfl (pv 0) (by rfl)) (by intro _; rfl)) (pss_one (ps_set (i := 1) sc_row_of.nd rfl (Or.inl rfl) (pe_op op_cat (pe_op op_cat (pv 1) (pe_lst (pa_cons pe_str pa_nil))) (pe_fldK (K := K) rfl (pv 0) (by rfl))))) pss_nil)
    (pss_cons (ps_expr (pe_bm PySem.F.plainAttrs_list PySem.F.slot_list_append PySem.F.type_list_append mt_append (pv 1) (pa_cons (pe_ix (ix_tupK (K := K) rfl) (pe_fldK (K := K) rfl (pv 0) (by rfl)) pe_int (fun _ _ => rfl)) pa_nil)))
    (C8.pss_cut (ps_if (pt_cmpR op_eq (pe_ix (ix_tupK (K := K) rfl) (pe_fldK (K := K) rfl (pv 0) (by rfl)) pe_int (fun _ _ => rfl)) pe_str (nomark _)) (pss_cons (ps_expr (pe_bm PySem.F.plainAttrs_list PySem.F.slot_list_append PySem.F.type_list_append mt_append (pv 1) (pa_cons (pe_ix (ix_tupK (K := K) rfl) (pe_fldK (K := K) rfl (pv 0) (by rfl)) pe_int (fun _ _ => rfl)) pa_nil)))
    (pss_one (ps_expr (pe_bm PySem.F.plainAttrs_list PySem.F.slot_list_extend PySem.F.type_list_extend mt_extend (pv 1) (pa_cons (pe_callTy call_list_of (by rfl) (z_list T) boot_list (pa_cons (pe_ix (ix_tupK (K := K) rfl) (pe_fldK (K := K) rfl (pv 0) (by rfl)) pe_int (fun _ _ => rfl)) pa_nil)) pa_nil))))) pss_nil)
    (pss_one (ps_ret (pe_join pe_str (pv 1)))))))), ?_⟩
  have sl : sizeLine = 16777216 := rfl
  have c8 := ok.c.hi
  have k8 := ok.ky8
  have t4 := ok.tl8
  have kp := kyP_len b.ky
  refine ⟨_, rfl, p, CTb K, dx, _, _, rfl, hp, C0, noat_Table_name T, hf.n, by show 2 ≤ sizeLine; decide, fun D0 h0 => ?_⟩
  have g0 := hG.free h0
  have s0 := (Step.refl (p := none) hG).loc (o := .lst [.str "table", .str (S b.n)]) h0 g0
  have hd0 : upd H D0 (.lst [.str "table", .str (S b.n)]) D0 = some (.lst [.str "table", .str (S b.n)]) := upd_same
  generalize upd H D0 (.lst [.str "table", .str (S b.n)]) = H0 at *
  have hp0 := s0.same _ _ hp
  refine ⟨_, rfl, p, CTb K, dx, _, _, rfl, hp0, C0, noat_Table_columns T, hf.c, D0, c, _, _, rfl, rfl, hd0, s0.gh _ _ hb.c, by rw [sV_len]; show 2 + _ ≤ _; omega, fun W hW => ?_⟩
  have e1 : [V.str "table", V.str (S b.n)] ++ sV b.cs = sV (tbW :: b.n :: b.cs) := by rw [table_]; rfl
  rw [e1]
  have hWH := s0.free hW
  have gW := s0.gh.free hW
  have s1 := s0.loc (o := .lst (sV (tbW :: b.n :: b.cs))) hWH gW
  have hW1 : upd H0 W (.lst (sV (tbW :: b.n :: b.cs))) W = some (.lst (sV (tbW :: b.n :: b.cs))) := upd_same
  generalize upd H0 W (.lst (sV (tbW :: b.n :: b.cs))) = H1 at *
  clear s0 hd0 hp0 e1
  have hp1 := s1.same _ _ hp
  refine ⟨fun σ' H' => ∃ W, σ' = [some (.ref p), some (.ref W)] ∧ Step none G H G H' ∧ H W = none ∧ G W = none ∧ H' W = some (.lst (sV ((tbW :: b.n :: b.cs) ++ kyP b.ky))), ?_, ?_⟩
  · refine ⟨_, rfl, p, CTb K, dx, _, _, rfl, hp1, C0, noat_Table_key T, hf.k, _, .inl ⟨_, SqL.of (s1.gh _ _ hb.k), rfl⟩, ?_⟩
    refine ite2 (fun z => ?_) (fun z => ?_)
    · have hky : b.ky ≠ [] := fun e => by rw [e] at z; simp at z
      refine ⟨_, rfl, by show 1 ≤ sizeLine; decide, fun D2 h2 => ?_⟩
      have s2 := s1.loc (o := .lst [.str "key"]) (s1.free h2) (s1.gh.free h2)
      refine ⟨W, D2, _, _, rfl, rfl, by rw [upd_ne (ne_of_none hW1 h2)]; exact hW1, upd_same, by rw [sV_len]; show (b.cs.length + 1 + 1) + 1 ≤ _; omega, fun D3 h3 => ?_⟩
      have e3 : sV (tbW :: b.n :: b.cs) ++ [V.str "key"] = sV ((tbW :: b.n :: b.cs) ++ [kyW]) := by rw [key_]; exact sV_app (tbW :: b.n :: b.cs) [kyW]
      rw [e3]
      have s3 := s2.loc (o := .lst (sV ((tbW :: b.n :: b.cs) ++ [kyW]))) (s2.free h3) (s2.gh.free h3)
      have hp3 := s3.same _ _ hp
      refine ⟨_, rfl, p, CTb K, dx, _, _, rfl, hp3, C0, noat_Table_key T, hf.k, D3, k, _, _, rfl, rfl, upd_same, s3.gh _ _ hb.k, by rw [sV_len, sV_len, List.length_append]; show (b.cs.length + 1 + 1) + 1 + _ ≤ _; omega, fun D4 h4 => ?_⟩
      have e4 : sV ((tbW :: b.n :: b.cs) ++ [kyW]) ++ sV b.ky = sV ((tbW :: b.n :: b.cs) ++ kyP b.ky) := by
        rw [sV_app, List.append_assoc]
        unfold kyP
        rw [if_neg hky]
        rfl
      rw [e4]
      exact ⟨D4, rfl, s3.loc (s3.free h4) (s3.gh.free h4), s3.free h4, s3.gh.free h4, upd_same⟩
    · have hky : b.ky = [] := by
        cases e : b.ky with
        | nil => rfl
        | cons x r => rw [e] at z; exact absurd (by rfl) z
      refine ⟨W, rfl, s1, hWH, gW, ?_⟩
      have e5 : kyP b.ky = [] := by unfold kyP; rw [if_pos hky]
      rw [e5, List.append_nil]
      exact hW1
  clear hWH gW hW1 hW s1
  rintro σ' H2 ⟨W, rfl, s2, hWH, gW, hW2⟩
  have hp2 := s2.same _ _ hp
  have hn : W ≠ p := fun e => by rw [e, hp] at hWH; cases hWH
  obtain ⟨lr, hlr⟩ := hb.l.hd
  refine ⟨_, rfl, .inl ⟨rfl, _, SqL.of hW2⟩, _, rfl, p, CTb K, dx, _, _, rfl, hp2, C0, noat_Table_lies T, hf.l, l, _, 0, _, rfl, rfl, sqT_same hlr s2.gh, atI_nat (j := 0) rfl, W, _, _, rfl, rfl, hW2, by rw [sV_len, List.length_append]; show (b.cs.length + 1 + 1) + _ < _; omega, ?_⟩
  have e6 : sV ((tbW :: b.n :: b.cs) ++ kyP b.ky) ++ [V.str (S b.li.hd)] = sV (((tbW :: b.n :: b.cs) ++ kyP b.ky) ++ [b.li.hd]) := sV_app _ [b.li.hd]
  rw [e6]
  have s3 := s2.loc (o := .lst (sV (((tbW :: b.n :: b.cs) ++ kyP b.ky) ++ [b.li.hd]))) hWH gW
  have hW3 : upd H2 W (.lst (sV (((tbW :: b.n :: b.cs) ++ kyP b.ky) ++ [b.li.hd]))) W = some (.lst (sV (((tbW :: b.n :: b.cs) ++ kyP b.ky) ++ [b.li.hd]))) := upd_same
  generalize upd H2 W (.lst (sV (((tbW :: b.n :: b.cs) ++ kyP b.ky) ++ [b.li.hd]))) = H3 at *
  clear hp2 hW2 s2 e6
  have hp3 := s3.same _ _ hp
  have ew : words b = (((tbW :: b.n :: b.cs) ++ kyP b.ky) ++ [b.li.hd]) ++ b.li.tl := by
    unfold words Bs.rest
    show tbW :: b.n :: (b.cs ++ (kyP b.ky ++ b.li.hd :: b.li.tl)) = _
    simp [List.append_assoc]
  refine ⟨fun σ' H' => σ' = [some (.ref p), some (.ref W)] ∧ Step none G H G H' ∧ H' W = some (.lst (sV (words b))), ?_, ?_⟩
  · refine ⟨_, rfl, p, CTb K, dx, _, _, rfl, hp3, C0, noat_Table_lies T, hf.l, l, _, 0, _, rfl, rfl, sqT_same hlr s3.gh, atI_nat (j := 0) rfl, rfl, _, rfl, ?_⟩
    have hbl := hb.l
    revert hbl hW3 ew t4
    cases b.li with
    | dealt r ds =>
      intro t4 hW3 ew hbl
      have ed : (Lie.dealt r ds).hd = [100, 101, 97, 108, 116] := rfl
      obtain ⟨d, h1, h2⟩ := hbl
      refine ite2 (fun _ => ?_) (fun z => absurd (decide_eq_true (by rw [dealt_, ed])) z)
      refine ⟨_, rfl, .inl ⟨rfl, _, SqL.of hW3⟩, _, rfl, p, CTb K, dx, _, _, rfl, hp3, C0, noat_Table_lies T, hf.l, l, _, 1, _, rfl, rfl, sqT_same h1 s3.gh, atI_nat (j := 1) rfl, W, _, _, rfl, rfl, hW3, by rw [sV_len, List.length_append, List.length_append]; show (b.cs.length + 1 + 1) + _ + 1 < _; omega, ?_⟩
      have s4 := s3.loc (o := .lst (sV (((tbW :: b.n :: b.cs) ++ kyP b.ky) ++ [(Lie.dealt r ds).hd]) ++ [V.str (S r)])) hWH gW
      have hp4 := s4.same _ _ hp
      have d3 : ds.length + 1 ≤ 4 := t4
      refine ⟨_, rfl, .inl ⟨rfl, _, SqL.of upd_same⟩, _, rfl, p, CTb K, dx, _, _, rfl, hp4, C0, noat_Table_lies T, hf.l, l, _, 2, _, rfl, rfl, sqT_same h1 s4.gh, atI_nat (j := 2) rfl, d, _, rfl, .inr (sqT_same h2 s4.gh), fun Dl hl => ?_⟩
      have nl : W ≠ Dl := ne_of_none upd_same hl
      have s5 := s4.loc (o := .lst (sV ds)) (s4.free hl) (s4.gh.free hl)
      refine ⟨W, Dl, _, _, rfl, rfl, by rw [upd_ne nl]; exact upd_same, upd_same, by rw [List.length_append, sV_len, sV_len, List.length_append, List.length_append]; show (b.cs.length + 1 + 1) + _ + 1 + 1 + _ ≤ _; omega, rfl, s5.loc hWH gW, ?_⟩
      rw [upd_same, ew]
      refine congrArg (fun z => some (HO.lst z)) ?_
      rw [List.append_assoc]
      exact sV_app _ (r :: ds)
    | _ =>
      intro t4 hW3 ew _
      refine ite2 (fun z => absurd (V.str.inj (of_decide_eq_true z)) (by decide +kernel)) (fun _ => ⟨rfl, s3, ?_⟩)
      rw [ew]
      exact hW3.trans (by rw [show Lie.tl _ = [] from rfl, List.append_nil])
  rintro σ' H4 ⟨rfl, s4, hW4⟩
  have w8 := sum8 ok.w8
  have wn := ok.wn
  refine ⟨⟨_, rfl⟩, _, rfl, " ", W, (words b).map S, rfl, rfl, .inl (SqL.of hW4), ?_, ?_⟩
  · have l1 : (" " : Str).length = 1 := by decide +kernel
    rw [l1, List.length_map]
    omega
  · rw [sp_, join_S]
    exact q H4 s4
end Pf
namespace Bs
open PySem PySem.Spec PyProof.Rows L2 SX
variable {P : Program} {w : World} {K : PySem.W.Frag} {mg : Str → Option Value} {base : Heap}
def tbf (n : List Nat) (c k l : Addr) (t : List Nat) : List (Str × V) := putF "text" (.str (S t)) (putF "lies" (.ref l) (putF "key" (.ref k) (putF "columns" (.ref c) (putF "name" (.str (S n)) []))))
theorem fl4 {n : List Nat} {c k l : Addr} : Flds (putF "lies" (.ref l) (putF "key" (.ref k) (putF "columns" (.ref c) (putF "name" (.str (S n)) [])))) n c k l := by
  refine ⟨?_, ?_, ?_, ?_⟩
  · rw [lookup_putF, if_neg (by decide +kernel), lookup_putF, if_neg (by decide +kernel), lookup_putF, if_neg (by decide +kernel), lookup_putF, if_pos rfl]
  · rw [lookup_putF, if_neg (by decide +kernel), lookup_putF, if_neg (by decide +kernel), lookup_putF, if_pos rfl]
  · rw [lookup_putF, if_neg (by decide +kernel), lookup_putF, if_pos rfl]
  · rw [lookup_putF, if_pos rfl]
theorem tf_fl {n : List Nat} {c k l : Addr} {t : List Nat} : Flds (tbf n c k l t) n c k l := by
  obtain ⟨h1, h2, h3, h4⟩ := fl4 (n := n) (c := c) (k := k) (l := l)
  exact ⟨by unfold tbf; rw [lookup_putF, if_neg (by decide +kernel)]; exact h1, by unfold tbf; rw [lookup_putF, if_neg (by decide +kernel)]; exact h2, by unfold tbf; rw [lookup_putF, if_neg (by decide +kernel)]; exact h3, by unfold tbf; rw [lookup_putF, if_neg (by decide +kernel)]; exact h4⟩
theorem tf_t {n : List Nat} {c k l : Addr} {t : List Nat} : (tbf n c k l t).lookup ("text" : Str) = some (.str (S t)) := by unfold tbf; rw [lookup_putF, if_pos rfl]
theorem putF_le (f : Str) (v : V) : ∀ fs : List (Str × V), (putF f v fs).length ≤ fs.length + 1 := fun fs => by
  induction fs with
  | nil => simp [putF]
  | cons x r ih =>
    unfold putF
    split <;> simp <;> omega
theorem sq_off {H : Hp} {p a C dx : Addr} {fs : List (Str × V)} {xs : List V} {o : HO} (h : SqL K H a xs) (hp : H p = some (.ins C dx fs)) : SqL K (upd H p o) a xs := by
  rcases h with (h | ⟨u, h⟩) | h
  · exact .inl (.inl (by rw [upd_ne (ne_of h hp (by intro z; cases z))]; exact h))
  · exact .inl (.inr ⟨u, by rw [upd_ne (ne_of h hp (by intro z; cases z))]; exact h⟩)
  · exact .inr h
theorem sq_off' {H : Hp} {p a C dx : Addr} {fs : List (Str × V)} {xs : List V} {o : HO} (h : Sq K H a xs) (hp : H p = some (.ins C dx fs)) : Sq K (upd H p o) a xs := by
  rcases h with h | (h | ⟨u, h⟩) | h
  · exact .inl (sq_off h hp)
  · exact .inr (.inl (.inl (by rw [upd_ne (ne_of h hp (by intro z; cases z))]; exact h)))
  · exact .inr (.inl (.inr ⟨u, by rw [upd_ne (ne_of h hp (by intro z; cases z))]; exact h⟩))
  · exact .inr (.inr h)
theorem Sq.new {H : Hp} {q a : Addr} {xs : List V} {o : HO} (h : Sq K H a xs) (hq : H q = none) : Sq K (upd H q o) a xs := h.same (Same.new (Same.refl H) hq)
/-- a table that stands and never changes -/
structure TbAt (K : PySem.W.Frag) (C : Addr) (G : Hp) (a : Addr) (b : Br) : Prop where
  ex : ∃ dx c k l, G a = some (.ins C dx (tbf b.n c k l (txtB b))) ∧ BrAt K G c k l b
theorem TbAt.same {C : Addr} {G H : Hp} {a : Addr} {b : Br} (h : TbAt K C G a b) (s : Same G H) : TbAt K C H a b := by
  obtain ⟨dx, c, k, l, h1, h2⟩ := h.ex
  exact ⟨dx, c, k, l, s _ _ h1, h2.same s⟩
def spTInit (K : PySem.W.Frag) (C : Addr) : Sp := fun vs H Q _ => ∃ (G : Hp) (p dx ca ka l : Addr) (b : Br), vs = [.ref p, .str (S b.n), .ref ca, .ref ka, .ref l] ∧ Same G H ∧ G p = none ∧ H p = some (.ins C dx []) ∧ SqL K H ca (sV b.cs) ∧ Sq K H ka (sV b.ky) ∧ LieAt K G l b.li ∧ Ok b ∧
  ∀ (G' H' : Hp) (c k : Addr), Step (some p) G H G' H' → G' p = none → H' p = some (.ins C dx (tbf b.n c k l (txtB b))) → BrAt K G' c k l b → Q .non H'
theorem Step.atP {p : Addr} {G H G1 H1 : Hp} {o : HO} (a : Step (some p) G H G1 H1) (gp : G1 p = none) : Step (some p) G H G1 (upd H1 p o) where
  gg := a.gg
  gh := Same.off a.gh gp
  new := a.new
  kp b u e n := by rw [upd_ne (fun z => n (by rw [z]))]; exact a.kp b u e n
  pp b e h := by cases e; rw [upd_same]; exact fun z => by cases z
theorem Step.new1 {p q : Addr} {G H G1 H1 : Hp} {o : HO} (a : Step (some p) G H G1 H1) (hq : H1 q = none) : Step (some p) G H (upd G1 q o) (upd H1 q o) := a.new_ hq
theorem Step.absorb {G H G1 H1 : Hp} {f : Addr} {o : HO} (hf : H f = none) (a : Step (some f) G (upd H f o) G1 H1) : Step none G H G1 H1 where
  gg := a.gg
  gh := a.gh
  new b hb := by
    rcases a.new b hb with h | h
    · exact .inl h
    · by_cases c : b = f
      · exact .inr (c ▸ hf)
      · rw [upd_ne c] at h; exact .inr h
  kp b u e _ := by
    have c : b ≠ f := ne_of_none e hf
    exact a.kp b u (by rw [upd_ne c]; exact e) fun z => c (Option.some.inj z)
  pp b e := by cases e
end Bs
namespace Pf
open PySem PySem.Spec PyProof.Rows L2 Bs SX
variable {P : Program} {w : World} {K : PySem.W.Frag} {mg : Str → Option Value} {base : Heap}
theorem ok0' {nm qual : Str} {par : Arguments} {bd : List Stmt} {sco : Scope} {N ps : List Str} {k : Nat} {sp : Sp} {kws : List (Str × V)} {dvs' : List V} {a : Addr} {fd : FuncData}
    (F : FunD K nm qual par bd sco dvs' kws a fd) (S : FnScope N ps sco) (len : ∀ vs H Q E, sp vs H Q E → vs.length = ps.length)
    (body : ∀ (cdv : Value) (A : Around) (outer : List Env) (s : Shared) (H : Hp) (vs : List V) (Q : VK) (E : XK), Room k (A.deeper (envOfC qual sco s.heap.objs.size a cdv)) → sp vs H Q E →
      ∃ t, PSs (cxOf C8.CX0 P w K mg base N qual sco a cdv A outer s H E).nox bd t ∧ t { nx := fun _ H' => Q .non H', rt := Q } (start N vs) H) : FnOk P w K mg base C8.CX0 (k + 1) a fd ps sp :=
  F.ok S len fun cdv A outer s H vs Q E hr h => let ⟨t, h1, h2⟩ := body cdv A outer s H vs Q E hr h
    ⟨t, h1.nox, h2⟩
abbrev N_Table_init : List Str := ["self", "name", "columns", "key", "lies", "reason"]
theorem sc_Table_init : FnScope N_Table_init ["self", "name", "columns", "key", "lies"] (defScope s_Table_init) := ⟨rfl, rfl, rfl, by decide +kernel, rfl, by decide +kernel, by decide +kernel⟩
theorem o_init (T : Tx K mg) : ∃ fd, FnOk P w K mg base C8.CX0 5 (He.ma K (CTb K) "__init__") fd ["self", "name", "columns", "key", "lies"] (spTInit K (CTb K)) ∧ FunD K d_Table_init.2.name d_Table_init.2.qual d_Table_init.2.params d_Table_init.2.body d_Table_init.2.scope (d_Table_init.2.dvs K) (d_Table_init.2.kws K) (d_Table_init.1 K) fd := by
  obtain ⟨fd, F⟩ := f_Table_init T
  have c_fault_of := c_fault_of (P := P) (w := w) (base := base) T
  have c_row_of := c_row_of (P := P) (w := w) (base := base) T
  refine ⟨fd, ok0' F sc_Table_init (fun vs H Q E h => ?_) (fun cdv A outer s H vs Q E hr h => ?_), F⟩
  · obtain ⟨G, p, dx, ca, ka, l, b, rfl, _⟩ := h
    rfl
  obtain ⟨G, p, dx, ca, ka, l, b, rfl, hG, gp, hp, hc, hk, hl, ok, q⟩ := h
  have C0 := cls_Table_ T
  refine ⟨_, (pss_cons (ps_fld (pv 0) (pv 1) rfl)
    (pss_cons (ps_fld (pv 0) (pe_callTy call_list_of (by rfl) (z_list T) boot_list (pa_cons (pv 2) pa_nil)) rfl)
    (pss_cons (ps_fld (pv 0) (pe_callTy call_list_of (by rfl) (z_list T) boot_list (pa_cons (pv 3) pa_nil)) rfl)
    (pss_cons (ps_fld (pv 0) (pv 4) rfl)
    (pss_cons (ps_set (i := 5) sc_Table_init.nd rfl (Or.inl rfl) (C8.pe_c c_fault_of hr (by first | decide | omega) rfl (pa_cons (pv 0) pa_nil)))
    (pss_cons (ps_if (pt_cmpR op_notN (pv 5) pe_non (nomark _)) (pss_one ps_no) pss_nil)
    (pss_one (ps_fld (pv 0) (C8.pe_c c_row_of hr (by first | decide | omega) rfl (pa_cons (pv 0) pa_nil)) rfl)))))))), ?_⟩
  have npH : ∀ {q : Addr} {X : Hp}, X p ≠ none → X q = none → p ≠ q := fun h1 h2 e => h1 (by rw [e]; exact h2)
  have upn : ∀ {X : Hp} {o : HO}, upd X p o p ≠ none := fun {X o} => by rw [upd_same]; exact fun z => by cases z
  let f1 := putF "name" (V.str (S b.n)) []
  have s1 : Step (some p) G H G (upd H p (.ins (CTb K) dx f1)) := (Step.refl hG).atP gp
  refine ⟨_, rfl, _, rfl, p, CTb K, dx, [], rfl, hp, C0, noat_Table_name T, by show 0 < 1000; decide, ?_⟩
  have hc1 : SqL K (upd H p (.ins (CTb K) dx f1)) ca (sV b.cs) := sq_off hc hp
  refine ⟨_, rfl, ca, _, rfl, .inl hc1, fun c hcf => ?_⟩
  have npc := npH upn hcf
  have s2 := s1.new1 (o := .lst (sV b.cs)) hcf
  have g2 : upd G c (.lst (sV b.cs)) p = none := by rw [upd_ne npc]; exact gp
  have hp2 : upd (upd H p (.ins (CTb K) dx f1)) c (.lst (sV b.cs)) p = some (.ins (CTb K) dx f1) := by rw [upd_ne npc, upd_same]
  have hk2 : Sq K (upd (upd H p (.ins (CTb K) dx f1)) c (.lst (sV b.cs))) ka (sV b.ky) := Sq.new (sq_off' hk hp) hcf
  have hgc : upd G c (.lst (sV b.cs)) c = some (.lst (sV b.cs)) := upd_same
  have kg2 : Same G (upd G c (.lst (sV b.cs))) := s2.gg
  generalize upd G c (.lst (sV b.cs)) = G2 at *
  generalize upd (upd H p (.ins (CTb K) dx f1)) c (.lst (sV b.cs)) = H2 at *
  have l1 : f1.length ≤ 1 := putF_le _ _ _
  refine ⟨_, rfl, p, CTb K, dx, f1, rfl, hp2, C0, noat_Table_columns T, by omega, ?_⟩
  have s3 := s2.atP (o := .ins (CTb K) dx (putF "columns" (.ref c) f1)) g2
  have hk3 := sq_off' (o := .ins (CTb K) dx (putF "columns" (.ref c) f1)) hk2 hp2
  refine ⟨_, rfl, ka, _, rfl, hk3, fun k hkf => ?_⟩
  have npk := npH upn hkf
  have s4 := s3.new1 (o := .lst (sV b.ky)) hkf
  have g4 : upd G2 k (.lst (sV b.ky)) p = none := by rw [upd_ne npk]; exact g2
  have hp4 : upd (upd H2 p (.ins (CTb K) dx (putF "columns" (.ref c) f1))) k (.lst (sV b.ky)) p = some (.ins (CTb K) dx (putF "columns" (.ref c) f1)) := by rw [upd_ne npk, upd_same]
  have kg4 : Same G2 (upd G2 k (.lst (sV b.ky))) := Same.new (Same.refl G2) (s3.gh.free hkf)
  have hgk : upd G2 k (.lst (sV b.ky)) k = some (.lst (sV b.ky)) := upd_same
  generalize upd G2 k (.lst (sV b.ky)) = G4 at *
  generalize upd (upd H2 p (.ins (CTb K) dx (putF "columns" (.ref c) f1))) k (.lst (sV b.ky)) = H4 at *
  have l2 : (putF "columns" (.ref c) f1).length ≤ 2 := Nat.le_trans (putF_le _ _ _) (by omega)
  refine ⟨_, rfl, p, CTb K, dx, _, rfl, hp4, C0, noat_Table_key T, by omega, ?_⟩
  have l3 : (putF "key" (.ref k) (putF "columns" (.ref c) f1)).length ≤ 3 := Nat.le_trans (putF_le _ _ _) (by omega)
  refine ⟨_, rfl, _, rfl, p, CTb K, dx, _, rfl, upd_same, C0, noat_Table_lies T, by omega, ?_⟩
  rw [upd_upd]
  have s6 := s4.atP (o := .ins (CTb K) dx (putF "lies" (.ref l) (putF "key" (.ref k) (putF "columns" (.ref c) f1)))) g4
  have hp6 : upd H4 p (.ins (CTb K) dx (putF "lies" (.ref l) (putF "key" (.ref k) (putF "columns" (.ref c) f1)))) p = some (.ins (CTb K) dx (putF "lies" (.ref l) (putF "key" (.ref k) (putF "columns" (.ref c) f1)))) := upd_same
  generalize upd H4 p (.ins (CTb K) dx (putF "lies" (.ref l) (putF "key" (.ref k) (putF "columns" (.ref c) f1)))) = H6 at *
  have bat : BrAt K G4 c k l b := ⟨kg4 _ _ hgc, hgk, hl.same (kg2.trans kg4)⟩
  refine ⟨_, rfl, G4, p, dx, c, k, l, _, b, rfl, s6.gh, hp6, fl4, bat, ok, fun H7 s7 => ?_⟩
  have hp7 := s7.same _ _ hp6
  refine ⟨_, rfl, rfl, _, rfl, ?_⟩
  refine ite2 (fun z => absurd z (by simp)) (fun _ => ?_)
  refine ⟨_, rfl, G4, p, dx, c, k, l, _, b, rfl, s7.gh, hp7, fl4, bat, ok, fun H8 s8 => ?_⟩
  have hp8 := s8.same _ _ hp7
  have l4 : (putF "lies" (.ref l) (putF "key" (.ref k) (putF "columns" (.ref c) f1))).length ≤ 4 := Nat.le_trans (putF_le _ _ _) (by omega)
  refine ⟨_, rfl, p, CTb K, dx, _, rfl, hp8, C0, noat_Table_text T, by omega, ?_⟩
  exact q G4 _ c k (((s6.trans s7.some_).trans s8.some_).atP g4) g4 upd_same bat
end Pf
namespace Bs
open PySem PySem.Spec PyProof.Rows L2 SX
variable {P : Program} {w : World} {K : PySem.W.Frag} {mg : Str → Option Value} {base : Heap}
/-- the defaults of key and lies -/
abbrev dK (K : PySem.W.Frag) : V := .ref (Hd.kwAt ("Table", some "__init__") "key" K)
abbrev dL (K : PySem.W.Frag) : V := .ref (Hd.kwAt ("Table", some "__init__") "lies" K)
end Bs
namespace Pf
open PySem PySem.Spec PyProof.Rows L2 Bs SX
variable {P : Program} {w : World} {K : PySem.W.Frag} {mg : Str → Option Value} {base : Heap}
theorem kws_T : d_Table_init.2.kws K = [(("key" : Str), dK K), (("lies" : Str), dL K)] := rfl

theorem kp_Table_key_lies (T : Tx K mg) : MakP P w K mg base 5 "Table" (CTb K) 2 ["key", "lies"] (fun vs zs => vs ++ zs) (spTInit K (CTb K)) := by
  obtain ⟨fd, RO, F⟩ := o_init (P := P) (w := w) (base := base) T
  obtain ⟨mv, hb⟩ := FunD.kbinds0 F 3 ["key", "lies"] [] (fun {α} (vs mv zs : List α) => vs ++ zs) (by rw [kws_T]; exact fun z => by cases z) (fun q h => by cases h) (fun r1 _ r3 => r1.append r3)
    (ps := ["self", "name", "columns", "key", "lies"]) (fun D doc pm an cdv ct us mv ws h1 h2 h3 => match us, mv, ws, h1, h2, h3 with | [_, _, _], [], [_, _], _, _, _ => rfl)
  exact ⟨_, fd, _, _, mkr_Table_ T, RO, g_Table T, hb⟩
theorem kp_Table_lies (T : Tx K mg) : MakP P w K mg base 5 "Table" (CTb K) 2 ["lies"] (fun vs zs => vs ++ ([dK K] ++ zs)) (spTInit K (CTb K)) := by
  obtain ⟨fd, RO, F⟩ := o_init (P := P) (w := w) (base := base) T
  obtain ⟨mv, hb⟩ := FunD.kbinds0 F 3 ["lies"] [("key", dK K)] (fun {α} (vs mv zs : List α) => vs ++ (mv ++ zs)) (by rw [kws_T]; exact fun z => by cases z) (fun q h => by rw [kws_T, List.mem_singleton.mp h]; exact List.mem_cons_self) (fun r1 r2 r3 => r1.append (r2.append r3))
    (ps := ["self", "name", "columns", "key", "lies"]) (fun D doc pm an cdv ct us mv ws h1 h2 h3 => match us, mv, ws, h1, h2, h3 with | [_, _, _], [_], [_], _, _, _ => ⟨_, _, _, _, _, _, rfl, rfl, rfl⟩)
  exact ⟨_, fd, _, _, mkr_Table_ T, RO, g_Table T, hb⟩
theorem kp_Table_key (T : Tx K mg) : MakP P w K mg base 5 "Table" (CTb K) 2 ["key"] (fun vs zs => vs ++ (zs ++ [dL K])) (spTInit K (CTb K)) := by
  obtain ⟨fd, RO, F⟩ := o_init (P := P) (w := w) (base := base) T
  obtain ⟨mv, hb⟩ := FunD.kbinds0 F 3 ["key"] [("lies", dL K)] (fun {α} (vs mv zs : List α) => vs ++ (zs ++ mv)) (by rw [kws_T]; exact fun z => by cases z) (fun q h => by rw [kws_T, List.mem_singleton.mp h]; exact List.mem_cons_of_mem _ List.mem_cons_self) (fun r1 r2 r3 => r1.append (r3.append r2))
    (ps := ["self", "name", "columns", "key", "lies"]) (fun D doc pm an cdv ct us mv ws h1 h2 h3 => match us, mv, ws, h1, h2, h3 with | [_, _, _], [_], [_], _, _, _ => ⟨_, _, _, _, _, _, rfl, rfl, rfl⟩)
  exact ⟨_, fd, _, _, mkr_Table_ T, RO, g_Table T, hb⟩
theorem m_Table (T : Tx K mg) : C8.Mak P w K mg base 5 "Table" (CTb K) (spTInit K (CTb K)) [dK K, dL K] := by
  obtain ⟨fd, RO, F⟩ := o_init (P := P) (w := w) (base := base) T
  obtain ⟨ds, hd, hb⟩ := FunD.binds0 F 3 (ps := ["self", "name", "columns", "key", "lies"]) (by rw [kws_T]; exact fun z => by cases z) (by rw [kws_T]; rfl)
    (fun D doc pm an cdv ct us ks h1 h2 => match us, ks, h1, h2 with | [_, _, _], [_, _], _, _ => ⟨_, _, _, _, _, _, rfl, rfl, _, _, _, _, _, _, rfl, rfl, rfl⟩)
  exact ⟨_, fd, _, ds, mkr_Table_ T, RO, g_Table T, hb, hd⟩
end Pf
/-! ### a dict put into another one: {**d, k: v}, d.update(e); calls whose keywords become a dict; dict comprehensions over lists and over a dict's keys -/
namespace Dm
open PySem PySem.Spec PyProof.Rows L2
section
variable {P : Program} {w : World} {A : Around} {E : Value → Shared → Prop} {s : Shared}
/-- one entry is put -/
theorem put_at {d : Addr} {ks : List (Key × Value)} {k : Key} {kv v : Value} {Q : Unit → Shared → Prop} (hk : (mixKind P w).is k kv = true) (hm : s.heap.DictOf (mixKind P w) d ks) (hz : ks.length ≤ sizeLine)
    (q : ∀ h', h'.DictOf (mixKind P w) d (stored ks k v) → Heap.SameBut d s.heap h' → Q () { s with heap := h' }) : wpAny (model P w) A (dictPut d ((mixKind P w).hash k) kv v) Q E s := by
  obtain ⟨o, es, ep, ho, hc, hd, hko, hp, hn⟩ := hm
  have e1 := hp.length
  have e2 : es.toList.length = es.size := Array.length_toList
  have hes : es.size ≤ sizeLine := by omega
  have ix : (es.findIdx? fun e => (mixKind P w).is k e.key) = ks.findIdx? fun p => decide (p.1 = k) := by
    rw [← hp.findIdx k]
    obtain ⟨l⟩ := es
    simp
  unfold dictPut
  refine wpAny_bind (wpAny_dictFind_of hk ho hd hko ?_)
  cases hi : es.findIdx? fun e => (mixKind P w).is k e.key with
  | some i =>
    have hany := any_of_findIdx_some (ix ▸ hi)
    have hl : (es.toList.findIdx? fun e => (mixKind P w).is k e.key) = some i := by
      rw [← hi]
      obtain ⟨l⟩ := es
      simp
    refine wpAny_updateDict ho hd (q _ ?_ (Heap.SameBut.update ..))
    have hmod := hp.modify hn hl v
    refine ⟨_, _, ep, Heap.get?_update_self _ ho (Obj.isFreed_of_dict (Obj.data_mapDict hd _)), hc.mapDict _, Obj.data_mapDict hd _, hko.modify _ _, ?_, ?_⟩
    · rw [stored, if_pos hany]
      obtain ⟨l⟩ := es
      simpa using hmod
    · rw [stored, if_pos hany, keys_map_store]
      exact hn
  | none =>
    have hnot : k ∉ ks.map (·.1) := not_mem_of_findIdx_none (ix ▸ hi)
    have hany : ¬ (ks.any fun p => decide (p.1 = k)) = true := by
      rw [List.any_eq_true]
      rintro ⟨p, hp', he⟩
      exact hnot (List.mem_map.mpr ⟨p, hp', of_decide_eq_true he⟩)
    refine wpAny_updateDictKeys (hz := hes) ho hd (q _ ?_ (Heap.SameBut.update ..))
    have happ := hp.append hk ((mixKind P w).hash k) v
    refine ⟨_, _, ep + 1, Heap.get?_update_self _ ho (Obj.isFreed_of_dict (Obj.data_mapDictKeys hd _)), hc.mapDictKeys _, Obj.data_mapDictKeys hd _, hko.push hk _, ?_, ?_⟩
    · rw [stored, if_neg hany]
      obtain ⟨l⟩ := es
      simpa using happ
    · rw [stored, if_neg hany, List.map_append, List.nodup_append]
      refine ⟨hn, by simp, fun a ha b hb => ?_⟩
      rw [List.map_cons, List.map_nil, List.mem_singleton] at hb
      rw [hb]
      exact fun e => hnot (by rw [e] at ha; exact ha)
theorem key_flat {k : Key} {v : Value} (h : (mixKind P w).is k v = true) : ∀ a, v ≠ .ref a := fun a e => by
  rcases keyIs_shape (show keyIs k v = true from h) with ⟨i, t, _, e2⟩ | ⟨x, t, _, e2⟩
  · rw [e] at e2; cases e2
  · rw [e] at e2; cases e2
theorem merge_at {d o : Addr} {ks more : List (Key × Value)} {Q : Unit → Shared → Prop} (ne : d ≠ o) (oS : (o == sysModules) = false) (hd : s.heap.DictOf (mixKind P w) d ks) (ho : s.heap.DictOf (mixKind P w) o more)
    (hz : ks.length + more.length ≤ sizeLine) (q : ∀ h', h'.DictOf (mixKind P w) d (merged ks more) → Heap.SameBut d s.heap h' → Q () { s with heap := h' }) :
    wpAny (model P w) A (mergeMapping d (.ref o) false) Q E s := by
  obtain ⟨od, esd, epd, god, cod, dod, kod, pod, nod⟩ := id hd
  obtain ⟨oo, eso, epo, goo, coo, doo, koo, poo, noo⟩ := id ho
  have hlen : more.length = eso.size := by
    rw [← poo.length, Array.length_toList]
  have loop : wpAny (model P w) A (do
      let l ← dictEntries o
      let n : Nat := l.size
      let epoch ← dictEpoch o
      forIn (List.range n) PUnit.unit fun i (_ : PUnit) => (do
        let l2 ← dictEntries o
        match l2[i]? with
        | some e => do
          holding [e.key, e.val] (dictPut d e.hash e.key e.val)
          let ep2 ← dictEpoch o
          if (ep2 != epoch) = true then do
              (unsupported "dict.changed-during-merge" : Sem PUnit)
              pure (ForInStep.yield PUnit.unit)
            else pure (ForInStep.yield PUnit.unit)
        | _ => do
          (unsupported "dict.changed-during-merge" : Sem PUnit)
          pure (ForInStep.yield PUnit.unit) : Sem (ForInStep PUnit))
      pure ()) Q E s := by
    refine wpAny_bind (wpAny_dictEntries goo doo ?_)
    dsimp only
    refine wpAny_bind (wpAny_dictEpoch goo doo (wpAny_bind ?_))
    refine wpAny_forIn_list _ (fun rest _ s' => ∃ (h' : Heap) (i : Nat), s' = { s with heap := h' } ∧ rest = List.range' i (eso.size - i) ∧ i ≤ eso.size ∧ h'.DictOf (mixKind P w) d (merged ks (more.take i)) ∧ h'.get? o = some oo ∧ Heap.SameBut d s.heap h') _ ?_ ?_ _ _
      ⟨s.heap, 0, rfl, by rw [List.range_eq_range', Nat.sub_zero], Nat.zero_le _, by rw [List.take_zero]; exact hd, goo, Heap.SameBut.refl _ _⟩
    · rintro x rest b s' ⟨h', i, rfl, hr, hi, hd', goo', sb⟩
      have hlt : i < eso.size := by
        rcases Nat.lt_or_ge i eso.size with h | h
        · exact h
        · rw [Nat.sub_eq_zero_of_le h] at hr
          cases hr
      have e1 : eso.size - i = (eso.size - (i + 1)) + 1 := by omega
      rw [e1, List.range'_succ] at hr
      obtain ⟨rfl, hrest⟩ := List.cons.inj hr
      have hm : x < more.length := by omega
      obtain ⟨hk, hv⟩ := poo.get? (e := eso[x]) (k := more[x].1) (v := more[x].2) (by simp [hlt]) (List.getElem?_eq_getElem hm)
      obtain ⟨k', hk', hh⟩ := koo eso[x] (Array.getElem_mem hlt)
      have ek : k' = more[x].1 := (mixKind P w).inj _ _ _ hk' hk
      refine wpAny_bind (wpAny_dictEntries goo' doo ?_)
      rw [Array.getElem?_eq_getElem hlt]
      show wpAny _ _ (holding [eso[x].key, eso[x].val] (dictPut d eso[x].hash eso[x].key eso[x].val) >>= _) _ _ _
      rw [hh, ek, hv]
      have z1 := merged_length_le ks (more.take x)
      have z2 : (more.take x).length ≤ more.length := by rw [List.length_take]; omega
      refine wpAny_bind (wpAny_holding (put_at hk hd' (by omega) fun h2 hd2 sb2 => ?_))
      have goo2 : h2.get? o = some oo := (sb2.2 o (Ne.symm ne)).trans goo'
      refine wpAny_bind (wpAny_dictEpoch goo2 doo ?_)
      rw [if_neg (by simp)]
      exact wpAny_pure ⟨h2, x + 1, rfl, hrest, hlt, by rw [merged_take_succ ks more x _ (List.getElem?_eq_getElem hm)]; exact hd2, goo2, sb.trans sb2⟩
    · rintro b s' ⟨h', i, rfl, hr, hi, hd', goo', sb⟩
      have hin : i = eso.size := by
        rcases Nat.lt_or_ge i eso.size with h | h
        · have e1 : eso.size - i = (eso.size - (i + 1)) + 1 := by omega
          rw [e1, List.range'_succ] at hr
          cases hr
        · omega
      rw [hin, ← hlen, List.take_length] at hd'
      exact wpAny_pure (q h' hd' sb)
  unfold mergeMapping
  refine wpAny_bind (wpAny_isInstance ho.typeIs isSubtype_dict_dict ?_)
  rw [if_pos rfl]
  refine wpAny_bind (wpAny_specialOf ho.typeIs PySem.F.slot_dict_iter.lookup (wpAny_bind (wpAny_pure ?_)))
  rw [show (some (Value.builtin "dict.__iter__") == some (Value.builtin "dict.__iter__")) = true from by decide]
  dsimp only
  rw [if_neg (by rw [oS]; exact Bool.false_ne_true)]
  refine wpAny_bind (wpAny_dictEntries god dod ?_)
  split
  · refine wpAny_bind (wpAny_dictEntries goo doo (wpAny_bind ?_))
    rw [← Array.forIn_toList]
    refine wpAny_forIn_list _ (fun rest _ s' => s' = s ∧ ∀ e ∈ rest, ∀ a, e.key ≠ .ref a) _ ?_ ?_ _ _ ⟨rfl, fun e he => ?_⟩
    · rintro e rest b s' ⟨rfl, hr⟩
      have h0 := hr e List.mem_cons_self
      cases hk : e.key with
      | ref a => exact absurd hk (h0 a)
      | _ => exact wpAny_pure ⟨rfl, fun e' he' => hr e' (List.mem_cons_of_mem _ he')⟩
    · rintro b s' ⟨rfl, _⟩
      exact loop
    · obtain ⟨k', hk', _⟩ := koo e (Array.mem_toList_iff.mp he)
      exact key_flat hk'
  · exact loop
end
end Dm
namespace Dm
open PySem PySem.Spec PyProof.Rows L2
section
variable {X : Cx} {pos : Pos} {e k v : Expr} {te tk tv : TE}
theorem there_of {P : Program} {w : World} {h : Heap} {d : Addr} {vs : List (Key × Value)} (dd : h.DictOf (mixKind P w) d vs) : ∃ q, h.get? d = some q := let ⟨q, _, _, hq, _⟩ := dd; ⟨q, hq⟩
/-- all of the tracked dict o goes into the tracked dict d -/
theorem merge_inv {pins : List (Addr × Obj)} {σ : L2.St} {H : Hp} {s : Shared} {A : Around} {E : Value → Shared → Prop} {d o : Addr} {ks more : List (Key × V)} {Q : Unit → Shared → Prop} (I : Inv X pins σ H s) (hd : H d = some (.dK ks)) (ho : H o = some (.dK more)) (ne : d ≠ o) (hz : ks.length + more.length ≤ sizeLine)
    (q : ∀ s', Inv X pins σ (upd H d (.dK (mergeK ks more))) s' → Q () s') : wpAny (model X.prog X.w) A (mergeMapping d (.ref o) false) Q E s := by
  obtain ⟨z1, n1, vs1, r1, d1⟩ := dk_of I.hok hd
  obtain ⟨z2, n2, vs2, r2, d2⟩ := dk_of I.hok ho
  have l1 : ks.length = vs1.length := r1.length
  have l2 : more.length = vs2.length := r2.length
  refine merge_at ne n2 d1 d2 (by omega) fun h' dd sb => q _ ?_
  have lm := length_mergeK more ks
  exact d_write I (by rw [hd]; exact True.intro) sb (there_of dd) (dk_new (by omega) n1 (r2.merge r1) dd)
def tDs (te tk tv : TE) : TE := fun σ H Q => ∀ d, H d = none → te σ (upd H d (.dK [])) fun x H1 => ∃ o kvs, x = .ref o ∧ H1 d = some (.dK []) ∧ H1 o = some (.dK kvs) ∧ d ≠ o ∧ kvs.length ≤ 1000 ∧
  ∀ b, H1 b = none → tPairs [(tk, tv)] σ (upd (upd H1 d (.dK (mergeK [] kvs))) b (.dK [])) fun ps H2 => ∃ key z, ps = [(kV key, z)] ∧ H2 b = some (.dK []) ∧ H2 d = some (.dK (mergeK [] kvs)) ∧ Q (.ref d) (upd (upd H2 b (.dK [(key, z)])) d (.dK (putK (mergeK [] kvs) key z)))
/-- {**e, k: v} -/
theorem pe_ds (he : PE X e te) (hk : PE X k tk) (hv : PE X v tv) : PE X (.Dict [none, some k] [e, v] pos) (tDs te tk tv) := by
  refine ⟨fun pins s σ H Q I q => ?_⟩
  have hpp := pps_cons (pos := pos) hk hv pps_nil
  rw [arm_eval_Dict]
  refine wpAny_bind (wpAny_standAt ?_)
  show wpAny _ _ (dictDisplay [(none, do let x ← eval e X.env; standAt pos; pure x), (some (eval k X.env), do let x ← eval v X.env; standAt pos; pure x)]) _ _ s
  unfold dictDisplay
  simp only [List.forIn_cons, List.forIn_nil, List.isEmpty_nil, if_true, pure_bind, bind_assoc]
  have hn := I.hok.fresh (Nat.le_refl s.heap.objs.size)
  have I1 := I.laid (a := s.heap.objs.size) (o := .dK []) (h' := s.heap.push { cls := .type "dict", data := .dict #[] }) (t' := s.toks) (fun _ _ q => Heap.get?_push_of_some _ q) (Nat.le_refl _) (dk_empty s.heap I.big)
  refine wpAny_bind (wpAny_alloc ?_)
  refine wpAny_bind (wpAny_holding (wpAny_bind (thn (he.run pins _ σ _ _ I1 (q _ hn)) fun u s1 ⟨x, H1, I2, rx, o, kvs, ex, hd, ho, ne, hz, q2⟩ => wpAny_bind (wpAny_standAt (wpAny_pure ?_)))))
  subst ex
  obtain rfl : u = Value.ref o := rx
  refine wpAny_bind (wpAny_onRaise (wpAny_tryCatch (wpAny_onRaise (wpAny_holding (merge_inv I2 hd ho ne (by rw [List.length_nil, sizeLine_eq]; omega) fun s2 I3 => ?_)))))
  rw [if_neg (by simp)]
  refine wpAny_bind (wpAny_pure ?_)
  dsimp only
  refine wpAny_bind (wpAny_pure ?_)
  dsimp only
  rw [if_neg (by simp)]
  have hb := I3.hok.fresh (Nat.le_refl s2.heap.objs.size)
  have hb1 : H1 s2.heap.objs.size = none := by
    by_cases c : s2.heap.objs.size = s.heap.objs.size
    · rw [c, upd_same] at hb
      cases hb
    · rw [upd_ne c] at hb
      exact hb
  have I4 := I3.laid (a := s2.heap.objs.size) (o := .dK []) (h' := s2.heap.push { cls := .type "dict", data := .dict #[] }) (t' := s2.toks) (fun _ _ q => Heap.get?_push_of_some _ q) (Nat.le_refl _) (dk_empty s2.heap I3.big)
  refine wpAny_bind (wpAny_bind (wpAny_holding (wpAny_subDict (knd := mixKind X.prog X.w) (by simp) ?_)))
  refine thn (hpp.run pins _ σ _ _ I4 (q2 _ hb1)) fun ws s3 ⟨ps, H3, I5, rel, q3⟩ => ?_
  obtain ⟨key, z, rfl, hb3, hd3, q4⟩ := q3
  obtain ⟨rs, c, rk⟩ := carries_of (P := X.prog) (w := X.w) (kvs := [(key, z)]) rel
  obtain ⟨_, nb, vs0, r0, dd⟩ := dk_of I5.hok hb3
  cases r0
  refine ⟨rs, c, dd, fun h' dd' sb => ?_⟩
  have I6 : Inv X pins σ (upd H3 s2.heap.objs.size (.dK [(key, z)])) { s3 with heap := h', toks := s3.toks + ws.length } :=
    d_write I5 (by rw [hb3]; exact True.intro) sb (there_of dd') (dk_new (by show 1 ≤ sizeLine; decide) nb (KV.merge rk .nil) dd')
  have nbd : s.heap.objs.size ≠ s2.heap.objs.size := fun e => by
    rw [← e, hd] at hb1
    cases hb1
  have lm := length_mergeK kvs []
  rw [List.length_nil] at lm
  refine wpAny_bind (wpAny_onRaise (wpAny_holding (merge_inv I6 (by rw [upd_ne nbd]; exact hd3) upd_same nbd (by rw [List.length_singleton, sizeLine_eq]; omega) fun s4 I7 => wpAny_bind (wpAny_pure ?_))))
  exact wpAny_pure (wpAny_pure ⟨.ref s.heap.objs.size, _, I7, rfl, q4⟩)
/-- d.update(e), both tracked dicts -/
def rDUpd : V → List V → Hp → VK → Prop := fun x vs H Q => ∃ d o ks more, x = .ref d ∧ vs = [.ref o] ∧ H d = some (.dK ks) ∧ H o = some (.dK more) ∧ d ≠ o ∧ ks.length + more.length ≤ sizeLine ∧ Q .non (upd H d (.dK (mergeK ks more)))
theorem mt_dupd : MtR X "dict.update" rDUpd := by
  intro pins s σ H x vs v us Q I rx rxs h
  obtain ⟨d, o, ks, more, rfl, rfl, hd, ho, ne, hz, q⟩ := h
  obtain rfl : v = Value.ref d := rx
  obtain rfl : us = [Value.ref o] := Vals.ref1 rxs
  obtain ⟨z1, n1, vs1, r1, d1⟩ := dk_of I.hok hd
  obtain ⟨z2, n2, vs2, r2, d2⟩ := dk_of I.hok ho
  have l1 : ks.length = vs1.length := r1.length
  have l2 : more.length = vs2.length := r2.length
  have lm := length_mergeK more ks
  refine call_meetsIn PySem.F.slot_dict_update d1.typeIs PySem.F.entry_dict_update (PySem.F.args_dict_update_2 _ _) (meets_dict_update (mixKind X.prog X.w) d o ne n2) ⟨vs1, vs2, d1, d2, by omega, fun h' dd _ sb => ?_⟩
  exact ⟨.non, _, d_write I (by rw [hd]; exact True.intro) sb (there_of dd) (dk_new (by omega) n1 (r2.merge r1) dd), rfl, q⟩
end
end Dm
namespace Dm
open PySem PySem.Spec PyProof.Rows L2
section
variable {P : Program} {w : World} {A : Around} {E : Value → Shared → Prop} {s : Shared}
theorem pair_key : ∀ {es : List DictEntry} {ks : List (Key × Value)}, Pairs (mixKind P w) es ks → ∀ e ∈ es, ∃ p ∈ ks, (mixKind P w).is p.1 e.key = true
  | _, _, .nil, _, h => nomatch h
  | _, _, .cons h1 _ t, e, h => by
    rcases List.mem_cons.mp h with rfl | h
    · exact ⟨_, List.mem_cons_self, h1⟩
    · obtain ⟨p, hp, q⟩ := pair_key t e h
      exact ⟨p, List.mem_cons_of_mem _ hp, q⟩
/-- one keyword is laid -/
theorem kw_at {d : Addr} {ks : List (Key × Value)} {x : Str} {v : Value} {Q : Unit → Shared → Prop} (hm : s.heap.DictOf (mixKind P w) d ks) (hn : Sum.inr x ∉ ks.map (·.1))
    (q : ∀ h' t', h'.DictOf (mixKind P w) d (ks ++ [(Sum.inr x, v)]) → Heap.SameBut d s.heap h' → Q () { s with heap := h', toks := t' }) : wpAny (model P w) A (nsSet d x v) Q E s := by
  obtain ⟨o, es, ep, ho, hc, hd, hko, hp, nd⟩ := hm
  obtain ⟨oc, od, dt, sl⟩ := o
  obtain ⟨c1, c2, c3⟩ := hc
  simp only at c1 c2 c3 hd
  subst c1 c2 c3 hd
  have noS : ∀ e ∈ es.toList, e.key.isStr x = false ∧ e.refKey = false := fun e he => by
    obtain ⟨p, hp', hk⟩ := pair_key hp e he
    rcases keyIs_shape (show keyIs p.1 e.key = true from hk) with ⟨i, t, e1, e2⟩ | ⟨y, t, e1, e2⟩
    · unfold DictEntry.refKey
      rw [e2]
      exact ⟨rfl, rfl⟩
    · unfold DictEntry.refKey
      rw [e2]
      refine ⟨?_, rfl⟩
      show (y == x) = false
      refine beq_eq_false_iff_ne.mpr fun z => hn (List.mem_map.mpr ⟨p, hp', ?_⟩)
      rw [e1, z]
  have a1 : es.toList.any (·.key.isStr x) = false := by
    rw [List.any_eq_false]
    exact fun e he => by rw [(noS e he).1]; exact Bool.false_ne_true
  have a2 : es.toList.any (·.refKey) = false := by
    rw [List.any_eq_false]
    exact fun e he => by rw [(noS e he).2]; exact Bool.false_ne_true
  have eo : ({ cls := .type "dict", dict := none, data := .dict es ep, slots := #[] } : Obj) = PySem.W.dictOf es.toList ep := rfl
  rw [eo] at ho
  unfold nsSet
  refine wpAny_bind (wpAny_bind (wpAny_askSetting (wpAny_pure (wpAny_bind (wpAny_mkText (wpAny_bind (wpAny_loadPart ho ?_)))))))
  dsimp only
  have c : aRefKeyMayBeTheName x es.toList.toArray = false := by
    rw [aRefKeyMayBeTheName_at, ← Array.any_toList, ← Array.any_toList]
    show (!es.toList.any (·.key.isStr x) && es.toList.any (·.refKey)) = false
    rw [a2, Bool.and_false]
  rw [c]
  show wpAny _ _ (updatePart d (some (.str x 0)) (Obj.putName x (PyData.keyHash w.params x) (.str x s.toks) v)) _ _ _
  have up := PySem.W.putName_dict x (PyData.keyHash w.params x) (.str x s.toks) v es.toList ep
  have pn : PySem.W.putN x es.toList ep = ep + 1 := by
    unfold PySem.W.putN
    rw [a1]
    rfl
  rw [PySem.W.putL_new fun e he => (noS e he).1, pn] at up
  refine wpAny_updatePart ho (q (s.heap.update d (Obj.putName x (PyData.keyHash w.params x) (.str x s.toks) v)) (s.toks + 1) ?_ (Heap.SameBut.update ..))
  refine ⟨_, (es.toList ++ ([⟨PyData.keyHash w.params x, .str x s.toks, v⟩] : List DictEntry)).toArray, ep + 1, (Heap.get?_update_self _ ho (by rw [up]; rfl)).trans (by rw [up]), ⟨rfl, rfl, rfl⟩, rfl, ?_, ?_, ?_⟩
  · intro e he
    rw [List.mem_toArray, List.mem_append, List.mem_singleton] at he
    rcases he with he | rfl
    · exact hko e (Array.mem_toList_iff.mp he)
    · exact ⟨Sum.inr x, by show keyIs (Sum.inr x) (Value.str x s.toks) = true; exact by simp [keyIs, Value.isStrOf], rfl⟩
  · exact hp.append (by show keyIs (Sum.inr x) (Value.str x s.toks) = true; simp [keyIs, Value.isStrOf]) _ _
  · rw [List.map_append, List.nodup_append]
    refine ⟨nd, by simp, fun a ha b hb => ?_⟩
    rw [List.map_cons, List.map_nil, List.mem_singleton] at hb
    rw [hb]
    exact fun e => hn (by rw [e] at ha; exact ha)
theorem kws_at {d : Addr} {Q : PUnit → Shared → Prop} : ∀ (ex : List (Str × Value)) (s : Shared) (ks : List (Key × Value)), s.heap.DictOf (mixKind P w) d ks → (ex.map (·.1)).Nodup → (∀ p ∈ ex, Sum.inr p.1 ∉ ks.map (·.1)) →
    (∀ h' t', h'.DictOf (mixKind P w) d (ks ++ ex.map fun p => (Sum.inr p.1, p.2)) → Heap.SameBut d s.heap h' → Q ⟨⟩ { s with heap := h', toks := t' }) →
    wpAny (model P w) A (forIn ex PUnit.unit fun x _ => (nsSet d x.1 x.2 >>= fun _ => pure (ForInStep.yield PUnit.unit))) Q E s
  | [], s, ks, hm, _, _, q => by
    rw [List.forIn_nil]
    rw [List.map_nil, List.append_nil] at q
    exact wpAny_pure (q s.heap s.toks hm (Heap.SameBut.refl ..))
  | x :: r, s, ks, hm, nd, hn, q => by
    obtain ⟨n1, n2⟩ := List.nodup_cons.mp (show (x.1 :: r.map (·.1)).Nodup from nd)
    rw [List.forIn_cons]
    refine wpAny_bind (wpAny_bind (kw_at hm (hn x List.mem_cons_self) fun h' t' hm' sb => wpAny_pure ?_))
    refine kws_at r _ (ks ++ [(Sum.inr x.1, x.2)]) hm' n2 (fun p hp => ?_) fun h2 t2 hm2 sb2 => ?_
    · rw [List.map_append, List.mem_append, not_or]
      refine ⟨hn p (List.mem_cons_of_mem _ hp), ?_⟩
      rw [List.map_cons, List.map_nil, List.mem_singleton]
      exact fun e => n1 (by rw [← Sum.inr.inj e]; exact List.mem_map_of_mem hp)
    · rw [List.append_assoc] at hm2
      exact q h2 t2 hm2 (sb.trans sb2)
end
theorem env0_more {P : Program} {w : World} {K : PySem.W.Frag} {mg : Str → Option Value} {base : Heap} {A : Around} {outer : List Env} {s : Shared} {H : Hp} {h' : Heap} {t' : Nat} {a : Addr} {u : HO} (e0 : Env0 P w K mg base A outer s H) (kp : ∀ b x, s.heap.get? b = some x → h'.get? b = some x)
    (hz : s.heap.objs.size ≤ h'.objs.size) (ha : s.heap.objs.size ≤ a) (new : ObjOk P w (upd H a u) h' a u) : Env0 P w K mg base A outer { s with heap := h', toks := t' } (upd H a u) := by
  have nb : ∀ {b : Addr} {x : Obj}, s.heap.get? b = some x → b ≠ a := fun e => Nat.ne_of_lt (Nat.lt_of_lt_of_le (Heap.lt_size e) ha)
  refine ⟨e0.frames, e0.mod, fun b x e => ⟨kp b x (e0.bs b x e).1, ?_⟩, Nat.le_trans e0.bsz hz, Heap.FunFrames.of_keeps (fun b x e _ => ⟨x, kp b x e, rfl⟩) e0.funs, fun b hb => ?_, e0.hok.laid kp ha new, e0.bare⟩
  · rw [upd_ne (nb (e0.bs b x e).1)]
    exact (e0.bs b x e).2
  · obtain ⟨_, x, hx, _⟩ := e0.funs.mem hb
    rw [upd_ne (nb hx)]
    exact e0.frf b hb
/-- def m(self, *v, **d), called with keywords: the rest is a new tuple, the keywords a new dict -/
def FnW (P : Program) (w : World) (K : PySem.W.Frag) (mg : Str → Option Value) (base : Heap) (CX : CXT) (k : Nat) (f : Addr) (sp : Sp) (ks : List Str) : Prop :=
  ∀ (A : Around) (outer : List Env) (s : Shared) (H : Hp) (u : Value) (us ws : List Value) (x : V) (vs zs : List V) (Q : VK) (E : XK), Room k A → Env0 P w K mg base A outer s H → RelV x u → Vals vs us → Vals zs ws → zs.length = ks.length → vs.length ≤ sizeLine →
    (∀ p d, H p = none → H d = none → d ≠ p → sp [x, .ref p, .ref d] (upd (upd H p (.tup vs)) d (.dK ((ks.zip zs).map fun q => (Sum.inr q.1, q.2)))) Q E) → codeAny (model P w) A (.call (.ref f) ⟨u :: us, ks.zip ws⟩) (CR CX outer P w H s Q E) s
theorem kv_zip : ∀ {ks : List Str} {zs : List V} {ws : List Value}, Vals zs ws → zs.length = ks.length → KV ((ks.zip zs).map fun q => ((Sum.inr q.1 : Key), q.2)) ((ks.zip ws).map fun p => ((Sum.inr p.1 : Key), p.2))
  | [], _, _, _, _ => .nil
  | k :: ks, [], _, _, h => by cases h
  | k :: ks, z :: zs, _, .cons r t, h => .cons ⟨rfl, r⟩ (kv_zip t (Nat.succ.inj h))
theorem zip_keys : ∀ {ks : List Str} {ws : List Value}, ws.length = ks.length → (ks.zip ws).map (·.1) = ks
  | [], _, _ => rfl
  | k :: ks, [], h => by cases h
  | k :: ks, w :: ws, h => by rw [List.zip_cons_cons, List.map_cons, zip_keys (Nat.succ.inj h)]
section
variable {CX : CXT} {P : Program} {w : World} {K : PySem.W.Frag} {mg : Str → Option Value} {base : Heap} {k : Nat} {f : Addr} {name qual : Str} {params : Arguments} {body : List Stmt} {scope : Scope} {dV kV doc pm cdv ct oc : Value} {an od : Option Addr}
  {osl : Array (Option Value)} {N : List Str} {sp : Sp} {p0 pv pd : Str} {ks : List Str}
theorem fn_kw (lk : K.lookup f = some ⟨oc, od, .func (PySem.W.fnOf name qual params body scope dV kV doc pm an cdv ct), osl⟩) (hcd : PySem.W.codeIn K cdv qual = true) (S : FnScope N [p0, pv, pd] scope) (hCX : StX.CXUp CX) (nd : ks.Nodup) (hl : ks.length ≤ 1000)
    (hb : ∀ (u : Value) (us ws : List Value), ws.length = ks.length → bindArgs (PySem.W.fnOf name qual params body scope dV kV doc pm an cdv ct) ⟨u :: us, ks.zip ws⟩ =
      (newTuple us >>= fun t => (alloc ({ cls := .type "dict", data := .dict #[] } : Obj) : Sem Addr) >>= fun d => (forIn (ks.zip ws) PUnit.unit fun x _ => (nsSet d x.1 x.2 >>= fun _ => pure (ForInStep.yield PUnit.unit))) >>= fun _ => pure [(p0, u), (pv, t), (pd, Value.ref d)]))
    (hbody : ∀ (A : Around) (outer : List Env) (s : Shared) (H : Hp) (vs : List V) (Q : VK) (E : XK), Room k (A.deeper (envOfC qual scope s.heap.objs.size f cdv)) → sp vs H Q E →
      ∃ t, PSs (cxOf CX P w K mg base N qual scope f cdv A outer s H E) body t ∧ t { nx := fun _ H' => Q .non H', rt := Q } (start N vs) H) : FnW P w K mg base CX (k + 1) f sp ks := by
  intro A outer s H u us ws x vs zs Q E hr e0 rx r rz hz hv hsp
  have hn : H s.heap.objs.size = none := e0.hok.fresh (Nat.le_refl _)
  have hlw : ws.length = ks.length := rz.length.symm.trans hz
  have hlu : us.length ≤ sizeLine := by rw [← r.length]; exact hv
  refine StX.run_bnd (ps := [p0, pv, pd]) lk hcd S hr e0 (G := fun ys H2 => ∃ p d, H p = none ∧ H d = none ∧ d ≠ p ∧ ys = [x, .ref p, .ref d] ∧ H2 = upd (upd H p (.tup vs)) d (.dK ((ks.zip zs).map fun q => (Sum.inr q.1, q.2)))) (fun A' Ex Q' h => ?_) fun s2 H2 ys ⟨p, d, hp, hd, hne, ey, eH⟩ hr' => ?_
  · rw [hb u us ws hlw]
    refine wpAny_bind (wpAny_newTuple (wpAny_bind (wpAny_alloc (wpAny_bind ?_))) hlu)
    have new : ObjOk P w (upd H s.heap.objs.size (.tup vs)) (s.heap.push ({ cls := .type "tuple", data := .seq us.toArray } : Obj)) s.heap.objs.size (.tup vs) := ⟨hv, us, r, ⟨_, Heap.get?_push_size _ rfl, rfl, _, rfl⟩⟩
    have e1 := StX.env0_laid e0 new
    have un1 := StX.un_laid (fs := frs outer) (s := s) (o := ({ cls := .type "tuple", data := .seq us.toArray } : Obj)) (u := .tup vs) hn
    have sz : (s.heap.push ({ cls := .type "tuple", data := .seq us.toArray } : Obj)).objs.size = s.heap.objs.size + 1 := Heap.size_push _ _
    have ne : (s.heap.push ({ cls := .type "tuple", data := .seq us.toArray } : Obj)).objs.size ≠ s.heap.objs.size := by
      rw [sz]
      exact Nat.succ_ne_self _
    have hd : H (s.heap.push ({ cls := .type "tuple", data := .seq us.toArray } : Obj)).objs.size = none := e0.hok.fresh (by rw [sz]; exact Nat.le_succ _)
    have hd2 : (upd H s.heap.objs.size (.tup vs)) (s.heap.push ({ cls := .type "tuple", data := .seq us.toArray } : Obj)).objs.size = none := by rw [upd_ne ne]; exact hd
    have big : sysModules < (s.heap.push ({ cls := .type "tuple", data := .seq us.toArray } : Obj)).objs.size := StX.env0_big e1
    refine kws_at (ks.zip ws) _ [] (Heap.DictOf.new _) (by rw [zip_keys hlw]; exact nd) (fun _ _ h => nomatch h) fun h' t' hm sb => wpAny_pure ?_
    rw [List.nil_append] at hm
    have kp : ∀ b o, (s.heap.push ({ cls := .type "tuple", data := .seq us.toArray } : Obj)).get? b = some o → h'.get? b = some o := fun b o e => (sb.2 b (Nat.ne_of_lt (Heap.lt_size e))).trans (Heap.get?_push_of_some _ e)
    obtain ⟨od', hod'⟩ := there_of hm
    have hz' : (s.heap.push ({ cls := .type "tuple", data := .seq us.toArray } : Obj)).objs.size ≤ h'.objs.size := Nat.le_of_lt (Heap.lt_size hod')
    have lz : ((ks.zip zs).map fun q => ((Sum.inr q.1 : Key), q.2)).length ≤ sizeLine := by
      rw [List.length_map, List.length_zip, sizeLine_eq]
      omega
    have new2 := dk_new (H' := upd (upd H s.heap.objs.size (.tup vs)) (s.heap.push ({ cls := .type "tuple", data := .seq us.toArray } : Obj)).objs.size (.dK ((ks.zip zs).map fun q => (Sum.inr q.1, q.2)))) lz (beq_eq_false_iff_ne.mpr (Ne.symm (Nat.ne_of_lt big))) (kv_zip rz hz) hm
    have e2 := env0_more (t' := t') e1 kp hz' (Nat.le_refl _) new2
    have un2 := un1.trans (Un.laid (fs := frs outer) (ex := []) (o := .dK ((ks.zip zs).map fun q => (Sum.inr q.1, q.2))) kp (Nat.le_refl _) hd2)
    exact h _ _ [x, V.ref s.heap.objs.size, V.ref (s.heap.push ({ cls := .type "tuple", data := .seq us.toArray } : Obj)).objs.size] [u, Value.ref s.heap.objs.size, Value.ref (s.heap.push ({ cls := .type "tuple", data := .seq us.toArray } : Obj)).objs.size] e2 un2 rfl
      (fun e s' => hCX outer s H _ _ E e s' un2 (fun b o q => kp b o (Heap.get?_push_of_some _ q)) rfl) (.cons rx (.cons rfl (.cons rfl .nil))) rfl ⟨_, _, hn, hd, ne, rfl, rfl⟩
  · subst ey eH
    exact hbody A outer s2 _ _ Q E hr' (hsp p d hp hd hne)
end
end Dm
namespace Dm
open PySem PySem.Spec PyProof.Rows L2
/-- o.m(e, .., k = v, ..), m with a star and two stars -/
structure MetW (P : Program) (w : World) (K : PySem.W.Frag) (mg : Str → Option Value) (base : Heap) (k : Nat) (C : Addr) (m : Str) (sp : Sp) (ks : List Str) : Prop where
  ex : ∃ f : Addr, Cls K C ∧ Meth K C m f ∧ FnW P w K mg base C8.CX0 k f sp ks
def tMethW (C : Addr) (m : Str) (sp : Sp) (ks : List Str) (ta : TE) (t tk : TA) : TE := fun σ H Q => ta σ H fun x H1 => ∃ a dx fs, x = .ref a ∧ H1 a = some (.ins C dx fs) ∧ fs.lookup m = none ∧ t σ H1 fun vs H2 => tk σ H2 fun zs H3 => zs.length = ks.length ∧ vs.length ≤ sizeLine ∧
  ∀ p d, H3 p = none → H3 d = none → d ≠ p → sp [x, .ref p, .ref d] (upd (upd H3 p (.tup vs)) d (.dK ((ks.zip zs).map fun q => (Sum.inr q.1, q.2)))) Q C8.E0
section
variable {X : Cx} {k j : Nat} {C : Addr} {m : Str} {sp : Sp} {ks : List Str} {o e : Expr} {es : List Expr} {kws : List Keyword} {ta : TE} {t tk : TA} {apos pos : Pos}
theorem run_fnW {pins : List (Addr × Obj)} {σ : L2.St} {H : Hp} {s : Shared} {f : Addr} {Q : VK} {u : Value} {us ws : List Value} {x : V} {vs zs : List V} (F : FnW X.prog X.w X.K X.mg X.base C8.CX0 k f sp ks) (hr : Room k X.A) (I : Inv X pins σ H s) (rx : RelV x u) (r : Vals vs us) (rz : Vals zs ws) (hz : zs.length = ks.length) (hv : vs.length ≤ sizeLine)
    (h : ∀ p d, H p = none → H d = none → d ≠ p → sp [x, .ref p, .ref d] (upd (upd H p (.tup vs)) d (.dK ((ks.zip zs).map fun q => (Sum.inr q.1, q.2)))) Q C8.E0) :
    wpAny (model X.prog X.w) X.A (call (.ref f) (u :: us) (ks.zip ws)) (EP X pins σ Q) X.xe s := by
  refine wpAny_call (codeAny_mono (F X.A X.stack s H u us ws x vs zs Q C8.E0 hr I.env0 rx r rz hz hv h) fun r s' hq => ?_)
  cases r with
  | error er => exact (C8.pass0 (E := C8.E0)) pins σ H s er s' I hq
  | ok fl =>
    cases fl with
    | ret v => exact I.after hq
    | next => exact False.elim hq
    | brk => exact False.elim hq
    | cont => exact False.elim hq
theorem pe_mtw {pl : Sem Bool} (c : MetW X.prog X.w X.K X.mg X.base k C m sp ks) (hr : Room j X.A) (hk : k ≤ j) (he : PE X o ta) (ha : PA X (e :: es) t) (hkw : PK X kws tk)
    (hall : (backToKw pos (keywordEach kws X.env)).all (·.1.isSome) = true := by rfl) (hks : (backToKw pos (keywordEach kws X.env)).filterMap (·.1) = ks := by rfl)
    (hst : starEach (e :: es) X.env = (false, eval e X.env) :: starEach es X.env := by rfl) (hpl : ((backTo pos (starEach (e :: es) X.env)).any (·.1) || (backToKw pos (keywordEach kws X.env)).any (·.1.isNone)) = false := by rfl)
    (ht : eval (.Call (.Attribute o m apos) (e :: es) kws pos) X.env = (do
      let ov ← eval o X.env
      standAt apos.atName
      let (f, first) ← holding [ov] (getMethod ov m pl)
      callWith pos f first (backTo pos (starEach (e :: es) X.env)) (backToKw pos (keywordEach kws X.env))) := by rfl) : PE X (.Call (.Attribute o m apos) (e :: es) kws pos) (tMethW C m sp ks ta t tk) := by
  obtain ⟨f, c1, hm, F⟩ := c.ex
  refine ⟨fun pins s σ H Q I h => ?_⟩
  refine PySem.W.methodCall_KW (pl := pl) (thn (he.run pins s σ H _ I h) fun u s1 ⟨x, H1, I1, rx, a, dx, fs, ex, ea, l, q⟩ => ?_) ht
  subst ex
  obtain rfl : u = Value.ref a := rx
  refine getmeth_ok I1 ea c1 hm l ?_
  refine PySem.W.callWith_KW (first := [.ref a]) (h₀ := X.base) I.ok.mod.kin hm.kp hall (thn (ha.run pos pins s1 σ H1 _ I1 q) fun us s2 ⟨vs, H2, I2, r, q2⟩ => thn (hkw.run pos pins s2 σ H2 _ I2 q2) fun ws s3 ⟨zs, H3, I3, rz, hz, hv, q3⟩ => ⟨I3.kIn, ?_⟩) hpl hst
  rw [hks]
  exact run_fnW (x := .ref a) F (hr.mono hk) I3 rfl r rz hz hv q3
theorem pe_mtw0 {pl : Sem Bool} (c : MetW X.prog X.w X.K X.mg X.base k C m sp ks) (hr : Room j X.A) (hk : k ≤ j) (he : PE X o ta) (hkw : PK X kws tk)
    (hall : (backToKw pos (keywordEach kws X.env)).all (·.1.isSome) = true := by rfl) (hks : (backToKw pos (keywordEach kws X.env)).filterMap (·.1) = ks := by rfl)
    (hpl : ((backTo pos (starEach [] X.env)).any (·.1) || (backToKw pos (keywordEach kws X.env)).any (·.1.isNone)) = false := by rfl)
    (ht : eval (.Call (.Attribute o m apos) [] kws pos) X.env = (do
      let ov ← eval o X.env
      standAt apos.atName
      let (f, first) ← holding [ov] (getMethod ov m pl)
      callWith pos f first (backTo pos (starEach [] X.env)) (backToKw pos (keywordEach kws X.env))) := by rfl) : PE X (.Call (.Attribute o m apos) [] kws pos) (tMethW C m sp ks ta tNil tk) := by
  obtain ⟨f, c1, hm, F⟩ := c.ex
  refine ⟨fun pins s σ H Q I h => ?_⟩
  refine PySem.W.methodCall_KW (pl := pl) (thn (he.run pins s σ H _ I h) fun u s1 ⟨x, H1, I1, rx, a, dx, fs, ex, ea, l, q⟩ => ?_) ht
  subst ex
  obtain rfl : u = Value.ref a := rx
  refine getmeth_ok I1 ea c1 hm l ?_
  refine PySem.W.callWith_KW0 (first := [.ref a]) (h₀ := X.base) I.ok.mod.kin hm.kp hall (thn (hkw.run pos pins s1 σ H1 _ I1 q) fun ws s3 ⟨zs, H3, I3, rz, hz, hv, q3⟩ => ⟨I3.kIn, ?_⟩) hpl
  rw [hks]
  exact run_fnW (us := []) (vs := []) (x := .ref a) F (hr.mono hk) I3 rfl .nil rz hz hv q3
/-- over a list that stays -/
theorem dc_list {K : PySem.W.Frag} {a : Addr} {xs : List V} {g : TG} {tt : TT} {tk tv : TE} {vs : List Nat} {σ : L2.St} {H1 : Hp} {D : Addr} {Qd : Hp → Prop} (Pv : Nat → Hp → Prop) (h0 : Pv 0 (upd H1 D (.dK []))) (hl : ∀ i H, i ≤ xs.length → Pv i H → SqL K H a xs)
    (hs : ∀ i x H, xs[i]? = some x → Pv i H → g x (wipe σ vs) H fun σ2 H2 => wipe σ2 vs = wipe σ vs ∧ tt σ2 H2 fun b H3 =>
      if b = true then tk σ2 H3 fun y H4 => tv σ2 H4 fun z H5 => ∃ kvs k, y = kV k ∧ H5 D = some (.dK kvs) ∧ kvs.length < sizeLine ∧ Pv (i + 1) (upd H5 D (.dK (putK kvs k z))) else Pv (i + 1) H3) (hd : ∀ H, Pv xs.length H → Qd H) :
    ∃ W : Nat → Nat → Hp → Prop, (∃ m, W 0 m (upd H1 D (.dK []))) ∧ ∀ i m H, W i m H →
      ((Itl K a).stop i H ∧ Qd H) ∨ ((Itl K a).go i H ∧ ∃ Nx : Hp → Prop, (∀ H', Nx H' → ∃ m', m' < m ∧ W (i + 1) m' H') ∧ ∀ x H', (Itl K a).yld i H x H' → g x (wipe σ vs) H' fun σ2 H2 => wipe σ2 vs = wipe σ vs ∧ tt σ2 H2 fun b H3 =>
        if b = true then tk σ2 H3 fun y H4 => tv σ2 H4 fun z H5 => ∃ kvs k, y = kV k ∧ H5 D = some (.dK kvs) ∧ kvs.length < sizeLine ∧ Nx (upd H5 D (.dK (putK kvs k z))) else Nx H3) := by
  refine ⟨fun i m H => m + i = xs.length ∧ Pv i H, ⟨xs.length, by omega, h0⟩, fun i m H ⟨em, p⟩ => ?_⟩
  have q := hl i H (by omega) p
  cases m with
  | zero =>
    have e : i = xs.length := by omega
    rw [e] at p
    exact .inl ⟨by rw [e]; exact ⟨xs, q, Nat.le_refl _⟩, hd H p⟩
  | succ m =>
    have hlt : i < xs.length := by omega
    refine .inr ⟨⟨xs, xs[i], q, List.getElem?_eq_getElem hlt⟩, Pv (i + 1), fun H' p' => ⟨m, Nat.lt_succ_self m, by omega, p'⟩, fun x H' y => ?_⟩
    obtain ⟨e, y⟩ := y
    subst e
    exact hs i x _ (y xs q) p
/-- over the keys of a locked dict -/
theorem dc_keys {d : Addr} {o : Obj} {xs : List (Key × V)} {g : TG} {tt : TT} {tk tv : TE} {vs : List Nat} {σ : L2.St} {H1 : Hp} {D : Addr} {Qd : Hp → Prop} (Pv : Nat → Hp → Prop) (h0 : Pv 0 (upd H1 D (.dK []))) (hl : ∀ i H, Pv i H → H d = some (.frz o (.dK xs)))
    (hs : ∀ i k v H, xs[i]? = some (k, v) → Pv i H → g (kV k) (wipe σ vs) H fun σ2 H2 => wipe σ2 vs = wipe σ vs ∧ tt σ2 H2 fun b H3 =>
      if b = true then tk σ2 H3 fun y H4 => tv σ2 H4 fun z H5 => ∃ kvs k, y = kV k ∧ H5 D = some (.dK kvs) ∧ kvs.length < sizeLine ∧ Pv (i + 1) (upd H5 D (.dK (putK kvs k z))) else Pv (i + 1) H3) (hd : ∀ H, Pv xs.length H → Qd H) :
    ∃ W : Nat → Nat → Hp → Prop, (∃ m, W 0 m (upd H1 D (.dK []))) ∧ ∀ i m H, W i m H →
      ((Itk d o xs).stop i H ∧ Qd H) ∨ ((Itk d o xs).go i H ∧ ∃ Nx : Hp → Prop, (∀ H', Nx H' → ∃ m', m' < m ∧ W (i + 1) m' H') ∧ ∀ x H', (Itk d o xs).yld i H x H' → g x (wipe σ vs) H' fun σ2 H2 => wipe σ2 vs = wipe σ vs ∧ tt σ2 H2 fun b H3 =>
        if b = true then tk σ2 H3 fun y H4 => tv σ2 H4 fun z H5 => ∃ kvs k, y = kV k ∧ H5 D = some (.dK kvs) ∧ kvs.length < sizeLine ∧ Nx (upd H5 D (.dK (putK kvs k z))) else Nx H3) := by
  refine ⟨fun i m H => m + i = xs.length ∧ Pv i H, ⟨xs.length, by omega, h0⟩, fun i m H ⟨em, p⟩ => ?_⟩
  have q := hl i H p
  cases m with
  | zero =>
    have e : i = xs.length := by omega
    rw [e] at p
    exact .inl ⟨⟨q, by omega⟩, hd H p⟩
  | succ m =>
    refine .inr ⟨⟨q, by omega⟩, Pv (i + 1), fun H' p' => ⟨m, Nat.lt_succ_self m, by omega, p'⟩, fun x H' y => ?_⟩
    obtain ⟨rfl, k, v, e, rfl⟩ := y
    exact hs i k v _ e p
end
end Dm
/-! ### a dict comprehension that is bound to a local name at once -/
namespace Dm
open PySem PySem.Spec PyProof.Rows L2
section
variable {X : Cx}
/-- what stands within a comprehension's block -/
abbrev InBlk (X : Cx) (sc : Scope) (Pr : Cx → Prop) : Prop := ∀ (s : Shared) (H : Hp) (C : Addr) (cl : List (Str × Addr)) (fp : List Addr), Pr (X.blk s H sc (compEnvC sc cl C X.env) fp)
theorem sw_dict {kx vx : Expr} {gs : List Comprehension} {sc : Scope} {pos py : Pos} {y : Str} {l : Nat} {env : Env} (h1 : env.scope.kind = .function) (h2 : env.scope.names.lookup y = some .local) (h3 : (py.line == pos.line) = true)
    (h4 : (sc.names.any fun (n, k) => n == y && (k == .local || k == .cell)) = false) : swapsWith (.DictComp kx vx gs sc pos) (some (.Name y py)) l env = pure true := by
  have e1 : env.kindOf y = some .local := h2
  have e2 : env.blockKind = .function := by
    unfold Env.blockKind
    rw [h1]
    rfl
  unfold swapsWith
  simp only [Expr.pos, e1, e2, h3, h4]
  rfl
theorem ps_setDc {i : Nat} {y : Str} {py : Pos} {kx vx tg it : Expr} {cs : List Expr} {sc : Scope} {own : List (Str × Nat)} {pos sp : Pos} {wi : TI} {g : TG} {tt : TT} {tk tv : TE} (hc : X.calm = true) (nd : X.N.Nodup) (hy : X.N[i]? = some y) (hl : X.env.scope.names.lookup y = some .local)
    (sw : swapsWith (.DictComp kx vx [⟨tg, it, cs, 0⟩] sc pos) (some (.Name y py)) sp.line X.env = pure true) (hi : PI X tg it wi) (bo : BlkOk X.N X.env.scope sc own)
    (hg : InBlk X sc fun Y => PG Y tg g) (ht : InBlk X sc fun Y => PTs Y cs tt) (hk : InBlk X sc fun Y => PE Y kx tk) (hv : InBlk X sc fun Y => PE Y vx tv) (hf : ∀ x, foldedSetIterable it X.env x = pure x := by intro _; rfl) :
    PS X (.Assign [.Name y py] (.DictComp kx vx [⟨tg, it, cs, 0⟩] sc pos) sp) (tAsg (tDc wi g tt tk tv (own.map (·.2))) (gName i)) := by
  constructor
  intro pins s σ H D I h
  rw [exec_Assign_Name_used _ _ _ _ sw]
  refine wpAny_bind (wpAny_standAt (wpAny_bind ?_))
  show wpAny _ X.A (do
      let _ ← comprehension (.DictComp kx vx [⟨tg, it, cs, 0⟩] sc pos) sc X.env (firstIterPos [⟨tg, it, cs, 0⟩] pos) newDict false (eval it X.env) (some (assign (.Name y py) X.env))) _ _ s
  have h' : tDc wi g tt tk tv (own.map (·.2)) σ H fun x H1 => gName i x σ H1 D.nx := h
  refine wpAny_bind (thn (dc_core (Qf := fun _ z => SP X pins D .next z) hc nd I hi bo hg ht hk hv hf h' fun L C z m H1 I1 q hn f => ?_) fun _ z hq => wpAny_pure (wpAny_pure hq))
  show wpAny _ _ (assign (.Name y py) X.env (.ref L)) _ _ _
  refine wpAny_assign_Name (store_ok2 (v := V.ref L) I1 nd hy (.inl hl) rfl (fun z2 I2 ⟨a, sb, ha⟩ => ?_) (.inr hl))
  obtain ⟨g0, g1, g2, g3, g4, g5⟩ := f
  have ne : C ≠ a := ha.elim (fun e => e ▸ g1) fun e e2 => g4 y a e e2.symm
  exact ⟨m, hn.sameBut sb ne, fun z3 sb3 => ⟨_, H1, I2.turned (t' := z2.toks) (fun b o hb e => (sb3.2 b hb).trans e) g0 g1 g3 g4 g5, q⟩⟩
end
end Dm
namespace Bs
open PySem PySem.Spec PyProof.Rows L2 SX
variable {P : Program} {w : World} {K : PySem.W.Frag} {mg : Str → Option Value} {base : Heap}
/-! ### a step: its word, its columns, its measures, how deep its columns are -/
structure Stp where
  kd : List Nat
  cs : List (List Nat)
  ms : List (List Nat)
  ds : List (List Nat × Nat)
abbrev dV (ds : List (List Nat × Nat)) : List (Key × V) := ds.map fun p => (Sum.inr (S p.1), .int (p.2 : Nat))
structure OkS (st : Stp) : Prop where
  nd : st.cs.Nodup
  ln : st.cs.length ≤ 60
  ms : ∀ c ∈ st.ms, c ∈ st.cs
  nm : st.ms.Nodup
  dp : ∀ c ∈ st.cs, c ∉ st.ms → ∃ n, st.ds.lookup c = some n ∧ n ≤ 3
  dn : (st.ds.map (·.1)).Nodup
  dl : st.ds.length ≤ 60
  nc : ∀ c ∈ st.cs, Nm c
  dk : ∀ c ∈ st.ds.map (·.1), c ∈ st.cs
/-- the fields of a step -/
def stf (kd : List Nat) (i c m d : Addr) (t nm nw : V) (na pa su : Addr) : List (Str × V) :=
  putF "sums" (.ref su) (putF "pairs" (.ref pa) (putF "named" (.ref na) (putF "new" nw (putF "name" nm (putF "table" t (putF "depths" (.ref d) (putF "measures" (.ref m) (putF "columns" (.ref c) (putF "inputs" (.ref i) (putF "kind" (.str (S kd)) []))))))))))
abbrev stN : List Str := ["kind", "inputs", "columns", "measures", "depths", "table", "name", "new", "named", "pairs", "sums"]
theorem stf_no {kd : List Nat} {i c m d : Addr} {t nm nw : V} {na pa su : Addr} {x : Str} (h : x ∉ stN) : (stf kd i c m d t nm nw na pa su).lookup x = none := by
  simp only [List.mem_cons, List.mem_nil_iff, or_false, not_or] at h
  obtain ⟨h1, h2, h3, h4, h5, h6, h7, h8, h9, h10, h11⟩ := h
  unfold stf
  rw [lookup_putF, if_neg h11, lookup_putF, if_neg h10, lookup_putF, if_neg h9, lookup_putF, if_neg h8, lookup_putF, if_neg h7, lookup_putF, if_neg h6, lookup_putF, if_neg h5, lookup_putF, if_neg h4, lookup_putF, if_neg h3, lookup_putF, if_neg h2, lookup_putF, if_neg h1]
  rfl
structure SFl (fs : List (Str × V)) (kd : List Nat) (i c m d : Addr) : Prop where
  k : fs.lookup ("kind" : Str) = some (.str (S kd))
  i : fs.lookup ("inputs" : Str) = some (.ref i)
  c : fs.lookup ("columns" : Str) = some (.ref c)
  m : fs.lookup ("measures" : Str) = some (.ref m)
  d : fs.lookup ("depths" : Str) = some (.ref d)
  no : ∀ x, x ∉ stN → fs.lookup x = none
theorem stf_fl {kd : List Nat} {i c m d : Addr} {t nm nw : V} {na pa su : Addr} : SFl (stf kd i c m d t nm nw na pa su) kd i c m d := by
  refine ⟨?_, ?_, ?_, ?_, ?_, fun x h => stf_no h⟩
  all_goals
    unfold stf
    repeat (first | rw [lookup_putF, if_pos rfl] | rw [lookup_putF, if_neg (by decide +kernel)])
/-- a step that stands and never changes; ins: what its inputs are -/
structure StAt (K : PySem.W.Frag) (C : Addr) (G : Hp) (a : Addr) (st : Stp) (ins : List V) : Prop where
  ex : ∃ (dx i c m d : Addr) (fs : List (Str × V)), G a = some (.ins C dx fs) ∧ SFl fs st.kd i c m d ∧ G i = some (.tup ins) ∧ G c = some (.lst (sV st.cs)) ∧ G m = some (.lst (sV st.ms)) ∧ G d = some (.dK (dV st.ds))
theorem StAt.same {C : Addr} {G H : Hp} {a : Addr} {st : Stp} {ins : List V} (h : StAt K C G a st ins) (s : Same G H) : StAt K C H a st ins := by
  obtain ⟨dx, i, c, m, d, fs, h1, h2, h3, h4, h5, h6⟩ := h.ex
  exact ⟨dx, i, c, m, d, fs, s _ _ h1, h2, s _ _ h3, s _ _ h4, s _ _ h5, s _ _ h6⟩
theorem dV_len (ds : List (List Nat × Nat)) : (dV ds).length = ds.length := List.length_map _
theorem dV_get : ∀ {ds : List (List Nat × Nat)} {c : List Nat} {n : Nat}, ds.lookup c = some n → valV (dV ds) (Sum.inr (S c)) = some (.int (n : Nat))
  | [], _, _, h => by cases h
  | (k, m) :: r, c, n, h => by
    show valV ((Sum.inr (S k), V.int (m : Nat)) :: dV r) _ = _
    by_cases e : c = k
    · subst e
      rw [List.lookup_cons, beq_self_eq_true] at h
      cases h
      exact valV_pos rfl
    · rw [List.lookup_cons, beq_false_of_ne e] at h
      rw [valV_neg fun z => e (S_inj (Sum.inr.inj z)).symm]
      exact dV_get h
theorem dV_at {ds : List (List Nat × Nat)} {i : Nat} {k : Key} {v : V} (h : (dV ds)[i]? = some (k, v)) : ∃ c n, ds[i]? = some (c, n) ∧ k = Sum.inr (S c) ∧ v = .int (n : Nat) := by
  rw [List.getElem?_map] at h
  cases e : ds[i]? with
  | none => rw [e] at h; cases h
  | some p =>
    rw [e] at h
    obtain ⟨h1, h2⟩ := Prod.mk.inj (Option.some.inj h)
    exact ⟨p.1, p.2, rfl, h1.symm, h2.symm⟩
theorem dV_take {ds : List (List Nat × Nat)} {i : Nat} {c : List Nat} {n : Nat} (h : ds[i]? = some (c, n)) (nd : (ds.map (·.1)).Nodup) : putK (dV (ds.take i)) (Sum.inr (S c)) (.int (n : Nat)) = dV (ds.take (i + 1)) := by
  have e : ds.take (i + 1) = ds.take i ++ [(c, n)] := by rw [List.take_succ, h]; rfl
  have nv : valV (dV (ds.take i)) (Sum.inr (S c)) = none := by
    have hn : (((ds.take (i + 1)).map (·.1))).Nodup := by
      rw [List.map_take]
      exact nd.sublist (List.take_sublist _ _)
    rw [e, List.map_append, List.nodup_append] at hn
    have hno : c ∉ (ds.take i).map (·.1) := fun z => hn.2.2 _ z _ (by simp) rfl
    clear hn e h nd
    generalize ds.take i = xs at hno ⊢
    induction xs with
    | nil => rfl
    | cons p r ih =>
      rw [List.map_cons, List.mem_cons, not_or] at hno
      show valV ((Sum.inr (S p.1), V.int (p.2 : Nat)) :: dV r) _ = none
      rw [valV_neg fun z => hno.1 (S_inj (Sum.inr.inj z)).symm]
      exact ih hno.2
  rw [putK_new _ nv, e]
  simp
end Bs
namespace Bs
open PySem PySem.Spec PyProof.Rows L2 SX
variable {P : Program} {w : World} {K : PySem.W.Frag} {mg : Str → Option Value} {base : Heap}
def spSInit (K : PySem.W.Frag) (C : Addr) : Sp := fun vs H Q _ => ∃ (G : Hp) (p dx ia ca ma da na pa su : Addr) (st : Stp) (ins nl pl ul : List V) (t : V) (nm nw : Str), vs = [.ref p, .str (S st.kd), .ref ia, .ref ca, .ref ma, .ref da, t, .str nm, .str nw, .ref na, .ref pa, .ref su] ∧ Same G H ∧ G p = none ∧ H p = some (.ins C dx []) ∧
  G ia = some (.tup ins) ∧ Sq K H ca (sV st.cs) ∧ SqL K H ma (sV st.ms) ∧ H da = some (.dK (dV st.ds)) ∧ (st.ds.map (·.1)).Nodup ∧ st.ds.length ≤ 1000 ∧ Sq K H na nl ∧ Sq K H pa pl ∧ Sq K H su ul ∧
  ∀ (G' H' : Hp) (i c m d n p' u : Addr), Step (some p) G H G' H' → G' p = none → H' p = some (.ins C dx (stf st.kd i c m d t (.str nm) (.str nw) n p' u)) → G' i = some (.tup ins) → G' c = some (.lst (sV st.cs)) → G' m = some (.lst (sV st.ms)) → G' d = some (.dK (dV st.ds)) → Q .non H'
/-- the object under way at p, all else as it was told -/
theorem fldA {C dx : Addr} {p : Addr} {G H G1 H1 : Hp} {fs : List (Str × V)} (f : Str) (v : V) (s : Step (some p) G H G1 H1) (gp : G1 p = none) (hp : H1 p = some (.ins C dx fs)) : Step (some p) G H G1 (upd H1 p (.ins C dx (putF f v fs))) := s.atP gp
/-- a new list of the things of another one -/
theorem newA {C dx p l : Addr} {G H G1 H1 : Hp} {fs : List (Str × V)} {o : HO} (s : Step (some p) G H G1 H1) (gp : G1 p = none) (hp : H1 p = some (.ins C dx fs)) (hl : H1 l = none) :
    Step (some p) G H (upd G1 l o) (upd H1 l o) ∧ (upd G1 l o) p = none ∧ (upd H1 l o) p = some (.ins C dx fs) ∧ Same G1 (upd G1 l o) ∧ (upd G1 l o) l = some o := by
  have ne : p ≠ l := fun e => by rw [← e, hp] at hl; cases hl
  exact ⟨s.new1 hl, by rw [upd_ne ne]; exact gp, by rw [upd_ne ne]; exact hp, Same.new (Same.refl G1) (s.gh.free hl), upd_same⟩
theorem lookup_at : ∀ {ds : List (List Nat × Nat)} {i : Nat} {c : List Nat} {n : Nat}, ds[i]? = some (c, n) → (ds.map (·.1)).Nodup → ds.lookup c = some n
  | [], _, _, _, h, _ => by cases h
  | (k, m) :: r, 0, c, n, h, _ => by
    cases h
    rw [List.lookup_cons, beq_self_eq_true]
  | (k, m) :: r, i + 1, c, n, h, nd => by
    rw [List.map_cons, List.nodup_cons] at nd
    have hm : c ∈ r.map (·.1) := List.mem_map.mpr ⟨(c, n), List.mem_of_getElem? h, rfl⟩
    rw [List.lookup_cons, beq_false_of_ne fun (e : c = k) => nd.1 (e ▸ hm)]
    exact lookup_at h nd.2
theorem sq_stp {C dx p a : Addr} {G H G1 H1 : Hp} {fs : List (Str × V)} {xs : List V} (h : Sq K H a xs) (s : Step (some p) G H G1 H1) (hp : H p = some (.ins C dx fs)) : Sq K H1 a xs := by
  have k : ∀ {o : HO}, H a = some o → (∀ c d f, o ≠ .ins c d f) → H1 a = some o := fun {o} e n => s.kpc _ _ e (ne_of e hp (n _ _ _))
  rcases h with ((h | ⟨u, h⟩) | h) | ((h | ⟨u, h⟩) | h)
  · exact .inl (.inl (.inl (k h (fun _ _ _ z => by cases z))))
  · exact .inl (.inl (.inr ⟨u, k h (fun _ _ _ z => by cases z)⟩))
  · exact .inl (.inr h)
  · exact .inr (.inl (.inl (k h (fun _ _ _ z => by cases z))))
  · exact .inr (.inl (.inr ⟨u, k h (fun _ _ _ z => by cases z)⟩))
  · exact .inr (.inr h)
theorem upd_back {H : Hp} {a D : Addr} {u x o : HO} (h : H a = some u) (ne : D ≠ a) : upd (upd (upd H a x) D o) a u = upd H D o := by
  funext b
  by_cases e1 : b = a
  · rw [e1, upd_same, upd_ne ne.symm, h]
  · rw [upd_ne e1]
    by_cases e2 : b = D
    · rw [e2, upd_same, upd_same]
    · rw [upd_ne e2, upd_ne e2, upd_ne e1]
theorem putF_le2 {f : Str} {v : V} {fs : List (Str × V)} {n : Nat} (h : fs.length ≤ n) : (putF f v fs).length ≤ n + 1 := Nat.le_trans (putF_le _ _ _) (by omega)
end Bs
namespace Pf
open PySem PySem.Spec PyProof.Rows L2 Bs SX
variable {P : Program} {w : World} {K : PySem.W.Frag} {mg : Str → Option Value} {base : Heap}
abbrev CSt (K : PySem.W.Frag) : Addr := He.ga K "Step"
abbrev N_Step_init : List Str := ["self", "kind", "inputs", "columns", "measures", "depths", "table", "name", "new", "named", "pairs", "sums", "column"]
theorem sc_Step_init : FnScope N_Step_init ["self", "kind", "inputs", "columns", "measures", "depths", "table", "name", "new", "named", "pairs", "sums"] (defScope s_Step_init) := ⟨rfl, rfl, rfl, by decide +kernel, rfl, by decide +kernel, by decide +kernel⟩
theorem o_sinit (T : Tx K mg) : ∃ fd, FnOk P w K mg base C8.CX0 1 (He.ma K (CSt K) "__init__") fd ["self", "kind", "inputs", "columns", "measures", "depths", "table", "name", "new", "named", "pairs", "sums"] (spSInit K (CSt K)) ∧ FunD K d_Step_init.2.name d_Step_init.2.qual d_Step_init.2.params d_Step_init.2.body d_Step_init.2.scope (d_Step_init.2.dvs K) (d_Step_init.2.kws K) (d_Step_init.1 K) fd := by
  obtain ⟨fd, F⟩ := f_Step_init T
  refine ⟨fd, ok0' F sc_Step_init (fun vs H Q E h => ?_) (fun cdv A outer s H vs Q E hr h => ?_), F⟩
  · obtain ⟨G, p, dx, ia, ca, ma, da, na, pa, su, st, ins, nl, pl, ul, t, nm, nw, rfl, _⟩ := h
    rfl
  obtain ⟨G, p, dx, ia, ca, ma, da, na, pa, su, st, ins, nl, pl, ul, t, nm, nw, rfl, hG, gp, hp, gi, hc, hm, hd, dn, dl, hn, hpa, hsu, q⟩ := h
  have C0 := cls_Step_ T
  have hu := hu_of hr
  have sl : sizeLine = 16777216 := rfl
  refine ⟨_, (pss_cons (ps_fld (pv 0) (pv 1) rfl)
    (pss_cons (ps_fld (pv 0) (pe_callTy call_tuple_of (by rfl) (z_tuple T) boot_tuple (pa_cons (pv 2) pa_nil)) rfl)
    (pss_cons (ps_fld (pv 0) (pe_callTy call_list_of (by rfl) (z_list T) boot_list (pa_cons (pv 3) pa_nil)) rfl)
    (pss_cons (ps_fld (pv 0) (pe_callTy call_list_of (by rfl) (z_list T) boot_list (pa_cons (pv 4) pa_nil)) rfl)
    (pss_cons (ps_fld (pv 0) (pe_lock (pe_dc (own := [("column", 12)]) rfl sc_Step_init.nd (pi_keys (pv 5)) (blkOk_by (N := N_Step_init) (sc := defScope s_Step_init) (by decide +kernel)) (fun _ _ _ _ _ => (pg_name (i := 12) sc_Step_init.nd rfl (Or.inl rfl))) (fun _ _ _ _ _ => pts_nil) (fun _ _ _ _ _ => (pv 12)) (fun _ _ _ _ _ => (pe_dget hu (pv 5) (pv 12) (fun _ _ => rfl))))) rfl)
    (pss_cons (ps_fld (pv 0) (pv 6) rfl)
    (pss_cons (ps_fld (pv 0) (pv 7) rfl)
    (pss_cons (ps_fld (pv 0) (pv 8) rfl)
    (pss_cons (ps_fld (pv 0) (pe_callTy call_list_of (by rfl) (z_list T) boot_list (pa_cons (pv 9) pa_nil)) rfl)
    (pss_cons (ps_fld (pv 0) (pe_callTy call_list_of (by rfl) (z_list T) boot_list (pa_cons (pv 10) pa_nil)) rfl)
    (pss_one (ps_fld (pv 0) (pe_callTy call_list_of (by rfl) (z_list T) boot_list (pa_cons (pv 11) pa_nil)) rfl)))))))))))), ?_⟩
  have npd : da ≠ p := fun e => by rw [e, hp] at hd; cases hd
  have s0 : Step (some p) G H G H := Step.refl hG
  have kg0 : Same G G := Same.refl G
  -- kind
  refine ⟨_, rfl, _, rfl, p, CSt K, dx, _, rfl, hp, C0, noat_Step_kind T, by show 0 < 1000; decide, ?_⟩
  have s1 : Step (some p) G H G (upd H p (.ins (CSt K) dx (putF "kind" (V.str (S st.kd)) []))) := (s0).atP gp
  have hp1 : upd H p (.ins (CSt K) dx (putF "kind" (V.str (S st.kd)) [])) p = some (.ins (CSt K) dx (putF "kind" (V.str (S st.kd)) [])) := upd_same
  have l1 : (putF "kind" (V.str (S st.kd)) []).length ≤ 1 := putF_le _ _ _
  have fe1 : putF "kind" (V.str (S st.kd)) [] = putF "kind" (V.str (S st.kd)) [] := rfl
  generalize upd H p (.ins (CSt K) dx (putF "kind" (V.str (S st.kd)) [])) = H1 at *
  generalize hf1 : putF "kind" (V.str (S st.kd)) [] = f1 at s1 hp1 l1 ⊢
  have gp1 := gp
  have kg1 := kg0
  -- inputs
  refine ⟨_, rfl, ia, _, rfl, .inr ⟨SqT.of (s1.gh _ _ gi), ?_⟩⟩
  refine ⟨_, rfl, p, CSt K, dx, _, rfl, hp1, C0, noat_Step_inputs T, by omega, ?_⟩
  have s2 : Step (some p) G H G (upd H1 p (.ins (CSt K) dx (putF "inputs" (.ref ia) f1))) := (s1).atP gp1
  have hp2 : upd H1 p (.ins (CSt K) dx (putF "inputs" (.ref ia) f1)) p = some (.ins (CSt K) dx (putF "inputs" (.ref ia) f1)) := upd_same
  have l2 : (putF "inputs" (.ref ia) f1).length ≤ 2 := putF_le2 l1
  have fe2 : putF "inputs" (.ref ia) f1 = putF "inputs" (.ref ia) f1 := rfl
  generalize upd H1 p (.ins (CSt K) dx (putF "inputs" (.ref ia) f1)) = H2 at *
  generalize hf2 : putF "inputs" (.ref ia) f1 = f2 at s2 hp2 l2 ⊢
  have gp2 := gp1
  have kg2 := kg1
  -- columns
  refine ⟨_, rfl, ca, _, rfl, sq_stp hc s2 hp, fun c hc => ?_⟩
  obtain ⟨t2, gq2, hq2, kq2, hgc⟩ := newA (o := .lst (sV st.cs)) s2 gp2 hp2 hc
  have kg3 := kg2.trans kq2
  generalize upd G c (.lst (sV st.cs)) = G3 at t2 gq2 kq2 hgc kg3
  generalize upd H2 c (.lst (sV st.cs)) = W2 at *
  refine ⟨_, rfl, p, CSt K, dx, _, rfl, hq2, C0, noat_Step_columns T, by omega, ?_⟩
  have s3 : Step (some p) G H G3 (upd W2 p (.ins (CSt K) dx (putF "columns" (.ref c) f2))) := (t2).atP gq2
  have hp3 : upd W2 p (.ins (CSt K) dx (putF "columns" (.ref c) f2)) p = some (.ins (CSt K) dx (putF "columns" (.ref c) f2)) := upd_same
  have l3 : (putF "columns" (.ref c) f2).length ≤ 3 := putF_le2 l2
  have fe3 : putF "columns" (.ref c) f2 = putF "columns" (.ref c) f2 := rfl
  generalize upd W2 p (.ins (CSt K) dx (putF "columns" (.ref c) f2)) = H3 at *
  generalize hf3 : putF "columns" (.ref c) f2 = f3 at s3 hp3 l3 ⊢
  have gp3 := gq2
  -- measures
  refine ⟨_, rfl, ma, _, rfl, sq_stp (.inl hm) s3 hp, fun m hm => ?_⟩
  obtain ⟨t3, gq3, hq3, kq3, hgm⟩ := newA (o := .lst (sV st.ms)) s3 gp3 hp3 hm
  have kg4 := kg3.trans kq3
  generalize upd G3 m (.lst (sV st.ms)) = G4 at t3 gq3 kq3 hgm kg4
  generalize upd H3 m (.lst (sV st.ms)) = W3 at *
  have hgc := kq3 _ _ hgc
  refine ⟨_, rfl, p, CSt K, dx, _, rfl, hq3, C0, noat_Step_measures T, by omega, ?_⟩
  have s4 : Step (some p) G H G4 (upd W3 p (.ins (CSt K) dx (putF "measures" (.ref m) f3))) := (t3).atP gq3
  have hp4 : upd W3 p (.ins (CSt K) dx (putF "measures" (.ref m) f3)) p = some (.ins (CSt K) dx (putF "measures" (.ref m) f3)) := upd_same
  have l4 : (putF "measures" (.ref m) f3).length ≤ 4 := putF_le2 l3
  have fe4 : putF "measures" (.ref m) f3 = putF "measures" (.ref m) f3 := rfl
  generalize upd W3 p (.ins (CSt K) dx (putF "measures" (.ref m) f3)) = H4 at *
  generalize hf4 : putF "measures" (.ref m) f3 = f4 at s4 hp4 l4 ⊢
  have gp4 := gq3
  -- depths
  have hd4 := s4.kpc _ _ hd npd
  refine ⟨da, _, hd4, True.intro, fun od => ?_⟩
  refine ⟨_, rfl, da, od, rfl, .inl ⟨_, upd_same, fun D hD => ?_⟩⟩
  have nDa : D ≠ da := fun e => by rw [e, upd_same] at hD; cases hD
  have hD0 : H4 D = none := by rw [upd_ne nDa] at hD; exact hD
  refine Dm.dc_keys (d := da) (o := od) (xs := dV st.ds) (fun i H' => H' = upd (upd H4 da (.frz od (.dK (dV st.ds)))) D (.dK (dV (st.ds.take i)))) rfl ?_ ?_ ?_
  · rintro i H' rfl
    rw [upd_ne nDa.symm, upd_same]
  · rintro i ky v H' hx rfl
    obtain ⟨cn, nn, hi, rfl, rfl⟩ := dV_at hx
    have hil := (List.getElem?_eq_some_iff.mp hi).1
    refine ⟨rfl, ?_⟩
    unfold tYes
    have hv : some (V.int (nn : Nat)) = valV (dV st.ds) (Sum.inr (S cn)) := (dV_get (lookup_at hi dn)).symm
    refine iteT ⟨_, rfl, _, rfl, _, rfl, da, _, rfl, .inl ⟨dV st.ds, Sum.inr (S cn), .inr ⟨od, by rw [upd_ne nDa.symm, upd_same]⟩, rfl, hv⟩, _, _, rfl, upd_same, ?_, ?_⟩
    · rw [dV_len, List.length_take]; omega
    · rw [upd_upd, dV_take hi dn]
  rintro H' rfl
  refine ⟨by rw [upd_ne nDa.symm, upd_same], ?_⟩
  rw [dV_len, List.take_length, upd_back hd4 nDa]
  obtain ⟨t4, gq4, hq4, kq4, hgd⟩ := newA (o := .dK (dV st.ds)) s4 gp4 hp4 hD0
  have kg5 := kg4.trans kq4
  generalize upd G4 D (.dK (dV st.ds)) = G5 at t4 gq4 kq4 hgd kg5
  generalize upd H4 D (.dK (dV st.ds)) = W4 at *
  have hgc := kq4 _ _ hgc
  have hgm := kq4 _ _ hgm
  refine ⟨_, rfl, p, CSt K, dx, _, rfl, hq4, C0, noat_Step_depths T, by omega, ?_⟩
  have s5 : Step (some p) G H G5 (upd W4 p (.ins (CSt K) dx (putF "depths" (.ref D) f4))) := (t4).atP gq4
  have hp5 : upd W4 p (.ins (CSt K) dx (putF "depths" (.ref D) f4)) p = some (.ins (CSt K) dx (putF "depths" (.ref D) f4)) := upd_same
  have l5 : (putF "depths" (.ref D) f4).length ≤ 5 := putF_le2 l4
  have fe5 : putF "depths" (.ref D) f4 = putF "depths" (.ref D) f4 := rfl
  generalize upd W4 p (.ins (CSt K) dx (putF "depths" (.ref D) f4)) = H5 at *
  generalize hf5 : putF "depths" (.ref D) f4 = f5 at s5 hp5 l5 ⊢
  have gp5 := gq4
  -- table
  refine ⟨_, rfl, _, rfl, p, CSt K, dx, _, rfl, hp5, C0, noat_Step_table T, by omega, ?_⟩
  have s6 : Step (some p) G H G5 (upd H5 p (.ins (CSt K) dx (putF "table" t f5))) := (s5).atP gp5
  have hp6 : upd H5 p (.ins (CSt K) dx (putF "table" t f5)) p = some (.ins (CSt K) dx (putF "table" t f5)) := upd_same
  have l6 : (putF "table" t f5).length ≤ 6 := putF_le2 l5
  have fe6 : putF "table" t f5 = putF "table" t f5 := rfl
  generalize upd H5 p (.ins (CSt K) dx (putF "table" t f5)) = H6 at *
  generalize hf6 : putF "table" t f5 = f6 at s6 hp6 l6 ⊢
  have gp6 := gp5
  have kg6 := kg5
  -- name
  refine ⟨_, rfl, _, rfl, p, CSt K, dx, _, rfl, hp6, C0, noat_Step_name T, by omega, ?_⟩
  have s7 : Step (some p) G H G5 (upd H6 p (.ins (CSt K) dx (putF "name" (.str nm) f6))) := (s6).atP gp6
  have hp7 : upd H6 p (.ins (CSt K) dx (putF "name" (.str nm) f6)) p = some (.ins (CSt K) dx (putF "name" (.str nm) f6)) := upd_same
  have l7 : (putF "name" (.str nm) f6).length ≤ 7 := putF_le2 l6
  have fe7 : putF "name" (.str nm) f6 = putF "name" (.str nm) f6 := rfl
  generalize upd H6 p (.ins (CSt K) dx (putF "name" (.str nm) f6)) = H7 at *
  generalize hf7 : putF "name" (.str nm) f6 = f7 at s7 hp7 l7 ⊢
  have gp7 := gp6
  have kg7 := kg6
  -- new
  refine ⟨_, rfl, _, rfl, p, CSt K, dx, _, rfl, hp7, C0, noat_Step_new T, by omega, ?_⟩
  have s8 : Step (some p) G H G5 (upd H7 p (.ins (CSt K) dx (putF "new" (.str nw) f7))) := (s7).atP gp7
  have hp8 : upd H7 p (.ins (CSt K) dx (putF "new" (.str nw) f7)) p = some (.ins (CSt K) dx (putF "new" (.str nw) f7)) := upd_same
  have l8 : (putF "new" (.str nw) f7).length ≤ 8 := putF_le2 l7
  have fe8 : putF "new" (.str nw) f7 = putF "new" (.str nw) f7 := rfl
  generalize upd H7 p (.ins (CSt K) dx (putF "new" (.str nw) f7)) = H8 at *
  generalize hf8 : putF "new" (.str nw) f7 = f8 at s8 hp8 l8 ⊢
  have gp8 := gp7
  have kg8 := kg7
  -- named
  refine ⟨_, rfl, na, _, rfl, sq_stp hn s8 hp, fun n1 hn1 => ?_⟩
  obtain ⟨t8, gq8, hq8, kq8, hgn1⟩ := newA (o := .lst nl) s8 gp8 hp8 hn1
  have kg9 := kg8.trans kq8
  generalize upd G5 n1 (.lst nl) = G9 at t8 gq8 kq8 hgn1 kg9
  generalize upd H8 n1 (.lst nl) = W8 at *
  have hgc := kq8 _ _ hgc
  have hgm := kq8 _ _ hgm
  have hgd := kq8 _ _ hgd
  refine ⟨_, rfl, p, CSt K, dx, _, rfl, hq8, C0, noat_Step_named T, by omega, ?_⟩
  have s9 : Step (some p) G H G9 (upd W8 p (.ins (CSt K) dx (putF "named" (.ref n1) f8))) := (t8).atP gq8
  have hp9 : upd W8 p (.ins (CSt K) dx (putF "named" (.ref n1) f8)) p = some (.ins (CSt K) dx (putF "named" (.ref n1) f8)) := upd_same
  have l9 : (putF "named" (.ref n1) f8).length ≤ 9 := putF_le2 l8
  have fe9 : putF "named" (.ref n1) f8 = putF "named" (.ref n1) f8 := rfl
  generalize upd W8 p (.ins (CSt K) dx (putF "named" (.ref n1) f8)) = H9 at *
  generalize hf9 : putF "named" (.ref n1) f8 = f9 at s9 hp9 l9 ⊢
  have gp9 := gq8
  -- pairs
  refine ⟨_, rfl, pa, _, rfl, sq_stp hpa s9 hp, fun n2 hn2 => ?_⟩
  obtain ⟨t9, gq9, hq9, kq9, hgn2⟩ := newA (o := .lst pl) s9 gp9 hp9 hn2
  have kg10 := kg9.trans kq9
  generalize upd G9 n2 (.lst pl) = G10 at t9 gq9 kq9 hgn2 kg10
  generalize upd H9 n2 (.lst pl) = W9 at *
  have hgc := kq9 _ _ hgc
  have hgm := kq9 _ _ hgm
  have hgd := kq9 _ _ hgd
  have hgn1 := kq9 _ _ hgn1
  refine ⟨_, rfl, p, CSt K, dx, _, rfl, hq9, C0, noat_Step_pairs T, by omega, ?_⟩
  have s10 : Step (some p) G H G10 (upd W9 p (.ins (CSt K) dx (putF "pairs" (.ref n2) f9))) := (t9).atP gq9
  have hp10 : upd W9 p (.ins (CSt K) dx (putF "pairs" (.ref n2) f9)) p = some (.ins (CSt K) dx (putF "pairs" (.ref n2) f9)) := upd_same
  have l10 : (putF "pairs" (.ref n2) f9).length ≤ 10 := putF_le2 l9
  have fe10 : putF "pairs" (.ref n2) f9 = putF "pairs" (.ref n2) f9 := rfl
  generalize upd W9 p (.ins (CSt K) dx (putF "pairs" (.ref n2) f9)) = H10 at *
  generalize hf10 : putF "pairs" (.ref n2) f9 = f10 at s10 hp10 l10 ⊢
  have gp10 := gq9
  -- sums
  refine ⟨_, rfl, su, _, rfl, sq_stp hsu s10 hp, fun n3 hn3 => ?_⟩
  obtain ⟨t10, gq10, hq10, kq10, hgn3⟩ := newA (o := .lst ul) s10 gp10 hp10 hn3
  have kg11 := kg10.trans kq10
  generalize upd G10 n3 (.lst ul) = G11 at t10 gq10 kq10 hgn3 kg11
  generalize upd H10 n3 (.lst ul) = W10 at *
  have hgc := kq10 _ _ hgc
  have hgm := kq10 _ _ hgm
  have hgd := kq10 _ _ hgd
  have hgn1 := kq10 _ _ hgn1
  have hgn2 := kq10 _ _ hgn2
  refine ⟨_, rfl, p, CSt K, dx, _, rfl, hq10, C0, noat_Step_sums T, by omega, ?_⟩
  have s11 : Step (some p) G H G11 (upd W10 p (.ins (CSt K) dx (putF "sums" (.ref n3) f10))) := (t10).atP gq10
  have hp11 : upd W10 p (.ins (CSt K) dx (putF "sums" (.ref n3) f10)) p = some (.ins (CSt K) dx (putF "sums" (.ref n3) f10)) := upd_same
  have l11 : (putF "sums" (.ref n3) f10).length ≤ 11 := putF_le2 l10
  have fe11 : putF "sums" (.ref n3) f10 = putF "sums" (.ref n3) f10 := rfl
  generalize upd W10 p (.ins (CSt K) dx (putF "sums" (.ref n3) f10)) = H11 at *
  generalize hf11 : putF "sums" (.ref n3) f10 = f11 at s11 hp11 l11 ⊢
  have gp11 := gq10
  have gi11 := kg11 _ _ gi
  subst hf1 hf2 hf3 hf4 hf5 hf6 hf7 hf8 hf9 hf10 hf11
  exact q _ _ ia c m D n1 n2 n3 s11 gp11 hp11 gi11 hgc hgm hgd
end Pf
namespace Bs
open PySem PySem.Spec PyProof.Rows L2 SX
variable {P : Program} {w : World} {K : PySem.W.Frag} {mg : Str → Option Value} {base : Heap}
theorem op_notIn_seqK {X : Cx} (hK : X.K = K) : OpR X (compareOp .NotIn) (rIn K true) := by subst hK; exact op_notIn_seq
def spRefuse : Sp := fun vs H Q _ => ∃ r : Str, vs = [.str r, .bl false] ∧ Q .non H
/-- whether one of these columns is (not) there -/
def spStrange (K : PySem.W.Frag) (C : Addr) : Sp := fun vs H Q _ => ∃ (G : Hp) (a c : Addr) (st : Stp) (ins : List V) (xs : List (List Nat)), vs = [.ref a, .ref c] ∧ Same G H ∧ StAt K C G a st ins ∧ Sq K H c (sV xs) ∧ xs.length ≤ 1000 ∧
  ∀ H' : Hp, Step none G H G H' → Q (.bl (xs.any fun x => !decide (x ∈ st.cs))) H'
def spMeasure (K : PySem.W.Frag) (C : Addr) : Sp := fun vs H Q _ => ∃ (G : Hp) (a c : Addr) (st : Stp) (ins : List V) (xs : List (List Nat)), vs = [.ref a, .ref c] ∧ Same G H ∧ StAt K C G a st ins ∧ Sq K H c (sV xs) ∧ xs.length ≤ 1000 ∧
  ∀ H' : Hp, Step none G H G H' → Q (.bl (xs.any fun x => decide (x ∈ st.ms))) H'
/-- these are columns, none of them a measure -/
def Pl (st : Stp) (xs : List (List Nat)) : Prop := ∀ x ∈ xs, x ∈ st.cs ∧ x ∉ st.ms
theorem any_no {xs : List (List Nat)} {f : List Nat → Bool} (h : ∀ x ∈ xs, f x = false) : xs.any f = false := by
  rw [List.any_eq_false]
  intro x hx
  rw [h x hx]
  exact Bool.false_ne_true
theorem Pl.strange {st : Stp} {xs : List (List Nat)} (h : Pl st xs) : (xs.any fun x => !decide (x ∈ st.cs)) = false := any_no fun x hx => by rw [decide_eq_true (h x hx).1]; rfl
theorem Pl.measure {st : Stp} {xs : List (List Nat)} (h : Pl st xs) : (xs.any fun x => decide (x ∈ st.ms)) = false := any_no fun x hx => decide_eq_false (h x hx).2
theorem bl_take {xs : List (List Nat)} {f : List Nat → Bool} {i : Nat} {k : List Nat} (h : xs[i]? = some k) : ((xs.take i).map f).map V.bl ++ [V.bl (f k)] = ((xs.take (i + 1)).map f).map V.bl := by
  rw [List.take_succ, h, List.map_append, List.map_append]
  rfl
theorem sV_at' {ks : List (List Nat)} {i : Nat} {x : V} (h : (sV ks)[i]? = some x) : ∃ k, ks[i]? = some k ∧ x = .str (S k) ∧ i < ks.length := by
  rw [List.getElem?_map, List.getElem?_map] at h
  cases e : ks[i]? with
  | none => rw [e] at h; cases h
  | some k =>
    rw [e] at h
    exact ⟨k, rfl, (Option.some.inj h).symm, (List.getElem?_eq_some_iff.mp e).1⟩
theorem any_id {xs : List (List Nat)} {f : List Nat → Bool} : (xs.map f).any id = xs.any f := by rw [List.any_map]; rfl
theorem Step.all {G H G' H' : Hp} (s : Step none G H G' H') : Same H H' := fun b o e => s.kp b o e (by rintro ⟨⟩)
end Bs
namespace Pf
open PySem PySem.Spec PyProof.Rows L2 Bs SX
variable {P : Program} {w : World} {K : PySem.W.Frag} {mg : Str → Option Value} {base : Heap}
abbrev N_refuse : List Str := ["reason", "wrong"]
theorem sc_refuse : FnScope N_refuse ["reason", "wrong"] (defScope s_refuse) := ⟨rfl, rfl, rfl, by decide +kernel, rfl, by decide +kernel, by decide +kernel⟩
theorem c_refuse (T : Tx K mg) : C8.Cal P w K mg base 1 "_refuse" spRefuse [] := by
  obtain ⟨fd, F⟩ := f_refuse T
  refine mkCal F (g_refuse T) (F.bindsN fun _ _ _ _ _ _ us hl => match us, hl with | [_, _], _ => rfl) .nil sc_refuse (fun vs H Q E h => ?_) (fun cdv A outer s H vs Q E hr h => ?_)
  · obtain ⟨r, rfl, _⟩ := h
    rfl
  obtain ⟨r, rfl, q⟩ := h
  refine ⟨_, (pss_one (ps_if (pt_val (pv 1)) (pss_one ps_no) pss_nil)), ?_⟩
  exact ⟨_, rfl, _, rfl, iteF q⟩
abbrev N_has_strange : List Str := ["source", "columns", "column"]
theorem sc_has_strange : FnScope N_has_strange ["source", "columns"] (defScope s_has_strange) := ⟨rfl, rfl, rfl, by decide +kernel, rfl, by decide +kernel, by decide +kernel⟩
theorem c_has_strange (T : Tx K mg) : C8.Cal P w K mg base 1 "_has_strange" (spStrange K (CSt K)) [] := by
  obtain ⟨fd, F⟩ := f_has_strange T
  refine mkCal F (g_has_strange T) (F.bindsN fun _ _ _ _ _ _ us hl => match us, hl with | [_, _], _ => rfl) .nil sc_has_strange (fun vs H Q E h => ?_) (fun cdv A outer s H vs Q E hr h => ?_)
  · obtain ⟨G, a, c, st, ins, xs, rfl, _⟩ := h
    rfl
  obtain ⟨G, a, c, st, ins, xs, rfl, hG, ha, hc, hl, q⟩ := h
  obtain ⟨dx, i, cc, m, d, fs, h1, h2, h3, h4, h5, h6⟩ := ha.ex
  have C0 := cls_Step_ T
  have sl : sizeLine = 16777216 := rfl
  rcases hc with hc | hc
  · refine ⟨_, (pss_one (ps_ret (pe_callB (cr_any rfl) (by rfl) (z_any T) boot_any (pa_cons (pe_lc (own := [("column", 2)]) rfl sc_has_strange.nd (pi_listK (K := K) rfl (pv 1)) (blkOk_by (N := N_has_strange) (sc := defScope s_has_strange) (by decide +kernel)) (fun _ _ _ _ _ => (pg_name (i := 2) sc_has_strange.nd rfl (Or.inl rfl))) (fun _ _ _ _ _ => pts_nil) (fun _ _ _ _ _ => (pe_cmpR (op_notIn_seqK (K := K) rfl) (pv 2) (pe_fldK (K := K) rfl (pv 0) (by rfl)) (by rfl)))) pa_nil)))), ?_⟩
    refine ⟨_, rfl, c, rfl, ⟨_, hc⟩, fun D hD => ?_⟩
    have gD := hG.free hD
    refine lc_list (K := K) (a := c) (xs := sV xs) (fun i H' => Step none G H G H' ∧ H' D = some (.lst (((xs.take i).map fun x => !decide (x ∈ st.cs)).map V.bl))) ⟨(Step.refl hG).loc hD gD, upd_same⟩ ?_ ?_ ?_
    · rintro i H' _ ⟨s', _⟩
      exact sqL_same hc s'.all
    · rintro i x H' hx ⟨s', hL⟩
      obtain ⟨k, mk, rfl, hi⟩ := sV_at' hx
      refine ⟨rfl, ?_⟩
      unfold tYes
      refine iteT ⟨_, rfl, _, rfl, a, CSt K, dx, _, _, rfl, s'.gh _ _ h1, C0, noat_Step_columns T, h2.c, cc, sV st.cs, rfl, .inl (SqL.of (s'.gh _ _ h4)), rfl, sV_flat _, _, hL, by rw [List.length_map, List.length_map, List.length_take]; omega, s'.loc hD gD, ?_⟩
      rw [upd_same, ← bl_take (f := fun x => !decide (x ∈ st.cs)) mk, ← inV_sV]
      rfl
    rintro H' ⟨s', hL⟩
    refine ⟨D, _, rfl, SqL.of hL, ?_⟩
    rw [sV_len, List.take_length, any_id]
    exact q H' s'
  · refine ⟨_, (pss_one (ps_ret (pe_callB (cr_any rfl) (by rfl) (z_any T) boot_any (pa_cons (pe_lc (own := [("column", 2)]) rfl sc_has_strange.nd (pi_tupK (K := K) rfl (pv 1)) (blkOk_by (N := N_has_strange) (sc := defScope s_has_strange) (by decide +kernel)) (fun _ _ _ _ _ => (pg_name (i := 2) sc_has_strange.nd rfl (Or.inl rfl))) (fun _ _ _ _ _ => pts_nil) (fun _ _ _ _ _ => (pe_cmpR (op_notIn_seqK (K := K) rfl) (pv 2) (pe_fldK (K := K) rfl (pv 0) (by rfl)) (by rfl)))) pa_nil)))), ?_⟩
    refine ⟨_, rfl, c, rfl, ⟨_, hc⟩, fun D hD => ?_⟩
    have gD := hG.free hD
    refine lc_tup (K := K) (a := c) (xs := sV xs) (fun i H' => Step none G H G H' ∧ H' D = some (.lst (((xs.take i).map fun x => !decide (x ∈ st.cs)).map V.bl))) ⟨(Step.refl hG).loc hD gD, upd_same⟩ ?_ ?_ ?_
    · rintro i H' _ ⟨s', _⟩
      exact sqT_same hc s'.all
    · rintro i x H' hx ⟨s', hL⟩
      obtain ⟨k, mk, rfl, hi⟩ := sV_at' hx
      refine ⟨rfl, ?_⟩
      unfold tYes
      refine iteT ⟨_, rfl, _, rfl, a, CSt K, dx, _, _, rfl, s'.gh _ _ h1, C0, noat_Step_columns T, h2.c, cc, sV st.cs, rfl, .inl (SqL.of (s'.gh _ _ h4)), rfl, sV_flat _, _, hL, by rw [List.length_map, List.length_map, List.length_take]; omega, s'.loc hD gD, ?_⟩
      rw [upd_same, ← bl_take (f := fun x => !decide (x ∈ st.cs)) mk, ← inV_sV]
      rfl
    rintro H' ⟨s', hL⟩
    refine ⟨D, _, rfl, SqL.of hL, ?_⟩
    rw [sV_len, List.take_length, any_id]
    exact q H' s'
abbrev N_has_measure : List Str := ["source", "columns", "column"]
theorem sc_has_measure : FnScope N_has_measure ["source", "columns"] (defScope s_has_measure) := ⟨rfl, rfl, rfl, by decide +kernel, rfl, by decide +kernel, by decide +kernel⟩
theorem c_has_measure (T : Tx K mg) : C8.Cal P w K mg base 1 "_has_measure" (spMeasure K (CSt K)) [] := by
  obtain ⟨fd, F⟩ := f_has_measure T
  refine mkCal F (g_has_measure T) (F.bindsN fun _ _ _ _ _ _ us hl => match us, hl with | [_, _], _ => rfl) .nil sc_has_measure (fun vs H Q E h => ?_) (fun cdv A outer s H vs Q E hr h => ?_)
  · obtain ⟨G, a, c, st, ins, xs, rfl, _⟩ := h
    rfl
  obtain ⟨G, a, c, st, ins, xs, rfl, hG, ha, hc, hl, q⟩ := h
  obtain ⟨dx, i, cc, m, d, fs, h1, h2, h3, h4, h5, h6⟩ := ha.ex
  have C0 := cls_Step_ T
  have sl : sizeLine = 16777216 := rfl
  rcases hc with hc | hc
  · refine ⟨_, (pss_one (ps_ret (pe_callB (cr_any rfl) (by rfl) (z_any T) boot_any (pa_cons (pe_lc (own := [("column", 2)]) rfl sc_has_measure.nd (pi_listK (K := K) rfl (pv 1)) (blkOk_by (N := N_has_measure) (sc := defScope s_has_measure) (by decide +kernel)) (fun _ _ _ _ _ => (pg_name (i := 2) sc_has_measure.nd rfl (Or.inl rfl))) (fun _ _ _ _ _ => pts_nil) (fun _ _ _ _ _ => (pe_cmpR (op_in_seqK (K := K) rfl) (pv 2) (pe_fldK (K := K) rfl (pv 0) (by rfl)) (by rfl)))) pa_nil)))), ?_⟩
    refine ⟨_, rfl, c, rfl, ⟨_, hc⟩, fun D hD => ?_⟩
    have gD := hG.free hD
    refine lc_list (K := K) (a := c) (xs := sV xs) (fun i H' => Step none G H G H' ∧ H' D = some (.lst (((xs.take i).map fun x => decide (x ∈ st.ms)).map V.bl))) ⟨(Step.refl hG).loc hD gD, upd_same⟩ ?_ ?_ ?_
    · rintro i H' _ ⟨s', _⟩
      exact sqL_same hc s'.all
    · rintro i x H' hx ⟨s', hL⟩
      obtain ⟨k, mk, rfl, hi⟩ := sV_at' hx
      refine ⟨rfl, ?_⟩
      unfold tYes
      refine iteT ⟨_, rfl, _, rfl, a, CSt K, dx, _, _, rfl, s'.gh _ _ h1, C0, noat_Step_measures T, h2.m, m, sV st.ms, rfl, .inl (SqL.of (s'.gh _ _ h5)), rfl, sV_flat _, _, hL, by rw [List.length_map, List.length_map, List.length_take]; omega, s'.loc hD gD, ?_⟩
      rw [upd_same, ← bl_take (f := fun x => decide (x ∈ st.ms)) mk, ← inV_sV]
      rfl
    rintro H' ⟨s', hL⟩
    refine ⟨D, _, rfl, SqL.of hL, ?_⟩
    rw [sV_len, List.take_length, any_id]
    exact q H' s'
  · refine ⟨_, (pss_one (ps_ret (pe_callB (cr_any rfl) (by rfl) (z_any T) boot_any (pa_cons (pe_lc (own := [("column", 2)]) rfl sc_has_measure.nd (pi_tupK (K := K) rfl (pv 1)) (blkOk_by (N := N_has_measure) (sc := defScope s_has_measure) (by decide +kernel)) (fun _ _ _ _ _ => (pg_name (i := 2) sc_has_measure.nd rfl (Or.inl rfl))) (fun _ _ _ _ _ => pts_nil) (fun _ _ _ _ _ => (pe_cmpR (op_in_seqK (K := K) rfl) (pv 2) (pe_fldK (K := K) rfl (pv 0) (by rfl)) (by rfl)))) pa_nil)))), ?_⟩
    refine ⟨_, rfl, c, rfl, ⟨_, hc⟩, fun D hD => ?_⟩
    have gD := hG.free hD
    refine lc_tup (K := K) (a := c) (xs := sV xs) (fun i H' => Step none G H G H' ∧ H' D = some (.lst (((xs.take i).map fun x => decide (x ∈ st.ms)).map V.bl))) ⟨(Step.refl hG).loc hD gD, upd_same⟩ ?_ ?_ ?_
    · rintro i H' _ ⟨s', _⟩
      exact sqT_same hc s'.all
    · rintro i x H' hx ⟨s', hL⟩
      obtain ⟨k, mk, rfl, hi⟩ := sV_at' hx
      refine ⟨rfl, ?_⟩
      unfold tYes
      refine iteT ⟨_, rfl, _, rfl, a, CSt K, dx, _, _, rfl, s'.gh _ _ h1, C0, noat_Step_measures T, h2.m, m, sV st.ms, rfl, .inl (SqL.of (s'.gh _ _ h5)), rfl, sV_flat _, _, hL, by rw [List.length_map, List.length_map, List.length_take]; omega, s'.loc hD gD, ?_⟩
      rw [upd_same, ← bl_take (f := fun x => decide (x ∈ st.ms)) mk, ← inV_sV]
      rfl
    rintro H' ⟨s', hL⟩
    refine ⟨D, _, rfl, SqL.of hL, ?_⟩
    rw [sV_len, List.take_length, any_id]
    exact q H' s'
end Pf
namespace Bs
open PySem PySem.Spec PyProof.Rows L2 SX
variable {P : Program} {w : World} {K : PySem.W.Frag} {mg : Str → Option Value} {base : Heap}
/-- 1 to so many unlike plain columns -/
def spPlain (K : PySem.W.Frag) (C : Addr) : Sp := fun vs H Q _ => ∃ (G : Hp) (a c : Addr) (st : Stp) (ins : List V) (xs : List (List Nat)) (m : Int), vs = [.ref a, .ref c, .int m] ∧ Same G H ∧ StAt K C G a st ins ∧ SqT K H c (sV xs) ∧ Pl st xs ∧ xs.Nodup ∧ 1 ≤ xs.length ∧ (xs.length : Int) ≤ m ∧ m ≤ 8 ∧
  ∀ H' : Hp, Step none G H G H' → Q .non H'
def spSorted (K : PySem.W.Frag) (C : Addr) : Sp := fun vs H Q _ => ∃ (G : Hp) (a c : Addr) (st : Stp) (ins : List V) (xs : List (List Nat)), vs = [.ref a, .ref c] ∧ Same G H ∧ StAt K C G a st ins ∧ SqT K H c (sV xs) ∧ Pl st xs ∧ xs.Nodup ∧ 1 ≤ xs.length ∧ xs.length ≤ 4 ∧
  ∀ H' : Hp, Step none G H G H' → Q .non H'
def spRuled (K : PySem.W.Frag) (C : Addr) : Sp := fun vs H Q _ => ∃ (G : Hp) (a c : Addr) (r : List Nat) (st : Stp) (ins : List V) (xs : List (List Nat)), vs = [.ref a, .str (S r), .ref c] ∧ Nm r ∧ Same G H ∧ StAt K C G a st ins ∧ SqT K H c (sV xs) ∧ Pl st xs ∧ xs.Nodup ∧ 1 ≤ xs.length ∧ xs.length ≤ 3 ∧
  ∀ H' : Hp, Step none G H G H' → Q .non H'
def spCWhere (K : PySem.W.Frag) (C : Addr) : Sp := fun vs H Q _ => ∃ (G : Hp) (a c : Addr) (r : List Nat) (st : Stp) (ins : List V) (xs : List (List Nat)), vs = [.ref a, .str (S r), .ref c] ∧ Nm r ∧ Same G H ∧ StAt K C G a st ins ∧ SqT K H c (sV xs) ∧ Pl st xs ∧ 1 ≤ xs.length ∧ xs.length ≤ 8 ∧
  ∀ H' : Hp, Step none G H G H' → Q .non H'
def spCEqual (K : PySem.W.Frag) (C : Addr) : Sp := fun vs H Q _ => ∃ (G : Hp) (a : Addr) (x y : List Nat) (st : Stp) (ins : List V), vs = [.ref a, .str (S x), .str (S y)] ∧ x ≠ y ∧ Same G H ∧ StAt K C G a st ins ∧ Pl st [x, y] ∧
  ∀ H' : Hp, Step none G H G H' → Q .non H'
def spCKeep (K : PySem.W.Frag) (C : Addr) : Sp := fun vs H Q _ => ∃ (G : Hp) (a c : Addr) (st : Stp) (ins : List V) (xs : List (List Nat)), vs = [.ref a, .ref c] ∧ Same G H ∧ StAt K C G a st ins ∧ SqT K H c (sV xs) ∧ (∀ x ∈ xs, x ∈ st.cs) ∧ xs.Nodup ∧ 1 ≤ xs.length ∧ xs.length ≤ 100 ∧
  ∀ H' : Hp, Step none G H G H' → Q .non H'
def spCDistinct (K : PySem.W.Frag) (C : Addr) : Sp := fun vs H Q _ => ∃ (G : Hp) (a : Addr) (st : Stp) (ins : List V), vs = [.ref a] ∧ Same G H ∧ StAt K C G a st ins ∧ st.ms = [] ∧ Q .non H
theorem bl2 {r : Str} {b : Bool} (h : b = false) : [V.str r, V.bl b] = [.str r, .bl false] := by rw [h]
end Bs
namespace Pf
open PySem PySem.Spec PyProof.Rows L2 Bs SX
variable {P : Program} {w : World} {K : PySem.W.Frag} {mg : Str → Option Value} {base : Heap}
abbrev N_check_plain : List Str := ["source", "columns", "most"]
theorem sc_check_plain : FnScope N_check_plain ["source", "columns", "most"] (defScope s_check_plain) := ⟨rfl, rfl, rfl, by decide +kernel, rfl, by decide +kernel, by decide +kernel⟩
theorem c_check_plain (T : Tx K mg) : C8.Cal P w K mg base 2 "_check_plain" (spPlain K (CSt K)) [] := by
  obtain ⟨fd, F⟩ := f_check_plain T
  have c_refuse := c_refuse (P := P) (w := w) (base := base) T
  have c_has_strange := c_has_strange (P := P) (w := w) (base := base) T
  have c_has_measure := c_has_measure (P := P) (w := w) (base := base) T
  have c_has_twice := c_has_twice (P := P) (w := w) (base := base) T
  refine mkCal F (g_check_plain T) (F.bindsN fun _ _ _ _ _ _ us hl => match us, hl with | [_, _, _], _ => rfl) .nil sc_check_plain (fun vs H Q E h => ?_) (fun cdv A outer s H vs Q E hr h => ?_)
  · obtain ⟨G, a, c, st, ins, xs, m, rfl, _⟩ := h
    rfl
  obtain ⟨G, a, c, st, ins, xs, m, rfl, hG, ha, hc, hp, nd, l1, l2, l3, q⟩ := h
  have hl := sV_len xs
  refine ⟨_, (pss_cons (ps_expr (C8.pe_c c_refuse hr (by first | decide | omega) rfl (pa_cons pe_str (pa_cons (pe_not (pe_chain op_le op_le pe_int (pe_callB (call_len_seqK (K := K) rfl) (by rfl) (z_len T) boot_len (pa_cons (pv 1) pa_nil)) (pv 2))) pa_nil))))
    (pss_cons (ps_expr (C8.pe_c c_refuse hr (by first | decide | omega) rfl (pa_cons pe_str (pa_cons (pe_or (C8.pe_c c_has_strange hr (by first | decide | omega) rfl (pa_cons (pv 0) (pa_cons (pv 1) pa_nil))) (pe_one (C8.pe_c c_has_twice hr (by first | decide | omega) rfl (pa_cons (pv 1) pa_nil)))) pa_nil))))
    (pss_one (ps_expr (C8.pe_c c_refuse hr (by first | decide | omega) rfl (pa_cons pe_str (pa_cons (C8.pe_c c_has_measure hr (by first | decide | omega) rfl (pa_cons (pv 0) (pa_cons (pv 1) pa_nil))) pa_nil))))))), ?_⟩
  refine ⟨_, rfl, c, _, rfl, .inr hc, _, _, rfl, rfl, _, rfl, ?_⟩
  refine ite2 (fun _ => ?_) (fun z => absurd (decide_eq_true (by omega)) z)
  refine ⟨_, rfl, _, _, rfl, rfl, _, rfl, ⟨_, bl2 (by rw [decide_eq_true (by omega)]; rfl), ?_⟩⟩
  refine ⟨_, rfl, _, rfl, G, a, c, st, ins, xs, rfl, hG, ha, .inr hc, by omega, fun H1 s1 => ?_⟩
  rw [hp.strange]
  refine ⟨_, rfl, iteF ⟨_, rfl, c, xs, rfl, .inr (sqT_same hc s1.all), nd, by omega, ⟨_, bl2 rfl, ?_⟩⟩⟩
  refine ⟨_, rfl, _, rfl, G, a, c, st, ins, xs, rfl, s1.gh, ha, .inr (sqT_same hc s1.all), by omega, fun H2 s2 => ⟨_, bl2 hp.measure, (q H2 (s1.trans s2))⟩⟩
abbrev N_check_sorted : List Str := ["source", "columns"]
theorem sc_check_sorted : FnScope N_check_sorted ["source", "columns"] (defScope s_check_sorted) := ⟨rfl, rfl, rfl, by decide +kernel, rfl, by decide +kernel, by decide +kernel⟩
theorem c_check_sorted (T : Tx K mg) : C8.Cal P w K mg base 3 "check_sorted" (spSorted K (CSt K)) [] := by
  obtain ⟨fd, F⟩ := f_check_sorted T
  have c_check_plain := c_check_plain (P := P) (w := w) (base := base) T
  have pe_g_MOST_SORTED : ∀ {X : Cx} {pos : Pos}, X.mg = mg → Gl X "MOST_SORTED" → PE X (.Name "MOST_SORTED" pos) (tC (.int 4)) := fun h1 h2 => by
    obtain ⟨t, e⟩ := ci_MOST_SORTED T
    exact pe_glob h2 (by rw [h1]; exact e) ⟨t, rfl⟩
  refine mkCal F (g_check_sorted T) (F.bindsN fun _ _ _ _ _ _ us hl => match us, hl with | [_, _], _ => rfl) .nil sc_check_sorted (fun vs H Q E h => ?_) (fun cdv A outer s H vs Q E hr h => ?_)
  · obtain ⟨G, a, c, st, ins, xs, rfl, _⟩ := h
    rfl
  obtain ⟨G, a, c, st, ins, xs, rfl, hG, ha, hc, hp, nd, l1, l2, q⟩ := h
  refine ⟨_, (pss_one (ps_expr (C8.pe_c c_check_plain hr (by first | decide | omega) rfl (pa_cons (pv 0) (pa_cons (pv 1) (pa_cons (pe_g_MOST_SORTED rfl rfl) pa_nil)))))), ?_⟩
  exact ⟨_, rfl, _, rfl, G, a, c, st, ins, xs, 4, rfl, hG, ha, hc, hp, nd, l1, by omega, by decide, fun H1 s1 => q H1 s1⟩
abbrev N_check_ruled : List Str := ["source", "rule", "columns"]
theorem sc_check_ruled : FnScope N_check_ruled ["source", "rule", "columns"] (defScope s_check_ruled) := ⟨rfl, rfl, rfl, by decide +kernel, rfl, by decide +kernel, by decide +kernel⟩
theorem c_check_ruled (T : Tx K mg) : C8.Cal P w K mg base 3 "check_ruled" (spRuled K (CSt K)) [] := by
  obtain ⟨fd, F⟩ := f_check_ruled T
  have c_refuse := c_refuse (P := P) (w := w) (base := base) T
  have c_is_name := c_is_name (P := P) (w := w) (base := base) T
  have c_check_plain := c_check_plain (P := P) (w := w) (base := base) T
  have pe_g_MOST_ARGUMENTS : ∀ {X : Cx} {pos : Pos}, X.mg = mg → Gl X "MOST_ARGUMENTS" → PE X (.Name "MOST_ARGUMENTS" pos) (tC (.int 3)) := fun h1 h2 => by
    obtain ⟨t, e⟩ := ci_MOST_ARGUMENTS T
    exact pe_glob h2 (by rw [h1]; exact e) ⟨t, rfl⟩
  refine mkCal F (g_check_ruled T) (F.bindsN fun _ _ _ _ _ _ us hl => match us, hl with | [_, _, _], _ => rfl) .nil sc_check_ruled (fun vs H Q E h => ?_) (fun cdv A outer s H vs Q E hr h => ?_)
  · obtain ⟨G, a, c, r, st, ins, xs, rfl, _⟩ := h
    rfl
  obtain ⟨G, a, c, r, st, ins, xs, rfl, nm, hG, ha, hc, hp, nd, l1, l2, q⟩ := h
  refine ⟨_, (pss_cons (ps_expr (C8.pe_c c_refuse hr (by first | decide | omega) rfl (pa_cons pe_str (pa_cons (pe_not (C8.pe_c c_is_name hr (by first | decide | omega) rfl (pa_cons (pv 1) pa_nil))) pa_nil))))
    (pss_one (ps_expr (C8.pe_c c_check_plain hr (by first | decide | omega) rfl (pa_cons (pv 0) (pa_cons (pv 2) (pa_cons (pe_g_MOST_ARGUMENTS rfl rfl) pa_nil))))))), ?_⟩
  refine ⟨_, rfl, G, r, rfl, nm, hG, fun H1 s1 => ⟨_, rfl, ⟨_, bl2 rfl, ?_⟩⟩⟩
  exact ⟨_, rfl, _, rfl, G, a, c, st, ins, xs, 3, rfl, s1.gh, ha, sqT_same hc s1.all, hp, nd, l1, by omega, by decide, fun H2 s2 => q H2 (s1.trans s2)⟩
abbrev N_check_where : List Str := ["source", "test", "columns", "measured"]
theorem sc_check_where : FnScope N_check_where ["source", "test", "columns"] (defScope s_check_where) := ⟨rfl, rfl, rfl, by decide +kernel, rfl, by decide +kernel, by decide +kernel⟩
theorem c_check_where (T : Tx K mg) : C8.Cal P w K mg base 3 "check_where" (spCWhere K (CSt K)) [] := by
  obtain ⟨fd, F⟩ := f_check_where T
  have c_refuse := c_refuse (P := P) (w := w) (base := base) T
  have c_is_name := c_is_name (P := P) (w := w) (base := base) T
  have c_has_strange := c_has_strange (P := P) (w := w) (base := base) T
  have c_has_measure := c_has_measure (P := P) (w := w) (base := base) T
  have c_has_twice := c_has_twice (P := P) (w := w) (base := base) T
  have pe_g_MOST_TESTED : ∀ {X : Cx} {pos : Pos}, X.mg = mg → Gl X "MOST_TESTED" → PE X (.Name "MOST_TESTED" pos) (tC (.int 8)) := fun h1 h2 => by
    obtain ⟨t, e⟩ := ci_MOST_TESTED T
    exact pe_glob h2 (by rw [h1]; exact e) ⟨t, rfl⟩
  refine mkCal F (g_check_where T) (F.bindsN fun _ _ _ _ _ _ us hl => match us, hl with | [_, _, _], _ => rfl) .nil sc_check_where (fun vs H Q E h => ?_) (fun cdv A outer s H vs Q E hr h => ?_)
  · obtain ⟨G, a, c, r, st, ins, xs, rfl, _⟩ := h
    rfl
  obtain ⟨G, a, c, r, st, ins, xs, rfl, nm, hG, ha, hc, hp, l1, l2, q⟩ := h
  have hl := sV_len xs
  refine ⟨_, (pss_cons (ps_set (i := 3) sc_check_where.nd rfl (Or.inl rfl) (C8.pe_c c_has_measure hr (by first | decide | omega) rfl (pa_cons (pv 0) (pa_cons (pv 2) pa_nil))))
    (pss_cons (ps_expr (C8.pe_c c_refuse hr (by first | decide | omega) rfl (pa_cons pe_str (pa_cons (pe_not (C8.pe_c c_is_name hr (by first | decide | omega) rfl (pa_cons (pv 1) pa_nil))) pa_nil))))
    (pss_cons (ps_expr (C8.pe_c c_refuse hr (by first | decide | omega) rfl (pa_cons pe_str (pa_cons (pe_not (pe_chain op_le op_le pe_int (pe_callB (call_len_seqK (K := K) rfl) (by rfl) (z_len T) boot_len (pa_cons (pv 2) pa_nil)) (pe_g_MOST_TESTED rfl rfl))) pa_nil))))
    (pss_cons (ps_expr (C8.pe_c c_refuse hr (by first | decide | omega) rfl (pa_cons pe_str (pa_cons (pe_or (C8.pe_c c_has_strange hr (by first | decide | omega) rfl (pa_cons (pv 0) (pa_cons (pv 2) pa_nil))) (pe_one (pe_and (pv 3) (pe_one (C8.pe_c c_has_twice hr (by first | decide | omega) rfl (pa_cons (pv 2) pa_nil)))))) pa_nil))))
    (pss_one (ps_expr (C8.pe_c c_refuse hr (by first | decide | omega) rfl (pa_cons pe_str (pa_cons (pe_and (pv 3) (pe_one (pe_cmpR op_lt (pe_callB (call_len_seqK (K := K) rfl) (by rfl) (z_len T) boot_len (pa_cons (pv 2) pa_nil)) (pe_callB (call_len_seqK (K := K) rfl) (by rfl) (z_len T) boot_len (pa_cons (pe_fldK (K := K) rfl (pv 0) (by rfl)) pa_nil)) (nomark _)))) pa_nil))))))))), ?_⟩
  refine ⟨_, rfl, _, rfl, G, a, c, st, ins, xs, rfl, hG, ha, .inr hc, by omega, fun H1 s1 => ?_⟩
  rw [hp.measure]
  refine ⟨_, rfl, G, r, rfl, nm, s1.gh, fun H2 s2 => ⟨_, rfl, ⟨_, bl2 rfl, ?_⟩⟩⟩
  have s12 := s1.trans s2
  have hc2 := sqT_same hc s12.all
  refine ⟨_, rfl, c, _, rfl, .inr hc2, _, _, rfl, rfl, _, rfl, ?_⟩
  refine ite2 (fun _ => ?_) (fun z => absurd (decide_eq_true (by omega)) z)
  refine ⟨_, _, rfl, rfl, _, rfl, ⟨_, bl2 (by rw [decide_eq_true (by omega)]; rfl), ?_⟩⟩
  refine ⟨_, rfl, _, rfl, G, a, c, st, ins, xs, rfl, s12.gh, ha, .inr hc2, by omega, fun H3 s3 => ?_⟩
  rw [hp.strange]
  refine ⟨_, rfl, iteF ⟨_, rfl, _, rfl, iteF (⟨_, bl2 rfl, ?_⟩)⟩⟩
  exact ⟨_, rfl, _, rfl, iteF (⟨_, bl2 rfl, (q H3 (s12.trans s3))⟩)⟩
abbrev N_check_equal : List Str := ["source", "left", "right"]
theorem sc_check_equal : FnScope N_check_equal ["source", "left", "right"] (defScope s_check_equal) := ⟨rfl, rfl, rfl, by decide +kernel, rfl, by decide +kernel, by decide +kernel⟩
theorem c_check_equal (T : Tx K mg) : C8.Cal P w K mg base 3 "check_equal" (spCEqual K (CSt K)) [] := by
  obtain ⟨fd, F⟩ := f_check_equal T
  have c_refuse := c_refuse (P := P) (w := w) (base := base) T
  have c_has_strange := c_has_strange (P := P) (w := w) (base := base) T
  have c_has_measure := c_has_measure (P := P) (w := w) (base := base) T
  refine mkCal F (g_check_equal T) (F.bindsN fun _ _ _ _ _ _ us hl => match us, hl with | [_, _, _], _ => rfl) .nil sc_check_equal (fun vs H Q E h => ?_) (fun cdv A outer s H vs Q E hr h => ?_)
  · obtain ⟨G, a, x, y, st, ins, rfl, _⟩ := h
    rfl
  obtain ⟨G, a, x, y, st, ins, rfl, ne, hG, ha, hp, q⟩ := h
  refine ⟨_, (pss_cons (ps_expr (C8.pe_c c_refuse hr (by first | decide | omega) rfl (pa_cons pe_str (pa_cons (pe_or (C8.pe_c c_has_strange hr (by first | decide | omega) rfl (pa_cons (pv 0) (pa_cons (pe_lst (pa_cons (pv 1) (pa_cons (pv 2) pa_nil))) pa_nil))) (pe_one (pe_cmpR op_eq (pv 1) (pv 2) (nomark _)))) pa_nil))))
    (pss_one (ps_expr (C8.pe_c c_refuse hr (by first | decide | omega) rfl (pa_cons pe_str (pa_cons (C8.pe_c c_has_measure hr (by first | decide | omega) rfl (pa_cons (pv 0) (pa_cons (pe_lst (pa_cons (pv 1) (pa_cons (pv 2) pa_nil))) pa_nil))) pa_nil)))))), ?_⟩
  refine ⟨_, rfl, _, rfl, _, rfl, by show 2 ≤ sizeLine; decide, fun l hl => ?_⟩
  have s0 : Step none G H G (upd H l (.lst (sV [x, y]))) := (Step.refl hG).loc hl (hG.free hl)
  refine ⟨G, a, l, st, ins, [x, y], rfl, s0.gh, ha,   .inl (SqL.of upd_same), by show 2 ≤ 1000; decide, fun H1 s1 => ?_⟩
  rw [hp.strange]
  refine ⟨_, rfl, iteF ⟨_, rfl, _, rfl, rfl, ⟨_, bl2 (decide_eq_false fun e => ne (S_inj (V.str.inj e))), ?_⟩⟩⟩
  refine ⟨_, rfl, _, rfl, _, rfl, by show 2 ≤ sizeLine; decide, fun l2 hl2 => ?_⟩
  have s01 := s0.trans s1
  have s2 : Step none G H G (upd H1 l2 (.lst (sV [x, y]))) := s01.loc (s01.free hl2) (s01.gh.free hl2)
  refine ⟨G, a, l2, st, ins, [x, y], rfl, s2.gh, ha, .inl (SqL.of upd_same), by show 2 ≤ 1000; decide, fun H3 s3 => ⟨_, bl2 hp.measure, (q H3 (s2.trans s3))⟩⟩
abbrev N_check_keep : List Str := ["source", "columns"]
theorem sc_check_keep : FnScope N_check_keep ["source", "columns"] (defScope s_check_keep) := ⟨rfl, rfl, rfl, by decide +kernel, rfl, by decide +kernel, by decide +kernel⟩
theorem c_check_keep (T : Tx K mg) : C8.Cal P w K mg base 3 "check_keep" (spCKeep K (CSt K)) [] := by
  obtain ⟨fd, F⟩ := f_check_keep T
  have c_refuse := c_refuse (P := P) (w := w) (base := base) T
  have c_has_strange := c_has_strange (P := P) (w := w) (base := base) T
  have c_has_twice := c_has_twice (P := P) (w := w) (base := base) T
  refine mkCal F (g_check_keep T) (F.bindsN fun _ _ _ _ _ _ us hl => match us, hl with | [_, _], _ => rfl) .nil sc_check_keep (fun vs H Q E h => ?_) (fun cdv A outer s H vs Q E hr h => ?_)
  · obtain ⟨G, a, c, st, ins, xs, rfl, _⟩ := h
    rfl
  obtain ⟨G, a, c, st, ins, xs, rfl, hG, ha, hc, hp, nd, l1, l2, q⟩ := h
  have hl := sV_len xs
  refine ⟨_, (pss_cons (ps_expr (C8.pe_c c_refuse hr (by first | decide | omega) rfl (pa_cons pe_str (pa_cons (pe_cmpR op_eq (pe_callB (call_len_seqK (K := K) rfl) (by rfl) (z_len T) boot_len (pa_cons (pv 1) pa_nil)) pe_int (nomark _)) pa_nil))))
    (pss_one (ps_expr (C8.pe_c c_refuse hr (by first | decide | omega) rfl (pa_cons pe_str (pa_cons (pe_or (C8.pe_c c_has_strange hr (by first | decide | omega) rfl (pa_cons (pv 0) (pa_cons (pv 1) pa_nil))) (pe_one (C8.pe_c c_has_twice hr (by first | decide | omega) rfl (pa_cons (pv 1) pa_nil)))) pa_nil)))))), ?_⟩
  refine ⟨_, rfl, c, _, rfl, .inr hc, rfl, ⟨_, bl2 (decide_eq_false fun e => by have := V.int.inj e; omega), ?_⟩⟩
  refine ⟨_, rfl, _, rfl, G, a, c, st, ins, xs, rfl, hG, ha, .inr hc, by omega, fun H1 s1 => ?_⟩
  rw [any_no fun x hx => by rw [decide_eq_true (hp x hx)]; rfl]
  exact ⟨_, rfl, iteF ⟨_, rfl, c, xs, rfl, .inr (sqT_same hc s1.all), nd, by omega, ⟨_, bl2 rfl, (q H1 s1)⟩⟩⟩
abbrev N_check_distinct : List Str := ["source"]
theorem sc_check_distinct : FnScope N_check_distinct ["source"] (defScope s_check_distinct) := ⟨rfl, rfl, rfl, by decide +kernel, rfl, by decide +kernel, by decide +kernel⟩
theorem c_check_distinct (T : Tx K mg) : C8.Cal P w K mg base 2 "check_distinct" (spCDistinct K (CSt K)) [] := by
  obtain ⟨fd, F⟩ := f_check_distinct T
  have c_refuse := c_refuse (P := P) (w := w) (base := base) T
  refine mkCal F (g_check_distinct T) (F.bindsN fun _ _ _ _ _ _ us hl => match us, hl with | [_], _ => rfl) .nil sc_check_distinct (fun vs H Q E h => ?_) (fun cdv A outer s H vs Q E hr h => ?_)
  · obtain ⟨G, a, st, ins, rfl, _⟩ := h
    rfl
  obtain ⟨G, a, st, ins, rfl, hG, ha, hm, q⟩ := h
  obtain ⟨dx, i, cc, m, d, fs, h1, h2, h3, h4, h5, h6⟩ := ha.ex
  refine ⟨_, (pss_one (ps_expr (C8.pe_c c_refuse hr (by first | decide | omega) rfl (pa_cons pe_str (pa_cons (pe_cmpR op_gt (pe_callB (call_len_seqK (K := K) rfl) (by rfl) (z_len T) boot_len (pa_cons (pe_fldK (K := K) rfl (pv 0) (by rfl)) pa_nil)) pe_int (nomark _)) pa_nil))))), ?_⟩
  refine ⟨_, rfl, a, CSt K, dx, _, _, rfl, hG _ _ h1, cls_Step_ T, noat_Step_measures T, h2.m, m, _, rfl, .inl (SqL.of (hG _ _ h5)), _, _, rfl, rfl, ⟨_, bl2 ?_, q⟩⟩
  rw [hm]
  rfl
end Pf
namespace Bs
open PySem PySem.Spec PyProof.Rows L2 SX
variable {P : Program} {w : World} {K : PySem.W.Frag} {mg : Str → Option Value} {base : Heap}
/-- the defaults of named, pairs and sums -/
abbrev dNa (K : PySem.W.Frag) : V := .ref (Hd.kwAt ("Step", some "__init__") "named" K)
abbrev dPa (K : PySem.W.Frag) : V := .ref (Hd.kwAt ("Step", some "__init__") "pairs" K)
abbrev dSu (K : PySem.W.Frag) : V := .ref (Hd.kwAt ("Step", some "__init__") "sums" K)
theorem mkS {C : Addr} {G H : Hp} {ia ca ma da na pa su x dx : Addr} {st : Stp} {ins nl pl ul : List V} {t : V} {nm nw : Str} {Q : VK} {E : XK} (hG : Same G H) (gi : G ia = some (.tup ins)) (hc : Sq K H ca (sV st.cs)) (hm : SqL K H ma (sV st.ms)) (hd : H da = some (.dK (dV st.ds)))
    (dn : (st.ds.map (·.1)).Nodup) (dl : st.ds.length ≤ 1000) (hn : Sq K H na nl) (hpa : Sq K H pa pl) (hsu : Sq K H su ul)
    (k : ∀ (G' H' : Hp), Step none G H G' H' → StAt K C G' x st ins → H x = none → Q (.ref x) H') (hx : H x = none) (hdx : H dx = none) (ne : dx ≠ x) :
    spSInit K C [.ref x, .str (S st.kd), .ref ia, .ref ca, .ref ma, .ref da, t, .str nm, .str nw, .ref na, .ref pa, .ref su] (upd (upd H dx (.own x)) x (.ins C dx [])) (fun v H3 => v = .non ∧ Q (.ref x) H3) E := by
  have s0 : Step none G H G (upd H dx (.own x)) := (Step.refl hG).loc hdx (hG.free hdx)
  have gx := hG.free hx
  have hx1 : upd H dx (.own x) x = none := by rw [upd_ne ne.symm]; exact hx
  have n1 : Same H (upd H dx (.own x)) := Same.new (Same.refl H) hdx
  have n2 : Same (upd H dx (.own x)) (upd (upd H dx (.own x)) x (.ins C dx [])) := Same.new (Same.refl _) hx1
  have n3 := n1.trans n2
  refine ⟨G, x, dx, ia, ca, ma, da, na, pa, su, st, ins, nl, pl, ul, t, nm, nw, rfl, (s0.gh).trans n2, gx, upd_same, gi, hc.same n3, sqL_same hm n3, n3 _ _ hd, dn, dl, hn.same n3, hpa.same n3, hsu.same n3, fun G' H' i c m d n p' u st1 gp' hp' e1 e2 e3 e4 => ⟨rfl, ?_⟩⟩
  have st1 := s0.trans (Step.absorb hx1 st1)
  have st2 := st1.freeze (q := x) hx hp' gp'
  have sm : Same G' (upd G' x (.ins C dx (stf st.kd i c m d t (.str nm) (.str nw) n p' u))) := Same.new (Same.refl G') gp'
  exact k _ H' st2 ⟨dx, i, c, m, d, _, upd_same, stf_fl, sm _ _ e1, sm _ _ e2, sm _ _ e3, sm _ _ e4⟩ hx
/-- the default tuples -/
structure Dfl (K : PySem.W.Frag) (H : Hp) : Prop where
  n : Sq K H (Hd.kwAt ("Step", some "__init__") "named" K) []
  p : Sq K H (Hd.kwAt ("Step", some "__init__") "pairs" K) []
  s : Sq K H (Hd.kwAt ("Step", some "__init__") "sums" K) []
end Bs
namespace Pf
open PySem PySem.Spec PyProof.Rows L2 Bs SX
variable {P : Program} {w : World} {K : PySem.W.Frag} {mg : Str → Option Value} {base : Heap}
theorem dfl_ (T : Tx K mg) (H : Hp) : Dfl K H := ⟨.inr (Hd.tupAtB_ok (ex_15 T) H), .inr (Hd.tupAtB_ok (ex_16 T) H), .inr (Hd.tupAtB_ok (ex_17 T) H)⟩
theorem kws_S : d_Step_init.2.kws K = [(("table" : Str), V.non), (("name" : Str), V.str ""), (("new" : Str), V.str ""), (("named" : Str), dNa K), (("pairs" : Str), dPa K), (("sums" : Str), dSu K)] := rfl
theorem kp_Step_table (T : Tx K mg) : MakP P w K mg base 1 "Step" (CSt K) 5 ["table"] (fun vs zs => (fun (vs mv zs : List V) => vs ++ ((zs.drop 0).take 1 ++ ((mv.drop 0).take 1 ++ ((mv.drop 1).take 1 ++ ((mv.drop 2).take 1 ++ ((mv.drop 3).take 1 ++ ((mv.drop 4).take 1))))))) vs [V.str "", V.str "", dNa K, dPa K, dSu K] zs) (spSInit K (CSt K)) := by
  obtain ⟨fd, RO, F⟩ := o_sinit (P := P) (w := w) (base := base) T
  obtain ⟨mv, hb⟩ := FunD.kbinds0 F 6 ["table"] [(("name" : Str), V.str ""), (("new" : Str), V.str ""), (("named" : Str), dNa K), (("pairs" : Str), dPa K), (("sums" : Str), dSu K)] (fun {α} (vs mv zs : List α) => vs ++ ((zs.drop 0).take 1 ++ ((mv.drop 0).take 1 ++ ((mv.drop 1).take 1 ++ ((mv.drop 2).take 1 ++ ((mv.drop 3).take 1 ++ ((mv.drop 4).take 1))))))) (by rw [kws_S]; exact fun z => by cases z) (fun q h => by rw [kws_S]; simp only [List.mem_cons, List.mem_nil_iff, or_false] at h ⊢; rcases h with rfl | rfl | rfl | rfl | rfl <;> simp) (fun r1 r2 r3 => r1.append (((r3.drop 0).take 1).append (((r2.drop 0).take 1).append (((r2.drop 1).take 1).append (((r2.drop 2).take 1).append (((r2.drop 3).take 1).append ((r2.drop 4).take 1)))))))
    (ps := ["self", "kind", "inputs", "columns", "measures", "depths", "table", "name", "new", "named", "pairs", "sums"]) (fun D doc pm an cdv ct us mv ws h1 h2 h3 => match us, mv, ws, h1, h2, h3 with | [_, _, _, _, _, _], [_, _, _, _, _], [_], _, _, _ => ⟨_, _, _, _, _, _, rfl, rfl, ⟨_, _, _, _, _, _, rfl, rfl, ⟨_, _, _, _, _, _, rfl, rfl, ⟨_, _, _, _, _, _, rfl, rfl, ⟨_, _, _, _, _, _, rfl, rfl, rfl⟩⟩⟩⟩⟩)
  exact ⟨_, fd, _, _, mkr_Step_ T, RO, g_Step T, hb⟩
theorem kp_Step_name_named (T : Tx K mg) : MakP P w K mg base 1 "Step" (CSt K) 5 ["name", "named"] (fun vs zs => (fun (vs mv zs : List V) => vs ++ ((mv.drop 0).take 1 ++ ((zs.drop 0).take 1 ++ ((mv.drop 1).take 1 ++ ((zs.drop 1).take 1 ++ ((mv.drop 2).take 1 ++ ((mv.drop 3).take 1))))))) vs [V.non, V.str "", dPa K, dSu K] zs) (spSInit K (CSt K)) := by
  obtain ⟨fd, RO, F⟩ := o_sinit (P := P) (w := w) (base := base) T
  obtain ⟨mv, hb⟩ := FunD.kbinds0 F 6 ["name", "named"] [(("table" : Str), V.non), (("new" : Str), V.str ""), (("pairs" : Str), dPa K), (("sums" : Str), dSu K)] (fun {α} (vs mv zs : List α) => vs ++ ((mv.drop 0).take 1 ++ ((zs.drop 0).take 1 ++ ((mv.drop 1).take 1 ++ ((zs.drop 1).take 1 ++ ((mv.drop 2).take 1 ++ ((mv.drop 3).take 1))))))) (by rw [kws_S]; exact fun z => by cases z) (fun q h => by rw [kws_S]; simp only [List.mem_cons, List.mem_nil_iff, or_false] at h ⊢; rcases h with rfl | rfl | rfl | rfl <;> simp) (fun r1 r2 r3 => r1.append (((r2.drop 0).take 1).append (((r3.drop 0).take 1).append (((r2.drop 1).take 1).append (((r3.drop 1).take 1).append (((r2.drop 2).take 1).append ((r2.drop 3).take 1)))))))
    (ps := ["self", "kind", "inputs", "columns", "measures", "depths", "table", "name", "new", "named", "pairs", "sums"]) (fun D doc pm an cdv ct us mv ws h1 h2 h3 => match us, mv, ws, h1, h2, h3 with | [_, _, _, _, _, _], [_, _, _, _], [_, _], _, _, _ => ⟨_, _, _, _, _, _, rfl, rfl, ⟨_, _, _, _, _, _, rfl, rfl, ⟨_, _, _, _, _, _, rfl, rfl, ⟨_, _, _, _, _, _, rfl, rfl, rfl⟩⟩⟩⟩)
  exact ⟨_, fd, _, _, mkr_Step_ T, RO, g_Step T, hb⟩
theorem kp_Step_name_new_named (T : Tx K mg) : MakP P w K mg base 1 "Step" (CSt K) 5 ["name", "new", "named"] (fun vs zs => (fun (vs mv zs : List V) => vs ++ ((mv.drop 0).take 1 ++ ((zs.drop 0).take 1 ++ ((zs.drop 1).take 1 ++ ((zs.drop 2).take 1 ++ ((mv.drop 1).take 1 ++ ((mv.drop 2).take 1))))))) vs [V.non, dPa K, dSu K] zs) (spSInit K (CSt K)) := by
  obtain ⟨fd, RO, F⟩ := o_sinit (P := P) (w := w) (base := base) T
  obtain ⟨mv, hb⟩ := FunD.kbinds0 F 6 ["name", "new", "named"] [(("table" : Str), V.non), (("pairs" : Str), dPa K), (("sums" : Str), dSu K)] (fun {α} (vs mv zs : List α) => vs ++ ((mv.drop 0).take 1 ++ ((zs.drop 0).take 1 ++ ((zs.drop 1).take 1 ++ ((zs.drop 2).take 1 ++ ((mv.drop 1).take 1 ++ ((mv.drop 2).take 1))))))) (by rw [kws_S]; exact fun z => by cases z) (fun q h => by rw [kws_S]; simp only [List.mem_cons, List.mem_nil_iff, or_false] at h ⊢; rcases h with rfl | rfl | rfl <;> simp) (fun r1 r2 r3 => r1.append (((r2.drop 0).take 1).append (((r3.drop 0).take 1).append (((r3.drop 1).take 1).append (((r3.drop 2).take 1).append (((r2.drop 1).take 1).append ((r2.drop 2).take 1)))))))
    (ps := ["self", "kind", "inputs", "columns", "measures", "depths", "table", "name", "new", "named", "pairs", "sums"]) (fun D doc pm an cdv ct us mv ws h1 h2 h3 => match us, mv, ws, h1, h2, h3 with | [_, _, _, _, _, _], [_, _, _], [_, _, _], _, _, _ => ⟨_, _, _, _, _, _, rfl, rfl, ⟨_, _, _, _, _, _, rfl, rfl, ⟨_, _, _, _, _, _, rfl, rfl, rfl⟩⟩⟩)
  exact ⟨_, fd, _, _, mkr_Step_ T, RO, g_Step T, hb⟩
theorem kp_Step_named (T : Tx K mg) : MakP P w K mg base 1 "Step" (CSt K) 5 ["named"] (fun vs zs => (fun (vs mv zs : List V) => vs ++ ((mv.drop 0).take 1 ++ ((mv.drop 1).take 1 ++ ((mv.drop 2).take 1 ++ ((zs.drop 0).take 1 ++ ((mv.drop 3).take 1 ++ ((mv.drop 4).take 1))))))) vs [V.non, V.str "", V.str "", dPa K, dSu K] zs) (spSInit K (CSt K)) := by
  obtain ⟨fd, RO, F⟩ := o_sinit (P := P) (w := w) (base := base) T
  obtain ⟨mv, hb⟩ := FunD.kbinds0 F 6 ["named"] [(("table" : Str), V.non), (("name" : Str), V.str ""), (("new" : Str), V.str ""), (("pairs" : Str), dPa K), (("sums" : Str), dSu K)] (fun {α} (vs mv zs : List α) => vs ++ ((mv.drop 0).take 1 ++ ((mv.drop 1).take 1 ++ ((mv.drop 2).take 1 ++ ((zs.drop 0).take 1 ++ ((mv.drop 3).take 1 ++ ((mv.drop 4).take 1))))))) (by rw [kws_S]; exact fun z => by cases z) (fun q h => by rw [kws_S]; simp only [List.mem_cons, List.mem_nil_iff, or_false] at h ⊢; rcases h with rfl | rfl | rfl | rfl | rfl <;> simp) (fun r1 r2 r3 => r1.append (((r2.drop 0).take 1).append (((r2.drop 1).take 1).append (((r2.drop 2).take 1).append (((r3.drop 0).take 1).append (((r2.drop 3).take 1).append ((r2.drop 4).take 1)))))))
    (ps := ["self", "kind", "inputs", "columns", "measures", "depths", "table", "name", "new", "named", "pairs", "sums"]) (fun D doc pm an cdv ct us mv ws h1 h2 h3 => match us, mv, ws, h1, h2, h3 with | [_, _, _, _, _, _], [_, _, _, _, _], [_], _, _, _ => ⟨_, _, _, _, _, _, rfl, rfl, ⟨_, _, _, _, _, _, rfl, rfl, ⟨_, _, _, _, _, _, rfl, rfl, ⟨_, _, _, _, _, _, rfl, rfl, ⟨_, _, _, _, _, _, rfl, rfl, rfl⟩⟩⟩⟩⟩)
  exact ⟨_, fd, _, _, mkr_Step_ T, RO, g_Step T, hb⟩
theorem kp_Step_named_sums (T : Tx K mg) : MakP P w K mg base 1 "Step" (CSt K) 5 ["named", "sums"] (fun vs zs => (fun (vs mv zs : List V) => vs ++ ((mv.drop 0).take 1 ++ ((mv.drop 1).take 1 ++ ((mv.drop 2).take 1 ++ ((zs.drop 0).take 1 ++ ((mv.drop 3).take 1 ++ ((zs.drop 1).take 1))))))) vs [V.non, V.str "", V.str "", dPa K] zs) (spSInit K (CSt K)) := by
  obtain ⟨fd, RO, F⟩ := o_sinit (P := P) (w := w) (base := base) T
  obtain ⟨mv, hb⟩ := FunD.kbinds0 F 6 ["named", "sums"] [(("table" : Str), V.non), (("name" : Str), V.str ""), (("new" : Str), V.str ""), (("pairs" : Str), dPa K)] (fun {α} (vs mv zs : List α) => vs ++ ((mv.drop 0).take 1 ++ ((mv.drop 1).take 1 ++ ((mv.drop 2).take 1 ++ ((zs.drop 0).take 1 ++ ((mv.drop 3).take 1 ++ ((zs.drop 1).take 1))))))) (by rw [kws_S]; exact fun z => by cases z) (fun q h => by rw [kws_S]; simp only [List.mem_cons, List.mem_nil_iff, or_false] at h ⊢; rcases h with rfl | rfl | rfl | rfl <;> simp) (fun r1 r2 r3 => r1.append (((r2.drop 0).take 1).append (((r2.drop 1).take 1).append (((r2.drop 2).take 1).append (((r3.drop 0).take 1).append (((r2.drop 3).take 1).append ((r3.drop 1).take 1)))))))
    (ps := ["self", "kind", "inputs", "columns", "measures", "depths", "table", "name", "new", "named", "pairs", "sums"]) (fun D doc pm an cdv ct us mv ws h1 h2 h3 => match us, mv, ws, h1, h2, h3 with | [_, _, _, _, _, _], [_, _, _, _], [_, _], _, _, _ => ⟨_, _, _, _, _, _, rfl, rfl, ⟨_, _, _, _, _, _, rfl, rfl, ⟨_, _, _, _, _, _, rfl, rfl, ⟨_, _, _, _, _, _, rfl, rfl, rfl⟩⟩⟩⟩)
  exact ⟨_, fd, _, _, mkr_Step_ T, RO, g_Step T, hb⟩
end Pf
namespace Bs
open PySem PySem.Spec PyProof.Rows L2 SX
variable {P : Program} {w : World} {K : PySem.W.Frag} {mg : Str → Option Value} {base : Heap}
abbrev kScan : List Nat := [115, 99, 97, 110]
theorem kScan_ : ("scan" : Str) = S kScan := by decide +kernel
abbrev kWhere : List Nat := [119, 104, 101, 114, 101]
theorem kWhere_ : ("where" : Str) = S kWhere := by decide +kernel
abbrev kCompute : List Nat := [99, 111, 109, 112, 117, 116, 101]
theorem kCompute_ : ("compute" : Str) = S kCompute := by decide +kernel
abbrev kEqual : List Nat := [101, 113, 117, 97, 108]
theorem kEqual_ : ("equal" : Str) = S kEqual := by decide +kernel
abbrev kKeep : List Nat := [107, 101, 101, 112]
theorem kKeep_ : ("keep" : Str) = S kKeep := by decide +kernel
abbrev kDistinct : List Nat := [100, 105, 115, 116, 105, 110, 99, 116]
theorem kDistinct_ : ("distinct" : Str) = S kDistinct := by decide +kernel
abbrev kGroup : List Nat := [103, 114, 111, 117, 112]
theorem kGroup_ : ("group" : Str) = S kGroup := by decide +kernel
abbrev kSort : List Nat := [115, 111, 114, 116]
theorem kSort_ : ("sort" : Str) = S kSort := by decide +kernel
abbrev kOwn : List Nat := [111, 119, 110]
theorem kOwn_ : ("own" : Str) = S kOwn := by decide +kernel
abbrev kSplit : List Nat := [115, 112, 108, 105, 116]
theorem kSplit_ : ("split" : Str) = S kSplit := by decide +kernel
abbrev kBroadcast : List Nat := [98, 114, 111, 97, 100, 99, 97, 115, 116]
theorem kBroadcast_ : ("broadcast" : Str) = S kBroadcast := by decide +kernel
abbrev kGather : List Nat := [103, 97, 116, 104, 101, 114]
theorem kGather_ : ("gather" : Str) = S kGather := by decide +kernel
abbrev kMerge : List Nat := [109, 101, 114, 103, 101]
theorem kMerge_ : ("merge" : Str) = S kMerge := by decide +kernel
/-- o.m(e, .., *v): the n first ones, then the rest as a new tuple -/
def starS (n : Nat) (sp : Sp) : Sp := fun vs H Q E => ∃ ws rest : List V, vs = ws ++ rest ∧ ws.length = n ∧ rest.length ≤ sizeLine ∧ ∀ p, H p = none → sp (ws ++ [V.ref p]) (upd H p (.tup rest)) Q E
structure DpOk (st : Stp) : Prop where
  nd : (st.ds.map (·.1)).Nodup
  le : st.ds.length ≤ 900
/-- a new step over this one with the same columns -/
abbrev MkSt (K : PySem.W.Frag) (C : Addr) (G H : Hp) (st : Stp) (ins : List V) (Q : VK) : Prop := ∀ (G' H' : Hp) (x : Addr), Step none G H G' H' → StAt K C G' x st ins → H x = none → Q (.ref x) H'
def spAlike (K : PySem.W.Frag) (C : Addr) : Sp := fun vs H Q _ => ∃ (G : Hp) (a n : Addr) (k nm : Str) (kd : List Nat) (st : Stp) (ins nl : List V), vs = [.ref a, .str k, .str nm, .ref n] ∧ k = S kd ∧ Same G H ∧ StAt K C G a st ins ∧ DpOk st ∧ Sq K H n nl ∧ MkSt K C G H { st with kd := kd } [.ref a] Q
def spMWhere (K : PySem.W.Frag) (C : Addr) : Sp := fun vs H Q _ => ∃ (G : Hp) (a c : Addr) (r : List Nat) (st : Stp) (ins : List V) (xs : List (List Nat)), vs = [.ref a, .str (S r), .ref c] ∧ Nm r ∧ Same G H ∧ StAt K C G a st ins ∧ DpOk st ∧ SqT K H c (sV xs) ∧ Pl st xs ∧ 1 ≤ xs.length ∧ xs.length ≤ 8 ∧ MkSt K C G H { st with kd := kWhere } [.ref a] Q
def spMSorted (K : PySem.W.Frag) (C : Addr) (kd : List Nat) : Sp := fun vs H Q _ => ∃ (G : Hp) (a c : Addr) (st : Stp) (ins : List V) (xs : List (List Nat)), vs = [.ref a, .ref c] ∧ Same G H ∧ StAt K C G a st ins ∧ DpOk st ∧ SqT K H c (sV xs) ∧ Pl st xs ∧ xs.Nodup ∧ 1 ≤ xs.length ∧ xs.length ≤ 4 ∧ MkSt K C G H { st with kd := kd } [.ref a] Q
def spMRuled (K : PySem.W.Frag) (C : Addr) (kd : List Nat) : Sp := fun vs H Q _ => ∃ (G : Hp) (a c : Addr) (r : List Nat) (st : Stp) (ins : List V) (xs : List (List Nat)), vs = [.ref a, .str (S r), .ref c] ∧ Nm r ∧ Same G H ∧ StAt K C G a st ins ∧ DpOk st ∧ SqT K H c (sV xs) ∧ Pl st xs ∧ xs.Nodup ∧ 1 ≤ xs.length ∧ xs.length ≤ 3 ∧ MkSt K C G H { st with kd := kd } [.ref a] Q
def spMEqual (K : PySem.W.Frag) (C : Addr) : Sp := fun vs H Q _ => ∃ (G : Hp) (a : Addr) (x y : List Nat) (st : Stp) (ins : List V), vs = [.ref a, .str (S x), .str (S y)] ∧ x ≠ y ∧ Same G H ∧ StAt K C G a st ins ∧ DpOk st ∧ Pl st [x, y] ∧ MkSt K C G H { st with kd := kEqual } [.ref a] Q
def spMPlain (K : PySem.W.Frag) (C : Addr) (kd : List Nat) : Sp := fun vs H Q _ => ∃ (G : Hp) (a : Addr) (st : Stp) (ins : List V), vs = [.ref a] ∧ Same G H ∧ StAt K C G a st ins ∧ DpOk st ∧ MkSt K C G H { st with kd := kd } [.ref a] Q
def spMDistinct (K : PySem.W.Frag) (C : Addr) : Sp := fun vs H Q _ => ∃ (G : Hp) (a : Addr) (st : Stp) (ins : List V), vs = [.ref a] ∧ Same G H ∧ StAt K C G a st ins ∧ DpOk st ∧ st.ms = [] ∧ MkSt K C G H { st with kd := kDistinct } [.ref a] Q
theorem StAt.obj {C : Addr} {G : Hp} {a : Addr} {st : Stp} {ins : List V} (h : StAt K C G a st ins) : ∃ dx fs, G a = some (.ins C dx fs) ∧ ∀ x, x ∉ stN → fs.lookup x = none := by
  obtain ⟨dx, i, cc, m, d, fs, h1, h2, _⟩ := h.ex
  exact ⟨dx, fs, h1, h2.no⟩
end Bs
namespace Pf
open PySem PySem.Spec PyProof.Rows L2 Bs SX
variable {P : Program} {w : World} {K : PySem.W.Frag} {mg : Str → Option Value} {base : Heap}
abbrev N_Step_alike : List Str := ["self", "kind", "name", "named"]
theorem sc_Step_alike : FnScope N_Step_alike ["self", "kind", "name", "named"] (defScope s_Step_alike) := ⟨rfl, rfl, rfl, by decide +kernel, rfl, by decide +kernel, by decide +kernel⟩
theorem t_alike (T : Tx K mg) : C8.Met P w K mg base 3 (CSt K) "_alike" (spAlike K (CSt K)) [] := by
  obtain ⟨fd, F⟩ := f_Step_alike T
  have kp_Step_name_named := kp_Step_name_named (P := P) (w := w) (base := base) T
  have RB : Binds K fd ["self", "kind", "name", "named"] [] := F.bindsN fun _ _ _ _ _ _ us hl => match us, hl with | [_, _, _, _], _ => rfl
  have RO : FnOk P w K mg base C8.CX0 3 (He.ma K (CSt K) "_alike") fd ["self", "kind", "name", "named"] (spAlike K (CSt K)) := by
    refine ok0' F sc_Step_alike (fun vs H Q E h => ?_) (fun cdv A outer s H vs Q E hr h => ?_)
    · obtain ⟨G, a, n, k, nm, kd, st, ins, nl, rfl, _⟩ := h
      rfl
    obtain ⟨G, a, n, k, nm, kd, st, ins, nl, rfl, rfl, hG, ha, ok, hn, q⟩ := h
    have C0 := cls_Step_ T
    obtain ⟨dx, i, cc, m, d, fs, h1, h2, h3, h4, h5, h6⟩ := ha.ex
    have sl : sizeLine = 16777216 := rfl
    refine ⟨_, (pss_one (ps_ret (pe_mkp kp_Step_name_named hr (by first | decide | omega) rfl (pa_cons (pv 1) (pa_cons (pe_tup (pa_cons (pv 0) pa_nil)) (pa_cons (pe_fldK (K := K) rfl (pv 0) (by rfl)) (pa_cons (pe_fldK (K := K) rfl (pv 0) (by rfl)) (pa_cons (pe_fldK (K := K) rfl (pv 0) (by rfl)) pa_nil))))) (pk_cons (pv 2) (pk_cons (pv 3) pk_nil))))), ?_⟩
    refine ⟨_, rfl, _, rfl, by show 1 ≤ sizeLine; decide, fun l hl => ?_⟩
    have s0 : Step none G H (upd G l (.tup [.ref a])) (upd H l (.tup [.ref a])) := (Step.refl hG).new_ hl
    have gl : upd G l (.tup [.ref a]) l = some (.tup [.ref a]) := upd_same
    generalize upd G l (.tup [.ref a]) = G1 at *
    generalize upd H l (.tup [.ref a]) = H1 at *
    have h1' := s0.gh _ _ (s0.gg _ _ h1)
    refine ⟨_, rfl, a, CSt K, dx, _, _, rfl, h1', C0, noat_Step_columns T, h2.c, _, rfl, a, CSt K, dx, _, _, rfl, h1', C0, noat_Step_measures T, h2.m, _, rfl, a, CSt K, dx, _, _, rfl, h1', C0, noat_Step_depths T, h2.d, _, rfl, _, rfl, rfl, rfl, fun x dx' hx hdx ne => ?_⟩
    have D0 := dfl_ T H1
    exact mkS (st := { st with kd := kd }) s0.gh gl (.inl (SqL.of (s0.gh _ _ (s0.gg _ _ h4)))) (SqL.of (s0.gh _ _ (s0.gg _ _ h5))) (s0.gh _ _ (s0.gg _ _ h6)) ok.nd (Nat.le_trans ok.le (by decide)) (hn.same s0.all) D0.p D0.s (fun G' H' s1 at1 hx0 => q G' H' x (s0.trans s1) at1 (s0.free hx0)) hx hdx ne
  exact ⟨_, fd, _, _, cls_Step_ T, meth_Step_alike T, RO, RB, .nil⟩
abbrev N_Step_where : List Str := ["self", "test", "columns"]
theorem sc_Step_where : FnScope N_Step_where ["self", "test", "columns"] (defScope s_Step_where) := ⟨rfl, rfl, rfl, by decide +kernel, rfl, by decide +kernel, by decide +kernel⟩
theorem tr_where (T : Tx K mg) : MetR P w K mg base 4 (CSt K) "where" (starS 2 (spMWhere K (CSt K))) := by
  obtain ⟨fd, F⟩ := f_Step_where T
  have t_alike := t_alike (P := P) (w := w) (base := base) T
  have c_check_where := c_check_where (P := P) (w := w) (base := base) T
  obtain ⟨oc, od, dV, kV, doc, pm, an, cdv, ct, osl, rfl, lk, hcd, hD, _⟩ := F.ex
  obtain ⟨_, rfl⟩ | ⟨hne, _⟩ := hD
  rotate_left
  · exact absurd rfl hne
  refine ⟨_, cls_Step_ T, meth_Step_where T, StX.fn_star (ps := ["self", "test"]) (pv := "columns") (N := N_Step_where) (sp := spMWhere K (CSt K)) lk hcd sc_Step_where StX.cxUp_none (fun us rest hl => match us, rest, hl with | [_, _], [], _ => rfl | [_, _], _ :: _, _ => rfl) (fun A outer s H vs Q E hr h => ?_)⟩
  obtain ⟨G, a, c, r, st, ins, xs, rfl, nm, hG, ha, ok, hc, hp, l1, l2, q⟩ := h
  obtain ⟨dx, fs, h1, hno⟩ := ha.obj
  suffices hh : ∃ t, PSs (cxOf C8.CX0 P w K mg base N_Step_where d_Step_where.2.qual d_Step_where.2.scope (d_Step_where.1 K) cdv A outer s H E).nox d_Step_where.2.body t ∧ t { nx := fun _ H' => Q .non H', rt := Q } (start N_Step_where [.ref a, .str (S r), .ref c]) H from
    let ⟨t, x1, x2⟩ := hh
    ⟨t, x1.nox, x2⟩
  refine ⟨_, (pss_cons (ps_expr (C8.pe_c c_check_where hr (by first | decide | omega) rfl (pa_cons (pv 0) (pa_cons (pv 1) (pa_cons (pv 2) pa_nil)))))
    (pss_one (ps_ret (C8.pe_mt t_alike hr (by first | decide | omega) (pv 0) (pa_cons pe_str (pa_cons (pv 1) (pa_cons (pv 2) pa_nil))))))), ?_⟩
  refine ⟨_, rfl, _, rfl, _, rfl, G, a, c, r, st, ins, xs, rfl, nm, hG, ha, hc, hp, l1, l2, fun H1 s1 => ?_⟩
  have hc1 := sqT_same hc s1.all
  refine ⟨_, rfl, a, dx, fs, rfl, s1.gh _ _ h1, hno _ (by decide +kernel), _, rfl, _, rfl, G, a, c, _, S r, kWhere, st, ins, _, rfl, kWhere_, s1.gh, ha, ok, .inr hc1, fun G' H' x s2 at' hx => q G' H' x (s1.trans s2) at' (s1.free hx)⟩
abbrev N_Step_sort_by : List Str := ["self", "columns"]
theorem sc_Step_sort_by : FnScope N_Step_sort_by ["self", "columns"] (defScope s_Step_sort_by) := ⟨rfl, rfl, rfl, by decide +kernel, rfl, by decide +kernel, by decide +kernel⟩
theorem tr_sort_by (T : Tx K mg) : MetR P w K mg base 4 (CSt K) "sort_by" (starS 1 (spMSorted K (CSt K) kSort)) := by
  obtain ⟨fd, F⟩ := f_Step_sort_by T
  have t_alike := t_alike (P := P) (w := w) (base := base) T
  have c_check_sorted := c_check_sorted (P := P) (w := w) (base := base) T
  obtain ⟨oc, od, dV, kV, doc, pm, an, cdv, ct, osl, rfl, lk, hcd, hD, _⟩ := F.ex
  obtain ⟨_, rfl⟩ | ⟨hne, _⟩ := hD
  rotate_left
  · exact absurd rfl hne
  refine ⟨_, cls_Step_ T, meth_Step_sort_by T, StX.fn_star (ps := ["self"]) (pv := "columns") (N := N_Step_sort_by) (sp := spMSorted K (CSt K) kSort) lk hcd sc_Step_sort_by StX.cxUp_none (fun us rest hl => match us, rest, hl with | [_], [], _ => rfl | [_], _ :: _, _ => rfl) (fun A outer s H vs Q E hr h => ?_)⟩
  obtain ⟨G, a, c, st, ins, xs, rfl, hG, ha, ok, hc, hp, nd, l1, l2, q⟩ := h
  obtain ⟨dx, fs, h1, hno⟩ := ha.obj
  suffices hh : ∃ t, PSs (cxOf C8.CX0 P w K mg base N_Step_sort_by d_Step_sort_by.2.qual d_Step_sort_by.2.scope (d_Step_sort_by.1 K) cdv A outer s H E).nox d_Step_sort_by.2.body t ∧ t { nx := fun _ H' => Q .non H', rt := Q } (start N_Step_sort_by [.ref a, .ref c]) H from
    let ⟨t, x1, x2⟩ := hh
    ⟨t, x1.nox, x2⟩
  refine ⟨_, (pss_cons (ps_expr (C8.pe_c c_check_sorted hr (by first | decide | omega) rfl (pa_cons (pv 0) (pa_cons (pv 1) pa_nil))))
    (pss_one (ps_ret (C8.pe_mt t_alike hr (by first | decide | omega) (pv 0) (pa_cons pe_str (pa_cons pe_str (pa_cons (pv 1) pa_nil))))))), ?_⟩
  refine ⟨_, rfl, _, rfl, G, a, c, st, ins, xs, rfl, hG, ha, hc, hp, nd, l1, l2, fun H1 s1 => ?_⟩
  have hc1 := sqT_same hc s1.all
  refine ⟨_, rfl, a, dx, fs, rfl, s1.gh _ _ h1, hno _ (by decide +kernel), _, rfl, G, a, c, _, _, kSort, st, ins, _, rfl, kSort_, s1.gh, ha, ok, .inr hc1, fun G' H' x s2 at' hx => q G' H' x (s1.trans s2) at' (s1.free hx)⟩
abbrev N_Step_merge_by : List Str := ["self", "columns"]
theorem sc_Step_merge_by : FnScope N_Step_merge_by ["self", "columns"] (defScope s_Step_merge_by) := ⟨rfl, rfl, rfl, by decide +kernel, rfl, by decide +kernel, by decide +kernel⟩
theorem tr_merge_by (T : Tx K mg) : MetR P w K mg base 4 (CSt K) "merge_by" (starS 1 (spMSorted K (CSt K) kMerge)) := by
  obtain ⟨fd, F⟩ := f_Step_merge_by T
  have t_alike := t_alike (P := P) (w := w) (base := base) T
  have c_check_sorted := c_check_sorted (P := P) (w := w) (base := base) T
  obtain ⟨oc, od, dV, kV, doc, pm, an, cdv, ct, osl, rfl, lk, hcd, hD, _⟩ := F.ex
  obtain ⟨_, rfl⟩ | ⟨hne, _⟩ := hD
  rotate_left
  · exact absurd rfl hne
  refine ⟨_, cls_Step_ T, meth_Step_merge_by T, StX.fn_star (ps := ["self"]) (pv := "columns") (N := N_Step_merge_by) (sp := spMSorted K (CSt K) kMerge) lk hcd sc_Step_merge_by StX.cxUp_none (fun us rest hl => match us, rest, hl with | [_], [], _ => rfl | [_], _ :: _, _ => rfl) (fun A outer s H vs Q E hr h => ?_)⟩
  obtain ⟨G, a, c, st, ins, xs, rfl, hG, ha, ok, hc, hp, nd, l1, l2, q⟩ := h
  obtain ⟨dx, fs, h1, hno⟩ := ha.obj
  suffices hh : ∃ t, PSs (cxOf C8.CX0 P w K mg base N_Step_merge_by d_Step_merge_by.2.qual d_Step_merge_by.2.scope (d_Step_merge_by.1 K) cdv A outer s H E).nox d_Step_merge_by.2.body t ∧ t { nx := fun _ H' => Q .non H', rt := Q } (start N_Step_merge_by [.ref a, .ref c]) H from
    let ⟨t, x1, x2⟩ := hh
    ⟨t, x1.nox, x2⟩
  refine ⟨_, (pss_cons (ps_expr (C8.pe_c c_check_sorted hr (by first | decide | omega) rfl (pa_cons (pv 0) (pa_cons (pv 1) pa_nil))))
    (pss_one (ps_ret (C8.pe_mt t_alike hr (by first | decide | omega) (pv 0) (pa_cons pe_str (pa_cons pe_str (pa_cons (pv 1) pa_nil))))))), ?_⟩
  refine ⟨_, rfl, _, rfl, G, a, c, st, ins, xs, rfl, hG, ha, hc, hp, nd, l1, l2, fun H1 s1 => ?_⟩
  have hc1 := sqT_same hc s1.all
  refine ⟨_, rfl, a, dx, fs, rfl, s1.gh _ _ h1, hno _ (by decide +kernel), _, rfl, G, a, c, _, _, kMerge, st, ins, _, rfl, kMerge_, s1.gh, ha, ok, .inr hc1, fun G' H' x s2 at' hx => q G' H' x (s1.trans s2) at' (s1.free hx)⟩
abbrev N_Step_own_by : List Str := ["self", "rule", "columns"]
theorem sc_Step_own_by : FnScope N_Step_own_by ["self", "rule", "columns"] (defScope s_Step_own_by) := ⟨rfl, rfl, rfl, by decide +kernel, rfl, by decide +kernel, by decide +kernel⟩
theorem tr_own_by (T : Tx K mg) : MetR P w K mg base 4 (CSt K) "own_by" (starS 2 (spMRuled K (CSt K) kOwn)) := by
  obtain ⟨fd, F⟩ := f_Step_own_by T
  have t_alike := t_alike (P := P) (w := w) (base := base) T
  have c_check_ruled := c_check_ruled (P := P) (w := w) (base := base) T
  obtain ⟨oc, od, dV, kV, doc, pm, an, cdv, ct, osl, rfl, lk, hcd, hD, _⟩ := F.ex
  obtain ⟨_, rfl⟩ | ⟨hne, _⟩ := hD
  rotate_left
  · exact absurd rfl hne
  refine ⟨_, cls_Step_ T, meth_Step_own_by T, StX.fn_star (ps := ["self", "rule"]) (pv := "columns") (N := N_Step_own_by) (sp := spMRuled K (CSt K) kOwn) lk hcd sc_Step_own_by StX.cxUp_none (fun us rest hl => match us, rest, hl with | [_, _], [], _ => rfl | [_, _], _ :: _, _ => rfl) (fun A outer s H vs Q E hr h => ?_)⟩
  obtain ⟨G, a, c, r, st, ins, xs, rfl, nm, hG, ha, ok, hc, hp, nd, l1, l2, q⟩ := h
  obtain ⟨dx, fs, h1, hno⟩ := ha.obj
  suffices hh : ∃ t, PSs (cxOf C8.CX0 P w K mg base N_Step_own_by d_Step_own_by.2.qual d_Step_own_by.2.scope (d_Step_own_by.1 K) cdv A outer s H E).nox d_Step_own_by.2.body t ∧ t { nx := fun _ H' => Q .non H', rt := Q } (start N_Step_own_by [.ref a, .str (S r), .ref c]) H from
    let ⟨t, x1, x2⟩ := hh
    ⟨t, x1.nox, x2⟩
  refine ⟨_, (pss_cons (ps_expr (C8.pe_c c_check_ruled hr (by first | decide | omega) rfl (pa_cons (pv 0) (pa_cons (pv 1) (pa_cons (pv 2) pa_nil)))))
    (pss_one (ps_ret (C8.pe_mt t_alike hr (by first | decide | omega) (pv 0) (pa_cons pe_str (pa_cons (pv 1) (pa_cons (pv 2) pa_nil))))))), ?_⟩
  refine ⟨_, rfl, _, rfl, _, rfl, G, a, c, r, st, ins, xs, rfl, nm, hG, ha, hc, hp, nd, l1, l2, fun H1 s1 => ?_⟩
  have hc1 := sqT_same hc s1.all
  refine ⟨_, rfl, a, dx, fs, rfl, s1.gh _ _ h1, hno _ (by decide +kernel), _, rfl, _, rfl, G, a, c, _, S r, kOwn, st, ins, _, rfl, kOwn_, s1.gh, ha, ok, .inr hc1, fun G' H' x s2 at' hx => q G' H' x (s1.trans s2) at' (s1.free hx)⟩
abbrev N_Step_split_by : List Str := ["self", "rule", "columns"]
theorem sc_Step_split_by : FnScope N_Step_split_by ["self", "rule", "columns"] (defScope s_Step_split_by) := ⟨rfl, rfl, rfl, by decide +kernel, rfl, by decide +kernel, by decide +kernel⟩
theorem tr_split_by (T : Tx K mg) : MetR P w K mg base 4 (CSt K) "split_by" (starS 2 (spMRuled K (CSt K) kSplit)) := by
  obtain ⟨fd, F⟩ := f_Step_split_by T
  have t_alike := t_alike (P := P) (w := w) (base := base) T
  have c_check_ruled := c_check_ruled (P := P) (w := w) (base := base) T
  obtain ⟨oc, od, dV, kV, doc, pm, an, cdv, ct, osl, rfl, lk, hcd, hD, _⟩ := F.ex
  obtain ⟨_, rfl⟩ | ⟨hne, _⟩ := hD
  rotate_left
  · exact absurd rfl hne
  refine ⟨_, cls_Step_ T, meth_Step_split_by T, StX.fn_star (ps := ["self", "rule"]) (pv := "columns") (N := N_Step_split_by) (sp := spMRuled K (CSt K) kSplit) lk hcd sc_Step_split_by StX.cxUp_none (fun us rest hl => match us, rest, hl with | [_, _], [], _ => rfl | [_, _], _ :: _, _ => rfl) (fun A outer s H vs Q E hr h => ?_)⟩
  obtain ⟨G, a, c, r, st, ins, xs, rfl, nm, hG, ha, ok, hc, hp, nd, l1, l2, q⟩ := h
  obtain ⟨dx, fs, h1, hno⟩ := ha.obj
  suffices hh : ∃ t, PSs (cxOf C8.CX0 P w K mg base N_Step_split_by d_Step_split_by.2.qual d_Step_split_by.2.scope (d_Step_split_by.1 K) cdv A outer s H E).nox d_Step_split_by.2.body t ∧ t { nx := fun _ H' => Q .non H', rt := Q } (start N_Step_split_by [.ref a, .str (S r), .ref c]) H from
    let ⟨t, x1, x2⟩ := hh
    ⟨t, x1.nox, x2⟩
  refine ⟨_, (pss_cons (ps_expr (C8.pe_c c_check_ruled hr (by first | decide | omega) rfl (pa_cons (pv 0) (pa_cons (pv 1) (pa_cons (pv 2) pa_nil)))))
    (pss_one (ps_ret (C8.pe_mt t_alike hr (by first | decide | omega) (pv 0) (pa_cons pe_str (pa_cons (pv 1) (pa_cons (pv 2) pa_nil))))))), ?_⟩
  refine ⟨_, rfl, _, rfl, _, rfl, G, a, c, r, st, ins, xs, rfl, nm, hG, ha, hc, hp, nd, l1, l2, fun H1 s1 => ?_⟩
  have hc1 := sqT_same hc s1.all
  refine ⟨_, rfl, a, dx, fs, rfl, s1.gh _ _ h1, hno _ (by decide +kernel), _, rfl, _, rfl, G, a, c, _, S r, kSplit, st, ins, _, rfl, kSplit_, s1.gh, ha, ok, .inr hc1, fun G' H' x s2 at' hx => q G' H' x (s1.trans s2) at' (s1.free hx)⟩
abbrev N_Step_broadcast : List Str := ["self"]
theorem sc_Step_broadcast : FnScope N_Step_broadcast ["self"] (defScope s_Step_broadcast) := ⟨rfl, rfl, rfl, by decide +kernel, rfl, by decide +kernel, by decide +kernel⟩
theorem t_broadcast (T : Tx K mg) : C8.Met P w K mg base 4 (CSt K) "broadcast" (spMPlain K (CSt K) kBroadcast) [] := by
  obtain ⟨fd, F⟩ := f_Step_broadcast T
  have t_alike := t_alike (P := P) (w := w) (base := base) T
  have RB : Binds K fd ["self"] [] := F.bindsN fun _ _ _ _ _ _ us hl => match us, hl with | [_], _ => rfl
  have RO : FnOk P w K mg base C8.CX0 4 (He.ma K (CSt K) "broadcast") fd ["self"] (spMPlain K (CSt K) kBroadcast) := by
    refine ok0' F sc_Step_broadcast (fun vs H Q E h => ?_) (fun cdv A outer s H vs Q E hr h => ?_)
    · obtain ⟨G, a, st, ins, rfl, hG, ha, ok, q⟩ := h
      rfl
    obtain ⟨G, a, st, ins, rfl, hG, ha, ok, q⟩ := h
    obtain ⟨dx, fs, h1, hno⟩ := ha.obj
    refine ⟨_, (pss_one (ps_ret (C8.pe_mt t_alike hr (by first | decide | omega) (pv 0) (pa_cons pe_str (pa_cons pe_str (pa_cons (pe_tup pa_nil) pa_nil)))))), ?_⟩
    refine ⟨_, rfl, a, dx, fs, rfl, hG _ _ h1, hno _ (by decide +kernel), by show 0 ≤ sizeLine; decide, fun l hl => ?_⟩
    have s2 : Step none G H G (upd H l (.tup [])) := (Step.refl hG).loc hl (hG.free hl)
    exact ⟨G, a, l, _, _, kBroadcast, st, ins, _, rfl, kBroadcast_, s2.gh, ha, ok, .inr (SqT.of upd_same), fun G' H' x s3 at' hx => q G' H' x (s2.trans s3) at' (s2.free hx)⟩
  exact ⟨_, fd, _, _, cls_Step_ T, meth_Step_broadcast T, RO, RB, .nil⟩
abbrev N_Step_gather : List Str := ["self"]
theorem sc_Step_gather : FnScope N_Step_gather ["self"] (defScope s_Step_gather) := ⟨rfl, rfl, rfl, by decide +kernel, rfl, by decide +kernel, by decide +kernel⟩
theorem t_gather (T : Tx K mg) : C8.Met P w K mg base 4 (CSt K) "gather" (spMPlain K (CSt K) kGather) [] := by
  obtain ⟨fd, F⟩ := f_Step_gather T
  have t_alike := t_alike (P := P) (w := w) (base := base) T
  have RB : Binds K fd ["self"] [] := F.bindsN fun _ _ _ _ _ _ us hl => match us, hl with | [_], _ => rfl
  have RO : FnOk P w K mg base C8.CX0 4 (He.ma K (CSt K) "gather") fd ["self"] (spMPlain K (CSt K) kGather) := by
    refine ok0' F sc_Step_gather (fun vs H Q E h => ?_) (fun cdv A outer s H vs Q E hr h => ?_)
    · obtain ⟨G, a, st, ins, rfl, hG, ha, ok, q⟩ := h
      rfl
    obtain ⟨G, a, st, ins, rfl, hG, ha, ok, q⟩ := h
    obtain ⟨dx, fs, h1, hno⟩ := ha.obj
    refine ⟨_, (pss_one (ps_ret (C8.pe_mt t_alike hr (by first | decide | omega) (pv 0) (pa_cons pe_str (pa_cons pe_str (pa_cons (pe_tup pa_nil) pa_nil)))))), ?_⟩
    refine ⟨_, rfl, a, dx, fs, rfl, hG _ _ h1, hno _ (by decide +kernel), by show 0 ≤ sizeLine; decide, fun l hl => ?_⟩
    have s2 : Step none G H G (upd H l (.tup [])) := (Step.refl hG).loc hl (hG.free hl)
    exact ⟨G, a, l, _, _, kGather, st, ins, _, rfl, kGather_, s2.gh, ha, ok, .inr (SqT.of upd_same), fun G' H' x s3 at' hx => q G' H' x (s2.trans s3) at' (s2.free hx)⟩
  exact ⟨_, fd, _, _, cls_Step_ T, meth_Step_gather T, RO, RB, .nil⟩
abbrev N_Step_distinct : List Str := ["self"]
theorem sc_Step_distinct : FnScope N_Step_distinct ["self"] (defScope s_Step_distinct) := ⟨rfl, rfl, rfl, by decide +kernel, rfl, by decide +kernel, by decide +kernel⟩
theorem t_distinct (T : Tx K mg) : C8.Met P w K mg base 4 (CSt K) "distinct" (spMDistinct K (CSt K)) [] := by
  obtain ⟨fd, F⟩ := f_Step_distinct T
  have t_alike := t_alike (P := P) (w := w) (base := base) T
  have c_check_distinct := c_check_distinct (P := P) (w := w) (base := base) T
  have RB : Binds K fd ["self"] [] := F.bindsN fun _ _ _ _ _ _ us hl => match us, hl with | [_], _ => rfl
  have RO : FnOk P w K mg base C8.CX0 4 (He.ma K (CSt K) "distinct") fd ["self"] (spMDistinct K (CSt K)) := by
    refine ok0' F sc_Step_distinct (fun vs H Q E h => ?_) (fun cdv A outer s H vs Q E hr h => ?_)
    · obtain ⟨G, a, st, ins, rfl, hG, ha, ok, hm, q⟩ := h
      rfl
    obtain ⟨G, a, st, ins, rfl, hG, ha, ok, hm, q⟩ := h
    obtain ⟨dx, fs, h1, hno⟩ := ha.obj
    refine ⟨_, (pss_cons (ps_expr (C8.pe_c c_check_distinct hr (by first | decide | omega) rfl (pa_cons (pv 0) pa_nil)))
    (pss_one (ps_ret (C8.pe_mt t_alike hr (by first | decide | omega) (pv 0) (pa_cons pe_str (pa_cons pe_str (pa_cons (pe_tup pa_nil) pa_nil))))))), ?_⟩
    refine ⟨_, rfl, G, a, st, ins, rfl, hG, ha, hm, ?_⟩
    refine ⟨_, rfl, a, dx, fs, rfl, hG _ _ h1, hno _ (by decide +kernel), by show 0 ≤ sizeLine; decide, fun l hl => ?_⟩
    have s2 : Step none G H G (upd H l (.tup [])) := (Step.refl hG).loc hl (hG.free hl)
    exact ⟨G, a, l, _, _, kDistinct, st, ins, _, rfl, kDistinct_, s2.gh, ha, ok, .inr (SqT.of upd_same), fun G' H' x s3 at' hx => q G' H' x (s2.trans s3) at' (s2.free hx)⟩
  exact ⟨_, fd, _, _, cls_Step_ T, meth_Step_distinct T, RO, RB, .nil⟩
abbrev N_Step_equal : List Str := ["self", "left", "right"]
theorem sc_Step_equal : FnScope N_Step_equal ["self", "left", "right"] (defScope s_Step_equal) := ⟨rfl, rfl, rfl, by decide +kernel, rfl, by decide +kernel, by decide +kernel⟩
theorem t_equal (T : Tx K mg) : C8.Met P w K mg base 4 (CSt K) "equal" (spMEqual K (CSt K)) [] := by
  obtain ⟨fd, F⟩ := f_Step_equal T
  have t_alike := t_alike (P := P) (w := w) (base := base) T
  have c_check_equal := c_check_equal (P := P) (w := w) (base := base) T
  have RB : Binds K fd ["self", "left", "right"] [] := F.bindsN fun _ _ _ _ _ _ us hl => match us, hl with | [_, _, _], _ => rfl
  have RO : FnOk P w K mg base C8.CX0 4 (He.ma K (CSt K) "equal") fd ["self", "left", "right"] (spMEqual K (CSt K)) := by
    refine ok0' F sc_Step_equal (fun vs H Q E h => ?_) (fun cdv A outer s H vs Q E hr h => ?_)
    · obtain ⟨G, a, x0, y0, st, ins, rfl, hne, hG, ha, ok, hp, q⟩ := h
      rfl
    obtain ⟨G, a, x0, y0, st, ins, rfl, hne, hG, ha, ok, hp, q⟩ := h
    obtain ⟨dx, fs, h1, hno⟩ := ha.obj
    refine ⟨_, (pss_cons (ps_expr (C8.pe_c c_check_equal hr (by first | decide | omega) rfl (pa_cons (pv 0) (pa_cons (pv 1) (pa_cons (pv 2) pa_nil)))))
    (pss_one (ps_ret (C8.pe_mt t_alike hr (by first | decide | omega) (pv 0) (pa_cons pe_str (pa_cons pe_str (pa_cons (pe_tup (pa_cons (pv 1) (pa_cons (pv 2) pa_nil))) pa_nil))))))), ?_⟩
    refine ⟨_, rfl, _, rfl, _, rfl, G, a, x0, y0, st, ins, rfl, hne, hG, ha, hp, fun H1 s1 => ?_⟩
    refine ⟨_, rfl, a, dx, fs, rfl, s1.gh _ _ h1, hno _ (by decide +kernel), _, rfl, _, rfl, by show 2 ≤ sizeLine; decide, fun l hl => ?_⟩
    have s2 : Step none G H G (upd H1 l (.tup (sV [x0, y0]))) := s1.loc (s1.free hl) (s1.gh.free hl)
    exact ⟨G, a, l, _, _, kEqual, st, ins, _, rfl, kEqual_, s2.gh, ha, ok, .inr (SqT.of upd_same), fun G' H' x s3 at' hx => q G' H' x (s2.trans s3) at' (s2.free hx)⟩
  exact ⟨_, fd, _, _, cls_Step_ T, meth_Step_equal T, RO, RB, .nil⟩
end Pf
namespace Bs
open PySem PySem.Spec PyProof.Rows L2 SX
variable {P : Program} {w : World} {K : PySem.W.Frag} {mg : Str → Option Value} {base : Heap}
theorem valV_no : ∀ {ds : List (List Nat × Nat)} {c : List Nat}, c ∉ ds.map (·.1) → valV (dV ds) (Sum.inr (S c)) = none
  | [], _, _ => rfl
  | p :: r, c, h => by
    rw [List.map_cons, List.mem_cons, not_or] at h
    show valV ((Sum.inr (S p.1), V.int (p.2 : Nat)) :: dV r) _ = none
    rw [valV_neg fun z => h.1 (S_inj (Sum.inr.inj z)).symm]
    exact valV_no h.2
theorem dV_put {ds : List (List Nat × Nat)} {c : List Nat} {n : Nat} (h : c ∉ ds.map (·.1)) : putK (dV ds) (Sum.inr (S c)) (.int (n : Nat)) = dV (ds ++ [(c, n)]) := by
  rw [putK_new _ (valV_no h)]
  simp
/-- how deep a column is -/
def dep (st : Stp) (x : List Nat) : Nat := (st.ds.lookup x).getD 0
theorem OkS.dep {st : Stp} (h : OkS st) {x : List Nat} (h1 : x ∈ st.cs) (h2 : x ∉ st.ms) : st.ds.lookup x = some (dep st x) ∧ dep st x ≤ 3 := by
  obtain ⟨n, e, l⟩ := h.dp x h1 h2
  unfold Bs.dep
  rw [e]
  exact ⟨rfl, l⟩
theorem OkS.dpo {st : Stp} (h : OkS st) : DpOk st := ⟨h.dn, Nat.le_trans h.dl (by decide)⟩
/-- columns with their depths -/
abbrev dsOf (st : Stp) (zs : List (List Nat)) : List (List Nat × Nat) := zs.map fun x => (x, dep st x)
theorem dsOf_keys (st : Stp) (zs : List (List Nat)) : (dsOf st zs).map (·.1) = zs := by
  unfold dsOf
  rw [List.map_map]
  exact List.map_id _
theorem dsOf_lk {st : Stp} {zs : List (List Nat)} {x : List Nat} (h : x ∈ zs) : (dsOf st zs).lookup x = some (dep st x) := by
  induction zs with
  | nil => cases h
  | cons z r ih =>
    show List.lookup x ((z, dep st z) :: dsOf st r) = _
    rw [List.lookup_cons]
    by_cases e : x = z
    · subst e
      rw [beq_self_eq_true]
    · rw [beq_false_of_ne e]
      exact ih ((List.mem_cons.mp h).resolve_left e)
theorem dsOf_app (st : Stp) (zs : List (List Nat)) (x : List Nat) : dsOf st zs ++ [(x, dep st x)] = dsOf st (zs ++ [x]) := by
  unfold dsOf
  rw [List.map_append]
  rfl
theorem nodup_take {xs : List (List Nat)} {i : Nat} {x : List Nat} (nd : xs.Nodup) (h : xs[i]? = some x) : x ∉ xs.take i := by
  have hn : (xs.take (i + 1)).Nodup := nd.sublist (List.take_sublist _ _)
  rw [List.take_succ, h, List.nodup_append] at hn
  exact fun z => hn.2.2 x z x (by simp) rfl
theorem filter_take {xs : List (List Nat)} {i : Nat} {x : List Nat} {f : List Nat → Bool} (h : xs[i]? = some x) : (xs.take (i + 1)).filter f = (xs.take i).filter f ++ (if f x = true then [x] else []) := by
  rw [List.take_succ, h, List.filter_append]
  show _ ++ List.filter f [x] = _
  rw [List.filter_cons, List.filter_nil]
def spMKeep (K : PySem.W.Frag) (C : Addr) : Sp := fun vs H Q _ => ∃ (G : Hp) (a c : Addr) (st : Stp) (ins : List V) (xs : List (List Nat)), vs = [.ref a, .ref c] ∧ Same G H ∧ StAt K C G a st ins ∧ OkS st ∧ SqT K H c (sV xs) ∧ (∀ x ∈ xs, x ∈ st.cs) ∧ xs.Nodup ∧ 1 ≤ xs.length ∧ xs.length ≤ 60 ∧
  MkSt K C G H ⟨kKeep, xs, xs.filter fun x => decide (x ∈ st.ms), dsOf st (xs.filter fun x => !decide (x ∈ st.ms))⟩ [.ref a] Q
end Bs
namespace Pf
open PySem PySem.Spec PyProof.Rows L2 Bs SX
variable {P : Program} {w : World} {K : PySem.W.Frag} {mg : Str → Option Value} {base : Heap}
abbrev N_Step_keep : List Str := ["self", "columns", "measures", "depths", "column"]
theorem sc_Step_keep : FnScope N_Step_keep ["self", "columns"] (defScope s_Step_keep) := ⟨rfl, rfl, rfl, by decide +kernel, rfl, by decide +kernel, by decide +kernel⟩
theorem tr_keep (T : Tx K mg) : MetR P w K mg base 4 (CSt K) "keep" (starS 1 (spMKeep K (CSt K))) := by
  obtain ⟨fd, F⟩ := f_Step_keep T
  have kp_Step_named := kp_Step_named (P := P) (w := w) (base := base) T
  have c_check_keep := c_check_keep (P := P) (w := w) (base := base) T
  obtain ⟨oc, od, dV', kV', doc, pm, an, cdv, ct, osl, rfl, lk, hcd, hD, _⟩ := F.ex
  obtain ⟨_, rfl⟩ | ⟨hne, _⟩ := hD
  rotate_left
  · exact absurd rfl hne
  refine ⟨_, cls_Step_ T, meth_Step_keep T, StX.fn_star (ps := ["self"]) (pv := "columns") (N := N_Step_keep) (sp := spMKeep K (CSt K)) lk hcd sc_Step_keep StX.cxUp_none (fun us rest hl => match us, rest, hl with | [_], [], _ => rfl | [_], _ :: _, _ => rfl) (fun A outer s H vs Q E hr h => ?_)⟩
  obtain ⟨G, a, c, st, ins, xs, rfl, hG, ha, ok, hc, hp, nd, l1, l2, q⟩ := h
  obtain ⟨dx, i, cc, m, d, fs, h1, h2, h3, h4, h5, h6⟩ := ha.ex
  have C0 := cls_Step_ T
  have hu := hu_of hr
  have sl : sizeLine = 16777216 := rfl
  have hl := sV_len xs
  suffices hh : ∃ t, PSs (cxOf C8.CX0 P w K mg base N_Step_keep d_Step_keep.2.qual d_Step_keep.2.scope (d_Step_keep.1 K) cdv A outer s H E).nox d_Step_keep.2.body t ∧ t { nx := fun _ H' => Q .non H', rt := Q } (start N_Step_keep [.ref a, .ref c]) H from
    let ⟨t, x1, x2⟩ := hh
    ⟨t, x1.nox, x2⟩
  refine ⟨_, (pss_cons (ps_expr (C8.pe_c c_check_keep hr (by first | decide | omega) rfl (pa_cons (pv 0) (pa_cons (pv 1) pa_nil))))
    (pss_cons (ps_set (i := 2) sc_Step_keep.nd rfl (Or.inr rfl) (pe_lc (own := [("column", 4)]) rfl sc_Step_keep.nd (pi_tupK (K := K) rfl (pv 1)) (blkOk_by (N := N_Step_keep) (sc := defScope s_Step_keep) (by decide +kernel)) (fun _ _ _ _ _ => (pg_name (i := 4) sc_Step_keep.nd rfl (Or.inl rfl))) (fun _ _ _ _ _ => pts_one (pt_cmpR (op_in_seqK (K := K) rfl) (pv 4) (pe_fldK (K := K) rfl (pv 0) (by rfl)) (by rfl))) (fun _ _ _ _ _ => (pv 4))))
    (pss_cons (Dm.ps_setDc (i := 3) (own := [("column", 4)]) rfl sc_Step_keep.nd rfl rfl (Dm.sw_dict rfl rfl rfl (by decide +kernel)) (pi_tupK (K := K) rfl (pv 1)) (blkOk_by (N := N_Step_keep) (sc := defScope s_Step_keep) (by decide +kernel)) (fun _ _ _ _ _ => (pg_name (i := 4) sc_Step_keep.nd rfl (Or.inl rfl))) (fun _ _ _ _ _ => pts_one (pt_cmpR (op_notIn_seqK (K := K) rfl) (pv 4) (pv 2) (by rfl))) (fun _ _ _ _ _ => (pv 4)) (fun _ _ _ _ _ => (pe_dget hu (pe_fldK (K := K) rfl (pv 0) (by rfl)) (pv 4) (fun _ _ => rfl))))
    (pss_one (ps_ret (pe_mkp kp_Step_named hr (by first | decide | omega) rfl (pa_cons pe_str (pa_cons (pe_tup (pa_cons (pv 0) pa_nil)) (pa_cons (pv 1) (pa_cons (pv 2) (pa_cons (pv 3) pa_nil))))) (pk_cons (pv 1) pk_nil))))))), ?_⟩
  refine ⟨_, rfl, _, rfl, G, a, c, st, ins, xs, rfl, hG, ha, hc, hp, nd, l1, by omega, fun H1 s1 => ?_⟩
  have hc1 := sqT_same hc s1.all
  refine ⟨_, rfl, c, rfl, ⟨_, hc1⟩, fun D hD => ?_⟩
  have gD := s1.gh.free hD
  have hD0 := s1.free hD
  refine lc_tup (K := K) (a := c) (xs := sV xs) (fun i H' => Step none G H G H' ∧ H' D = some (.lst (sV ((xs.take i).filter fun x => decide (x ∈ st.ms))))) ⟨s1.loc hD0 gD, upd_same⟩ ?_ ?_ ?_
  · rintro i H' _ ⟨s', _⟩
    exact sqT_same hc s'.all
  · rintro i x H' hx ⟨s', hL⟩
    obtain ⟨k, mk, rfl, hi⟩ := sV_at' hx
    refine ⟨rfl, ?_⟩
    refine ⟨_, rfl, _, rfl, a, CSt K, dx, _, _, rfl, s'.gh _ _ h1, C0, noat_Step_measures T, h2.m, m, sV st.ms, rfl, .inl (SqL.of (s'.gh _ _ h5)), rfl, sV_flat _, _, rfl, ?_⟩
    have e1 : inV (.str (S k)) (sV st.ms) = decide (k ∈ st.ms) := inV_sV _ _
    have e2 := filter_take (f := fun x => decide (x ∈ st.ms)) mk
    refine ite2 (fun hb => ?_) (fun hb => ?_)
    · have hb : decide (k ∈ st.ms) = true := e1.symm.trans hb
      refine ⟨_, rfl, _, hL, by rw [sV_len]; have := List.length_filter_le (fun x => decide (x ∈ st.ms)) (xs.take i); rw [List.length_take] at this; omega, s'.loc hD0 gD, ?_⟩
      rw [upd_same, e2, if_pos hb, ← sV_app]
      rfl
    · have hb : ¬ decide (k ∈ st.ms) = true := fun z => hb (e1.trans z)
      refine ⟨s', ?_⟩
      rw [e2, if_neg hb, List.append_nil]
      exact hL
  rintro H2 ⟨s2, hL⟩
  rw [hl, List.take_length] at hL
  generalize hms : (xs.filter fun x => decide (x ∈ st.ms)) = ms at hL
  -- the depths
  have hc2 := sqT_same hc s2.all
  refine ⟨_, rfl, c, rfl, ⟨_, hc2⟩, fun D2 hD2 => ?_⟩
  have nDD : D ≠ D2 := ne_of_none hL hD2
  have gE := s2.gh.free hD2
  have hE0 := s2.free hD2
  refine dc_tup (K := K) (a := c) (xs := sV xs) (fun i H' => Step none G H G H' ∧ H' D = some (.lst (sV ms)) ∧ H' D2 = some (.dK (dV (dsOf st ((xs.take i).filter fun x => !decide (x ∈ ms)))))) ⟨s2.loc hE0 gE, by rw [upd_ne nDD]; exact hL, upd_same⟩ ?_ ?_ ?_
  · rintro i H' _ ⟨s', _, _⟩
    exact sqT_same hc s'.all
  · rintro i x H' hx ⟨s', hL', hD'⟩
    obtain ⟨k, mk, rfl, hi⟩ := sV_at' hx
    refine ⟨rfl, ?_⟩
    refine ⟨_, rfl, _, rfl, D, sV ms, rfl, .inl (SqL.of hL'), rfl, sV_flat _, _, rfl, ?_⟩
    have e1 : (!inV (.str (S k)) (sV ms)) = !decide (k ∈ ms) := by rw [inV_sV]
    have e2 := filter_take (f := fun x => !decide (x ∈ ms)) mk
    refine ite2 (fun hb => ?_) (fun hb => ?_)
    · have hb : (!decide (k ∈ ms)) = true := e1.symm.trans hb
      have hk : k ∉ st.ms := fun z => by
        have : k ∈ ms := by rw [← hms]; exact List.mem_filter.mpr ⟨List.mem_of_getElem? mk, decide_eq_true z⟩
        rw [decide_eq_true this] at hb
        cases hb
      have hv : some (V.int (dep st k : Nat)) = valV (dV st.ds) (Sum.inr (S k)) := (dV_get (ok.dep (hp k (List.mem_of_getElem? mk)) hk).1).symm
      refine ⟨_, rfl, _, rfl, a, CSt K, dx, _, _, rfl, s'.gh _ _ h1, C0, noat_Step_depths T, h2.d, _, rfl, d, _, rfl, .inl ⟨dV st.ds, Sum.inr (S k), .inl (s'.gh _ _ h6), rfl, hv⟩, _, Sum.inr (S k), rfl, hD', ?_, s'.loc hE0 gE, ?_, ?_⟩
      · rw [dV_len, List.length_map]
        have := List.length_filter_le (fun x => !decide (x ∈ ms)) (xs.take i)
        rw [List.length_take] at this
        omega
      · rw [upd_ne nDD]
        exact hL'
      · have hno : k ∉ (dsOf st ((xs.take i).filter fun x => !decide (x ∈ ms))).map (·.1) := by
          rw [dsOf_keys]
          exact fun z => nodup_take nd mk (List.mem_filter.mp z).1
        rw [upd_same, e2, if_pos hb, dV_put hno, dsOf_app]
    · have hb : ¬ (!decide (k ∈ ms)) = true := fun z => hb (e1.trans z)
      refine ⟨s', hL', ?_⟩
      rw [e2, if_neg hb, List.append_nil]
      exact hD'
  rintro H3 ⟨s3, hL3, hD3⟩
  rw [hl, List.take_length] at hD3
  have e5 : (xs.filter fun x => !decide (x ∈ ms)) = xs.filter fun x => !decide (x ∈ st.ms) := by
    refine List.filter_congr fun x hx => ?_
    have : (x ∈ ms) = (x ∈ st.ms) := by
      rw [← hms]
      exact propext ⟨fun z => of_decide_eq_true (List.mem_filter.mp z).2, fun z => List.mem_filter.mpr ⟨hx, decide_eq_true z⟩⟩
    rw [decide_eq_decide.mpr (iff_of_eq this)]
  rw [e5] at hD3
  subst hms
  refine ⟨_, rfl, by show 1 ≤ sizeLine; decide, fun l hl' => ?_⟩
  have s4 : Step none G H (upd G l (.tup [.ref a])) (upd H3 l (.tup [.ref a])) := s3.new_ hl'
  have gl : upd G l (.tup [.ref a]) l = some (.tup [.ref a]) := upd_same
  have kp4 : Same H3 (upd H3 l (.tup [.ref a])) := Same.new (Same.refl H3) hl'
  generalize upd G l (.tup [.ref a]) = G4 at *
  generalize upd H3 l (.tup [.ref a]) = H4 at *
  refine ⟨_, rfl, _, rfl, _, rfl, _, rfl, rfl, rfl, fun x dx' hx hdx ne => ?_⟩
  have D0 := dfl_ T H4
  have lz : (dsOf st (xs.filter fun x => !decide (x ∈ st.ms))).length ≤ 1000 := by
    rw [List.length_map]
    have := List.length_filter_le (fun x => !decide (x ∈ st.ms)) xs
    omega
  have nz : ((dsOf st (xs.filter fun x => !decide (x ∈ st.ms))).map (·.1)).Nodup := by
    rw [dsOf_keys]
    exact nd.sublist List.filter_sublist
  exact mkS (st := ⟨kKeep, xs, _, _⟩) s4.gh gl (.inr (sqT_same hc s4.all)) (SqL.of (kp4 _ _ hL3)) (kp4 _ _ hD3) nz lz (.inr (sqT_same hc s4.all)) D0.p D0.s (fun G' H' s1 at1 hx0 => q G' H' x (s4.trans s1) at1 (s4.free hx0)) hx hdx ne
end Pf
namespace Bs
open PySem PySem.Spec PyProof.Rows L2 SX
variable {P : Program} {w : World} {K : PySem.W.Frag} {mg : Str → Option Value} {base : Heap}
abbrev depI (st : Stp) (xs : List (List Nat)) : List Int := xs.map fun x => ((dep st x : Nat) : Int)
/-- m is the depth of the deepest of these -/
def Mx (st : Stp) (xs : List (List Nat)) (m : Nat) : Prop := (∃ x ∈ xs, dep st x = m) ∧ ∀ x ∈ xs, dep st x ≤ m
theorem Mx.uniq {st : Stp} {xs : List (List Nat)} {m n : Nat} (h : Mx st xs m) (k : Mx st xs n) : m = n := by
  obtain ⟨⟨x, hx, rfl⟩, h2⟩ := h
  obtain ⟨⟨y, hy, rfl⟩, k2⟩ := k
  have := h2 y hy
  have := k2 x hx
  omega
theorem mx_of {st : Stp} {xs : List (List Nat)} {m : Int} (h1 : m ∈ depI st xs) (h2 : ∀ y, y ∈ depI st xs → y ≤ m) : ∃ n : Nat, m = (n : Int) ∧ Mx st xs n := by
  obtain ⟨x, hx, e⟩ := List.mem_map.mp h1
  refine ⟨dep st x, e.symm, ⟨x, hx, rfl⟩, fun y hy => ?_⟩
  have := h2 _ (List.mem_map.mpr ⟨y, hy, rfl⟩)
  omega
theorem in_take {xs : List (List Nat)} {i : Nat} {k : List Nat} {f : List Nat → Int} (h : xs[i]? = some k) : ((xs.take i).map f).map V.int ++ [V.int (f k)] = ((xs.take (i + 1)).map f).map V.int := by
  rw [List.take_succ, h, List.map_append, List.map_append]
  rfl
def spCCompute (K : PySem.W.Frag) (C : Addr) : Sp := fun vs H Q _ => ∃ (G : Hp) (a c : Addr) (n f : List Nat) (st : Stp) (ins : List V) (xs : List (List Nat)), vs = [.ref a, .str (S n), .str (S f), .ref c] ∧ Nm n ∧ Nm f ∧ n ∉ st.cs ∧ Same G H ∧ StAt K C G a st ins ∧ OkS st ∧ SqT K H c (sV xs) ∧ Pl st xs ∧ 1 ≤ xs.length ∧ xs.length ≤ 3 ∧ (∀ x ∈ xs, dep st x ≤ 2) ∧
  ∀ (H' : Hp) (m : Nat), Step none G H G H' → Mx st xs m → Q (.int ((1 + m : Nat) : Int)) H'
def spMCompute (K : PySem.W.Frag) (C : Addr) : Sp := fun vs H Q _ => ∃ (G : Hp) (a c : Addr) (n f : List Nat) (st : Stp) (ins : List V) (xs : List (List Nat)), vs = [.ref a, .str (S n), .str (S f), .ref c] ∧ Nm n ∧ Nm f ∧ n ∉ st.cs ∧ Same G H ∧ StAt K C G a st ins ∧ OkS st ∧ SqT K H c (sV xs) ∧ Pl st xs ∧ 1 ≤ xs.length ∧ xs.length ≤ 3 ∧ (∀ x ∈ xs, dep st x ≤ 2) ∧
  ∀ m : Nat, Mx st xs m → MkSt K C G H ⟨kCompute, st.cs ++ [n], st.ms, st.ds ++ [(n, 1 + m)]⟩ [.ref a] Q
theorem merge_dV (ds : List (List Nat × Nat)) (nd : (ds.map (·.1)).Nodup) : mergeK [] (dV ds) = dV ds := by
  have h : ∀ (as bs : List (List Nat × Nat)), ((as ++ bs).map (·.1)).Nodup → mergeK (dV as) (dV bs) = dV (as ++ bs) := by
    intro as bs
    induction bs generalizing as with
    | nil => intro _; show dV as = _; rw [List.append_nil]
    | cons p r ih =>
      intro hn
      obtain ⟨c, n⟩ := p
      have hc : c ∉ as.map (·.1) := by
        rw [List.map_append, List.nodup_append] at hn
        exact fun z => hn.2.2 c z c (by simp) rfl
      show mergeK (putK (dV as) (Sum.inr (S c)) (.int (n : Nat))) (dV r) = _
      rw [dV_put hc, ih (as ++ [(c, n)]) (by rw [List.append_assoc]; exact hn), List.append_assoc]
      rfl
  exact h [] ds nd
end Bs
namespace Pf
open PySem PySem.Spec PyProof.Rows L2 Bs SX
variable {P : Program} {w : World} {K : PySem.W.Frag} {mg : Str → Option Value} {base : Heap}
abbrev N_check_compute : List Str := ["source", "name", "function", "columns", "deep", "column"]
theorem sc_check_compute : FnScope N_check_compute ["source", "name", "function", "columns"] (defScope s_check_compute) := ⟨rfl, rfl, rfl, by decide +kernel, rfl, by decide +kernel, by decide +kernel⟩
theorem c_check_compute (T : Tx K mg) : C8.Cal P w K mg base 3 "check_compute" (spCCompute K (CSt K)) [] := by
  obtain ⟨fd, F⟩ := f_check_compute T
  have c_refuse := c_refuse (P := P) (w := w) (base := base) T
  have c_is_name := c_is_name (P := P) (w := w) (base := base) T
  have c_has_strange := c_has_strange (P := P) (w := w) (base := base) T
  have c_has_measure := c_has_measure (P := P) (w := w) (base := base) T
  have pe_g_MOST_ARGUMENTS : ∀ {X : Cx} {pos : Pos}, X.mg = mg → Gl X "MOST_ARGUMENTS" → PE X (.Name "MOST_ARGUMENTS" pos) (tC (.int 3)) := fun h1 h2 => by
    obtain ⟨t, e⟩ := ci_MOST_ARGUMENTS T
    exact pe_glob h2 (by rw [h1]; exact e) ⟨t, rfl⟩
  have pe_g_MOST_DEEP : ∀ {X : Cx} {pos : Pos}, X.mg = mg → Gl X "MOST_DEEP" → PE X (.Name "MOST_DEEP" pos) (tC (.int 3)) := fun h1 h2 => by
    obtain ⟨t, e⟩ := ci_MOST_DEEP T
    exact pe_glob h2 (by rw [h1]; exact e) ⟨t, rfl⟩
  refine mkCal F (g_check_compute T) (F.bindsN fun _ _ _ _ _ _ us hl => match us, hl with | [_, _, _, _], _ => rfl) .nil sc_check_compute (fun vs H Q E h => ?_) (fun cdv A outer s H vs Q E hr h => ?_)
  · obtain ⟨G, a, c, n, f, st, ins, xs, rfl, _⟩ := h
    rfl
  obtain ⟨G, a, c, n, f, st, ins, xs, rfl, nmn, nmf, nin, hG, ha, ok, hc, hp, l1, l2, hd, q⟩ := h
  obtain ⟨dx, i, cc, m, d, fs, h1, h2, h3, h4, h5, h6⟩ := ha.ex
  have C0 := cls_Step_ T
  have hu := hu_of hr
  have sl : sizeLine = 16777216 := rfl
  have hl := sV_len xs
  refine ⟨_, (pss_cons (ps_expr (C8.pe_c c_refuse hr (by first | decide | omega) rfl (pa_cons pe_str (pa_cons (pe_or (pe_not (C8.pe_c c_is_name hr (by first | decide | omega) rfl (pa_cons (pv 1) pa_nil))) (pe_or (pe_not (C8.pe_c c_is_name hr (by first | decide | omega) rfl (pa_cons (pv 2) pa_nil))) (pe_one (pe_cmpR (op_in_seqK (K := K) rfl) (pv 1) (pe_fldK (K := K) rfl (pv 0) (by rfl)) (by rfl))))) pa_nil))))
    (pss_cons (ps_expr (C8.pe_c c_refuse hr (by first | decide | omega) rfl (pa_cons pe_str (pa_cons (pe_not (pe_chain op_le op_le pe_int (pe_callB (call_len_seqK (K := K) rfl) (by rfl) (z_len T) boot_len (pa_cons (pv 3) pa_nil)) (pe_g_MOST_ARGUMENTS rfl rfl))) pa_nil))))
    (pss_cons (ps_expr (C8.pe_c c_refuse hr (by first | decide | omega) rfl (pa_cons pe_str (pa_cons (C8.pe_c c_has_strange hr (by first | decide | omega) rfl (pa_cons (pv 0) (pa_cons (pv 3) pa_nil))) pa_nil))))
    (pss_cons (ps_expr (C8.pe_c c_refuse hr (by first | decide | omega) rfl (pa_cons pe_str (pa_cons (C8.pe_c c_has_measure hr (by first | decide | omega) rfl (pa_cons (pv 0) (pa_cons (pv 3) pa_nil))) pa_nil))))
    (pss_cons (ps_set (i := 4) sc_check_compute.nd rfl (Or.inl rfl) (pe_op op_add pe_int (pe_callB (cr_max rfl) (by rfl) (z_max T) boot_max (pa_cons (pe_lc (own := [("column", 5)]) rfl sc_check_compute.nd (pi_tupK (K := K) rfl (pv 3)) (blkOk_by (N := N_check_compute) (sc := defScope s_check_compute) (by decide +kernel)) (fun _ _ _ _ _ => (pg_name (i := 5) sc_check_compute.nd rfl (Or.inl rfl))) (fun _ _ _ _ _ => pts_nil) (fun _ _ _ _ _ => (pe_dget hu (pe_fldK (K := K) rfl (pv 0) (by rfl)) (pv 5) (fun _ _ => rfl)))) pa_nil))))
    (pss_cons (ps_expr (C8.pe_c c_refuse hr (by first | decide | omega) rfl (pa_cons pe_str (pa_cons (pe_cmpR op_gt (pv 4) (pe_g_MOST_DEEP rfl rfl) (nomark _)) pa_nil))))
    (pss_one (ps_ret (pv 4))))))))), ?_⟩
  refine ⟨_, rfl, G, n, rfl, nmn, hG, fun H1 s1 => ⟨_, rfl, _, rfl, iteF ?_⟩⟩
  refine ⟨_, rfl, G, f, rfl, nmf, s1.gh, fun H2 s2 => ⟨_, rfl, _, rfl, iteF ?_⟩⟩
  have s12 := s1.trans s2
  refine ⟨_, rfl, _, rfl, a, CSt K, dx, _, _, rfl, s12.gh _ _ h1, C0, noat_Step_columns T, h2.c, cc, sV st.cs, rfl, .inl (SqL.of (s12.gh _ _ h4)), rfl, sV_flat _, _, bl2 (show inV (.str (S n)) (sV st.cs) = false by rw [inV_sV]; exact decide_eq_false nin), ?_⟩
  have hc2 := sqT_same hc s12.all
  refine ⟨_, rfl, c, _, rfl, .inr hc2, _, _, rfl, rfl, _, rfl, ?_⟩
  refine ite2 (fun _ => ?_) (fun z => absurd (decide_eq_true (by omega)) z)
  refine ⟨_, _, rfl, rfl, _, rfl, ⟨_, bl2 (by rw [decide_eq_true (by omega)]; rfl), ?_⟩⟩
  refine ⟨_, rfl, _, rfl, G, a, c, st, ins, xs, rfl, s12.gh, ha, .inr hc2, by omega, fun H3 s3 => ⟨_, bl2 hp.strange, ?_⟩⟩
  have s13 := s12.trans s3
  refine ⟨_, rfl, _, rfl, G, a, c, st, ins, xs, rfl, s13.gh, ha, .inr (sqT_same hc s13.all), by omega, fun H4 s4 => ⟨_, bl2 hp.measure, ?_⟩⟩
  have s14 := s13.trans s4
  have hc4 := sqT_same hc s14.all
  refine ⟨_, rfl, c, rfl, ⟨_, hc4⟩, fun D hD => ?_⟩
  have gD := s14.gh.free hD
  have hD0 := s14.free hD
  refine lc_tup (K := K) (a := c) (xs := sV xs) (fun i H' => Step none G H G H' ∧ H' D = some (.lst ((depI st (xs.take i)).map V.int))) ⟨s14.loc hD0 gD, upd_same⟩ ?_ ?_ ?_
  · rintro i H' _ ⟨s', _⟩
    exact sqT_same hc s'.all
  · rintro i x H' hx ⟨s', hL⟩
    obtain ⟨k, mk, rfl, hi⟩ := sV_at' hx
    have hk := hp k (List.mem_of_getElem? mk)
    refine ⟨rfl, ?_⟩
    unfold tYes
    have hv : some (V.int (dep st k : Nat)) = valV (dV st.ds) (Sum.inr (S k)) := (dV_get (ok.dep hk.1 hk.2).1).symm
    refine iteT ⟨_, rfl, a, CSt K, dx, _, _, rfl, s'.gh _ _ h1, C0, noat_Step_depths T, h2.d, _, rfl, d, _, rfl, .inl ⟨dV st.ds, Sum.inr (S k), .inl (s'.gh _ _ h6), rfl, hv⟩, _, hL, by rw [List.length_map, List.length_map, List.length_take]; omega, s'.loc hD0 gD, ?_⟩
    rw [upd_same, ← in_take (f := fun x => ((dep st x : Nat) : Int)) mk]
  rintro H5 ⟨s5, hL⟩
  rw [hl, List.take_length] at hL
  refine ⟨D, _, rfl, SqL.of hL, by rw [List.length_map]; omega, fun m hm1 hm2 => ?_⟩
  obtain ⟨mn, rfl, mx⟩ := mx_of hm1 hm2
  obtain ⟨x, hx, hxm⟩ := mx.1
  have := hd x hx
  refine ⟨_, _, rfl, rfl, ?_⟩
  refine ⟨_, rfl, _, _, rfl, rfl, ⟨_, bl2 (decide_eq_false (by omega)), ?_⟩⟩
  have e1 : (1 : Int) + (mn : Int) = ((1 + mn : Nat) : Int) := by omega
  refine ⟨_, rfl, ?_⟩
  show Q (V.int ((1 : Int) + (mn : Int))) H5
  rw [e1]
  exact q H5 mn s5 mx
abbrev N_Step_compute : List Str := ["self", "name", "function", "columns", "deep"]
theorem sc_Step_compute : FnScope N_Step_compute ["self", "name", "function", "columns"] (defScope s_Step_compute) := ⟨rfl, rfl, rfl, by decide +kernel, rfl, by decide +kernel, by decide +kernel⟩
theorem tr_compute (T : Tx K mg) : MetR P w K mg base 4 (CSt K) "compute" (starS 3 (spMCompute K (CSt K))) := by
  obtain ⟨fd, F⟩ := f_Step_compute T
  have kp_Step_name_new_named := kp_Step_name_new_named (P := P) (w := w) (base := base) T
  have c_check_compute := c_check_compute (P := P) (w := w) (base := base) T
  obtain ⟨oc, od, dV', kV', doc, pm, an, cdv, ct, osl, rfl, lk, hcd, hD, _⟩ := F.ex
  obtain ⟨_, rfl⟩ | ⟨hne, _⟩ := hD
  rotate_left
  · exact absurd rfl hne
  refine ⟨_, cls_Step_ T, meth_Step_compute T, StX.fn_star (ps := ["self", "name", "function"]) (pv := "columns") (N := N_Step_compute) (sp := spMCompute K (CSt K)) lk hcd sc_Step_compute StX.cxUp_none (fun us rest hl => match us, rest, hl with | [_, _, _], [], _ => rfl | [_, _, _], _ :: _, _ => rfl) (fun A outer s H vs Q E hr h => ?_)⟩
  obtain ⟨G, a, c, n, f, st, ins, xs, rfl, nmn, nmf, nin, hG, ha, ok, hc, hp, l1, l2, hd, q⟩ := h
  obtain ⟨dx, i, cc, m, d, fs, h1, h2, h3, h4, h5, h6⟩ := ha.ex
  have C0 := cls_Step_ T
  have sl : sizeLine = 16777216 := rfl
  have hl := sV_len xs
  have hn := ok.ln
  have hdl := ok.dl
  suffices hh : ∃ t, PSs (cxOf C8.CX0 P w K mg base N_Step_compute d_Step_compute.2.qual d_Step_compute.2.scope (d_Step_compute.1 K) cdv A outer s H E).nox d_Step_compute.2.body t ∧ t { nx := fun _ H' => Q .non H', rt := Q } (start N_Step_compute [.ref a, .str (S n), .str (S f), .ref c]) H from
    let ⟨t, x1, x2⟩ := hh
    ⟨t, x1.nox, x2⟩
  refine ⟨_, (pss_cons (ps_set (i := 4) sc_Step_compute.nd rfl (Or.inl rfl) (C8.pe_c c_check_compute hr (by first | decide | omega) rfl (pa_cons (pv 0) (pa_cons (pv 1) (pa_cons (pv 2) (pa_cons (pv 3) pa_nil))))))
    (pss_one (ps_ret (pe_mkp kp_Step_name_new_named hr (by first | decide | omega) rfl (pa_cons pe_str (pa_cons (pe_tup (pa_cons (pv 0) pa_nil)) (pa_cons (pe_op op_cat (pe_fldK (K := K) rfl (pv 0) (by rfl)) (pe_lst (pa_cons (pv 1) pa_nil))) (pa_cons (pe_fldK (K := K) rfl (pv 0) (by rfl)) (pa_cons (Dm.pe_ds (pe_fldK (K := K) rfl (pv 0) (by rfl)) (pv 1) (pv 4)) pa_nil))))) (pk_cons (pv 2) (pk_cons (pv 1) (pk_cons (pv 3) pk_nil))))))), ?_⟩
  refine ⟨_, rfl, _, rfl, _, rfl, _, rfl, G, a, c, n, f, st, ins, xs, rfl, nmn, nmf, nin, hG, ha, ok, hc, hp, l1, l2, hd, fun H1 mn s1 mx => ?_⟩
  refine ⟨_, rfl, by show 1 ≤ sizeLine; decide, fun l hl' => ?_⟩
  have s4 : Step none G H (upd G l (.tup [.ref a])) (upd H1 l (.tup [.ref a])) := s1.new_ hl'
  have gl : upd G l (.tup [.ref a]) l = some (.tup [.ref a]) := upd_same
  generalize upd G l (.tup [.ref a]) = G4 at *
  generalize upd H1 l (.tup [.ref a]) = H4 at *
  refine ⟨_, rfl, a, CSt K, dx, _, _, rfl, s4.same _ _ (hG _ _ h1), C0, noat_Step_columns T, h2.c, _, rfl, by show 1 ≤ sizeLine; decide, fun b hb => ?_⟩
  have s5 := s4.loc (o := .lst [V.str (S n)]) (s4.free hb) (s4.gh.free hb)
  have hb5 : upd H4 b (.lst [V.str (S n)]) b = some (.lst (sV [n])) := upd_same
  generalize upd H4 b (.lst [V.str (S n)]) = H5 at *
  have hcc := s5.gh _ _ (s5.gg _ _ h4)
  refine ⟨cc, b, sV st.cs, sV [n], rfl, rfl, hcc, hb5, by rw [sV_len, sV_len]; show _ + 1 ≤ _; omega, fun e he => ?_⟩
  rw [sV_app]
  have s6 := s5.loc (o := .lst (sV (st.cs ++ [n]))) (s5.free he) (s5.gh.free he)
  have he6 : upd H5 e (.lst (sV (st.cs ++ [n]))) e = some (.lst (sV (st.cs ++ [n]))) := upd_same
  generalize upd H5 e (.lst (sV (st.cs ++ [n]))) = H6 at *
  refine ⟨_, rfl, a, CSt K, dx, _, _, rfl, s6.same _ _ (hG _ _ h1), C0, noat_Step_measures T, h2.m, ?_⟩
  intro D hD
  have hD0 := s6.free hD
  have gD := s6.gh.free hD
  have neD : e ≠ D := ne_of_none he6 hD
  have s7 := s6.loc (o := .dK []) hD0 gD
  have ddx : upd H6 D (.dK []) d = some (.dK (dV st.ds)) := s7.gh _ _ (s7.gg _ _ h6)
  have nDd : D ≠ d := fun z => by
    have := s6.gh _ _ (s6.gg _ _ h6)
    rw [← z, hD] at this
    cases this
  refine ⟨_, rfl, a, CSt K, dx, _, _, rfl, s7.same _ _ (hG _ _ h1), C0, noat_Step_depths T, h2.d, d, dV st.ds, rfl, upd_same, ddx, nDd, by rw [dV_len]; omega, ?_⟩
  rw [merge_dV _ ok.dn]
  intro B hB
  have hB0 : upd H6 D (.dK []) B = none := by
    by_cases z : B = D
    · rw [z, upd_same] at hB; cases hB
    · rw [upd_ne z] at hB ⊢; exact hB
  have nBD : B ≠ D := fun z => by rw [z, upd_same] at hB; cases hB
  have hB6 : H6 B = none := by rw [upd_ne nBD] at hB0; exact hB0
  have hno : n ∉ st.ds.map (·.1) := fun z => nin (ok.dk n z)
  refine ⟨_, rfl, _, rfl, Sum.inr (S n), _, rfl, upd_same, by rw [upd_ne nBD.symm, upd_same], ?_⟩
  rw [dV_put hno]
  have hBH := s6.free hB6
  have gB := s6.gh.free hB6
  have neB : e ≠ B := ne_of_none he6 hB6
  have s8 := ((((s6.loc (o := .dK []) hD0 gD).loc (o := .dK (dV st.ds)) hD0 gD).loc (o := .dK []) hBH gB).loc (o := .dK [(Sum.inr (S n), V.int ((1 + mn : Nat) : Int))]) hBH gB).loc (o := .dK (dV (st.ds ++ [(n, 1 + mn)]))) hD0 gD
  have he8 : (upd (upd (upd (upd (upd H6 D (.dK [])) D (.dK (dV st.ds))) B (.dK [])) B (.dK [(Sum.inr (S n), V.int ((1 + mn : Nat) : Int))])) D (.dK (dV (st.ds ++ [(n, 1 + mn)])))) e = some (.lst (sV (st.cs ++ [n]))) := by
    rw [upd_ne neD, upd_ne neB, upd_ne neB, upd_ne neD, upd_ne neD]
    exact he6
  have hD8 : (upd (upd (upd (upd (upd H6 D (.dK [])) D (.dK (dV st.ds))) B (.dK [])) B (.dK [(Sum.inr (S n), V.int ((1 + mn : Nat) : Int))])) D (.dK (dV (st.ds ++ [(n, 1 + mn)])))) D = some (.dK (dV (st.ds ++ [(n, 1 + mn)]))) := upd_same
  generalize (upd (upd (upd (upd (upd H6 D (.dK [])) D (.dK (dV st.ds))) B (.dK [])) B (.dK [(Sum.inr (S n), V.int ((1 + mn : Nat) : Int))])) D (.dK (dV (st.ds ++ [(n, 1 + mn)])))) = H8 at *
  refine ⟨_, rfl, _, rfl, _, rfl, rfl, rfl, fun x dx' hx hdx ne => ?_⟩
  have D0 := dfl_ T H8
  have nz : ((st.ds ++ [(n, 1 + mn)]).map (·.1)).Nodup := by
    rw [List.map_append, List.nodup_append]
    refine ⟨ok.dn, by simp, fun z hz y hy => ?_⟩
    rw [List.mem_singleton.mp hy]
    intro e
    have e : z = n := e
    exact hno (e ▸ hz)
  exact mkS (st := ⟨kCompute, st.cs ++ [n], st.ms, st.ds ++ [(n, 1 + mn)]⟩) s8.gh gl (.inl (SqL.of he8)) (SqL.of (s8.gh _ _ (s8.gg _ _ h5))) hD8 nz (by rw [List.length_append]; show _ + 1 ≤ _; omega) (.inr (sqT_same hc s8.all)) D0.p D0.s (fun G' H' s9 at1 hx0 => q mn mx G' H' x (s8.trans s9) at1 (s8.free hx0)) hx hdx ne
end Pf
namespace Bs
open PySem PySem.Spec PyProof.Rows L2 SX
variable {P : Program} {w : World} {K : PySem.W.Frag} {mg : Str → Option Value} {base : Heap}
theorem count_ : ("count" : Str) = S [99, 111, 117, 110, 116] := by decide +kernel
theorem sum_ : ("sum" : Str) = S [115, 117, 109] := by decide +kernel
theorem op_neDK {X : Cx} (hK : X.K = K) (hu : X.A.units + 64 < cLine) : OpR X (compareOp .NotEq) (rNeD K) := by subst hK; exact op_neD hu
theorem lt64 {A : Around} {k : Nat} (hr : Room k A) : A.units + 64 < cLine := by have := hr.un; omega
/-- a measure: a count, or the sum of a column -/
abbrev Ms := Option (List Nat)
def MsAt (K : PySem.W.Frag) (H : Hp) (v : V) : Ms → Prop
  | none => v = .str "count"
  | some c => ∃ t, v = .ref t ∧ SqT K H t [.str "sum", .str (S c)]
theorem MsAt.same {G H : Hp} {v : V} {m : Ms} (h : MsAt K G v m) (s : Same G H) : MsAt K H v m := by
  cases m with
  | none => exact h
  | some c =>
    obtain ⟨t, e, q⟩ := h
    exact ⟨t, e, sqT_same q s⟩
def msD : Ms → PyData
  | none => .str "count"
  | some c => .tuple [.str "sum", .str (S c)]
theorem MsAt.dp {H : Hp} {v : V} {m : Ms} (h : MsAt K H v m) : Dp K H v (msD m) := by
  cases m with
  | none =>
    rw [show v = .str "count" from h]
    exact .str _
  | some c =>
    obtain ⟨t, rfl, q⟩ := h
    exact .tup q (.cons (.str _) (.cons (.str _) .nil))
theorem ms_shaped {m : Ms} (h : ∀ c, m = some c → Nm c) : SeqAt.shaped (msD m) = true := by
  cases m with
  | none =>
    have e : PyData.strOk "count" = true := by decide +kernel
    unfold SeqAt.shaped
    simp [msD, PyData.canLay0, PyData.depth, e]
  | some c =>
    have e : PyData.strOk "sum" = true := by decide +kernel
    have e2 := (h c rfl).ok
    unfold SeqAt.shaped
    simp [msD, PyData.canLay0, PyData.canLayAll0, PyData.depth, PyData.depthAll, e, e2]
theorem count_shaped : SeqAt.shaped (.str "count") = true := ms_shaped (m := none) (fun _ h => by cases h)
theorem ms_eqv (m : Ms) : PyData.eqv (msD m) (.str "count") = m.isNone := by
  cases m <;> simp [msD, PyData.eqv]
/-- a measure with its name -/
def PairAt (K : PySem.W.Frag) (H : Hp) (v : V) (u : List Nat × Ms) : Prop := ∃ p mv, v = .ref p ∧ SqT K H p [.str (S u.1), mv] ∧ MsAt K H mv u.2
theorem PairAt.same {G H : Hp} {v : V} {u : List Nat × Ms} (h : PairAt K G v u) (s : Same G H) : PairAt K H v u := by
  obtain ⟨p, mv, e, q, r⟩ := h
  exact ⟨p, mv, e, sqT_same q s, r.same s⟩
def PairsAt (K : PySem.W.Frag) (H : Hp) (ul : List V) (us : List (List Nat × Ms)) : Prop := Paired (PairAt K H) ul us
theorem PairsAt.same {G H : Hp} {ul : List V} {us : List (List Nat × Ms)} (h : PairsAt K G ul us) (s : Same G H) : PairsAt K H ul us := by
  unfold PairsAt at h ⊢
  induction h with
  | nil => exact .nil
  | cons a _ ih => exact .cons (a.same s) ih
theorem PairsAt.get {H : Hp} {ul : List V} {us : List (List Nat × Ms)} (h : PairsAt K H ul us) {i : Nat} {v : V} (e : ul[i]? = some v) : ∃ u, us[i]? = some u ∧ PairAt K H v u := LiI.paired_get h e
/-- the columns that are summed -/
abbrev sums (us : List (List Nat × Ms)) : List (List Nat) := us.filterMap (·.2)
theorem sums_take {us : List (List Nat × Ms)} {i : Nat} {u : List Nat × Ms} (h : us[i]? = some u) : sums (us.take (i + 1)) = sums (us.take i) ++ u.2.toList := by
  unfold sums
  rw [List.take_succ, h, List.filterMap_append]
  congr 1
theorem sums_le (us : List (List Nat × Ms)) : (sums us).length ≤ us.length := List.length_filterMap_le _ _
structure GrOk (st : Stp) (xs : List (List Nat)) (us : List (List Nat × Ms)) : Prop where
  pl : Pl st xs
  nd : xs.Nodup
  l4 : xs.length ≤ 4
  l3 : us.length ≤ 3
  l1 : 1 ≤ xs.length + us.length
  un : (us.map (·.1)).Nodup
  nm : ∀ u ∈ us, Nm u.1 ∧ u.1 ∉ xs
  col : ∀ u ∈ us, ∀ c, u.2 = some c → c ∈ st.cs ∧ Nm c
def spIsSum (K : PySem.W.Frag) : Sp := fun vs H Q _ => ∃ (v : V) (m : Ms), vs = [v] ∧ MsAt K H v m ∧ Q (.bl m.isSome) H
def spCGroup (K : PySem.W.Frag) (C : Addr) : Sp := fun vs H Q _ => ∃ (G : Hp) (a c l : Addr) (st : Stp) (ins ul : List V) (xs : List (List Nat)) (us : List (List Nat × Ms)), vs = [.ref a, .ref c, .ref l] ∧ Same G H ∧ StAt K C G a st ins ∧ SqT K H c (sV xs) ∧ H l = some (.lst ul) ∧ PairsAt K H ul us ∧ GrOk st xs us ∧
  ∀ H' : Hp, Step none G H G H' → Q .non H'
end Bs
namespace Pf
open PySem PySem.Spec PyProof.Rows L2 Bs SX
variable {P : Program} {w : World} {K : PySem.W.Frag} {mg : Str → Option Value} {base : Heap}
abbrev N_is_sum : List Str := ["measure"]
theorem sc_is_sum : FnScope N_is_sum ["measure"] (defScope s_is_sum) := ⟨rfl, rfl, rfl, by decide +kernel, rfl, by decide +kernel, by decide +kernel⟩
theorem c_is_sum (T : Tx K mg) : C8.Cal P w K mg base 1 "_is_sum" (spIsSum K) [] := by
  obtain ⟨fd, F⟩ := f_is_sum T
  refine mkCal F (g_is_sum T) (F.bindsN fun _ _ _ _ _ _ us hl => match us, hl with | [_], _ => rfl) .nil sc_is_sum (fun vs H Q E h => ?_) (fun cdv A outer s H vs Q E hr h => ?_)
  · obtain ⟨v, m, rfl, _⟩ := h
    rfl
  obtain ⟨v, m, rfl, hm, q⟩ := h
  refine ⟨_, (pss_one (ps_ret (pe_and (pe_callB (call_isiK' (K := K) rfl) (by rfl) (z_isinstance T) boot_isinstance (pa_cons (pv 0) (pa_cons (pe_bltn (v := .ty "tuple") (by rfl) (z_tuple T) boot_tuple rfl) pa_nil))) (pe_and (pe_cmpR op_eq (pe_callB (call_len_seqK (K := K) rfl) (by rfl) (z_len T) boot_len (pa_cons (pv 0) pa_nil)) pe_int (nomark _)) (pe_one (pe_cmpR op_eq (pe_ix (ix_tupK (K := K) rfl) (pv 0) pe_int (fun _ _ => rfl)) pe_str (nomark _))))))), ?_⟩
  cases m with
  | none =>
    obtain rfl : v = .str "count" := hm
    exact ⟨_, rfl, _, _, .type "str", .type "tuple", false, rfl, .ty "tuple", .base (.str _), kit_ty (by decide +kernel), _, rfl, iteF q⟩
  | some c =>
    obtain ⟨t, rfl, ht⟩ := hm
    refine ⟨_, rfl, _, _, .type "tuple", .type "tuple", true, rfl, .ty "tuple", sqT_ty ht, kit_ty (by decide +kernel), _, rfl, iteT ?_⟩
    refine ⟨_, rfl, t, _, rfl, .inr ht, rfl, _, rfl, ?_⟩
    refine ite2 (fun _ => ?_) (fun c => absurd (decide_eq_true rfl) c)
    exact ⟨_, rfl, t, _, 0, _, rfl, rfl, ht, atI_nat (j := 0) rfl, rfl, q⟩
abbrev N_check_group : List Str := ["source", "columns", "sums", "names", "wrong", "summed", "name", "_", "measure"]
theorem sc_check_group : FnScope N_check_group ["source", "columns", "sums"] (defScope s_check_group) := ⟨rfl, rfl, rfl, by decide +kernel, rfl, by decide +kernel, by decide +kernel⟩
theorem c_check_group (T : Tx K mg) : C8.Cal P w K mg base 3 "check_group" (spCGroup K (CSt K)) [] := by
  obtain ⟨fd, F⟩ := f_check_group T
  have c_refuse := c_refuse (P := P) (w := w) (base := base) T
  have c_is_name := c_is_name (P := P) (w := w) (base := base) T
  have c_has_twice := c_has_twice (P := P) (w := w) (base := base) T
  have c_is_sum := c_is_sum (P := P) (w := w) (base := base) T
  have c_has_strange := c_has_strange (P := P) (w := w) (base := base) T
  have c_has_measure := c_has_measure (P := P) (w := w) (base := base) T
  have pe_g_MOST_KEYS : ∀ {X : Cx} {pos : Pos}, X.mg = mg → Gl X "MOST_KEYS" → PE X (.Name "MOST_KEYS" pos) (tC (.int 4)) := fun h1 h2 => by
    obtain ⟨t, e⟩ := ci_MOST_KEYS T
    exact pe_glob h2 (by rw [h1]; exact e) ⟨t, rfl⟩
  have pe_g_MOST_MEASURES : ∀ {X : Cx} {pos : Pos}, X.mg = mg → Gl X "MOST_MEASURES" → PE X (.Name "MOST_MEASURES" pos) (tC (.int 3)) := fun h1 h2 => by
    obtain ⟨t, e⟩ := ci_MOST_MEASURES T
    exact pe_glob h2 (by rw [h1]; exact e) ⟨t, rfl⟩
  refine mkCal F (g_check_group T) (F.bindsN fun _ _ _ _ _ _ us hl => match us, hl with | [_, _, _], _ => rfl) .nil sc_check_group (fun vs H Q E h => ?_) (fun cdv A outer s H vs Q E hr h => ?_)
  · obtain ⟨G, a, c, l, st, ins, ul, xs, us, rfl, _⟩ := h
    rfl
  obtain ⟨G, a, c, l, st, ins, ul, xs, us, rfl, hG, ha, hc, hl, hp, ok, q⟩ := h
  have sl : sizeLine = 16777216 := rfl
  have hx := sV_len xs
  have h3 := ok.l3
  have h4 := ok.l4
  have hul : ul.length = us.length := Paired.length hp
  refine ⟨_, (pss_cons (ps_setLc (i := 3) (own := [("name", 6), ("_", 7)]) rfl sc_check_group.nd rfl rfl (sw_true rfl rfl rfl (by decide +kernel)) (pi_listK (K := K) rfl (pv 2)) (blkOk_by (N := N_check_group) (sc := defScope s_check_group) (by decide +kernel)) (fun _ _ _ _ _ => (pg_tupK (K := K) (n := 2) rfl rfl (pgs_cons (pg_name (i := 6) sc_check_group.nd rfl (Or.inl rfl)) (pgs_cons (pg_name (i := 7) sc_check_group.nd rfl (Or.inl rfl)) pgs_nil)))) (fun _ _ _ _ _ => pts_nil) (fun _ _ _ _ _ => (pv 6)))
    (pss_cons (ps_setLc (i := 4) (own := [("name", 6)]) rfl sc_check_group.nd rfl rfl (sw_true rfl rfl rfl (by decide +kernel)) (pi_listK (K := K) rfl (pv 3)) (blkOk_by (N := N_check_group) (sc := defScope s_check_group) (by decide +kernel)) (fun _ _ _ _ _ => (pg_name (i := 6) sc_check_group.nd rfl (Or.inl rfl))) (fun _ _ _ _ _ => pts_one (PW.pt (pw_or (pt_not (pt_val (C8.pe_c c_is_name hr (by first | decide | omega) rfl (pa_cons (pv 6) pa_nil)))) (pw_or1 (pt_cmpR (op_in_seqK (K := K) rfl) (pv 6) (pv 1) (by rfl)))))) (fun _ _ _ _ _ => (pv 6)))
    (pss_cons (ps_expr (C8.pe_c c_refuse hr (by first | decide | omega) rfl (pa_cons pe_str (pa_cons (pe_or (pe_cmpR op_gt (pe_callB (call_len_seqK (K := K) rfl) (by rfl) (z_len T) boot_len (pa_cons (pv 4) pa_nil)) pe_int (nomark _)) (pe_one (C8.pe_c c_has_twice hr (by first | decide | omega) rfl (pa_cons (pv 3) pa_nil)))) pa_nil))))
    (pss_cons (ps_expr (C8.pe_c c_refuse hr (by first | decide | omega) rfl (pa_cons pe_str (pa_cons (pe_or (pe_cmpR op_gt (pe_callB (call_len_seqK (K := K) rfl) (by rfl) (z_len T) boot_len (pa_cons (pv 1) pa_nil)) (pe_g_MOST_KEYS rfl rfl) (nomark _)) (pe_one (pe_cmpR op_gt (pe_callB (call_len_seqK (K := K) rfl) (by rfl) (z_len T) boot_len (pa_cons (pv 2) pa_nil)) (pe_g_MOST_MEASURES rfl rfl) (nomark _)))) pa_nil))))
    (pss_cons (ps_expr (C8.pe_c c_refuse hr (by first | decide | omega) rfl (pa_cons pe_str (pa_cons (pe_cmpR op_eq (pe_op op_add (pe_callB (call_len_seqK (K := K) rfl) (by rfl) (z_len T) boot_len (pa_cons (pv 1) pa_nil)) (pe_callB (call_len_seqK (K := K) rfl) (by rfl) (z_len T) boot_len (pa_cons (pv 2) pa_nil))) pe_int (nomark _)) pa_nil))))
    (pss_cons (ps_setLc (i := 5) (own := [("_", 7), ("measure", 8)]) rfl sc_check_group.nd rfl rfl (sw_true rfl rfl rfl (by decide +kernel)) (pi_listK (K := K) rfl (pv 2)) (blkOk_by (N := N_check_group) (sc := defScope s_check_group) (by decide +kernel)) (fun _ _ _ _ _ => (pg_tupK (K := K) (n := 2) rfl rfl (pgs_cons (pg_name (i := 7) sc_check_group.nd rfl (Or.inl rfl)) (pgs_cons (pg_name (i := 8) sc_check_group.nd rfl (Or.inl rfl)) pgs_nil)))) (fun _ _ _ _ _ => pts_one (pt_val (C8.pe_c c_is_sum hr (by first | decide | omega) rfl (pa_cons (pv 8) pa_nil)))) (fun _ _ _ _ _ => (pe_ix (ix_tupK (K := K) rfl) (pv 8) pe_int (fun _ _ => rfl))))
    (pss_cons (ps_expr (C8.pe_c c_refuse hr (by first | decide | omega) rfl (pa_cons pe_str (pa_cons (pe_or (C8.pe_c c_has_strange hr (by first | decide | omega) rfl (pa_cons (pv 0) (pa_cons (pe_op op_cat (pe_callTy call_list_of (by rfl) (z_list T) boot_list (pa_cons (pv 1) pa_nil)) (pv 5)) pa_nil))) (pe_one (C8.pe_c c_has_twice hr (by first | decide | omega) rfl (pa_cons (pv 1) pa_nil)))) pa_nil))))
    (pss_cons (ps_expr (C8.pe_c c_refuse hr (by first | decide | omega) rfl (pa_cons pe_str (pa_cons (pe_callB (cr_any rfl) (by rfl) (z_any T) boot_any (pa_cons (pe_lc (own := [("_", 7), ("measure", 8)]) rfl sc_check_group.nd (pi_listK (K := K) rfl (pv 2)) (blkOk_by (N := N_check_group) (sc := defScope s_check_group) (by decide +kernel)) (fun _ _ _ _ _ => (pg_tupK (K := K) (n := 2) rfl rfl (pgs_cons (pg_name (i := 7) sc_check_group.nd rfl (Or.inl rfl)) (pgs_cons (pg_name (i := 8) sc_check_group.nd rfl (Or.inl rfl)) pgs_nil)))) (fun _ _ _ _ _ => pts_nil) (fun _ _ _ _ _ => (pe_and (pe_cmpR (op_neDK (K := K) rfl (lt64 hr)) (pv 8) pe_str (nomark _)) (pe_one (pe_not (C8.pe_c c_is_sum hr (by first | decide | omega) rfl (pa_cons (pv 8) pa_nil))))))) pa_nil)) pa_nil))))
    (pss_one (ps_expr (C8.pe_c c_refuse hr (by first | decide | omega) rfl (pa_cons pe_str (pa_cons (C8.pe_c c_has_measure hr (by first | decide | omega) rfl (pa_cons (pv 0) (pa_cons (pv 1) pa_nil))) pa_nil))))))))))))), ?_⟩
  refine ⟨_, rfl, l, rfl, ⟨_, SqL.of hl⟩, fun D hD => ?_⟩
  have gD := hG.free hD
  refine lc_list (K := K) (a := l) (xs := ul) (fun i H' => Step none G H G H' ∧ H' D = some (.lst (sV ((us.take i).map (·.1))))) ⟨(Step.refl hG).loc hD gD, upd_same⟩ ?_ ?_ ?_
  · rintro i H' _ ⟨s', _⟩
    exact SqL.of (s'.all _ _ hl)
  · rintro i x H' hx' ⟨s', hL⟩
    obtain ⟨u, hu, p, mv, rfl, hpq, hmv⟩ := (hp.same s'.all).get hx'
    have hi := (List.getElem?_eq_some_iff.mp hu).1
    refine ⟨p, _, rfl, hpq, rfl, _, _, rfl, _, _, rfl, rfl, rfl, ?_⟩
    unfold tYes
    refine iteT ⟨_, rfl, _, hL, by rw [sV_len, List.length_map, List.length_take]; omega, s'.loc hD gD, ?_⟩
    rw [upd_same, List.take_succ, hu, List.map_append, ← sV_app]
    rfl
  rintro H1 ⟨s1, hD1⟩
  rw [hul, List.take_length] at hD1
  have hnl : (sV (us.map (·.1))).length = us.length := by rw [sV_len, List.length_map]
  refine ⟨_, rfl, D, rfl, ⟨_, SqL.of hD1⟩, fun D2 hD2 => ?_⟩
  have gD2 := s1.gh.free hD2
  have hD20 := s1.free hD2
  have nD : D ≠ D2 := ne_of_none hD1 hD2
  have hc1 := sqT_same hc s1.all
  refine lc_list (K := K) (a := D) (xs := sV (us.map (·.1))) (fun i H' => Step none G H G H' ∧ Same H1 H' ∧ H' D2 = some (.lst [])) ⟨s1.loc hD20 gD2, Same.new (Same.refl H1) hD2, upd_same⟩ ?_ ?_ ?_
  · rintro i H' _ ⟨s', k', _⟩
    exact SqL.of (k' _ _ hD1)
  · rintro i x H' hx' ⟨s', k', hL⟩
    obtain ⟨k, mk, rfl, hi⟩ := sV_at' hx'
    rw [List.getElem?_map] at mk
    cases eu : us[i]? with
    | none => rw [eu] at mk; cases mk
    | some u =>
    rw [eu] at mk
    obtain rfl : u.1 = k := Option.some.inj mk
    have hu := ok.nm u (List.mem_of_getElem? eu)
    refine ⟨rfl, ?_⟩
    refine ⟨_, rfl, G, u.1, rfl, hu.1, s'.gh, fun H2 s2 => ?_⟩
    refine ⟨_, rfl, iteF ?_⟩
    refine ⟨_, rfl, _, rfl, c, sV xs, rfl, .inr (sqT_same hc1 (k'.trans s2.all)), rfl, sV_flat _, _, rfl, ?_⟩
    have e0 : inV (.str (S u.1)) (sV xs) = false := by rw [inV_sV]; exact decide_eq_false hu.2
    have s3 := s'.trans s2
    show if inV (.str (S u.1)) (sV xs) = true then _ else _
    rw [e0]
    refine iteF ⟨s3, k'.trans s2.all, s2.all _ _ hL⟩
  rintro H2 ⟨s2, k2, hD22⟩
  have hD1' := k2 _ _ hD1
  have hc2 := sqT_same hc1 k2
  have hl2 := s2.all _ _ hl
  have hp2 := hp.same s2.all
  have nd := ok.un
  refine ⟨_, rfl, D2, _, rfl, .inl (SqL.of hD22), _, _, rfl, rfl, _, rfl, ?_⟩
  refine iteF ⟨_, rfl, D, us.map (·.1), rfl, .inl (SqL.of hD1'), ok.un, by rw [List.length_map]; omega, _, bl2 rfl, ?_⟩
  refine ⟨_, rfl, c, _, rfl, .inr hc2, _, _, rfl, rfl, _, rfl, ?_⟩
  refine ite2 (fun z => absurd z (by rw [decide_eq_true_eq]; omega)) (fun _ => ?_)
  refine ⟨_, rfl, l, _, rfl, .inl (SqL.of hl2), _, _, rfl, rfl, _, bl2 (decide_eq_false (by omega)), ?_⟩
  refine ⟨_, rfl, c, _, rfl, .inr hc2, _, rfl, l, _, rfl, .inl (SqL.of hl2), _, _, rfl, rfl, rfl, _, bl2 (decide_eq_false fun e => by have := V.int.inj e; have := ok.l1; omega), ?_⟩
  -- the columns that are summed
  refine ⟨_, rfl, l, rfl, ⟨_, SqL.of hl2⟩, fun D3 hD3 => ?_⟩
  have gD3 := s2.gh.free hD3
  have hD30 := s2.free hD3
  refine lc_list (K := K) (a := l) (xs := ul) (fun i H' => Step none G H G H' ∧ Same H2 H' ∧ H' D3 = some (.lst (sV (sums (us.take i))))) ⟨s2.loc hD30 gD3, Same.new (Same.refl H2) hD3, upd_same⟩ ?_ ?_ ?_
  · rintro i H' _ ⟨s', k', _⟩
    exact SqL.of (k' _ _ hl2)
  · rintro i x H' hx' ⟨s', k', hL⟩
    obtain ⟨u, hu, p, mv, rfl, hpq, hmv⟩ := (hp2.same k').get hx'
    have hi := (List.getElem?_eq_some_iff.mp hu).1
    have hs := sums_take hu
    have hle := sums_le (us.take i)
    rw [List.length_take] at hle
    refine ⟨p, _, rfl, hpq, rfl, _, _, rfl, _, _, rfl, rfl, rfl, ?_⟩
    refine ⟨_, rfl, mv, u.2, rfl, hmv, _, rfl, ?_⟩
    cases em : u.2 with
    | none =>
      rw [em] at hs
      refine iteF ⟨s', k', ?_⟩
      rw [hs]
      show H' D3 = some (.lst (sV (_ ++ [])))
      rw [List.append_nil]
      exact hL
    | some c' =>
      rw [em] at hs hmv
      obtain ⟨t, rfl, ht⟩ := hmv
      refine iteT ⟨_, rfl, t, _, 1, _, rfl, rfl, ht, atI_nat (j := 1) rfl, _, hL, by rw [sV_len]; omega, s'.loc hD30 gD3, Same.off k' hD3, ?_⟩
      rw [upd_same, hs, ← sV_app]
      rfl
  rintro H3 ⟨s3, k3, hD3'⟩
  rw [show ul.length = us.length from hul, List.take_length] at hD3'
  have hc3 := sqT_same hc2 k3
  have hl3 := k3 _ _ hl2
  have hp3 := hp2.same k3
  have hsl := sums_le us
  refine ⟨_, rfl, _, rfl, c, _, rfl, .inr hc3, fun e he => ?_⟩
  have s4 := s3.loc (o := .lst (sV xs)) (s3.free he) (s3.gh.free he)
  have k4 : Same H3 (upd H3 e (.lst (sV xs))) := Same.new (Same.refl H3) he
  have he4 : upd H3 e (.lst (sV xs)) e = some (.lst (sV xs)) := upd_same
  generalize upd H3 e (.lst (sV xs)) = H4 at *
  refine ⟨_, rfl, e, D3, _, _, rfl, rfl, he4, k4 _ _ hD3', by rw [sV_len, sV_len]; omega, fun b hb => ?_⟩
  rw [sV_app]
  have s5 := s4.loc (o := .lst (sV (xs ++ sums us))) (s4.free hb) (s4.gh.free hb)
  have k5 : Same H4 (upd H4 b (.lst (sV (xs ++ sums us)))) := Same.new (Same.refl H4) hb
  have hb5 : upd H4 b (.lst (sV (xs ++ sums us))) b = some (.lst (sV (xs ++ sums us))) := upd_same
  generalize upd H4 b (.lst (sV (xs ++ sums us))) = H5 at *
  refine ⟨G, a, b, st, ins, xs ++ sums us, rfl, s5.gh, ha, .inl (SqL.of hb5), by rw [List.length_append]; omega, fun H6 s6 => ?_⟩
  have no6 : ((xs ++ sums us).any fun x => !decide (x ∈ st.cs)) = false := any_no fun x hx => by
    have : x ∈ st.cs := by
      rcases List.mem_append.mp hx with h | h
      · exact (ok.pl x h).1
      · obtain ⟨u, hu, e⟩ := List.mem_filterMap.mp h
        exact (ok.col u hu x e).1
    rw [decide_eq_true this]
    rfl
  have s56 := s5.trans s6
  have k6 := k4.trans (k5.trans s6.all)
  have hc6 := sqT_same hc3 k6
  have hl6 := k6 _ _ hl3
  have hp6 := hp3.same k6
  rw [no6]
  refine ⟨_, rfl, iteF ⟨_, rfl, c, xs, rfl, .inr hc6, ok.nd, by omega, _, bl2 rfl, ?_⟩⟩
  -- no other measure
  refine ⟨_, rfl, l, rfl, ⟨_, SqL.of hl6⟩, fun D4 hD4 => ?_⟩
  have gD4 := s56.gh.free hD4
  have hD40 := s56.free hD4
  refine lc_list (K := K) (a := l) (xs := ul) (fun i H' => Step none G H G H' ∧ Same H6 H' ∧ H' D4 = some (.lst ((List.replicate i false).map V.bl))) ⟨s56.loc hD40 gD4, Same.new (Same.refl H6) hD4, upd_same⟩ ?_ ?_ ?_
  · rintro i H' _ ⟨s', k', _⟩
    exact SqL.of (k' _ _ hl6)
  · rintro i x H' hx' ⟨s', k', hL⟩
    obtain ⟨u, hu, p, mv, rfl, hpq, hmv⟩ := (hp6.same k').get hx'
    have hi := (List.getElem?_eq_some_iff.mp hu).1
    have hcol := ok.col u (List.mem_of_getElem? hu)
    refine ⟨p, _, rfl, hpq, rfl, _, _, rfl, _, _, rfl, rfl, rfl, ?_⟩
    unfold tYes
    refine iteT ⟨_, rfl, msD u.2, _, hmv.dp, .str _, ms_shaped (fun c h => (hcol c h).2), count_shaped, _, rfl, ?_⟩
    rw [ms_eqv]
    cases em : u.2 with
    | none =>
      refine iteF ⟨_, hL, by rw [List.length_map, List.length_replicate]; omega, s'.loc hD40 gD4, Same.off k' hD4, ?_⟩
      rw [upd_same, rep_app]
    | some c' =>
      refine iteT ⟨_, rfl, mv, u.2, rfl, hmv, _, rfl, ?_⟩
      rw [em]
      refine ⟨_, hL, by rw [List.length_map, List.length_replicate]; omega, s'.loc hD40 gD4, Same.off k' hD4, ?_⟩
      rw [upd_same, ← rep_app]
      rfl
  rintro H7 ⟨s7, k7, hD7⟩
  have any_rep : ∀ n : Nat, (List.replicate n false).any id = false := fun n => by
    rw [List.any_eq_false]
    intro x hx
    rw [(List.mem_replicate.mp hx).2]
    exact Bool.false_ne_true
  refine ⟨D4, _, rfl, SqL.of hD7, _, bl2 (any_rep _), ?_⟩
  exact ⟨_, rfl, _, rfl, G, a, c, st, ins, xs, rfl, s7.gh, ha, .inr (sqT_same hc6 k7), by omega, fun H8 s8 => ⟨_, bl2 ok.pl.measure, q H8 (s7.trans s8)⟩⟩
end Pf
namespace Bs
open PySem PySem.Spec PyProof.Rows L2 SX
variable {P : Program} {w : World} {K : PySem.W.Frag} {mg : Str → Option Value} {base : Heap}
/-- the group by these keys with these measures -/
abbrev grSt (st : Stp) (xs : List (List Nat)) (us : List (List Nat × Ms)) : Stp := ⟨kGroup, xs ++ us.map (·.1), us.map (·.1), dsOf st xs⟩
def spMGrouped (K : PySem.W.Frag) (C : Addr) : Sp := fun vs H Q _ => ∃ (G : Hp) (a c l : Addr) (st : Stp) (ins ul : List V) (xs : List (List Nat)) (us : List (List Nat × Ms)), vs = [.ref a, .ref c, .ref l] ∧ Same G H ∧ StAt K C G a st ins ∧ OkS st ∧ SqT K H c (sV xs) ∧ H l = some (.lst ul) ∧ PairsAt K H ul us ∧ GrOk st xs us ∧
  MkSt K C G H (grSt st xs us) [.ref a] Q
/-- keywords: names and measures -/
def KvAt (K : PySem.W.Frag) (H : Hp) (q : Key × V) (u : List Nat × Ms) : Prop := q.1 = Sum.inr (S u.1) ∧ MsAt K H q.2 u.2
def spMGroupBy (K : PySem.W.Frag) (C : Addr) : Sp := fun vs H Q _ => ∃ (G : Hp) (a c d : Addr) (st : Stp) (ins : List V) (kvs : List (Key × V)) (xs : List (List Nat)) (us : List (List Nat × Ms)), vs = [.ref a, .ref c, .ref d] ∧ Same G H ∧ StAt K C G a st ins ∧ OkS st ∧ SqT K H c (sV xs) ∧ H d = some (.dK kvs) ∧ Paired (KvAt K H) kvs us ∧ GrOk st xs us ∧
  MkSt K C G H (grSt st xs us) [.ref a] Q
theorem paired_two {α β γ : Type} {F : α → β → Prop} {F2 : β → γ → Prop} {F3 : α → γ → Prop} (h : ∀ a b c, F a b → F2 b c → F3 a c) : ∀ {xs : List α} {ys : List β} {zs : List γ}, Paired F xs ys → Paired F2 ys zs → Paired F3 xs zs
  | _, _, _, .nil, .nil => .nil
  | _, _, _, .cons a t, .cons b u => .cons (h _ _ _ a b) (paired_two h t u)
theorem paired_map {α β γ : Type} {F : β → γ → Prop} {f : α → β} : ∀ {xs : List α} {ys : List γ}, Paired (fun a c => F (f a) c) xs ys → Paired F (xs.map f) ys
  | _, _, .nil => .nil
  | _, _, .cons a t => .cons a (paired_map t)
def spScan (K : PySem.W.Frag) (CT C : Addr) : Sp := fun vs H Q _ => ∃ (G : Hp) (a : Addr) (b : Br), vs = [.ref a] ∧ Same G H ∧ TbAt K CT G a b ∧ Ok b ∧ MkSt K C G H ⟨kScan, b.cs, [], b.cs.map fun c => (c, 0)⟩ [] Q
end Bs
namespace Pf
open PySem PySem.Spec PyProof.Rows L2 Bs SX
variable {P : Program} {w : World} {K : PySem.W.Frag} {mg : Str → Option Value} {base : Heap}
abbrev N_Step_grouped : List Str := ["self", "columns", "sums", "depths", "names", "column", "name", "_"]
theorem sc_Step_grouped : FnScope N_Step_grouped ["self", "columns", "sums"] (defScope s_Step_grouped) := ⟨rfl, rfl, rfl, by decide +kernel, rfl, by decide +kernel, by decide +kernel⟩
theorem t_grouped (T : Tx K mg) : C8.Met P w K mg base 4 (CSt K) "_grouped" (spMGrouped K (CSt K)) [] := by
  obtain ⟨fd, F⟩ := f_Step_grouped T
  have kp_Step_named_sums := kp_Step_named_sums (P := P) (w := w) (base := base) T
  have c_check_group := c_check_group (P := P) (w := w) (base := base) T
  have RB : Binds K fd ["self", "columns", "sums"] [] := F.bindsN fun _ _ _ _ _ _ us hl => match us, hl with | [_, _, _], _ => rfl
  have RO : FnOk P w K mg base C8.CX0 4 (He.ma K (CSt K) "_grouped") fd ["self", "columns", "sums"] (spMGrouped K (CSt K)) := by
    refine ok0' F sc_Step_grouped (fun vs H Q E h => ?_) (fun cdv A outer s H vs Q E hr h => ?_)
    · obtain ⟨G, a, c, l, st, ins, ul, xs, us, rfl, _⟩ := h
      rfl
    obtain ⟨G, a, c, l, st, ins, ul, xs, us, rfl, hG, ha, oks, hc, hl, hp, ok, q⟩ := h
    obtain ⟨dx, i, cc, m, d, fs, h1, h2, h3, h4, h5, h6⟩ := ha.ex
    have C0 := cls_Step_ T
    have hu := hu_of hr
    have sl : sizeLine = 16777216 := rfl
    have hx := sV_len xs
    have g3 := ok.l3
    have g4 := ok.l4
    have hul : ul.length = us.length := Paired.length hp
    refine ⟨_, (pss_cons (ps_expr (C8.pe_c c_check_group hr (by first | decide | omega) rfl (pa_cons (pv 0) (pa_cons (pv 1) (pa_cons (pv 2) pa_nil)))))
    (pss_cons (Dm.ps_setDc (i := 3) (own := [("column", 5)]) rfl sc_Step_grouped.nd rfl rfl (Dm.sw_dict rfl rfl rfl (by decide +kernel)) (pi_tupK (K := K) rfl (pv 1)) (blkOk_by (N := N_Step_grouped) (sc := defScope s_Step_grouped) (by decide +kernel)) (fun _ _ _ _ _ => (pg_name (i := 5) sc_Step_grouped.nd rfl (Or.inl rfl))) (fun _ _ _ _ _ => pts_nil) (fun _ _ _ _ _ => (pv 5)) (fun _ _ _ _ _ => (pe_dget hu (pe_fldK (K := K) rfl (pv 0) (by rfl)) (pv 5) (fun _ _ => rfl))))
    (pss_cons (ps_setLc (i := 4) (own := [("name", 6), ("_", 7)]) rfl sc_Step_grouped.nd rfl rfl (sw_true rfl rfl rfl (by decide +kernel)) (pi_listK (K := K) rfl (pv 2)) (blkOk_by (N := N_Step_grouped) (sc := defScope s_Step_grouped) (by decide +kernel)) (fun _ _ _ _ _ => (pg_tupK (K := K) (n := 2) rfl rfl (pgs_cons (pg_name (i := 6) sc_Step_grouped.nd rfl (Or.inl rfl)) (pgs_cons (pg_name (i := 7) sc_Step_grouped.nd rfl (Or.inl rfl)) pgs_nil)))) (fun _ _ _ _ _ => pts_nil) (fun _ _ _ _ _ => (pv 6)))
    (pss_one (ps_ret (pe_mkp kp_Step_named_sums hr (by first | decide | omega) rfl (pa_cons pe_str (pa_cons (pe_tup (pa_cons (pv 0) pa_nil)) (pa_cons (pe_op op_cat (pe_callTy call_list_of (by rfl) (z_list T) boot_list (pa_cons (pv 1) pa_nil)) (pv 4)) (pa_cons (pv 4) (pa_cons (pv 3) pa_nil))))) (pk_cons (pv 1) (pk_cons (pv 2) pk_nil)))))))), ?_⟩
    refine ⟨_, rfl, _, rfl, _, rfl, G, a, c, l, st, ins, ul, xs, us, rfl, hG, ha, hc, hl, hp, ok, fun H1 s1 => ?_⟩
    have hc1 := sqT_same hc s1.all
    have hl1 := s1.all _ _ hl
    have hp1 := hp.same s1.all
    -- the depths
    refine ⟨_, rfl, c, rfl, ⟨_, hc1⟩, fun D hD => ?_⟩
    have gD := s1.gh.free hD
    have hD0 := s1.free hD
    refine dc_tup (K := K) (a := c) (xs := sV xs) (fun i H' => Step none G H G H' ∧ Same H1 H' ∧ H' D = some (.dK (dV (dsOf st (xs.take i))))) ⟨s1.loc hD0 gD, Same.new (Same.refl H1) hD, upd_same⟩ ?_ ?_ ?_
    · rintro i H' _ ⟨s', k', _⟩
      exact sqT_same hc1 k'
    · rintro i x H' hx' ⟨s', k', hD'⟩
      obtain ⟨k, mk, rfl, hi⟩ := sV_at' hx'
      have hk := ok.pl k (List.mem_of_getElem? mk)
      refine ⟨rfl, ?_⟩
      unfold tYes
      have hv : some (V.int (dep st k : Nat)) = valV (dV st.ds) (Sum.inr (S k)) := (dV_get (oks.dep hk.1 hk.2).1).symm
      have hno : k ∉ (dsOf st (xs.take i)).map (·.1) := by
        rw [dsOf_keys]
        exact nodup_take ok.nd mk
      refine iteT ⟨_, rfl, _, rfl, a, CSt K, dx, _, _, rfl, s'.gh _ _ h1, C0, noat_Step_depths T, h2.d, _, rfl, d, _, rfl, .inl ⟨dV st.ds, Sum.inr (S k), .inl (s'.gh _ _ h6), rfl, hv⟩, _, Sum.inr (S k), rfl, hD', ?_, s'.loc hD0 gD, Same.off k' hD, ?_⟩
      · rw [dV_len, List.length_map, List.length_take]
        omega
      · rw [upd_same, dV_put hno, dsOf_app, List.take_succ, mk]
        rfl
    rintro H2 ⟨s2, k2, hD2⟩
    rw [hx, List.take_length] at hD2
    have hc2 := sqT_same hc1 k2
    have hl2 := k2 _ _ hl1
    have hp2 := hp1.same k2
    -- the names
    refine ⟨_, rfl, l, rfl, ⟨_, SqL.of hl2⟩, fun D2 hD2' => ?_⟩
    have gD2 := s2.gh.free hD2'
    have hD20 := s2.free hD2'
    refine lc_list (K := K) (a := l) (xs := ul) (fun i H' => Step none G H G H' ∧ Same H2 H' ∧ H' D2 = some (.lst (sV ((us.take i).map (·.1))))) ⟨s2.loc hD20 gD2, Same.new (Same.refl H2) hD2', upd_same⟩ ?_ ?_ ?_
    · rintro i H' _ ⟨s', k', _⟩
      exact SqL.of (k' _ _ hl2)
    · rintro i x H' hx' ⟨s', k', hL⟩
      obtain ⟨u, hu', p, mv, rfl, hpq, hmv⟩ := (hp2.same k').get hx'
      have hi := (List.getElem?_eq_some_iff.mp hu').1
      refine ⟨p, _, rfl, hpq, rfl, _, _, rfl, _, _, rfl, rfl, rfl, ?_⟩
      unfold tYes
      refine iteT ⟨_, rfl, _, hL, by rw [sV_len, List.length_map, List.length_take]; omega, s'.loc hD20 gD2, Same.off k' hD2', ?_⟩
      rw [upd_same, List.take_succ, hu', List.map_append, ← sV_app]
      rfl
    rintro H3 ⟨s3, k3, hD3⟩
    rw [hul, List.take_length] at hD3
    have hc3 := sqT_same hc2 k3
    have hl3 := k3 _ _ hl2
    have hd3 := k3 _ _ hD2
    refine ⟨_, rfl, by show 1 ≤ sizeLine; decide, fun t ht => ?_⟩
    have s4 : Step none G H (upd G t (.tup [.ref a])) (upd H3 t (.tup [.ref a])) := s3.new_ ht
    have k4 : Same H3 (upd H3 t (.tup [.ref a])) := Same.new (Same.refl H3) ht
    have gt : upd G t (.tup [.ref a]) t = some (.tup [.ref a]) := upd_same
    generalize upd G t (.tup [.ref a]) = G4 at *
    generalize upd H3 t (.tup [.ref a]) = H4 at *
    refine ⟨_, rfl, c, _, rfl, .inr (sqT_same hc3 k4), fun e he => ?_⟩
    have s5 := s4.loc (o := .lst (sV xs)) (s4.free he) (s4.gh.free he)
    have k5 : Same H4 (upd H4 e (.lst (sV xs))) := Same.new (Same.refl H4) he
    have he5 : upd H4 e (.lst (sV xs)) e = some (.lst (sV xs)) := upd_same
    generalize upd H4 e (.lst (sV xs)) = H5 at *
    have k35 := k4.trans k5
    refine ⟨_, rfl, e, D2, _, _, rfl, rfl, he5, k35 _ _ hD3, by rw [sV_len, sV_len, List.length_map]; omega, fun b hb => ?_⟩
    rw [sV_app]
    have s6 := s5.loc (o := .lst (sV (xs ++ us.map (·.1)))) (s5.free hb) (s5.gh.free hb)
    have k6 : Same H5 (upd H5 b (.lst (sV (xs ++ us.map (·.1))))) := Same.new (Same.refl H5) hb
    have hb6 : upd H5 b (.lst (sV (xs ++ us.map (·.1)))) b = some (.lst (sV (xs ++ us.map (·.1)))) := upd_same
    generalize upd H5 b (.lst (sV (xs ++ us.map (·.1)))) = H6 at *
    have k36 := k35.trans k6
    refine ⟨_, rfl, _, rfl, _, rfl, _, rfl, rfl, rfl, fun x dx' hx0 hdx ne => ?_⟩
    have D0 := dfl_ T H6
    exact mkS (st := grSt st xs us) s6.gh gt (.inl (SqL.of hb6)) (SqL.of (k36 _ _ hD3)) (k36 _ _ hd3) (by rw [dsOf_keys]; exact ok.nd) (by rw [List.length_map]; omega) (.inr (sqT_same hc3 k36)) D0.p (.inl (SqL.of (k36 _ _ hl3))) (fun G' H' s9 at1 hx1 => q G' H' x (s6.trans s9) at1 (s6.free hx1)) hx0 hdx ne
  exact ⟨_, fd, _, _, cls_Step_ T, meth_Step_grouped T, RO, RB, .nil⟩
abbrev N_Step_group_by : List Str := ["self", "keys", "measures"]
theorem sc_Step_group_by : FnScope N_Step_group_by ["self", "keys", "measures"] (defScope s_Step_group_by) := ⟨rfl, rfl, rfl, by decide +kernel, rfl, by decide +kernel, by decide +kernel⟩
theorem wk_group_by_ (T : Tx K mg) : Dm.MetW P w K mg base 5 (CSt K) "group_by" (spMGroupBy K (CSt K)) [] := by
  obtain ⟨fd, F⟩ := f_Step_group_by T
  have t_grouped := t_grouped (P := P) (w := w) (base := base) T
  obtain ⟨oc, od, dV', kV', doc, pm, an, cdv, ct, osl, rfl, lk, hcd, hD, _⟩ := F.ex
  obtain ⟨_, rfl⟩ | ⟨hne, _⟩ := hD
  rotate_left
  · exact absurd rfl hne
  refine ⟨_, cls_Step_ T, meth_Step_group_by T, Dm.fn_kw (p0 := "self") (pv := "keys") (pd := "measures") (N := N_Step_group_by) lk hcd sc_Step_group_by StX.cxUp_none (by decide +kernel) (by decide) (fun u us ws hl => match us, ws, hl with | [], [], _ => rfl | _ :: _, [], _ => rfl) (fun A outer s H vs Q E hr h => ?_)⟩
  obtain ⟨G, a, c, d, st, ins, kvs, xs, us, rfl, hG, ha, oks, hc, hd, hp, ok, q⟩ := h
  obtain ⟨dx, fs, h1, hno⟩ := ha.obj
  suffices hh : ∃ t, PSs (cxOf C8.CX0 P w K mg base N_Step_group_by d_Step_group_by.2.qual d_Step_group_by.2.scope (d_Step_group_by.1 K) cdv A outer s H E).nox d_Step_group_by.2.body t ∧ t { nx := fun _ H' => Q .non H', rt := Q } (start N_Step_group_by [.ref a, .ref c, .ref d]) H from
    let ⟨t, x1, x2⟩ := hh
    ⟨t, x1.nox, x2⟩
  refine ⟨_, (pss_one (ps_ret (C8.pe_mt t_grouped hr (by first | decide | omega) (pv 0) (pa_cons (pv 1) (pa_cons (LiI.pe_listItems rfl (pv 2) (by rfl) (z_list T) boot_list) pa_nil))))), ?_⟩
  refine ⟨_, rfl, a, dx, fs, rfl, hG _ _ h1, hno _ (by decide +kernel), _, rfl, _, rfl, d, kvs, rfl, hd, fun H1 p ts k1 hpn htn hpt hp1 hts => ?_⟩
  have k1 : Same H H1 := k1
  have s1 : Step none G H G H1 := ⟨Same.refl G, fun b o e => k1 _ _ (hG _ _ e), fun b hb => .inl hb, fun b o e _ => k1 _ _ e, fun b e => by cases e⟩
  have hpr : PairsAt K H1 (ts.map V.ref) us := paired_map (paired_two (fun t q u e1 e2 => by
    obtain ⟨e3, e4⟩ := e2
    rw [e3] at e1
    exact ⟨t, q.2, rfl, SqT.of e1, e4.same k1⟩) hts hp)
  exact ⟨G, a, c, p, st, ins, ts.map V.ref, xs, us, rfl, s1.gh, ha, oks, sqT_same hc k1, hp1, hpr, ok, fun G' H' x s2 at' hx => q G' H' x (s1.trans s2) at' (s1.free hx)⟩
theorem wk_group_by_n (T : Tx K mg) : Dm.MetW P w K mg base 5 (CSt K) "group_by" (spMGroupBy K (CSt K)) ["n"] := by
  obtain ⟨fd, F⟩ := f_Step_group_by T
  have t_grouped := t_grouped (P := P) (w := w) (base := base) T
  obtain ⟨oc, od, dV', kV', doc, pm, an, cdv, ct, osl, rfl, lk, hcd, hD, _⟩ := F.ex
  obtain ⟨_, rfl⟩ | ⟨hne, _⟩ := hD
  rotate_left
  · exact absurd rfl hne
  refine ⟨_, cls_Step_ T, meth_Step_group_by T, Dm.fn_kw (p0 := "self") (pv := "keys") (pd := "measures") (N := N_Step_group_by) lk hcd sc_Step_group_by StX.cxUp_none (by decide +kernel) (by decide) (fun u us ws hl => match us, ws, hl with | [], [_], _ => rfl | _ :: _, [_], _ => rfl) (fun A outer s H vs Q E hr h => ?_)⟩
  obtain ⟨G, a, c, d, st, ins, kvs, xs, us, rfl, hG, ha, oks, hc, hd, hp, ok, q⟩ := h
  obtain ⟨dx, fs, h1, hno⟩ := ha.obj
  suffices hh : ∃ t, PSs (cxOf C8.CX0 P w K mg base N_Step_group_by d_Step_group_by.2.qual d_Step_group_by.2.scope (d_Step_group_by.1 K) cdv A outer s H E).nox d_Step_group_by.2.body t ∧ t { nx := fun _ H' => Q .non H', rt := Q } (start N_Step_group_by [.ref a, .ref c, .ref d]) H from
    let ⟨t, x1, x2⟩ := hh
    ⟨t, x1.nox, x2⟩
  refine ⟨_, (pss_one (ps_ret (C8.pe_mt t_grouped hr (by first | decide | omega) (pv 0) (pa_cons (pv 1) (pa_cons (LiI.pe_listItems rfl (pv 2) (by rfl) (z_list T) boot_list) pa_nil))))), ?_⟩
  refine ⟨_, rfl, a, dx, fs, rfl, hG _ _ h1, hno _ (by decide +kernel), _, rfl, _, rfl, d, kvs, rfl, hd, fun H1 p ts k1 hpn htn hpt hp1 hts => ?_⟩
  have k1 : Same H H1 := k1
  have s1 : Step none G H G H1 := ⟨Same.refl G, fun b o e => k1 _ _ (hG _ _ e), fun b hb => .inl hb, fun b o e _ => k1 _ _ e, fun b e => by cases e⟩
  have hpr : PairsAt K H1 (ts.map V.ref) us := paired_map (paired_two (fun t q u e1 e2 => by
    obtain ⟨e3, e4⟩ := e2
    rw [e3] at e1
    exact ⟨t, q.2, rfl, SqT.of e1, e4.same k1⟩) hts hp)
  exact ⟨G, a, c, p, st, ins, ts.map V.ref, xs, us, rfl, s1.gh, ha, oks, sqT_same hc k1, hp1, hpr, ok, fun G' H' x s2 at' hx => q G' H' x (s1.trans s2) at' (s1.free hx)⟩
theorem wk_group_by_s (T : Tx K mg) : Dm.MetW P w K mg base 5 (CSt K) "group_by" (spMGroupBy K (CSt K)) ["s"] := by
  obtain ⟨fd, F⟩ := f_Step_group_by T
  have t_grouped := t_grouped (P := P) (w := w) (base := base) T
  obtain ⟨oc, od, dV', kV', doc, pm, an, cdv, ct, osl, rfl, lk, hcd, hD, _⟩ := F.ex
  obtain ⟨_, rfl⟩ | ⟨hne, _⟩ := hD
  rotate_left
  · exact absurd rfl hne
  refine ⟨_, cls_Step_ T, meth_Step_group_by T, Dm.fn_kw (p0 := "self") (pv := "keys") (pd := "measures") (N := N_Step_group_by) lk hcd sc_Step_group_by StX.cxUp_none (by decide +kernel) (by decide) (fun u us ws hl => match us, ws, hl with | [], [_], _ => rfl | _ :: _, [_], _ => rfl) (fun A outer s H vs Q E hr h => ?_)⟩
  obtain ⟨G, a, c, d, st, ins, kvs, xs, us, rfl, hG, ha, oks, hc, hd, hp, ok, q⟩ := h
  obtain ⟨dx, fs, h1, hno⟩ := ha.obj
  suffices hh : ∃ t, PSs (cxOf C8.CX0 P w K mg base N_Step_group_by d_Step_group_by.2.qual d_Step_group_by.2.scope (d_Step_group_by.1 K) cdv A outer s H E).nox d_Step_group_by.2.body t ∧ t { nx := fun _ H' => Q .non H', rt := Q } (start N_Step_group_by [.ref a, .ref c, .ref d]) H from
    let ⟨t, x1, x2⟩ := hh
    ⟨t, x1.nox, x2⟩
  refine ⟨_, (pss_one (ps_ret (C8.pe_mt t_grouped hr (by first | decide | omega) (pv 0) (pa_cons (pv 1) (pa_cons (LiI.pe_listItems rfl (pv 2) (by rfl) (z_list T) boot_list) pa_nil))))), ?_⟩
  refine ⟨_, rfl, a, dx, fs, rfl, hG _ _ h1, hno _ (by decide +kernel), _, rfl, _, rfl, d, kvs, rfl, hd, fun H1 p ts k1 hpn htn hpt hp1 hts => ?_⟩
  have k1 : Same H H1 := k1
  have s1 : Step none G H G H1 := ⟨Same.refl G, fun b o e => k1 _ _ (hG _ _ e), fun b hb => .inl hb, fun b o e _ => k1 _ _ e, fun b e => by cases e⟩
  have hpr : PairsAt K H1 (ts.map V.ref) us := paired_map (paired_two (fun t q u e1 e2 => by
    obtain ⟨e3, e4⟩ := e2
    rw [e3] at e1
    exact ⟨t, q.2, rfl, SqT.of e1, e4.same k1⟩) hts hp)
  exact ⟨G, a, c, p, st, ins, ts.map V.ref, xs, us, rfl, s1.gh, ha, oks, sqT_same hc k1, hp1, hpr, ok, fun G' H' x s2 at' hx => q G' H' x (s1.trans s2) at' (s1.free hx)⟩
theorem wk_group_by_s_n (T : Tx K mg) : Dm.MetW P w K mg base 5 (CSt K) "group_by" (spMGroupBy K (CSt K)) ["s", "n"] := by
  obtain ⟨fd, F⟩ := f_Step_group_by T
  have t_grouped := t_grouped (P := P) (w := w) (base := base) T
  obtain ⟨oc, od, dV', kV', doc, pm, an, cdv, ct, osl, rfl, lk, hcd, hD, _⟩ := F.ex
  obtain ⟨_, rfl⟩ | ⟨hne, _⟩ := hD
  rotate_left
  · exact absurd rfl hne
  refine ⟨_, cls_Step_ T, meth_Step_group_by T, Dm.fn_kw (p0 := "self") (pv := "keys") (pd := "measures") (N := N_Step_group_by) lk hcd sc_Step_group_by StX.cxUp_none (by decide +kernel) (by decide) (fun u us ws hl => match us, ws, hl with | [], [_, _], _ => rfl | _ :: _, [_, _], _ => rfl) (fun A outer s H vs Q E hr h => ?_)⟩
  obtain ⟨G, a, c, d, st, ins, kvs, xs, us, rfl, hG, ha, oks, hc, hd, hp, ok, q⟩ := h
  obtain ⟨dx, fs, h1, hno⟩ := ha.obj
  suffices hh : ∃ t, PSs (cxOf C8.CX0 P w K mg base N_Step_group_by d_Step_group_by.2.qual d_Step_group_by.2.scope (d_Step_group_by.1 K) cdv A outer s H E).nox d_Step_group_by.2.body t ∧ t { nx := fun _ H' => Q .non H', rt := Q } (start N_Step_group_by [.ref a, .ref c, .ref d]) H from
    let ⟨t, x1, x2⟩ := hh
    ⟨t, x1.nox, x2⟩
  refine ⟨_, (pss_one (ps_ret (C8.pe_mt t_grouped hr (by first | decide | omega) (pv 0) (pa_cons (pv 1) (pa_cons (LiI.pe_listItems rfl (pv 2) (by rfl) (z_list T) boot_list) pa_nil))))), ?_⟩
  refine ⟨_, rfl, a, dx, fs, rfl, hG _ _ h1, hno _ (by decide +kernel), _, rfl, _, rfl, d, kvs, rfl, hd, fun H1 p ts k1 hpn htn hpt hp1 hts => ?_⟩
  have k1 : Same H H1 := k1
  have s1 : Step none G H G H1 := ⟨Same.refl G, fun b o e => k1 _ _ (hG _ _ e), fun b hb => .inl hb, fun b o e _ => k1 _ _ e, fun b e => by cases e⟩
  have hpr : PairsAt K H1 (ts.map V.ref) us := paired_map (paired_two (fun t q u e1 e2 => by
    obtain ⟨e3, e4⟩ := e2
    rw [e3] at e1
    exact ⟨t, q.2, rfl, SqT.of e1, e4.same k1⟩) hts hp)
  exact ⟨G, a, c, p, st, ins, ts.map V.ref, xs, us, rfl, s1.gh, ha, oks, sqT_same hc k1, hp1, hpr, ok, fun G' H' x s2 at' hx => q G' H' x (s1.trans s2) at' (s1.free hx)⟩
abbrev N_scan : List Str := ["table", "depths", "column"]
theorem sc_scan : FnScope N_scan ["table"] (defScope s_scan) := ⟨rfl, rfl, rfl, by decide +kernel, rfl, by decide +kernel, by decide +kernel⟩
theorem c_scan (T : Tx K mg) : C8.Cal P w K mg base 3 "scan" (spScan K (CTb K) (CSt K)) [] := by
  obtain ⟨fd, F⟩ := f_scan T
  have kp_Step_table := kp_Step_table (P := P) (w := w) (base := base) T
  refine mkCal F (g_scan T) (F.bindsN fun _ _ _ _ _ _ us hl => match us, hl with | [_], _ => rfl) .nil sc_scan (fun vs H Q E h => ?_) (fun cdv A outer s H vs Q E hr h => ?_)
  · obtain ⟨G, a, b, rfl, _⟩ := h
    rfl
  obtain ⟨G, a, b, rfl, hG, ha, ok, q⟩ := h
  obtain ⟨dx, c, k, l0, h1, h2⟩ := ha.ex
  have hf := tf_fl (n := b.n) (c := c) (k := k) (l := l0) (t := txtB b)
  have C0 := cls_Table_ T
  have sl : sizeLine = 16777216 := rfl
  have hi := ok.c.hi
  have hx := sV_len b.cs
  let zd : List (List Nat) → List (List Nat × Nat) := fun xs => xs.map fun c => (c, 0)
  have zk : ∀ xs, (zd xs).map (·.1) = xs := fun xs => by
    show (xs.map fun c => (c, 0)).map (·.1) = xs
    rw [List.map_map]
    exact List.map_id _
  refine ⟨_, (pss_cons (Dm.ps_setDc (i := 1) (own := [("column", 2)]) rfl sc_scan.nd rfl rfl (Dm.sw_dict rfl rfl rfl (by decide +kernel)) (pi_listK (K := K) rfl (pe_fldK (K := K) rfl (pv 0) (by rfl))) (blkOk_by (N := N_scan) (sc := defScope s_scan) (by decide +kernel)) (fun _ _ _ _ _ => (pg_name (i := 2) sc_scan.nd rfl (Or.inl rfl))) (fun _ _ _ _ _ => pts_nil) (fun _ _ _ _ _ => (pv 2)) (fun _ _ _ _ _ => pe_int))
    (pss_one (ps_ret (pe_mkp kp_Step_table hr (by first | decide | omega) rfl (pa_cons pe_str (pa_cons (pe_tup pa_nil) (pa_cons (pe_fldK (K := K) rfl (pv 0) (by rfl)) (pa_cons (pe_lst pa_nil) (pa_cons (pv 1) pa_nil))))) (pk_cons (pv 0) pk_nil))))), ?_⟩
  have hc0 : SqL K H c (sV b.cs) := SqL.of (hG _ _ h2.c)
  refine ⟨_, rfl, a, CTb K, dx, _, _, rfl, hG _ _ h1, C0, noat_Table_columns T, hf.c, c, rfl, ⟨_, hc0⟩, fun D hD => ?_⟩
  have gD := hG.free hD
  refine Dm.dc_list (K := K) (a := c) (xs := sV b.cs) (fun i H' => Step none G H G H' ∧ H' D = some (.dK (dV (zd (b.cs.take i))))) ⟨(Step.refl hG).loc hD gD, upd_same⟩ ?_ ?_ ?_
  · rintro i H' _ ⟨s', _⟩
    exact sqL_same hc0 s'.all
  · rintro i x H' hx' ⟨s', hD'⟩
    obtain ⟨k', mk, rfl, hi'⟩ := sV_at' hx'
    refine ⟨rfl, ?_⟩
    unfold tYes
    have hno : k' ∉ (zd (b.cs.take i)).map (·.1) := by
      rw [zk]
      exact nodup_take ok.c.nd mk
    refine iteT ⟨_, rfl, _, Sum.inr (S k'), rfl, hD', ?_, s'.loc hD gD, ?_⟩
    · rw [dV_len, List.length_map, List.length_take]
      omega
    · have e := dV_put (n := 0) hno
      rw [upd_same]
      show some (HO.dK (putK (dV (zd (b.cs.take i))) (Sum.inr (S k')) (.int ((0 : Nat) : Int)))) = _
      rw [e, List.take_succ, mk]
      show _ = some (HO.dK (dV ((b.cs.take i ++ [k']).map fun c => (c, 0))))
      rw [List.map_append]
      rfl
  rintro H2 ⟨s2, hD2⟩
  rw [hx, List.take_length] at hD2
  refine ⟨by show 0 ≤ sizeLine; decide, fun t ht => ?_⟩
  have s4 : Step none G H (upd G t (.tup [])) (upd H2 t (.tup [])) := s2.new_ ht
  have k4 : Same H2 (upd H2 t (.tup [])) := Same.new (Same.refl H2) ht
  have gt : upd G t (.tup []) t = some (.tup []) := upd_same
  generalize upd G t (.tup []) = G4 at *
  generalize upd H2 t (.tup []) = H4 at *
  refine ⟨_, rfl, a, CTb K, dx, _, _, rfl, s4.same _ _ (hG _ _ h1), C0, noat_Table_columns T, hf.c, by show 0 ≤ sizeLine; decide, fun e he => ?_⟩
  have s5 := s4.loc (o := .lst []) (s4.free he) (s4.gh.free he)
  have k5 : Same H4 (upd H4 e (.lst [])) := Same.new (Same.refl H4) he
  have he5 : upd H4 e (.lst []) e = some (.lst []) := upd_same
  generalize upd H4 e (.lst []) = H5 at *
  refine ⟨_, rfl, _, rfl, rfl, rfl, fun x dx' hx0 hdx ne => ?_⟩
  have D0 := dfl_ T H5
  exact mkS (st := ⟨kScan, b.cs, [], zd b.cs⟩) s5.gh gt (.inl (sqL_same hc0 s5.all)) (SqL.of he5) (k5 _ _ (k4 _ _ hD2)) (by rw [zk]; exact ok.c.nd) (by rw [List.length_map]; omega) D0.n D0.p D0.s (fun G' H' s9 at1 hx1 => q G' H' x (s5.trans s9) at1 (s5.free hx1)) hx0 hdx ne
end Pf
namespace Bs
open PySem PySem.Spec PyProof.Rows L2
variable {P : Program} {w : World} {K : PySem.W.Frag} {mg : Str → Option Value} {base : Heap}
theorem cutV_map (ns : List Int) (lo hi : Option Int) : ∃ ms : List Int, cutV (ns.map V.int) lo hi = ms.map V.int ∧ ms.length ≤ ns.length ∧ (∀ h : Nat, lo = none → hi = some (h : Int) → ms.length ≤ h) := by
  refine ⟨(ns.drop (HT.sIx ns.length 0 lo)).take (HT.sIx ns.length ns.length hi - HT.sIx ns.length 0 lo), ?_, ?_, fun h e1 e2 => ?_⟩
  · unfold cutV
    rw [List.length_map, List.map_take, List.map_drop]
  · rw [List.length_take, List.length_drop]; omega
  · subst e1 e2
    rw [HT.sIx_nat, List.length_take]
    omega
theorem dp_ints {H : Hp} : ∀ ns : List Int, DpAll K H (ns.map V.int) (ns.map PyData.int)
  | [] => .nil
  | n :: r => .cons (.int n) (dp_ints r)
theorem lay_ints : ∀ ns : List Int, PyData.canLayAll0 (ns.map PyData.int) = true ∧ PyData.depthAll (ns.map PyData.int) ≤ 1
  | [] => ⟨by simp [PyData.canLayAll0], by simp [PyData.depthAll]⟩
  | n :: r => by
    obtain ⟨h1, h2⟩ := lay_ints r
    refine ⟨by simp [PyData.canLayAll0, PyData.canLay0, h1], ?_⟩
    simp only [List.map_cons, PyData.depthAll, PyData.depth]
    omega
theorem shaped_ints (ns : List Int) : SeqAt.shaped (.list (ns.map PyData.int)) = true := by
  obtain ⟨h1, h2⟩ := lay_ints ns
  unfold SeqAt.shaped
  rw [PyData.canLay0, h1, PyData.depth, Bool.true_and, decide_eq_true_eq]
  omega
theorem eqv_nil (ns : List Int) : (PyData.list (ns.map PyData.int)).eqv (.list []) = ns.isEmpty := by
  cases ns with
  | nil => simp [PyData.eqv, PyData.eqvAll]
  | cons n r => simp [PyData.eqv, PyData.eqvAll]
/-! ### a pen that is a list: the cells, the place of the next one, what is left of a great one -/
abbrev pen3 (c : Addr) (i l : Int) : List V := [.ref c, .int i, .int l]
structure Pq (G H : Hp) (p : Addr) (n : Nat) : Prop where
  gh : Same G H
  out : G p = none
  pen : ∃ (c : Addr) (ns : List Int) (i l : Int), H p = some (.lst (pen3 c i l)) ∧ G c = some (.lst (ns.map V.int)) ∧ ns.length ≤ 63 ∧ 0 ≤ i ∧ i ≤ n ∧ 0 ≤ l
theorem Pq.there {G H : Hp} {p : Addr} {n : Nat} (h : Pq G H p n) : H p ≠ none := by
  obtain ⟨_, _, _, _, e, _⟩ := h.pen
  rw [e]
  exact fun z => by cases z
theorem Pq.mono {G H : Hp} {p : Addr} {n m : Nat} (h : Pq G H p n) (l : n ≤ m) : Pq G H p m := by
  obtain ⟨c, ns, i, q, h1, h2, h3, h4, h5, h6⟩ := h.pen
  exact ⟨h.gh, h.out, c, ns, i, q, h1, h2, h3, h4, by omega, h6⟩
theorem Pq.step {G H G1 H1 : Hp} {p : Addr} {n : Nat} (h : Pq G H p n) (s : Step none G H G1 H1) : Pq G1 H1 p n := by
  obtain ⟨c, ns, i, q, h1, h2, h3, h4, h5, h6⟩ := h.pen
  exact ⟨s.gh, s.out h.out h.there, c, ns, i, q, s.same _ _ h1, s.gg _ _ h2, h3, h4, h5, h6⟩
theorem Pq.went {G H G1 H1 : Hp} {p : Addr} {n : Nat} (h : Pq G H p n) (s : Step none G H G1 H1) : Step (some p) G H G1 H1 ∧ Pq G1 H1 p n := ⟨s.some_, h.step s⟩
theorem Pq.new_ {G H : Hp} {p q : Addr} {n : Nat} {o : HO} (h : Pq G H p n) (hq : H q = none) : Step (some p) G H (upd G q o) (upd H q o) ∧ Pq (upd G q o) (upd H q o) p n := h.went ((Step.refl h.gh).new_ hq)
/-- a new thing of one's own -/
theorem Pq.loc {G H : Hp} {p q : Addr} {n : Nat} {o : HO} (h : Pq G H p n) (hq : H q = none) : Step (some p) G H G (upd H q o) ∧ Pq G (upd H q o) p n := h.went ((Step.refl h.gh).loc hq (h.gh.free hq))
theorem Pq.local_ {G H : Hp} {p l : Addr} {n : Nat} {o : HO} (h : Pq G H p n) (hl : G l = none) (ne : l ≠ p) : Pq G (upd H l o) p n := by
  obtain ⟨c, ns, i, q, h1, h2, h3, h4, h5, h6⟩ := h.pen
  exact ⟨Same.off h.gh hl, h.out, c, ns, i, q, by rw [upd_ne ne.symm]; exact h1, h2, h3, h4, h5, h6⟩
theorem Pq.put {G H : Hp} {p c : Addr} {n : Nat} {ns : List Int} {i l : Int} (gh : Same G H) (out : G p = none) (hp : H p ≠ none) (hc : G c = some (.lst (ns.map V.int))) (hl : ns.length ≤ 63) (h0 : 0 ≤ i) (h1 : i ≤ n) (h2 : 0 ≤ l) :
    Step (some p) G H G (upd H p (.lst (pen3 c i l))) ∧ Pq G (upd H p (.lst (pen3 c i l))) p n := by
  have g : Same G (upd H p (.lst (pen3 c i l))) := Same.off gh out
  refine ⟨⟨Same.refl G, g, fun b hb => .inl hb, fun b o e n => ?_, fun b e h => ?_⟩, g, out, c, ns, i, l, upd_same, hc, hl, h0, h1, h2⟩
  · rw [upd_ne (fun z => n (by rw [z]))]; exact e
  · rw [Option.some.inj e, upd_same]; exact fun z => by cases z
theorem mul_bd {a b A B : Int} (h1 : 0 ≤ a) (h2 : a ≤ A) (h3 : 0 ≤ b) (h4 : b ≤ B) : 0 ≤ a * b ∧ a * b ≤ A * B :=
  ⟨Int.mul_nonneg h1 h3, Int.mul_le_mul h2 h4 h3 (Int.le_trans h1 h2)⟩
def spPenQ (K : PySem.W.Frag) : Sp := fun vs H Q _ => ∃ (a : Addr) (ns : List Int), vs = [.ref a] ∧ SqL K H a (ns.map V.int) ∧ ∀ (p : Addr) (G' H' : Hp), Same H H' → Pq G' H' p 0 → Q (.ref p) H'
def spDrQ : Sp := fun vs H Q _ => ∃ (G : Hp) (p : Addr) (n : Nat) (m : Int), vs = [.ref p, .int m] ∧ Pq G H p n ∧ n ≤ 1000000 ∧ 0 < m ∧ m < 1000000 ∧
  ∀ (d : Int) (G' H' : Hp), Step (some p) G H G' H' → Pq G' H' p (n + 1) → 0 ≤ d → d < m → Q (.int d) H'
end Bs
namespace Pf
open PySem PySem.Spec PyProof.Rows L2 Bs
variable {P : Program} {w : World} {K : PySem.W.Frag} {mg : Str → Option Value} {base : Heap}
abbrev N_Lpen : List Str := ["_law_script"]
theorem sc_Lpen : FnScope N_Lpen ["_law_script"] (defScope s_Lpen) := ⟨rfl, rfl, rfl, by decide +kernel, rfl, by decide +kernel, by decide +kernel⟩
theorem c_Lpen (T : Tx K mg) : C8.Cal P w K mg base 1 "_law_pen" (spPenQ K) [] := by
  obtain ⟨fd, F⟩ := f_Lpen T
  refine mkCal F (g_law_pen T) (F.bindsN fun _ _ _ _ _ _ us hl => match us, hl with | [_], _ => rfl) .nil sc_Lpen (fun vs H Q E h => ?_) (fun cdv A outer s H vs Q E hr h => ?_)
  · obtain ⟨a, ns, rfl, _⟩ := h
    rfl
  obtain ⟨a, ns, rfl, hS, q⟩ := h
  refine ⟨_, (pss_one (ps_ret (pe_lst (pa_cons (pe_callTy call_list_of (by rfl) (z_list T) boot_list (pa_cons (pe_slice sl_list (pv 0) po_none (po_some pe_int)) pa_nil)) (pa_cons pe_int (pa_cons pe_int pa_nil)))))), ?_⟩
  refine ⟨_, rfl, _, rfl, a, _, rfl, hS, fun l hl => ?_⟩
  obtain ⟨ms, e1, _, e3⟩ := cutV_map ns none (some (63 : Nat))
  have k1 : Same H (upd H l (.lst (cutV (ns.map V.int) none (some 63)))) := Same.new (Same.refl H) hl
  have hlv : upd H l (.lst (cutV (ns.map V.int) none (some 63))) l = some (.lst (ms.map V.int)) := by rw [upd_same]; exact congrArg (fun z => some (HO.lst z)) e1
  generalize upd H l (.lst (cutV (ns.map V.int) none (some 63))) = H1 at *
  refine ⟨l, _, rfl, .inl (SqL.of hlv), fun c hc => ⟨by show 3 ≤ sizeLine; decide, fun p hp => ?_⟩⟩
  have npc : p ≠ c := fun z => by rw [z, upd_same] at hp; cases hp
  refine q p (upd (fun _ => none) c (.lst (ms.map V.int))) _ ((k1.trans (Same.new (Same.refl H1) hc)).trans (Same.new (Same.refl _) hp)) ⟨fun b o eb => ?_, by rw [upd_ne npc], c, ms, 0, 0, upd_same, upd_same, e3 63 rfl rfl, by decide, by decide, by decide⟩
  by_cases cb : b = c
  · subst cb
    rw [upd_same] at eb
    rw [upd_ne npc.symm, upd_same, ← eb]
  · rw [upd_ne cb] at eb; cases eb
abbrev N_Ldraw : List Str := ["_law_pen_here", "_law_many", "_law_at", "_law_cell", "_law_mixed", "_law_digit", "_law_great"]
theorem sc_Ldraw : FnScope N_Ldraw ["_law_pen_here", "_law_many"] (defScope s_Ldraw) := ⟨rfl, rfl, rfl, by decide +kernel, rfl, by decide +kernel, by decide +kernel⟩
theorem c_Ldraw (T : Tx K mg) : C8.Cal P w K mg base 1 "_law_draw" spDrQ [] := by
  obtain ⟨fd, F⟩ := f_Ldraw T
  refine mkCal F (g_law_draw T) (F.bindsN fun _ _ _ _ _ _ us hl => match us, hl with | [_, _], _ => rfl) .nil sc_Ldraw (fun vs H Q E h => ?_) (fun cdv A outer s H vs Q E hr h => ?_)
  · obtain ⟨G, p, n, m, rfl, _⟩ := h
    rfl
  obtain ⟨G, p, n, m, rfl, hP, hn, hm0, hm1, q⟩ := h
  obtain ⟨c, ns, i, l, hp, hc, hl, hi0, hin, hl0⟩ := id hP.pen
  have hu := hu_of hr
  refine ⟨_, (pss_cons (ps_if (pt_cmpR op_gt (pe_ix (ix_listK (K := K) rfl) (pv 0) pe_int (fun _ _ => rfl)) pe_int (nomark _)) (pss_cons (ps_set (i := 5) sc_Ldraw.nd rfl (Or.inl rfl) (pe_op op_modN (pe_callTy call_int1 (by rfl) (z_int T) boot_int (pa_cons (pe_ix (ix_listK (K := K) rfl) (pv 0) pe_int (fun _ _ => rfl)) pa_nil)) (pv 1)))
    (pss_cons (ps_asg (pe_op op_fdivN (pe_callTy call_int1 (by rfl) (z_int T) boot_int (pa_cons (pe_ix (ix_listK (K := K) rfl) (pv 0) pe_int (fun _ _ => rfl)) pa_nil)) (pv 1)) (pg_sub (pv 0) pe_int set_list))
    (pss_one (ps_ret (pv 5))))) pss_nil)
    (pss_cons (ps_set (i := 2) sc_Ldraw.nd rfl (Or.inl rfl) (pe_ix (ix_listK (K := K) rfl) (pv 0) pe_int (fun _ _ => rfl)))
    (pss_cons (ps_asg (pe_op op_add (pv 2) pe_int) (pg_sub (pv 0) pe_int set_list))
    (pss_cons (ps_set (i := 3) sc_Ldraw.nd rfl (Or.inl rfl) (pe_op op_add (pe_op op_mul pe_int (pv 2)) pe_int))
    (C8.pss_cut (ps_if (pt_cmpR (op_neD hr.units) (pe_ix (ix_listK (K := K) rfl) (pv 0) pe_int (fun _ _ => rfl)) (pe_lst pa_nil) (nomark _)) (pss_one (ps_set (i := 3) sc_Ldraw.nd rfl (Or.inl rfl) (pe_ix (ix_listK (K := K) rfl) (pe_ix (ix_listK (K := K) rfl) (pv 0) pe_int (fun _ _ => rfl)) (pe_op op_modN (pe_callTy call_int1 (by rfl) (z_int T) boot_int (pa_cons (pv 2) pa_nil)) (pe_callB (call_len_seqK (K := K) rfl) (by rfl) (z_len T) boot_len (pa_cons (pe_ix (ix_listK (K := K) rfl) (pv 0) pe_int (fun _ _ => rfl)) pa_nil))) (fun _ _ => rfl)))) pss_nil)
    (C8.pss_cut (ps_if (PW.pt (pw_and (pt_cmpR op_lt (pv 2) (pe_callB (call_len_seqK (K := K) rfl) (by rfl) (z_len T) boot_len (pa_cons (pe_ix (ix_listK (K := K) rfl) (pv 0) pe_int (fun _ _ => rfl)) pa_nil)) (nomark _)) (pw_and1 (pt_cmpR op_ge (pe_callB call_abs (by rfl) (z_abs T) boot_abs (pa_cons (pv 3) pa_nil)) (pe_op op_pow pe_int pe_int) (nomark _))))) (pss_cons (ps_set (i := 6) sc_Ldraw.nd rfl (Or.inl rfl) (pe_op op_add (pe_op op_mul pe_int (pe_callB call_abs (by rfl) (z_abs T) boot_abs (pa_cons (pv 3) pa_nil))) (pe_callTy call_int1 (by rfl) (z_int T) boot_int (pa_cons (pe_cmpR op_lt (pv 3) pe_int (nomark _)) pa_nil))))
    (pss_cons (ps_asg (pe_op op_fdivN (pe_callTy call_int1 (by rfl) (z_int T) boot_int (pa_cons (pv 6) pa_nil)) (pv 1)) (pg_sub (pv 0) pe_int set_list))
    (pss_one (ps_ret (pe_op op_modN (pe_callTy call_int1 (by rfl) (z_int T) boot_int (pa_cons (pv 6) pa_nil)) (pv 1)))))) pss_nil)
    (pss_cons (ps_set (i := 4) sc_Ldraw.nd rfl (Or.inl rfl) (pe_op op_mod (pe_callTy call_int1 (by rfl) (z_int T) boot_int (pa_cons (pe_op op_pow (pe_op op_add (pe_op op_add (pe_op op_mod (pe_callTy call_int1 (by rfl) (z_int T) boot_int (pa_cons (pv 3) pa_nil)) pe_int) (pe_op op_mul pe_int (pv 2))) pe_int) pe_int) pa_nil)) pe_int))
    (pss_cons (ps_set (i := 4) sc_Ldraw.nd rfl (Or.inl rfl) (pe_op op_mod (pe_callTy call_int1 (by rfl) (z_int T) boot_int (pa_cons (pe_op op_pow (pe_op op_add (pe_op op_add (pe_op op_mul (pv 4) (pe_op op_add (pv 2) pe_int)) (pe_op op_mul (pe_op op_mul pe_int (pv 2)) (pv 2))) pe_int) pe_int) pa_nil)) pe_int))
    (pss_one (ps_ret (pe_op op_modN (pe_callTy call_int1 (by rfl) (z_int T) boot_int (pa_cons (pe_op op_fdiv (pv 4) pe_int) pa_nil)) (pv 1)))))))))))), ?_⟩
  have fm : ∀ x : Int, 0 ≤ Int.fmod x m ∧ Int.fmod x m < m := fun x => ⟨Int.fmod_nonneg_of_pos x hm0, Int.fmod_lt_of_pos x hm0⟩
  have e0 : ∀ {j k : Int}, atI (pen3 c j k) 0 = some (.ref c) := fun {j k} => atI_nat (j := 0) rfl
  have e1 : ∀ {j k : Int}, atI (pen3 c j k) 1 = some (.int j) := fun {j k} => atI_nat (j := 1) rfl
  have e2 : ∀ {j k : Int}, atI (pen3 c j k) 2 = some (.int k) := fun {j k} => atI_nat (j := 2) rfl
  refine ⟨_, rfl, p, _, 2, _, rfl, rfl, SqL.of hp, e2, _, _, rfl, rfl, _, rfl, ?_⟩
  refine ite2 (fun c1 => ?_) (fun c1 => ?_)
  · refine ⟨_, rfl, p, _, 2, _, rfl, rfl, SqL.of hp, e2, .inl ⟨_, rfl, _, rfl, _, _, rfl, rfl, by omega, ?_⟩⟩
    refine ⟨_, rfl, p, _, 2, _, rfl, rfl, SqL.of hp, e2, .inl ⟨_, rfl, _, rfl, _, _, rfl, rfl, ⟨by omega, by omega⟩, ?_⟩⟩
    refine ⟨_, rfl, p, _, 2, 2, rfl, rfl, hp, rfl, _, rfl, ?_⟩
    obtain ⟨s3, P3⟩ := Pq.put (n := n + 1) (l := Int.fdiv l m) hP.gh hP.out hP.there hc hl hi0 (by omega) (by rw [Int.fdiv_eq_ediv_of_nonneg _ (by omega)]; exact Int.ediv_nonneg hl0 (by omega))
    exact q _ _ _ s3 P3 (fm _).1 (fm _).2
  · refine ⟨_, rfl, p, _, 1, _, rfl, rfl, SqL.of hp, e1, ?_⟩
    refine ⟨_, rfl, _, _, rfl, rfl, _, rfl, p, _, 1, 1, rfl, rfl, hp, rfl, ?_⟩
    obtain ⟨sA, PA⟩ := Pq.put (n := n + 1) (i := i + 1) (l := l) hP.gh hP.out hP.there hc hl (by omega) (by omega) hl0
    have hpA : upd H p (.lst (pen3 c (i + 1) l)) p = some (.lst (pen3 c (i + 1) l)) := upd_same
    generalize eS : (pen3 c i l).set 1 (V.int (i + 1)) = xs1
    obtain rfl : xs1 = pen3 c (i + 1) l := eS.symm.trans rfl
    clear eS
    generalize upd H p (.lst (pen3 c (i + 1) l)) = HA at *
    refine ⟨_, rfl, _, _, rfl, rfl, .inl ⟨by decide, by decide⟩, _, _, rfl, rfl, ?_⟩
    refine ⟨fun σ' H' => ∃ c0 : Int, σ' = [some (.ref p), some (.int m), some (.int i), some (.int c0), none, none, none] ∧ Step (some p) G H G H' ∧ Pq G H' p (n + 1) ∧ H' p = some (.lst (pen3 c (i + 1) l)), ?_, ?_⟩
    · refine ⟨_, rfl, p, _, 0, _, rfl, rfl, SqL.of hpA, e0, Nat.zero_le _, fun l0 hl0 => ?_⟩
      obtain ⟨s0, P0⟩ := PA.loc (o := .lst []) hl0
      have hp0 : upd HA l0 (.lst []) p = some (.lst (pen3 c (i + 1) l)) := by rw [upd_ne (ne_of_none hpA hl0)]; exact hpA
      have hn0 : upd HA l0 (.lst []) l0 = some (.lst []) := upd_same
      generalize upd HA l0 (.lst []) = H0 at *
      refine ⟨_, _, .lst (SqL.of (P0.gh _ _ hc)) (dp_ints ns), .lst (SqL.of hn0) .nil, shaped_ints ns, shaped_ints [], _, rfl, ?_⟩
      rw [eqv_nil]
      refine ite2 (fun c2 => ?_) (fun c2 => ⟨_, rfl, sA.trans s0, P0, hp0⟩)
      have hne : 0 < ns.length := by
        cases ns with
        | nil => simp at c2
        | cons n t => simp
      have hlen : (ns.map V.int).length = ns.length := List.length_map _
      have c2' : (0 : Int) < ((ns.map V.int).length : Nat) := by omega
      have hi1 := Int.fmod_nonneg_of_pos i c2'
      have hi2 := Int.fmod_lt_of_pos i c2'
      obtain ⟨v, hv, _⟩ := atI_int (ns := ns) hi1 (by omega)
      refine ⟨_, rfl, p, _, 0, _, rfl, rfl, SqL.of hp0, e0, _, rfl, .inl ⟨_, rfl, _, rfl, p, _, 0, _, rfl, rfl, SqL.of hp0, e0, c, _, rfl, .inl (SqL.of (P0.gh _ _ hc)), _, _, rfl, rfl, by omega, c, _, _, _, rfl, rfl, SqL.of (P0.gh _ _ hc), hv, ?_⟩⟩
      exact ⟨v, rfl, sA.trans s0, P0, hp0⟩
    rintro σ' H' ⟨c0, rfl, s1, P1, hp1⟩
    have hc1 := P1.gh _ _ hc
    refine ⟨fun σ' H'' => σ' = [some (.ref p), some (.int m), some (.int i), some (.int c0), none, none, none] ∧ H'' = H', ?_, ?_⟩
    · refine ⟨_, rfl, _, rfl, p, _, 0, _, rfl, rfl, SqL.of hp1, e0, c, _, rfl, .inl (SqL.of hc1), _, _, rfl, rfl, _, rfl, ?_⟩
      refine ite2 (fun _ => ?_) (fun _ => iteF ⟨rfl, rfl⟩)
      refine ⟨_, rfl, _, rfl, _, _, rfl, rfl, ⟨by decide, by decide, by decide⟩, _, _, rfl, rfl, _, rfl, ?_⟩
      refine ite2 (fun _ => ?_) (fun _ => ⟨rfl, rfl⟩)
      have hab : (0 : Int) ≤ (if c0 < 0 then -c0 else c0) := by split <;> omega
      refine ⟨_, rfl, _, rfl, _, _, rfl, rfl, .inl ⟨by decide, by decide⟩, _, rfl, _, _, rfl, rfl, .inr ⟨_, rfl, _, _, rfl, rfl, ?_⟩⟩
      have hg : (0 : Int) ≤ 2 * (if c0 < 0 then -c0 else c0) + (if decide (c0 < 0) = true then 1 else 0) := by split <;> omega
      dsimp only
      generalize (2 * (if c0 < 0 then -c0 else c0) + (if decide (c0 < 0) = true then 1 else 0) : Int) = g at hg
      refine ⟨_, rfl, .inl ⟨_, rfl, _, rfl, _, _, rfl, rfl, ⟨by omega, by omega⟩, _, rfl, p, _, 2, 2, rfl, rfl, hp1, rfl, ?_⟩⟩
      refine ⟨_, rfl, .inl ⟨_, rfl, _, rfl, _, _, rfl, rfl, by omega, ?_⟩⟩
      obtain ⟨s3, P3⟩ := Pq.put (n := n + 1) (i := i + 1) (l := Int.fdiv g m) P1.gh P1.out P1.there hc hl (by omega) (by omega) (by rw [Int.fdiv_eq_ediv_of_nonneg _ (by omega)]; exact Int.ediv_nonneg hg (by omega))
      exact q _ _ _ (s1.trans s3) P3 (fm _).1 (fm _).2
    · rintro σ' H'' ⟨rfl, rfl⟩
      have r1 := Int.emod_nonneg c0 (show (2147483549 : Int) ≠ 0 by decide)
      have r2 := Int.emod_lt_of_pos c0 (show (0 : Int) < 2147483549 by decide)
      refine ⟨_, rfl, .inl ⟨_, rfl, _, _, rfl, rfl, (by show (0 : Int) < 2147483549; decide), _, rfl, _, _, rfl, rfl, .inl ⟨by decide, by decide⟩, _, _, rfl, rfl, _, _, rfl, rfl, _, _, rfl, rfl, ⟨by decide, by decide, by omega⟩, .inl ⟨_, rfl, _, _, rfl, rfl, (by show (0 : Int) < 2147483629; decide), ?_⟩⟩⟩
      dsimp only
      generalize el : (c0 % 2147483549 + 7013 * i + 419) ^ (5 : Int).toNat % 2147483629 = lw
      have l1 : 0 ≤ lw := by rw [← el]; exact Int.emod_nonneg _ (by decide)
      have l2 : lw < 2147483629 := by rw [← el]; exact Int.emod_lt_of_pos _ (by decide)
      clear el
      obtain ⟨m1, m2⟩ := mul_bd l1 (show lw ≤ 2147483629 by omega) (show 0 ≤ i + 30011 by omega) (show i + 30011 ≤ 1030011 by omega)
      obtain ⟨m3, m4⟩ := mul_bd (show (0 : Int) ≤ 60017 * i by omega) (show 60017 * i ≤ 60017000000 by omega) hi0 (show i ≤ 1000000 by omega)
      refine ⟨_, rfl, _, rfl, _, _, rfl, rfl, _, _, rfl, rfl, .inr ⟨by omega, by omega⟩, _, rfl, _, _, rfl, rfl, .inl ⟨by decide, by decide⟩, _, rfl, _, _, rfl, rfl, .inr ⟨by omega, by omega⟩, _, _, rfl, rfl, _, _, rfl, rfl, _, _, rfl, rfl, ⟨by decide, by decide, by omega⟩, .inl ⟨_, rfl, _, _, rfl, rfl, (by show (0 : Int) < 2147483587; decide), ?_⟩⟩
      dsimp only
      generalize eh : (lw * (i + 30011) + 60017 * i * i + 31) ^ (3 : Int).toNat % 2147483587 = hg
      clear eh
      refine ⟨_, rfl, _, _, rfl, rfl, ⟨by decide, by decide⟩, .inl ⟨_, rfl, _, rfl, _, _, rfl, rfl, by omega, ?_⟩⟩
      exact q _ _ _ s1 P1 (fm _).1 (fm _).2
end Pf
namespace Bs
open PySem PySem.Spec PyProof.Rows L2 SX
variable {P : Program} {w : World} {K : PySem.W.Frag} {mg : Str → Option Value} {base : Heap}
theorem Pq.frz {G H : Hp} {p q : Addr} {n : Nat} {o : HO} (h : Pq G H p n) (hq : H q = some o) (gq : G q = none) (ne : q ≠ p) : Pq (upd G q o) H p n := by
  obtain ⟨c, ms, i, l, h1, h2, h3, h4, h5, h6⟩ := h.pen
  refine ⟨fun b u e => ?_, by rw [upd_ne ne.symm]; exact h.out, c, ms, i, l, h1, by rw [upd_ne (fun z => by rw [z, gq] at h2; cases h2)]; exact h2, h3, h4, h5, h6⟩
  by_cases cb : b = q
  · subst cb; rw [upd_same] at e; rw [hq]; exact e
  · rw [upd_ne cb] at e; exact h.gh b u e
theorem atI_mem {α : Type} {xs : List α} {d : Int} (h0 : 0 ≤ d) (h1 : d < (xs.length : Nat)) : ∃ v ∈ xs, atI xs d = some v := by
  obtain ⟨n, rfl⟩ := Int.eq_ofNat_of_zero_le h0
  have hn : n < xs.length := by omega
  exact ⟨xs[n], List.getElem_mem hn, atI_nat (List.getElem?_eq_getElem hn)⟩
def spPick : Sp := fun vs H Q _ => ∃ (G : Hp) (p l : Addr) (n : Nat) (xs : List V), vs = [.ref p, .ref l] ∧ Pq G H p n ∧ n ≤ 900000 ∧ H l = some (.lst xs) ∧ l ≠ p ∧ 0 < xs.length ∧ xs.length ≤ 1000 ∧
  ∀ (v : V) (G' H' : Hp), v ∈ xs → Step (some p) G H G' H' → Pq G' H' p (n + 1) → Q v H'
def spSomeK : Sp := fun vs H Q _ => ∃ (G : Hp) (p l : Addr) (n : Nat) (xs : List (List Nat)) (hi : Int), vs = [.ref p, .ref l, .int hi] ∧ Pq G H p n ∧ n ≤ 900000 ∧ H l = some (.lst (sV xs)) ∧ xs.Nodup ∧ 1 ≤ xs.length ∧ xs.length ≤ 60 ∧ 1 ≤ hi ∧ hi ≤ 8 ∧
  ∀ (l' : Addr) (ys : List (List Nat)) (G' H' : Hp), Step (some p) G H G' H' → Pq G' H' p (n + 10) → G' l' = some (.lst (sV ys)) → Sub ys xs → 1 ≤ ys.length → (ys.length : Int) ≤ hi → Q (.ref l') H'
theorem erase_perm {α : Type} : ∀ {xs : List α} {k : Nat} {y : α}, xs[k]? = some y → (y :: xs.eraseIdx k).Perm xs
  | [], _, _, h => by simp at h
  | x :: r, 0, y, h => by
    cases (Option.some.inj (show some x = some y from h))
    exact List.Perm.refl _
  | x :: r, k + 1, y, h => (List.Perm.swap x y _).trans ((erase_perm (xs := r) (k := k) h).cons x)
theorem er_map {α β : Type} (f : α → β) : ∀ (xs : List α) (k : Nat), (xs.map f).eraseIdx k = (xs.eraseIdx k).map f
  | [], _ => rfl
  | _ :: _, 0 => rfl
  | x :: r, k + 1 => by
    show f x :: (r.map f).eraseIdx k = f x :: (r.eraseIdx k).map f
    rw [er_map f r k]
theorem sV_erase (xs : List (List Nat)) (k : Nat) : (sV xs).eraseIdx k = sV (xs.eraseIdx k) := by
  show ((xs.map S).map V.str).eraseIdx k = ((xs.eraseIdx k).map S).map V.str
  rw [er_map, er_map]
theorem seqIx {d : Int} {n : Nat} (h0 : 0 ≤ d) (h1 : d < (n : Nat)) : seqIndex? d n = some d.toNat := by
  obtain ⟨k, rfl⟩ := Int.eq_ofNat_of_zero_le h0
  unfold seqIndex?
  simp
  omega
end Bs
namespace Pf
open PySem PySem.Spec PyProof.Rows L2 Bs SX
variable {P : Program} {w : World} {K : PySem.W.Frag} {mg : Str → Option Value} {base : Heap}
abbrev N_Lpick : List Str := ["_law_pen_here", "_law_some_here"]
theorem sc_Lpick : FnScope N_Lpick ["_law_pen_here", "_law_some_here"] (defScope s_Lpick) := ⟨rfl, rfl, rfl, by decide +kernel, rfl, by decide +kernel, by decide +kernel⟩
theorem c_Lpick (T : Tx K mg) : C8.Cal P w K mg base 2 "_law_pick" spPick [] := by
  obtain ⟨fd, F⟩ := f_Lpick T
  have c_Ldraw := c_Ldraw (P := P) (w := w) (base := base) T
  refine mkCal F (g_law_pick T) (F.bindsN fun _ _ _ _ _ _ us hl => match us, hl with | [_, _], _ => rfl) .nil sc_Lpick (fun vs H Q E h => ?_) (fun cdv A outer s H vs Q E hr h => ?_)
  · obtain ⟨G, p, l, n, xs, rfl, _⟩ := h
    rfl
  obtain ⟨G, p, l, n, xs, rfl, hP, hn, hl, ne, l0, l1, q⟩ := h
  refine ⟨_, (pss_one (ps_ret (pe_ix (ix_listK (K := K) rfl) (pv 1) (C8.pe_c c_Ldraw hr (by first | decide | omega) rfl (pa_cons (pv 0) (pa_cons (pe_callB (call_len_seqK (K := K) rfl) (by rfl) (z_len T) boot_len (pa_cons (pv 1) pa_nil)) pa_nil))) (fun _ _ => rfl)))), ?_⟩
  refine ⟨_, rfl, _, rfl, _, rfl, l, xs, rfl, .inl (SqL.of hl), G, p, n, _, rfl, hP, by omega, by omega, by omega, fun d G1 H1 s1 P1 a1 b1 => ?_⟩
  obtain ⟨v, hv, e⟩ := atI_mem a1 b1
  exact ⟨l, xs, d, v, rfl, rfl, SqL.of (s1.kpc _ _ hl ne), e, q v G1 H1 hv s1 P1⟩
abbrev N_Lsome : List Str := ["_law_pen_here", "_law_names_here", "_law_most", "_law_turn", "_law_left", "_law_found"]
theorem sc_Lsome : FnScope N_Lsome ["_law_pen_here", "_law_names_here", "_law_most"] (defScope s_Lsome) := ⟨rfl, rfl, rfl, by decide +kernel, rfl, by decide +kernel, by decide +kernel⟩
theorem c_Lsome (T : Tx K mg) : C8.Cal P w K mg base 2 "_law_some" spSomeK [] := by
  obtain ⟨fd, F⟩ := f_Lsome T
  have c_Ldraw := c_Ldraw (P := P) (w := w) (base := base) T
  refine mkCal F (g_law_some T) (F.bindsN fun _ _ _ _ _ _ us hl => match us, hl with | [_, _, _], _ => rfl) .nil sc_Lsome (fun vs H Q E h => ?_) (fun cdv A outer s H vs Q E hr h => ?_)
  · obtain ⟨G, p, l, n, xs, hi, rfl, _⟩ := h
    rfl
  obtain ⟨G, p, l, n, xs, hi, rfl, hP, hn, hl, nd, l1, l60, lo1, h8, q⟩ := h
  have sl : sizeLine = 16777216 := rfl
  refine ⟨_, (pss_cons (ps_par (i := 4) (j := 5) rfl sc_Lsome.nd rfl rfl (by decide) rfl rfl (pa_cons (pe_callTy call_list_of (by rfl) (z_list T) boot_list (pa_cons (pv 1) pa_nil)) (pa_cons (pe_lst pa_nil) pa_nil)) rfl)
    (pss_cons (ps_for PassesOwn.never rfl (pi_range1 (by rfl) (z_range T) (pa_cons (pe_op op_add pe_int (C8.pe_c c_Ldraw hr (by first | decide | omega) rfl (pa_cons (pv 0) (pa_cons (pe_callB (call_min2 rfl) (by rfl) (z_min T) boot_min (pa_cons (pv 2) (pa_cons (pe_callB (call_len_seqK (K := K) rfl) (by rfl) (z_len T) boot_len (pa_cons (pv 1) pa_nil)) pa_nil))) pa_nil)))) pa_nil)) (pg_name (i := 3) sc_Lsome.nd rfl (Or.inl rfl)) (pss_one (ps_expr (pe_bm PySem.F.plainAttrs_list PySem.F.slot_list_append PySem.F.type_list_append mt_append (pv 5) (pa_cons (pe_bmK (K := K) rfl PySem.F.plainAttrs_list PySem.F.slot_list_pop PySem.F.type_list_pop mt_popAt (pv 4) (pa_cons (C8.pe_c c_Ldraw hr (by first | decide | omega) rfl (pa_cons (pv 0) (pa_cons (pe_callB (call_len_seqK (K := K) rfl) (by rfl) (z_len T) boot_len (pa_cons (pv 4) pa_nil)) pa_nil))) pa_nil)) pa_nil)))))
    (pss_one (ps_ret (pv 5))))), ?_⟩
  refine ⟨_, rfl, l, _, rfl, .inl (SqL.of hl), fun L hL => ?_⟩
  have nLp : L ≠ p := fun z => hP.there (by rw [← z]; exact hL)
  have nlL : l ≠ L := ne_of_none hl hL
  obtain ⟨s0, P0⟩ := hP.loc (o := .lst (sV xs)) hL
  have hl0 : upd H L (.lst (sV xs)) l = some (.lst (sV xs)) := by rw [upd_ne nlL]; exact hl
  have hL0 : upd H L (.lst (sV xs)) L = some (.lst (sV xs)) := upd_same
  have gL := hP.gh.free hL
  generalize upd H L (.lst (sV xs)) = H0 at *
  have hlen := sV_len xs
  refine ⟨by show 0 ≤ sizeLine; decide, fun D hD => ?_⟩
  have nDp : D ≠ p := fun z => P0.there (by rw [← z]; exact hD)
  have nLD : L ≠ D := ne_of_none hL0 hD
  have nlD : l ≠ D := ne_of_none hl0 hD
  have gD := P0.gh.free hD
  have hDH := s0.free hD
  obtain ⟨sb, Pb⟩ := P0.loc (o := .lst []) hD
  have s1 := s0.trans sb
  have hL1 : upd H0 D (.lst []) L = some (.lst (sV xs)) := by rw [upd_ne nLD]; exact hL0
  have hl1 : upd H0 D (.lst []) l = some (.lst (sV xs)) := by rw [upd_ne nlD]; exact hl0
  have hD1 : upd H0 D (.lst []) D = some (.lst []) := upd_same
  generalize upd H0 D (.lst []) = H1 at *
  have hmin : ∀ {a b : Int}, (if b < a then b else a) = min a b := fun {a b} => by split <;> omega
  refine ⟨_, _, rfl, ?_⟩
  have P1 : Pq G H1 p n := Pb
  refine ⟨_, rfl, _, rfl, _, rfl, l, _, rfl, .inl (SqL.of hl1), _, _, rfl, ?_⟩
  refine ⟨G, p, n, _, rfl, P1, by omega, ?_, ?_, fun d G2 H2 s2 P2 d0 d1 => ?_⟩
  · rw [hlen]; split <;> omega
  · rw [hlen]; split <;> omega
  rw [hlen] at d1
  have hd : 1 + d ≤ hi ∧ 1 + d ≤ (xs.length : Nat) := by split at d1 <;> omega
  clear d1
  have hL2 := s2.kpc _ _ hL1 nLp
  have hD2 := s2.kpc _ _ hD1 nDp
  have g2L := s2.out gL (by rw [hL1]; exact fun z => by cases z)
  have g2D := s2.out gD (by rw [hD1]; exact fun z => by cases z)
  have s02 := s1.trans s2
  have hLH := hL
  refine ⟨_, _, rfl, rfl, 1 + d, rfl, by omega, by omega, ?_⟩
  refine for_range (lo := 0) (n := (1 + d).toNat) (fun i σ H' => ∃ (v3 : Option V) (G' : Hp) (ys zs : List (List Nat)), σ = [some (.ref p), some (.ref l), some (.int hi), v3, some (.ref L), some (.ref D)] ∧ Step (some p) G H G' H' ∧ Pq G' H' p (n + 1 + i) ∧ G' L = none ∧ G' D = none ∧ H' L = some (.lst (sV zs)) ∧ H' D = some (.lst (sV ys)) ∧ (ys ++ zs).Perm xs ∧ ys.length = i)
    ⟨_, G2, [], xs, rfl, s02, P2, g2L, g2D, hL2, hD2, List.Perm.refl _, rfl⟩ ?_ ?_
  · rintro i σ H' hi' ⟨v3, G', ys, zs, rfl, st, ps, gl, gd, hLz, hDy, pm, rfl⟩
    have pl := pm.length_eq
    rw [List.length_append] at pl
    have zl := sV_len zs
    refine ⟨_, rfl, .inl ⟨rfl, _, SqL.of hDy⟩, _, rfl, .inl ⟨rfl, _, SqL.of hLz⟩, _, rfl, _, rfl, L, _, rfl, .inl (SqL.of hLz), G', p, _, _, rfl, ps, by omega, by omega, by omega, fun d2 Ga Ha sa Pa a2 b2 => ?_⟩
    rw [zl] at b2
    have hk : d2.toNat < zs.length := by omega
    have hLa := sa.kpc _ _ hLz nLp
    have hDa := sa.kpc _ _ hDy nDp
    have gla := sa.out gl (by rw [hLz]; exact fun z => by cases z)
    have gda := sa.out gd (by rw [hDy]; exact fun z => by cases z)
    have ey : zs[d2.toNat]? = some zs[d2.toNat] := List.getElem?_eq_getElem hk
    refine ⟨L, _, d2, d2.toNat, .str (S zs[d2.toNat]), rfl, rfl, hLa, by omega, by omega, by rw [zl]; exact seqIx a2 b2, by rw [List.getElem?_map, List.getElem?_map, ey]; rfl, ?_⟩
    rw [sV_erase]
    refine ⟨D, _, _, rfl, rfl, by rw [upd_ne nLD.symm]; exact hDa, by rw [sV_len]; omega, ?_⟩
    refine ⟨_, Ga, ys ++ [zs[d2.toNat]], zs.eraseIdx d2.toNat, rfl, ((st.trans sa).loc hLH gla).loc hDH gda, ((Pa.mono (by omega)).local_ gla nLp).local_ gda nDp, gla, gda, by rw [upd_ne nLD, upd_same], ?_, ?_, by rw [List.length_append]; rfl⟩
    · rw [upd_same, ← sV_app]; rfl
    · refine List.Perm.trans ?_ pm
      rw [List.append_assoc]
      exact (erase_perm ey).append_left ys
  rintro σ H' ⟨v3, G', ys, zs, rfl, st, ps, gl, gd, hLz, hDy, pm, hyl⟩
  have sF := st.freeze (q := D) hDH hDy gd
  have mem : ∀ y ∈ ys, y ∈ xs := fun y hy => pm.mem_iff.mp (List.mem_append_left _ hy)
  have ndy : ys.Nodup := (List.nodup_append.mp (pm.nodup_iff.mpr nd)).1
  have PF := (ps.frz hDy gd nDp).mono (show n + 1 + (1 + d).toNat ≤ n + 10 by omega)
  exact ⟨_, rfl, q D ys _ H' sF PF upd_same ⟨mem, ndy⟩ (by omega) (by omega)⟩
end Pf
namespace Bs
open PySem PySem.Spec PyProof.Rows L2 SX
def NQ : List Str := ["a", "z9", "k_", "zzzzzzzz", "orders", "b", "c", "sums", "rows", "a1", "a2", "x", "left", "wher_e"]
def NQl : List (List Nat) := NQ.map fun x => x.cps.toList
theorem NQ_S : NQl.map S = NQ := by decide +kernel
theorem NQ_nm : ∀ w ∈ NQl, Nm w := by
  have h : NQl.all nmB = true := by decide +kernel
  exact fun w hw => nm_of (List.all_eq_true.mp h w hw)
theorem NQ_nd : NQl.Nodup := by decide +kernel
theorem NQ_len : NQl.length = 14 := by decide +kernel
theorem OkC.of {cs : List (List Nat)} (h1 : ∀ c ∈ cs, Nm c) (h2 : cs.Nodup) (h3 : 1 ≤ cs.length) (h4 : cs.length ≤ 8) : OkC cs := ⟨h1, h2, h3, h4⟩
def spNamesK : Sp := fun vs H Q _ => ∃ (G : Hp) (p : Addr) (n : Nat) (m : Int), vs = [.ref p, .int m] ∧ Pq G H p n ∧ n ≤ 900000 ∧ 1 ≤ m ∧ m ≤ 8 ∧
  ∀ (l : Addr) (cs : List (List Nat)) (G' H' : Hp), Step (some p) G H G' H' → Pq G' H' p (n + 20) → G' l = some (.lst (sV cs)) → OkC cs → (∀ c ∈ cs, c ∈ NQl) → Q (.ref l) H'
end Bs
namespace Pf
open PySem PySem.Spec PyProof.Rows L2 Bs SX
variable {P : Program} {w : World} {K : PySem.W.Frag} {mg : Str → Option Value} {base : Heap}
abbrev N_Lnames : List Str := ["_law_pen_here", "_law_many", "_law_left", "_law_turn"]
theorem sc_Lnames : FnScope N_Lnames ["_law_pen_here", "_law_many"] (defScope s_Lnames) := ⟨rfl, rfl, rfl, by decide +kernel, rfl, by decide +kernel, by decide +kernel⟩
theorem c_Lnames (T : Tx K mg) : C8.Cal P w K mg base 2 "_law_names" spNamesK [] := by
  obtain ⟨fd, F⟩ := f_Lnames T
  have c_Ldraw := c_Ldraw (P := P) (w := w) (base := base) T
  refine mkCal F (g_law_names T) (F.bindsN fun _ _ _ _ _ _ us hl => match us, hl with | [_, _], _ => rfl) .nil sc_Lnames (fun vs H Q E h => ?_) (fun cdv A outer s H vs Q E hr h => ?_)
  · obtain ⟨G, p, n, m, rfl, _⟩ := h
    rfl
  obtain ⟨G, p, n, m, rfl, hP, hn, m1, m8, q⟩ := h
  have sl : sizeLine = 16777216 := rfl
  refine ⟨_, (pss_cons (ps_set (i := 2) sc_Lnames.nd rfl (Or.inr rfl) (pe_lst (pa_cons pe_str (pa_cons pe_str (pa_cons pe_str (pa_cons pe_str (pa_cons pe_str (pa_cons pe_str (pa_cons pe_str (pa_cons pe_str (pa_cons pe_str (pa_cons pe_str (pa_cons pe_str (pa_cons pe_str (pa_cons pe_str (pa_cons pe_str pa_nil))))))))))))))))
    (pss_one (ps_ret (pe_lc (own := [("_law_turn", 3)]) rfl sc_Lnames.nd (pi_range1 (by rfl) (z_range T) (pa_cons (pv 1) pa_nil)) (blkOk_by (N := N_Lnames) (sc := defScope s_Lnames) (by decide +kernel)) (fun _ _ _ _ _ => (pg_name (i := 3) sc_Lnames.nd rfl (Or.inl rfl))) (fun _ _ _ _ _ => pts_nil) (fun _ _ _ _ _ => (pe_bmK (K := K) rfl PySem.F.plainAttrs_list PySem.F.slot_list_pop PySem.F.type_list_pop mt_popAt (pv 2) (pa_cons (C8.pe_c c_Ldraw hr (by first | decide | omega) rfl (pa_cons (pv 0) (pa_cons (pe_callB (call_len_seqK (K := K) rfl) (by rfl) (z_len T) boot_len (pa_cons (pv 2) pa_nil)) pa_nil))) pa_nil))))))), ?_⟩
  refine ⟨by show 14 ≤ sizeLine; decide, fun L hL => ?_⟩
  have eN : [V.str "a", .str "z9", .str "k_", .str "zzzzzzzz", .str "orders", .str "b", .str "c", .str "sums", .str "rows", .str "a1", .str "a2", .str "x", .str "left", .str "wher_e"] = sV NQl := by
    show _ = (NQl.map S).map V.str
    rw [NQ_S]
    rfl
  rw [eN]
  have nLp : L ≠ p := fun z => hP.there (by rw [← z]; exact hL)
  obtain ⟨s02, P2⟩ := hP.loc (o := .lst (sV NQl)) hL
  have hLH := hL
  have gL := hP.gh.free hL
  have hL1 : upd H L (.lst (sV NQl)) L = some (.lst (sV NQl)) := upd_same
  generalize upd H L (.lst (sV NQl)) = H2 at *
  refine ⟨_, rfl, m, rfl, by omega, by omega, fun D hD => ?_⟩
  have nDp : D ≠ p := fun z => P2.there (by rw [← z]; exact hD)
  have nLD : L ≠ D := ne_of_none hL1 hD
  have gD := P2.gh.free hD
  have hDH := s02.free hD
  refine lc_range (lo := 0) (n := m.toNat) (fun i H' => ∃ (G' : Hp) (ys zs : List (List Nat)), Step (some p) G H G' H' ∧ Pq G' H' p (n + i) ∧ G' L = none ∧ G' D = none ∧ H' L = some (.lst (sV zs)) ∧ H' D = some (.lst (sV ys)) ∧ (ys ++ zs).Perm NQl ∧ ys.length = i)
    ⟨G, [], NQl, s02.loc hDH gD, P2.local_ gD nDp, gL, gD, by rw [upd_ne nLD]; exact hL1, upd_same, List.Perm.refl _, rfl⟩ ?_ ?_
  · rintro i H' hi' ⟨G', ys, zs, st, ps, gl, gd, hLz, hDy, pm, rfl⟩
    have pl := pm.length_eq
    rw [List.length_append, NQ_len] at pl
    have zl := sV_len zs
    refine ⟨rfl, ?_⟩
    unfold tYes
    refine iteT ⟨_, rfl, .inl ⟨rfl, _, SqL.of hLz⟩, _, rfl, _, rfl, L, _, rfl, .inl (SqL.of hLz), G', p, _, _, rfl, ps, by omega, by omega, by omega, fun d2 Ga Ha sa Pa a2 b2 => ?_⟩
    rw [zl] at b2
    have hk : d2.toNat < zs.length := by omega
    have hLa := sa.kpc _ _ hLz nLp
    have hDa := sa.kpc _ _ hDy nDp
    have gla := sa.out gl (by rw [hLz]; exact fun z => by cases z)
    have gda := sa.out gd (by rw [hDy]; exact fun z => by cases z)
    have ey : zs[d2.toNat]? = some zs[d2.toNat] := List.getElem?_eq_getElem hk
    refine ⟨L, _, d2, d2.toNat, .str (S zs[d2.toNat]), rfl, rfl, hLa, by omega, by omega, by rw [zl]; exact seqIx a2 b2, by rw [List.getElem?_map, List.getElem?_map, ey]; rfl, ?_⟩
    rw [sV_erase]
    refine ⟨sV ys, by rw [upd_ne nLD.symm]; exact hDa, by rw [sV_len]; omega, Ga, ys ++ [zs[d2.toNat]], zs.eraseIdx d2.toNat, ((st.trans sa).loc hLH gla).loc hDH gda, ((Pa.mono (by omega)).local_ gla nLp).local_ gda nDp, gla, gda, by rw [upd_ne nLD, upd_same], ?_, ?_, by rw [List.length_append]; rfl⟩
    · rw [upd_same, ← sV_app]; rfl
    · refine List.Perm.trans ?_ pm
      rw [List.append_assoc]
      exact (erase_perm ey).append_left ys
  rintro H3 ⟨G3, ys, zs, st3, ps3, _, gd3, _, hDy, pm, hyl⟩
  have sF := st3.freeze (q := D) hDH hDy gd3
  have ndy : ys.Nodup := (List.nodup_append.mp (pm.nodup_iff.mpr NQ_nd)).1
  have PF := (ps3.frz hDy gd3 nDp).mono (show n + m.toNat ≤ n + 20 by omega)
  have my : ∀ y ∈ ys, y ∈ NQl := fun y hy => pm.mem_iff.mp (List.mem_append_left _ hy)
  have okY : OkC ys := .of (fun y hy => NQ_nm y (my y hy)) ndy (by omega) (by omega)
  exact q D ys _ H3 sF PF upd_same okY my
end Pf
namespace Bs
open PySem PySem.Spec PyProof.Rows L2 SX
variable {P : Program} {w : World} {K : PySem.W.Frag} {mg : Str → Option Value} {base : Heap}
theorem lenIf {xs : List (List Nat)} {A B : Prop} (k : Nat) (h1 : xs.length = k → A) (h2 : xs.length ≠ k → B) : if decide (V.int ((sV xs).length : Nat) = V.int ((k : Nat) : Int)) = true then A else B := by
  by_cases e : xs.length = k
  · rw [if_pos (by rw [sV_len, e]; exact decide_eq_true rfl)]
    exact h1 e
  · rw [if_neg (fun z => e (by have := V.int.inj (of_decide_eq_true z); rw [sV_len] at this; exact Int.ofNat.inj this))]
    exact h2 e
theorem strIf {a b : List Nat} {x : Str} {A B : Prop} (hx : x = S b) (h1 : a = b → A) (h2 : a ≠ b → B) : if decide (V.str (S a) = V.str x) = true then A else B := by
  subst hx
  by_cases e : a = b
  · rw [if_pos (by rw [e]; exact decide_eq_true rfl)]
    exact h1 e
  · rw [if_neg (fun z => e (S_inj (V.str.inj (of_decide_eq_true z))))]
    exact h2 e
abbrev wTest : List Nat := [116, 101, 115, 116]
theorem wTest_ : ("test" : Str) = S wTest := by decide +kernel
theorem wTest_nm : Nm wTest := nm_of (by decide +kernel)
abbrev wT : List Nat := [116]
theorem wT_ : ("t" : Str) = S wT := by decide +kernel
theorem wT_nm : Nm wT := nm_of (by decide +kernel)
abbrev wT9 : List Nat := [116, 95, 57]
theorem wT9_ : ("t_9" : Str) = S wT9 := by decide +kernel
theorem wT9_nm : Nm wT9 := nm_of (by decide +kernel)
abbrev wZ : List Nat := [122, 122, 122, 122, 122, 122, 122, 122]
theorem wZ_ : ("zzzzzzzz" : Str) = S wZ := by decide +kernel
theorem wZ_nm : Nm wZ := nm_of (by decide +kernel)
abbrev wR : List Nat := [114]
theorem wR_ : ("r" : Str) = S wR := by decide +kernel
theorem wR_nm : Nm wR := nm_of (by decide +kernel)
abbrev wRule : List Nat := [114, 117, 108, 101]
theorem wRule_ : ("rule" : Str) = S wRule := by decide +kernel
theorem wRule_nm : Nm wRule := nm_of (by decide +kernel)
abbrev wF : List Nat := [102]
theorem wF_ : ("f" : Str) = S wF := by decide +kernel
theorem wF_nm : Nm wF := nm_of (by decide +kernel)
abbrev wZ7 : List Nat := [122, 122, 122, 122, 122, 122, 122, 95]
theorem wZ7_ : ("zzzzzzz_" : Str) = S wZ7 := by decide +kernel
theorem wZ7_nm : Nm wZ7 := nm_of (by decide +kernel)
/-- what is told to those that make a step above another one by some of its columns -/
def spLPl (K : PySem.W.Frag) (C : Addr) (kd : List Nat) : Sp := fun vs H Q _ => ∃ (G : Hp) (a l : Addr) (st : Stp) (ins : List V) (xs : List (List Nat)), vs = [.ref a, .ref l] ∧ Same G H ∧ StAt K C G a st ins ∧ DpOk st ∧ H l = some (.lst (sV xs)) ∧ Pl st xs ∧ xs.Nodup ∧ 1 ≤ xs.length ∧ xs.length ≤ 4 ∧ MkSt K C G H { st with kd := kd } [.ref a] Q
def spLKeep (K : PySem.W.Frag) (C : Addr) : Sp := fun vs H Q _ => ∃ (G : Hp) (a l : Addr) (st : Stp) (ins : List V) (xs : List (List Nat)), vs = [.ref a, .ref l] ∧ Same G H ∧ StAt K C G a st ins ∧ OkS st ∧ H l = some (.lst (sV xs)) ∧ (∀ x ∈ xs, x ∈ st.cs) ∧ xs.Nodup ∧ 1 ≤ xs.length ∧ xs.length ≤ 4 ∧
  MkSt K C G H ⟨kKeep, xs, xs.filter fun x => decide (x ∈ st.ms), dsOf st (xs.filter fun x => !decide (x ∈ st.ms))⟩ [.ref a] Q
def spLRuled (K : PySem.W.Frag) (C : Addr) : Sp := fun vs H Q _ => ∃ (G : Hp) (a l : Addr) (kd : List Nat) (st : Stp) (ins : List V) (xs : List (List Nat)), vs = [.ref a, .str (S kd), .ref l] ∧ (kd = kOwn ∨ kd = kSplit) ∧ Same G H ∧ StAt K C G a st ins ∧ DpOk st ∧ H l = some (.lst (sV xs)) ∧ Pl st xs ∧ xs.Nodup ∧ 1 ≤ xs.length ∧ xs.length ≤ 3 ∧ MkSt K C G H { st with kd := kd } [.ref a] Q
def spLCompute (K : PySem.W.Frag) (C : Addr) : Sp := fun vs H Q _ => ∃ (G : Hp) (a l : Addr) (n : List Nat) (st : Stp) (ins : List V) (xs : List (List Nat)), vs = [.ref a, .str (S n), .ref l] ∧ Nm n ∧ n ∉ st.cs ∧ Same G H ∧ StAt K C G a st ins ∧ OkS st ∧ H l = some (.lst (sV xs)) ∧ Pl st xs ∧ 1 ≤ xs.length ∧ xs.length ≤ 4 ∧ (∀ x ∈ xs.take 2, dep st x ≤ 2) ∧
  ∀ m : Nat, Mx st (xs.take 2) m → MkSt K C G H ⟨kCompute, st.cs ++ [n], st.ms, st.ds ++ [(n, 1 + m)]⟩ [.ref a] Q
end Bs
namespace Pf
open PySem PySem.Spec PyProof.Rows L2 Bs SX
variable {P : Program} {w : World} {K : PySem.W.Frag} {mg : Str → Option Value} {base : Heap}
theorem two_of {α : Type} {xs : List α} (h : xs.length = 2) : ∃ x y, xs = [x, y] := match xs, h with | [x, y], _ => ⟨x, y, rfl⟩
theorem three_of {α : Type} {xs : List α} (h : xs.length = 3) : ∃ x y z, xs = [x, y, z] := match xs, h with | [x, y, z], _ => ⟨x, y, z, rfl⟩
theorem four_of {α : Type} {xs : List α} (h : xs.length = 4) : ∃ x y z u, xs = [x, y, z, u] := match xs, h with | [x, y, z, u], _ => ⟨x, y, z, u, rfl⟩
abbrev N_Lwhere : List Str := ["_law_step", "_law_some_here"]
theorem sc_Lwhere : FnScope N_Lwhere ["_law_step", "_law_some_here"] (defScope s_Lwhere) := ⟨rfl, rfl, rfl, by decide +kernel, rfl, by decide +kernel, by decide +kernel⟩
theorem c_Lwhere (T : Tx K mg) : C8.Cal P w K mg base 5 "_law_where" (spLPl K (CSt K) kWhere) [] := by
  obtain ⟨fd, F⟩ := f_Lwhere T
  have tr_where := tr_where (P := P) (w := w) (base := base) T
  refine mkCal F (g_law_where T) (F.bindsN fun _ _ _ _ _ _ us hl => match us, hl with | [_, _], _ => rfl) .nil sc_Lwhere (fun vs H Q E h => ?_) (fun cdv A outer s H vs Q E hr h => ?_)
  · obtain ⟨G, a, l, st, ins, xs, rfl, hG, ha, ok, hl, hp, nd, l1, l4, q⟩ := h
    rfl
  obtain ⟨G, a, l, st, ins, xs, rfl, hG, ha, ok, hl, hp, nd, l1, l4, q⟩ := h
  obtain ⟨dx, fs, h1, hno⟩ := ha.obj
  refine ⟨_, (pss_cons (ps_if (pt_cmpR op_eq (pe_callB (call_len_seqK (K := K) rfl) (by rfl) (z_len T) boot_len (pa_cons (pv 1) pa_nil)) pe_int (nomark _)) (pss_one (ps_ret (pe_mtr tr_where hr (by first | decide | omega) (pv 0) (pa_cons pe_str (pa_cons (pe_ix (ix_listK (K := K) rfl) (pv 1) pe_int (fun _ _ => rfl)) pa_nil))))) pss_nil)
    (pss_cons (ps_if (pt_cmpR op_eq (pe_callB (call_len_seqK (K := K) rfl) (by rfl) (z_len T) boot_len (pa_cons (pv 1) pa_nil)) pe_int (nomark _)) (pss_one (ps_ret (pe_mtr tr_where hr (by first | decide | omega) (pv 0) (pa_cons pe_str (pa_cons (pe_ix (ix_listK (K := K) rfl) (pv 1) pe_int (fun _ _ => rfl)) (pa_cons (pe_ix (ix_listK (K := K) rfl) (pv 1) pe_int (fun _ _ => rfl)) pa_nil)))))) pss_nil)
    (pss_cons (ps_if (pt_cmpR op_eq (pe_callB (call_len_seqK (K := K) rfl) (by rfl) (z_len T) boot_len (pa_cons (pv 1) pa_nil)) pe_int (nomark _)) (pss_one (ps_ret (pe_mtr tr_where hr (by first | decide | omega) (pv 0) (pa_cons pe_str (pa_cons (pe_ix (ix_listK (K := K) rfl) (pv 1) pe_int (fun _ _ => rfl)) (pa_cons (pe_ix (ix_listK (K := K) rfl) (pv 1) pe_int (fun _ _ => rfl)) (pa_cons (pe_ix (ix_listK (K := K) rfl) (pv 1) pe_int (fun _ _ => rfl)) pa_nil))))))) pss_nil)
    (pss_one (ps_ret (pe_mtr tr_where hr (by first | decide | omega) (pv 0) (pa_cons pe_str (pa_cons (pe_ix (ix_listK (K := K) rfl) (pv 1) pe_int (fun _ _ => rfl)) (pa_cons (pe_ix (ix_listK (K := K) rfl) (pv 1) pe_int (fun _ _ => rfl)) (pa_cons (pe_ix (ix_listK (K := K) rfl) (pv 1) pe_int (fun _ _ => rfl)) (pa_cons (pe_ix (ix_listK (K := K) rfl) (pv 1) pe_int (fun _ _ => rfl)) pa_nil))))))))))), ?_⟩
  refine ⟨_, rfl, l, _, rfl, .inl (SqL.of hl), rfl, _, rfl, lenIf 1 (fun e => ?_) (fun e1 => ?_)⟩
  · obtain ⟨x, rfl⟩ : ∃ x, xs = [x] := List.length_eq_one_iff.mp e
    refine ⟨_, rfl, a, dx, fs, rfl, hG _ _ h1, hno _ (by decide +kernel), _, rfl, l, _, 0, _, rfl, rfl, SqL.of hl, atI_nat (j := 0) rfl, [V.ref a, V.str "test"], [V.str (S x)], rfl, rfl, by show 1 ≤ sizeLine; decide, fun p hp0 => ?_⟩
    have s0 : Step none G H G (upd H p (.tup [V.str (S x)])) := (Step.refl hG).loc hp0 (hG.free hp0)
    exact ⟨G, a, p, wTest, st, ins, [x], congrArg (fun z => [V.ref a, V.str z, V.ref p]) wTest_, wTest_nm, s0.gh, ha, ok, SqT.of upd_same, hp, by simp, by simp, fun G' H' x' s' at' hx => q G' H' x' (s0.trans s') at' (s0.free hx)⟩
  refine ⟨_, rfl, l, _, rfl, .inl (SqL.of hl), rfl, _, rfl, lenIf 2 (fun e => ?_) (fun e2 => ?_)⟩
  · obtain ⟨x, y, rfl⟩ : ∃ x y, xs = [x, y] := two_of e
    refine ⟨_, rfl, a, dx, fs, rfl, hG _ _ h1, hno _ (by decide +kernel), _, rfl, l, _, 0, _, rfl, rfl, SqL.of hl, atI_nat (j := 0) rfl, _, rfl, l, _, 1, _, rfl, rfl, SqL.of hl, atI_nat (j := 1) rfl, [V.ref a, V.str "t"], [V.str (S x), V.str (S y)], rfl, rfl, by show 2 ≤ sizeLine; decide, fun p hp0 => ?_⟩
    have s0 : Step none G H G (upd H p (.tup [V.str (S x), V.str (S y)])) := (Step.refl hG).loc hp0 (hG.free hp0)
    exact ⟨G, a, p, wT, st, ins, [x, y], congrArg (fun z => [V.ref a, V.str z, V.ref p]) wT_, wT_nm, s0.gh, ha, ok, SqT.of upd_same, hp, by simp, by simp, fun G' H' x' s' at' hx => q G' H' x' (s0.trans s') at' (s0.free hx)⟩
  refine ⟨_, rfl, l, _, rfl, .inl (SqL.of hl), rfl, _, rfl, lenIf 3 (fun e => ?_) (fun e3 => ?_)⟩
  · obtain ⟨x, y, z, rfl⟩ : ∃ x y z, xs = [x, y, z] := three_of e
    refine ⟨_, rfl, a, dx, fs, rfl, hG _ _ h1, hno _ (by decide +kernel), _, rfl, l, _, 0, _, rfl, rfl, SqL.of hl, atI_nat (j := 0) rfl, _, rfl, l, _, 1, _, rfl, rfl, SqL.of hl, atI_nat (j := 1) rfl, _, rfl, l, _, 2, _, rfl, rfl, SqL.of hl, atI_nat (j := 2) rfl, [V.ref a, V.str "t_9"], [V.str (S x), V.str (S y), V.str (S z)], rfl, rfl, by show 3 ≤ sizeLine; decide, fun p hp0 => ?_⟩
    have s0 : Step none G H G (upd H p (.tup [V.str (S x), V.str (S y), V.str (S z)])) := (Step.refl hG).loc hp0 (hG.free hp0)
    exact ⟨G, a, p, wT9, st, ins, [x, y, z], congrArg (fun z => [V.ref a, V.str z, V.ref p]) wT9_, wT9_nm, s0.gh, ha, ok, SqT.of upd_same, hp, by simp, by simp, fun G' H' x' s' at' hx => q G' H' x' (s0.trans s') at' (s0.free hx)⟩
  obtain ⟨x, y, z, u, rfl⟩ : ∃ x y z u, xs = [x, y, z, u] := four_of (by omega)
  refine ⟨_, rfl, a, dx, fs, rfl, hG _ _ h1, hno _ (by decide +kernel), _, rfl, l, _, 0, _, rfl, rfl, SqL.of hl, atI_nat (j := 0) rfl, _, rfl, l, _, 1, _, rfl, rfl, SqL.of hl, atI_nat (j := 1) rfl, _, rfl, l, _, 2, _, rfl, rfl, SqL.of hl, atI_nat (j := 2) rfl, _, rfl, l, _, 3, _, rfl, rfl, SqL.of hl, atI_nat (j := 3) rfl, [V.ref a, V.str "zzzzzzzz"], [V.str (S x), V.str (S y), V.str (S z), V.str (S u)], rfl, rfl, by show 4 ≤ sizeLine; decide, fun p hp0 => ?_⟩
  have s0 : Step none G H G (upd H p (.tup [V.str (S x), V.str (S y), V.str (S z), V.str (S u)])) := (Step.refl hG).loc hp0 (hG.free hp0)
  exact ⟨G, a, p, wZ, st, ins, [x, y, z, u], congrArg (fun z => [V.ref a, V.str z, V.ref p]) wZ_, wZ_nm, s0.gh, ha, ok, SqT.of upd_same, hp, by simp, by simp, fun G' H' x' s' at' hx => q G' H' x' (s0.trans s') at' (s0.free hx)⟩
abbrev N_Lkeep : List Str := ["_law_step", "_law_some_here"]
theorem sc_Lkeep : FnScope N_Lkeep ["_law_step", "_law_some_here"] (defScope s_Lkeep) := ⟨rfl, rfl, rfl, by decide +kernel, rfl, by decide +kernel, by decide +kernel⟩
theorem c_Lkeep (T : Tx K mg) : C8.Cal P w K mg base 5 "_law_keep" (spLKeep K (CSt K)) [] := by
  obtain ⟨fd, F⟩ := f_Lkeep T
  have tr_keep := tr_keep (P := P) (w := w) (base := base) T
  refine mkCal F (g_law_keep T) (F.bindsN fun _ _ _ _ _ _ us hl => match us, hl with | [_, _], _ => rfl) .nil sc_Lkeep (fun vs H Q E h => ?_) (fun cdv A outer s H vs Q E hr h => ?_)
  · obtain ⟨G, a, l, st, ins, xs, rfl, hG, ha, ok, hl, hp, nd, l1, l4, q⟩ := h
    rfl
  obtain ⟨G, a, l, st, ins, xs, rfl, hG, ha, ok, hl, hp, nd, l1, l4, q⟩ := h
  obtain ⟨dx, fs, h1, hno⟩ := ha.obj
  refine ⟨_, (pss_cons (ps_if (pt_cmpR op_eq (pe_callB (call_len_seqK (K := K) rfl) (by rfl) (z_len T) boot_len (pa_cons (pv 1) pa_nil)) pe_int (nomark _)) (pss_one (ps_ret (pe_mtr tr_keep hr (by first | decide | omega) (pv 0) (pa_cons (pe_ix (ix_listK (K := K) rfl) (pv 1) pe_int (fun _ _ => rfl)) pa_nil)))) pss_nil)
    (pss_cons (ps_if (pt_cmpR op_eq (pe_callB (call_len_seqK (K := K) rfl) (by rfl) (z_len T) boot_len (pa_cons (pv 1) pa_nil)) pe_int (nomark _)) (pss_one (ps_ret (pe_mtr tr_keep hr (by first | decide | omega) (pv 0) (pa_cons (pe_ix (ix_listK (K := K) rfl) (pv 1) pe_int (fun _ _ => rfl)) (pa_cons (pe_ix (ix_listK (K := K) rfl) (pv 1) pe_int (fun _ _ => rfl)) pa_nil))))) pss_nil)
    (pss_cons (ps_if (pt_cmpR op_eq (pe_callB (call_len_seqK (K := K) rfl) (by rfl) (z_len T) boot_len (pa_cons (pv 1) pa_nil)) pe_int (nomark _)) (pss_one (ps_ret (pe_mtr tr_keep hr (by first | decide | omega) (pv 0) (pa_cons (pe_ix (ix_listK (K := K) rfl) (pv 1) pe_int (fun _ _ => rfl)) (pa_cons (pe_ix (ix_listK (K := K) rfl) (pv 1) pe_int (fun _ _ => rfl)) (pa_cons (pe_ix (ix_listK (K := K) rfl) (pv 1) pe_int (fun _ _ => rfl)) pa_nil)))))) pss_nil)
    (pss_one (ps_ret (pe_mtr tr_keep hr (by first | decide | omega) (pv 0) (pa_cons (pe_ix (ix_listK (K := K) rfl) (pv 1) pe_int (fun _ _ => rfl)) (pa_cons (pe_ix (ix_listK (K := K) rfl) (pv 1) pe_int (fun _ _ => rfl)) (pa_cons (pe_ix (ix_listK (K := K) rfl) (pv 1) pe_int (fun _ _ => rfl)) (pa_cons (pe_ix (ix_listK (K := K) rfl) (pv 1) pe_int (fun _ _ => rfl)) pa_nil)))))))))), ?_⟩
  refine ⟨_, rfl, l, _, rfl, .inl (SqL.of hl), rfl, _, rfl, lenIf 1 (fun e => ?_) (fun e1 => ?_)⟩
  · obtain ⟨x, rfl⟩ : ∃ x, xs = [x] := List.length_eq_one_iff.mp e
    refine ⟨_, rfl, a, dx, fs, rfl, hG _ _ h1, hno _ (by decide +kernel), _, rfl, l, _, 0, _, rfl, rfl, SqL.of hl, atI_nat (j := 0) rfl, [V.ref a], [V.str (S x)], rfl, rfl, by show 1 ≤ sizeLine; decide, fun p hp0 => ?_⟩
    have s0 : Step none G H G (upd H p (.tup [V.str (S x)])) := (Step.refl hG).loc hp0 (hG.free hp0)
    exact ⟨G, a, p, st, ins, [x], rfl, s0.gh, ha, ok, SqT.of upd_same, hp, nd, by simp, by simp, fun G' H' x' s' at' hx => q G' H' x' (s0.trans s') at' (s0.free hx)⟩
  refine ⟨_, rfl, l, _, rfl, .inl (SqL.of hl), rfl, _, rfl, lenIf 2 (fun e => ?_) (fun e2 => ?_)⟩
  · obtain ⟨x, y, rfl⟩ : ∃ x y, xs = [x, y] := two_of e
    refine ⟨_, rfl, a, dx, fs, rfl, hG _ _ h1, hno _ (by decide +kernel), _, rfl, l, _, 0, _, rfl, rfl, SqL.of hl, atI_nat (j := 0) rfl, _, rfl, l, _, 1, _, rfl, rfl, SqL.of hl, atI_nat (j := 1) rfl, [V.ref a], [V.str (S x), V.str (S y)], rfl, rfl, by show 2 ≤ sizeLine; decide, fun p hp0 => ?_⟩
    have s0 : Step none G H G (upd H p (.tup [V.str (S x), V.str (S y)])) := (Step.refl hG).loc hp0 (hG.free hp0)
    exact ⟨G, a, p, st, ins, [x, y], rfl, s0.gh, ha, ok, SqT.of upd_same, hp, nd, by simp, by simp, fun G' H' x' s' at' hx => q G' H' x' (s0.trans s') at' (s0.free hx)⟩
  refine ⟨_, rfl, l, _, rfl, .inl (SqL.of hl), rfl, _, rfl, lenIf 3 (fun e => ?_) (fun e3 => ?_)⟩
  · obtain ⟨x, y, z, rfl⟩ : ∃ x y z, xs = [x, y, z] := three_of e
    refine ⟨_, rfl, a, dx, fs, rfl, hG _ _ h1, hno _ (by decide +kernel), _, rfl, l, _, 0, _, rfl, rfl, SqL.of hl, atI_nat (j := 0) rfl, _, rfl, l, _, 1, _, rfl, rfl, SqL.of hl, atI_nat (j := 1) rfl, _, rfl, l, _, 2, _, rfl, rfl, SqL.of hl, atI_nat (j := 2) rfl, [V.ref a], [V.str (S x), V.str (S y), V.str (S z)], rfl, rfl, by show 3 ≤ sizeLine; decide, fun p hp0 => ?_⟩
    have s0 : Step none G H G (upd H p (.tup [V.str (S x), V.str (S y), V.str (S z)])) := (Step.refl hG).loc hp0 (hG.free hp0)
    exact ⟨G, a, p, st, ins, [x, y, z], rfl, s0.gh, ha, ok, SqT.of upd_same, hp, nd, by simp, by simp, fun G' H' x' s' at' hx => q G' H' x' (s0.trans s') at' (s0.free hx)⟩
  obtain ⟨x, y, z, u, rfl⟩ : ∃ x y z u, xs = [x, y, z, u] := four_of (by omega)
  refine ⟨_, rfl, a, dx, fs, rfl, hG _ _ h1, hno _ (by decide +kernel), _, rfl, l, _, 0, _, rfl, rfl, SqL.of hl, atI_nat (j := 0) rfl, _, rfl, l, _, 1, _, rfl, rfl, SqL.of hl, atI_nat (j := 1) rfl, _, rfl, l, _, 2, _, rfl, rfl, SqL.of hl, atI_nat (j := 2) rfl, _, rfl, l, _, 3, _, rfl, rfl, SqL.of hl, atI_nat (j := 3) rfl, [V.ref a], [V.str (S x), V.str (S y), V.str (S z), V.str (S u)], rfl, rfl, by show 4 ≤ sizeLine; decide, fun p hp0 => ?_⟩
  have s0 : Step none G H G (upd H p (.tup [V.str (S x), V.str (S y), V.str (S z), V.str (S u)])) := (Step.refl hG).loc hp0 (hG.free hp0)
  exact ⟨G, a, p, st, ins, [x, y, z, u], rfl, s0.gh, ha, ok, SqT.of upd_same, hp, nd, by simp, by simp, fun G' H' x' s' at' hx => q G' H' x' (s0.trans s') at' (s0.free hx)⟩
abbrev N_Lsort : List Str := ["_law_step", "_law_some_here"]
theorem sc_Lsort : FnScope N_Lsort ["_law_step", "_law_some_here"] (defScope s_Lsort) := ⟨rfl, rfl, rfl, by decide +kernel, rfl, by decide +kernel, by decide +kernel⟩
theorem c_Lsort (T : Tx K mg) : C8.Cal P w K mg base 5 "_law_sort" (spLPl K (CSt K) kSort) [] := by
  obtain ⟨fd, F⟩ := f_Lsort T
  have tr_sort_by := tr_sort_by (P := P) (w := w) (base := base) T
  refine mkCal F (g_law_sort T) (F.bindsN fun _ _ _ _ _ _ us hl => match us, hl with | [_, _], _ => rfl) .nil sc_Lsort (fun vs H Q E h => ?_) (fun cdv A outer s H vs Q E hr h => ?_)
  · obtain ⟨G, a, l, st, ins, xs, rfl, hG, ha, ok, hl, hp, nd, l1, l4, q⟩ := h
    rfl
  obtain ⟨G, a, l, st, ins, xs, rfl, hG, ha, ok, hl, hp, nd, l1, l4, q⟩ := h
  obtain ⟨dx, fs, h1, hno⟩ := ha.obj
  refine ⟨_, (pss_cons (ps_if (pt_cmpR op_eq (pe_callB (call_len_seqK (K := K) rfl) (by rfl) (z_len T) boot_len (pa_cons (pv 1) pa_nil)) pe_int (nomark _)) (pss_one (ps_ret (pe_mtr tr_sort_by hr (by first | decide | omega) (pv 0) (pa_cons (pe_ix (ix_listK (K := K) rfl) (pv 1) pe_int (fun _ _ => rfl)) pa_nil)))) pss_nil)
    (pss_cons (ps_if (pt_cmpR op_eq (pe_callB (call_len_seqK (K := K) rfl) (by rfl) (z_len T) boot_len (pa_cons (pv 1) pa_nil)) pe_int (nomark _)) (pss_one (ps_ret (pe_mtr tr_sort_by hr (by first | decide | omega) (pv 0) (pa_cons (pe_ix (ix_listK (K := K) rfl) (pv 1) pe_int (fun _ _ => rfl)) (pa_cons (pe_ix (ix_listK (K := K) rfl) (pv 1) pe_int (fun _ _ => rfl)) pa_nil))))) pss_nil)
    (pss_cons (ps_if (pt_cmpR op_eq (pe_callB (call_len_seqK (K := K) rfl) (by rfl) (z_len T) boot_len (pa_cons (pv 1) pa_nil)) pe_int (nomark _)) (pss_one (ps_ret (pe_mtr tr_sort_by hr (by first | decide | omega) (pv 0) (pa_cons (pe_ix (ix_listK (K := K) rfl) (pv 1) pe_int (fun _ _ => rfl)) (pa_cons (pe_ix (ix_listK (K := K) rfl) (pv 1) pe_int (fun _ _ => rfl)) (pa_cons (pe_ix (ix_listK (K := K) rfl) (pv 1) pe_int (fun _ _ => rfl)) pa_nil)))))) pss_nil)
    (pss_one (ps_ret (pe_mtr tr_sort_by hr (by first | decide | omega) (pv 0) (pa_cons (pe_ix (ix_listK (K := K) rfl) (pv 1) pe_int (fun _ _ => rfl)) (pa_cons (pe_ix (ix_listK (K := K) rfl) (pv 1) pe_int (fun _ _ => rfl)) (pa_cons (pe_ix (ix_listK (K := K) rfl) (pv 1) pe_int (fun _ _ => rfl)) (pa_cons (pe_ix (ix_listK (K := K) rfl) (pv 1) pe_int (fun _ _ => rfl)) pa_nil)))))))))), ?_⟩
  refine ⟨_, rfl, l, _, rfl, .inl (SqL.of hl), rfl, _, rfl, lenIf 1 (fun e => ?_) (fun e1 => ?_)⟩
  · obtain ⟨x, rfl⟩ : ∃ x, xs = [x] := List.length_eq_one_iff.mp e
    refine ⟨_, rfl, a, dx, fs, rfl, hG _ _ h1, hno _ (by decide +kernel), _, rfl, l, _, 0, _, rfl, rfl, SqL.of hl, atI_nat (j := 0) rfl, [V.ref a], [V.str (S x)], rfl, rfl, by show 1 ≤ sizeLine; decide, fun p hp0 => ?_⟩
    have s0 : Step none G H G (upd H p (.tup [V.str (S x)])) := (Step.refl hG).loc hp0 (hG.free hp0)
    exact ⟨G, a, p, st, ins, [x], rfl, s0.gh, ha, ok, SqT.of upd_same, hp, nd, by simp, by simp, fun G' H' x' s' at' hx => q G' H' x' (s0.trans s') at' (s0.free hx)⟩
  refine ⟨_, rfl, l, _, rfl, .inl (SqL.of hl), rfl, _, rfl, lenIf 2 (fun e => ?_) (fun e2 => ?_)⟩
  · obtain ⟨x, y, rfl⟩ : ∃ x y, xs = [x, y] := two_of e
    refine ⟨_, rfl, a, dx, fs, rfl, hG _ _ h1, hno _ (by decide +kernel), _, rfl, l, _, 0, _, rfl, rfl, SqL.of hl, atI_nat (j := 0) rfl, _, rfl, l, _, 1, _, rfl, rfl, SqL.of hl, atI_nat (j := 1) rfl, [V.ref a], [V.str (S x), V.str (S y)], rfl, rfl, by show 2 ≤ sizeLine; decide, fun p hp0 => ?_⟩
    have s0 : Step none G H G (upd H p (.tup [V.str (S x), V.str (S y)])) := (Step.refl hG).loc hp0 (hG.free hp0)
    exact ⟨G, a, p, st, ins, [x, y], rfl, s0.gh, ha, ok, SqT.of upd_same, hp, nd, by simp, by simp, fun G' H' x' s' at' hx => q G' H' x' (s0.trans s') at' (s0.free hx)⟩
  refine ⟨_, rfl, l, _, rfl, .inl (SqL.of hl), rfl, _, rfl, lenIf 3 (fun e => ?_) (fun e3 => ?_)⟩
  · obtain ⟨x, y, z, rfl⟩ : ∃ x y z, xs = [x, y, z] := three_of e
    refine ⟨_, rfl, a, dx, fs, rfl, hG _ _ h1, hno _ (by decide +kernel), _, rfl, l, _, 0, _, rfl, rfl, SqL.of hl, atI_nat (j := 0) rfl, _, rfl, l, _, 1, _, rfl, rfl, SqL.of hl, atI_nat (j := 1) rfl, _, rfl, l, _, 2, _, rfl, rfl, SqL.of hl, atI_nat (j := 2) rfl, [V.ref a], [V.str (S x), V.str (S y), V.str (S z)], rfl, rfl, by show 3 ≤ sizeLine; decide, fun p hp0 => ?_⟩
    have s0 : Step none G H G (upd H p (.tup [V.str (S x), V.str (S y), V.str (S z)])) := (Step.refl hG).loc hp0 (hG.free hp0)
    exact ⟨G, a, p, st, ins, [x, y, z], rfl, s0.gh, ha, ok, SqT.of upd_same, hp, nd, by simp, by simp, fun G' H' x' s' at' hx => q G' H' x' (s0.trans s') at' (s0.free hx)⟩
  obtain ⟨x, y, z, u, rfl⟩ : ∃ x y z u, xs = [x, y, z, u] := four_of (by omega)
  refine ⟨_, rfl, a, dx, fs, rfl, hG _ _ h1, hno _ (by decide +kernel), _, rfl, l, _, 0, _, rfl, rfl, SqL.of hl, atI_nat (j := 0) rfl, _, rfl, l, _, 1, _, rfl, rfl, SqL.of hl, atI_nat (j := 1) rfl, _, rfl, l, _, 2, _, rfl, rfl, SqL.of hl, atI_nat (j := 2) rfl, _, rfl, l, _, 3, _, rfl, rfl, SqL.of hl, atI_nat (j := 3) rfl, [V.ref a], [V.str (S x), V.str (S y), V.str (S z), V.str (S u)], rfl, rfl, by show 4 ≤ sizeLine; decide, fun p hp0 => ?_⟩
  have s0 : Step none G H G (upd H p (.tup [V.str (S x), V.str (S y), V.str (S z), V.str (S u)])) := (Step.refl hG).loc hp0 (hG.free hp0)
  exact ⟨G, a, p, st, ins, [x, y, z, u], rfl, s0.gh, ha, ok, SqT.of upd_same, hp, nd, by simp, by simp, fun G' H' x' s' at' hx => q G' H' x' (s0.trans s') at' (s0.free hx)⟩
abbrev N_Lmerge : List Str := ["_law_step", "_law_some_here"]
theorem sc_Lmerge : FnScope N_Lmerge ["_law_step", "_law_some_here"] (defScope s_Lmerge) := ⟨rfl, rfl, rfl, by decide +kernel, rfl, by decide +kernel, by decide +kernel⟩
theorem c_Lmerge (T : Tx K mg) : C8.Cal P w K mg base 5 "_law_merge" (spLPl K (CSt K) kMerge) [] := by
  obtain ⟨fd, F⟩ := f_Lmerge T
  have tr_merge_by := tr_merge_by (P := P) (w := w) (base := base) T
  refine mkCal F (g_law_merge T) (F.bindsN fun _ _ _ _ _ _ us hl => match us, hl with | [_, _], _ => rfl) .nil sc_Lmerge (fun vs H Q E h => ?_) (fun cdv A outer s H vs Q E hr h => ?_)
  · obtain ⟨G, a, l, st, ins, xs, rfl, hG, ha, ok, hl, hp, nd, l1, l4, q⟩ := h
    rfl
  obtain ⟨G, a, l, st, ins, xs, rfl, hG, ha, ok, hl, hp, nd, l1, l4, q⟩ := h
  obtain ⟨dx, fs, h1, hno⟩ := ha.obj
  refine ⟨_, (pss_cons (ps_if (pt_cmpR op_eq (pe_callB (call_len_seqK (K := K) rfl) (by rfl) (z_len T) boot_len (pa_cons (pv 1) pa_nil)) pe_int (nomark _)) (pss_one (ps_ret (pe_mtr tr_merge_by hr (by first | decide | omega) (pv 0) (pa_cons (pe_ix (ix_listK (K := K) rfl) (pv 1) pe_int (fun _ _ => rfl)) pa_nil)))) pss_nil)
    (pss_cons (ps_if (pt_cmpR op_eq (pe_callB (call_len_seqK (K := K) rfl) (by rfl) (z_len T) boot_len (pa_cons (pv 1) pa_nil)) pe_int (nomark _)) (pss_one (ps_ret (pe_mtr tr_merge_by hr (by first | decide | omega) (pv 0) (pa_cons (pe_ix (ix_listK (K := K) rfl) (pv 1) pe_int (fun _ _ => rfl)) (pa_cons (pe_ix (ix_listK (K := K) rfl) (pv 1) pe_int (fun _ _ => rfl)) pa_nil))))) pss_nil)
    (pss_cons (ps_if (pt_cmpR op_eq (pe_callB (call_len_seqK (K := K) rfl) (by rfl) (z_len T) boot_len (pa_cons (pv 1) pa_nil)) pe_int (nomark _)) (pss_one (ps_ret (pe_mtr tr_merge_by hr (by first | decide | omega) (pv 0) (pa_cons (pe_ix (ix_listK (K := K) rfl) (pv 1) pe_int (fun _ _ => rfl)) (pa_cons (pe_ix (ix_listK (K := K) rfl) (pv 1) pe_int (fun _ _ => rfl)) (pa_cons (pe_ix (ix_listK (K := K) rfl) (pv 1) pe_int (fun _ _ => rfl)) pa_nil)))))) pss_nil)
    (pss_one (ps_ret (pe_mtr tr_merge_by hr (by first | decide | omega) (pv 0) (pa_cons (pe_ix (ix_listK (K := K) rfl) (pv 1) pe_int (fun _ _ => rfl)) (pa_cons (pe_ix (ix_listK (K := K) rfl) (pv 1) pe_int (fun _ _ => rfl)) (pa_cons (pe_ix (ix_listK (K := K) rfl) (pv 1) pe_int (fun _ _ => rfl)) (pa_cons (pe_ix (ix_listK (K := K) rfl) (pv 1) pe_int (fun _ _ => rfl)) pa_nil)))))))))), ?_⟩
  refine ⟨_, rfl, l, _, rfl, .inl (SqL.of hl), rfl, _, rfl, lenIf 1 (fun e => ?_) (fun e1 => ?_)⟩
  · obtain ⟨x, rfl⟩ : ∃ x, xs = [x] := List.length_eq_one_iff.mp e
    refine ⟨_, rfl, a, dx, fs, rfl, hG _ _ h1, hno _ (by decide +kernel), _, rfl, l, _, 0, _, rfl, rfl, SqL.of hl, atI_nat (j := 0) rfl, [V.ref a], [V.str (S x)], rfl, rfl, by show 1 ≤ sizeLine; decide, fun p hp0 => ?_⟩
    have s0 : Step none G H G (upd H p (.tup [V.str (S x)])) := (Step.refl hG).loc hp0 (hG.free hp0)
    exact ⟨G, a, p, st, ins, [x], rfl, s0.gh, ha, ok, SqT.of upd_same, hp, nd, by simp, by simp, fun G' H' x' s' at' hx => q G' H' x' (s0.trans s') at' (s0.free hx)⟩
  refine ⟨_, rfl, l, _, rfl, .inl (SqL.of hl), rfl, _, rfl, lenIf 2 (fun e => ?_) (fun e2 => ?_)⟩
  · obtain ⟨x, y, rfl⟩ : ∃ x y, xs = [x, y] := two_of e
    refine ⟨_, rfl, a, dx, fs, rfl, hG _ _ h1, hno _ (by decide +kernel), _, rfl, l, _, 0, _, rfl, rfl, SqL.of hl, atI_nat (j := 0) rfl, _, rfl, l, _, 1, _, rfl, rfl, SqL.of hl, atI_nat (j := 1) rfl, [V.ref a], [V.str (S x), V.str (S y)], rfl, rfl, by show 2 ≤ sizeLine; decide, fun p hp0 => ?_⟩
    have s0 : Step none G H G (upd H p (.tup [V.str (S x), V.str (S y)])) := (Step.refl hG).loc hp0 (hG.free hp0)
    exact ⟨G, a, p, st, ins, [x, y], rfl, s0.gh, ha, ok, SqT.of upd_same, hp, nd, by simp, by simp, fun G' H' x' s' at' hx => q G' H' x' (s0.trans s') at' (s0.free hx)⟩
  refine ⟨_, rfl, l, _, rfl, .inl (SqL.of hl), rfl, _, rfl, lenIf 3 (fun e => ?_) (fun e3 => ?_)⟩
  · obtain ⟨x, y, z, rfl⟩ : ∃ x y z, xs = [x, y, z] := three_of e
    refine ⟨_, rfl, a, dx, fs, rfl, hG _ _ h1, hno _ (by decide +kernel), _, rfl, l, _, 0, _, rfl, rfl, SqL.of hl, atI_nat (j := 0) rfl, _, rfl, l, _, 1, _, rfl, rfl, SqL.of hl, atI_nat (j := 1) rfl, _, rfl, l, _, 2, _, rfl, rfl, SqL.of hl, atI_nat (j := 2) rfl, [V.ref a], [V.str (S x), V.str (S y), V.str (S z)], rfl, rfl, by show 3 ≤ sizeLine; decide, fun p hp0 => ?_⟩
    have s0 : Step none G H G (upd H p (.tup [V.str (S x), V.str (S y), V.str (S z)])) := (Step.refl hG).loc hp0 (hG.free hp0)
    exact ⟨G, a, p, st, ins, [x, y, z], rfl, s0.gh, ha, ok, SqT.of upd_same, hp, nd, by simp, by simp, fun G' H' x' s' at' hx => q G' H' x' (s0.trans s') at' (s0.free hx)⟩
  obtain ⟨x, y, z, u, rfl⟩ : ∃ x y z u, xs = [x, y, z, u] := four_of (by omega)
  refine ⟨_, rfl, a, dx, fs, rfl, hG _ _ h1, hno _ (by decide +kernel), _, rfl, l, _, 0, _, rfl, rfl, SqL.of hl, atI_nat (j := 0) rfl, _, rfl, l, _, 1, _, rfl, rfl, SqL.of hl, atI_nat (j := 1) rfl, _, rfl, l, _, 2, _, rfl, rfl, SqL.of hl, atI_nat (j := 2) rfl, _, rfl, l, _, 3, _, rfl, rfl, SqL.of hl, atI_nat (j := 3) rfl, [V.ref a], [V.str (S x), V.str (S y), V.str (S z), V.str (S u)], rfl, rfl, by show 4 ≤ sizeLine; decide, fun p hp0 => ?_⟩
  have s0 : Step none G H G (upd H p (.tup [V.str (S x), V.str (S y), V.str (S z), V.str (S u)])) := (Step.refl hG).loc hp0 (hG.free hp0)
  exact ⟨G, a, p, st, ins, [x, y, z, u], rfl, s0.gh, ha, ok, SqT.of upd_same, hp, nd, by simp, by simp, fun G' H' x' s' at' hx => q G' H' x' (s0.trans s') at' (s0.free hx)⟩
abbrev N_Lruled : List Str := ["_law_step", "_law_kind", "_law_some_here"]
theorem sc_Lruled : FnScope N_Lruled ["_law_step", "_law_kind", "_law_some_here"] (defScope s_Lruled) := ⟨rfl, rfl, rfl, by decide +kernel, rfl, by decide +kernel, by decide +kernel⟩
theorem c_Lruled (T : Tx K mg) : C8.Cal P w K mg base 5 "_law_ruled" (spLRuled K (CSt K)) [] := by
  obtain ⟨fd, F⟩ := f_Lruled T
  have tr_own_by := tr_own_by (P := P) (w := w) (base := base) T
  have tr_split_by := tr_split_by (P := P) (w := w) (base := base) T
  refine mkCal F (g_law_ruled T) (F.bindsN fun _ _ _ _ _ _ us hl => match us, hl with | [_, _, _], _ => rfl) .nil sc_Lruled (fun vs H Q E h => ?_) (fun cdv A outer s H vs Q E hr h => ?_)
  · obtain ⟨G, a, l, kd, st, ins, xs, rfl, _⟩ := h
    rfl
  obtain ⟨G, a, l, kd, st, ins, xs, rfl, hk, hG, ha, ok, hl, hp, nd, l1, l4, q⟩ := h
  obtain ⟨dx, fs, h1, hno⟩ := ha.obj
  refine ⟨_, (pss_cons (ps_if (PW.pt (pw_and (pt_cmpR op_eq (pv 1) pe_str (nomark _)) (pw_and1 (pt_cmpR op_eq (pe_callB (call_len_seqK (K := K) rfl) (by rfl) (z_len T) boot_len (pa_cons (pv 2) pa_nil)) pe_int (nomark _))))) (pss_one (ps_ret (pe_mtr tr_own_by hr (by first | decide | omega) (pv 0) (pa_cons pe_str (pa_cons (pe_ix (ix_listK (K := K) rfl) (pv 2) pe_int (fun _ _ => rfl)) pa_nil))))) pss_nil)
    (pss_cons (ps_if (PW.pt (pw_and (pt_cmpR op_eq (pv 1) pe_str (nomark _)) (pw_and1 (pt_cmpR op_eq (pe_callB (call_len_seqK (K := K) rfl) (by rfl) (z_len T) boot_len (pa_cons (pv 2) pa_nil)) pe_int (nomark _))))) (pss_one (ps_ret (pe_mtr tr_own_by hr (by first | decide | omega) (pv 0) (pa_cons pe_str (pa_cons (pe_ix (ix_listK (K := K) rfl) (pv 2) pe_int (fun _ _ => rfl)) (pa_cons (pe_ix (ix_listK (K := K) rfl) (pv 2) pe_int (fun _ _ => rfl)) pa_nil)))))) pss_nil)
    (pss_cons (ps_if (pt_cmpR op_eq (pv 1) pe_str (nomark _)) (pss_one (ps_ret (pe_mtr tr_own_by hr (by first | decide | omega) (pv 0) (pa_cons pe_str (pa_cons (pe_ix (ix_listK (K := K) rfl) (pv 2) pe_int (fun _ _ => rfl)) (pa_cons (pe_ix (ix_listK (K := K) rfl) (pv 2) pe_int (fun _ _ => rfl)) (pa_cons (pe_ix (ix_listK (K := K) rfl) (pv 2) pe_int (fun _ _ => rfl)) pa_nil))))))) pss_nil)
    (pss_cons (ps_if (pt_cmpR op_eq (pe_callB (call_len_seqK (K := K) rfl) (by rfl) (z_len T) boot_len (pa_cons (pv 2) pa_nil)) pe_int (nomark _)) (pss_one (ps_ret (pe_mtr tr_split_by hr (by first | decide | omega) (pv 0) (pa_cons pe_str (pa_cons (pe_ix (ix_listK (K := K) rfl) (pv 2) pe_int (fun _ _ => rfl)) pa_nil))))) pss_nil)
    (pss_cons (ps_if (pt_cmpR op_eq (pe_callB (call_len_seqK (K := K) rfl) (by rfl) (z_len T) boot_len (pa_cons (pv 2) pa_nil)) pe_int (nomark _)) (pss_one (ps_ret (pe_mtr tr_split_by hr (by first | decide | omega) (pv 0) (pa_cons pe_str (pa_cons (pe_ix (ix_listK (K := K) rfl) (pv 2) pe_int (fun _ _ => rfl)) (pa_cons (pe_ix (ix_listK (K := K) rfl) (pv 2) pe_int (fun _ _ => rfl)) pa_nil)))))) pss_nil)
    (pss_one (ps_ret (pe_mtr tr_split_by hr (by first | decide | omega) (pv 0) (pa_cons pe_str (pa_cons (pe_ix (ix_listK (K := K) rfl) (pv 2) pe_int (fun _ _ => rfl)) (pa_cons (pe_ix (ix_listK (K := K) rfl) (pv 2) pe_int (fun _ _ => rfl)) (pa_cons (pe_ix (ix_listK (K := K) rfl) (pv 2) pe_int (fun _ _ => rfl)) pa_nil)))))))))))), ?_⟩
  rcases hk with rfl | rfl
  · refine ⟨_, rfl, rfl, _, rfl, strIf kOwn_ (fun _ => ?_) (fun z => absurd rfl z)⟩
    refine ⟨_, rfl, l, _, rfl, .inl (SqL.of hl), rfl, _, rfl, lenIf 1 (fun e => ?_) (fun e1 => ?_)⟩
    · obtain ⟨x, rfl⟩ : ∃ x, xs = [x] := List.length_eq_one_iff.mp e
      refine ⟨_, rfl, a, dx, fs, rfl, hG _ _ h1, hno _ (by decide +kernel), _, rfl, l, _, 0, _, rfl, rfl, SqL.of hl, atI_nat (j := 0) rfl, [V.ref a, V.str "r"], [V.str (S x)], rfl, rfl, by show 1 ≤ sizeLine; decide, fun p hp0 => ?_⟩
      have s0 : Step none G H G (upd H p (.tup [V.str (S x)])) := (Step.refl hG).loc hp0 (hG.free hp0)
      exact ⟨G, a, p, wR, st, ins, [x], congrArg (fun z => [V.ref a, V.str z, V.ref p]) wR_, wR_nm, s0.gh, ha, ok, SqT.of upd_same, hp, nd, by simp, by simp, fun G' H' x' s' at' hx => q G' H' x' (s0.trans s') at' (s0.free hx)⟩
    refine ⟨_, rfl, rfl, _, rfl, strIf kOwn_ (fun _ => ?_) (fun z => absurd rfl z)⟩
    refine ⟨_, rfl, l, _, rfl, .inl (SqL.of hl), rfl, _, rfl, lenIf 2 (fun e => ?_) (fun e2 => ?_)⟩
    · obtain ⟨x, y, rfl⟩ : ∃ x y, xs = [x, y] := two_of e
      refine ⟨_, rfl, a, dx, fs, rfl, hG _ _ h1, hno _ (by decide +kernel), _, rfl, l, _, 0, _, rfl, rfl, SqL.of hl, atI_nat (j := 0) rfl, _, rfl, l, _, 1, _, rfl, rfl, SqL.of hl, atI_nat (j := 1) rfl, [V.ref a, V.str "r"], [V.str (S x), V.str (S y)], rfl, rfl, by show 2 ≤ sizeLine; decide, fun p hp0 => ?_⟩
      have s0 : Step none G H G (upd H p (.tup [V.str (S x), V.str (S y)])) := (Step.refl hG).loc hp0 (hG.free hp0)
      exact ⟨G, a, p, wR, st, ins, [x, y], congrArg (fun z => [V.ref a, V.str z, V.ref p]) wR_, wR_nm, s0.gh, ha, ok, SqT.of upd_same, hp, nd, by simp, by simp, fun G' H' x' s' at' hx => q G' H' x' (s0.trans s') at' (s0.free hx)⟩
    refine ⟨_, rfl, rfl, _, rfl, strIf kOwn_ (fun _ => ?_) (fun z => absurd rfl z)⟩
    have e : xs.length = 3 := by omega
    obtain ⟨x, y, z, rfl⟩ : ∃ x y z, xs = [x, y, z] := three_of e
    refine ⟨_, rfl, a, dx, fs, rfl, hG _ _ h1, hno _ (by decide +kernel), _, rfl, l, _, 0, _, rfl, rfl, SqL.of hl, atI_nat (j := 0) rfl, _, rfl, l, _, 1, _, rfl, rfl, SqL.of hl, atI_nat (j := 1) rfl, _, rfl, l, _, 2, _, rfl, rfl, SqL.of hl, atI_nat (j := 2) rfl, [V.ref a, V.str "rule"], [V.str (S x), V.str (S y), V.str (S z)], rfl, rfl, by show 3 ≤ sizeLine; decide, fun p hp0 => ?_⟩
    have s0 : Step none G H G (upd H p (.tup [V.str (S x), V.str (S y), V.str (S z)])) := (Step.refl hG).loc hp0 (hG.free hp0)
    exact ⟨G, a, p, wRule, st, ins, [x, y, z], congrArg (fun z => [V.ref a, V.str z, V.ref p]) wRule_, wRule_nm, s0.gh, ha, ok, SqT.of upd_same, hp, nd, by simp, by simp, fun G' H' x' s' at' hx => q G' H' x' (s0.trans s') at' (s0.free hx)⟩
  · refine ⟨_, rfl, rfl, _, rfl, strIf kOwn_ (fun z => absurd z (by decide)) (fun _ => iteF ?_)⟩
    refine ⟨_, rfl, rfl, _, rfl, strIf kOwn_ (fun z => absurd z (by decide)) (fun _ => iteF ?_)⟩
    refine ⟨_, rfl, rfl, _, rfl, strIf kOwn_ (fun z => absurd z (by decide)) (fun _ => ?_)⟩
    refine ⟨_, rfl, l, _, rfl, .inl (SqL.of hl), rfl, _, rfl, lenIf 1 (fun e => ?_) (fun e1 => ?_)⟩
    · obtain ⟨x, rfl⟩ : ∃ x, xs = [x] := List.length_eq_one_iff.mp e
      refine ⟨_, rfl, a, dx, fs, rfl, hG _ _ h1, hno _ (by decide +kernel), _, rfl, l, _, 0, _, rfl, rfl, SqL.of hl, atI_nat (j := 0) rfl, [V.ref a, V.str "r"], [V.str (S x)], rfl, rfl, by show 1 ≤ sizeLine; decide, fun p hp0 => ?_⟩
      have s0 : Step none G H G (upd H p (.tup [V.str (S x)])) := (Step.refl hG).loc hp0 (hG.free hp0)
      exact ⟨G, a, p, wR, st, ins, [x], congrArg (fun z => [V.ref a, V.str z, V.ref p]) wR_, wR_nm, s0.gh, ha, ok, SqT.of upd_same, hp, nd, by simp, by simp, fun G' H' x' s' at' hx => q G' H' x' (s0.trans s') at' (s0.free hx)⟩
    refine ⟨_, rfl, l, _, rfl, .inl (SqL.of hl), rfl, _, rfl, lenIf 2 (fun e => ?_) (fun e2 => ?_)⟩
    · obtain ⟨x, y, rfl⟩ : ∃ x y, xs = [x, y] := two_of e
      refine ⟨_, rfl, a, dx, fs, rfl, hG _ _ h1, hno _ (by decide +kernel), _, rfl, l, _, 0, _, rfl, rfl, SqL.of hl, atI_nat (j := 0) rfl, _, rfl, l, _, 1, _, rfl, rfl, SqL.of hl, atI_nat (j := 1) rfl, [V.ref a, V.str "r"], [V.str (S x), V.str (S y)], rfl, rfl, by show 2 ≤ sizeLine; decide, fun p hp0 => ?_⟩
      have s0 : Step none G H G (upd H p (.tup [V.str (S x), V.str (S y)])) := (Step.refl hG).loc hp0 (hG.free hp0)
      exact ⟨G, a, p, wR, st, ins, [x, y], congrArg (fun z => [V.ref a, V.str z, V.ref p]) wR_, wR_nm, s0.gh, ha, ok, SqT.of upd_same, hp, nd, by simp, by simp, fun G' H' x' s' at' hx => q G' H' x' (s0.trans s') at' (s0.free hx)⟩
    have e : xs.length = 3 := by omega
    obtain ⟨x, y, z, rfl⟩ : ∃ x y z, xs = [x, y, z] := three_of e
    refine ⟨_, rfl, a, dx, fs, rfl, hG _ _ h1, hno _ (by decide +kernel), _, rfl, l, _, 0, _, rfl, rfl, SqL.of hl, atI_nat (j := 0) rfl, _, rfl, l, _, 1, _, rfl, rfl, SqL.of hl, atI_nat (j := 1) rfl, _, rfl, l, _, 2, _, rfl, rfl, SqL.of hl, atI_nat (j := 2) rfl, [V.ref a, V.str "rule"], [V.str (S x), V.str (S y), V.str (S z)], rfl, rfl, by show 3 ≤ sizeLine; decide, fun p hp0 => ?_⟩
    have s0 : Step none G H G (upd H p (.tup [V.str (S x), V.str (S y), V.str (S z)])) := (Step.refl hG).loc hp0 (hG.free hp0)
    exact ⟨G, a, p, wRule, st, ins, [x, y, z], congrArg (fun z => [V.ref a, V.str z, V.ref p]) wRule_, wRule_nm, s0.gh, ha, ok, SqT.of upd_same, hp, nd, by simp, by simp, fun G' H' x' s' at' hx => q G' H' x' (s0.trans s') at' (s0.free hx)⟩
theorem mx_rep {st : Stp} {x y : List Nat} {m : Nat} (h : Mx st [x, y, x] m) : Mx st [x, y] m := by
  obtain ⟨⟨z, hz, e⟩, h2⟩ := h
  refine ⟨⟨z, ?_, e⟩, fun z hz => h2 z ?_⟩
  · simp only [List.mem_cons, List.mem_nil_iff, or_false] at hz ⊢
    rcases hz with h | h | h
    · exact .inl h
    · exact .inr h
    · exact .inl h
  · simp only [List.mem_cons, List.mem_nil_iff, or_false] at hz ⊢
    rcases hz with h | h
    · exact .inl h
    · exact .inr (.inl h)
abbrev N_Lcompute : List Str := ["_law_step", "_law_name", "_law_some_here"]
theorem sc_Lcompute : FnScope N_Lcompute ["_law_step", "_law_name", "_law_some_here"] (defScope s_Lcompute) := ⟨rfl, rfl, rfl, by decide +kernel, rfl, by decide +kernel, by decide +kernel⟩
theorem c_Lcompute (T : Tx K mg) : C8.Cal P w K mg base 5 "_law_compute" (spLCompute K (CSt K)) [] := by
  obtain ⟨fd, F⟩ := f_Lcompute T
  have tr_compute := tr_compute (P := P) (w := w) (base := base) T
  refine mkCal F (g_law_compute T) (F.bindsN fun _ _ _ _ _ _ us hl => match us, hl with | [_, _, _], _ => rfl) .nil sc_Lcompute (fun vs H Q E h => ?_) (fun cdv A outer s H vs Q E hr h => ?_)
  · obtain ⟨G, a, l, n, st, ins, xs, rfl, _⟩ := h
    rfl
  obtain ⟨G, a, l, n, st, ins, xs, rfl, nmn, nin, hG, ha, ok, hl, hp, l1, l4, hd, q⟩ := h
  obtain ⟨dx, fs, h1, hno⟩ := ha.obj
  refine ⟨_, (pss_cons (ps_if (pt_cmpR op_eq (pe_callB (call_len_seqK (K := K) rfl) (by rfl) (z_len T) boot_len (pa_cons (pv 2) pa_nil)) pe_int (nomark _)) (pss_one (ps_ret (pe_mtr tr_compute hr (by first | decide | omega) (pv 0) (pa_cons (pv 1) (pa_cons pe_str (pa_cons (pe_ix (ix_listK (K := K) rfl) (pv 2) pe_int (fun _ _ => rfl)) pa_nil)))))) pss_nil)
    (pss_cons (ps_if (pt_cmpR op_eq (pe_callB (call_len_seqK (K := K) rfl) (by rfl) (z_len T) boot_len (pa_cons (pv 2) pa_nil)) pe_int (nomark _)) (pss_one (ps_ret (pe_mtr tr_compute hr (by first | decide | omega) (pv 0) (pa_cons (pv 1) (pa_cons pe_str (pa_cons (pe_ix (ix_listK (K := K) rfl) (pv 2) pe_int (fun _ _ => rfl)) (pa_cons (pe_ix (ix_listK (K := K) rfl) (pv 2) pe_int (fun _ _ => rfl)) pa_nil))))))) pss_nil)
    (pss_one (ps_ret (pe_mtr tr_compute hr (by first | decide | omega) (pv 0) (pa_cons (pv 1) (pa_cons pe_str (pa_cons (pe_ix (ix_listK (K := K) rfl) (pv 2) pe_int (fun _ _ => rfl)) (pa_cons (pe_ix (ix_listK (K := K) rfl) (pv 2) pe_int (fun _ _ => rfl)) (pa_cons (pe_ix (ix_listK (K := K) rfl) (pv 2) pe_int (fun _ _ => rfl)) pa_nil)))))))))), ?_⟩
  refine ⟨_, rfl, l, _, rfl, .inl (SqL.of hl), rfl, _, rfl, lenIf 1 (fun e => ?_) (fun e1 => ?_)⟩
  · obtain ⟨x, rfl⟩ : ∃ x, xs = [x] := List.length_eq_one_iff.mp e
    refine ⟨_, rfl, a, dx, fs, rfl, hG _ _ h1, hno _ (by decide +kernel), _, rfl, _, rfl, l, _, 0, _, rfl, rfl, SqL.of hl, atI_nat (j := 0) rfl, [V.ref a, V.str (S n), V.str "f"], [V.str (S x)], rfl, rfl, by show 1 ≤ sizeLine; decide, fun p hp0 => ?_⟩
    have s0 : Step none G H G (upd H p (.tup [V.str (S x)])) := (Step.refl hG).loc hp0 (hG.free hp0)
    exact ⟨G, a, p, n, wF, st, ins, [x], congrArg (fun z => [V.ref a, V.str (S n), V.str z, V.ref p]) wF_, nmn, wF_nm, nin, s0.gh, ha, ok, SqT.of upd_same, hp, by simp, by simp, hd, fun m mx G' H' x' s' at' hx => q m mx G' H' x' (s0.trans s') at' (s0.free hx)⟩
  refine ⟨_, rfl, l, _, rfl, .inl (SqL.of hl), rfl, _, rfl, lenIf 2 (fun e => ?_) (fun e2 => ?_)⟩
  · obtain ⟨x, y, rfl⟩ : ∃ x y, xs = [x, y] := two_of e
    refine ⟨_, rfl, a, dx, fs, rfl, hG _ _ h1, hno _ (by decide +kernel), _, rfl, _, rfl, l, _, 0, _, rfl, rfl, SqL.of hl, atI_nat (j := 0) rfl, _, rfl, l, _, 1, _, rfl, rfl, SqL.of hl, atI_nat (j := 1) rfl, [V.ref a, V.str (S n), V.str "f"], [V.str (S x), V.str (S y)], rfl, rfl, by show 2 ≤ sizeLine; decide, fun p hp0 => ?_⟩
    have s0 : Step none G H G (upd H p (.tup [V.str (S x), V.str (S y)])) := (Step.refl hG).loc hp0 (hG.free hp0)
    exact ⟨G, a, p, n, wF, st, ins, [x, y], congrArg (fun z => [V.ref a, V.str (S n), V.str z, V.ref p]) wF_, nmn, wF_nm, nin, s0.gh, ha, ok, SqT.of upd_same, hp, by simp, by simp, hd, fun m mx G' H' x' s' at' hx => q m mx G' H' x' (s0.trans s') at' (s0.free hx)⟩
  obtain ⟨x, y, r, rfl⟩ : ∃ x y r, xs = x :: y :: r := match xs, l1, e1, e2 with | [_], _, h, _ => absurd rfl h | x :: y :: r, _, _, _ => ⟨x, y, r, rfl⟩
  refine ⟨_, rfl, a, dx, fs, rfl, hG _ _ h1, hno _ (by decide +kernel), _, rfl, _, rfl, l, _, 0, _, rfl, rfl, SqL.of hl, atI_nat (j := 0) rfl, _, rfl, l, _, 1, _, rfl, rfl, SqL.of hl, atI_nat (j := 1) rfl, _, rfl, l, _, 0, _, rfl, rfl, SqL.of hl, atI_nat (j := 0) rfl, [V.ref a, V.str (S n), V.str "zzzzzzz_"], [V.str (S x), V.str (S y), V.str (S x)], rfl, rfl, by show 3 ≤ sizeLine; decide, fun p hp0 => ?_⟩
  have s0 : Step none G H G (upd H p (.tup [V.str (S x), V.str (S y), V.str (S x)])) := (Step.refl hG).loc hp0 (hG.free hp0)
  have m3 : ∀ z ∈ [x, y, x], z ∈ [x, y] := fun z hz => by
    simp only [List.mem_cons, List.mem_nil_iff, or_false] at hz ⊢
    rcases hz with h | h | h <;> simp [h]
  exact ⟨G, a, p, n, wZ7, st, ins, [x, y, x], congrArg (fun z => [V.ref a, V.str (S n), V.str z, V.ref p]) wZ7_, nmn, wZ7_nm, nin, s0.gh, ha, ok, SqT.of upd_same, fun z hz => hp z (by rcases List.mem_cons.mp (m3 z hz) with h | h; exact h ▸ List.mem_cons_self; exact List.mem_cons_of_mem _ (List.mem_singleton.mp h ▸ List.mem_cons_self)), by simp, by simp, fun z hz => hd z (m3 z hz), fun m mx G' H' x' s' at' hx => q m (mx_rep mx) G' H' x' (s0.trans s') at' (s0.free hx)⟩
end Pf
namespace Bs
open PySem PySem.Spec PyProof.Rows L2 SX
variable {P : Program} {w : World} {K : PySem.W.Frag} {mg : Str → Option Value} {base : Heap}
abbrev wN : List Nat := [110]
theorem wN_ : ("n" : Str) = S wN := by decide +kernel
theorem wN_nm : Nm wN := nm_of (by decide +kernel)
abbrev wS : List Nat := [115]
theorem wS_ : ("s" : Str) = S wS := by decide +kernel
theorem wS_nm : Nm wS := nm_of (by decide +kernel)
/-- the measures of each way -/
abbrev wayUs (col : List Nat) : Nat → List (List Nat × Ms)
  | 0 => []
  | 1 => [(wN, none)]
  | 2 => [(wS, some col)]
  | _ => [(wS, some col), (wN, none)]
theorem kvN {H : Hp} : KvAt K H (Sum.inr ("n" : Str), .str "count") (wN, none) := ⟨congrArg Sum.inr wN_, rfl⟩
theorem kvS {H : Hp} {t : Addr} {col : List Nat} (h : H t = some (.tup [.str "sum", .str (S col)])) : KvAt K H (Sum.inr ("s" : Str), .ref t) (wS, some col) := ⟨congrArg Sum.inr wS_, t, rfl, SqT.of h⟩
structure KeyOk (st : Stp) (xs : List (List Nat)) (col : List Nat) : Prop where
  pl : Pl st xs
  nd : xs.Nodup
  l2 : xs.length ≤ 2
  cc : col ∈ st.cs
  cn : Nm col
  nn : wN ∉ xs
  ns : wS ∉ xs
theorem KeyOk.gr {st : Stp} {xs : List (List Nat)} {col : List Nat} (h : KeyOk st xs col) {way : Nat} (hw : 1 ≤ xs.length + (wayUs col way).length) : GrOk st xs (wayUs col way) := by
  have n1 := wN_nm
  have n2 := wS_nm
  have h3 := h.nn
  have h4 := h.ns
  have h5 := h.l2
  have h6 := h.cc
  have h7 := h.cn
  match way, hw with
  | 0, hw => exact ⟨h.pl, h.nd, by omega, by show 0 ≤ 3; decide, hw, by show ([] : List (List Nat)).Nodup; decide, fun u hu => (by cases hu), fun u hu => (by cases hu)⟩
  | 1, hw =>
    refine ⟨h.pl, h.nd, by omega, by show 1 ≤ 3; decide, hw, by show [wN].Nodup; decide, fun u hu => ?_, fun u hu c e => ?_⟩
    · rw [List.mem_singleton.mp hu]; exact ⟨n1, h3⟩
    · rw [List.mem_singleton.mp hu] at e; cases e
  | 2, hw =>
    refine ⟨h.pl, h.nd, by omega, by show 1 ≤ 3; decide, hw, by show [wS].Nodup; decide, fun u hu => ?_, fun u hu c e => ?_⟩
    · rw [List.mem_singleton.mp hu]; exact ⟨n2, h4⟩
    · rw [List.mem_singleton.mp hu] at e; cases e; exact ⟨h6, h7⟩
  | k + 3, hw =>
    refine ⟨h.pl, h.nd, by omega, by show 2 ≤ 3; decide, hw, by show [wS, wN].Nodup; decide, fun u hu => ?_, fun u hu c e => ?_⟩
    · rcases List.mem_cons.mp hu with rfl | hu
      · exact ⟨n2, h4⟩
      · rw [List.mem_singleton.mp hu]; exact ⟨n1, h3⟩
    · rcases List.mem_cons.mp hu with rfl | hu
      · cases e; exact ⟨h6, h7⟩
      · rw [List.mem_singleton.mp hu] at e; cases e
theorem grpCall {C a : Addr} {G H : Hp} {st : Stp} {ins : List V} {xs : List (List Nat)} {us : List (List Nat × Ms)} {kvs : List (Key × V)} {Q : VK} {E : XK} (hG : Same G H) (ha : StAt K C G a st ins) (oks : OkS st) (hk : Paired (KvAt K H) kvs us) (ok : GrOk st xs us)
    (q : MkSt K C G H (grSt st xs us) [.ref a] Q) (p d : Addr) (hp : H p = none) (hd : H d = none) (ne : d ≠ p) : spMGroupBy K C [.ref a, .ref p, .ref d] (upd (upd H p (.tup (sV xs))) d (.dK kvs)) Q E := by
  have hd1 : upd H p (.tup (sV xs)) d = none := by rw [upd_ne ne]; exact hd
  have s1 : Step none G H G (upd (upd H p (.tup (sV xs))) d (.dK kvs)) := ((Step.refl hG).loc hp (hG.free hp)).loc hd (hG.free hd)
  have k1 : Same H (upd (upd H p (.tup (sV xs))) d (.dK kvs)) := s1.all
  refine ⟨G, a, p, d, st, ins, kvs, xs, us, rfl, s1.gh, ha, oks, SqT.of (by rw [upd_ne ne.symm, upd_same]), upd_same, ?_, ok, fun G' H' x s' at' hx => q G' H' x (s1.trans s') at' (s1.free hx)⟩
  exact Paired.mapP hk fun q u h => ⟨h.1, h.2.same k1⟩
def spLGroup (K : PySem.W.Frag) (C : Addr) : Sp := fun vs H Q _ => ∃ (G : Hp) (a l : Addr) (way : Nat) (col : List Nat) (st : Stp) (ins : List V) (xs : List (List Nat)), vs = [.ref a, .ref l, .int (way : Nat), .str (S col)] ∧ Same G H ∧ StAt K C G a st ins ∧ OkS st ∧ H l = some (.lst (sV xs)) ∧ KeyOk st xs col ∧ way ≤ 3 ∧ (way = 0 → xs ≠ []) ∧
  MkSt K C G H (grSt st xs (wayUs col way)) [.ref a] Q
end Bs
namespace Pf
open PySem PySem.Spec PyProof.Rows L2 Bs SX
variable {P : Program} {w : World} {K : PySem.W.Frag} {mg : Str → Option Value} {base : Heap}
abbrev N_Lgroup : List Str := ["_law_step", "_law_keys", "_law_way", "_law_column"]
theorem sc_Lgroup : FnScope N_Lgroup ["_law_step", "_law_keys", "_law_way", "_law_column"] (defScope s_Lgroup) := ⟨rfl, rfl, rfl, by decide +kernel, rfl, by decide +kernel, by decide +kernel⟩
theorem c_Lgroup (T : Tx K mg) : C8.Cal P w K mg base 6 "_law_group" (spLGroup K (CSt K)) [] := by
  obtain ⟨fd, F⟩ := f_Lgroup T
  have wk_group_by_ := wk_group_by_ (P := P) (w := w) (base := base) T
  have wk_group_by_n := wk_group_by_n (P := P) (w := w) (base := base) T
  have wk_group_by_s := wk_group_by_s (P := P) (w := w) (base := base) T
  have wk_group_by_s_n := wk_group_by_s_n (P := P) (w := w) (base := base) T
  refine mkCal F (g_law_group T) (F.bindsN fun _ _ _ _ _ _ us hl => match us, hl with | [_, _, _, _], _ => rfl) .nil sc_Lgroup (fun vs H Q E h => ?_) (fun cdv A outer s H vs Q E hr h => ?_)
  · obtain ⟨G, a, l, way, col, st, ins, xs, rfl, _⟩ := h
    rfl
  obtain ⟨G, a, l, way, col, st, ins, xs, rfl, hG, ha, oks, hl, ko, w3, w0, q⟩ := h
  obtain ⟨dx, fs, h1, hno⟩ := ha.obj
  have hx := sV_len xs
  have k2 := ko.l2
  have one0 : wayUs col 0 = [] := rfl
  refine ⟨_, (pss_cons (ps_if (pt_cmpR op_eq (pv 2) pe_int (nomark _)) (pss_one (ps_ret (pe_ifExp (pt_cmpR op_eq (pe_callB (call_len_seqK (K := K) rfl) (by rfl) (z_len T) boot_len (pa_cons (pv 1) pa_nil)) pe_int (nomark _)) (Dm.pe_mtw wk_group_by_ hr (by first | decide | omega) (pv 0) (pa_cons (pe_ix (ix_listK (K := K) rfl) (pv 1) pe_int (fun _ _ => rfl)) pa_nil) pk_nil) (Dm.pe_mtw wk_group_by_ hr (by first | decide | omega) (pv 0) (pa_cons (pe_ix (ix_listK (K := K) rfl) (pv 1) pe_int (fun _ _ => rfl)) (pa_cons (pe_ix (ix_listK (K := K) rfl) (pv 1) pe_int (fun _ _ => rfl)) pa_nil)) pk_nil)))) pss_nil)
    (pss_cons (ps_if (pt_cmpR (op_eqD hr.units) (pv 1) (pe_lst pa_nil) (nomark _)) (pss_one (ps_ret (pe_ix (ix_listK (K := K) rfl) (pe_lst (pa_cons (Dm.pe_mtw0 wk_group_by_n hr (by first | decide | omega) (pv 0) (pk_cons pe_str pk_nil)) (pa_cons (Dm.pe_mtw0 wk_group_by_s hr (by first | decide | omega) (pv 0) (pk_cons (pe_tup (pa_cons pe_str (pa_cons (pv 3) pa_nil))) pk_nil)) (pa_cons (Dm.pe_mtw0 wk_group_by_s_n hr (by first | decide | omega) (pv 0) (pk_cons (pe_tup (pa_cons pe_str (pa_cons (pv 3) pa_nil))) (pk_cons pe_str pk_nil))) pa_nil)))) (pe_op op_sub (pv 2) pe_int) (fun _ _ => rfl)))) pss_nil)
    (pss_cons (ps_if (pt_cmpR op_eq (pe_callB (call_len_seqK (K := K) rfl) (by rfl) (z_len T) boot_len (pa_cons (pv 1) pa_nil)) pe_int (nomark _)) (pss_one (ps_ret (pe_ix (ix_listK (K := K) rfl) (pe_lst (pa_cons (Dm.pe_mtw wk_group_by_n hr (by first | decide | omega) (pv 0) (pa_cons (pe_ix (ix_listK (K := K) rfl) (pv 1) pe_int (fun _ _ => rfl)) pa_nil) (pk_cons pe_str pk_nil)) (pa_cons (Dm.pe_mtw wk_group_by_s hr (by first | decide | omega) (pv 0) (pa_cons (pe_ix (ix_listK (K := K) rfl) (pv 1) pe_int (fun _ _ => rfl)) pa_nil) (pk_cons (pe_tup (pa_cons pe_str (pa_cons (pv 3) pa_nil))) pk_nil)) (pa_cons (Dm.pe_mtw wk_group_by_s_n hr (by first | decide | omega) (pv 0) (pa_cons (pe_ix (ix_listK (K := K) rfl) (pv 1) pe_int (fun _ _ => rfl)) pa_nil) (pk_cons (pe_tup (pa_cons pe_str (pa_cons (pv 3) pa_nil))) (pk_cons pe_str pk_nil))) pa_nil)))) (pe_op op_sub (pv 2) pe_int) (fun _ _ => rfl)))) pss_nil)
    (pss_one (ps_ret (pe_ix (ix_listK (K := K) rfl) (pe_lst (pa_cons (Dm.pe_mtw wk_group_by_n hr (by first | decide | omega) (pv 0) (pa_cons (pe_ix (ix_listK (K := K) rfl) (pv 1) pe_int (fun _ _ => rfl)) (pa_cons (pe_ix (ix_listK (K := K) rfl) (pv 1) pe_int (fun _ _ => rfl)) pa_nil)) (pk_cons pe_str pk_nil)) (pa_cons (Dm.pe_mtw wk_group_by_s hr (by first | decide | omega) (pv 0) (pa_cons (pe_ix (ix_listK (K := K) rfl) (pv 1) pe_int (fun _ _ => rfl)) (pa_cons (pe_ix (ix_listK (K := K) rfl) (pv 1) pe_int (fun _ _ => rfl)) pa_nil)) (pk_cons (pe_tup (pa_cons pe_str (pa_cons (pv 3) pa_nil))) pk_nil)) (pa_cons (Dm.pe_mtw wk_group_by_s_n hr (by first | decide | omega) (pv 0) (pa_cons (pe_ix (ix_listK (K := K) rfl) (pv 1) pe_int (fun _ _ => rfl)) (pa_cons (pe_ix (ix_listK (K := K) rfl) (pv 1) pe_int (fun _ _ => rfl)) pa_nil)) (pk_cons (pe_tup (pa_cons pe_str (pa_cons (pv 3) pa_nil))) (pk_cons pe_str pk_nil))) pa_nil)))) (pe_op op_sub (pv 2) pe_int) (fun _ _ => rfl))))))), ?_⟩
  refine ⟨_, rfl, rfl, _, rfl, ?_⟩
  refine ite2 (fun e => ?_) (fun e => ?_)
  · have e : way = 0 := by have := V.int.inj (of_decide_eq_true e); omega
    subst e
    have hw : 1 ≤ xs.length + (wayUs col 0).length := by
      cases xs with
      | nil => exact absurd rfl (w0 rfl)
      | cons x r => simp; omega
    refine ⟨_, rfl, l, _, rfl, .inl (SqL.of hl), rfl, _, rfl, lenIf 1 (fun e => ?_) (fun e1 => ?_)⟩
    · obtain ⟨x, rfl⟩ : ∃ x, xs = [x] := List.length_eq_one_iff.mp e
      exact ⟨_, rfl, a, dx, fs, rfl, hG _ _ h1, hno _ (by decide +kernel), _, rfl, l, _, 0, _, rfl, rfl, SqL.of hl, atI_nat (j := 0) rfl, rfl, by show 1 ≤ sizeLine; decide, grpCall hG ha oks .nil (ko.gr hw) q⟩
    · obtain ⟨x, y, rfl⟩ : ∃ x y, xs = [x, y] := two_of (by have := w0 rfl; cases xs with | nil => exact absurd rfl this | cons z r => simp at e1 k2 ⊢; cases r with | nil => exact absurd rfl e1 | cons _ r => simp at k2 ⊢; exact k2)
      exact ⟨_, rfl, a, dx, fs, rfl, hG _ _ h1, hno _ (by decide +kernel), _, rfl, l, _, 0, _, rfl, rfl, SqL.of hl, atI_nat (j := 0) rfl, _, rfl, l, _, 1, _, rfl, rfl, SqL.of hl, atI_nat (j := 1) rfl, rfl, by show 2 ≤ sizeLine; decide, grpCall hG ha oks .nil (ko.gr hw) q⟩
  have w1 : 1 ≤ way := by
    cases way with
    | zero => exact absurd (decide_eq_true rfl) e
    | succ n => omega
  have gw : ∀ k, 1 ≤ k → 1 ≤ xs.length + (wayUs col k).length := fun k hk => by
    match k, hk with
    | 1, _ => show 1 ≤ _ + 1; omega
    | 2, _ => show 1 ≤ _ + 1; omega
    | k + 3, _ => show 1 ≤ _ + 2; omega
  refine ⟨_, rfl, by show 0 ≤ sizeLine; decide, fun e0 he0 => ?_⟩
  have s0 : Step none G H G (upd H e0 (.lst [])) := (Step.refl hG).loc he0 (hG.free he0)
  have he1 : upd H e0 (.lst []) e0 = some (.lst []) := upd_same
  have hl := s0.all _ _ hl
  generalize upd H e0 (.lst []) = H0 at *
  have sh : SeqAt.shaped (.list (strsD xs)) = true := by
    obtain ⟨z1, z2⟩ := lay_strs (xs := xs) fun x hx => oks.nc x (ko.pl x hx).1
    unfold SeqAt.shaped
    simp [PyData.canLay0, PyData.depth, z1, z2]
  have ev : PyData.eqv (.list (strsD xs)) (.list []) = decide (xs = []) := by
    cases xs with
    | nil => simp [strsD, PyData.eqv, PyData.eqvAll]
    | cons x r => simp [strsD, PyData.eqv, PyData.eqvAll]
  refine ⟨_, _, .lst (SqL.of hl) (dp_sV xs), .lst (SqL.of he1) .nil, sh, by decide, _, rfl, ?_⟩
  rw [ev]
  refine ite2 (fun e => ?_) (fun e => ?_)
  · obtain rfl : xs = [] := of_decide_eq_true e
    refine ⟨_, rfl, a, dx, fs, rfl, s0.gh _ _ h1, hno _ (by decide +kernel), rfl, by show 0 ≤ sizeLine; decide, grpCall s0.gh ha oks (.cons kvN .nil) (ko.gr (gw 1 (by decide))) fun G1 H1 x1 s1' at1 f1 => ?_⟩
    have s1 := s0.trans s1'
    have hl1 := s1'.all _ _ hl
    refine ⟨_, rfl, a, dx, fs, rfl, s1.same _ _ (hG _ _ h1), hno _ (by decide +kernel), _, rfl, by show 2 ≤ sizeLine; decide, fun t ht => ?_⟩
    have s2 := s1.loc (o := .tup [.str "sum", .str (S col)]) (s1.free ht) (s1.gh.free ht)
    have ht2 : upd H1 t (.tup [.str "sum", .str (S col)]) t = some (.tup [.str "sum", .str (S col)]) := upd_same
    have hl2 : upd H1 t (.tup [.str "sum", .str (S col)]) l = some (.lst (sV [])) := Same.new (Same.refl H1) ht _ _ hl1
    generalize upd H1 t (.tup [.str "sum", .str (S col)]) = H2 at *
    refine ⟨rfl, by show 0 ≤ sizeLine; decide, grpCall s2.gh (ha.same s2.gg) oks (.cons (kvS ht2) .nil) (ko.gr (gw 2 (by decide))) fun G3 H3 x2 s3' at2 f2 => ?_⟩
    have s3 := s2.trans s3'
    have hl3 := s3'.all _ _ hl2
    refine ⟨_, rfl, a, dx, fs, rfl, s3.same _ _ (hG _ _ h1), hno _ (by decide +kernel), _, rfl, by show 2 ≤ sizeLine; decide, fun t3 ht3 => ?_⟩
    have s4 := s3.loc (o := .tup [.str "sum", .str (S col)]) (s3.free ht3) (s3.gh.free ht3)
    have ht4 : upd H3 t3 (.tup [.str "sum", .str (S col)]) t3 = some (.tup [.str "sum", .str (S col)]) := upd_same
    generalize upd H3 t3 (.tup [.str "sum", .str (S col)]) = H4 at *
    refine ⟨rfl, by show 0 ≤ sizeLine; decide, grpCall s4.gh (ha.same s4.gg) oks (.cons (kvS ht4) (.cons kvN .nil)) (ko.gr (way := 3) (gw 3 (by decide))) fun G5 H5 x3 s5' at3 f3 => ?_⟩
    have s5 := s4.trans s5'
    refine ⟨by show 3 ≤ sizeLine; decide, fun L hL => ?_⟩
    have s6 := s5.loc (o := .lst [.ref x1, .ref x2, .ref x3]) (s5.free hL) (s5.gh.free hL)
    have hL6 : upd H5 L (.lst [.ref x1, .ref x2, .ref x3]) L = some (.lst [.ref x1, .ref x2, .ref x3]) := upd_same
    generalize upd H5 L (.lst [.ref x1, .ref x2, .ref x3]) = H6 at *
    refine ⟨_, rfl, _, _, rfl, rfl, ?_⟩
    rcases (show way = 1 ∨ way = 2 ∨ way = 3 by omega) with rfl | rfl | rfl
    · exact ⟨L, _, 0, _, rfl, rfl, SqL.of hL6, atI_nat (j := 0) rfl, q G5 H6 x1 s6 (at1.same (s3'.gg.trans s5'.gg)) (s0.free f1)⟩
    · exact ⟨L, _, 1, _, rfl, rfl, SqL.of hL6, atI_nat (j := 1) rfl, q G5 H6 x2 s6 (at2.same s5'.gg) (s2.free f2)⟩
    · exact ⟨L, _, 2, _, rfl, rfl, SqL.of hL6, atI_nat (j := 2) rfl, q G5 H6 x3 s6 at3 (s4.free f3)⟩
  have ne : xs ≠ [] := fun z => e (decide_eq_true z)
  refine ⟨_, rfl, l, _, rfl, .inl (SqL.of hl), rfl, _, rfl, lenIf 1 (fun e => ?_) (fun e1 => ?_)⟩
  · obtain ⟨x, rfl⟩ : ∃ x, xs = [x] := List.length_eq_one_iff.mp e
    refine ⟨_, rfl, a, dx, fs, rfl, s0.gh _ _ h1, hno _ (by decide +kernel), _, rfl, l, _, 0, _, rfl, rfl, SqL.of hl, atI_nat (j := 0) rfl, rfl, by show 1 ≤ sizeLine; decide, grpCall s0.gh ha oks (.cons kvN .nil) (ko.gr (gw 1 (by decide))) fun G1 H1 x1 s1' at1 f1 => ?_⟩
    have s1 := s0.trans s1'
    have hl1 := s1'.all _ _ hl
    refine ⟨_, rfl, a, dx, fs, rfl, s1.same _ _ (hG _ _ h1), hno _ (by decide +kernel), _, rfl, l, _, 0, _, rfl, rfl, SqL.of hl1, atI_nat (j := 0) rfl, _, rfl, by show 2 ≤ sizeLine; decide, fun t ht => ?_⟩
    have s2 := s1.loc (o := .tup [.str "sum", .str (S col)]) (s1.free ht) (s1.gh.free ht)
    have ht2 : upd H1 t (.tup [.str "sum", .str (S col)]) t = some (.tup [.str "sum", .str (S col)]) := upd_same
    have hl2 : upd H1 t (.tup [.str "sum", .str (S col)]) l = some (.lst (sV [x])) := Same.new (Same.refl H1) ht _ _ hl1
    generalize upd H1 t (.tup [.str "sum", .str (S col)]) = H2 at *
    refine ⟨rfl, by show 1 ≤ sizeLine; decide, grpCall s2.gh (ha.same s2.gg) oks (.cons (kvS ht2) .nil) (ko.gr (gw 2 (by decide))) fun G3 H3 x2 s3' at2 f2 => ?_⟩
    have s3 := s2.trans s3'
    have hl3 := s3'.all _ _ hl2
    refine ⟨_, rfl, a, dx, fs, rfl, s3.same _ _ (hG _ _ h1), hno _ (by decide +kernel), _, rfl, l, _, 0, _, rfl, rfl, SqL.of hl3, atI_nat (j := 0) rfl, _, rfl, by show 2 ≤ sizeLine; decide, fun t3 ht3 => ?_⟩
    have s4 := s3.loc (o := .tup [.str "sum", .str (S col)]) (s3.free ht3) (s3.gh.free ht3)
    have ht4 : upd H3 t3 (.tup [.str "sum", .str (S col)]) t3 = some (.tup [.str "sum", .str (S col)]) := upd_same
    generalize upd H3 t3 (.tup [.str "sum", .str (S col)]) = H4 at *
    refine ⟨rfl, by show 1 ≤ sizeLine; decide, grpCall s4.gh (ha.same s4.gg) oks (.cons (kvS ht4) (.cons kvN .nil)) (ko.gr (way := 3) (gw 3 (by decide))) fun G5 H5 x3 s5' at3 f3 => ?_⟩
    have s5 := s4.trans s5'
    refine ⟨by show 3 ≤ sizeLine; decide, fun L hL => ?_⟩
    have s6 := s5.loc (o := .lst [.ref x1, .ref x2, .ref x3]) (s5.free hL) (s5.gh.free hL)
    have hL6 : upd H5 L (.lst [.ref x1, .ref x2, .ref x3]) L = some (.lst [.ref x1, .ref x2, .ref x3]) := upd_same
    generalize upd H5 L (.lst [.ref x1, .ref x2, .ref x3]) = H6 at *
    refine ⟨_, rfl, _, _, rfl, rfl, ?_⟩
    rcases (show way = 1 ∨ way = 2 ∨ way = 3 by omega) with rfl | rfl | rfl
    · exact ⟨L, _, 0, _, rfl, rfl, SqL.of hL6, atI_nat (j := 0) rfl, q G5 H6 x1 s6 (at1.same (s3'.gg.trans s5'.gg)) (s0.free f1)⟩
    · exact ⟨L, _, 1, _, rfl, rfl, SqL.of hL6, atI_nat (j := 1) rfl, q G5 H6 x2 s6 (at2.same s5'.gg) (s2.free f2)⟩
    · exact ⟨L, _, 2, _, rfl, rfl, SqL.of hL6, atI_nat (j := 2) rfl, q G5 H6 x3 s6 at3 (s4.free f3)⟩
  obtain ⟨x, y, rfl⟩ : ∃ x y, xs = [x, y] := two_of (by cases xs with | nil => exact absurd rfl ne | cons z r => simp at e1 k2 ⊢; cases r with | nil => exact absurd rfl e1 | cons _ r => simp at k2 ⊢; exact k2)
  refine ⟨_, rfl, a, dx, fs, rfl, s0.gh _ _ h1, hno _ (by decide +kernel), _, rfl, l, _, 0, _, rfl, rfl, SqL.of hl, atI_nat (j := 0) rfl, _, rfl, l, _, 1, _, rfl, rfl, SqL.of hl, atI_nat (j := 1) rfl, rfl, by show 2 ≤ sizeLine; decide, grpCall s0.gh ha oks (.cons kvN .nil) (ko.gr (gw 1 (by decide))) fun G1 H1 x1 s1' at1 f1 => ?_⟩
  have s1 := s0.trans s1'
  have hl1 := s1'.all _ _ hl
  refine ⟨_, rfl, a, dx, fs, rfl, s1.same _ _ (hG _ _ h1), hno _ (by decide +kernel), _, rfl, l, _, 0, _, rfl, rfl, SqL.of hl1, atI_nat (j := 0) rfl, _, rfl, l, _, 1, _, rfl, rfl, SqL.of hl1, atI_nat (j := 1) rfl, _, rfl, by show 2 ≤ sizeLine; decide, fun t ht => ?_⟩
  have s2 := s1.loc (o := .tup [.str "sum", .str (S col)]) (s1.free ht) (s1.gh.free ht)
  have ht2 : upd H1 t (.tup [.str "sum", .str (S col)]) t = some (.tup [.str "sum", .str (S col)]) := upd_same
  have hl2 : upd H1 t (.tup [.str "sum", .str (S col)]) l = some (.lst (sV [x, y])) := Same.new (Same.refl H1) ht _ _ hl1
  generalize upd H1 t (.tup [.str "sum", .str (S col)]) = H2 at *
  refine ⟨rfl, by show 2 ≤ sizeLine; decide, grpCall s2.gh (ha.same s2.gg) oks (.cons (kvS ht2) .nil) (ko.gr (gw 2 (by decide))) fun G3 H3 x2 s3' at2 f2 => ?_⟩
  have s3 := s2.trans s3'
  have hl3 := s3'.all _ _ hl2
  refine ⟨_, rfl, a, dx, fs, rfl, s3.same _ _ (hG _ _ h1), hno _ (by decide +kernel), _, rfl, l, _, 0, _, rfl, rfl, SqL.of hl3, atI_nat (j := 0) rfl, _, rfl, l, _, 1, _, rfl, rfl, SqL.of hl3, atI_nat (j := 1) rfl, _, rfl, by show 2 ≤ sizeLine; decide, fun t3 ht3 => ?_⟩
  have s4 := s3.loc (o := .tup [.str "sum", .str (S col)]) (s3.free ht3) (s3.gh.free ht3)
  have ht4 : upd H3 t3 (.tup [.str "sum", .str (S col)]) t3 = some (.tup [.str "sum", .str (S col)]) := upd_same
  generalize upd H3 t3 (.tup [.str "sum", .str (S col)]) = H4 at *
  refine ⟨rfl, by show 2 ≤ sizeLine; decide, grpCall s4.gh (ha.same s4.gg) oks (.cons (kvS ht4) (.cons kvN .nil)) (ko.gr (way := 3) (gw 3 (by decide))) fun G5 H5 x3 s5' at3 f3 => ?_⟩
  have s5 := s4.trans s5'
  refine ⟨by show 3 ≤ sizeLine; decide, fun L hL => ?_⟩
  have s6 := s5.loc (o := .lst [.ref x1, .ref x2, .ref x3]) (s5.free hL) (s5.gh.free hL)
  have hL6 : upd H5 L (.lst [.ref x1, .ref x2, .ref x3]) L = some (.lst [.ref x1, .ref x2, .ref x3]) := upd_same
  generalize upd H5 L (.lst [.ref x1, .ref x2, .ref x3]) = H6 at *
  refine ⟨_, rfl, _, _, rfl, rfl, ?_⟩
  rcases (show way = 1 ∨ way = 2 ∨ way = 3 by omega) with rfl | rfl | rfl
  · exact ⟨L, _, 0, _, rfl, rfl, SqL.of hL6, atI_nat (j := 0) rfl, q G5 H6 x1 s6 (at1.same (s3'.gg.trans s5'.gg)) (s0.free f1)⟩
  · exact ⟨L, _, 1, _, rfl, rfl, SqL.of hL6, atI_nat (j := 1) rfl, q G5 H6 x2 s6 (at2.same s5'.gg) (s2.free f2)⟩
  · exact ⟨L, _, 2, _, rfl, rfl, SqL.of hL6, atI_nat (j := 2) rfl, q G5 H6 x3 s6 at3 (s4.free f3)⟩
end Pf
namespace Bs
open PySem PySem.Spec PyProof.Rows L2 SX
variable {P : Program} {w : World} {K : PySem.W.Frag} {mg : Str → Option Value} {base : Heap}
/-! ### the law's own names of computed columns -/
def xS (k : Nat) : Str := ("x" : Str) ++ toString (k : Int) ++ ("_" : Str)
def xN (k : Nat) : List Nat := (xS k).cps.toList
theorem S_toList (x : Str) : S x.cps.toList = x := by
  cases x
  simp [S]
theorem xN_S (k : Nat) : S (xN k) = xS k := S_toList _
def xOk (k : Nat) : Bool := nmB (xN k) && !decide (xN k ∈ NQl) && !decide (xN k = wN) && !decide (xN k = wS) && decide (∀ j < k, xN j ≠ xN k) && decide ((("x" : Str) ++ toString (k : Int)).length ≤ 100) && decide ((toString (k : Int) : Str).length ≤ 100)
theorem xOk_all : ∀ k < 14, xOk k = true := by decide +kernel
theorem xN_nm {k : Nat} (h : k < 14) : Nm (xN k) := by
  have := xOk_all k h
  unfold xOk at this
  simp only [Bool.and_eq_true] at this
  exact nm_of this.1.1.1.1.1.1
theorem xN_ne {k : Nat} (h : k < 14) : xN k ∉ NQl ∧ xN k ≠ wN ∧ xN k ≠ wS ∧ (∀ j < k, xN j ≠ xN k) ∧ (("x" : Str) ++ toString (k : Int)).length ≤ 100 ∧ (toString (k : Int) : Str).length ≤ 100 := by
  have := xOk_all k h
  unfold xOk at this
  simp only [Bool.and_eq_true, Bool.not_eq_true', decide_eq_false_iff_not, decide_eq_true_eq] at this
  exact ⟨this.1.1.1.1.1.2, this.1.1.1.1.2, this.1.1.1.2, this.1.1.2, this.1.2, this.2⟩
theorem NQ_ns : wN ∉ NQl ∧ wS ∉ NQl := by decide +kernel
/-! ### what the law keeps of a step -/
structure Good (st : Stp) (k : Nat) : Prop where
  ok : OkS st
  l1 : 1 ≤ st.cs.length
  lk : st.cs.length ≤ 8 + k
  dk : st.ds.length ≤ 8 + k
  col : ∀ c ∈ st.cs, c ∈ NQl ∨ c = wN ∨ c = wS ∨ ∃ j < k, c = xN j
  pl : ∀ c ∈ st.cs, c ∉ st.ms → c ≠ wN ∧ c ≠ wS
  sk : PyData.strOk (S st.kd) = true
theorem Good.mono {st : Stp} {k m : Nat} (h : Good st k) (l : k ≤ m) : Good st m := ⟨h.ok, h.l1, by have := h.lk; omega, by have := h.dk; omega, fun c hc => by
  rcases h.col c hc with e | e | e | ⟨j, hj, e⟩
  · exact .inl e
  · exact .inr (.inl e)
  · exact .inr (.inr (.inl e))
  · exact .inr (.inr (.inr ⟨j, by omega, e⟩)), h.pl, h.sk⟩
theorem Good.new {st : Stp} {k : Nat} (h : Good st k) (hk : k < 14) : xN k ∉ st.cs := fun z => by
  obtain ⟨h1, h2, h3, h4, _⟩ := xN_ne hk
  rcases h.col _ z with e | e | e | ⟨j, hj, e⟩
  · exact h1 e
  · exact h2 e
  · exact h3 e
  · exact h4 j hj e.symm
/-- the law's own depths -/
structure LDp (st : Stp) (ld : List (List Nat × Nat)) (k : Nat) : Prop where
  nd : (ld.map (·.1)).Nodup
  ln : ld.length ≤ k
  ks : ∀ c ∈ ld.map (·.1), ∃ j < k, c = xN j
  dp : ∀ c ∈ st.cs, c ∉ st.ms → (ld.lookup c).getD 0 = dep st c
theorem LDp.mono {st : Stp} {ld : List (List Nat × Nat)} {k m : Nat} (h : LDp st ld k) (l : k ≤ m) : LDp st ld m := ⟨h.nd, by have := h.ln; omega, fun c hc => by
  obtain ⟨j, hj, e⟩ := h.ks c hc
  exact ⟨j, by omega, e⟩, h.dp⟩
theorem LDp.new {st : Stp} {ld : List (List Nat × Nat)} {k : Nat} (h : LDp st ld k) (hk : k < 14) : xN k ∉ ld.map (·.1) := fun z => by
  obtain ⟨j, hj, e⟩ := h.ks _ z
  exact (xN_ne hk).2.2.2.1 j hj e.symm
/-- the tuple of a step: itself, its word, its columns and measures .. -/
def OneB (K : PySem.W.Frag) (C : Addr) (G : Hp) (o x : Addr) (st : Stp) : Prop := ∃ (c m d : Addr) (b : V) (ins : List V), G o = some (.tup [.ref x, .str (S st.kd), .ref c, .ref m, .ref d, b]) ∧ G c = some (.lst (sV st.cs)) ∧ G m = some (.lst (sV st.ms)) ∧ StAt K C G x st ins
theorem OneB.same {C : Addr} {G H : Hp} {o x : Addr} {st : Stp} (h : OneB K C G o x st) (s : Same G H) : OneB K C H o x st := by
  obtain ⟨c, m, d, b, ins, h1, h2, h3, h4⟩ := h
  exact ⟨c, m, d, b, ins, s _ _ h1, s _ _ h2, s _ _ h3, h4.same s⟩
/-- .. and what it stands above -/
def Blw (K : PySem.W.Frag) (C : Addr) (G : Hp) (b : V) (ins : List V) : Prop := (b = .non ∧ ins = []) ∨ ∃ (o x : Addr) (st : Stp), b = .ref o ∧ ins = [.ref x] ∧ OneB K C G o x st ∧ OkS st ∧ PyData.strOk (S st.kd) = true
theorem Blw.same {C : Addr} {G H : Hp} {b : V} {ins : List V} (h : Blw K C G b ins) (s : Same G H) : Blw K C H b ins := by
  rcases h with h | ⟨o, x, st, h1, h2, h3, h4⟩
  · exact .inl h
  · exact .inr ⟨o, x, st, h1, h2, h3.same s, h4⟩
structure OneAt (K : PySem.W.Frag) (C : Addr) (G : Hp) (o x : Addr) (st : Stp) (ld : List (List Nat × Nat)) : Prop where
  ex : ∃ (c m d : Addr) (b : V) (ins : List V), G o = some (.tup [.ref x, .str (S st.kd), .ref c, .ref m, .ref d, b]) ∧ G c = some (.lst (sV st.cs)) ∧ G m = some (.lst (sV st.ms)) ∧ G d = some (.dK (dV ld)) ∧ StAt K C G x st ins ∧ Blw K C G b ins
theorem OneAt.same {C : Addr} {G H : Hp} {o x : Addr} {st : Stp} {ld : List (List Nat × Nat)} (h : OneAt K C G o x st ld) (s : Same G H) : OneAt K C H o x st ld := by
  obtain ⟨c, m, d, b, ins, h1, h2, h3, h4, h5, h6⟩ := h.ex
  exact ⟨c, m, d, b, ins, s _ _ h1, s _ _ h2, s _ _ h3, s _ _ h4, h5.same s, h6.same s⟩
theorem OneAt.b {C : Addr} {G : Hp} {o x : Addr} {st : Stp} {ld : List (List Nat × Nat)} (h : OneAt K C G o x st ld) : OneB K C G o x st := by
  obtain ⟨c, m, d, b, ins, h1, h2, h3, h4, h5, h6⟩ := h.ex
  exact ⟨c, m, d, b, ins, h1, h2, h3, h5⟩
/-- one of the steps that were found, with less than k numbers used -/
def One (K : PySem.W.Frag) (C : Addr) (G : Hp) (k : Nat) (o : Addr) : Prop := ∃ (x : Addr) (st : Stp) (ld : List (List Nat × Nat)), OneAt K C G o x st ld ∧ Good st k ∧ LDp st ld k
theorem One.same {C : Addr} {G H : Hp} {k : Nat} {o : Addr} (h : One K C G k o) (s : Same G H) : One K C H k o := by
  obtain ⟨x, st, ld, h1, h2, h3⟩ := h
  exact ⟨x, st, ld, h1.same s, h2, h3⟩
theorem One.mono {C : Addr} {G : Hp} {k m : Nat} {o : Addr} (h : One K C G k o) (l : k ≤ m) : One K C G m o := by
  obtain ⟨x, st, ld, h1, h2, h3⟩ := h
  exact ⟨x, st, ld, h1, h2.mono l, h3.mono l⟩
/-- the same but the word -/
theorem Good.kd {st : Stp} {k : Nat} (h : Good st k) (w : List Nat) (hw : PyData.strOk (S w) = true) : Good { st with kd := w } k := ⟨⟨h.ok.nd, h.ok.ln, h.ok.ms, h.ok.nm, h.ok.dp, h.ok.dn, h.ok.dl, h.ok.nc, h.ok.dk⟩, h.l1, h.lk, h.dk, h.col, h.pl, hw⟩
theorem LDp.kd {st : Stp} {ld : List (List Nat × Nat)} {k : Nat} (h : LDp st ld k) (w : List Nat) : LDp { st with kd := w } ld k := ⟨h.nd, h.ln, h.ks, h.dp⟩
abbrev named : List (List Nat) := [kWhere, kCompute, kEqual, kSort, kMerge, kOwn, kSplit]
def spLNamed (K : PySem.W.Frag) (C : Addr) : Sp := fun vs H Q _ => ∃ (G : Hp) (kd : List Nat) (o x l : Addr) (k : Nat) (st : Stp) (ld : List (List Nat × Nat)) (xs : List (List Nat)), vs = [.str (S kd), .ref o, .ref l, .int (k : Nat)] ∧ Same G H ∧ OneAt K C G o x st ld ∧ Good st k ∧ LDp st ld k ∧ k < 14 ∧
  H l = some (.lst (sV xs)) ∧ Pl st xs ∧ xs.Nodup ∧ 1 ≤ xs.length ∧ xs.length ≤ 4 ∧ kd ∈ named ∧
  (∀ H' : Hp, Step none G H G H' → Q .non H') ∧ ∀ (G' H' : Hp) (o' : Addr), Step none G H G' H' → One K C G' (k + 1) o' → Q (.ref o') H'
end Bs
namespace Pf
open PySem PySem.Spec PyProof.Rows L2 Bs SX
variable {P : Program} {w : World} {K : PySem.W.Frag} {mg : Str → Option Value} {base : Heap}
end Pf
namespace Bs
open PySem PySem.Spec PyProof.Rows L2 SX
variable {P : Program} {w : World} {K : PySem.W.Frag} {mg : Str → Option Value} {base : Heap}
theorem mkOne {C : Addr} {G1 H1 : Hp} {o x x1 t c m d : Addr} {st st1 : Stp} {ld1 : List (List Nat × Nat)} {k : Nat} (gh : Same G1 H1) (h1 : G1 c = some (.lst (sV st1.cs))) (h2 : G1 m = some (.lst (sV st1.ms))) (h3 : G1 d = some (.dK (dV ld1))) (at1 : StAt K C G1 x1 st1 [.ref x]) (ob : OneB K C G1 o x st) (oks : OkS st ∧ PyData.strOk (S st.kd) = true)
    (g : Good st1 k) (l : LDp st1 ld1 k) (ht : H1 t = none) : One K C (upd G1 t (.tup [.ref x1, .str (S st1.kd), .ref c, .ref m, .ref d, .ref o])) k t := by
  have s : Same G1 (upd G1 t (.tup [.ref x1, .str (S st1.kd), .ref c, .ref m, .ref d, .ref o])) := Same.new (Same.refl G1) (gh.free ht)
  exact ⟨x1, st1, ld1, ⟨c, m, d, .ref o, _, upd_same, s _ _ h1, s _ _ h2, s _ _ h3, at1.same s, .inr ⟨o, x, st, rfl, rfl, ob.same s, oks⟩⟩, g, l⟩
theorem cut_take (xs : List (List Nat)) (n : Nat) : cutV (sV xs) none (some (n : Int)) = sV (xs.take n) := by
  have e0 : sV (xs.take n) = (sV xs).take n := by
    show ((xs.take n).map S).map V.str = ((xs.map S).map V.str).take n
    rw [List.map_take, List.map_take]
  unfold cutV
  rw [HT.sIx_nat, sV_len, e0]
  show ((sV xs).drop 0).take (min n xs.length - 0) = _
  rw [List.drop_zero, Nat.sub_zero]
  by_cases e : n ≤ xs.length
  · rw [Nat.min_eq_left e]
  · rw [Nat.min_eq_right (by omega), List.take_of_length_le (by rw [sV_len]; omega), List.take_of_length_le (by rw [sV_len]; omega)]
theorem lk_app (as bs : List (List Nat × Nat)) (c : List Nat) : (as ++ bs).lookup c = (as.lookup c).or (bs.lookup c) := by
  induction as with
  | nil => rfl
  | cons p r ih =>
    obtain ⟨a, n⟩ := p
    show List.lookup c ((a, n) :: (r ++ bs)) = (List.lookup c ((a, n) :: r)).or _
    rw [List.lookup_cons, List.lookup_cons]
    by_cases e : c = a
    · rw [e, beq_self_eq_true]; rfl
    · rw [beq_false_of_ne e]; exact ih
theorem lk_no {ds : List (List Nat × Nat)} {c : List Nat} (h : c ∉ ds.map (·.1)) : ds.lookup c = none := by
  induction ds with
  | nil => rfl
  | cons p r ih =>
    obtain ⟨a, n⟩ := p
    rw [List.map_cons, List.mem_cons, not_or] at h
    rw [List.lookup_cons, beq_false_of_ne h.1]
    exact ih h.2
abbrev cpSt (st : Stp) (n : List Nat) (m : Nat) : Stp := ⟨kCompute, st.cs ++ [n], st.ms, st.ds ++ [(n, 1 + m)]⟩
theorem dep_cp {st : Stp} {n c : List Nat} {m : Nat} (ok : OkS st) (hn : n ∉ st.cs) (h1 : c ∈ st.cs) (h2 : c ∉ st.ms) : dep (cpSt st n m) c = dep st c := by
  have e := (ok.dep h1 h2).1
  unfold Bs.dep at e ⊢
  show ((st.ds ++ [(n, 1 + m)]).lookup c).getD 0 = _
  rw [lk_app, e]
  rfl
theorem dep_new {st : Stp} {n : List Nat} {m : Nat} (ok : OkS st) (hn : n ∉ st.cs) : dep (cpSt st n m) n = 1 + m ∧ (cpSt st n m).ds.lookup n = some (1 + m) := by
  have e : (st.ds ++ [(n, 1 + m)]).lookup n = some (1 + m) := by
    rw [lk_app, lk_no fun z => hn (ok.dk n z), List.lookup_cons, beq_self_eq_true]
    rfl
  refine ⟨?_, e⟩
  unfold Bs.dep
  show ((st.ds ++ [(n, 1 + m)]).lookup n).getD 0 = _
  rw [e]
  rfl
theorem nodup_snoc {xs : List (List Nat)} {n : List Nat} (h : xs.Nodup) (hn : n ∉ xs) : (xs ++ [n]).Nodup := by
  rw [List.nodup_append]
  refine ⟨h, by simp, fun a ha b hb e => hn ?_⟩
  rw [← List.mem_singleton.mp hb, ← e]
  exact ha
theorem Good.comp {st : Stp} {k m : Nat} (h : Good st k) (hk : k < 14) (hm : m ≤ 2) : Good (cpSt st (xN k) m) (k + 1) := by
  have hn := h.new hk
  have ok := h.ok
  have h1 := h.lk
  have h2 := h.dk
  have hms : xN k ∉ st.ms := fun z => hn (ok.ms _ z)
  refine ⟨⟨nodup_snoc ok.nd hn, ?_, fun c hc => List.mem_append_left _ (ok.ms c hc), ok.nm, fun c hc hm' => ?_, ?_, ?_, fun c hc => ?_, fun c hc => ?_⟩, ?_, ?_, ?_, fun c hc => ?_, fun c hc hm' => ?_, by show PyData.strOk (S kCompute) = true; decide +kernel⟩
  · show (st.cs ++ [xN k]).length ≤ 60
    rw [List.length_append]; show _ + 1 ≤ _; omega
  · rcases List.mem_append.mp hc with hc | hc
    · obtain ⟨n, e, l⟩ := ok.dp c hc hm'
      refine ⟨n, ?_, l⟩
      show (st.ds ++ [(xN k, 1 + m)]).lookup c = _
      rw [lk_app, e]
      rfl
    · rw [List.mem_singleton.mp hc]
      exact ⟨1 + m, (dep_new ok hn).2, by omega⟩
  · show ((st.ds ++ [(xN k, 1 + m)]).map (·.1)).Nodup
    rw [List.map_append]
    exact nodup_snoc ok.dn fun z => hn (ok.dk _ z)
  · show (st.ds ++ [(xN k, 1 + m)]).length ≤ 60
    rw [List.length_append]; show _ + 1 ≤ _; omega
  · rcases List.mem_append.mp hc with hc | hc
    · exact ok.nc c hc
    · rw [List.mem_singleton.mp hc]; exact xN_nm hk
  · have hc : c ∈ ((st.ds ++ [(xN k, 1 + m)]).map (·.1)) := hc
    rw [List.map_append] at hc
    rcases List.mem_append.mp hc with hc | hc
    · exact List.mem_append_left _ (ok.dk c hc)
    · exact List.mem_append_right _ hc
  · show 1 ≤ (st.cs ++ [xN k]).length
    rw [List.length_append]; show 1 ≤ _ + 1; omega
  · show (st.cs ++ [xN k]).length ≤ _
    rw [List.length_append]; show _ + 1 ≤ _; omega
  · show (st.ds ++ [(xN k, 1 + m)]).length ≤ _
    rw [List.length_append]; show _ + 1 ≤ _; omega
  · rcases List.mem_append.mp hc with hc | hc
    · rcases h.col c hc with e | e | e | ⟨j, hj, e⟩
      · exact .inl e
      · exact .inr (.inl e)
      · exact .inr (.inr (.inl e))
      · exact .inr (.inr (.inr ⟨j, by omega, e⟩))
    · exact .inr (.inr (.inr ⟨k, by omega, List.mem_singleton.mp hc⟩))
  · rcases List.mem_append.mp hc with hc | hc
    · exact h.pl c hc hm'
    · rw [List.mem_singleton.mp hc]
      exact ⟨(xN_ne hk).2.1, (xN_ne hk).2.2.1⟩
theorem LDp.comp {st : Stp} {ld : List (List Nat × Nat)} {k m : Nat} (h : Good st k) (l : LDp st ld k) (hk : k < 14) : LDp (cpSt st (xN k) m) ((xN k, 1 + m) :: ld) (k + 1) := by
  have hn := h.new hk
  refine ⟨List.nodup_cons.mpr ⟨l.new hk, l.nd⟩, ?_, fun c hc => ?_, fun c hc hm => ?_⟩
  · have := l.ln
    show ld.length + 1 ≤ _
    omega
  · rcases List.mem_cons.mp hc with e | hc
    · exact ⟨k, by omega, e⟩
    · obtain ⟨j, hj, e⟩ := l.ks c hc
      exact ⟨j, by omega, e⟩
  · rcases List.mem_append.mp hc with hc | hc
    · have ne : c ≠ xN k := fun e => hn (e ▸ hc)
      rw [List.lookup_cons, beq_false_of_ne ne, dep_cp h.ok hn hc hm]
      exact l.dp c hc hm
    · rw [List.mem_singleton.mp hc, List.lookup_cons, beq_self_eq_true, (dep_new h.ok hn).1]
      rfl
theorem valV_lk (ds : List (List Nat × Nat)) (c : List Nat) : (valV (dV ds) (Sum.inr (S c))).getD (V.int 0) = V.int (((ds.lookup c).getD 0 : Nat) : Int) := by
  cases e : ds.lookup c with
  | some n =>
    rw [dV_get e]
    rfl
  | none =>
    have : valV (dV ds) (Sum.inr (S c)) = none := by
      induction ds with
      | nil => rfl
      | cons p r ih =>
        obtain ⟨a, n⟩ := p
        rw [List.lookup_cons] at e
        by_cases h : c = a
        · rw [h, beq_self_eq_true] at e; cases e
        · rw [beq_false_of_ne h] at e
          show valV ((Sum.inr (S a), V.int (n : Nat)) :: dV r) _ = none
          rw [valV_neg fun z => h (S_inj (Sum.inr.inj z)).symm]
          exact ih e
    rw [this]
    rfl
theorem merge_new (ds : List (List Nat × Nat)) (c : List Nat) (n : Nat) (nd : (ds.map (·.1)).Nodup) (h : c ∉ ds.map (·.1)) : mergeK (dV [(c, n)]) (dV ds) = dV ((c, n) :: ds) := by
  have h : ∀ (as bs : List (List Nat × Nat)), ((as ++ bs).map (·.1)).Nodup → mergeK (dV as) (dV bs) = dV (as ++ bs) := by
    intro as bs
    induction bs generalizing as with
    | nil => intro _; show dV as = _; rw [List.append_nil]
    | cons p r ih =>
      intro hn
      obtain ⟨c, n⟩ := p
      have hc : c ∉ as.map (·.1) := by
        rw [List.map_append, List.nodup_append] at hn
        exact fun z => hn.2.2 c z c (by simp) rfl
      show mergeK (putK (dV as) (Sum.inr (S c)) (.int (n : Nat))) (dV r) = _
      rw [dV_put hc, ih (as ++ [(c, n)]) (by rw [List.append_assoc]; exact hn), List.append_assoc]
      rfl
  exact h [(c, n)] ds (List.nodup_cons.mpr ⟨‹_›, nd⟩)
end Bs
namespace Pf
open PySem PySem.Spec PyProof.Rows L2 Bs SX
variable {P : Program} {w : World} {K : PySem.W.Frag} {mg : Str → Option Value} {base : Heap}
abbrev N_Lnamed : List Str := ["_law_kind", "_law_one", "_law_some_here", "_law_number", "_law_base", "_law_columns", "_law_measures", "_law_depths", "_law_deep", "_law_name", "_law_more"]
theorem sc_Lnamed : FnScope N_Lnamed ["_law_kind", "_law_one", "_law_some_here", "_law_number"] (defScope s_Lnamed) := ⟨rfl, rfl, rfl, by decide +kernel, rfl, by decide +kernel, by decide +kernel⟩
theorem c_Lnamed (T : Tx K mg) : C8.Cal P w K mg base 7 "_law_named" (spLNamed K (CSt K)) [] := by
  obtain ⟨fd, F⟩ := f_Lnamed T
  have c_Lcompute := c_Lcompute (P := P) (w := w) (base := base) T
  have c_Lwhere := c_Lwhere (P := P) (w := w) (base := base) T
  have c_Lsort := c_Lsort (P := P) (w := w) (base := base) T
  have c_Lmerge := c_Lmerge (P := P) (w := w) (base := base) T
  have c_Lruled := c_Lruled (P := P) (w := w) (base := base) T
  have t_equal := t_equal (P := P) (w := w) (base := base) T
  refine mkCal F (g_law_named T) (F.bindsN fun _ _ _ _ _ _ us hl => match us, hl with | [_, _, _, _], _ => rfl) .nil sc_Lnamed (fun vs H Q E h => ?_) (fun cdv A outer s H vs Q E hr h => ?_)
  · obtain ⟨G, kd, o, x, l, k, st, ld, xs, rfl, _⟩ := h
    rfl
  obtain ⟨G, kd, o, x, l, k, st, ld, xs, rfl, hG, ho, gd, lp, k14, hl, hp, nd, l1, l4, hk, q1, q2⟩ := h
  obtain ⟨c, m, d, b, ins, g1, g2, g3, g4, g5, g6⟩ := id ho.ex
  have hu := hu_of hr
  have sl : sizeLine = 16777216 := rfl
  have hxl := sV_len xs
  refine ⟨_, (pss_cons (ps_asg (pe_tup (pa_cons (pe_ix (ix_tupK (K := K) rfl) (pv 1) pe_int (fun _ _ => rfl)) (pa_cons (pe_ix (ix_tupK (K := K) rfl) (pv 1) pe_int (fun _ _ => rfl)) (pa_cons (pe_ix (ix_tupK (K := K) rfl) (pv 1) pe_int (fun _ _ => rfl)) (pa_cons (pe_ix (ix_tupK (K := K) rfl) (pv 1) pe_int (fun _ _ => rfl)) pa_nil))))) (pg_tup rfl (pgs_cons (pg_name (i := 4) sc_Lnamed.nd rfl (Or.inl rfl)) (pgs_cons (pg_name (i := 5) sc_Lnamed.nd rfl (Or.inl rfl)) (pgs_cons (pg_name (i := 6) sc_Lnamed.nd rfl (Or.inl rfl)) (pgs_cons (pg_name (i := 7) sc_Lnamed.nd rfl (Or.inr rfl)) pgs_nil))))))
    (pss_cons (ps_if (pt_cmpR op_eq (pv 0) pe_str (nomark _)) (pss_cons (ps_set (i := 8) sc_Lnamed.nd rfl (Or.inl rfl) (pe_op op_add pe_int (pe_callB (cr_max rfl) (by rfl) (z_max T) boot_max (pa_cons (pe_lc (own := [("_law_name", 9)]) rfl sc_Lnamed.nd (pi_listK (K := K) rfl (pe_slice sl_list (pv 2) po_none (po_some pe_int))) (blkOk_by (N := N_Lnamed) (sc := defScope s_Lnamed) (by decide +kernel)) (fun _ _ _ _ _ => (pg_name (i := 9) sc_Lnamed.nd rfl (Or.inl rfl))) (fun _ _ _ _ _ => pts_nil) (fun _ _ _ _ _ => (pe_dget2 hu (pv 7) (pv 9) pe_int ⟨by rfl, by rfl, by rfl, by rfl⟩))) pa_nil))))
    (pss_cons (ps_if (pt_cmpR op_gt (pv 8) pe_int (nomark _)) (pss_one (ps_ret pe_non)) pss_nil)
    (pss_cons (ps_set (i := 9) sc_Lnamed.nd rfl (Or.inl rfl) (pe_op op_add_str (pe_op op_add_str pe_str (pe_callTy call_str_int (by rfl) (z_str T) boot_str (pa_cons (pv 3) pa_nil))) pe_str))
    (pss_cons (ps_set (i := 10) sc_Lnamed.nd rfl (Or.inl rfl) (pe_disp (pps_cons (pv 9) (pv 8) pps_nil) (by rfl) (by rfl) (fun z => by cases z) (by decide)))
    (pss_cons (ps_expr (pe_bmK (K := K) rfl PySem.F.plainAttrs_dict PySem.F.slot_dict_update PySem.F.type_dict_update Dm.mt_dupd (pv 10) (pa_cons (pv 7) pa_nil)))
    (pss_one (ps_ret (pe_tup (pa_cons (C8.pe_c c_Lcompute hr (by first | decide | omega) rfl (pa_cons (pv 4) (pa_cons (pv 9) (pa_cons (pv 2) pa_nil)))) (pa_cons (pv 0) (pa_cons (pe_op op_cat (pv 5) (pe_lst (pa_cons (pv 9) pa_nil))) (pa_cons (pv 6) (pa_cons (pv 10) (pa_cons (pv 1) pa_nil)))))))))))))) pss_nil)
    (pss_cons (ps_if (pt_cmpR op_eq (pv 0) pe_str (nomark _)) (pss_cons (ps_if (pt_cmpR op_lt (pe_callB (call_len_seqK (K := K) rfl) (by rfl) (z_len T) boot_len (pa_cons (pv 2) pa_nil)) pe_int (nomark _)) (pss_one (ps_ret pe_non)) pss_nil)
    (pss_one (ps_ret (pe_tup (pa_cons (C8.pe_mt t_equal hr (by first | decide | omega) (pv 4) (pa_cons (pe_ix (ix_listK (K := K) rfl) (pv 2) pe_int (fun _ _ => rfl)) (pa_cons (pe_ix (ix_listK (K := K) rfl) (pv 2) pe_int (fun _ _ => rfl)) pa_nil))) (pa_cons (pv 0) (pa_cons (pv 5) (pa_cons (pv 6) (pa_cons (pv 7) (pa_cons (pv 1) pa_nil)))))))))) pss_nil)
    (pss_cons (ps_if (pt_cmpR op_eq (pv 0) pe_str (nomark _)) (pss_one (ps_ret (pe_tup (pa_cons (C8.pe_c c_Lwhere hr (by first | decide | omega) rfl (pa_cons (pv 4) (pa_cons (pv 2) pa_nil))) (pa_cons (pv 0) (pa_cons (pv 5) (pa_cons (pv 6) (pa_cons (pv 7) (pa_cons (pv 1) pa_nil))))))))) pss_nil)
    (pss_cons (ps_if (pt_cmpR op_eq (pv 0) pe_str (nomark _)) (pss_one (ps_ret (pe_tup (pa_cons (C8.pe_c c_Lsort hr (by first | decide | omega) rfl (pa_cons (pv 4) (pa_cons (pv 2) pa_nil))) (pa_cons (pv 0) (pa_cons (pv 5) (pa_cons (pv 6) (pa_cons (pv 7) (pa_cons (pv 1) pa_nil))))))))) pss_nil)
    (pss_cons (ps_if (pt_cmpR op_eq (pv 0) pe_str (nomark _)) (pss_one (ps_ret (pe_tup (pa_cons (C8.pe_c c_Lmerge hr (by first | decide | omega) rfl (pa_cons (pv 4) (pa_cons (pv 2) pa_nil))) (pa_cons (pv 0) (pa_cons (pv 5) (pa_cons (pv 6) (pa_cons (pv 7) (pa_cons (pv 1) pa_nil))))))))) pss_nil)
    (pss_one (ps_ret (pe_tup (pa_cons (C8.pe_c c_Lruled hr (by first | decide | omega) rfl (pa_cons (pv 4) (pa_cons (pv 0) (pa_cons (pe_slice sl_list (pv 2) po_none (po_some pe_int)) pa_nil)))) (pa_cons (pv 0) (pa_cons (pv 5) (pa_cons (pv 6) (pa_cons (pv 7) (pa_cons (pv 1) pa_nil))))))))))))))), ?_⟩
  have e1 := SqT.of (K := K) (hG _ _ g1)
  refine ⟨_, rfl, o, _, 0, _, rfl, rfl, e1, atI_nat (j := 0) rfl, _, rfl, o, _, 2, _, rfl, rfl, e1, atI_nat (j := 2) rfl, _, rfl, o, _, 3, _, rfl, rfl, e1, atI_nat (j := 3) rfl, _, rfl, o, _, 4, _, rfl, rfl, e1, atI_nat (j := 4) rfl, by show 4 ≤ sizeLine; decide, fun t0 ht0 => ?_⟩
  have s0 : Step none G H G (upd H t0 (.tup [.ref x, .ref c, .ref m, .ref d])) := (Step.refl hG).loc ht0 (hG.free ht0)
  have hl0 := s0.all _ _ hl
  refine ⟨t0, _, rfl, SqT.of upd_same, rfl, _, _, rfl, _, _, rfl, _, _, rfl, _, _, rfl, rfl, ?_⟩
  generalize upd H t0 (.tup [.ref x, .ref c, .ref m, .ref d]) = H0 at *
  have okd := gd.ok.dpo
  have fin : ∀ (w : List Nat) (G1 H1 : Hp) (x1 t : Addr), Step none G H0 G1 H1 → StAt K (CSt K) G1 x1 { st with kd := w } [.ref x] → H1 t = none → PyData.strOk (S w) = true → One K (CSt K) (upd G1 t (.tup [.ref x1, .str (S w), .ref c, .ref m, .ref d, .ref o])) (k + 1) t ∧ Step none G H (upd G1 t (.tup [.ref x1, .str (S w), .ref c, .ref m, .ref d, .ref o])) (upd H1 t (.tup [.ref x1, .str (S w), .ref c, .ref m, .ref d, .ref o])) := fun w G1 H1 x1 t s1 at1 ht hw =>
    ⟨mkOne (st1 := { st with kd := w }) s1.gh (s1.gg _ _ g2) (s1.gg _ _ g3) (s1.gg _ _ g4) at1 (ho.b.same s1.gg) ⟨gd.ok, gd.sk⟩ ((gd.kd w hw).mono (by omega)) ((lp.kd w).mono (by omega)) ht, (s0.trans s1).new_ ht⟩
  simp only [List.mem_cons, List.mem_nil_iff, or_false] at hk
  rcases hk with rfl | rfl | rfl | rfl | rfl | rfl | rfl
  · refine ⟨_, rfl, rfl, _, rfl, strIf kCompute_ (fun z => absurd z (by decide)) (fun _ => ?_)⟩
    refine ⟨_, rfl, rfl, _, rfl, strIf kEqual_ (fun z => absurd z (by decide)) (fun _ => ?_)⟩
    refine ⟨_, rfl, rfl, _, rfl, strIf kWhere_ (fun _ => ?_) (fun z => absurd rfl z)⟩
    exact ⟨_, rfl, _, rfl, G, x, l, st, ins, xs, rfl, s0.gh, g5, okd, hl0, hp, nd, l1, l4, fun G1 H1 x1 s1 at1 _ => ⟨_, rfl, _, rfl, _, rfl, _, rfl, _, rfl, by show 6 ≤ sizeLine; decide, fun t ht => q2 _ _ _ (fin _ G1 H1 x1 t s1 at1 ht (by decide +kernel)).2 (fin _ G1 H1 x1 t s1 at1 ht (by decide +kernel)).1⟩⟩
  · refine ⟨_, rfl, rfl, _, rfl, strIf kCompute_ (fun _ => ?_) (fun z => absurd rfl z)⟩
    obtain ⟨dx, fs, h1, hno⟩ := g5.obj
    refine ⟨_, rfl, _, rfl, l, _, rfl, SqL.of hl0, fun l' hl' => ?_⟩
    rw [show cutV (sV xs) none (some 2) = sV (xs.take 2) from cut_take xs 2]
    have s9 : Step none G H0 G (upd H0 l' (.lst (sV (xs.take 2)))) := (Step.refl s0.gh).loc hl' (s0.gh.free hl')
    have hl9 : upd H0 l' (.lst (sV (xs.take 2))) l' = some (.lst (sV (xs.take 2))) := upd_same
    generalize upd H0 l' (.lst (sV (xs.take 2))) = H9 at *
    refine ⟨l', rfl, ⟨_, SqL.of hl9⟩, fun D hD => ?_⟩
    have gD := s9.gh.free hD
    have hD0 := s9.free hD
    refine lc_list (K := K) (a := l') (xs := sV (xs.take 2)) (fun i H' => Step none G H0 G H' ∧ Same H9 H' ∧ H' D = some (.lst ((depI st ((xs.take 2).take i)).map V.int))) ⟨s9.loc hD0 gD, Same.new (Same.refl H9) hD, upd_same⟩ ?_ ?_ ?_
    · rintro i H' _ ⟨s', k', _⟩
      exact SqL.of (k' _ _ hl9)
    · rintro i y H' hx ⟨s', k', hL⟩
      obtain ⟨c', mk, rfl, hi⟩ := sV_at' hx
      have hc' := hp c' (List.mem_of_mem_take (List.mem_of_getElem? mk))
      have q22 : (xs.take 2).length ≤ 2 := by rw [List.length_take]; omega
      refine ⟨rfl, ?_⟩
      unfold tYes
      refine iteT ?_
      refine ⟨_, rfl, d, rfl, .inl ⟨_, .inl (s'.gh _ _ g4)⟩, _, rfl, _, .inl ⟨dV ld, Sum.inr (S c'), .inl (s'.gh _ _ g4), rfl, rfl⟩, _, hL, by rw [List.length_map, List.length_map, List.length_take]; omega, s'.loc hD0 gD, Same.off k' hD, ?_⟩
      rw [upd_same, valV_lk, lp.dp c' hc'.1 hc'.2, ← in_take (f := fun x => ((dep st x : Nat) : Int)) mk]
    rintro H1 ⟨s1, k1, hD1⟩
    have hx2 : (sV (xs.take 2)).length = (xs.take 2).length := sV_len _
    have l2 : 1 ≤ (xs.take 2).length := by rw [List.length_take]; omega
    rw [hx2, List.take_length] at hD1
    refine ⟨D, _, rfl, SqL.of hD1, by rw [List.length_map]; omega, fun mi hm1 hm2 => ?_⟩
    obtain ⟨mn, rfl, mx⟩ := mx_of hm1 hm2
    refine ⟨_, _, rfl, rfl, ?_⟩
    refine ⟨_, rfl, _, _, rfl, rfl, _, rfl, ?_⟩
    refine ite2 (fun _ => q1 _ (s0.trans s1)) (fun h4 => ?_)
    have m2 : mn ≤ 2 := by
      refine Nat.le_of_not_lt fun y => h4 (decide_eq_true ?_)
      show (3 : Int) < 1 + (mn : Int)
      omega
    clear h4
    obtain ⟨_, _, _, _, x5, x6⟩ := xN_ne k14
    refine ⟨_, rfl, _, rfl, ?_, _, _, rfl, rfl, ?_, _, _, rfl, rfl, ?_, ?_⟩
    · show (Int.natAbs (k : Int)).log2 < 1920
      rw [Int.natAbs_natCast]
      exact Nat.lt_of_le_of_lt (Nat.log2_le_self k) (by omega)
    · show ("x" : Str).length + (Str.ofString (toString (k : Int))).length ≤ sizeLine
      have : ("x" : Str).length = 1 := by decide +kernel
      have x6 : (Str.ofString (toString (k : Int))).length ≤ 100 := x6
      omega
    · show (("x" : Str) ++ Str.ofString (toString (k : Int))).length + ("_" : Str).length ≤ sizeLine
      have : ("_" : Str).length = 1 := by decide +kernel
      have x5 : (("x" : Str) ++ Str.ofString (toString (k : Int))).length ≤ 100 := x5
      omega
    have ex : ("x" : Str) ++ Str.ofString (toString (k : Int)) ++ ("_" : Str) = S (xN k) := (xN_S k).symm
    have ei : (1 : Int) + (mn : Int) = ((1 + mn : Nat) : Int) := by omega
    dsimp only
    rw [ex, ei]
    intro Pd hPd
    have nin := gd.new k14
    have gP := s1.gh.free hPd
    have hP0 := s1.free hPd
    refine ⟨_, rfl, _, rfl, upd_same, [(Sum.inr (S (xN k)), .int ((1 + mn : Nat) : Int))], rfl, by show 1 ≤ 15; decide, ?_⟩
    rw [upd_upd]
    show tSeq _ _ _ _ (upd H1 Pd (.dK (dV [(xN k, 1 + mn)])))
    have s2 := s1.loc (o := .dK (dV [(xN k, 1 + mn)])) hP0 gP
    have hP2 : upd H1 Pd (.dK (dV [(xN k, 1 + mn)])) Pd = some (.dK (dV [(xN k, 1 + mn)])) := upd_same
    generalize upd H1 Pd (.dK (dV [(xN k, 1 + mn)])) = H2 at *
    have hd2 := s2.gh _ _ (s2.gg _ _ g4)
    have nPd : Pd ≠ d := fun z => by rw [z, s1.gg _ _ g4] at gP; cases gP
    refine ⟨_, rfl, .inr (.inr (.inl ⟨rfl, .inl ⟨_, hP2⟩⟩)), _, rfl, Pd, d, _, _, rfl, rfl, hP2, hd2, nPd, ?_, ?_⟩
    · have := lp.ln
      rw [dV_len, dV_len]
      show 1 + _ ≤ _
      omega
    rw [merge_new ld (xN k) (1 + mn) lp.nd (lp.new k14)]
    have s3 := s2.loc (o := .dK (dV ((xN k, 1 + mn) :: ld))) hP0 gP
    have hP3 : upd H2 Pd (.dK (dV ((xN k, 1 + mn) :: ld))) Pd = some (.dK (dV ((xN k, 1 + mn) :: ld))) := upd_same
    generalize upd H2 Pd (.dK (dV ((xN k, 1 + mn) :: ld))) = H3 at *
    have s4 := s3.freeze (q := Pd) hP0 hP3 gP
    have gP4 : upd G Pd (.dK (dV ((xN k, 1 + mn) :: ld))) Pd = some (.dK (dV ((xN k, 1 + mn) :: ld))) := upd_same
    generalize upd G Pd (.dK (dV ((xN k, 1 + mn) :: ld))) = G4 at *
    refine ⟨_, rfl, _, rfl, _, rfl, G4, x, l, xN k, st, ins, xs, rfl, xN_nm k14, nin, s4.gh, g5.same s4.gg, gd.ok, s4.all _ _ hl0, hp, l1, l4, fun y hy => Nat.le_trans (mx.2 y hy) m2, fun mn' mx' G5 H5 x1 s5 at1 _ => ?_⟩
    obtain rfl : mn' = mn := mx'.uniq mx
    have s45 := s4.trans s5
    have gc5 := s45.gg _ _ g2
    refine ⟨_, rfl, _, rfl, _, rfl, by show 1 ≤ sizeLine; decide, fun b1 hb1 => ?_⟩
    have s6 := s45.loc (o := .lst [.str (S (xN k))]) (s45.free hb1) (s45.gh.free hb1)
    have hb6 : upd H5 b1 (.lst [.str (S (xN k))]) b1 = some (.lst (sV [xN k])) := upd_same
    generalize upd H5 b1 (.lst [.str (S (xN k))]) = H6 at *
    have hlk := gd.lk
    refine ⟨c, b1, sV st.cs, sV [xN k], rfl, rfl, s6.gh _ _ gc5, hb6, by rw [sV_len, sV_len]; show _ + 1 ≤ _; omega, fun e he => ?_⟩
    rw [sV_app]
    have s7 := s6.new_ (o := .lst (sV (st.cs ++ [xN k]))) he
    have ge7 : upd G5 e (.lst (sV (st.cs ++ [xN k]))) e = some (.lst (sV (st.cs ++ [xN k]))) := upd_same
    have gg7 : Same G5 (upd G5 e (.lst (sV (st.cs ++ [xN k])))) := Same.new (Same.refl G5) (s6.gh.free he)
    generalize upd G5 e (.lst (sV (st.cs ++ [xN k]))) = G7 at *
    generalize upd H6 e (.lst (sV (st.cs ++ [xN k]))) = H7 at *
    refine ⟨_, rfl, _, rfl, _, rfl, by show 6 ≤ sizeLine; decide, fun t ht => ?_⟩
    exact q2 _ _ t ((s0.trans s7).new_ ht) (mkOne (st1 := cpSt st (xN k) mn') s7.gh ge7 (s7.gg _ _ g3) (gg7 _ _ (s5.gg _ _ gP4)) (at1.same gg7) (ho.b.same s7.gg) ⟨gd.ok, gd.sk⟩ (gd.comp k14 m2) (lp.comp gd k14) ht)
  · refine ⟨_, rfl, rfl, _, rfl, strIf kCompute_ (fun z => absurd z (by decide)) (fun _ => ?_)⟩
    refine ⟨_, rfl, rfl, _, rfl, strIf kEqual_ (fun _ => ?_) (fun z => absurd rfl z)⟩
    obtain ⟨dx, fs, h1, hno⟩ := g5.obj
    refine ⟨_, rfl, l, _, rfl, .inl (SqL.of hl0), _, _, rfl, rfl, _, rfl, ?_⟩
    refine ite2 (fun _ => q1 _ s0) (fun hz => ?_)
    have l2 : 2 ≤ xs.length := by
      refine Nat.le_of_not_lt fun hy => hz (decide_eq_true ?_)
      omega
    clear hz
    obtain ⟨y, z, r, rfl⟩ : ∃ y z r, xs = y :: z :: r := match xs, l2 with | y :: z :: r, _ => ⟨y, z, r, rfl⟩
    have nyz : y ≠ z := fun e => (List.nodup_cons.mp nd).1 (e ▸ List.mem_cons_self)
    have pyz : Pl st [y, z] := fun u hu => hp u (by
      rcases List.mem_cons.mp hu with e | e
      · exact e ▸ List.mem_cons_self
      · exact List.mem_cons_of_mem _ (List.mem_singleton.mp e ▸ List.mem_cons_self))
    exact ⟨_, rfl, x, dx, fs, rfl, s0.gh _ _ h1, hno _ (by decide +kernel), _, rfl, l, _, 0, _, rfl, rfl, SqL.of hl0, atI_nat (j := 0) rfl, _, rfl, l, _, 1, _, rfl, rfl, SqL.of hl0, atI_nat (j := 1) rfl, G, x, y, z, st, ins, rfl, nyz, s0.gh, g5, okd, pyz, fun G1 H1 x1 s1 at1 _ => ⟨_, rfl, _, rfl, _, rfl, _, rfl, _, rfl, by show 6 ≤ sizeLine; decide, fun t ht => q2 _ _ _ (fin _ G1 H1 x1 t s1 at1 ht (by decide +kernel)).2 (fin _ G1 H1 x1 t s1 at1 ht (by decide +kernel)).1⟩⟩
  · refine ⟨_, rfl, rfl, _, rfl, strIf kCompute_ (fun z => absurd z (by decide)) (fun _ => ?_)⟩
    refine ⟨_, rfl, rfl, _, rfl, strIf kEqual_ (fun z => absurd z (by decide)) (fun _ => ?_)⟩
    refine ⟨_, rfl, rfl, _, rfl, strIf kWhere_ (fun z => absurd z (by decide)) (fun _ => ?_)⟩
    refine ⟨_, rfl, rfl, _, rfl, strIf kSort_ (fun _ => ?_) (fun z => absurd rfl z)⟩
    exact ⟨_, rfl, _, rfl, G, x, l, st, ins, xs, rfl, s0.gh, g5, okd, hl0, hp, nd, l1, l4, fun G1 H1 x1 s1 at1 _ => ⟨_, rfl, _, rfl, _, rfl, _, rfl, _, rfl, by show 6 ≤ sizeLine; decide, fun t ht => q2 _ _ _ (fin _ G1 H1 x1 t s1 at1 ht (by decide +kernel)).2 (fin _ G1 H1 x1 t s1 at1 ht (by decide +kernel)).1⟩⟩
  · refine ⟨_, rfl, rfl, _, rfl, strIf kCompute_ (fun z => absurd z (by decide)) (fun _ => ?_)⟩
    refine ⟨_, rfl, rfl, _, rfl, strIf kEqual_ (fun z => absurd z (by decide)) (fun _ => ?_)⟩
    refine ⟨_, rfl, rfl, _, rfl, strIf kWhere_ (fun z => absurd z (by decide)) (fun _ => ?_)⟩
    refine ⟨_, rfl, rfl, _, rfl, strIf kSort_ (fun z => absurd z (by decide)) (fun _ => ?_)⟩
    refine ⟨_, rfl, rfl, _, rfl, strIf kMerge_ (fun _ => ?_) (fun z => absurd rfl z)⟩
    exact ⟨_, rfl, _, rfl, G, x, l, st, ins, xs, rfl, s0.gh, g5, okd, hl0, hp, nd, l1, l4, fun G1 H1 x1 s1 at1 _ => ⟨_, rfl, _, rfl, _, rfl, _, rfl, _, rfl, by show 6 ≤ sizeLine; decide, fun t ht => q2 _ _ _ (fin _ G1 H1 x1 t s1 at1 ht (by decide +kernel)).2 (fin _ G1 H1 x1 t s1 at1 ht (by decide +kernel)).1⟩⟩
  · refine ⟨_, rfl, rfl, _, rfl, strIf kCompute_ (fun z => absurd z (by decide)) (fun _ => ?_)⟩
    refine ⟨_, rfl, rfl, _, rfl, strIf kEqual_ (fun z => absurd z (by decide)) (fun _ => ?_)⟩
    refine ⟨_, rfl, rfl, _, rfl, strIf kWhere_ (fun z => absurd z (by decide)) (fun _ => ?_)⟩
    refine ⟨_, rfl, rfl, _, rfl, strIf kSort_ (fun z => absurd z (by decide)) (fun _ => ?_)⟩
    refine ⟨_, rfl, rfl, _, rfl, strIf kMerge_ (fun z => absurd z (by decide)) (fun _ => ?_)⟩
    refine ⟨_, rfl, _, rfl, _, rfl, _, rfl, l, _, rfl, SqL.of hl0, fun l' hl' => ?_⟩
    have et : cutV (sV xs) none (some 3) = sV (xs.take 3) := cut_take xs 3
    rw [et]
    have s9 : Step none G H0 G (upd H0 l' (.lst (sV (xs.take 3)))) := (Step.refl s0.gh).loc hl' (s0.gh.free hl')
    refine ⟨G, x, l', kOwn, st, ins, xs.take 3, rfl, .inl rfl, s9.gh, g5, okd, upd_same, fun z hz => hp z (List.mem_of_mem_take hz), nd.sublist (List.take_sublist _ _), by rw [List.length_take]; omega, by rw [List.length_take]; omega, fun G1 H1 x1 s1' at1 _ => ?_⟩
    have s1 := s9.trans s1'
    exact ⟨_, rfl, _, rfl, _, rfl, _, rfl, _, rfl, by show 6 ≤ sizeLine; decide, fun t ht => q2 _ _ _ (fin _ G1 H1 x1 t s1 at1 ht (by decide +kernel)).2 (fin _ G1 H1 x1 t s1 at1 ht (by decide +kernel)).1⟩
  · refine ⟨_, rfl, rfl, _, rfl, strIf kCompute_ (fun z => absurd z (by decide)) (fun _ => ?_)⟩
    refine ⟨_, rfl, rfl, _, rfl, strIf kEqual_ (fun z => absurd z (by decide)) (fun _ => ?_)⟩
    refine ⟨_, rfl, rfl, _, rfl, strIf kWhere_ (fun z => absurd z (by decide)) (fun _ => ?_)⟩
    refine ⟨_, rfl, rfl, _, rfl, strIf kSort_ (fun z => absurd z (by decide)) (fun _ => ?_)⟩
    refine ⟨_, rfl, rfl, _, rfl, strIf kMerge_ (fun z => absurd z (by decide)) (fun _ => ?_)⟩
    refine ⟨_, rfl, _, rfl, _, rfl, _, rfl, l, _, rfl, SqL.of hl0, fun l' hl' => ?_⟩
    have et : cutV (sV xs) none (some 3) = sV (xs.take 3) := cut_take xs 3
    rw [et]
    have s9 : Step none G H0 G (upd H0 l' (.lst (sV (xs.take 3)))) := (Step.refl s0.gh).loc hl' (s0.gh.free hl')
    refine ⟨G, x, l', kSplit, st, ins, xs.take 3, rfl, .inr rfl, s9.gh, g5, okd, upd_same, fun z hz => hp z (List.mem_of_mem_take hz), nd.sublist (List.take_sublist _ _), by rw [List.length_take]; omega, by rw [List.length_take]; omega, fun G1 H1 x1 s1' at1 _ => ?_⟩
    have s1 := s9.trans s1'
    exact ⟨_, rfl, _, rfl, _, rfl, _, rfl, _, rfl, by show 6 ≤ sizeLine; decide, fun t ht => q2 _ _ _ (fin _ G1 H1 x1 t s1 at1 ht (by decide +kernel)).2 (fin _ G1 H1 x1 t s1 at1 ht (by decide +kernel)).1⟩
end Pf
namespace Bs
open PySem PySem.Spec PyProof.Rows L2 SX
variable {P : Program} {w : World} {K : PySem.W.Frag} {mg : Str → Option Value} {base : Heap}
theorem nil_or {ys : List (List Nat)} {a : Nat} (h : ys ≠ []) (_ : True) : 1 ≤ ys.length + a := by
  cases ys with
  | nil => exact absurd rfl h
  | cons y r => rw [List.length_cons]; omega
structure Sel (st : Stp) (cs ms zs : List (List Nat)) : Prop where
  nd : cs.Nodup
  l1 : 1 ≤ cs.length
  l8 : cs.length ≤ 8
  col : ∀ c ∈ cs, c ∈ st.cs ∨ c = wN ∨ c = wS
  mc : ∀ c ∈ ms, c ∈ cs
  mn : ms.Nodup
  pl : ∀ c ∈ cs, c ∉ ms → c ∈ zs ∧ c ∈ st.cs ∧ c ∉ st.ms
  zn : zs.Nodup
  zc : ∀ c ∈ zs, c ∈ cs
  zl : zs.length ≤ 8
theorem dep_dsOf {st : Stp} {kd : List Nat} {cs ms zs : List (List Nat)} {c : List Nat} (h : c ∈ zs) : dep ⟨kd, cs, ms, dsOf st zs⟩ c = dep st c := by
  show ((dsOf st zs).lookup c).getD 0 = _
  rw [dsOf_lk h]
  rfl
theorem Good.sel {st : Stp} {k : Nat} {ld : List (List Nat × Nat)} {cs ms zs : List (List Nat)} (h : Good st k) (l : LDp st ld k) (kd : List Nat) (hk : PyData.strOk (S kd) = true) (s : Sel st cs ms zs) : Good ⟨kd, cs, ms, dsOf st zs⟩ (k + 1) ∧ LDp ⟨kd, cs, ms, dsOf st zs⟩ ld (k + 1) := by
  have h8 := s.l8
  have z8 := s.zl
  have lz : (dsOf st zs).length = zs.length := List.length_map _
  refine ⟨⟨⟨s.nd, by show cs.length ≤ 60; omega, s.mc, s.mn, fun c hc hm => ?_, by show ((dsOf st zs).map (·.1)).Nodup; rw [dsOf_keys]; exact s.zn, by show (dsOf st zs).length ≤ 60; omega, fun c hc => ?_, fun c hc => ?_⟩, s.l1, by show cs.length ≤ _; omega, by show (dsOf st zs).length ≤ _; omega, fun c hc => ?_, fun c hc hm => ?_, hk⟩, l.nd, by have := l.ln; omega, fun c hc => ?_, fun c hc hm => ?_⟩
  · obtain ⟨h1, h2, h3⟩ := s.pl c hc hm
    exact ⟨_, dsOf_lk h1, (h.ok.dep h2 h3).2⟩
  · rcases s.col c hc with e | e | e
    · exact h.ok.nc c e
    · rw [e]; exact wN_nm
    · rw [e]; exact wS_nm
  · have hc : c ∈ (dsOf st zs).map (·.1) := hc
    rw [dsOf_keys] at hc
    exact s.zc c hc
  · rcases s.col c hc with e | e | e
    · rcases h.col c e with e | e | e | ⟨j, hj, e⟩
      · exact .inl e
      · exact .inr (.inl e)
      · exact .inr (.inr (.inl e))
      · exact .inr (.inr (.inr ⟨j, by omega, e⟩))
    · exact .inr (.inl e)
    · exact .inr (.inr (.inl e))
  · obtain ⟨h1, h2, h3⟩ := s.pl c hc hm
    exact h.pl c h2 h3
  · obtain ⟨j, hj, e⟩ := l.ks c hc
    exact ⟨j, by omega, e⟩
  · obtain ⟨h1, h2, h3⟩ := s.pl c hc hm
    rw [dep_dsOf h1]
    exact l.dp c h2 h3
/-- the plain columns -/
abbrev plain (st : Stp) : List (List Nat) := st.cs.filter fun x => !decide (x ∈ st.ms)
theorem mem_plain {st : Stp} {c : List Nat} (h : c ∈ plain st) : c ∈ st.cs ∧ c ∉ st.ms := by
  obtain ⟨h1, h2⟩ := List.mem_filter.mp h
  refine ⟨h1, fun z => ?_⟩
  rw [decide_eq_true z] at h2
  cases h2
theorem way_names (col : List Nat) (way : Nat) : ((wayUs col way).map (·.1)).Nodup ∧ ((wayUs col way).map (·.1)).length ≤ 2 ∧ ∀ c ∈ (wayUs col way).map (·.1), c = wN ∨ c = wS := by
  match way with
  | 0 => exact ⟨List.nodup_nil, by show 0 ≤ 2; decide, fun c h => (by cases h)⟩
  | 1 => exact ⟨by show [wN].Nodup; decide, by show 1 ≤ 2; decide, fun c h => .inl (List.mem_singleton.mp h)⟩
  | 2 => exact ⟨by show [wS].Nodup; decide, by show 1 ≤ 2; decide, fun c h => .inr (List.mem_singleton.mp h)⟩
  | k + 3 => exact ⟨by show [wS, wN].Nodup; decide, by show 2 ≤ 2; decide, fun c h => by
      rcases List.mem_cons.mp (show c ∈ [wS, wN] from h) with e | e
      · exact .inr e
      · exact .inl (List.mem_singleton.mp e)⟩
theorem Good.group {st : Stp} {k : Nat} {ys : List (List Nat)} {col : List Nat} {way : Nat} (h : Good st k) (sub : Sub ys (plain st)) (l2 : ys.length ≤ 2) (hw : 1 ≤ ys.length + (wayUs col way).length) : Sel st (ys ++ (wayUs col way).map (·.1)) ((wayUs col way).map (·.1)) ys := by
  obtain ⟨n1, n2, n3⟩ := way_names col way
  have py : ∀ y ∈ ys, y ∈ st.cs ∧ y ∉ st.ms := fun y hy => mem_plain (sub.mem y hy)
  refine ⟨?_, ?_, ?_, fun c hc => ?_, fun c hc => List.mem_append_right _ hc, n1, fun c hc hm => ?_, sub.nd, fun c hc => List.mem_append_left _ hc, by omega⟩
  · rw [List.nodup_append]
    refine ⟨sub.nd, n1, fun a ha b hb e => ?_⟩
    obtain ⟨p1, p2⟩ := h.pl a (py a ha).1 (py a ha).2
    rcases n3 b hb with z | z
    · exact p1 (e.trans z)
    · exact p2 (e.trans z)
  · rw [List.length_append, List.length_map]; exact hw
  · rw [List.length_append]; omega
  · rcases List.mem_append.mp hc with hc | hc
    · exact .inl (py c hc).1
    · exact .inr (n3 c hc)
  · rcases List.mem_append.mp hc with hc | hc
    · exact ⟨hc, py c hc⟩
    · exact absurd hc hm
theorem Sel.keep {st : Stp} {ys : List (List Nat)} (sub : Sub ys st.cs) (l1 : 1 ≤ ys.length) (l4 : ys.length ≤ 4) : Sel st ys (ys.filter fun x => decide (x ∈ st.ms)) (ys.filter fun x => !decide (x ∈ st.ms)) := by
  have lf := List.length_filter_le (fun x => !decide (x ∈ st.ms)) ys
  refine ⟨sub.nd, l1, by omega, fun c hc => .inl (sub.mem c hc), fun c hc => (List.mem_filter.mp hc).1, sub.nd.sublist List.filter_sublist, fun c hc hm => ?_, sub.nd.sublist List.filter_sublist, fun c hc => (List.mem_filter.mp hc).1, by omega⟩
  have hn : c ∉ st.ms := fun z => hm (List.mem_filter.mpr ⟨hc, decide_eq_true z⟩)
  exact ⟨List.mem_filter.mpr ⟨hc, by rw [decide_eq_false hn]; rfl⟩, sub.mem c hc, hn⟩
abbrev KLs : List Str := ["where", "compute", "compute", "equal", "keep", "distinct", "group", "group", "sort", "own", "split", "broadcast", "gather", "merge"]
abbrev KL : List (List Nat) := [kWhere, kCompute, kCompute, kEqual, kKeep, kDistinct, kGroup, kGroup, kSort, kOwn, kSplit, kBroadcast, kGather, kMerge]
theorem KL_S : KL.map S = KLs := by decide +kernel
def spLAbove (K : PySem.W.Frag) (C : Addr) : Sp := fun vs H Q _ => ∃ (G : Hp) (p o x : Addr) (n k : Nat) (st : Stp) (ld : List (List Nat × Nat)), vs = [.ref p, .ref o, .int (k : Nat)] ∧ Pq G H p n ∧ n ≤ 800000 ∧ OneAt K C G o x st ld ∧ Good st k ∧ LDp st ld k ∧ k < 14 ∧
  (∀ G' H' : Hp, Step (some p) G H G' H' → Pq G' H' p (n + 40) → Q .non H') ∧ ∀ (G' H' : Hp) (o' : Addr), Step (some p) G H G' H' → Pq G' H' p (n + 40) → One K C G' (k + 1) o' → Q (.ref o') H'
theorem sl_nil (xs : List (List Nat)) : PyData.eqv (.list (strsD xs)) (.list []) = decide (xs = []) := by
  cases xs with
  | nil => simp [strsD, PyData.eqv, PyData.eqvAll]
  | cons x r => simp [strsD, PyData.eqv, PyData.eqvAll]
theorem strs_shaped {xs : List (List Nat)} (h : ∀ x ∈ xs, Nm x) : SeqAt.shaped (.list (strsD xs)) = true := by
  obtain ⟨z1, z2⟩ := lay_strs (xs := xs) h
  unfold SeqAt.shaped
  simp [PyData.canLay0, PyData.depth, z1, z2]
end Bs
namespace Pf
open PySem PySem.Spec PyProof.Rows L2 Bs SX
variable {P : Program} {w : World} {K : PySem.W.Frag} {mg : Str → Option Value} {base : Heap}
abbrev N_Labove : List Str := ["_law_pen_here", "_law_one", "_law_number", "_law_simple", "_law_kind", "_law_base", "_law_columns", "_law_measures", "_law_depths", "_law_keys", "_law_way", "_law_made", "_law_more", "_law_some_here", "_law_odd", "_law_name"]
theorem sc_Labove : FnScope N_Labove ["_law_pen_here", "_law_one", "_law_number"] (defScope s_Labove) := ⟨rfl, rfl, rfl, by decide +kernel, rfl, by decide +kernel, by decide +kernel⟩
theorem c_Labove (T : Tx K mg) : C8.Cal P w K mg base 8 "_law_above" (spLAbove K (CSt K)) [] := by
  obtain ⟨fd, F⟩ := f_Labove T
  have c_Lpick := c_Lpick (P := P) (w := w) (base := base) T
  have c_Lsome := c_Lsome (P := P) (w := w) (base := base) T
  have c_Ldraw := c_Ldraw (P := P) (w := w) (base := base) T
  have c_Lgroup := c_Lgroup (P := P) (w := w) (base := base) T
  have c_Lkeep := c_Lkeep (P := P) (w := w) (base := base) T
  have c_Lnamed := c_Lnamed (P := P) (w := w) (base := base) T
  have t_broadcast := t_broadcast (P := P) (w := w) (base := base) T
  have t_gather := t_gather (P := P) (w := w) (base := base) T
  have t_distinct := t_distinct (P := P) (w := w) (base := base) T
  refine mkCal F (g_law_above T) (F.bindsN fun _ _ _ _ _ _ us hl => match us, hl with | [_, _, _], _ => rfl) .nil sc_Labove (fun vs H Q E h => ?_) (fun cdv A outer s H vs Q E hr h => ?_)
  · obtain ⟨G, p, o, x, n, k, st, ld, rfl, _⟩ := h
    rfl
  obtain ⟨G, p, o, x, n, k, st, ld, rfl, hP, hn, ho, gd, lp, k14, q1, q2⟩ := h
  obtain ⟨c, m, d, b, ins, g1, g2, g3, g4, g5, g6⟩ := id ho.ex
  obtain ⟨dx, fs, h1, hno⟩ := g5.obj
  have sl : sizeLine = 16777216 := rfl
  have okd := gd.ok.dpo
  refine ⟨_, (pss_cons (ps_asg (pe_tup (pa_cons (pe_ix (ix_tupK (K := K) rfl) (pv 1) pe_int (fun _ _ => rfl)) (pa_cons (pe_ix (ix_tupK (K := K) rfl) (pv 1) pe_int (fun _ _ => rfl)) (pa_cons (pe_ix (ix_tupK (K := K) rfl) (pv 1) pe_int (fun _ _ => rfl)) (pa_cons (pe_ix (ix_tupK (K := K) rfl) (pv 1) pe_int (fun _ _ => rfl)) pa_nil))))) (pg_tup rfl (pgs_cons (pg_name (i := 5) sc_Labove.nd rfl (Or.inl rfl)) (pgs_cons (pg_name (i := 6) sc_Labove.nd rfl (Or.inl rfl)) (pgs_cons (pg_name (i := 7) sc_Labove.nd rfl (Or.inr rfl)) (pgs_cons (pg_name (i := 8) sc_Labove.nd rfl (Or.inl rfl)) pgs_nil))))))
    (pss_cons (ps_setLc (i := 3) (own := [("_law_name", 15)]) rfl sc_Labove.nd rfl rfl (sw_true rfl rfl rfl (by decide +kernel)) (pi_listK (K := K) rfl (pv 6)) (blkOk_by (N := N_Labove) (sc := defScope s_Labove) (by decide +kernel)) (fun _ _ _ _ _ => (pg_name (i := 15) sc_Labove.nd rfl (Or.inl rfl))) (fun _ _ _ _ _ => pts_one (pt_cmpR (op_notIn_seqK (K := K) rfl) (pv 15) (pv 7) (by rfl))) (fun _ _ _ _ _ => (pv 15)))
    (pss_cons (ps_set (i := 4) sc_Labove.nd rfl (Or.inl rfl) (C8.pe_c c_Lpick hr (by first | decide | omega) rfl (pa_cons (pv 0) (pa_cons (pe_lst (pa_cons pe_str (pa_cons pe_str (pa_cons pe_str (pa_cons pe_str (pa_cons pe_str (pa_cons pe_str (pa_cons pe_str (pa_cons pe_str (pa_cons pe_str (pa_cons pe_str (pa_cons pe_str (pa_cons pe_str (pa_cons pe_str (pa_cons pe_str pa_nil))))))))))))))) pa_nil))))
    (pss_cons (ps_if (pt_cmpR op_eq (pv 4) pe_str (nomark _)) (pss_cons (ps_set (i := 9) sc_Labove.nd rfl (Or.inl rfl) (pe_ifExp (PW.pt (pw_and (pt_cmpR (op_neD hr.units) (pv 3) (pe_lst pa_nil) (nomark _)) (pw_and1 (pt_cmpR op_gt (C8.pe_c c_Ldraw hr (by first | decide | omega) rfl (pa_cons (pv 0) (pa_cons pe_int pa_nil))) pe_int (nomark _))))) (C8.pe_c c_Lsome hr (by first | decide | omega) rfl (pa_cons (pv 0) (pa_cons (pv 3) (pa_cons pe_int pa_nil)))) (pe_lst pa_nil)))
    (pss_cons (ps_set (i := 10) sc_Labove.nd rfl (Or.inl rfl) (pe_ifExp (pt_cmpR (op_neD hr.units) (pv 9) (pe_lst pa_nil) (nomark _)) (C8.pe_c c_Ldraw hr (by first | decide | omega) rfl (pa_cons (pv 0) (pa_cons pe_int pa_nil))) (pe_op op_add pe_int (C8.pe_c c_Ldraw hr (by first | decide | omega) rfl (pa_cons (pv 0) (pa_cons pe_int pa_nil))))))
    (pss_cons (ps_set (i := 11) sc_Labove.nd rfl (Or.inl rfl) (C8.pe_c c_Lgroup hr (by first | decide | omega) rfl (pa_cons (pv 5) (pa_cons (pv 9) (pa_cons (pv 10) (pa_cons (C8.pe_c c_Lpick hr (by first | decide | omega) rfl (pa_cons (pv 0) (pa_cons (pv 6) pa_nil))) pa_nil))))))
    (pss_cons (ps_set (i := 12) sc_Labove.nd rfl (Or.inl rfl) (pe_ix (ix_listK (K := K) rfl) (pe_lst (pa_cons (pe_lst pa_nil) (pa_cons (pe_lst (pa_cons pe_str pa_nil)) (pa_cons (pe_lst (pa_cons pe_str pa_nil)) (pa_cons (pe_lst (pa_cons pe_str (pa_cons pe_str pa_nil))) pa_nil))))) (pv 10) (fun _ _ => rfl)))
    (pss_one (ps_ret (pe_tup (pa_cons (pv 11) (pa_cons (pv 4) (pa_cons (pe_op op_cat (pv 9) (pv 12)) (pa_cons (pv 12) (pa_cons (pv 8) (pa_cons (pv 1) pa_nil))))))))))))) pss_nil)
    (pss_cons (ps_if (pt_cmpR (op_in_seqK (K := K) rfl) (pv 4) (pe_tup (pa_cons pe_str (pa_cons pe_str pa_nil))) (by rfl)) (pss_cons (ps_set (i := 11) sc_Labove.nd rfl (Or.inl rfl) (pe_ifExp (pt_cmpR op_eq (pv 4) pe_str (nomark _)) (C8.pe_mt0 t_broadcast hr (by first | decide | omega) (pv 5)) (C8.pe_mt0 t_gather hr (by first | decide | omega) (pv 5))))
    (pss_one (ps_ret (pe_tup (pa_cons (pv 11) (pa_cons (pv 4) (pa_cons (pv 6) (pa_cons (pv 7) (pa_cons (pv 8) (pa_cons (pv 1) pa_nil)))))))))) pss_nil)
    (pss_cons (ps_if (pt_cmpR op_eq (pv 4) pe_str (nomark _)) (pss_cons (ps_set (i := 13) sc_Labove.nd rfl (Or.inl rfl) (C8.pe_c c_Lsome hr (by first | decide | omega) rfl (pa_cons (pv 0) (pa_cons (pv 6) (pa_cons pe_int pa_nil)))))
    (pss_cons (ps_setLc (i := 14) (own := [("_law_name", 15)]) rfl sc_Labove.nd rfl rfl (sw_true rfl rfl rfl (by decide +kernel)) (pi_listK (K := K) rfl (pv 13)) (blkOk_by (N := N_Labove) (sc := defScope s_Labove) (by decide +kernel)) (fun _ _ _ _ _ => (pg_name (i := 15) sc_Labove.nd rfl (Or.inl rfl))) (fun _ _ _ _ _ => pts_one (pt_cmpR (op_in_seqK (K := K) rfl) (pv 15) (pv 7) (by rfl))) (fun _ _ _ _ _ => (pv 15)))
    (pss_one (ps_ret (pe_tup (pa_cons (C8.pe_c c_Lkeep hr (by first | decide | omega) rfl (pa_cons (pv 5) (pa_cons (pv 13) pa_nil))) (pa_cons (pv 4) (pa_cons (pv 13) (pa_cons (pv 14) (pa_cons (pv 8) (pa_cons (pv 1) pa_nil))))))))))) pss_nil)
    (pss_cons (ps_if (pt_cmpR op_eq (pv 4) pe_str (nomark _)) (pss_one (ps_ret (pe_ifExp (pt_cmpR (op_eqD hr.units) (pv 7) (pe_lst pa_nil) (nomark _)) (pe_tup (pa_cons (C8.pe_mt0 t_distinct hr (by first | decide | omega) (pv 5)) (pa_cons (pv 4) (pa_cons (pv 6) (pa_cons (pv 7) (pa_cons (pv 8) (pa_cons (pv 1) pa_nil))))))) pe_non))) pss_nil)
    (pss_cons (ps_if (pt_cmpR (op_eqD hr.units) (pv 3) (pe_lst pa_nil) (nomark _)) (pss_one (ps_ret pe_non)) pss_nil)
    (pss_one (ps_ret (C8.pe_c c_Lnamed hr (by first | decide | omega) rfl (pa_cons (pv 4) (pa_cons (pv 1) (pa_cons (C8.pe_c c_Lsome hr (by first | decide | omega) rfl (pa_cons (pv 0) (pa_cons (pv 3) (pa_cons pe_int pa_nil)))) (pa_cons (pv 2) pa_nil))))))))))))))), ?_⟩
  have e1 := SqT.of (K := K) (hP.gh _ _ g1)
  refine ⟨_, rfl, o, _, 0, _, rfl, rfl, e1, atI_nat (j := 0) rfl, _, rfl, o, _, 2, _, rfl, rfl, e1, atI_nat (j := 2) rfl, _, rfl, o, _, 3, _, rfl, rfl, e1, atI_nat (j := 3) rfl, _, rfl, o, _, 4, _, rfl, rfl, e1, atI_nat (j := 4) rfl, by show 4 ≤ sizeLine; decide, fun t0 ht0 => ?_⟩
  obtain ⟨s0, P0⟩ := hP.loc (o := .tup [.ref x, .ref c, .ref m, .ref d]) ht0
  refine ⟨t0, _, rfl, SqT.of upd_same, rfl, _, _, rfl, _, _, rfl, _, _, rfl, _, _, rfl, rfl, ?_⟩
  generalize upd H t0 (.tup [.ref x, .ref c, .ref m, .ref d]) = H0 at *
  -- the plain columns
  refine ⟨_, rfl, c, rfl, ⟨_, SqL.of (P0.gh _ _ g2)⟩, fun D hD => ?_⟩
  have gD := P0.gh.free hD
  have hx := sV_len st.cs
  have hln := gd.ok.ln
  refine lc_list (K := K) (a := c) (xs := sV st.cs) (fun i H' => Step none G H0 G H' ∧ H' D = some (.lst (sV ((st.cs.take i).filter fun x => !decide (x ∈ st.ms))))) ⟨(Step.refl P0.gh).loc hD gD, upd_same⟩ ?_ ?_ ?_
  · rintro i H' _ ⟨s', _⟩
    exact SqL.of (s'.gh _ _ g2)
  · rintro i y H' hy ⟨s', hL⟩
    obtain ⟨c', mk, rfl, hi⟩ := sV_at' hy
    refine ⟨rfl, ?_⟩
    refine ⟨_, rfl, _, rfl, m, sV st.ms, rfl, .inl (SqL.of (s'.gh _ _ g3)), rfl, sV_flat _, _, rfl, ?_⟩
    have e1 : (!inV (.str (S c')) (sV st.ms)) = !decide (c' ∈ st.ms) := by rw [inV_sV]
    have e2 := filter_take (f := fun x => !decide (x ∈ st.ms)) mk
    refine ite2 (fun hb => ?_) (fun hb => ?_)
    · have hb : (!decide (c' ∈ st.ms)) = true := e1.symm.trans hb
      refine ⟨_, rfl, _, hL, by rw [sV_len]; have := List.length_filter_le (fun x => !decide (x ∈ st.ms)) (st.cs.take i); rw [List.length_take] at this; omega, s'.loc hD gD, ?_⟩
      rw [upd_same, e2, if_pos hb, ← sV_app]
      rfl
    · have hb : ¬ (!decide (c' ∈ st.ms)) = true := fun z => hb (e1.trans z)
      refine ⟨s', ?_⟩
      rw [e2, if_neg hb, List.append_nil]
      exact hL
  rintro H1 ⟨s1', hD1⟩
  rw [hx, List.take_length] at hD1
  have s1 := s0.trans s1'.some_
  have P1 := P0.step s1'
  have nDp : D ≠ p := fun z => P0.there (by rw [← z]; exact hD)
  -- the word
  refine ⟨_, rfl, by show 14 ≤ sizeLine; decide, fun L hL => ?_⟩
  have eK : [V.str "where", .str "compute", .str "compute", .str "equal", .str "keep", .str "distinct", .str "group", .str "group", .str "sort", .str "own", .str "split", .str "broadcast", .str "gather", .str "merge"] = sV KL := by
    show _ = (KL.map S).map V.str
    rw [KL_S]
    rfl
  rw [eK]
  have nLp : L ≠ p := fun z => P1.there (by rw [← z]; exact hL)
  obtain ⟨s2, P2⟩ := P1.loc (o := .lst (sV KL)) hL
  have hL2 : upd H1 L (.lst (sV KL)) L = some (.lst (sV KL)) := upd_same
  have hD2 : upd H1 L (.lst (sV KL)) D = some (.lst (sV (plain st))) := by rw [upd_ne (ne_of_none hD1 hL)]; exact hD1
  generalize upd H1 L (.lst (sV KL)) = H2 at *
  refine ⟨G, p, L, n, sV KL, rfl, P2, by omega, hL2, nLp, by show 0 < 14; decide, by show 14 ≤ 1000; decide, fun v G3 H3 hv s3' P3 => ?_⟩
  have s3 := (s1.trans s2).trans s3'
  have hD3 := s3'.kpc _ _ hD2 nDp
  obtain ⟨kd, hk, rfl⟩ : ∃ kd ∈ KL, v = .str (S kd) := by
    obtain ⟨z, hz, e⟩ := List.mem_map.mp hv
    obtain ⟨y, hy, e2⟩ := List.mem_map.mp hz
    exact ⟨y, hy, by rw [← e, ← e2]⟩
  have ho := ho.same s3.gg
  have g2 := s3.gg _ _ g2
  have g3 := s3.gg _ _ g3
  have g4 := s3.gg _ _ g4
  have g5 := g5.same s3.gg
  have h1 := s3.gg _ _ h1
  clear g1 g6 e1 s0 P0 s1' s1 P1 s2 P2 s3' hD hD1 hD2 hL hL2 hv
  have plnm : ∀ y ∈ plain st, Nm y := fun y hy => gd.ok.nc y (mem_plain hy).1
  have fin : ∀ (w : List Nat) (G4 H4 : Hp) (x1 t : Addr), Step none G3 H3 G4 H4 → StAt K (CSt K) G4 x1 { st with kd := w } [.ref x] → H4 t = none → PyData.strOk (S w) = true → One K (CSt K) (upd G4 t (.tup [.ref x1, .str (S w), .ref c, .ref m, .ref d, .ref o])) (k + 1) t ∧ Step (some p) G H (upd G4 t (.tup [.ref x1, .str (S w), .ref c, .ref m, .ref d, .ref o])) (upd H4 t (.tup [.ref x1, .str (S w), .ref c, .ref m, .ref d, .ref o])) ∧
      Pq (upd G4 t (.tup [.ref x1, .str (S w), .ref c, .ref m, .ref d, .ref o])) (upd H4 t (.tup [.ref x1, .str (S w), .ref c, .ref m, .ref d, .ref o])) p (n + 40) := fun w G4 H4 x1 t s4 at1 ht hw => by
    obtain ⟨s5, P5⟩ := (P3.step s4).new_ (o := .tup [.ref x1, .str (S w), .ref c, .ref m, .ref d, .ref o]) ht
    exact ⟨mkOne (st1 := { st with kd := w }) s4.gh (s4.gg _ _ g2) (s4.gg _ _ g3) (s4.gg _ _ g4) at1 (ho.b.same s4.gg) ⟨gd.ok, gd.sk⟩ ((gd.kd w hw).mono (by omega)) ((lp.kd w).mono (by omega)) ht, (s3.trans s4.some_).trans s5, P5.mono (by omega)⟩
  have ncp : c ≠ p := fun z => by have e := g2; rw [z, P3.out] at e; cases e
  have pnd : (plain st).Nodup := gd.ok.nd.sublist List.filter_sublist
  have pln : (plain st).length ≤ 60 := Nat.le_trans (List.length_filter_le _ _) hln
  refine ⟨_, rfl, rfl, _, rfl, strIf kGroup_ (fun hkd => ?_) (fun hkd => ?_)⟩
  · subst hkd
    refine ⟨_, rfl, by show 0 ≤ sizeLine; decide, fun e he => ?_⟩
    obtain ⟨s4, P4⟩ := P3.loc (o := .lst []) he
    have hD4 : upd H3 e (.lst []) D = some (.lst (sV (plain st))) := by rw [upd_ne (ne_of_none hD3 he)]; exact hD3
    have he4 : upd H3 e (.lst []) e = some (.lst []) := upd_same
    generalize upd H3 e (.lst []) = H4 at *
    refine ⟨_, _, .lst (SqL.of hD4) (dp_sV _), .lst (SqL.of he4) .nil, strs_shaped plnm, by decide, _, rfl, ?_⟩
    rw [sl_nil]
    refine ite2 (fun hne => ?_) (fun hne => iteF ?_)
    · have hne : plain st ≠ [] := fun z => by rw [decide_eq_true z] at hne; cases hne
      have pl1 : 1 ≤ (plain st).length := by
        cases e : plain st with
        | nil => exact absurd e hne
        | cons y r => simp
      refine ⟨_, rfl, G3, p, _, 5, rfl, P4, by omega, by decide, by decide, fun d5 G5 H5 s5 P5 a5 b5 => ?_⟩
      refine ⟨_, _, rfl, rfl, _, rfl, ?_⟩
      refine ite2 (fun _ => ?_) (fun _ => ?_)
      · refine ⟨_, rfl, _, rfl, G5, p, D, _, plain st, 2, rfl, P5, by omega, s5.kpc _ _ hD4 nDp, pnd, pl1, pln, by decide, by decide, fun l' ys G7 H7 s6 P7 gl sub lo hi => ?_⟩
        have s7 := (s4.trans s5).trans s6
        have nl : l' ≠ p := fun z => by have e := gl; rw [z, P7.out] at e; cases e
        have hl7 := P7.gh _ _ gl
        have l2 : ys.length ≤ 2 := by omega
        have ne : ys ≠ [] := fun z => by rw [z] at lo; exact absurd lo (by decide)
        refine ⟨_, rfl, by show 0 ≤ sizeLine; decide, fun e2 he2 => ?_⟩
        obtain ⟨s8, P8⟩ := P7.loc (o := .lst []) he2
        have hl8 : upd H7 e2 (.lst []) l' = some (.lst (sV ys)) := by rw [upd_ne (ne_of_none hl7 he2)]; exact hl7
        have he8 : upd H7 e2 (.lst []) e2 = some (.lst []) := upd_same
        generalize upd H7 e2 (.lst []) = H8 at *
        refine ⟨_, _, .lst (SqL.of hl8) (dp_sV _), .lst (SqL.of he8) .nil, strs_shaped (fun y hy => plnm y (sub.mem y hy)), by decide, _, rfl, ?_⟩
        rw [sl_nil]
        refine ite2 (fun _ => ?_) (fun hy => absurd (by rw [decide_eq_false ne]; rfl) hy)
        refine ⟨_, rfl, G7, p, _, 4, rfl, P8, by omega, by decide, by decide, fun dw G9 H9 s9 P9 a9 b9 => ?_⟩
        obtain ⟨wy, rfl⟩ := Int.eq_ofNat_of_zero_le a9
        have w3 : wy ≤ 3 := by omega
        have w0 : wy = 0 → ys ≠ [] := fun _ => ne
        obtain ⟨gg, hl9⟩ : Same G3 G9 ∧ H9 l' = some (.lst (sV ys)) := ⟨(s7.gg.trans s8.gg).trans s9.gg, s9.kpc _ _ hl8 nl⟩
        refine ⟨_, rfl, _, rfl, _, rfl, _, rfl, _, rfl, G9, p, c, _, sV st.cs, rfl, P9, by omega, P9.gh _ _ (gg _ _ g2), ncp, by rw [sV_len]; exact gd.l1, by rw [sV_len]; omega, fun v G10 H10 hv s10 P10 => ?_⟩
        obtain ⟨col, hcol, rfl⟩ : ∃ y ∈ st.cs, v = .str (S y) := by
          obtain ⟨z, hz, e⟩ := List.mem_map.mp hv
          obtain ⟨y, hy, e2⟩ := List.mem_map.mp hz
          exact ⟨y, hy, by rw [← e, ← e2]⟩
        have gg := gg.trans s10.gg
        have hl10 := s10.kpc _ _ hl9 nl
        have s310 := ((s7.trans s8).trans s9).trans s10
        have ko : KeyOk st ys col := ⟨fun y hy => mem_plain (sub.mem y hy), sub.nd, l2, hcol, gd.ok.nc _ hcol, fun z => (gd.pl _ (mem_plain (sub.mem _ z)).1 (mem_plain (sub.mem _ z)).2).1 rfl, fun z => (gd.pl _ (mem_plain (sub.mem _ z)).1 (mem_plain (sub.mem _ z)).2).2 rfl⟩
        have hw1 : 1 ≤ ys.length + (wayUs col wy).length := by
          by_cases e0 : wy = 0
          · have := w0 e0
            exact nil_or this True.intro
          · have : 1 ≤ (wayUs col wy).length := by
              match wy, e0 with
              | 1, _ => show 1 ≤ 1; decide
              | 2, _ => show 1 ≤ 1; decide
              | k + 3, _ => show 1 ≤ 2; decide
            omega
        refine ⟨G10, x, l', wy, col, st, ins, ys, rfl, P10.gh, g5.same gg, gd.ok, hl10, ko, w3, w0, fun G11 H11 x1 s11 at1 _ => ?_⟩
        have P11 := P10.step s11
        have hl11 := s11.all _ _ hl10
        have s311 := s310.trans s11.some_
        refine ⟨by show 0 ≤ sizeLine; decide, fun A0 hA0 => ?_⟩
        obtain ⟨sA, PA⟩ := P11.new_ (o := .lst []) hA0
        have gA0 : upd G11 A0 (.lst []) A0 = some (.lst (sV [])) := upd_same
        have hlA : upd H11 A0 (.lst []) l' = some (.lst (sV ys)) := by rw [upd_ne (ne_of_none hl11 hA0)]; exact hl11
        generalize upd G11 A0 (.lst []) = GA at *
        generalize upd H11 A0 (.lst []) = HA at *
        refine ⟨by show 1 ≤ sizeLine; decide, fun A1 hA1 => ?_⟩
        obtain ⟨sB, PB⟩ := PA.new_ (o := .lst [.str "n"]) hA1
        have gA1 : upd GA A1 (.lst [.str "n"]) A1 = some (.lst (sV [wN])) := upd_same.trans (by rw [wN_]; rfl)
        have hlB : upd HA A1 (.lst [.str "n"]) l' = some (.lst (sV ys)) := by rw [upd_ne (ne_of_none hlA hA1)]; exact hlA
        generalize upd GA A1 (.lst [.str "n"]) = GB at *
        generalize upd HA A1 (.lst [.str "n"]) = HB at *
        refine ⟨by show 1 ≤ sizeLine; decide, fun A2 hA2 => ?_⟩
        obtain ⟨sC, PC⟩ := PB.new_ (o := .lst [.str "s"]) hA2
        have gA2 : upd GB A2 (.lst [.str "s"]) A2 = some (.lst (sV [wS])) := upd_same.trans (by rw [wS_]; rfl)
        have hlC : upd HB A2 (.lst [.str "s"]) l' = some (.lst (sV ys)) := by rw [upd_ne (ne_of_none hlB hA2)]; exact hlB
        generalize upd GB A2 (.lst [.str "s"]) = GC at *
        generalize upd HB A2 (.lst [.str "s"]) = HC at *
        refine ⟨by show 2 ≤ sizeLine; decide, fun A3 hA3 => ?_⟩
        obtain ⟨sD, PD⟩ := PC.new_ (o := .lst [.str "s", .str "n"]) hA3
        have gA3 : upd GC A3 (.lst [.str "s", .str "n"]) A3 = some (.lst (sV [wS, wN])) := upd_same.trans (by rw [wS_, wN_]; rfl)
        have hlD : upd HC A3 (.lst [.str "s", .str "n"]) l' = some (.lst (sV ys)) := by rw [upd_ne (ne_of_none hlC hA3)]; exact hlC
        generalize upd GC A3 (.lst [.str "s", .str "n"]) = GD at *
        generalize upd HC A3 (.lst [.str "s", .str "n"]) = HD at *
        refine ⟨by show 4 ≤ sizeLine; decide, fun A4 hA4 => ?_⟩
        obtain ⟨sE, PE'⟩ := PD.loc (o := .lst [.ref A0, .ref A1, .ref A2, .ref A3]) hA4
        have hE : upd HD A4 (.lst [.ref A0, .ref A1, .ref A2, .ref A3]) A4 = some (.lst [.ref A0, .ref A1, .ref A2, .ref A3]) := upd_same
        have hlE : upd HD A4 (.lst [.ref A0, .ref A1, .ref A2, .ref A3]) l' = some (.lst (sV ys)) := by rw [upd_ne (ne_of_none hlD hA4)]; exact hlD
        generalize upd HD A4 (.lst [.ref A0, .ref A1, .ref A2, .ref A3]) = HE at *
        obtain ⟨Aj, aj, gj⟩ : ∃ Aj, atI [V.ref A0, .ref A1, .ref A2, .ref A3] (wy : Nat) = some (.ref Aj) ∧ GD Aj = some (.lst (sV ((wayUs col wy).map (·.1)))) := by
          match wy, w3 with
          | 0, _ => exact ⟨A0, atI_nat (j := 0) rfl, sD.gg _ _ (sC.gg _ _ (sB.gg _ _ gA0))⟩
          | 1, _ => exact ⟨A1, atI_nat (j := 1) rfl, sD.gg _ _ (sC.gg _ _ gA1)⟩
          | 2, _ => exact ⟨A2, atI_nat (j := 2) rfl, sD.gg _ _ gA2⟩
          | 3, _ => exact ⟨A3, atI_nat (j := 3) rfl, gA3⟩
        have sAD := ((sA.trans sB).trans sC).trans sD
        have at2 := at1.same sAD.gg
        have sF := (s3.trans s311).trans (sAD.trans sE)
        clear sA sB sC sD PA PB PC PD hlA hlB hlC hlD gA0 gA1 gA2 gA3 P10 P11 hl10 hl11
        refine ⟨_, rfl, A4, _, _, _, rfl, rfl, SqL.of hE, aj, ?_⟩
        obtain ⟨wn1, wn2, wn3⟩ := way_names col wy
        refine ⟨_, rfl, _, rfl, _, rfl, _, rfl, l', Aj, sV ys, sV ((wayUs col wy).map (·.1)), rfl, rfl, hlE, PE'.gh _ _ gj, by rw [sV_len, sV_len]; omega, fun e9 he9 => ?_⟩
        rw [sV_app]
        obtain ⟨sG, PG'⟩ := PE'.new_ (o := .lst (sV (ys ++ (wayUs col wy).map (·.1)))) he9
        have ge9 : upd GD e9 (.lst (sV (ys ++ (wayUs col wy).map (·.1)))) e9 = some (.lst (sV (ys ++ (wayUs col wy).map (·.1)))) := upd_same
        generalize upd GD e9 (.lst (sV (ys ++ (wayUs col wy).map (·.1)))) = GG at *
        generalize upd HE e9 (.lst (sV (ys ++ (wayUs col wy).map (·.1)))) = HG at *
        refine ⟨_, rfl, _, rfl, _, rfl, by show 6 ≤ sizeLine; decide, fun t ht => ?_⟩
        obtain ⟨sH, PH⟩ := PG'.new_ (o := .tup [.ref x1, .str (S kGroup), .ref e9, .ref Aj, .ref d, .ref o]) ht
        have gAll : Same G3 GG := ((s311.gg.trans sAD.gg).trans sG.gg)
        obtain ⟨gd1, lp1⟩ := gd.sel lp kGroup (by decide +kernel) (gd.group (col := col) (way := wy) sub l2 hw1)
        exact q2 _ _ t ((sF.trans sG).trans sH) (PH.mono (by omega)) (mkOne (st1 := grSt st ys (wayUs col wy)) PG'.gh ge9 (sG.gg _ _ gj) (gAll _ _ g4) (at2.same sG.gg) (ho.b.same gAll) ⟨gd.ok, gd.sk⟩ gd1 lp1 ht)
      · refine ⟨by show 0 ≤ sizeLine; decide, fun l' hl' => ?_⟩
        have nl : l' ≠ p := fun z => P5.there (by rw [← z]; exact hl')
        obtain ⟨s6, P7⟩ := P5.loc (o := .lst []) hl'
        have hl7 : upd H5 l' (.lst []) l' = some (.lst (sV [])) := upd_same
        have s7 := (s4.trans s5).trans s6
        generalize upd H5 l' (.lst []) = H7 at *
        have sub : Sub [] (plain st) := ⟨fun y hy => (by cases hy), List.nodup_nil⟩
        have l2 : ([] : List (List Nat)).length ≤ 2 := by decide
        refine ⟨_, rfl, by show 0 ≤ sizeLine; decide, fun e2 he2 => ?_⟩
        obtain ⟨s8, P8⟩ := P7.loc (o := .lst []) he2
        have hl8 : upd H7 e2 (.lst []) l' = some (.lst (sV [])) := by rw [upd_ne (ne_of_none hl7 he2)]; exact hl7
        have he8 : upd H7 e2 (.lst []) e2 = some (.lst []) := upd_same
        generalize upd H7 e2 (.lst []) = H8 at *
        refine ⟨_, _, .lst (SqL.of hl8) (dp_sV _), .lst (SqL.of he8) .nil, strs_shaped (fun y hy => plnm y (sub.mem y hy)), by decide, _, rfl, ?_⟩
        rw [sl_nil]
        refine ite2 (fun hy => absurd hy (by simp)) (fun _ => ?_)
        refine ⟨_, rfl, G5, p, _, 3, rfl, P8, by omega, by decide, by decide, fun dw G9 H9 s9 P9 a9 b9 => ?_⟩
        obtain ⟨wz, rfl⟩ := Int.eq_ofNat_of_zero_le a9
        obtain ⟨wy, ew⟩ : ∃ wy : Nat, wy = 1 + wz := ⟨_, rfl⟩
        have w3 : wy ≤ 3 := by omega
        have w0 : wy = 0 → ([] : List (List Nat)) ≠ [] := fun z => absurd z (by omega)
        refine ⟨_, _, rfl, rfl, ?_⟩
        dsimp only
        rw [show (1 : Int) + ((wz : Nat) : Int) = ((wy : Nat) : Int) by omega]
        obtain ⟨gg, hl9⟩ : Same G3 G9 ∧ H9 l' = some (.lst (sV [])) := ⟨(s7.gg.trans s8.gg).trans s9.gg, s9.kpc _ _ hl8 nl⟩
        refine ⟨_, rfl, _, rfl, _, rfl, _, rfl, _, rfl, G9, p, c, _, sV st.cs, rfl, P9, by omega, P9.gh _ _ (gg _ _ g2), ncp, by rw [sV_len]; exact gd.l1, by rw [sV_len]; omega, fun v G10 H10 hv s10 P10 => ?_⟩
        obtain ⟨col, hcol, rfl⟩ : ∃ y ∈ st.cs, v = .str (S y) := by
          obtain ⟨z, hz, e⟩ := List.mem_map.mp hv
          obtain ⟨y, hy, e2⟩ := List.mem_map.mp hz
          exact ⟨y, hy, by rw [← e, ← e2]⟩
        have gg := gg.trans s10.gg
        have hl10 := s10.kpc _ _ hl9 nl
        have s310 := ((s7.trans s8).trans s9).trans s10
        have ko : KeyOk st [] col := ⟨fun y hy => mem_plain (sub.mem y hy), sub.nd, l2, hcol, gd.ok.nc _ hcol, fun z => (gd.pl _ (mem_plain (sub.mem _ z)).1 (mem_plain (sub.mem _ z)).2).1 rfl, fun z => (gd.pl _ (mem_plain (sub.mem _ z)).1 (mem_plain (sub.mem _ z)).2).2 rfl⟩
        have hw1 : 1 ≤ ([] : List (List Nat)).length + (wayUs col wy).length := by
          by_cases e0 : wy = 0
          · have := w0 e0
            exact nil_or this True.intro
          · have : 1 ≤ (wayUs col wy).length := by
              match wy, e0 with
              | 1, _ => show 1 ≤ 1; decide
              | 2, _ => show 1 ≤ 1; decide
              | k + 3, _ => show 1 ≤ 2; decide
            omega
        refine ⟨G10, x, l', wy, col, st, ins, [], rfl, P10.gh, g5.same gg, gd.ok, hl10, ko, w3, w0, fun G11 H11 x1 s11 at1 _ => ?_⟩
        have P11 := P10.step s11
        have hl11 := s11.all _ _ hl10
        have s311 := s310.trans s11.some_
        refine ⟨by show 0 ≤ sizeLine; decide, fun A0 hA0 => ?_⟩
        obtain ⟨sA, PA⟩ := P11.new_ (o := .lst []) hA0
        have gA0 : upd G11 A0 (.lst []) A0 = some (.lst (sV [])) := upd_same
        have hlA : upd H11 A0 (.lst []) l' = some (.lst (sV [])) := by rw [upd_ne (ne_of_none hl11 hA0)]; exact hl11
        generalize upd G11 A0 (.lst []) = GA at *
        generalize upd H11 A0 (.lst []) = HA at *
        refine ⟨by show 1 ≤ sizeLine; decide, fun A1 hA1 => ?_⟩
        obtain ⟨sB, PB⟩ := PA.new_ (o := .lst [.str "n"]) hA1
        have gA1 : upd GA A1 (.lst [.str "n"]) A1 = some (.lst (sV [wN])) := upd_same.trans (by rw [wN_]; rfl)
        have hlB : upd HA A1 (.lst [.str "n"]) l' = some (.lst (sV [])) := by rw [upd_ne (ne_of_none hlA hA1)]; exact hlA
        generalize upd GA A1 (.lst [.str "n"]) = GB at *
        generalize upd HA A1 (.lst [.str "n"]) = HB at *
        refine ⟨by show 1 ≤ sizeLine; decide, fun A2 hA2 => ?_⟩
        obtain ⟨sC, PC⟩ := PB.new_ (o := .lst [.str "s"]) hA2
        have gA2 : upd GB A2 (.lst [.str "s"]) A2 = some (.lst (sV [wS])) := upd_same.trans (by rw [wS_]; rfl)
        have hlC : upd HB A2 (.lst [.str "s"]) l' = some (.lst (sV [])) := by rw [upd_ne (ne_of_none hlB hA2)]; exact hlB
        generalize upd GB A2 (.lst [.str "s"]) = GC at *
        generalize upd HB A2 (.lst [.str "s"]) = HC at *
        refine ⟨by show 2 ≤ sizeLine; decide, fun A3 hA3 => ?_⟩
        obtain ⟨sD, PD⟩ := PC.new_ (o := .lst [.str "s", .str "n"]) hA3
        have gA3 : upd GC A3 (.lst [.str "s", .str "n"]) A3 = some (.lst (sV [wS, wN])) := upd_same.trans (by rw [wS_, wN_]; rfl)
        have hlD : upd HC A3 (.lst [.str "s", .str "n"]) l' = some (.lst (sV [])) := by rw [upd_ne (ne_of_none hlC hA3)]; exact hlC
        generalize upd GC A3 (.lst [.str "s", .str "n"]) = GD at *
        generalize upd HC A3 (.lst [.str "s", .str "n"]) = HD at *
        refine ⟨by show 4 ≤ sizeLine; decide, fun A4 hA4 => ?_⟩
        obtain ⟨sE, PE'⟩ := PD.loc (o := .lst [.ref A0, .ref A1, .ref A2, .ref A3]) hA4
        have hE : upd HD A4 (.lst [.ref A0, .ref A1, .ref A2, .ref A3]) A4 = some (.lst [.ref A0, .ref A1, .ref A2, .ref A3]) := upd_same
        have hlE : upd HD A4 (.lst [.ref A0, .ref A1, .ref A2, .ref A3]) l' = some (.lst (sV [])) := by rw [upd_ne (ne_of_none hlD hA4)]; exact hlD
        generalize upd HD A4 (.lst [.ref A0, .ref A1, .ref A2, .ref A3]) = HE at *
        obtain ⟨Aj, aj, gj⟩ : ∃ Aj, atI [V.ref A0, .ref A1, .ref A2, .ref A3] (wy : Nat) = some (.ref Aj) ∧ GD Aj = some (.lst (sV ((wayUs col wy).map (·.1)))) := by
          match wy, w3 with
          | 0, _ => exact ⟨A0, atI_nat (j := 0) rfl, sD.gg _ _ (sC.gg _ _ (sB.gg _ _ gA0))⟩
          | 1, _ => exact ⟨A1, atI_nat (j := 1) rfl, sD.gg _ _ (sC.gg _ _ gA1)⟩
          | 2, _ => exact ⟨A2, atI_nat (j := 2) rfl, sD.gg _ _ gA2⟩
          | 3, _ => exact ⟨A3, atI_nat (j := 3) rfl, gA3⟩
        have sAD := ((sA.trans sB).trans sC).trans sD
        have at2 := at1.same sAD.gg
        have sF := (s3.trans s311).trans (sAD.trans sE)
        clear sA sB sC sD PA PB PC PD hlA hlB hlC hlD gA0 gA1 gA2 gA3 P10 P11 hl10 hl11
        refine ⟨_, rfl, A4, _, _, _, rfl, rfl, SqL.of hE, aj, ?_⟩
        obtain ⟨wn1, wn2, wn3⟩ := way_names col wy
        refine ⟨_, rfl, _, rfl, _, rfl, _, rfl, l', Aj, sV [], sV ((wayUs col wy).map (·.1)), rfl, rfl, hlE, PE'.gh _ _ gj, by rw [sV_len, sV_len]; omega, fun e9 he9 => ?_⟩
        rw [sV_app]
        obtain ⟨sG, PG'⟩ := PE'.new_ (o := .lst (sV ([] ++ (wayUs col wy).map (·.1)))) he9
        have ge9 : upd GD e9 (.lst (sV ([] ++ (wayUs col wy).map (·.1)))) e9 = some (.lst (sV ([] ++ (wayUs col wy).map (·.1)))) := upd_same
        generalize upd GD e9 (.lst (sV ([] ++ (wayUs col wy).map (·.1)))) = GG at *
        generalize upd HE e9 (.lst (sV ([] ++ (wayUs col wy).map (·.1)))) = HG at *
        refine ⟨_, rfl, _, rfl, _, rfl, by show 6 ≤ sizeLine; decide, fun t ht => ?_⟩
        obtain ⟨sH, PH⟩ := PG'.new_ (o := .tup [.ref x1, .str (S kGroup), .ref e9, .ref Aj, .ref d, .ref o]) ht
        have gAll : Same G3 GG := ((s311.gg.trans sAD.gg).trans sG.gg)
        obtain ⟨gd1, lp1⟩ := gd.sel lp kGroup (by decide +kernel) (gd.group (col := col) (way := wy) sub l2 hw1)
        exact q2 _ _ t ((sF.trans sG).trans sH) (PH.mono (by omega)) (mkOne (st1 := grSt st [] (wayUs col wy)) PG'.gh ge9 (sG.gg _ _ gj) (gAll _ _ g4) (at2.same sG.gg) (ho.b.same gAll) ⟨gd.ok, gd.sk⟩ gd1 lp1 ht)
    · refine ⟨by show 0 ≤ sizeLine; decide, fun l' hl' => ?_⟩
      have nl : l' ≠ p := fun z => P4.there (by rw [← z]; exact hl')
      obtain ⟨s6, P7⟩ := P4.loc (o := .lst []) hl'
      have hl7 : upd H4 l' (.lst []) l' = some (.lst (sV [])) := upd_same
      have s7 := s4.trans s6
      generalize upd H4 l' (.lst []) = H7 at *
      have sub : Sub [] (plain st) := ⟨fun y hy => (by cases hy), List.nodup_nil⟩
      have l2 : ([] : List (List Nat)).length ≤ 2 := by decide
      refine ⟨_, rfl, by show 0 ≤ sizeLine; decide, fun e2 he2 => ?_⟩
      obtain ⟨s8, P8⟩ := P7.loc (o := .lst []) he2
      have hl8 : upd H7 e2 (.lst []) l' = some (.lst (sV [])) := by rw [upd_ne (ne_of_none hl7 he2)]; exact hl7
      have he8 : upd H7 e2 (.lst []) e2 = some (.lst []) := upd_same
      generalize upd H7 e2 (.lst []) = H8 at *
      refine ⟨_, _, .lst (SqL.of hl8) (dp_sV _), .lst (SqL.of he8) .nil, strs_shaped (fun y hy => plnm y (sub.mem y hy)), by decide, _, rfl, ?_⟩
      rw [sl_nil]
      refine ite2 (fun hy => absurd hy (by simp)) (fun _ => ?_)
      refine ⟨_, rfl, G3, p, _, 3, rfl, P8, by omega, by decide, by decide, fun dw G9 H9 s9 P9 a9 b9 => ?_⟩
      obtain ⟨wz, rfl⟩ := Int.eq_ofNat_of_zero_le a9
      obtain ⟨wy, ew⟩ : ∃ wy : Nat, wy = 1 + wz := ⟨_, rfl⟩
      have w3 : wy ≤ 3 := by omega
      have w0 : wy = 0 → ([] : List (List Nat)) ≠ [] := fun z => absurd z (by omega)
      refine ⟨_, _, rfl, rfl, ?_⟩
      dsimp only
      rw [show (1 : Int) + ((wz : Nat) : Int) = ((wy : Nat) : Int) by omega]
      obtain ⟨gg, hl9⟩ : Same G3 G9 ∧ H9 l' = some (.lst (sV [])) := ⟨(s7.gg.trans s8.gg).trans s9.gg, s9.kpc _ _ hl8 nl⟩
      refine ⟨_, rfl, _, rfl, _, rfl, _, rfl, _, rfl, G9, p, c, _, sV st.cs, rfl, P9, by omega, P9.gh _ _ (gg _ _ g2), ncp, by rw [sV_len]; exact gd.l1, by rw [sV_len]; omega, fun v G10 H10 hv s10 P10 => ?_⟩
      obtain ⟨col, hcol, rfl⟩ : ∃ y ∈ st.cs, v = .str (S y) := by
        obtain ⟨z, hz, e⟩ := List.mem_map.mp hv
        obtain ⟨y, hy, e2⟩ := List.mem_map.mp hz
        exact ⟨y, hy, by rw [← e, ← e2]⟩
      have gg := gg.trans s10.gg
      have hl10 := s10.kpc _ _ hl9 nl
      have s310 := ((s7.trans s8).trans s9).trans s10
      have ko : KeyOk st [] col := ⟨fun y hy => mem_plain (sub.mem y hy), sub.nd, l2, hcol, gd.ok.nc _ hcol, fun z => (gd.pl _ (mem_plain (sub.mem _ z)).1 (mem_plain (sub.mem _ z)).2).1 rfl, fun z => (gd.pl _ (mem_plain (sub.mem _ z)).1 (mem_plain (sub.mem _ z)).2).2 rfl⟩
      have hw1 : 1 ≤ ([] : List (List Nat)).length + (wayUs col wy).length := by
        by_cases e0 : wy = 0
        · have := w0 e0
          exact nil_or this True.intro
        · have : 1 ≤ (wayUs col wy).length := by
            match wy, e0 with
            | 1, _ => show 1 ≤ 1; decide
            | 2, _ => show 1 ≤ 1; decide
            | k + 3, _ => show 1 ≤ 2; decide
          omega
      refine ⟨G10, x, l', wy, col, st, ins, [], rfl, P10.gh, g5.same gg, gd.ok, hl10, ko, w3, w0, fun G11 H11 x1 s11 at1 _ => ?_⟩
      have P11 := P10.step s11
      have hl11 := s11.all _ _ hl10
      have s311 := s310.trans s11.some_
      refine ⟨by show 0 ≤ sizeLine; decide, fun A0 hA0 => ?_⟩
      obtain ⟨sA, PA⟩ := P11.new_ (o := .lst []) hA0
      have gA0 : upd G11 A0 (.lst []) A0 = some (.lst (sV [])) := upd_same
      have hlA : upd H11 A0 (.lst []) l' = some (.lst (sV [])) := by rw [upd_ne (ne_of_none hl11 hA0)]; exact hl11
      generalize upd G11 A0 (.lst []) = GA at *
      generalize upd H11 A0 (.lst []) = HA at *
      refine ⟨by show 1 ≤ sizeLine; decide, fun A1 hA1 => ?_⟩
      obtain ⟨sB, PB⟩ := PA.new_ (o := .lst [.str "n"]) hA1
      have gA1 : upd GA A1 (.lst [.str "n"]) A1 = some (.lst (sV [wN])) := upd_same.trans (by rw [wN_]; rfl)
      have hlB : upd HA A1 (.lst [.str "n"]) l' = some (.lst (sV [])) := by rw [upd_ne (ne_of_none hlA hA1)]; exact hlA
      generalize upd GA A1 (.lst [.str "n"]) = GB at *
      generalize upd HA A1 (.lst [.str "n"]) = HB at *
      refine ⟨by show 1 ≤ sizeLine; decide, fun A2 hA2 => ?_⟩
      obtain ⟨sC, PC⟩ := PB.new_ (o := .lst [.str "s"]) hA2
      have gA2 : upd GB A2 (.lst [.str "s"]) A2 = some (.lst (sV [wS])) := upd_same.trans (by rw [wS_]; rfl)
      have hlC : upd HB A2 (.lst [.str "s"]) l' = some (.lst (sV [])) := by rw [upd_ne (ne_of_none hlB hA2)]; exact hlB
      generalize upd GB A2 (.lst [.str "s"]) = GC at *
      generalize upd HB A2 (.lst [.str "s"]) = HC at *
      refine ⟨by show 2 ≤ sizeLine; decide, fun A3 hA3 => ?_⟩
      obtain ⟨sD, PD⟩ := PC.new_ (o := .lst [.str "s", .str "n"]) hA3
      have gA3 : upd GC A3 (.lst [.str "s", .str "n"]) A3 = some (.lst (sV [wS, wN])) := upd_same.trans (by rw [wS_, wN_]; rfl)
      have hlD : upd HC A3 (.lst [.str "s", .str "n"]) l' = some (.lst (sV [])) := by rw [upd_ne (ne_of_none hlC hA3)]; exact hlC
      generalize upd GC A3 (.lst [.str "s", .str "n"]) = GD at *
      generalize upd HC A3 (.lst [.str "s", .str "n"]) = HD at *
      refine ⟨by show 4 ≤ sizeLine; decide, fun A4 hA4 => ?_⟩
      obtain ⟨sE, PE'⟩ := PD.loc (o := .lst [.ref A0, .ref A1, .ref A2, .ref A3]) hA4
      have hE : upd HD A4 (.lst [.ref A0, .ref A1, .ref A2, .ref A3]) A4 = some (.lst [.ref A0, .ref A1, .ref A2, .ref A3]) := upd_same
      have hlE : upd HD A4 (.lst [.ref A0, .ref A1, .ref A2, .ref A3]) l' = some (.lst (sV [])) := by rw [upd_ne (ne_of_none hlD hA4)]; exact hlD
      generalize upd HD A4 (.lst [.ref A0, .ref A1, .ref A2, .ref A3]) = HE at *
      obtain ⟨Aj, aj, gj⟩ : ∃ Aj, atI [V.ref A0, .ref A1, .ref A2, .ref A3] (wy : Nat) = some (.ref Aj) ∧ GD Aj = some (.lst (sV ((wayUs col wy).map (·.1)))) := by
        match wy, w3 with
        | 0, _ => exact ⟨A0, atI_nat (j := 0) rfl, sD.gg _ _ (sC.gg _ _ (sB.gg _ _ gA0))⟩
        | 1, _ => exact ⟨A1, atI_nat (j := 1) rfl, sD.gg _ _ (sC.gg _ _ gA1)⟩
        | 2, _ => exact ⟨A2, atI_nat (j := 2) rfl, sD.gg _ _ gA2⟩
        | 3, _ => exact ⟨A3, atI_nat (j := 3) rfl, gA3⟩
      have sAD := ((sA.trans sB).trans sC).trans sD
      have at2 := at1.same sAD.gg
      have sF := (s3.trans s311).trans (sAD.trans sE)
      clear sA sB sC sD PA PB PC PD hlA hlB hlC hlD gA0 gA1 gA2 gA3 P10 P11 hl10 hl11
      refine ⟨_, rfl, A4, _, _, _, rfl, rfl, SqL.of hE, aj, ?_⟩
      obtain ⟨wn1, wn2, wn3⟩ := way_names col wy
      refine ⟨_, rfl, _, rfl, _, rfl, _, rfl, l', Aj, sV [], sV ((wayUs col wy).map (·.1)), rfl, rfl, hlE, PE'.gh _ _ gj, by rw [sV_len, sV_len]; omega, fun e9 he9 => ?_⟩
      rw [sV_app]
      obtain ⟨sG, PG'⟩ := PE'.new_ (o := .lst (sV ([] ++ (wayUs col wy).map (·.1)))) he9
      have ge9 : upd GD e9 (.lst (sV ([] ++ (wayUs col wy).map (·.1)))) e9 = some (.lst (sV ([] ++ (wayUs col wy).map (·.1)))) := upd_same
      generalize upd GD e9 (.lst (sV ([] ++ (wayUs col wy).map (·.1)))) = GG at *
      generalize upd HE e9 (.lst (sV ([] ++ (wayUs col wy).map (·.1)))) = HG at *
      refine ⟨_, rfl, _, rfl, _, rfl, by show 6 ≤ sizeLine; decide, fun t ht => ?_⟩
      obtain ⟨sH, PH⟩ := PG'.new_ (o := .tup [.ref x1, .str (S kGroup), .ref e9, .ref Aj, .ref d, .ref o]) ht
      have gAll : Same G3 GG := ((s311.gg.trans sAD.gg).trans sG.gg)
      obtain ⟨gd1, lp1⟩ := gd.sel lp kGroup (by decide +kernel) (gd.group (col := col) (way := wy) sub l2 hw1)
      exact q2 _ _ t ((sF.trans sG).trans sH) (PH.mono (by omega)) (mkOne (st1 := grSt st [] (wayUs col wy)) PG'.gh ge9 (sG.gg _ _ gj) (gAll _ _ g4) (at2.same sG.gg) (ho.b.same gAll) ⟨gd.ok, gd.sk⟩ gd1 lp1 ht)
  -- broadcast, gather
  refine ⟨_, rfl, by show 2 ≤ sizeLine; decide, fun e he => ?_⟩
  obtain ⟨s4, P4⟩ := P3.loc (o := .tup [.str "broadcast", .str "gather"]) he
  have s4' : Step none G3 H3 G3 (upd H3 e (.tup [.str "broadcast", .str "gather"])) := (Step.refl P3.gh).loc he (P3.gh.free he)
  have hD4 : upd H3 e (.tup [.str "broadcast", .str "gather"]) D = some (.lst (sV (plain st))) := by rw [upd_ne (ne_of_none hD3 he)]; exact hD3
  have he4 : upd H3 e (.tup [.str "broadcast", .str "gather"]) e = some (.tup (sV [kBroadcast, kGather])) := upd_same.trans (by rw [kBroadcast_, kGather_]; rfl)
  generalize upd H3 e (.tup [.str "broadcast", .str "gather"]) = H4 at *
  refine ⟨e, _, rfl, .inr (SqT.of he4), rfl, sV_flat _, _, rfl, ?_⟩
  show if inV (.str (S kd)) (sV [kBroadcast, kGather]) = true then _ else _
  rw [inV_sV]
  refine ite2 (fun hb => ?_) (fun hb => ?_)
  · have hb : kd = kBroadcast ∨ kd = kGather := by
      have := of_decide_eq_true hb
      simpa using this
    have gh4 : Same G3 H4 := P4.gh
    rcases hb with rfl | rfl
    · refine ⟨_, rfl, rfl, _, rfl, strIf kBroadcast_ (fun _ => ?_) (fun z => absurd rfl z)⟩
      exact ⟨_, rfl, x, dx, fs, rfl, gh4 _ _ h1, hno _ (by decide +kernel), G3, x, st, ins, rfl, gh4, g5, okd, fun G1 H1 x1 s1 at1 _ => ⟨_, rfl, _, rfl, _, rfl, _, rfl, _, rfl, _, rfl, by show 6 ≤ sizeLine; decide, fun t ht => q2 _ _ t (fin _ G1 H1 x1 t (s4'.trans s1) at1 ht (by decide +kernel)).2.1 (fin _ G1 H1 x1 t (s4'.trans s1) at1 ht (by decide +kernel)).2.2 (fin _ G1 H1 x1 t (s4'.trans s1) at1 ht (by decide +kernel)).1⟩⟩
    · refine ⟨_, rfl, rfl, _, rfl, strIf kBroadcast_ (fun z => absurd z (by decide)) (fun _ => ?_)⟩
      exact ⟨_, rfl, x, dx, fs, rfl, gh4 _ _ h1, hno _ (by decide +kernel), G3, x, st, ins, rfl, gh4, g5, okd, fun G1 H1 x1 s1 at1 _ => ⟨_, rfl, _, rfl, _, rfl, _, rfl, _, rfl, _, rfl, by show 6 ≤ sizeLine; decide, fun t ht => q2 _ _ t (fin _ G1 H1 x1 t (s4'.trans s1) at1 ht (by decide +kernel)).2.1 (fin _ G1 H1 x1 t (s4'.trans s1) at1 ht (by decide +kernel)).2.2 (fin _ G1 H1 x1 t (s4'.trans s1) at1 ht (by decide +kernel)).1⟩⟩
  have hbg : kd ≠ kBroadcast ∧ kd ≠ kGather := ⟨fun z => hb (decide_eq_true (by rw [z]; simp)), fun z => hb (decide_eq_true (by rw [z]; simp))⟩
  clear hb
  -- keep
  refine ⟨_, rfl, rfl, _, rfl, strIf kKeep_ (fun hkk => ?_) (fun hkk => ?_)⟩
  · subst hkk
    refine ⟨_, rfl, _, rfl, G3, p, c, _, st.cs, 4, rfl, P4, by omega, P4.gh _ _ g2, gd.ok.nd, gd.l1, hln, by decide, by decide, fun l' ys G5 H5 s5 P5 gl sub lo hi => ?_⟩
    have hyl := sV_len ys
    have g3' := s5.gg _ _ g3
    refine ⟨_, rfl, l', rfl, ⟨_, SqL.of (P5.gh _ _ gl)⟩, fun E' hE => ?_⟩
    have gE := P5.gh.free hE
    refine lc_list (K := K) (a := l') (xs := sV ys) (fun i H' => Step none G5 H5 G5 H' ∧ H' E' = some (.lst (sV ((ys.take i).filter fun x => decide (x ∈ st.ms))))) ⟨(Step.refl P5.gh).loc hE gE, upd_same⟩ ?_ ?_ ?_
    · rintro i H' _ ⟨s', _⟩
      exact SqL.of (s'.gh _ _ gl)
    · rintro i y H' hy ⟨s', hL⟩
      obtain ⟨c', mk, rfl, hi'⟩ := sV_at' hy
      refine ⟨rfl, ?_⟩
      refine ⟨_, rfl, _, rfl, m, sV st.ms, rfl, .inl (SqL.of (s'.gh _ _ g3')), rfl, sV_flat _, _, rfl, ?_⟩
      have e1 : inV (.str (S c')) (sV st.ms) = decide (c' ∈ st.ms) := inV_sV _ _
      have e2 := filter_take (f := fun x => decide (x ∈ st.ms)) mk
      refine ite2 (fun hb => ?_) (fun hb => ?_)
      · have hb : decide (c' ∈ st.ms) = true := e1.symm.trans hb
        refine ⟨_, rfl, _, hL, by rw [sV_len]; have := List.length_filter_le (fun x => decide (x ∈ st.ms)) (ys.take i); rw [List.length_take] at this; omega, s'.loc hE gE, ?_⟩
        rw [upd_same, e2, if_pos hb, ← sV_app]
        rfl
      · have hb : ¬ decide (c' ∈ st.ms) = true := fun z => hb (e1.trans z)
        refine ⟨s', ?_⟩
        rw [e2, if_neg hb, List.append_nil]
        exact hL
    rintro H6 ⟨s6, hE6⟩
    rw [hyl, List.take_length] at hE6
    have sF := s6.freeze (q := E') hE hE6 gE
    have gE6 : upd G5 E' (.lst (sV (ys.filter fun x => decide (x ∈ st.ms)))) E' = some (.lst (sV (ys.filter fun x => decide (x ∈ st.ms)))) := upd_same
    generalize upd G5 E' (.lst (sV (ys.filter fun x => decide (x ∈ st.ms)))) = G6 at *
    have P6 := P5.step sF
    have g56 := s5.gg.trans sF.gg
    refine ⟨_, rfl, _, rfl, G6, x, l', st, ins, ys, rfl, P6.gh, g5.same g56, gd.ok, P6.gh _ _ (sF.gg _ _ gl), sub.mem, sub.nd, lo, by omega, fun G7 H7 x1 s7 at1 _ => ?_⟩
    have P7 := P6.step s7
    refine ⟨_, rfl, _, rfl, _, rfl, _, rfl, _, rfl, by show 6 ≤ sizeLine; decide, fun t ht => ?_⟩
    obtain ⟨s8, P8⟩ := P7.new_ (o := .tup [.ref x1, .str (S kKeep), .ref l', .ref E', .ref d, .ref o]) ht
    have g57 := g56.trans s7.gg
    obtain ⟨gd1, lp1⟩ := gd.sel lp kKeep (by decide +kernel) (Sel.keep sub lo (by omega))
    exact q2 _ _ t ((((s3.trans s4).trans s5).trans (sF.trans s7).some_).trans s8) (P8.mono (by omega)) (mkOne (st1 := ⟨kKeep, ys, ys.filter fun x => decide (x ∈ st.ms), dsOf st (ys.filter fun x => !decide (x ∈ st.ms))⟩) P7.gh (s7.gg _ _ (sF.gg _ _ gl)) (s7.gg _ _ gE6) (g57 _ _ g4) at1 (ho.b.same g57) ⟨gd.ok, gd.sk⟩ gd1 lp1 ht)
  -- distinct
  refine ⟨_, rfl, rfl, _, rfl, strIf kDistinct_ (fun hkk2 => ?_) (fun hkk2 => ?_)⟩
  · subst hkk2
    refine ⟨_, rfl, by show 0 ≤ sizeLine; decide, fun e5 he5 => ?_⟩
    obtain ⟨s5, P5⟩ := P4.loc (o := .lst []) he5
    have s5' := s4'.trans ((Step.refl P4.gh).loc (o := .lst []) he5 (P4.gh.free he5))
    have he6 : upd H4 e5 (.lst []) e5 = some (.lst []) := upd_same
    generalize upd H4 e5 (.lst []) = H5 at *
    have msnm : ∀ y ∈ st.ms, Nm y := fun y hy => gd.ok.nc y (gd.ok.ms y hy)
    refine ⟨_, _, .lst (SqL.of (P5.gh _ _ g3)) (dp_sV _), .lst (SqL.of he6) .nil, strs_shaped msnm, by decide, _, rfl, ?_⟩
    rw [sl_nil]
    refine ite2 (fun hm => ?_) (fun _ => q1 _ _ ((s3.trans s4).trans s5) (P5.mono (by omega)))
    have hm : st.ms = [] := of_decide_eq_true hm
    exact ⟨_, rfl, x, dx, fs, rfl, P5.gh _ _ h1, hno _ (by decide +kernel), G3, x, st, ins, rfl, P5.gh, g5, okd, hm, fun G1 H1 x1 s1 at1 _ => ⟨_, rfl, _, rfl, _, rfl, _, rfl, _, rfl, by show 6 ≤ sizeLine; decide, fun t ht => q2 _ _ t (fin _ G1 H1 x1 t (s5'.trans s1) at1 ht (by decide +kernel)).2.1 (fin _ G1 H1 x1 t (s5'.trans s1) at1 ht (by decide +kernel)).2.2 (fin _ G1 H1 x1 t (s5'.trans s1) at1 ht (by decide +kernel)).1⟩⟩
  -- no plain column
  refine ⟨_, rfl, by show 0 ≤ sizeLine; decide, fun e5 he5 => ?_⟩
  obtain ⟨s5, P5⟩ := P4.loc (o := .lst []) he5
  have hD5 : upd H4 e5 (.lst []) D = some (.lst (sV (plain st))) := by rw [upd_ne (ne_of_none hD4 he5)]; exact hD4
  have he6 : upd H4 e5 (.lst []) e5 = some (.lst []) := upd_same
  generalize upd H4 e5 (.lst []) = H5 at *
  refine ⟨_, _, .lst (SqL.of hD5) (dp_sV _), .lst (SqL.of he6) .nil, strs_shaped plnm, by decide, _, rfl, ?_⟩
  rw [sl_nil]
  refine ite2 (fun _ => q1 _ _ ((s3.trans s4).trans s5) (P5.mono (by omega))) (fun hne => ?_)
  have pl1 : 1 ≤ (plain st).length := by
    cases e : plain st with
    | nil => exact absurd (decide_eq_true e) hne
    | cons y r => simp
  refine ⟨_, rfl, _, rfl, _, rfl, _, rfl, G3, p, D, _, plain st, 4, rfl, P5, by omega, hD5, pnd, pl1, pln, by decide, by decide, fun l' ys G6 H6 s6 P6 gl sub lo hi => ?_⟩
  have s36 := ((s3.trans s4).trans s5).trans s6
  have hkn : kd ∈ named := by
    simp only [KL, List.mem_cons, List.mem_nil_iff, or_false] at hk
    simp only [named, List.mem_cons, List.mem_nil_iff, or_false]
    rcases hk with rfl | rfl | rfl | rfl | rfl | rfl | rfl | rfl | rfl | rfl | rfl | rfl | rfl | rfl
    · exact .inl rfl
    · exact .inr (.inl rfl)
    · exact .inr (.inl rfl)
    · exact .inr (.inr (.inl rfl))
    · exact absurd rfl hkk
    · exact absurd rfl hkk2
    · exact absurd rfl hkd
    · exact absurd rfl hkd
    · exact .inr (.inr (.inr (.inl rfl)))
    · exact .inr (.inr (.inr (.inr (.inr (.inl rfl)))))
    · exact .inr (.inr (.inr (.inr (.inr (.inr rfl)))))
    · exact absurd rfl hbg.1
    · exact absurd rfl hbg.2
    · exact .inr (.inr (.inr (.inr (.inl rfl))))
  refine ⟨_, rfl, G6, kd, o, x, l', k, st, ld, ys, rfl, P6.gh, ho.same s6.gg, gd, lp, k14, P6.gh _ _ gl, fun y hy => mem_plain (sub.mem y hy), sub.nd, lo, by omega, hkn, fun H7 s7 => q1 _ _ (s36.trans s7.some_) ((P6.step s7).mono (by omega)), fun G7 H7 o' s7 on => q2 _ _ o' (s36.trans s7.some_) ((P6.step s7).mono (by omega)) on⟩
end Pf
namespace Bs
open PySem PySem.Spec PyProof.Rows L2 SX
variable {P : Program} {w : World} {K : PySem.W.Frag} {mg : Str → Option Value} {base : Heap}
def spLRight (K : PySem.W.Frag) (C : Addr) : Sp := fun vs H Q _ => ∃ (G : Hp) (o : Addr) (k : Nat), vs = [.ref o] ∧ Same G H ∧ One K C G k o ∧ ∀ H' : Hp, Step none G H G H' → Q (.bl true) H'
/-- a step's word, columns and measures -/
def stD (st : Stp) : PyData := .list [.str (S st.kd), .list (strsD st.cs), .list (strsD st.ms)]
theorem stD_eqv (st : Stp) : (stD st).eqv (stD st) = true := by
  have h : ∀ xs : List (List Nat), PyData.eqvAll (strsD xs) (strsD xs) = true := by
    intro xs
    induction xs with
    | nil => simp [strsD, PyData.eqvAll]
    | cons x r ih =>
      unfold strsD at ih ⊢
      simp [PyData.eqvAll, PyData.eqv, ih]
  simp [stD, PyData.eqv, PyData.eqvAll, h]
theorem stD_shaped {st : Stp} (ok : OkS st) (hs : PyData.strOk (S st.kd) = true) : SeqAt.shaped (stD st) = true := by
  obtain ⟨z1, z2⟩ := lay_strs (xs := st.cs) ok.nc
  obtain ⟨z3, z4⟩ := lay_strs (xs := st.ms) fun x hx => ok.nc x (ok.ms x hx)
  unfold SeqAt.shaped
  simp [stD, PyData.canLay0, PyData.canLayAll0, PyData.depth, PyData.depthAll, z1, z2, z3, z4, hs]
theorem stD_dp {H : Hp} {a c m : Addr} {st : Stp} (h : H a = some (.lst [.str (S st.kd), .ref c, .ref m])) (h1 : H c = some (.lst (sV st.cs))) (h2 : H m = some (.lst (sV st.ms))) : Dp K H (.ref a) (stD st) :=
  .lst (SqL.of h) (.cons (.str _) (.cons (.lst (SqL.of h1) (dp_sV _)) (.cons (.lst (SqL.of h2) (dp_sV _)) .nil)))
end Bs
namespace Pf
open PySem PySem.Spec PyProof.Rows L2 Bs SX
variable {P : Program} {w : World} {K : PySem.W.Frag} {mg : Str → Option Value} {base : Heap}
abbrev N_Lright : List Str := ["_law_one", "_law_made", "_law_kind", "_law_columns", "_law_measures", "_law_depths", "_law_below"]
theorem sc_Lright : FnScope N_Lright ["_law_one"] (defScope s_Lright) := ⟨rfl, rfl, rfl, by decide +kernel, rfl, by decide +kernel, by decide +kernel⟩
theorem c_Lright (T : Tx K mg) : C8.Cal P w K mg base 1 "_law_right" (spLRight K (CSt K)) [] := by
  obtain ⟨fd, F⟩ := f_Lright T
  have pe_g_Step : ∀ {X : Cx} {pos : Pos}, X.mg = mg → Gl X "Step" → PE X (.Name "Step" pos) (tC (.ref (CSt K))) := fun h1 h2 => C8.pe_gc h2 ⟨_, by rw [h1]; exact g_Step T, rfl⟩
  refine mkCal F (g_law_right T) (F.bindsN fun _ _ _ _ _ _ us hl => match us, hl with | [_], _ => rfl) .nil sc_Lright (fun vs H Q E h => ?_) (fun cdv A outer s H vs Q E hr h => ?_)
  · obtain ⟨G, o, k, rfl, _⟩ := h
    rfl
  obtain ⟨G, o, k, rfl, hG, ⟨x, st, ld, ho, gd, lp⟩, q⟩ := h
  obtain ⟨c, m, d, b, ins, g1, g2, g3, g4, g5, g6⟩ := id ho.ex
  obtain ⟨dx, i, cc, mm, dd, fs, h1, h2, h3, h4, h5, h6⟩ := g5.ex
  have C0 := cls_Step_ T
  have I0 := Hd.insB_ok (ex_13 T)
  have sl : sizeLine = 16777216 := rfl
  refine ⟨_, (pss_cons (ps_asg (pv 0) (pg_tup rfl (pgs_cons (pg_name (i := 1) sc_Lright.nd rfl (Or.inl rfl)) (pgs_cons (pg_name (i := 2) sc_Lright.nd rfl (Or.inl rfl)) (pgs_cons (pg_name (i := 3) sc_Lright.nd rfl (Or.inl rfl)) (pgs_cons (pg_name (i := 4) sc_Lright.nd rfl (Or.inl rfl)) (pgs_cons (pg_name (i := 5) sc_Lright.nd rfl (Or.inl rfl)) (pgs_cons (pg_name (i := 6) sc_Lright.nd rfl (Or.inl rfl)) pgs_nil))))))))
    (pss_cons (ps_if (PW.pt (pw_or (pt_not (pt_val (pe_callB (call_isiK' (K := K) rfl) (by rfl) (z_isinstance T) boot_isinstance (pa_cons (pv 1) (pa_cons (pe_g_Step rfl rfl) pa_nil))))) (pw_or1 (pt_cmpR (op_neD hr.units) (pe_lst (pa_cons (pe_fldK (K := K) rfl (pv 1) (by rfl)) (pa_cons (pe_fldK (K := K) rfl (pv 1) (by rfl)) (pa_cons (pe_fldK (K := K) rfl (pv 1) (by rfl)) pa_nil)))) (pe_lst (pa_cons (pv 2) (pa_cons (pv 3) (pa_cons (pv 4) pa_nil)))) (nomark _))))) (pss_one (ps_ret pe_bl)) pss_nil)
    (pss_cons (ps_if (PW.pt (pw_or (pt_not (pt_val (pe_callB (call_isiK' (K := K) rfl) (by rfl) (z_isinstance T) boot_isinstance (pa_cons (pe_fldK (K := K) rfl (pv 1) (by rfl)) (pa_cons (pe_bltn (v := .ty "list") (by rfl) (z_list T) boot_list rfl) pa_nil))))) (pw_or1 (pt_not (pt_val (pe_callB (call_isiK' (K := K) rfl) (by rfl) (z_isinstance T) boot_isinstance (pa_cons (pe_fldK (K := K) rfl (pv 1) (by rfl)) (pa_cons (pe_bltn (v := .ty "tuple") (by rfl) (z_tuple T) boot_tuple rfl) pa_nil)))))))) (pss_one (ps_ret pe_bl)) pss_nil)
    (pss_cons (ps_if (pt_cmpR op_isN (pv 6) pe_non (nomark _)) (pss_one (ps_ret (pe_cmpR (op_eqD hr.units) (pe_fldK (K := K) rfl (pv 1) (by rfl)) (pe_tup pa_nil) (nomark _)))) pss_nil)
    (pss_cons (ps_if (PW.pt (pw_or (pt_cmpR op_ne (pe_callB (call_len_seqK (K := K) rfl) (by rfl) (z_len T) boot_len (pa_cons (pe_fldK (K := K) rfl (pv 1) (by rfl)) pa_nil)) pe_int (nomark _)) (pw_or1 (pt_not (pt_val (pe_callB (call_isiK' (K := K) rfl) (by rfl) (z_isinstance T) boot_isinstance (pa_cons (pe_ix (ix_tupK (K := K) rfl) (pe_fldK (K := K) rfl (pv 1) (by rfl)) pe_int (fun _ _ => rfl)) (pa_cons (pe_g_Step rfl rfl) pa_nil)))))))) (pss_one (ps_ret pe_bl)) pss_nil)
    (pss_one (ps_ret (pe_cmpR (op_eqD hr.units) (pe_lst (pa_cons (pe_fldK (K := K) rfl (pe_ix (ix_tupK (K := K) rfl) (pe_fldK (K := K) rfl (pv 1) (by rfl)) pe_int (fun _ _ => rfl)) (by rfl)) (pa_cons (pe_fldK (K := K) rfl (pe_ix (ix_tupK (K := K) rfl) (pe_fldK (K := K) rfl (pv 1) (by rfl)) pe_int (fun _ _ => rfl)) (by rfl)) (pa_cons (pe_fldK (K := K) rfl (pe_ix (ix_tupK (K := K) rfl) (pe_fldK (K := K) rfl (pv 1) (by rfl)) pe_int (fun _ _ => rfl)) (by rfl)) pa_nil)))) (pe_lst (pa_cons (pe_ix (ix_tupK (K := K) rfl) (pv 6) pe_int (fun _ _ => rfl)) (pa_cons (pe_ix (ix_tupK (K := K) rfl) (pv 6) pe_int (fun _ _ => rfl)) (pa_cons (pe_ix (ix_tupK (K := K) rfl) (pv 6) pe_int (fun _ _ => rfl)) pa_nil)))) (nomark _))))))))), ?_⟩
  refine ⟨_, rfl, o, _, rfl, SqT.of (hG _ _ g1), rfl, _, _, rfl, _, _, rfl, _, _, rfl, _, _, rfl, _, _, rfl, _, _, rfl, rfl, ?_⟩
  refine ⟨_, rfl, .ref x, .ref (CSt K), .ref (CSt K), .ref (CSt K), true, rfl, .own _, .base (.ins (hG _ _ h1) C0 I0.ha I0.hn I0.htk I0.hm), I0.me, true, rfl, iteF ?_⟩
  refine ⟨_, rfl, x, CSt K, dx, _, _, rfl, hG _ _ h1, C0, noat_Step_kind T, h2.k, _, rfl, x, CSt K, dx, _, _, rfl, hG _ _ h1, C0, noat_Step_columns T, h2.c, _, rfl, x, CSt K, dx, _, _, rfl, hG _ _ h1, C0, noat_Step_measures T, h2.m, by show 3 ≤ sizeLine; decide, fun A0 hA0 => ?_⟩
  have s1 : Step none G H G (upd H A0 (.lst [.str (S st.kd), .ref cc, .ref mm])) := (Step.refl hG).loc hA0 (hG.free hA0)
  have hA : upd H A0 (.lst [.str (S st.kd), .ref cc, .ref mm]) A0 = some (.lst [.str (S st.kd), .ref cc, .ref mm]) := upd_same
  generalize upd H A0 (.lst [.str (S st.kd), .ref cc, .ref mm]) = H1 at *
  refine ⟨_, rfl, _, rfl, _, rfl, by show 3 ≤ sizeLine; decide, fun A1 hA1 => ?_⟩
  have s2 : Step none G H G (upd H1 A1 (.lst [.str (S st.kd), .ref c, .ref m])) := s1.loc (s1.free hA1) (s1.gh.free hA1)
  have hB : upd H1 A1 (.lst [.str (S st.kd), .ref c, .ref m]) A1 = some (.lst [.str (S st.kd), .ref c, .ref m]) := upd_same
  have hA2 : upd H1 A1 (.lst [.str (S st.kd), .ref c, .ref m]) A0 = some (.lst [.str (S st.kd), .ref cc, .ref mm]) := by rw [upd_ne (ne_of_none hA hA1)]; exact hA
  generalize upd H1 A1 (.lst [.str (S st.kd), .ref c, .ref m]) = H2 at *
  have gh := s2.gh
  have shp := stD_shaped gd.ok gd.sk
  refine ⟨stD st, stD st, stD_dp hA2 (gh _ _ h4) (gh _ _ h5), stD_dp hB (gh _ _ g2) (gh _ _ g3), shp, shp, _, rfl, ?_⟩
  rw [stD_eqv]
  refine iteF ?_
  -- lists and a tuple
  refine ⟨_, rfl, x, CSt K, dx, _, _, rfl, gh _ _ h1, C0, noat_Step_columns T, h2.c, .ref cc, _, .type "list", .type "list", true, rfl, .ty "list", .base (.lst (gh _ _ h4)), kit_ty (by decide +kernel), _, rfl, iteF ?_⟩
  refine ⟨_, rfl, x, CSt K, dx, _, _, rfl, gh _ _ h1, C0, noat_Step_inputs T, h2.i, .ref i, _, .type "tuple", .type "tuple", true, rfl, .ty "tuple", sqT_ty (SqT.of (gh _ _ h3)), kit_ty (by decide +kernel), _, rfl, iteF ?_⟩
  rcases g6 with ⟨rfl, rfl⟩ | ⟨o', x', st', rfl, rfl, hb, ok', hs'⟩
  · refine ⟨_, rfl, rfl, _, rfl, iteT ?_⟩
    refine ⟨_, rfl, x, CSt K, dx, _, _, rfl, gh _ _ h1, C0, noat_Step_inputs T, h2.i, by show 0 ≤ sizeLine; decide, fun B hB0 => ?_⟩
    have s3 := s2.loc (o := .tup []) (s2.free hB0) (gh.free hB0)
    have hB3 : upd H2 B (.tup []) B = some (.tup []) := upd_same
    generalize upd H2 B (.tup []) = H3 at *
    have ez : (PyData.tuple []).eqv (.tuple []) = true := by simp [PyData.eqv, PyData.eqvAll]
    refine ⟨.tuple [], .tuple [], .tup (SqT.of (s3.gh _ _ h3)) .nil, .tup (SqT.of hB3) .nil, by decide, by decide, ?_⟩
    rw [ez]
    exact q H3 s3
  · obtain ⟨c', m', d', b', ins', k1, k2, k3, k4⟩ := hb
    obtain ⟨dx', i', cc', mm', dd', fs', e1, e2, e3, e4, e5, e6⟩ := k4.ex
    refine ⟨_, rfl, rfl, _, rfl, iteF ?_⟩
    refine ⟨_, rfl, x, CSt K, dx, _, _, rfl, gh _ _ h1, C0, noat_Step_inputs T, h2.i, i, _, rfl, .inr (SqT.of (gh _ _ h3)), rfl, _, rfl, iteF ?_⟩
    refine ⟨_, rfl, x, CSt K, dx, _, _, rfl, gh _ _ h1, C0, noat_Step_inputs T, h2.i, i, _, 0, _, rfl, rfl, SqT.of (gh _ _ h3), atI_nat (j := 0) rfl, .ref x', .ref (CSt K), .ref (CSt K), .ref (CSt K), true, rfl, .own _, .base (.ins (gh _ _ e1) C0 I0.ha I0.hn I0.htk I0.hm), I0.me, true, rfl, iteF ?_⟩
    refine ⟨_, rfl, x, CSt K, dx, _, _, rfl, gh _ _ h1, C0, noat_Step_inputs T, h2.i, i, _, 0, _, rfl, rfl, SqT.of (gh _ _ h3), atI_nat (j := 0) rfl, x', CSt K, dx', _, _, rfl, gh _ _ e1, C0, noat_Step_kind T, e2.k, ?_⟩
    refine ⟨_, rfl, x, CSt K, dx, _, _, rfl, gh _ _ h1, C0, noat_Step_inputs T, h2.i, i, _, 0, _, rfl, rfl, SqT.of (gh _ _ h3), atI_nat (j := 0) rfl, x', CSt K, dx', _, _, rfl, gh _ _ e1, C0, noat_Step_columns T, e2.c, ?_⟩
    refine ⟨_, rfl, x, CSt K, dx, _, _, rfl, gh _ _ h1, C0, noat_Step_inputs T, h2.i, i, _, 0, _, rfl, rfl, SqT.of (gh _ _ h3), atI_nat (j := 0) rfl, x', CSt K, dx', _, _, rfl, gh _ _ e1, C0, noat_Step_measures T, e2.m, by show 3 ≤ sizeLine; decide, fun A3 hA3 => ?_⟩
    have s3 := s2.loc (o := .lst [.str (S st'.kd), .ref cc', .ref mm']) (s2.free hA3) (gh.free hA3)
    have hA4 : upd H2 A3 (.lst [.str (S st'.kd), .ref cc', .ref mm']) A3 = some (.lst [.str (S st'.kd), .ref cc', .ref mm']) := upd_same
    generalize upd H2 A3 (.lst [.str (S st'.kd), .ref cc', .ref mm']) = H3 at *
    have ko := SqT.of (K := K) (s3.gh _ _ k1)
    refine ⟨_, rfl, o', _, 1, _, rfl, rfl, ko, atI_nat (j := 1) rfl, _, rfl, o', _, 2, _, rfl, rfl, ko, atI_nat (j := 2) rfl, _, rfl, o', _, 3, _, rfl, rfl, ko, atI_nat (j := 3) rfl, by show 3 ≤ sizeLine; decide, fun A5 hA5 => ?_⟩
    have s4 := s3.loc (o := .lst [.str (S st'.kd), .ref c', .ref m']) (s3.free hA5) (s3.gh.free hA5)
    have hA6 : upd H3 A5 (.lst [.str (S st'.kd), .ref c', .ref m']) A5 = some (.lst [.str (S st'.kd), .ref c', .ref m']) := upd_same
    have hA7 : upd H3 A5 (.lst [.str (S st'.kd), .ref c', .ref m']) A3 = some (.lst [.str (S st'.kd), .ref cc', .ref mm']) := by rw [upd_ne (ne_of_none hA4 hA5)]; exact hA4
    generalize upd H3 A5 (.lst [.str (S st'.kd), .ref c', .ref m']) = H4 at *
    have shp := stD_shaped ok' hs'
    refine ⟨stD st', stD st', stD_dp hA7 (s4.gh _ _ e4) (s4.gh _ _ e5), stD_dp hA6 (s4.gh _ _ k2) (s4.gh _ _ k3), shp, shp, ?_⟩
    rw [stD_eqv]
    exact q H4 s4
end Pf
namespace Bs
open PySem PySem.Spec PyProof.Rows L2 SX
variable {P : Program} {w : World} {K : PySem.W.Frag} {mg : Str → Option Value} {base : Heap}
def spLaw (K : PySem.W.Frag) : Sp := fun vs H Q _ => ∃ (a : Addr) (ns : List Int), vs = [.ref a] ∧ Fz K H a (ns.map V.int) ∧ ns.length ≤ 63 ∧ ∀ H' : Hp, Q (.bl true) H'
theorem mkR {C : Addr} {G H : Hp} {ca ka l x dx : Addr} {b : Br} {R : VK} {E : XK} {nm : Str} (hn : nm = S b.n) (hG : Same G H) (hc : SqL K H ca (sV b.cs)) (hk : Sq K H ka (sV b.ky)) (hl : LieAt K G l b.li) (ok : Ok b)
    (k : ∀ (G' H' : Hp), Step none G H G' H' → TbAt K C G' x b → R .non H') (hx : H x = none) (hdx : H dx = none) (ne : dx ≠ x) :
    spTInit K C [.ref x, .str nm, .ref ca, .ref ka, .ref l] (upd (upd H dx (.own x)) x (.ins C dx [])) R E := by
  subst hn
  have s0 : Step none G H G (upd H dx (.own x)) := (Step.refl hG).loc hdx (hG.free hdx)
  have hx1 : upd H dx (.own x) x = none := by rw [upd_ne ne.symm]; exact hx
  have n1 : Same H (upd H dx (.own x)) := Same.new (Same.refl H) hdx
  have n2 : Same (upd H dx (.own x)) (upd (upd H dx (.own x)) x (.ins C dx [])) := Same.new (Same.refl _) hx1
  have n3 := n1.trans n2
  refine ⟨G, x, dx, ca, ka, l, b, rfl, s0.gh.trans n2, hG.free hx, upd_same, sqL_same hc n3, hk.same n3, hl, ok, fun G' H' c k' st gp' hp' bat => ?_⟩
  have st1 := s0.trans (Step.absorb hx1 st)
  exact k _ H' (st1.freeze (q := x) hx hp' gp') ⟨dx, c, k', l, upd_same, bat.same (Same.new (Same.refl G') gp')⟩
theorem zd_lk {cs : List (List Nat)} {c : List Nat} (h : c ∈ cs) : (cs.map fun c => (c, 0)).lookup c = some 0 := by
  induction cs with
  | nil => cases h
  | cons z r ih =>
    rw [List.map_cons, List.lookup_cons]
    by_cases e : c = z
    · rw [e, beq_self_eq_true]
    · rw [beq_false_of_ne e]
      exact ih ((List.mem_cons.mp h).resolve_left e)
abbrev st0 (cs : List (List Nat)) : Stp := ⟨kScan, cs, [], cs.map fun c => (c, 0)⟩
theorem good0 {cs : List (List Nat)} (ok : OkC cs) (sub : ∀ c ∈ cs, c ∈ NQl) : Good (st0 cs) 0 ∧ LDp (st0 cs) [] 0 := by
  have hi := ok.hi
  have lo := ok.lo
  have zk : (cs.map fun c => (c, 0)).map (·.1) = cs := by
    rw [List.map_map]
    exact List.map_id _
  have zl : (cs.map fun c => (c, 0)).length = cs.length := List.length_map _
  refine ⟨⟨⟨ok.nd, by show cs.length ≤ 60; omega, fun c h => (by cases h), List.nodup_nil, fun c hc _ => ⟨0, zd_lk hc, by decide⟩, by show ((cs.map fun c => (c, 0)).map (·.1)).Nodup; rw [zk]; exact ok.nd, by show (cs.map fun c => (c, 0)).length ≤ 60; omega, ok.nm, fun c hc => ?_⟩, lo, by show cs.length ≤ 8 + 0; omega, by show (cs.map fun c => (c, 0)).length ≤ 8 + 0; omega, fun c hc => .inl (sub c hc), fun c hc _ => ⟨fun e => NQ_ns.1 (e ▸ sub c hc), fun e => NQ_ns.2 (e ▸ sub c hc)⟩, by show PyData.strOk (S kScan) = true; decide +kernel⟩, List.nodup_nil, Nat.le_refl _, fun c h => (by cases h), fun c hc _ => ?_⟩
  · have hc : c ∈ (cs.map fun c => (c, 0)).map (·.1) := hc
    rw [zk] at hc
    exact hc
  · show 0 = ((cs.map fun c => (c, 0)).lookup c).getD 0
    rw [zd_lk hc]
    rfl
end Bs
namespace Pf
open PySem PySem.Spec PyProof.Rows L2 Bs SX
variable {P : Program} {w : World} {K : PySem.W.Frag} {mg : Str → Option Value} {base : Heap}
abbrev N_law : List Str := ["_law_script", "_law_pen_here", "_law_turn", "_law_columns", "_law_found", "_law_number", "_law_below", "_law_one"]
theorem sc_law : FnScope N_law ["_law_script"] (defScope s_law) := ⟨rfl, rfl, rfl, by decide +kernel, rfl, by decide +kernel, by decide +kernel⟩
theorem o_law (T : Tx K mg) {fd : FuncData} (F : FunD K d_law.2.name d_law.2.qual d_law.2.params d_law.2.body d_law.2.scope (d_law.2.dvs K) (d_law.2.kws K) (d_law.1 K) fd) : FnOk P w K mg base C8.CX0 10 (d_law.1 K) fd ["_law_script"] (spLaw K) := by
  have c_Lpen := c_Lpen (P := P) (w := w) (base := base) T
  have c_Ldraw := c_Ldraw (P := P) (w := w) (base := base) T
  have c_Lpick := c_Lpick (P := P) (w := w) (base := base) T
  have c_Lnames := c_Lnames (P := P) (w := w) (base := base) T
  have c_scan := c_scan (P := P) (w := w) (base := base) T
  have m_Table := m_Table (P := P) (w := w) (base := base) T
  have c_Labove := c_Labove (P := P) (w := w) (base := base) T
  have c_Lright := c_Lright (P := P) (w := w) (base := base) T
  refine ok0' (k := 9) F sc_law (fun vs H Q E h => ?_) (fun cdv A outer s H vs Q E hr h => ?_)
  · obtain ⟨a, ns, rfl, _⟩ := h
    rfl
  obtain ⟨a, ns, rfl, hS, h63, q⟩ := h
  have sl : sizeLine = 16777216 := rfl
  refine ⟨_, (pss_cons (ps_set (i := 1) sc_law.nd rfl (Or.inl rfl) (C8.pe_c c_Lpen hr (by first | decide | omega) rfl (pa_cons (pv 0) pa_nil)))
    (pss_cons (ps_for PassesOwn.never rfl (pi_range1 (by rfl) (z_range T) (pa_cons pe_int pa_nil)) (pg_name (i := 2) sc_law.nd rfl (Or.inl rfl)) (pss_cons (ps_set (i := 3) sc_law.nd rfl (Or.inl rfl) (C8.pe_c c_Lnames hr (by first | decide | omega) rfl (pa_cons (pv 1) (pa_cons (pe_op op_add pe_int (C8.pe_c c_Ldraw hr (by first | decide | omega) rfl (pa_cons (pv 1) (pa_cons pe_int pa_nil)))) pa_nil))))
    (pss_cons (ps_set (i := 4) sc_law.nd rfl (Or.inl rfl) (pe_lst (pa_cons (pe_tup (pa_cons (C8.pe_c c_scan hr (by first | decide | omega) rfl (pa_cons (C8.pe_mk m_Table hr (by first | decide | omega) rfl (pa_cons pe_str (pa_cons (pv 3) pa_nil))) pa_nil)) (pa_cons pe_str (pa_cons (pv 3) (pa_cons (pe_lst pa_nil) (pa_cons pe_dnewK (pa_cons pe_non pa_nil))))))) pa_nil)))
    (pss_cons (ps_for PassesOwn.never rfl (pi_range1 (by rfl) (z_range T) (pa_cons pe_int pa_nil)) (pg_name (i := 5) sc_law.nd rfl (Or.inl rfl)) (pss_cons (ps_set (i := 6) sc_law.nd rfl (Or.inl rfl) (pe_ix (ix_listK (K := K) rfl) (pv 4) (pe_un un_neg pe_int) (fun _ _ => rfl)))
    (C8.pss_cut (ps_if (pt_cmpR op_eq (C8.pe_c c_Ldraw hr (by first | decide | omega) rfl (pa_cons (pv 1) (pa_cons pe_int pa_nil))) pe_int (nomark _)) (pss_one (ps_set (i := 6) sc_law.nd rfl (Or.inl rfl) (C8.pe_c c_Lpick hr (by first | decide | omega) rfl (pa_cons (pv 1) (pa_cons (pv 4) pa_nil))))) pss_nil)
    (pss_cons (ps_set (i := 7) sc_law.nd rfl (Or.inl rfl) (C8.pe_c c_Labove hr (by first | decide | omega) rfl (pa_cons (pv 1) (pa_cons (pv 6) (pa_cons (pv 5) pa_nil)))))
    (pss_one (ps_if (pt_cmpR op_notN (pv 7) pe_non (nomark _)) (pss_one (ps_expr (pe_bm PySem.F.plainAttrs_list PySem.F.slot_list_append PySem.F.type_list_append mt_append (pv 4) (pa_cons (pv 7) pa_nil)))) pss_nil))))))
    (pss_one (ps_if (pt_not (pt_val (pe_callB (cr_all rfl) (by rfl) (z_all T) boot_all (pa_cons (pe_lc (own := [("_law_one", 7)]) rfl sc_law.nd (pi_listK (K := K) rfl (pe_op op_cat (pv 4) (pe_revL (pv 4)))) (blkOk_by (N := N_law) (sc := defScope s_law) (by decide +kernel)) (fun _ _ _ _ _ => (pg_name (i := 7) sc_law.nd rfl (Or.inl rfl))) (fun _ _ _ _ _ => pts_nil) (fun _ _ _ _ _ => (C8.pe_c c_Lright hr (by first | decide | omega) rfl (pa_cons (pv 7) pa_nil)))) pa_nil)))) (pss_one (ps_ret pe_bl)) pss_nil))))))
    (pss_one (ps_ret pe_bl)))), ?_⟩
  refine ⟨_, rfl, a, ns, rfl, hS.sq, fun p G0 H0 k0 P0 => ?_⟩
  refine ⟨3, rfl, by decide, by decide, for_range (lo := 0) (n := 3) (fun i σ H' => ∃ (v2 v3 v4 v5 v6 v7 : Option V) (G' : Hp), σ = [some (.ref a), some (.ref p), v2, v3, v4, v5, v6, v7] ∧ Pq G' H' p (1000 * i))
    ⟨_, _, _, _, _, _, G0, rfl, P0⟩ ?_ ?_⟩
  rotate_left
  · rintro σ H' ⟨v2, v3, v4, v5, v6, v7, G', rfl, ps⟩
    exact q _
  rintro i σ H' hi ⟨v2, v3, v4, v5, v6, v7, G', rfl, ps⟩
  refine ⟨_, rfl, _, rfl, G', p, _, 6, rfl, ps, by omega, by decide, by decide, fun d G1 H1 s1 P1 a1 b1 => ?_⟩
  refine ⟨_, _, rfl, rfl, G1, p, _, 3 + d, rfl, P1, by omega, by omega, by omega, fun l cs G2 H2 s2 P2 gl okc sub => ?_⟩
  clear s1 s2 P1 ps
  -- the table
  refine ⟨_, rfl, fun x dx hx hdx ne => ?_⟩
  refine mkR wT_ (b := ⟨wT, cs, [], .anyhow⟩) P2.gh (SqL.of (P2.gh _ _ gl)) (.inr (Hd.tupAtB_ok (ex_8 T) _)) (by show SqT K _ _ [.str (S _)]; have := Hd.tupAtB_ok (ex_9 T) G2; rw [anyhow_] at this; exact this) ⟨wT_nm, okc, ⟨fun z hz => (by cases hz), List.nodup_nil⟩, ⟨fun r ds e => by cases e⟩⟩ (fun G3 H3 s3 tb => ⟨rfl, ?_⟩) hx hdx ne
  have P3 := P2.step s3
  have okb : Ok ⟨wT, cs, [], .anyhow⟩ := ⟨wT_nm, okc, ⟨fun z hz => (by cases hz), List.nodup_nil⟩, ⟨fun r ds e => by cases e⟩⟩
  refine ⟨G3, x, _, rfl, P3.gh, tb, okb, fun G4 H4 x1 s4 at1 _ => ?_⟩
  have P4 := P3.step s4
  have gl4 := s4.gg _ _ (s3.gg _ _ gl)
  refine ⟨_, rfl, by show 0 ≤ sizeLine; decide, fun e he => ?_⟩
  obtain ⟨s5, P5⟩ := P4.new_ (o := .lst (sV [])) he
  have ge : upd G4 e (.lst (sV [])) e = some (.lst (sV [])) := upd_same
  have gl5 := s5.gg _ _ gl4
  have at5 := at1.same s5.gg
  show tDNewK _ (upd H4 e (.lst (sV []))) _
  generalize upd G4 e (.lst (sV [])) = G5 at *
  generalize upd H4 e (.lst (sV [])) = H5 at *
  intro dd hdd
  obtain ⟨s6, P6⟩ := P5.new_ (o := .dK (dV [])) hdd
  have gd6 : upd G5 dd (.dK (dV [])) dd = some (.dK (dV [])) := upd_same
  have ge6 := s6.gg _ _ ge
  have gl6 := s6.gg _ _ gl5
  have at6 := at5.same s6.gg
  generalize upd G5 dd (.dK (dV [])) = G6 at *
  show tCons _ _ _ (upd H5 dd (.dK (dV []))) _
  generalize upd H5 dd (.dK (dV [])) = H6 at *
  refine ⟨by show 6 ≤ sizeLine; decide, fun t ht => ?_⟩
  have eT : [V.ref x1, .str "scan", .ref l, .ref e, .ref dd, .non] = [V.ref x1, .str (S (st0 cs).kd), .ref l, .ref e, .ref dd, .non] := by rw [kScan_]
  rw [eT]
  obtain ⟨s7, P7⟩ := P6.new_ (o := .tup [V.ref x1, .str (S (st0 cs).kd), .ref l, .ref e, .ref dd, .non]) ht
  have gt : upd G6 t (.tup [V.ref x1, .str (S (st0 cs).kd), .ref l, .ref e, .ref dd, .non]) t = some (.tup [V.ref x1, .str (S (st0 cs).kd), .ref l, .ref e, .ref dd, .non]) := upd_same
  have one0 : One K (CSt K) (upd G6 t (.tup [V.ref x1, .str (S (st0 cs).kd), .ref l, .ref e, .ref dd, .non])) 0 t := by
    obtain ⟨gd, lp⟩ := good0 okc sub
    exact ⟨x1, st0 cs, [], ⟨l, e, dd, .non, [], gt, s7.gg _ _ gl6, s7.gg _ _ ge6, s7.gg _ _ gd6, at6.same s7.gg, .inl ⟨rfl, rfl⟩⟩, gd, lp⟩
  generalize upd G6 t (.tup [V.ref x1, .str (S (st0 cs).kd), .ref l, .ref e, .ref dd, .non]) = G7 at *
  generalize upd H6 t (.tup [V.ref x1, .str (S (st0 cs).kd), .ref l, .ref e, .ref dd, .non]) = H7 at *
  clear s3 s4 s5 s6 s7 P2 P3 P4 P5 P6 gl gl4 gl5 gl6 ge ge6 gd6 at1 at5 at6 gt eT
  refine ⟨by show 1 ≤ sizeLine; decide, fun Fo hF => ?_⟩
  have nFp : Fo ≠ p := fun z => P7.there (by rw [← z]; exact hF)
  have gF := P7.gh.free hF
  obtain ⟨_, P8⟩ := P7.loc (o := .lst [.ref t]) hF
  have hF8 : upd H7 Fo (.lst [.ref t]) Fo = some (.lst (([] ++ [t]).map V.ref)) := upd_same
  generalize upd H7 Fo (.lst [.ref t]) = H8 at *
  refine ⟨14, rfl, by decide, by decide, for_range (lo := 0) (n := 14) (fun j σ H' => ∃ (v5 v6 v7 : Option V) (G' : Hp) (os : List Addr) (o1 : Addr), σ = [some (.ref a), some (.ref p), some (.int (0 + (i : Nat))), some (.ref l), some (.ref Fo), v5, v6, v7] ∧ Pq G' H' p (1000 * i + 30 + 60 * j) ∧ G' Fo = none ∧ H' Fo = some (.lst ((os ++ [o1]).map V.ref)) ∧ os.length ≤ j ∧ ∀ o ∈ os ++ [o1], One K (CSt K) G' j o)
    ⟨_, _, _, G7, [], t, rfl, P8.mono (by omega), gF, hF8, Nat.le_refl _, fun o ho => by rw [List.mem_singleton.mp ho]; exact one0⟩ ?_ ?_⟩
  · rintro j σ H' hj ⟨v5, v6, v7, G', os, o1, rfl, ps, gf, hf, lo, hall⟩
    have elast : atI ((os ++ [o1]).map V.ref) (-1) = some (.ref o1) := by
      rw [List.map_append]
      exact atI_last _ _
    refine ⟨_, rfl, _, rfl, Fo, _, -1, _, rfl, rfl, SqL.of hf, elast, ?_⟩
    refine ⟨fun σ' H' => ∃ (G1 : Hp) (o2 : Addr), σ' = [some (.ref a), some (.ref p), some (.int (0 + (i : Nat))), some (.ref l), some (.ref Fo), some (.int (0 + (j : Nat))), some (.ref o2), v7] ∧ Pq G1 H' p (1000 * i + 30 + 60 * j + 5) ∧ G1 Fo = none ∧ H' Fo = some (.lst ((os ++ [o1]).map V.ref)) ∧ (∀ o ∈ os ++ [o1], One K (CSt K) G1 j o) ∧ One K (CSt K) G1 j o2, ?_, ?_⟩
    · refine ⟨_, rfl, G', p, _, 3, rfl, ps, by omega, by decide, by decide, fun d2 G1 H1 s1 P1 a2 b2 => ⟨rfl, _, rfl, ?_⟩⟩
      have hf1 := s1.kpc _ _ hf nFp
      have gf1 := s1.out gf (by rw [hf]; exact fun z => by cases z)
      have hall1 : ∀ o ∈ os ++ [o1], One K (CSt K) G1 j o := fun o ho => (hall o ho).same s1.gg
      refine ite2 (fun _ => ?_) (fun _ => ?_)
      · refine ⟨_, rfl, _, rfl, G1, p, Fo, _, _, rfl, P1, by omega, hf1, nFp, by simp, by rw [List.length_map, List.length_append]; show _ + 1 ≤ _; omega, fun v G2 H2 hv s2 P2 => ?_⟩
        obtain ⟨o2, ho2, rfl⟩ := List.mem_map.mp hv
        have hall2 : ∀ o ∈ os ++ [o1], One K (CSt K) G2 j o := fun o ho => (hall1 o ho).same s2.gg
        exact ⟨G2, o2, rfl, P2.mono (by omega), s2.out gf1 (by rw [hf1]; exact fun z => by cases z), s2.kpc _ _ hf1 nFp, hall2, hall2 o2 ho2⟩
      · exact ⟨G1, o1, rfl, P1.mono (by omega), gf1, hf1, hall1, hall1 o1 (List.mem_append_right _ List.mem_cons_self)⟩
    rintro σ' H1 ⟨G1, o2, rfl, P1, gf1, hf1, hall1, x2, st2, ld2, ho2, gd2, lp2⟩
    refine ⟨_, rfl, _, rfl, _, rfl, G1, p, o2, x2, _, j, st2, ld2, by rw [Int.zero_add]; rfl, P1, by omega, ho2, gd2, lp2, hj, fun G2 H2 s2 P2 => ?_, fun G2 H2 o3 s2 P2 on => ?_⟩
    · have hf2 := s2.kpc _ _ hf1 nFp
      refine ⟨_, rfl, rfl, _, rfl, iteF ?_⟩
      exact ⟨_, _, _, G2, os, o1, rfl, P2.mono (by omega), s2.out gf1 (by rw [hf1]; exact fun z => by cases z), hf2, by omega, fun o ho => ((hall1 o ho).same s2.gg).mono (by omega)⟩
    · have hf2 := s2.kpc _ _ hf1 nFp
      have gf2 := s2.out gf1 (by rw [hf1]; exact fun z => by cases z)
      refine ⟨_, rfl, rfl, _, rfl, iteT ?_⟩
      refine ⟨_, rfl, .inl ⟨rfl, _, SqL.of hf2⟩, _, rfl, Fo, _, _, rfl, rfl, hf2, by rw [List.length_map, List.length_append]; show _ + 1 < _; omega, ?_⟩
      refine ⟨_, _, _, G2, os ++ [o1], o3, rfl, (P2.mono (by omega)).local_ gf2 nFp, gf2, ?_, by rw [List.length_append]; show _ + 1 ≤ _; omega, fun o ho => ?_⟩
      · rw [upd_same, List.map_append (l₁ := os ++ [o1])]
        rfl
      · rcases List.mem_append.mp ho with ho | ho
        · exact ((hall1 o ho).same s2.gg).mono (by omega)
        · rw [List.mem_singleton.mp ho]
          exact on
  rintro σ H' ⟨v5, v6, v7, G', os, o1, rfl, ps, gf, hf, lo, hall⟩
  have nl : (os ++ [o1]).length ≤ 15 := by rw [List.length_append]; show _ + 1 ≤ _; omega
  generalize os ++ [o1] = zs at hf hall nl
  -- backwards, too
  refine ⟨_, rfl, _, rfl, Fo, _, rfl, SqL.of hf, fun R hR => ?_⟩
  obtain ⟨_, P1⟩ := ps.loc (o := .lst (zs.map V.ref).reverse) hR
  have hf1 : upd H' R (.lst (zs.map V.ref).reverse) Fo = some (.lst (zs.map V.ref)) := by rw [upd_ne (ne_of_none hf hR)]; exact hf
  have hR1 : upd H' R (.lst (zs.map V.ref).reverse) R = some (.lst (zs.map V.ref).reverse) := upd_same
  generalize upd H' R (.lst (zs.map V.ref).reverse) = H1 at *
  refine ⟨Fo, R, _, _, rfl, rfl, hf1, hR1, by rw [List.length_reverse, List.length_map]; omega, fun B hB => ?_⟩
  obtain ⟨_, P2⟩ := P1.loc (o := .lst (zs.map V.ref ++ (zs.map V.ref).reverse)) hB
  have hB2 : upd H1 B (.lst (zs.map V.ref ++ (zs.map V.ref).reverse)) B = some (.lst ((zs ++ zs.reverse).map V.ref)) := upd_same.trans (by rw [List.map_append, List.map_reverse])
  generalize upd H1 B (.lst (zs.map V.ref ++ (zs.map V.ref).reverse)) = H2 at *
  have hall2 : ∀ o ∈ zs ++ zs.reverse, One K (CSt K) G' 14 o := fun o ho => by
    rcases List.mem_append.mp ho with ho | ho
    · exact hall o ho
    · exact hall o (List.mem_reverse.mp ho)
  have nl2 : (zs ++ zs.reverse).length ≤ 30 := by rw [List.length_append, List.length_reverse]; omega
  generalize zs ++ zs.reverse = ws at hB2 hall2 nl2
  refine ⟨B, rfl, ⟨_, SqL.of hB2⟩, fun D hD => ?_⟩
  have gD := P2.gh.free hD
  refine lc_list (K := K) (a := B) (xs := ws.map V.ref) (fun i H' => Step none G' H2 G' H' ∧ H' D = some (.lst ((List.replicate i true).map V.bl))) ⟨(Step.refl P2.gh).loc hD gD, upd_same⟩ ?_ ?_ ?_
  · rintro i H' _ ⟨s', _⟩
    exact SqL.of (s'.all _ _ hB2)
  · rintro i y H' hy ⟨s', hL⟩
    rw [List.getElem?_map] at hy
    cases eo : ws[i]? with
    | none => rw [eo] at hy; cases hy
    | some o =>
    rw [eo] at hy
    obtain rfl : V.ref o = y := Option.some.inj hy
    have hi' := (List.getElem?_eq_some_iff.mp eo).1
    refine ⟨rfl, ?_⟩
    unfold tYes
    refine iteT ⟨_, rfl, G', o, 14, rfl, s'.gh, hall2 o (List.mem_of_getElem? eo), fun H3 s3 => ?_⟩
    have s4 := s'.trans s3
    have hL3 := s3.all _ _ hL
    refine ⟨_, hL3, by rw [List.length_map, List.length_replicate]; omega, s4.loc hD gD, ?_⟩
    rw [upd_same, rep_app]
  rintro H3 ⟨s3, hD3⟩
  refine ⟨D, _, rfl, SqL.of hD3, ?_⟩
  rw [all_rep]
  exact ⟨true, rfl, iteF ⟨_, _, _, _, _, _, G', rfl, (P2.step s3).mono (by omega)⟩⟩
end Pf
namespace Pf
open PySem PySem.Spec PyProof.Rows L2
abbrev R : PySem.W.OpenRow := PySem.W.OpenLaw.row PySem.Challenge.rw_splitplans_k20_steps_with_one_input
abbrev hk : PySem.W.Hook := Hd.hook 5 fa ex defs
def ob (s : PySem.W.SharedT) : Hd.Al := Hd.atHeap 5 fa ex defs (HandSHeadRun.getT s)
theorem ob_eq (s : PySem.W.SharedT) : ob s = hk.obs s.abs := Hd.at_eq (HandSHeadRun.getT_eq s)
theorem run (w : World) : HandSHeadRun.RunEq R (PySem.W.view R.prog [62]) hk ob 6000 looseN w := by
  intro os
  kernel_rfl
end Pf
open PySem PySem.W PySem.Calls PyProof.Rows
theorem PySem.Challenge.cw_splitplans_k20_steps_with_one_input_holds : PySem.Challenge.rw_splitplans_k20_steps_with_one_input.Holds := by
  w_on; o_law
  refine HandSHeadRun.head_any (r := OpenLaw.row PySem.Challenge.rw_splitplans_k20_steps_with_one_input) (q := view (OpenLaw.row PySem.Challenge.rw_splitplans_k20_steps_with_one_input).prog [62]) (H := Pf.hk) (ob := Pf.ob) (M := 6000) (loose := Pf.looseN) (d := HandSHeadRun.topDef (OpenLaw.row PySem.Challenge.rw_splitplans_k20_steps_with_one_input).prog 62) (kwd := []) Pf.ob_eq
    (by kernel_rfl) (fun s => by kernel_rfl) Pf.run (by kernel_rfl) (by kernel_rfl) (by kernel_rfl) (by rfl) (by first | assumption | decide +kernel) (by decide +kernel) ⟨rfl, rfl, rfl, rfl, rfl, by decide +kernel⟩ ?hw ?hc
  case hw => w_witness2
  case hc =>
    refine L2.walk_ofE (l := PySem.Challenge.rw_splitplans_k20_steps_with_one_input) (n := 63) (k := 10) (x := "_law_script") (CX := C8.CX0) rfl (by decide) (by kernel_rfl) ⟨rfl, by decide, by decide⟩ ?F (fun _ _ _ _ z => z)
    intro w mg fa h Y G hmg0
    obtain ⟨K, KX, c⟩ := Y
    have hmg : mg ("law" : PySem.Str) = some (.ref fa) := by
      have e : (HandSHeadRun.topDef (OpenLaw.row PySem.Challenge.rw_splitplans_k20_steps_with_one_input).prog 62).name = ("law" : PySem.Str) := by kernel_rfl
      rw [← e]
      exact hmg0
    have T : Pf.Tx K mg := ⟨c, fun x hx => He.glo_ok KX G (c.fact hx), fun x hx => He.free_ok KX G (c.fact hx), fun x i hx => He.int_ok KX G (c.fact hx), fun x z hx => He.str_ok KX G (c.fact hx)⟩
    have e := hmg.symm.trans (Pf.g_law T)
    cases e
    obtain ⟨fd, F⟩ := Pf.f_law T
    have b := L2.FunD.bindsA (ps := ["_law_script"]) F fun _ _ _ _ _ _ us hl => match us, hl with | [_], _ => rfl
    exact ⟨K, fd, Bs.spLaw K, KX, fun s v => b s [v] rfl, fun H a ns hl hO hS => ⟨a, ns, rfl, Bs.Fz.only hO hS, hl, fun _ => rfl⟩, fun base _ _ => Pf.o_law T F⟩
